import Derived.Test.YtjmifgdjmaelfaaDoorMgW
import Derived.Test.YtjmifgdjmaelfaaDoorMgAt
import Derived.Test.YtjmifgdjmaelfaaDoorMgA
import Derived.Test.YtjmifgdjmaelfaaDoorMgRd
import Derived.Test.YtjmifgdjmaelfaaDoorMgPut
/-
  What msg.kindOf answers at this program, whatever the command.
-/
namespace Go.Proofs.YtjmifgdjmaelfaaDoor
open Go.RowKit

/-- So far no kind has this command. -/
def Kinding (w : World) (c : ByteArray) (i : Value) (wr : World) : Prop := ∃ k : Nat, 1 ≤ k ∧ k ≤ 12 ∧ i = .int .i64 k ∧ Below w.heap.size w wr ∧ ∀ j : Nat, 1 ≤ j → j < k → strL c ≠ strL (shp j).cmd
set_option maxRecDepth 100000 in
set_option maxHeartbeats 1000000 in
theorem kindOf_any (c : ByteArray) (w : World) :
    Calls Tryd.prog 58 #[.string c] w fun e w' => e = .returned (.int .i64 (kindOf c)) ∧ Below w.heap.size w w' := by
  have HS : Hid (Kinding w c (.int .i64 1) w) := hide ⟨1, by omega, by omega, rfl, Below.refl _ _, fun j h1 h2 => by omega⟩
  have SH := hide shapeOf_any
  go_enter Tryd.func58, Tryd.ntmps58
  go_wp2
  go_loopw [3] (fun i wr => Kinding w c i wr) (fun i _ => 12 - (intOf i).toNat)
  case atStart => exact HS.out
  case round =>
    clear HS
    obtain ⟨k, h1, h12, rfl, hB, hall⟩ := hrel
    have HB := hide hB
    have HALL := hide hall
    clear hB hall
    by_cases hlt : k ≤ 11
    · have e1 : (k : Int) ≤ 11 := by omega
      have hk : isKind (k : Int) = true := by simp [isKind]; omega
      have HK := hide hk
      clear hk
      go_wp2_with fail
      refine (SH.out _ _).mono ?_
      rintro e w1 ⟨rfl, hb1⟩
      rw [HK.out]
      have hb2 := below_on hb1 (below_new w1 (.cells (shpC (shp (k : Int))).toArray 82))
      have hc : (w1.alloc (.cells (shpC (shp (k : Int))).toArray 82)).cell? ⟨w1.heap.size, 0, none⟩ = some (.string (shp (k : Int)).cmd) := (SBox.new w1 (shp (k : Int)) 82).1
      have HB2 := hide (below_on HB.out hb2)
      clear hb1 hb2
      have hsc : shpC (shp (k : Int)) = [.string (shp (k : Int)).cmd, .int .i64 (shp (k : Int)).maxIds, .int .i64 (shp (k : Int)).codeLen, .int .u32 (shp (k : Int)).maxCode, .int .i64 (shp (k : Int)).nLen, .bool (shp (k : Int)).hasTx] := rfl
      rw [hsc] at hc HB2 ⊢
      have hbeq := str_beq (shp (k : Int)).cmd c
      have HCM : Hid (∀ j : Nat, j = k → strL c ≠ strL (shp (k : Int)).cmd → strL c ≠ strL (shp (j : Int)).cmd) := hide (by rintro j rfl h; exact h)
      have HKO : Hid (strL c = strL (shp (k : Int)).cmd → kindOf c = (k : Int)) := hide (fun h => kindOf_is HK.out h)
      clear hsc
      generalize shp (k : Int) = s at *
      go_upto_region 5 with fail
      generalize w1.alloc (.cells #[.string s.cmd, .int .i64 s.maxIds, .int .i64 s.codeLen, .int .u32 s.maxCode, .int .i64 s.nLen, .bool s.hasTx] 82) = W2 at *
      generalize w1.heap.size = g at *
      by_cases hs : strL c = strL s.cmd
      · rw [decide_eq_true hs.symm] at hbeq
        have HE := hide (HKO.out hs)
        clear HCM HKO HK HALL hs SH
        go_wp2
        go_ret
        exact ⟨by rw [HE.out]; rfl, HB2.out⟩
      · rw [decide_eq_false (fun h => hs h.symm)] at hbeq
        have R : Hid (Kinding w c (.int .i64 ((k + 1 : Nat) : Int)) W2) := hide ⟨k + 1, by omega, by omega, rfl, HB2.out, fun j hj1 hj2 => by
          by_cases hjk : j = k
          · exact HCM.out j hjk hs
          · exact HALL.out j hj1 (by omega)⟩
        clear HCM HKO HK HALL hs SH HB2
        go_wp2
        go_roundw
        case rel => first | exact R.out | ((repeat apply Exists.intro); exact ⟨R.out, rfl⟩)
        case measure => simp [intOf]; omega
    · have e1 : ¬ (k : Int) ≤ 11 := by omega
      have HE : Hid (kindOf c = 0) := hide (kindOf_no fun j hj => by
        have hj' : 1 ≤ j ∧ j ≤ 11 := by simpa [isKind] using hj
        have := HALL.out j.toNat (by omega) (by omega)
        rwa [Int.toNat_of_nonneg (by omega)] at this)
      clear HALL SH
      go_wp2
      go_ret
      exact ⟨by rw [HE.out]; rfl, HB.out⟩

end Go.Proofs.YtjmifgdjmaelfaaDoor

/-
  What msg.Get answers at this program, whatever the command and the body.
-/
namespace Go.Proofs.YtjmifgdjmaelfaaDoor
open Go.RowKit

/-- What Get answers. -/
def MgetDone (w : World) (c : ByteArray) (l : List Int) (e : Ending) (w' : World) : Prop :=
  ∃ d iv ov, e = .returned (.tuple #[.agg #[.int .i64 (mgM c l).kind, .int .u64 (mgM c l).n, .int .u32 (mgM c l).code, d, .int .u32 (mgM c l).tx.ver, iv, ov], .int .i64 (mgE c l)]) ∧ Below w.heap.size w w' ∧
    Keeps (fun k => w.heap.size ≤ k) w' fun w => MsgAt w d iv ov (mgM c l)
theorem keeps_cell {B q i : Nat} {w : World} {X : World → Prop} (h : Keeps (fun k => B ≤ k) w X) (hq : q < B) (v : Value) : Keeps (fun k => B ≤ k) (w.setCell ⟨q, i, none⟩ v) X :=
  h.step (by rw [size_setCell]; exact Nat.le_refl _) fun k hk hp => (Besides.sets (p := q) (q := q) (w := w) (Or.inl rfl) [v] i w (Besides.refl _ _ _)).block k hk (by omega) (by omega)
theorem keeps_cells {B q : Nat} {w : World} {X : World → Prop} (h : Keeps (fun k => B ≤ k) w X) (hq : q < B) (vs : List Value) : Keeps (fun k => B ≤ k) (w.setCells q 0 vs) X :=
  h.step (by rw [size_setCells]; exact Nat.le_refl _) fun k hk hp => (Besides.sets (p := q) (q := q) (w := w) (Or.inl rfl) vs 0 w (Besides.refl _ _ _)).block k hk (by omega) (by omega)
theorem box_range {w : World} {b : Nat} {x0 x1 x2 x3 x4 x5 x6 : Value} (hr : w.rangeAt b 0 [x0, x1, x2, x3, x4, x5, x6]) : MBox w b x0 x1 x2 x3 x4 x5 x6 := by
  have n0 := hr 0 _ rfl
  have n1 := hr 1 _ rfl
  have n2 := hr 2 _ rfl
  have n3 := hr 3 _ rfl
  have n4 := hr 4 _ rfl
  have n5 := hr 5 _ rfl
  have n6 := hr 6 _ rfl
  simp only [Nat.zero_add, Nat.add_zero] at n0 n1 n2 n3 n4 n5 n6
  exact ⟨n0, n1, n2, n3, n4, n5, n6⟩
theorem MBox.s0 {w : World} {q : Nat} {x0 x1 x2 x3 x4 x5 x6 : Value} (h : MBox w q x0 x1 x2 x3 x4 x5 x6) (z : Value) : MBox (w.setCell ⟨q, 0, none⟩ z) q z x1 x2 x3 x4 x5 x6 := by
  obtain ⟨n0, n1, n2, n3, n4, n5, n6⟩ := h
  exact ⟨World.cell?_setCell_same _ _ _ n0, by rw [World.cell?_setCell_other _ _ _ _ (by simp)]; exact n1, by rw [World.cell?_setCell_other _ _ _ _ (by simp)]; exact n2, by rw [World.cell?_setCell_other _ _ _ _ (by simp)]; exact n3, by rw [World.cell?_setCell_other _ _ _ _ (by simp)]; exact n4, by rw [World.cell?_setCell_other _ _ _ _ (by simp)]; exact n5, by rw [World.cell?_setCell_other _ _ _ _ (by simp)]; exact n6⟩
theorem MBox.s3 {w : World} {q : Nat} {x0 x1 x2 x3 x4 x5 x6 : Value} (h : MBox w q x0 x1 x2 x3 x4 x5 x6) (z : Value) : MBox (w.setCell ⟨q, 3, none⟩ z) q x0 x1 x2 z x4 x5 x6 := by
  obtain ⟨n0, n1, n2, n3, n4, n5, n6⟩ := h
  exact ⟨by rw [World.cell?_setCell_other _ _ _ _ (by simp)]; exact n0, by rw [World.cell?_setCell_other _ _ _ _ (by simp)]; exact n1, by rw [World.cell?_setCell_other _ _ _ _ (by simp)]; exact n2, World.cell?_setCell_same _ _ _ n3, by rw [World.cell?_setCell_other _ _ _ _ (by simp)]; exact n4, by rw [World.cell?_setCell_other _ _ _ _ (by simp)]; exact n5, by rw [World.cell?_setCell_other _ _ _ _ (by simp)]; exact n6⟩
theorem MBox.s4 {w : World} {q : Nat} {x0 x1 x2 x3 x4 x5 x6 : Value} (h : MBox w q x0 x1 x2 x3 x4 x5 x6) (z : Value) : MBox (w.setCell ⟨q, 4, none⟩ z) q x0 x1 x2 x3 z x5 x6 := by
  obtain ⟨n0, n1, n2, n3, n4, n5, n6⟩ := h
  exact ⟨by rw [World.cell?_setCell_other _ _ _ _ (by simp)]; exact n0, by rw [World.cell?_setCell_other _ _ _ _ (by simp)]; exact n1, by rw [World.cell?_setCell_other _ _ _ _ (by simp)]; exact n2, by rw [World.cell?_setCell_other _ _ _ _ (by simp)]; exact n3, World.cell?_setCell_same _ _ _ n4, by rw [World.cell?_setCell_other _ _ _ _ (by simp)]; exact n5, by rw [World.cell?_setCell_other _ _ _ _ (by simp)]; exact n6⟩
theorem MBox.s5 {w : World} {q : Nat} {x0 x1 x2 x3 x4 x5 x6 : Value} (h : MBox w q x0 x1 x2 x3 x4 x5 x6) (z : Value) : MBox (w.setCell ⟨q, 5, none⟩ z) q x0 x1 x2 x3 x4 z x6 := by
  obtain ⟨n0, n1, n2, n3, n4, n5, n6⟩ := h
  exact ⟨by rw [World.cell?_setCell_other _ _ _ _ (by simp)]; exact n0, by rw [World.cell?_setCell_other _ _ _ _ (by simp)]; exact n1, by rw [World.cell?_setCell_other _ _ _ _ (by simp)]; exact n2, by rw [World.cell?_setCell_other _ _ _ _ (by simp)]; exact n3, by rw [World.cell?_setCell_other _ _ _ _ (by simp)]; exact n4, World.cell?_setCell_same _ _ _ n5, by rw [World.cell?_setCell_other _ _ _ _ (by simp)]; exact n6⟩
theorem MBox.s6 {w : World} {q : Nat} {x0 x1 x2 x3 x4 x5 x6 : Value} (h : MBox w q x0 x1 x2 x3 x4 x5 x6) (z : Value) : MBox (w.setCell ⟨q, 6, none⟩ z) q x0 x1 x2 x3 x4 x5 z := by
  obtain ⟨n0, n1, n2, n3, n4, n5, n6⟩ := h
  exact ⟨by rw [World.cell?_setCell_other _ _ _ _ (by simp)]; exact n0, by rw [World.cell?_setCell_other _ _ _ _ (by simp)]; exact n1, by rw [World.cell?_setCell_other _ _ _ _ (by simp)]; exact n2, by rw [World.cell?_setCell_other _ _ _ _ (by simp)]; exact n3, by rw [World.cell?_setCell_other _ _ _ _ (by simp)]; exact n4, by rw [World.cell?_setCell_other _ _ _ _ (by simp)]; exact n5, World.cell?_setCell_same _ _ _ n6⟩
set_option maxRecDepth 100000 in
set_option maxHeartbeats 1000000 in
theorem mget_any (c : ByteArray) (l : List Int) (v : Value) (w : World) (hv : Bytes w v l) (hb : AllB l) (hl : l.length ≤ 5000) :
    Calls Tryd.prog 27 #[.string c, v] w (MgetDone w c l) := by
  have b1 := below_new w (.cells #[.int .i64 0, .int .u64 0, .int .u32 0, .slice none 0 0, .int .u32 0, .slice none 0 0, .slice none 0 0] 51)
  have HT0 := hide (msg_there w)
  have HB0 := hide b1
  have HV := hide hv
  have KD := hide (fun w => kindOf_any c w)
  have SH := hide shapeOf_any
  have HR : Hid (∀ (w' : World) (e : Int), mgE c l = e → e ≠ 0 → Below w.heap.size w w' → MgetDone w c l (.returned (.tuple #[.agg #[.int .i64 0, .int .u64 0, .int .u32 0, .slice none 0 0, .int .u32 0, .slice none 0 0, .slice none 0 0], .int .i64 e])) w') := hide (fun w' e h1 h2 h3 => by
    subst h1
    have := mgM_bad h2
    exact ⟨.slice none 0 0, .slice none 0 0, .slice none 0 0, by rw [this]; rfl, h3, by rw [this]; exact fun w' _ => MsgAt.none w'⟩)
  have H8 : Hid (kindOf c = 0 → mgE c l = 8) := hide (fun h => if_pos h)
  have HK : Hid (kindOf c ≠ 0 → isKind (kindOf c) = true ∧ c = (shp (kindOf c)).cmd) := hide kindOf_kind
  have HNK : Hid (isKind 0 = false) := hide (by decide)
  obtain ⟨a, cap, rfl, hc1, hc2⟩ := hv.form
  clear b1 hv
  go_enter Tryd.func27, Tryd.ntmps27
  go_upto_region 1 with fail
  have HVX := hide (HV.out.below HB0.out)
  generalize w.alloc (.cells #[.int .i64 0, .int .u64 0, .int .u32 0, .slice none 0 0, .int .u32 0, .slice none 0 0, .slice none 0 0] 51) = W at *
  generalize hg : w.heap.size = g at *
  have HG := hide hg
  clear hg HV
  have HBG : Hid (g ≤ W.heap.size) := hide (by have := HB0.out.size; have := HG.out; omega)
  go_wp2_with fail
  refine (KD.out _).mono ?_
  rintro e w1 ⟨rfl, hb1⟩
  have HB1 := hide (HB0.out.trans (hb1.mono HBG.out))
  have HT1 := hide (there_on HT0.out hb1)
  have HV1 := hide (HVX.out.below hb1)
  have HBG1 : Hid (g ≤ w1.heap.size) := hide (Nat.le_trans HBG.out hb1.size)
  clear hb1 KD HT0 HB0 HVX
  go_wp2_with fail
  refine (SH.out _ _).mono ?_
  rintro e w2 ⟨rfl, hb2⟩
  have hb3 := below_on hb2 (below_new w2 (.cells (shpC (shp (kindOf c))).toArray 82))
  have HS3 := hide (SBox.new w2 (shp (kindOf c)) 82)
  have HB3 := hide (HB1.out.trans (hb3.mono HBG1.out))
  have HT3 := hide (there_on HT1.out hb3)
  have HV3 := hide (HV1.out.below hb3)
  have HLT : Hid (g < w2.heap.size) := hide (by
    obtain ⟨u, hu⟩ := Option.isSome_iff_exists.1 ((there_on HT1.out hb2) 0 (by omega)).1
    exact World.block_lt_of_cell? _ _ hu)
  have hsc : shpC (shp (kindOf c)) = [.string (shp (kindOf c)).cmd, .int .i64 (shp (kindOf c)).maxIds, .int .i64 (shp (kindOf c)).codeLen, .int .u32 (shp (kindOf c)).maxCode, .int .i64 (shp (kindOf c)).nLen, .bool (shp (kindOf c)).hasTx] := rfl
  rw [hsc] at HB3 HT3 HV3 ⊢
  clear hb2 hb3 hsc HB1 HT1 HV1 SH
  have HZ := hide (World.rangeAt_setCells_same (w2.alloc (.cells #[.string (shp (kindOf c)).cmd, .int .i64 (shp (kindOf c)).maxIds, .int .i64 (shp (kindOf c)).codeLen, .int .u32 (shp (kindOf c)).maxCode, .int .i64 (shp (kindOf c)).nLen, .bool (shp (kindOf c)).hasTx] 82)) g 0 [.int .i64 0, .int .u64 0, .int .u32 0, .slice none 0 0, .int .u32 0, .slice none 0 0, .slice none 0 0] HT3.out)
  have H1 : Hid (∀ x ∈ ([.int .i64 0, .int .u64 0, .int .u32 0, .slice none 0 0, .int .u32 0, .slice none 0 0, .slice none 0 0] : List Value), x.oneCell' = true) := hide (by simp [Value.oneCell'])
  by_cases h0 : kindOf c = 0
  · have R := hide (HR.out _ 8 (H8.out h0) (by decide) (below_sets (Nat.le_refl g) [.int .i64 0, .int .u64 0, .int .u32 0, .slice none 0 0, .int .u32 0, .slice none 0 0, .slice none 0 0] 0 _ HB3.out))
    have hnk := HNK.out
    rw [← h0] at hnk
    rw [hnk]
    clear H8 HK HR hnk h0
    generalize kindOf c = k at *
    go_upto_region 3 with fail
    generalize w2.alloc (.cells #[.string (shp k).cmd, .int .i64 (shp k).maxIds, .int .i64 (shp k).codeLen, .int .u32 (shp k).maxCode, .int .i64 (shp k).nLen, .bool (shp k).hasTx] 82) = W3 at *
    go_wp2_with (refine wp_store_row rfl 51 (.tmp 4) (.tmp 20) rfl g 0 [.int .i64 0, .int .u64 0, .int .u32 0, .slice none 0 0, .int .u32 0, .slice none 0 0, .slice none 0 0] rfl rfl HT3.out info_msg H1.out ?_)
    exact ret_row_tmp 4 5 51 rfl g 0 rfl _ HZ.out _ Tryd.underlying51 rfl info_msg _ rfl rfl R.out
  · obtain ⟨hk1, hk2⟩ := HK.out h0
    rw [hk1]
    have HOK := hide (shp_ok (kindOf c))
    have WH := hide (fun w (h : Bytes w (.slice a l.length cap) l) => twhole_any l _ w h hb (by omega))
    have CN := hide (fun w => counted_any (shp (kindOf c)) w)
    have LS := hide (fun w (h : Bytes w (.slice a l.length cap) l) => list_any l _ w h hb hl (shp (kindOf c)).maxIds (by have := HOK.out.2.2.1; omega))
    have FX := hide (fun w (h : Bytes w (.slice a l.length cap) l) => fixed_any (shp (kindOf c)) HOK.out l _ w h hb hl)
    have M1 : Hid ((shp (kindOf c)).hasTx = true → mgE c l = whE l ∧ (whE l = 0 → mgM c l = ⟨kindOf c, 0, 0, [], whT l⟩)) := hide (fun h => by
      obtain ⟨q1, q2⟩ := mg_tx hk1 h l
      rw [← hk2] at q1 q2
      exact ⟨q1, fun h => by rw [q2, if_pos h]⟩)
    have M2 : Hid ((shp (kindOf c)).hasTx = false → 1 < (shp (kindOf c)).maxIds → mgE c l = lsE l (shp (kindOf c)).maxIds ∧ (lsE l (shp (kindOf c)).maxIds = 0 → mgM c l = ⟨kindOf c, 0, 0, lsI l (shp (kindOf c)).maxIds, noTr⟩)) := hide (fun h h' => by
      have e1 : mgE c l = lsE l (shp (kindOf c)).maxIds := by unfold mgE; rw [if_neg h0, if_neg (by rw [h]; decide), if_pos h']
      refine ⟨e1, fun hz => ?_⟩
      unfold mgM
      rw [e1, if_neg (by rw [hz]; decide), if_neg (by rw [h]; decide), if_pos h'])
    have M3 : Hid ((shp (kindOf c)).hasTx = false → ¬ 1 < (shp (kindOf c)).maxIds → mgE c l = fxE (shp (kindOf c)) l ∧ (fxE (shp (kindOf c)) l = 0 → mgM c l = ⟨kindOf c, (fxM (shp (kindOf c)) l).n, (fxM (shp (kindOf c)) l).code, (fxM (shp (kindOf c)) l).ids, noTr⟩)) := hide (fun h h' => by
      have e1 : mgE c l = fxE (shp (kindOf c)) l := by unfold mgE; rw [if_neg h0, if_neg (by rw [h]; decide), if_neg h']
      refine ⟨e1, fun hz => ?_⟩
      unfold mgM
      rw [e1, if_neg (by rw [hz]; decide), if_neg (by rw [h]; decide), if_neg h'])
    clear H8 HK HNK h0 hk1 hk2 hb hl
    generalize shp (kindOf c) = s at *
    generalize kindOf c = k at *
    go_upto_region 3 with fail
    have HSZ : Hid ((w2.alloc (.cells #[.string s.cmd, .int .i64 s.maxIds, .int .i64 s.codeLen, .int .u32 s.maxCode, .int .i64 s.nLen, .bool s.hasTx] 82)).heap.size = w2.heap.size + 1) := hide (alloc_size _ _)
    generalize w2.alloc (.cells #[.string s.cmd, .int .i64 s.maxIds, .int .i64 s.codeLen, .int .u32 s.maxCode, .int .i64 s.nLen, .bool s.hasTx] 82) = W3 at *
    generalize w2.heap.size = g1 at *
    clear HZ
    have hb4 := below_new W3 (.cells #[.int .i64 0, .int .u64 0, .int .u32 0, .slice none 0 0, .int .u32 0, .slice none 0 0, .slice none 0 0] 51)
    have hq4 := MBox.new W3 (.int .i64 0) (.int .u64 0) (.int .u32 0) (.slice none 0 0) (.int .u32 0) (.slice none 0 0) (.slice none 0 0) 51
    have ht4 := msg_there W3
    have hs4 : (W3.alloc (.cells #[.int .i64 0, .int .u64 0, .int .u32 0, .slice none 0 0, .int .u32 0, .slice none 0 0, .slice none 0 0] 51)).heap.size = g1 + 2 := by rw [alloc_size, HSZ.out]
    rw [HSZ.out] at hq4 ht4
    have HS5 := hide (HS3.out.on hb4)
    have HQ5 := hide hq4
    have HQT5 := hide ht4
    have HT5 := hide (there_on HT3.out hb4)
    have HV5 := hide (HV3.out.below hb4)
    have HB5 := hide (HB3.out.trans (hb4.mono (by have := HB3.out.size; have := HG.out; omega)))
    have HZ5 := hide hs4
    obtain ⟨q0, q1, q2, q3, q4, q5⟩ := HS3.out
    clear hb4 hq4 ht4 hs4 HS3 HT3 HV3 HB3
    go_upto_region 6 with fail
    have hszz := HSZ.out
    rw [hszz]
    generalize W3.alloc (.cells #[.int .i64 0, .int .u64 0, .int .u32 0, .slice none 0 0, .int .u32 0, .slice none 0 0, .slice none 0 0] 51) = W5 at *
    clear hszz q0 q1 q2 q3 q4 q5 HSZ
    obtain ⟨q0, q1, q2, q3, q4, q5⟩ := HS5.out
    have HBG5 : Hid (g ≤ W5.heap.size) := hide (by have := HB5.out.size; have := HG.out; omega)
    cases htx : s.hasTx with
    | true =>
      obtain ⟨m1, m2⟩ := M1.out htx
      rw [htx] at q5
      have MA := hide m1
      have MB := hide m2
      clear M1 M2 M3 CN LS FX m1 m2 htx
      go_wp2_with fail
      refine (WH.out _ HV5.out).mono ?_
      rintro e w6 ⟨iv, ov, rfl, hb6, hk6⟩
      obtain ⟨ia, ic, rfl, -, -⟩ := hk6.self.1.form
      obtain ⟨oa, oc, rfl, -, -⟩ := hk6.self.2.form
      have HB6 := hide (HB5.out.trans (hb6.mono HBG5.out))
      have HT6 := hide (there_on HT5.out hb6)
      have HK6 : Hid (Keeps (fun k => g1 + 2 ≤ k) w6 fun w => TxAt w (.slice ia (whT l).ins.length ic) (.slice oa (whT l).outs.length oc) (whT l)) := hide (hk6.weak fun k _ h => by have := HZ5.out; omega)
      have ht7 := there_on HQT5.out hb6
      obtain ⟨-, -, -, -, -, -, -, -, f0, f1, f2, f3, f4, f5, f6⟩ := there7 ht7
      have HQ6 := hide (HQ5.out.on hb6)
      obtain ⟨c0, c1, c2, c3, c4, c5, c6⟩ := HQ6.out
      clear hb6 hk6 ht7 WH HS5 HQ5 HQT5 HT5 HV5 HB5 HZ5 q0 q1 q2 q3 q4 q5
      generalize whT l = T at *
      have HTC : Hid (∀ p1 v1 p2 v2 p3 v3, (((w6.setCell p1 v1).setCell p2 v2).setCell p3 v3).there g 0 7) := hide (fun _ _ _ _ _ _ => there_setC (there_setC (there_setC HT6.out _ _) _ _) _ _)
      by_cases he : whE l = 0
      · have hm := MB.out he
        have h0 : mgE c l = 0 := by rw [MA.out, he]
        have hlt := HLT.out
        have HQ7 := hide ((((HQ6.out.s4 (.int .u32 T.ver)).s5 (.slice ia T.ins.length ic)).s6 (.slice oa T.outs.length oc)).s0 (.int .i64 k))
        have HT7 := hide (there_setC (HTC.out ⟨g1 + 1, 4, none⟩ (.int .u32 T.ver) ⟨g1 + 1, 5, none⟩ (.slice ia T.ins.length ic) ⟨g1 + 1, 6, none⟩ (.slice oa T.outs.length oc)) ⟨g1 + 1, 0, none⟩ (.int .i64 k))
        have HB7 := hide (below_set (below_set (below_set (below_set HB6.out (show g ≤ (⟨g1 + 1, 4, none⟩ : Addr).block by show g ≤ g1 + 1; omega) (.int .u32 T.ver)) (show g ≤ (⟨g1 + 1, 5, none⟩ : Addr).block by show g ≤ g1 + 1; omega) (.slice ia T.ins.length ic)) (show g ≤ (⟨g1 + 1, 6, none⟩ : Addr).block by show g ≤ g1 + 1; omega) (.slice oa T.outs.length oc)) (show g ≤ (⟨g1 + 1, 0, none⟩ : Addr).block by show g ≤ g1 + 1; omega) (.int .i64 k))
        have HK7 : Hid (Keeps (fun k => g1 + 2 ≤ k) ((((w6.setCell ⟨g1 + 1, 4, none⟩ (.int .u32 T.ver)).setCell ⟨g1 + 1, 5, none⟩ (.slice ia T.ins.length ic)).setCell ⟨g1 + 1, 6, none⟩ (.slice oa T.outs.length oc)).setCell ⟨g1 + 1, 0, none⟩ (.int .i64 k)) fun w => MsgAt w (.slice none 0 0) (.slice ia T.ins.length ic) (.slice oa T.outs.length oc) ⟨k, 0, 0, [], T⟩) := hide ((keeps_cell (keeps_cell (keeps_cell (keeps_cell HK6.out (by omega) _) (by omega) _) (by omega) _) (by omega) _).map fun w h => ⟨IdsAt.nil w, h⟩)
        rw [he]
        clear MA MB he HR HB6 HK6 HTC hlt HQ6
        go_upto_region 15 with fail
        generalize (((w6.setCell ⟨g1 + 1, 4, none⟩ (.int .u32 T.ver)).setCell ⟨g1 + 1, 5, none⟩ (.slice ia T.ins.length ic)).setCell ⟨g1 + 1, 6, none⟩ (.slice oa T.outs.length oc)).setCell ⟨g1 + 1, 0, none⟩ (.int .i64 k) = W7 at *
        clear c0 c1 c2 c3 c4 c5 c6 f0 f1 f2 f3 f4 f5 f6
        obtain ⟨n0, n1, n2, n3, n4, n5, n6⟩ := HQ7.out
        have HON : Hid (∀ x' ∈ ([.int .i64 k, .int .u64 0, .int .u32 0, .slice none 0 0, .int .u32 T.ver, .slice ia T.ins.length ic, .slice oa T.outs.length oc] : List Value), x'.oneCell' = true) := hide (by simp [Value.oneCell'])
        have HRG := hide (World.rangeAt_setCells_same W7 g 0 [.int .i64 k, .int .u64 0, .int .u32 0, .slice none 0 0, .int .u32 T.ver, .slice ia T.ins.length ic, .slice oa T.outs.length oc] HT7.out)
        have R : Hid (MgetDone w c l (.returned (.tuple #[.agg #[.int .i64 k, .int .u64 0, .int .u32 0, .slice none 0 0, .int .u32 T.ver, .slice ia T.ins.length ic, .slice oa T.outs.length oc], .int .i64 0])) (W7.setCells g 0 [.int .i64 k, .int .u64 0, .int .u32 0, .slice none 0 0, .int .u32 T.ver, .slice ia T.ins.length ic, .slice oa T.outs.length oc])) := hide (by
          have hlt := HLT.out
          refine ⟨.slice none 0 0, .slice ia T.ins.length ic, .slice oa T.outs.length oc, by rw [hm, h0], ?_, ?_⟩
          · rw [HG.out]
            exact below_sets (Nat.le_refl g) _ 0 _ HB7.out
          · rw [hm, HG.out]
            exact (keeps_cells HK7.out (by omega) _).weak fun k _ h => by omega)
        clear hm h0 HB7 HK7 HQ7
        go_wp2_with (refine wp_store_row rfl 51 (.tmp 4) (.tmp 53) rfl g 0 [.int .i64 k, .int .u64 0, .int .u32 0, .slice none 0 0, .int .u32 T.ver, .slice ia T.ins.length ic, .slice oa T.outs.length oc] rfl rfl HT7.out info_msg HON.out ?_)
        exact ret_row_tmp 4 5 51 rfl g 0 rfl [.int .i64 k, .int .u64 0, .int .u32 0, .slice none 0 0, .int .u32 T.ver, .slice ia T.ins.length ic, .slice oa T.outs.length oc] HRG.out _ Tryd.underlying51 rfl info_msg _ rfl rfl R.out
      · have hlt := HLT.out
        have HT7 := hide (HTC.out ⟨g1 + 1, 4, none⟩ (.int .u32 T.ver) ⟨g1 + 1, 5, none⟩ (.slice ia T.ins.length ic) ⟨g1 + 1, 6, none⟩ (.slice oa T.outs.length oc))
        have HB7 := hide (below_set (below_set (below_set HB6.out (show g ≤ (⟨g1 + 1, 4, none⟩ : Addr).block by show g ≤ g1 + 1; omega) (.int .u32 T.ver)) (show g ≤ (⟨g1 + 1, 5, none⟩ : Addr).block by show g ≤ g1 + 1; omega) (.slice ia T.ins.length ic)) (show g ≤ (⟨g1 + 1, 6, none⟩ : Addr).block by show g ≤ g1 + 1; omega) (.slice oa T.outs.length oc))
        have HRR := hide (fun W' (h : Below g w W') => HR.out W' (whE l) MA.out he h)
        clear MA MB HR HB6 HK6 HTC hlt HQ6
        generalize whE l = z at *
        go_upto_region 13 with fail
        generalize ((w6.setCell ⟨g1 + 1, 4, none⟩ (.int .u32 T.ver)).setCell ⟨g1 + 1, 5, none⟩ (.slice ia T.ins.length ic)).setCell ⟨g1 + 1, 6, none⟩ (.slice oa T.outs.length oc) = W7 at *
        clear c0 c1 c2 c3 c4 c5 c6 f0 f1 f2 f3 f4 f5 f6
        have HRG := hide (World.rangeAt_setCells_same W7 g 0 [.int .i64 0, .int .u64 0, .int .u32 0, .slice none 0 0, .int .u32 0, .slice none 0 0, .slice none 0 0] HT7.out)
        have R := hide (HRR.out _ (below_sets (Nat.le_refl g) [.int .i64 0, .int .u64 0, .int .u32 0, .slice none 0 0, .int .u32 0, .slice none 0 0, .slice none 0 0] 0 W7 HB7.out))
        clear HRR HB7
        go_wp2_with (refine wp_store_row rfl 51 (.tmp 4) (.tmp 49) rfl g 0 [.int .i64 0, .int .u64 0, .int .u32 0, .slice none 0 0, .int .u32 0, .slice none 0 0, .slice none 0 0] rfl rfl HT7.out info_msg H1.out ?_)
        exact ret_row_tmp 4 5 51 rfl g 0 rfl [.int .i64 0, .int .u64 0, .int .u32 0, .slice none 0 0, .int .u32 0, .slice none 0 0, .slice none 0 0] HRG.out _ Tryd.underlying51 rfl info_msg _ rfl rfl R.out
    | false =>
      rw [htx] at q5 CN
      have HTX := hide htx
      clear M1 WH htx
      go_wp2_with fail
      refine (CN.out _).mono ?_
      rintro e w6 ⟨rfl, hb6⟩
      have HB6 := hide (HB5.out.trans (hb6.mono HBG5.out))
      have HT6 := hide (there_on HT5.out hb6)
      have HQT6 := hide (there_on HQT5.out hb6)
      have HQ6 := hide (HQ5.out.on hb6)
      have HV6 := hide (HV5.out.below hb6)
      have HZ6 : Hid (g1 + 2 ≤ w6.heap.size) := hide (by have := HZ5.out; have := hb6.size; omega)
      have HBG6 : Hid (g ≤ w6.heap.size) := hide (Nat.le_trans HBG5.out hb6.size)
      clear q0 q1 q2 q3 q4 q5
      obtain ⟨q0, q1, q2, q3, q4, q5⟩ := HS5.out.on hb6
      clear hb6 HB5 HT5 HQT5 HQ5 HV5 HZ5 HBG5 HS5 CN
      by_cases hcn : 1 < s.maxIds
      · obtain ⟨m1, m2⟩ := M2.out HTX.out hcn
        rw [decide_eq_true hcn]
        have MA := hide m1
        have MB := hide m2
        clear M2 M3 FX m1 m2 hcn
        go_wp2_with fail
        refine (LS.out _ HV6.out).mono ?_
        rintro e w7 ⟨v7, rfl, hb7, hrow7⟩
        have hlt7 := hrow7.lt
        have hids : IdsAt w7 v7 (lsI l s.maxIds) := hrow7.row
        have HK6 : Hid (Keeps (fun k => g1 + 2 ≤ k) w7 fun w => IdsAt w v7 (lsI l s.maxIds)) := hide (hids.keeps fun k hk => by have := (hlt7 k hk).1; have := HZ6.out; omega)
        obtain ⟨va, nn, vc, rfl⟩ := hrow7.slice
        have HB8 := hide (HB6.out.trans (hb7.mono HBG6.out))
        have HT8 := hide (there_on HT6.out hb7)
        have ht7 := there_on HQT6.out hb7
        obtain ⟨-, -, -, -, -, -, -, -, f0, f1, f2, f3, f4, f5, f6⟩ := there7 ht7
        have HQ8 := hide (HQ6.out.on hb7)
        obtain ⟨c0, c1, c2, c3, c4, c5, c6⟩ := HQ8.out
        clear hb7 hrow7 hlt7 hids ht7 LS HQ6 HQT6 HT6 HV6 HB6 HZ6 HBG6 q0 q1 q2 q3 q4 q5
        by_cases he : lsE l s.maxIds = 0
        · have hm := MB.out he
          have h0 : mgE c l = 0 := by rw [MA.out, he]
          have hlt := HLT.out
          have HQ7 := hide ((HQ8.out.s3 (.slice va nn vc)).s0 (.int .i64 k))
          have HT7 := hide (there_setC (there_setC HT8.out ⟨g1 + 1, 3, none⟩ (.slice va nn vc)) ⟨g1 + 1, 0, none⟩ (.int .i64 k))
          have HB7 := hide (below_set (below_set HB8.out (show g ≤ (⟨g1 + 1, 3, none⟩ : Addr).block by show g ≤ g1 + 1; omega) (.slice va nn vc)) (show g ≤ (⟨g1 + 1, 0, none⟩ : Addr).block by show g ≤ g1 + 1; omega) (.int .i64 k))
          have HK7 : Hid (Keeps (fun k => g1 + 2 ≤ k) ((w7.setCell ⟨g1 + 1, 3, none⟩ (.slice va nn vc)).setCell ⟨g1 + 1, 0, none⟩ (.int .i64 k)) fun w => MsgAt w (.slice va nn vc) (.slice none 0 0) (.slice none 0 0) ⟨k, 0, 0, lsI l s.maxIds, noTr⟩) := hide ((keeps_cell (keeps_cell HK6.out (by omega) _) (by omega) _).map fun w h => ⟨h, TxAt.none w⟩)
          rw [he]
          clear MA MB he HR HB8 HK6 hlt HQ8
          go_upto_region 15 with fail
          generalize (w7.setCell ⟨g1 + 1, 3, none⟩ (.slice va nn vc)).setCell ⟨g1 + 1, 0, none⟩ (.int .i64 k) = W7 at *
          clear c0 c1 c2 c3 c4 c5 c6 f0 f1 f2 f3 f4 f5 f6
          obtain ⟨n0, n1, n2, n3, n4, n5, n6⟩ := HQ7.out
          have HON : Hid (∀ x' ∈ ([.int .i64 k, .int .u64 0, .int .u32 0, (.slice va nn vc), .int .u32 0, .slice none 0 0, .slice none 0 0] : List Value), x'.oneCell' = true) := hide (by simp [Value.oneCell'])
          have HRG := hide (World.rangeAt_setCells_same W7 g 0 [.int .i64 k, .int .u64 0, .int .u32 0, (.slice va nn vc), .int .u32 0, .slice none 0 0, .slice none 0 0] HT7.out)
          have R : Hid (MgetDone w c l (.returned (.tuple #[.agg #[.int .i64 k, .int .u64 0, .int .u32 0, (.slice va nn vc), .int .u32 0, .slice none 0 0, .slice none 0 0], .int .i64 0])) (W7.setCells g 0 [.int .i64 k, .int .u64 0, .int .u32 0, (.slice va nn vc), .int .u32 0, .slice none 0 0, .slice none 0 0])) := hide (by
            have hlt := HLT.out
            refine ⟨(.slice va nn vc), .slice none 0 0, .slice none 0 0, by rw [hm, h0]; rfl, ?_, ?_⟩
            · rw [HG.out]
              exact below_sets (Nat.le_refl g) _ 0 _ HB7.out
            · rw [hm, HG.out]
              exact (keeps_cells HK7.out (by omega) _).weak fun k _ h => by omega)
          clear hm h0 HB7 HK7 HQ7
          go_wp2_with (refine wp_store_row rfl 51 (.tmp 4) (.tmp 53) rfl g 0 [.int .i64 k, .int .u64 0, .int .u32 0, (.slice va nn vc), .int .u32 0, .slice none 0 0, .slice none 0 0] rfl rfl HT7.out info_msg HON.out ?_)
          exact ret_row_tmp 4 5 51 rfl g 0 rfl [.int .i64 k, .int .u64 0, .int .u32 0, (.slice va nn vc), .int .u32 0, .slice none 0 0, .slice none 0 0] HRG.out _ Tryd.underlying51 rfl info_msg _ rfl rfl R.out
        · have hlt := HLT.out
          have HT7 := hide (there_setC HT8.out ⟨g1 + 1, 3, none⟩ (.slice va nn vc))
          have HB7 := hide (below_set HB8.out (show g ≤ (⟨g1 + 1, 3, none⟩ : Addr).block by show g ≤ g1 + 1; omega) (.slice va nn vc))
          have HRR := hide (fun W' (h : Below g w W') => HR.out W' (lsE l s.maxIds) MA.out he h)
          clear MA MB HR HB8 HK6 hlt HQ8
          generalize lsE l s.maxIds = z at *
          go_upto_region 13 with fail
          generalize w7.setCell ⟨g1 + 1, 3, none⟩ (.slice va nn vc) = W7 at *
          clear c0 c1 c2 c3 c4 c5 c6 f0 f1 f2 f3 f4 f5 f6
          have HRG := hide (World.rangeAt_setCells_same W7 g 0 [.int .i64 0, .int .u64 0, .int .u32 0, .slice none 0 0, .int .u32 0, .slice none 0 0, .slice none 0 0] HT7.out)
          have R := hide (HRR.out _ (below_sets (Nat.le_refl g) [.int .i64 0, .int .u64 0, .int .u32 0, .slice none 0 0, .int .u32 0, .slice none 0 0, .slice none 0 0] 0 W7 HB7.out))
          clear HRR HB7
          go_wp2_with (refine wp_store_row rfl 51 (.tmp 4) (.tmp 49) rfl g 0 [.int .i64 0, .int .u64 0, .int .u32 0, .slice none 0 0, .int .u32 0, .slice none 0 0, .slice none 0 0] rfl rfl HT7.out info_msg H1.out ?_)
          exact ret_row_tmp 4 5 51 rfl g 0 rfl [.int .i64 0, .int .u64 0, .int .u32 0, .slice none 0 0, .int .u32 0, .slice none 0 0, .slice none 0 0] HRG.out _ Tryd.underlying51 rfl info_msg _ rfl rfl R.out
      · obtain ⟨m1, m2⟩ := M3.out HTX.out hcn
        rw [decide_eq_false hcn]
        have MA := hide m1
        have MB := hide m2
        clear M2 M3 LS m1 m2 hcn
        go_wp2_with fail
        refine (FX.out _ HV6.out).mono ?_
        rintro e w7 ⟨v7, rfl, hb7, hk7⟩
        have HK6 : Hid (Keeps (fun k => g1 + 2 ≤ k) w7 fun w => IdsAt w v7 (fxM s l).ids) := hide (hk7.weak fun k _ h => by have := HZ6.out; omega)
        obtain ⟨va, nn, vc, rfl⟩ : ∃ va nn vc, v7 = .slice va nn vc := by
          obtain ⟨a, c, e, -⟩ := hk7.self.form
          exact ⟨a, _, c, e⟩
        have HB8 := hide (HB6.out.trans (hb7.mono HBG6.out))
        have HT8 := hide (there_on HT6.out hb7)
        have HQT8 := hide (there_on HQT6.out hb7)
        have HQ8 := hide (HQ6.out.on hb7)
        generalize hyy : (fxM s l).n = y at *
        generalize hxx : (fxM s l).code = x at *
        generalize hii : (fxM s l).ids = I at *
        clear hb7 hk7 FX HQ6 HQT6 HT6 HV6 HB6 HZ6 HBG6 q0 q1 q2 q3 q4 q5 hyy hxx hii
        have HQL : Hid (∀ x' ∈ ([.int .i64 0, .int .u64 y, .int .u32 x, .slice va nn vc, .int .u32 0, .slice none 0 0, .slice none 0 0] : List Value), x'.oneCell' = true) := hide (by simp [Value.oneCell'])
        have hlt := HLT.out
        have HB9 := hide (below_sets (show g ≤ g1 + 1 by omega) [.int .i64 0, .int .u64 y, .int .u32 x, .slice va nn vc, .int .u32 0, .slice none 0 0, .slice none 0 0] 0 w7 HB8.out)
        have HT9 := hide (there_sets HT8.out (g1 + 1) 0 [.int .i64 0, .int .u64 y, .int .u32 x, .slice va nn vc, .int .u32 0, .slice none 0 0, .slice none 0 0])
        have HQT9 := there_sets HQT8.out (g1 + 1) 0 [.int .i64 0, .int .u64 y, .int .u32 x, .slice va nn vc, .int .u32 0, .slice none 0 0, .slice none 0 0]
        have HQ9 := hide (box_range (World.rangeAt_setCells_same w7 (g1 + 1) 0 [.int .i64 0, .int .u64 y, .int .u32 x, .slice va nn vc, .int .u32 0, .slice none 0 0, .slice none 0 0] HQT8.out))
        have HK9 := hide (keeps_cells HK6.out (show g1 + 1 < g1 + 2 by omega) [.int .i64 0, .int .u64 y, .int .u32 x, .slice va nn vc, .int .u32 0, .slice none 0 0, .slice none 0 0])
        have HSET := hide (set7 w7 (g1 + 1))
        obtain ⟨-, -, -, -, -, -, -, -, f0, f1, f2, f3, f4, f5, f6⟩ := there7 HQT8.out
        obtain ⟨c0, c1, c2, c3, c4, c5, c6⟩ := HQ8.out
        have HFR := hide (there7 HQT9)
        clear HQT9 HB8 HT8 HK6 hlt HQ8 HQT8 HQL
        go_upto_region 12 with fail
        rw [HSET.out]
        clear c0 c1 c2 c3 c4 c5 c6 f0 f1 f2 f3 f4 f5 f6 HSET
        generalize w7.setCells (g1 + 1) 0 [.int .i64 0, .int .u64 y, .int .u32 x, .slice va nn vc, .int .u32 0, .slice none 0 0, .slice none 0 0] = W8 at *
        obtain ⟨-, -, -, -, -, -, -, -, f0, f1, f2, f3, f4, f5, f6⟩ := HFR.out
        obtain ⟨c0, c1, c2, c3, c4, c5, c6⟩ := HQ9.out
        clear HFR
        by_cases he : fxE s l = 0
        · have hm := MB.out he
          have h0 : mgE c l = 0 := by rw [MA.out, he]
          have hlt := HLT.out
          have HQ7 := hide (HQ9.out.s0 (.int .i64 k))
          have HT7 := hide (there_setC HT9.out ⟨g1 + 1, 0, none⟩ (.int .i64 k))
          have HB7 := hide (below_set HB9.out (show g ≤ (⟨g1 + 1, 0, none⟩ : Addr).block by show g ≤ g1 + 1; omega) (.int .i64 k))
          have HK7 : Hid (Keeps (fun k => g1 + 2 ≤ k) (W8.setCell ⟨g1 + 1, 0, none⟩ (.int .i64 k)) fun w => MsgAt w (.slice va nn vc) (.slice none 0 0) (.slice none 0 0) ⟨k, y, x, I, noTr⟩) := hide ((keeps_cell HK9.out (by omega) _).map fun w h => ⟨h, TxAt.none w⟩)
          rw [he]
          clear MA MB he HR HB9 HK9 hlt HQ9
          go_upto_region 15 with fail
          generalize W8.setCell ⟨g1 + 1, 0, none⟩ (.int .i64 k) = W7 at *
          clear c0 c1 c2 c3 c4 c5 c6 f0 f1 f2 f3 f4 f5 f6
          obtain ⟨n0, n1, n2, n3, n4, n5, n6⟩ := HQ7.out
          have HON : Hid (∀ x' ∈ ([.int .i64 k, .int .u64 y, .int .u32 x, (.slice va nn vc), .int .u32 0, .slice none 0 0, .slice none 0 0] : List Value), x'.oneCell' = true) := hide (by simp [Value.oneCell'])
          have HRG := hide (World.rangeAt_setCells_same W7 g 0 [.int .i64 k, .int .u64 y, .int .u32 x, (.slice va nn vc), .int .u32 0, .slice none 0 0, .slice none 0 0] HT7.out)
          have R : Hid (MgetDone w c l (.returned (.tuple #[.agg #[.int .i64 k, .int .u64 y, .int .u32 x, (.slice va nn vc), .int .u32 0, .slice none 0 0, .slice none 0 0], .int .i64 0])) (W7.setCells g 0 [.int .i64 k, .int .u64 y, .int .u32 x, (.slice va nn vc), .int .u32 0, .slice none 0 0, .slice none 0 0])) := hide (by
            have hlt := HLT.out
            refine ⟨(.slice va nn vc), .slice none 0 0, .slice none 0 0, by rw [hm, h0]; rfl, ?_, ?_⟩
            · rw [HG.out]
              exact below_sets (Nat.le_refl g) _ 0 _ HB7.out
            · rw [hm, HG.out]
              exact (keeps_cells HK7.out (by omega) _).weak fun k _ h => by omega)
          clear hm h0 HB7 HK7 HQ7
          go_wp2_with (refine wp_store_row rfl 51 (.tmp 4) (.tmp 53) rfl g 0 [.int .i64 k, .int .u64 y, .int .u32 x, (.slice va nn vc), .int .u32 0, .slice none 0 0, .slice none 0 0] rfl rfl HT7.out info_msg HON.out ?_)
          exact ret_row_tmp 4 5 51 rfl g 0 rfl [.int .i64 k, .int .u64 y, .int .u32 x, (.slice va nn vc), .int .u32 0, .slice none 0 0, .slice none 0 0] HRG.out _ Tryd.underlying51 rfl info_msg _ rfl rfl R.out
        · have hlt := HLT.out
          have HT7 := hide (HT9.out)
          have HB7 := hide (HB9.out)
          have HRR := hide (fun W' (h : Below g w W') => HR.out W' (fxE s l) MA.out he h)
          clear MA MB HR HB9 HK9 hlt HQ9
          generalize fxE s l = z at *
          go_upto_region 13 with fail
          obtain ⟨W7, hW7⟩ : ∃ W7, W7 = W8 := ⟨_, rfl⟩
          subst hW7
          clear c0 c1 c2 c3 c4 c5 c6 f0 f1 f2 f3 f4 f5 f6
          have HRG := hide (World.rangeAt_setCells_same W7 g 0 [.int .i64 0, .int .u64 0, .int .u32 0, .slice none 0 0, .int .u32 0, .slice none 0 0, .slice none 0 0] HT7.out)
          have R := hide (HRR.out _ (below_sets (Nat.le_refl g) [.int .i64 0, .int .u64 0, .int .u32 0, .slice none 0 0, .int .u32 0, .slice none 0 0, .slice none 0 0] 0 W7 HB7.out))
          clear HRR HB7
          go_wp2_with (refine wp_store_row rfl 51 (.tmp 4) (.tmp 49) rfl g 0 [.int .i64 0, .int .u64 0, .int .u32 0, .slice none 0 0, .int .u32 0, .slice none 0 0, .slice none 0 0] rfl rfl HT7.out info_msg H1.out ?_)
          exact ret_row_tmp 4 5 51 rfl g 0 rfl [.int .i64 0, .int .u64 0, .int .u32 0, .slice none 0 0, .int .u32 0, .slice none 0 0, .slice none 0 0] HRG.out _ Tryd.underlying51 rfl info_msg _ rfl rfl R.out

end Go.Proofs.YtjmifgdjmaelfaaDoor

/-
  Get and Put of messages, as the laws meet them.
-/
namespace Go.Proofs.YtjmifgdjmaelfaaDoor
open Go.RowKit

/-- Get, where there is an error. -/
theorem mget_bad (c : ByteArray) (l : List Int) (v : Value) (w : World) (hv : Bytes w v l) (hb : AllB l) (hl : l.length ≤ 5000) (E : Int) (h : mgE c l = E) (hE : E ≠ 0) :
    Calls Tryd.prog 27 #[.string c, v] w fun e w' => ∃ a c ia ic oa oc, e = .returned (.tuple #[.agg #[.int .i64 0, .int .u64 0, .int .u32 0, .slice a 0 c, .int .u32 0, .slice ia 0 ic, .slice oa 0 oc], .int .i64 E]) ∧ Below w.heap.size w w' := by
  subst h
  have := mget_any c l v w hv hb hl
  unfold MgetDone at this
  rw [mgM_bad hE] at this
  refine this.mono ?_
  rintro e w' ⟨d, iv, ov, rfl, h1, h2⟩
  obtain ⟨a, c, ia, ic, oa, oc, rfl, rfl, rfl⟩ := h2.self.none_form
  exact ⟨a, c, ia, ic, oa, oc, rfl, h1⟩
/-- Get, where there is none. -/
theorem mget_good (c : ByteArray) (l : List Int) (v : Value) (w : World) (hv : Bytes w v l) (hb : AllB l) (hl : l.length ≤ 5000) (m : Mg) (h : mgE c l = 0) (hm : mgM c l = m) :
    Calls Tryd.prog 27 #[.string c, v] w fun e w' => ∃ a sc ia ic oa oc, e = .returned (.tuple #[.agg #[.int .i64 m.kind, .int .u64 m.n, .int .u32 m.code, .slice a m.ids.length sc, .int .u32 m.tx.ver, .slice ia m.tx.ins.length ic, .slice oa m.tx.outs.length oc], .int .i64 0]) ∧ Below w.heap.size w w' ∧
      MsgAt w' (.slice a m.ids.length sc) (.slice ia m.tx.ins.length ic) (.slice oa m.tx.outs.length oc) m := by
  subst hm
  have := mget_any c l v w hv hb hl
  unfold MgetDone at this
  rw [h] at this
  refine this.mono ?_
  rintro e w' ⟨d, iv, ov, rfl, h1, h2⟩
  have hs := h2.self
  obtain ⟨a, c, ia, ic, oa, oc, rfl, rfl, rfl⟩ := hs.form
  exact ⟨a, c, ia, ic, oa, oc, rfl, h1, hs⟩
/-- Put, with its parts as letters. -/
theorem mput_is (m : Mg) (d iv ov : Value) (w : World) (h : MsgAt w d iv ov m) (hok : MgOk m) (C : ByteArray) (B : List Int) (E : Int) (h1 : mpC m = C) (h2 : mpB m = B) (h3 : mpE m = E) :
    Calls Tryd.prog 21 #[.agg #[.int .i64 m.kind, .int .u64 m.n, .int .u32 m.code, d, .int .u32 m.tx.ver, iv, ov]] w fun e w' => ∃ a c, e = .returned (.tuple #[.string C, .slice a B.length c, .int .i64 E]) ∧ Own w' w.heap.size (.slice a B.length c) B ∧ Below w.heap.size w w' := by
  subst h1 h2 h3
  refine (mput_any m d iv ov w h hok).mono ?_
  rintro e w' ⟨v, rfl, h1, h2⟩
  obtain ⟨a, c, rfl, -, -⟩ := h1.bytes.form
  exact ⟨a, c, rfl, h1, h2⟩

end Go.Proofs.YtjmifgdjmaelfaaDoor
