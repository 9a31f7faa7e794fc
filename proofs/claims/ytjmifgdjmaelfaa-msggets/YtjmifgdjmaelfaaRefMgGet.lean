/-
  What the document's Get of messages answers at this program, whatever the command and the body.
-/
import Derived.Test.YtjmifgdjmaelfaaRefMgP
import Derived.Test.YtjmifgdjmaelfaaRefMgName
import Derived.Test.YtjmifgdjmaelfaaMgGet
import Derived.Test.YtjmifgdjmaelfaaTxGetX
import Derived.Test.YtjmifgdjmaelfaaTxBox
namespace Go.Proofs.Ytjmifgdjmaelfaa
open Go.RowKit

theorem MBox.s1 {w : World} {q : Nat} {x0 x1 x2 x3 x4 x5 x6 : Value} (h : MBox w q x0 x1 x2 x3 x4 x5 x6) (z : Value) : MBox (w.setCell ⟨q, 1, none⟩ z) q x0 z x2 x3 x4 x5 x6 := by
  obtain ⟨n0, n1, n2, n3, n4, n5, n6⟩ := h
  exact ⟨by rw [World.cell?_setCell_other _ _ _ _ (by simp)]; exact n0, World.cell?_setCell_same _ _ _ n1, by rw [World.cell?_setCell_other _ _ _ _ (by simp)]; exact n2, by rw [World.cell?_setCell_other _ _ _ _ (by simp)]; exact n3, by rw [World.cell?_setCell_other _ _ _ _ (by simp)]; exact n4, by rw [World.cell?_setCell_other _ _ _ _ (by simp)]; exact n5, by rw [World.cell?_setCell_other _ _ _ _ (by simp)]; exact n6⟩
theorem MBox.s2 {w : World} {q : Nat} {x0 x1 x2 x3 x4 x5 x6 : Value} (h : MBox w q x0 x1 x2 x3 x4 x5 x6) (z : Value) : MBox (w.setCell ⟨q, 2, none⟩ z) q x0 x1 z x3 x4 x5 x6 := by
  obtain ⟨n0, n1, n2, n3, n4, n5, n6⟩ := h
  exact ⟨by rw [World.cell?_setCell_other _ _ _ _ (by simp)]; exact n0, by rw [World.cell?_setCell_other _ _ _ _ (by simp)]; exact n1, World.cell?_setCell_same _ _ _ n2, by rw [World.cell?_setCell_other _ _ _ _ (by simp)]; exact n3, by rw [World.cell?_setCell_other _ _ _ _ (by simp)]; exact n4, by rw [World.cell?_setCell_other _ _ _ _ (by simp)]; exact n5, by rw [World.cell?_setCell_other _ _ _ _ (by simp)]; exact n6⟩
theorem zero7_one : ∀ u ∈ ([.int .i64 0, .int .u64 0, .int .u32 0, .slice none 0 0, .int .u32 0, .slice none 0 0, .slice none 0 0] : List Value), u.oneCell' = true := by simp [Value.oneCell']
theorem dmget_bad (c : ByteArray) (l : List Int) (w wr : World) (E : Int) (h : mgE c l = E) (hE : E ≠ 0) (hb : Below w.heap.size w wr) :
    MgetDone w c l (.returned (.tuple #[.agg #[.int .i64 0, .int .u64 0, .int .u32 0, .slice none 0 0, .int .u32 0, .slice none 0 0, .slice none 0 0], .int .i64 E])) (wr.setCells w.heap.size 0 [.int .i64 0, .int .u64 0, .int .u32 0, .slice none 0 0, .int .u32 0, .slice none 0 0, .slice none 0 0]) := by
  subst h
  have e := mgM_bad hE
  exact ⟨.slice none 0 0, .slice none 0 0, .slice none 0 0, by rw [e]; rfl, below_sets (Nat.le_refl _) _ _ _ hb, by rw [e]; exact fun w' _ => MsgAt.none w'⟩
/-- What stands behind a block stands, whatever is laid into that. -/
theorem keeps_sets0 {w wr : World} {X : World → Prop} (h : Keeps (fun k => w.heap.size + 1 ≤ k) wr X) (cs : List Value) : Keeps (fun k => w.heap.size ≤ k) (wr.setCells w.heap.size 0 cs) X :=
  (h.step (w1 := wr.setCells w.heap.size 0 cs) (by rw [size_setCells]; exact Nat.le_refl _) fun k hk hp => (Besides.sets (p := w.heap.size) (q := w.heap.size) (w := wr) (Or.inl rfl) cs 0 wr (Besides.refl _ _ _)).block k hk (by omega) (by omega)).weak fun k _ h => by omega
theorem dmget_good (c : ByteArray) (l : List Int) (w wr : World) (m : Mg) (d iv ov : Value) (h : mgE c l = 0) (hm : mgM c l = m) (hb : Below w.heap.size w wr) (hk : Keeps (fun k => w.heap.size + 1 ≤ k) wr fun w => MsgAt w d iv ov m) (cs : List Value) :
    MgetDone w c l (.returned (.tuple #[.agg #[.int .i64 m.kind, .int .u64 m.n, .int .u32 m.code, d, .int .u32 m.tx.ver, iv, ov], .int .i64 0])) (wr.setCells w.heap.size 0 cs) := by
  subst hm
  refine ⟨d, iv, ov, by rw [h], below_sets (Nat.le_refl _) _ _ _ hb, ?_⟩
  exact keeps_sets0 hk cs
/-- So far no kind has this command. -/
def Naming (W0 : World) (c : ByteArray) (i : Value) (wr : World) : Prop := ∃ k : Nat, 1 ≤ k ∧ k ≤ 12 ∧ i = .int .i64 k ∧ W0 = wr ∧ ∀ j : Nat, 1 ≤ j → j < k → strL c ≠ strL (shp j).cmd

set_option maxRecDepth 100000 in
set_option maxHeartbeats 20000000 in
theorem rmget_any (c : ByteArray) (l : List Int) (v : Value) (w : World) (hv : Bytes w v l) (hb : AllB l) (hl : l.length ≤ 5000) :
    Calls Try.prog 17 #[.string c, v] w (MgetDone w c l) := by
  have HB0 := hide (below_new w (.cells #[.int .i64 0, .int .u64 0, .int .u32 0, .slice none 0 0, .int .u32 0, .slice none 0 0, .slice none 0 0] 52))
  have HT0 := hide (msg_there w)
  have HS0 : Hid ((w.alloc (.cells #[.int .i64 0, .int .u64 0, .int .u32 0, .slice none 0 0, .int .u32 0, .slice none 0 0, .slice none 0 0] 52)).heap.size = w.heap.size + 1) := hide (alloc_size _ _)
  have HVB : Hid (∀ wx, Below w.heap.size w wx → Bytes wx v l) := hide (fun wx h => hv.below h)
  have HBB := hide hb
  have HLL := hide hl
  have NM := hide rname_any
  obtain ⟨a, cap, rfl, hc1, hc2⟩ := hv.form
  clear hv hb
  go_enter Try.func17, Try.ntmps17
  go_upto_region 1 with fail
  generalize w.alloc (.cells #[.int .i64 0, .int .u64 0, .int .u32 0, .slice none 0 0, .int .u32 0, .slice none 0 0, .slice none 0 0] 52) = W0 at *
  generalize hg : w.heap.size = g at *
  have HG := hide hg
  clear hg
  have HBG0 : Hid (g ≤ W0.heap.size) := hide (by rw [HS0.out]; exact Nat.le_succ _)
  have HGQ : Hid (g ≤ W0.heap.size) := HBG0
  have HGQ1 : Hid (W0.heap.size = g + 1) := HS0
  have HS : Hid (Naming W0 c (.int .i64 1) W0) := hide ⟨1, by omega, by omega, rfl, rfl, fun j h1 h2 => by omega⟩
  go_wp2_with fail
  go_loopw [6] (fun i wr => Naming W0 c i wr) (fun i _ => 12 - (intOf i).toNat)
  case atStart => exact HS.out
  case round =>
    clear HS
    obtain ⟨k, h1, h12, rfl, hw0, hall⟩ := hrel
    subst hw0
    have HALL := hide hall
    clear hall
    by_cases hlt : k ≤ 11
    · have e1 : (k : Int) ≤ 11 := by omega
      have HKK : Hid (isKind (k : Int) = true) := hide (by simp [isKind]; omega)
      have hbeq := str_beq (shp (k : Int)).cmd c
      go_wp2_with fail
      refine (NM.out _ _).mono ?_
      rintro e w1 ⟨rfl, hw1⟩
      rw [hw1]
      clear hw1
      by_cases hs : strL c = strL (shp (k : Int)).cmd
      · have HC : Hid (c = (shp (k : Int)).cmd) := hide (strL_inj hs)
        rw [decide_eq_true hs.symm] at hbeq
        have hsc : ∃ s : ByteArray, s = (shp (k : Int)).cmd := ⟨_, rfl⟩
        obtain ⟨s, hsc⟩ := hsc
        rw [← hsc] at hbeq ⊢
        clear hs hsc HALL HKK NM
        rcases (show k = 1 ∨ k = 2 ∨ k = 3 ∨ k = 4 ∨ k = 5 ∨ k = 6 ∨ k = 7 ∨ k = 8 ∨ k = 9 ∨ k = 10 ∨ k = 11 by omega) with rfl | rfl | rfl | rfl | rfl | rfl | rfl | rfl | rfl | rfl | rfl
        · rw [show ((1 : Nat) : Int) = 1 from rfl] at HC ⊢
          have PK := hide (mk1 HC.out l HBB.out)
          have hb1 := below_new W0 (.cells #[.int .i64 1, .int .u64 0, .int .u32 0, .slice none 0 0, .int .u32 0, .slice none 0 0, .slice none 0 0] 52)
          have HX := hide (MBox.new W0 (.int .i64 1) (.int .u64 0) (.int .u32 0) (.slice none 0 0) (.int .u32 0) (.slice none 0 0) (.slice none 0 0) 52)
          have HQT : Hid ((W0.alloc (.cells #[.int .i64 1, .int .u64 0, .int .u32 0, .slice none 0 0, .int .u32 0, .slice none 0 0, .slice none 0 0] 52)).there W0.heap.size 0 7) := hide (there_new W0 _ _)
          have HT := hide (there_on HT0.out hb1)
          have HB := hide (HB0.out.trans (hb1.mono HBG0.out))
          have HBG : Hid (g ≤ (W0.alloc (.cells #[.int .i64 1, .int .u64 0, .int .u32 0, .slice none 0 0, .int .u32 0, .slice none 0 0, .slice none 0 0] 52)).heap.size) := hide (Nat.le_trans HBG0.out hb1.size)
          have HSZ : Hid ((W0.alloc (.cells #[.int .i64 1, .int .u64 0, .int .u32 0, .slice none 0 0, .int .u32 0, .slice none 0 0, .slice none 0 0] 52)).heap.size = W0.heap.size + 1) := hide (alloc_size _ _)
          have FX : Hid (∀ w, Calls Try.prog 36 #[.int .i64 1] w fun e w' => e = .returned (.int .i64 (12)) ∧ w' = w) := hide (fun w => rfixed_kind w 1 (by decide))
          clear hb1 HT0 HB0
          go_upto_region 7 with fail
          generalize W0.alloc (.cells #[.int .i64 1, .int .u64 0, .int .u32 0, .slice none 0 0, .int .u32 0, .slice none 0 0, .slice none 0 0] 52) = W at *
          generalize W0.heap.size = q at *
          go_wp2_with fail
          refine (FX.out _).mono ?_
          rintro e w2 ⟨rfl, hw2⟩
          rw [hw2]
          clear hw2 FX
          by_cases hS : l.length < 12
          · have e1 : (l.length : Int) < 12 := by omega
            have R := dmget_bad c l w W 4 (PK.out.1 hS) (by decide) (by rw [HG.out]; exact HB.out)
            rw [HG.out] at R
            have R := hide R
            go_wp2_with (refine wp_store_row rfl 52 (.tmp 4) (.tmp 39) rfl g 0 [.int .i64 0, .int .u64 0, .int .u32 0, .slice none 0 0, .int .u32 0, .slice none 0 0, .slice none 0 0] rfl rfl HT.out info_msg zero7_one ?_)
            exact ret_row_tmp 4 5 52 rfl g 0 rfl [.int .i64 0, .int .u64 0, .int .u32 0, .slice none 0 0, .int .u32 0, .slice none 0 0, .slice none 0 0] (World.rangeAt_setCells_same _ _ _ _ HT.out) _ Try.underlying52 rfl info_msg _ rfl rfl R.out
          · have e1 : ¬ (l.length : Int) < 12 := by omega
            by_cases hL : 12 < l.length
            · have e2 : (12 : Int) < (l.length : Int) := by omega
              have R := dmget_bad c l w W 5 (PK.out.2.1 hL) (by decide) (by rw [HG.out]; exact HB.out)
              rw [HG.out] at R
              have R := hide R
              go_wp2_with (refine wp_store_row rfl 52 (.tmp 4) (.tmp 44) rfl g 0 [.int .i64 0, .int .u64 0, .int .u32 0, .slice none 0 0, .int .u32 0, .slice none 0 0, .slice none 0 0] rfl rfl HT.out info_msg zero7_one ?_)
              exact ret_row_tmp 4 5 52 rfl g 0 rfl [.int .i64 0, .int .u64 0, .int .u32 0, .slice none 0 0, .int .u32 0, .slice none 0 0, .slice none 0 0] (World.rangeAt_setCells_same _ _ _ _ HT.out) _ Try.underlying52 rfl info_msg _ rfl rfl R.out
            · have e2 : ¬ (12 : Int) < (l.length : Int) := by omega
              have HN : Hid (l.length = 12) := hide (by omega)
              obtain ⟨a1, hrun1, hb1⟩ := head_of a l.length cap 4 .i64 (by omega) hc1
              obtain ⟨a2, c2, hrun2, hb2⟩ := tail_of a l.length cap 4 .i64 (by omega)
              have HR1 := hide hrun1
              have HR2 := hide hrun2
              have G1 : Hid (∀ wx, Below g w wx → Calls Try.prog 23 #[.slice a1 4 cap] wx fun e w' => e = .returned (.tuple #[.int .u64 (num (l.take 4)), .int .i64 0]) ∧ w' = wx) := hide (fun wx h => rget_wide (l.take 4) _ wx (hb1 _ _ (HVB.out wx h)) (HBB.out.take 4) (by rw [List.length_take, HN.out]; rfl))
              have G2 : Hid (∀ wx, Below g w wx → Calls Try.prog 23 #[.slice a2 (l.length - 4) c2] wx fun e w' => e = .returned (.tuple #[.int .u64 (num (l.drop 4)), .int .i64 0]) ∧ w' = wx) := hide (fun wx h => rget_wide (l.drop 4) _ wx (hb2 _ _ (HVB.out wx h)) (HBB.out.drop 4) (by rw [List.length_drop, HN.out]; rfl))
              have hx4 := num_u32 (HBB.out.take 4) (by simp; omega)
              have hwr : IntKind.u32.wrap (num (l.take 4)) = num (l.take 4) := by simp [IntKind.wrap, IntKind.bits, IntKind.signed]; omega
              have PM := hide (PK.out.2.2 HN.out)
              clear hrun1 hrun2 hb1 hb2 PK
              generalize num (l.take 4) = X4 at *
              generalize num (l.drop 4) = X8 at *
              go_wp2_with (refine wp_upto rfl (.tmp 49) (.const (.int .i64 4)) rfl _ _ _ rfl rfl HR1.out ?_)
              refine (G1.out _ HB.out).mono ?_
              rintro e w3 ⟨rfl, hw3⟩
              rw [hw3]
              clear hw3 G1 HR1
              obtain ⟨c0, c1, c2, c3, c4, c5, c6⟩ := HX.out
              obtain ⟨-, -, -, -, -, -, -, -, f0, f1, f2, f3, f4, f5, f6⟩ := there7 HQT.out
              have HX := hide (HX.out.s2 (.int .u32 X4))
              have HT := hide (there_setC HT.out ⟨q, 2, none⟩ (.int .u32 X4))
              have HQT := hide (there_setC HQT.out ⟨q, 2, none⟩ (.int .u32 X4))
              have HB := hide (below_set HB.out (show g ≤ (⟨q, 2, none⟩ : Addr).block from HGQ.out) (.int .u32 X4))
              have HBG : Hid (g ≤ (W.setCell ⟨q, 2, none⟩ (.int .u32 X4)).heap.size) := hide (by rw [size_setCell]; exact HBG.out)
              go_upto_region 17 with fail
              generalize W.setCell ⟨q, 2, none⟩ (.int .u32 X4) = W2 at *
              clear c0 c1 c2 c3 c4 c5 c6 f0 f1 f2 f3 f4 f5 f6
              go_wp2_with (refine wp_from rfl (.tmp 58) (.const (.int .i64 4)) rfl _ _ _ rfl rfl HR2.out ?_)
              refine (G2.out _ HB.out).mono ?_
              rintro e w4 ⟨rfl, hw4⟩
              rw [hw4]
              clear hw4 G2 HR2
              obtain ⟨c0, c1, c2, c3, c4, c5, c6⟩ := HX.out
              obtain ⟨-, -, -, -, -, -, -, -, f0, f1, f2, f3, f4, f5, f6⟩ := there7 HQT.out
              have HX := hide (HX.out.s1 (.int .u64 X8))
              have HT := hide (there_setC HT.out ⟨q, 1, none⟩ (.int .u64 X8))
              have HQT := hide (there_setC HQT.out ⟨q, 1, none⟩ (.int .u64 X8))
              have HB := hide (below_set HB.out (show g ≤ (⟨q, 1, none⟩ : Addr).block from HGQ.out) (.int .u64 X8))
              have HBG : Hid (g ≤ (W2.setCell ⟨q, 1, none⟩ (.int .u64 X8)).heap.size) := hide (by rw [size_setCell]; exact HBG.out)
              go_upto_region 49 with fail
              generalize W2.setCell ⟨q, 1, none⟩ (.int .u64 X8) = W3 at *
              clear c0 c1 c2 c3 c4 c5 c6 f0 f1 f2 f3 f4 f5 f6
              have R := dmget_good c l w W3 ⟨1, X8, X4, [], noTr⟩ (.slice none 0 0) (.slice none 0 0) (.slice none 0 0) PM.out.1 PM.out.2 (by rw [HG.out]; exact HB.out) (by rw [HG.out]; exact (fun w' _ => ⟨IdsAt.nil w', TxAt.none w'⟩)) [.int .i64 1, .int .u64 X8, .int .u32 X4, .slice none 0 0, .int .u32 0, .slice none 0 0, .slice none 0 0]
              rw [HG.out] at R
              have R := hide R
              have ONE : Hid (∀ u ∈ ([.int .i64 1, .int .u64 X8, .int .u32 X4, .slice none 0 0, .int .u32 0, .slice none 0 0, .slice none 0 0] : List Value), u.oneCell' = true) := hide (by simp [Value.oneCell'])
              go_wp2_with (first | (refine wpList_load_mid rfl 52 (.tmp 7) rfl q 0 rfl [.int .i64 1, .int .u64 X8, .int .u32 X4, .slice none 0 0, .int .u32 0, .slice none 0 0, .slice none 0 0] _ (range7 HX.out) Try.underlying52 rfl info_msg ?_) | (refine wp_store_row rfl 52 (.tmp 4) (.tmp 153) rfl g 0 [.int .i64 1, .int .u64 X8, .int .u32 X4, .slice none 0 0, .int .u32 0, .slice none 0 0, .slice none 0 0] rfl rfl HT.out info_msg ONE.out ?_))
              exact ret_row_tmp 4 5 52 rfl g 0 rfl [.int .i64 1, .int .u64 X8, .int .u32 X4, .slice none 0 0, .int .u32 0, .slice none 0 0, .slice none 0 0] (World.rangeAt_setCells_same _ _ _ _ HT.out) _ Try.underlying52 rfl info_msg _ rfl rfl R.out
        · rw [show ((2 : Nat) : Int) = 2 from rfl] at HC ⊢
          have PK := hide (mk2 HC.out l)
          have hb1 := below_new W0 (.cells #[.int .i64 2, .int .u64 0, .int .u32 0, .slice none 0 0, .int .u32 0, .slice none 0 0, .slice none 0 0] 52)
          have HX := hide (MBox.new W0 (.int .i64 2) (.int .u64 0) (.int .u32 0) (.slice none 0 0) (.int .u32 0) (.slice none 0 0) (.slice none 0 0) 52)
          have HQT : Hid ((W0.alloc (.cells #[.int .i64 2, .int .u64 0, .int .u32 0, .slice none 0 0, .int .u32 0, .slice none 0 0, .slice none 0 0] 52)).there W0.heap.size 0 7) := hide (there_new W0 _ _)
          have HT := hide (there_on HT0.out hb1)
          have HB := hide (HB0.out.trans (hb1.mono HBG0.out))
          have HBG : Hid (g ≤ (W0.alloc (.cells #[.int .i64 2, .int .u64 0, .int .u32 0, .slice none 0 0, .int .u32 0, .slice none 0 0, .slice none 0 0] 52)).heap.size) := hide (Nat.le_trans HBG0.out hb1.size)
          have HSZ : Hid ((W0.alloc (.cells #[.int .i64 2, .int .u64 0, .int .u32 0, .slice none 0 0, .int .u32 0, .slice none 0 0, .slice none 0 0] 52)).heap.size = W0.heap.size + 1) := hide (alloc_size _ _)
          have FX : Hid (∀ w, Calls Try.prog 36 #[.int .i64 2] w fun e w' => e = .returned (.int .i64 (0)) ∧ w' = w) := hide (fun w => rfixed_kind w 2 (by decide))
          clear hb1 HT0 HB0
          go_upto_region 7 with fail
          generalize W0.alloc (.cells #[.int .i64 2, .int .u64 0, .int .u32 0, .slice none 0 0, .int .u32 0, .slice none 0 0, .slice none 0 0] 52) = W at *
          generalize W0.heap.size = q at *
          go_wp2_with fail
          refine (FX.out _).mono ?_
          rintro e w2 ⟨rfl, hw2⟩
          rw [hw2]
          clear hw2 FX
          have e1 : ¬ (l.length : Int) < 0 := by omega
          by_cases hL : 0 < l.length
          · have e2 : (0 : Int) < (l.length : Int) := by omega
            have R := dmget_bad c l w W 5 (PK.out.1 hL) (by decide) (by rw [HG.out]; exact HB.out)
            rw [HG.out] at R
            have R := hide R
            go_wp2_with (refine wp_store_row rfl 52 (.tmp 4) (.tmp 44) rfl g 0 [.int .i64 0, .int .u64 0, .int .u32 0, .slice none 0 0, .int .u32 0, .slice none 0 0, .slice none 0 0] rfl rfl HT.out info_msg zero7_one ?_)
            exact ret_row_tmp 4 5 52 rfl g 0 rfl [.int .i64 0, .int .u64 0, .int .u32 0, .slice none 0 0, .int .u32 0, .slice none 0 0, .slice none 0 0] (World.rangeAt_setCells_same _ _ _ _ HT.out) _ Try.underlying52 rfl info_msg _ rfl rfl R.out
          · have e2 : ¬ (0 : Int) < (l.length : Int) := by omega
            have HN : Hid (l.length = 0) := hide (by omega)
            go_upto_region 49 with fail
            have R := dmget_good c l w W ⟨2, 0, 0, [], noTr⟩ (.slice none 0 0) (.slice none 0 0) (.slice none 0 0) (PK.out.2 HN.out).1 (PK.out.2 HN.out).2 (by rw [HG.out]; exact HB.out) (by rw [HG.out]; exact (fun w' _ => ⟨IdsAt.nil w', TxAt.none w'⟩)) [.int .i64 2, .int .u64 0, .int .u32 0, .slice none 0 0, .int .u32 0, .slice none 0 0, .slice none 0 0]
            rw [HG.out] at R
            have R := hide R
            have ONE : Hid (∀ u ∈ ([.int .i64 2, .int .u64 0, .int .u32 0, .slice none 0 0, .int .u32 0, .slice none 0 0, .slice none 0 0] : List Value), u.oneCell' = true) := hide (by simp [Value.oneCell'])
            go_wp2_with (first | (refine wpList_load_mid rfl 52 (.tmp 7) rfl q 0 rfl [.int .i64 2, .int .u64 0, .int .u32 0, .slice none 0 0, .int .u32 0, .slice none 0 0, .slice none 0 0] _ (range7 HX.out) Try.underlying52 rfl info_msg ?_) | (refine wp_store_row rfl 52 (.tmp 4) (.tmp 153) rfl g 0 [.int .i64 2, .int .u64 0, .int .u32 0, .slice none 0 0, .int .u32 0, .slice none 0 0, .slice none 0 0] rfl rfl HT.out info_msg ONE.out ?_))
            exact ret_row_tmp 4 5 52 rfl g 0 rfl [.int .i64 2, .int .u64 0, .int .u32 0, .slice none 0 0, .int .u32 0, .slice none 0 0, .slice none 0 0] (World.rangeAt_setCells_same _ _ _ _ HT.out) _ Try.underlying52 rfl info_msg _ rfl rfl R.out
        · rw [show ((3 : Nat) : Int) = 3 from rfl] at HC ⊢
          have PK := hide (mk34 (k := 3) (Or.inl rfl) HC.out l)
          have hb1 := below_new W0 (.cells #[.int .i64 3, .int .u64 0, .int .u32 0, .slice none 0 0, .int .u32 0, .slice none 0 0, .slice none 0 0] 52)
          have HX := hide (MBox.new W0 (.int .i64 3) (.int .u64 0) (.int .u32 0) (.slice none 0 0) (.int .u32 0) (.slice none 0 0) (.slice none 0 0) 52)
          have HQT : Hid ((W0.alloc (.cells #[.int .i64 3, .int .u64 0, .int .u32 0, .slice none 0 0, .int .u32 0, .slice none 0 0, .slice none 0 0] 52)).there W0.heap.size 0 7) := hide (there_new W0 _ _)
          have HT := hide (there_on HT0.out hb1)
          have HB := hide (HB0.out.trans (hb1.mono HBG0.out))
          have HBG : Hid (g ≤ (W0.alloc (.cells #[.int .i64 3, .int .u64 0, .int .u32 0, .slice none 0 0, .int .u32 0, .slice none 0 0, .slice none 0 0] 52)).heap.size) := hide (Nat.le_trans HBG0.out hb1.size)
          have HSZ : Hid ((W0.alloc (.cells #[.int .i64 3, .int .u64 0, .int .u32 0, .slice none 0 0, .int .u32 0, .slice none 0 0, .slice none 0 0] 52)).heap.size = W0.heap.size + 1) := hide (alloc_size _ _)
          have FX : Hid (∀ w, Calls Try.prog 36 #[.int .i64 3] w fun e w' => e = .returned (.int .i64 (8)) ∧ w' = w) := hide (fun w => rfixed_kind w 3 (by decide))
          clear hb1 HT0 HB0
          go_upto_region 7 with fail
          generalize W0.alloc (.cells #[.int .i64 3, .int .u64 0, .int .u32 0, .slice none 0 0, .int .u32 0, .slice none 0 0, .slice none 0 0] 52) = W at *
          generalize W0.heap.size = q at *
          go_wp2_with fail
          refine (FX.out _).mono ?_
          rintro e w2 ⟨rfl, hw2⟩
          rw [hw2]
          clear hw2 FX
          by_cases hS : l.length < 8
          · have e1 : (l.length : Int) < 8 := by omega
            have R := dmget_bad c l w W 4 (PK.out.1 hS) (by decide) (by rw [HG.out]; exact HB.out)
            rw [HG.out] at R
            have R := hide R
            go_wp2_with (refine wp_store_row rfl 52 (.tmp 4) (.tmp 39) rfl g 0 [.int .i64 0, .int .u64 0, .int .u32 0, .slice none 0 0, .int .u32 0, .slice none 0 0, .slice none 0 0] rfl rfl HT.out info_msg zero7_one ?_)
            exact ret_row_tmp 4 5 52 rfl g 0 rfl [.int .i64 0, .int .u64 0, .int .u32 0, .slice none 0 0, .int .u32 0, .slice none 0 0, .slice none 0 0] (World.rangeAt_setCells_same _ _ _ _ HT.out) _ Try.underlying52 rfl info_msg _ rfl rfl R.out
          · have e1 : ¬ (l.length : Int) < 8 := by omega
            by_cases hL : 8 < l.length
            · have e2 : (8 : Int) < (l.length : Int) := by omega
              have R := dmget_bad c l w W 5 (PK.out.2.1 hL) (by decide) (by rw [HG.out]; exact HB.out)
              rw [HG.out] at R
              have R := hide R
              go_wp2_with (refine wp_store_row rfl 52 (.tmp 4) (.tmp 44) rfl g 0 [.int .i64 0, .int .u64 0, .int .u32 0, .slice none 0 0, .int .u32 0, .slice none 0 0, .slice none 0 0] rfl rfl HT.out info_msg zero7_one ?_)
              exact ret_row_tmp 4 5 52 rfl g 0 rfl [.int .i64 0, .int .u64 0, .int .u32 0, .slice none 0 0, .int .u32 0, .slice none 0 0, .slice none 0 0] (World.rangeAt_setCells_same _ _ _ _ HT.out) _ Try.underlying52 rfl info_msg _ rfl rfl R.out
            · have e2 : ¬ (8 : Int) < (l.length : Int) := by omega
              have HN : Hid (l.length = 8) := hide (by omega)
              have G1 : Hid (∀ wx, Below g w wx → Calls Try.prog 23 #[.slice a l.length cap] wx fun e w' => e = .returned (.tuple #[.int .u64 (num l), .int .i64 0]) ∧ w' = wx) := hide (fun wx h => rget_wide l _ wx (HVB.out wx h) HBB.out (by rw [HN.out]; rfl))
              have PM := hide (PK.out.2.2 HN.out)
              clear PK
              generalize num l = X8 at *
              go_wp2_with fail
              refine (G1.out _ HB.out).mono ?_
              rintro e w3 ⟨rfl, hw3⟩
              rw [hw3]
              clear hw3 G1
              obtain ⟨c0, c1, c2, c3, c4, c5, c6⟩ := HX.out
              obtain ⟨-, -, -, -, -, -, -, -, f0, f1, f2, f3, f4, f5, f6⟩ := there7 HQT.out
              have HX := hide (HX.out.s1 (.int .u64 X8))
              have HT := hide (there_setC HT.out ⟨q, 1, none⟩ (.int .u64 X8))
              have HQT := hide (there_setC HQT.out ⟨q, 1, none⟩ (.int .u64 X8))
              have HB := hide (below_set HB.out (show g ≤ (⟨q, 1, none⟩ : Addr).block from HGQ.out) (.int .u64 X8))
              have HBG : Hid (g ≤ (W.setCell ⟨q, 1, none⟩ (.int .u64 X8)).heap.size) := hide (by rw [size_setCell]; exact HBG.out)
              go_upto_region 49 with fail
              generalize W.setCell ⟨q, 1, none⟩ (.int .u64 X8) = W3 at *
              clear c0 c1 c2 c3 c4 c5 c6 f0 f1 f2 f3 f4 f5 f6
              have R := dmget_good c l w W3 ⟨3, X8, 0, [], noTr⟩ (.slice none 0 0) (.slice none 0 0) (.slice none 0 0) PM.out.1 PM.out.2 (by rw [HG.out]; exact HB.out) (by rw [HG.out]; exact (fun w' _ => ⟨IdsAt.nil w', TxAt.none w'⟩)) [.int .i64 3, .int .u64 X8, .int .u32 0, .slice none 0 0, .int .u32 0, .slice none 0 0, .slice none 0 0]
              rw [HG.out] at R
              have R := hide R
              have ONE : Hid (∀ u ∈ ([.int .i64 3, .int .u64 X8, .int .u32 0, .slice none 0 0, .int .u32 0, .slice none 0 0, .slice none 0 0] : List Value), u.oneCell' = true) := hide (by simp [Value.oneCell'])
              go_wp2_with (first | (refine wpList_load_mid rfl 52 (.tmp 7) rfl q 0 rfl [.int .i64 3, .int .u64 X8, .int .u32 0, .slice none 0 0, .int .u32 0, .slice none 0 0, .slice none 0 0] _ (range7 HX.out) Try.underlying52 rfl info_msg ?_) | (refine wp_store_row rfl 52 (.tmp 4) (.tmp 153) rfl g 0 [.int .i64 3, .int .u64 X8, .int .u32 0, .slice none 0 0, .int .u32 0, .slice none 0 0, .slice none 0 0] rfl rfl HT.out info_msg ONE.out ?_))
              exact ret_row_tmp 4 5 52 rfl g 0 rfl [.int .i64 3, .int .u64 X8, .int .u32 0, .slice none 0 0, .int .u32 0, .slice none 0 0, .slice none 0 0] (World.rangeAt_setCells_same _ _ _ _ HT.out) _ Try.underlying52 rfl info_msg _ rfl rfl R.out
        · rw [show ((4 : Nat) : Int) = 4 from rfl] at HC ⊢
          have PK := hide (mk34 (k := 4) (Or.inr rfl) HC.out l)
          have hb1 := below_new W0 (.cells #[.int .i64 4, .int .u64 0, .int .u32 0, .slice none 0 0, .int .u32 0, .slice none 0 0, .slice none 0 0] 52)
          have HX := hide (MBox.new W0 (.int .i64 4) (.int .u64 0) (.int .u32 0) (.slice none 0 0) (.int .u32 0) (.slice none 0 0) (.slice none 0 0) 52)
          have HQT : Hid ((W0.alloc (.cells #[.int .i64 4, .int .u64 0, .int .u32 0, .slice none 0 0, .int .u32 0, .slice none 0 0, .slice none 0 0] 52)).there W0.heap.size 0 7) := hide (there_new W0 _ _)
          have HT := hide (there_on HT0.out hb1)
          have HB := hide (HB0.out.trans (hb1.mono HBG0.out))
          have HBG : Hid (g ≤ (W0.alloc (.cells #[.int .i64 4, .int .u64 0, .int .u32 0, .slice none 0 0, .int .u32 0, .slice none 0 0, .slice none 0 0] 52)).heap.size) := hide (Nat.le_trans HBG0.out hb1.size)
          have HSZ : Hid ((W0.alloc (.cells #[.int .i64 4, .int .u64 0, .int .u32 0, .slice none 0 0, .int .u32 0, .slice none 0 0, .slice none 0 0] 52)).heap.size = W0.heap.size + 1) := hide (alloc_size _ _)
          have FX : Hid (∀ w, Calls Try.prog 36 #[.int .i64 4] w fun e w' => e = .returned (.int .i64 (8)) ∧ w' = w) := hide (fun w => rfixed_kind w 4 (by decide))
          clear hb1 HT0 HB0
          go_upto_region 7 with fail
          generalize W0.alloc (.cells #[.int .i64 4, .int .u64 0, .int .u32 0, .slice none 0 0, .int .u32 0, .slice none 0 0, .slice none 0 0] 52) = W at *
          generalize W0.heap.size = q at *
          go_wp2_with fail
          refine (FX.out _).mono ?_
          rintro e w2 ⟨rfl, hw2⟩
          rw [hw2]
          clear hw2 FX
          by_cases hS : l.length < 8
          · have e1 : (l.length : Int) < 8 := by omega
            have R := dmget_bad c l w W 4 (PK.out.1 hS) (by decide) (by rw [HG.out]; exact HB.out)
            rw [HG.out] at R
            have R := hide R
            go_wp2_with (refine wp_store_row rfl 52 (.tmp 4) (.tmp 39) rfl g 0 [.int .i64 0, .int .u64 0, .int .u32 0, .slice none 0 0, .int .u32 0, .slice none 0 0, .slice none 0 0] rfl rfl HT.out info_msg zero7_one ?_)
            exact ret_row_tmp 4 5 52 rfl g 0 rfl [.int .i64 0, .int .u64 0, .int .u32 0, .slice none 0 0, .int .u32 0, .slice none 0 0, .slice none 0 0] (World.rangeAt_setCells_same _ _ _ _ HT.out) _ Try.underlying52 rfl info_msg _ rfl rfl R.out
          · have e1 : ¬ (l.length : Int) < 8 := by omega
            by_cases hL : 8 < l.length
            · have e2 : (8 : Int) < (l.length : Int) := by omega
              have R := dmget_bad c l w W 5 (PK.out.2.1 hL) (by decide) (by rw [HG.out]; exact HB.out)
              rw [HG.out] at R
              have R := hide R
              go_wp2_with (refine wp_store_row rfl 52 (.tmp 4) (.tmp 44) rfl g 0 [.int .i64 0, .int .u64 0, .int .u32 0, .slice none 0 0, .int .u32 0, .slice none 0 0, .slice none 0 0] rfl rfl HT.out info_msg zero7_one ?_)
              exact ret_row_tmp 4 5 52 rfl g 0 rfl [.int .i64 0, .int .u64 0, .int .u32 0, .slice none 0 0, .int .u32 0, .slice none 0 0, .slice none 0 0] (World.rangeAt_setCells_same _ _ _ _ HT.out) _ Try.underlying52 rfl info_msg _ rfl rfl R.out
            · have e2 : ¬ (8 : Int) < (l.length : Int) := by omega
              have HN : Hid (l.length = 8) := hide (by omega)
              have G1 : Hid (∀ wx, Below g w wx → Calls Try.prog 23 #[.slice a l.length cap] wx fun e w' => e = .returned (.tuple #[.int .u64 (num l), .int .i64 0]) ∧ w' = wx) := hide (fun wx h => rget_wide l _ wx (HVB.out wx h) HBB.out (by rw [HN.out]; rfl))
              have PM := hide (PK.out.2.2 HN.out)
              clear PK
              generalize num l = X8 at *
              go_wp2_with fail
              refine (G1.out _ HB.out).mono ?_
              rintro e w3 ⟨rfl, hw3⟩
              rw [hw3]
              clear hw3 G1
              obtain ⟨c0, c1, c2, c3, c4, c5, c6⟩ := HX.out
              obtain ⟨-, -, -, -, -, -, -, -, f0, f1, f2, f3, f4, f5, f6⟩ := there7 HQT.out
              have HX := hide (HX.out.s1 (.int .u64 X8))
              have HT := hide (there_setC HT.out ⟨q, 1, none⟩ (.int .u64 X8))
              have HQT := hide (there_setC HQT.out ⟨q, 1, none⟩ (.int .u64 X8))
              have HB := hide (below_set HB.out (show g ≤ (⟨q, 1, none⟩ : Addr).block from HGQ.out) (.int .u64 X8))
              have HBG : Hid (g ≤ (W.setCell ⟨q, 1, none⟩ (.int .u64 X8)).heap.size) := hide (by rw [size_setCell]; exact HBG.out)
              go_upto_region 49 with fail
              generalize W.setCell ⟨q, 1, none⟩ (.int .u64 X8) = W3 at *
              clear c0 c1 c2 c3 c4 c5 c6 f0 f1 f2 f3 f4 f5 f6
              have R := dmget_good c l w W3 ⟨4, X8, 0, [], noTr⟩ (.slice none 0 0) (.slice none 0 0) (.slice none 0 0) PM.out.1 PM.out.2 (by rw [HG.out]; exact HB.out) (by rw [HG.out]; exact (fun w' _ => ⟨IdsAt.nil w', TxAt.none w'⟩)) [.int .i64 4, .int .u64 X8, .int .u32 0, .slice none 0 0, .int .u32 0, .slice none 0 0, .slice none 0 0]
              rw [HG.out] at R
              have R := hide R
              have ONE : Hid (∀ u ∈ ([.int .i64 4, .int .u64 X8, .int .u32 0, .slice none 0 0, .int .u32 0, .slice none 0 0, .slice none 0 0] : List Value), u.oneCell' = true) := hide (by simp [Value.oneCell'])
              go_wp2_with (first | (refine wpList_load_mid rfl 52 (.tmp 7) rfl q 0 rfl [.int .i64 4, .int .u64 X8, .int .u32 0, .slice none 0 0, .int .u32 0, .slice none 0 0, .slice none 0 0] _ (range7 HX.out) Try.underlying52 rfl info_msg ?_) | (refine wp_store_row rfl 52 (.tmp 4) (.tmp 153) rfl g 0 [.int .i64 4, .int .u64 X8, .int .u32 0, .slice none 0 0, .int .u32 0, .slice none 0 0, .slice none 0 0] rfl rfl HT.out info_msg ONE.out ?_))
              exact ret_row_tmp 4 5 52 rfl g 0 rfl [.int .i64 4, .int .u64 X8, .int .u32 0, .slice none 0 0, .int .u32 0, .slice none 0 0, .slice none 0 0] (World.rangeAt_setCells_same _ _ _ _ HT.out) _ Try.underlying52 rfl info_msg _ rfl rfl R.out
        · rw [show ((5 : Nat) : Int) = 5 from rfl] at HC ⊢
          have PK := hide (mkL (k := 5) (Or.inl rfl) HC.out l)
          have hb1 := below_new W0 (.cells #[.int .i64 5, .int .u64 0, .int .u32 0, .slice none 0 0, .int .u32 0, .slice none 0 0, .slice none 0 0] 52)
          have HX := hide (MBox.new W0 (.int .i64 5) (.int .u64 0) (.int .u32 0) (.slice none 0 0) (.int .u32 0) (.slice none 0 0) (.slice none 0 0) 52)
          have HQT : Hid ((W0.alloc (.cells #[.int .i64 5, .int .u64 0, .int .u32 0, .slice none 0 0, .int .u32 0, .slice none 0 0, .slice none 0 0] 52)).there W0.heap.size 0 7) := hide (there_new W0 _ _)
          have HT := hide (there_on HT0.out hb1)
          have HB := hide (HB0.out.trans (hb1.mono HBG0.out))
          have HBG : Hid (g ≤ (W0.alloc (.cells #[.int .i64 5, .int .u64 0, .int .u32 0, .slice none 0 0, .int .u32 0, .slice none 0 0, .slice none 0 0] 52)).heap.size) := hide (Nat.le_trans HBG0.out hb1.size)
          have HSZ : Hid ((W0.alloc (.cells #[.int .i64 5, .int .u64 0, .int .u32 0, .slice none 0 0, .int .u32 0, .slice none 0 0, .slice none 0 0] 52)).heap.size = W0.heap.size + 1) := hide (alloc_size _ _)
          have FX : Hid (∀ w, Calls Try.prog 36 #[.int .i64 5] w fun e w' => e = .returned (.int .i64 (-1)) ∧ w' = w) := hide (fun w => rfixed_kind w 5 (by decide))
          clear hb1 HT0 HB0
          go_upto_region 7 with fail
          generalize W0.alloc (.cells #[.int .i64 5, .int .u64 0, .int .u32 0, .slice none 0 0, .int .u32 0, .slice none 0 0, .slice none 0 0] 52) = W at *
          generalize W0.heap.size = q at *
          go_wp2_with fail
          refine (FX.out _).mono ?_
          rintro e w2 ⟨rfl, hw2⟩
          rw [hw2]
          clear hw2 FX
          have RD : Hid (∀ wx, Below g w wx → Calls Try.prog 38 #[.slice a l.length cap] wx fun e w' => e = .returned (.tuple #[.int .u64 (readX l), .int .i64 (readN l), .int .i64 (readE l)]) ∧ Below wx.heap.size wx w') := hide (fun wx h => rread_any l _ wx (HVB.out wx h) HBB.out)
          by_cases hE : readE l = 0
          · obtain ⟨m, hm, hm1, hm2, hm9, -, hx0, hx1⟩ := read_ok l HBB.out hE
            obtain ⟨p, hp⟩ : ∃ p : Nat, readX l = p := ⟨(readX l).toNat, by omega⟩
            have QK := PK.out.2
            rw [hE, hm, hp] at QK RD
            clear PK hE hm hp hx0 hx1 hm9
            have RD := hide RD.out
            rw [Int.toNat_natCast m, Int.toNat_natCast p] at QK
            have QK := hide QK
            by_cases hp0 : p = 0
            · subst hp0
              go_wp2_with fail
              refine (RD.out _ HB.out).mono ?_
              rintro e w3 ⟨rfl, hb3⟩
              have HX := hide (HX.out.on hb3)
              have HT := hide (there_on HT.out hb3)
              have HQT := hide (there_on HQT.out hb3)
              have HB := hide (HB.out.trans (hb3.mono HBG.out))
              have HBG : Hid (g ≤ w3.heap.size) := hide (Nat.le_trans HBG.out hb3.size)
              clear RD
              clear hb3
              have R := dmget_bad c l w w3 9 (QK.out.1 (by trivial) (by trivial)) (by decide) (by rw [HG.out]; exact HB.out)
              rw [HG.out] at R
              have R := hide R
              go_wp2_with (refine wp_store_row rfl 52 (.tmp 4) (.tmp 112) rfl g 0 [.int .i64 0, .int .u64 0, .int .u32 0, .slice none 0 0, .int .u32 0, .slice none 0 0, .slice none 0 0] rfl rfl HT.out info_msg zero7_one ?_)
              exact ret_row_tmp 4 5 52 rfl g 0 rfl [.int .i64 0, .int .u64 0, .int .u32 0, .slice none 0 0, .int .u32 0, .slice none 0 0, .slice none 0 0] (World.rangeAt_setCells_same _ _ _ _ HT.out) _ Try.underlying52 rfl info_msg _ rfl rfl R.out
            · have ep0 : ¬ (p : Int) = 0 := by omega
              by_cases hp32 : 32 < p
              · have ep32 : (32 : Int) < (p : Int) := by omega
                go_wp2_with fail
                refine (RD.out _ HB.out).mono ?_
                rintro e w3 ⟨rfl, hb3⟩
                have HX := hide (HX.out.on hb3)
                have HT := hide (there_on HT.out hb3)
                have HQT := hide (there_on HQT.out hb3)
                have HB := hide (HB.out.trans (hb3.mono HBG.out))
                have HBG : Hid (g ≤ w3.heap.size) := hide (Nat.le_trans HBG.out hb3.size)
                clear RD
                clear hb3
                have R := dmget_bad c l w w3 5 (QK.out.2.1 (by trivial) (by omega) (by omega)) (by decide) (by rw [HG.out]; exact HB.out)
                rw [HG.out] at R
                have R := hide R
                go_wp2_with (refine wp_store_row rfl 52 (.tmp 4) (.tmp 115) rfl g 0 [.int .i64 0, .int .u64 0, .int .u32 0, .slice none 0 0, .int .u32 0, .slice none 0 0, .slice none 0 0] rfl rfl HT.out info_msg zero7_one ?_)
                exact ret_row_tmp 4 5 52 rfl g 0 rfl [.int .i64 0, .int .u64 0, .int .u32 0, .slice none 0 0, .int .u32 0, .slice none 0 0, .slice none 0 0] (World.rangeAt_setCells_same _ _ _ _ HT.out) _ Try.underlying52 rfl info_msg _ rfl rfl R.out
              · have ep32 : ¬ (32 : Int) < (p : Int) := by omega
                have hw1 : IntKind.i64.wrap (p : Int) = (p : Int) := by simp [IntKind.wrap, IntKind.bits, IntKind.signed]; omega
                have hw2 : IntKind.i64.wrap (32 * (p : Int)) = 32 * (p : Int) := by simp [IntKind.wrap, IntKind.bits, IntKind.signed]; omega
                have TK := hide (QK.out.2.2 (by trivial) (by omega) (by omega))
                clear QK
                have hmc : (m : Int) ≤ (l.length : Int) := by omega
                by_cases hs4 : l.length - m < p * 32
                · have e4 : (l.length : Int) - (m : Int) < 32 * (p : Int) := by omega
                  go_wp2_with fail
                  refine (RD.out _ HB.out).mono ?_
                  rintro e w3 ⟨rfl, hb3⟩
                  have HX := hide (HX.out.on hb3)
                  have HT := hide (there_on HT.out hb3)
                  have HQT := hide (there_on HQT.out hb3)
                  have HB := hide (HB.out.trans (hb3.mono HBG.out))
                  have HBG : Hid (g ≤ w3.heap.size) := hide (Nat.le_trans HBG.out hb3.size)
                  clear RD
                  clear hb3
                  have R := dmget_bad c l w w3 4 (TK.out.1 hs4) (by decide) (by rw [HG.out]; exact HB.out)
                  rw [HG.out] at R
                  have R := hide R
                  go_wp2_with (refine wp_store_row rfl 52 (.tmp 4) (.tmp 124) rfl g 0 [.int .i64 0, .int .u64 0, .int .u32 0, .slice none 0 0, .int .u32 0, .slice none 0 0, .slice none 0 0] rfl rfl HT.out info_msg zero7_one ?_)
                  exact ret_row_tmp 4 5 52 rfl g 0 rfl [.int .i64 0, .int .u64 0, .int .u32 0, .slice none 0 0, .int .u32 0, .slice none 0 0, .slice none 0 0] (World.rangeAt_setCells_same _ _ _ _ HT.out) _ Try.underlying52 rfl info_msg _ rfl rfl R.out
                · have e4 : ¬ (l.length : Int) - (m : Int) < 32 * (p : Int) := by omega
                  by_cases hs5 : p * 32 < l.length - m
                  · have e5 : 32 * (p : Int) < (l.length : Int) - (m : Int) := by omega
                    go_wp2_with fail
                    refine (RD.out _ HB.out).mono ?_
                    rintro e w3 ⟨rfl, hb3⟩
                    have HX := hide (HX.out.on hb3)
                    have HT := hide (there_on HT.out hb3)
                    have HQT := hide (there_on HQT.out hb3)
                    have HB := hide (HB.out.trans (hb3.mono HBG.out))
                    have HBG : Hid (g ≤ w3.heap.size) := hide (Nat.le_trans HBG.out hb3.size)
                    clear RD
                    clear hb3
                    have R := dmget_bad c l w w3 5 (TK.out.2.1 hs5) (by decide) (by rw [HG.out]; exact HB.out)
                    rw [HG.out] at R
                    have R := hide R
                    go_wp2_with (refine wp_store_row rfl 52 (.tmp 4) (.tmp 133) rfl g 0 [.int .i64 0, .int .u64 0, .int .u32 0, .slice none 0 0, .int .u32 0, .slice none 0 0, .slice none 0 0] rfl rfl HT.out info_msg zero7_one ?_)
                    exact ret_row_tmp 4 5 52 rfl g 0 rfl [.int .i64 0, .int .u64 0, .int .u32 0, .slice none 0 0, .int .u32 0, .slice none 0 0, .slice none 0 0] (World.rangeAt_setCells_same _ _ _ _ HT.out) _ Try.underlying52 rfl info_msg _ rfl rfl R.out
                  · have e5 : ¬ 32 * (p : Int) < (l.length : Int) - (m : Int) := by omega
                    have HS0 : Hid (l.length - m = p * 32) := hide (by omega)
                    obtain ⟨a2, c2, hrun2, hb2⟩ := tail_of a l.length cap m .i64 (by omega)
                    have HR2 := hide hrun2
                    have G1 : Hid (∀ wx, Below g w wx → Calls Try.prog 37 #[.slice a2 (l.length - m) c2] wx fun e w' => ∃ v', e = .returned v' ∧ Below wx.heap.size wx w' ∧ RowOwn w' wx.heap.size 40 32 v' ((hsL (l.drop m)).map (vals .u8))) := hide (fun wx h => rids_any (l.drop m) _ wx (hb2 _ _ (HVB.out wx h)) (by simp; omega) p (by rw [List.length_drop]; omega))
                    have PM := hide (TK.out.2.2 HS0.out)
                    clear hrun2 hb2 TK
                    generalize hsL (l.drop m) = I at *
                    go_wp2_with fail
                    refine (RD.out _ HB.out).mono ?_
                    rintro e w3 ⟨rfl, hb3⟩
                    have HX := hide (HX.out.on hb3)
                    have HT := hide (there_on HT.out hb3)
                    have HQT := hide (there_on HQT.out hb3)
                    have HB := hide (HB.out.trans (hb3.mono HBG.out))
                    have HBG : Hid (g ≤ w3.heap.size) := hide (Nat.le_trans HBG.out hb3.size)
                    clear RD
                    have HSW : Hid (g + 2 ≤ w3.heap.size) := hide (by have := hb3.size; have := HSZ.out; have := HGQ1.out; omega)
                    clear hb3
                    go_wp2_with (refine wp_from rfl (.tmp 134) (.tmp 135) rfl _ _ _ rfl rfl HR2.out ?_)
                    refine (G1.out _ HB.out).mono ?_
                    rintro e w4 ⟨v4, rfl, hb4, hown4⟩
                    obtain ⟨va, nn, vc, rfl⟩ : ∃ va nn vc, v4 = .slice va nn vc := hown4.row.form.elim fun a h => h.elim fun c h => ⟨a, _, c, h.1⟩
                    have HK : Hid (Keeps (fun k => g + 2 ≤ k) w4 fun w => IdsAt w (.slice va nn vc) I) := hide (hown4.keeps.weak fun k _ h => by have := HSW.out; omega)
                    have HX := hide (HX.out.on hb4)
                    have HT := hide (there_on HT.out hb4)
                    have HQT := hide (there_on HQT.out hb4)
                    have HB := hide (HB.out.trans (hb4.mono HBG.out))
                    have HBG : Hid (g ≤ w4.heap.size) := hide (Nat.le_trans HBG.out hb4.size)
                    clear hb4 hown4 G1 HR2
                    obtain ⟨c0, c1, c2, c3, c4, c5, c6⟩ := HX.out
                    obtain ⟨-, -, -, -, -, -, -, -, f0, f1, f2, f3, f4, f5, f6⟩ := there7 HQT.out
                    have HX := hide (HX.out.s3 (.slice va nn vc))
                    have HT := hide (there_setC HT.out ⟨q, 3, none⟩ (.slice va nn vc))
                    have HQT := hide (there_setC HQT.out ⟨q, 3, none⟩ (.slice va nn vc))
                    have HB := hide (below_set HB.out (show g ≤ (⟨q, 3, none⟩ : Addr).block from HGQ.out) (.slice va nn vc))
                    have HBG : Hid (g ≤ (w4.setCell ⟨q, 3, none⟩ (.slice va nn vc)).heap.size) := hide (by rw [size_setCell]; exact HBG.out)
                    have HK := hide (keeps_cell (i := 3) HK.out (show q < g + 2 by have := HGQ1.out; omega) (.slice va nn vc))
                    go_upto_region 49 with fail
                    generalize w4.setCell ⟨q, 3, none⟩ (.slice va nn vc) = W2 at *
                    clear c0 c1 c2 c3 c4 c5 c6 f0 f1 f2 f3 f4 f5 f6
                    have R := dmget_good c l w W2 ⟨5, 0, 0, I, noTr⟩ (.slice va nn vc) (.slice none 0 0) (.slice none 0 0) PM.out.1 PM.out.2 (by rw [HG.out]; exact HB.out) (by rw [HG.out]; exact ((HK.out.map fun w h => (⟨h, TxAt.none w⟩ : MsgAt w _ _ _ _)).weak fun k _ h => by omega)) [.int .i64 5, .int .u64 0, .int .u32 0, .slice va nn vc, .int .u32 0, .slice none 0 0, .slice none 0 0]
                    rw [HG.out] at R
                    have R := hide R
                    have ONE : Hid (∀ u ∈ ([.int .i64 5, .int .u64 0, .int .u32 0, .slice va nn vc, .int .u32 0, .slice none 0 0, .slice none 0 0] : List Value), u.oneCell' = true) := hide (by simp [Value.oneCell'])
                    go_wp2_with (first | (refine wpList_load_mid rfl 52 (.tmp 7) rfl q 0 rfl [.int .i64 5, .int .u64 0, .int .u32 0, .slice va nn vc, .int .u32 0, .slice none 0 0, .slice none 0 0] _ (range7 HX.out) Try.underlying52 rfl info_msg ?_) | (refine wp_store_row rfl 52 (.tmp 4) (.tmp 153) rfl g 0 [.int .i64 5, .int .u64 0, .int .u32 0, .slice va nn vc, .int .u32 0, .slice none 0 0, .slice none 0 0] rfl rfl HT.out info_msg ONE.out ?_))
                    exact ret_row_tmp 4 5 52 rfl g 0 rfl [.int .i64 5, .int .u64 0, .int .u32 0, .slice va nn vc, .int .u32 0, .slice none 0 0, .slice none 0 0] (World.rangeAt_setCells_same _ _ _ _ HT.out) _ Try.underlying52 rfl info_msg _ rfl rfl R.out
          · have PM := hide (PK.out.1 hE)
            clear PK
            have HEE := hide hE
            generalize readE l = ee at *
            generalize readX l = xx at *
            generalize readN l = nx at *
            go_wp2_with fail
            refine (RD.out _ HB.out).mono ?_
            rintro e w3 ⟨rfl, hb3⟩
            have HX := hide (HX.out.on hb3)
            have HT := hide (there_on HT.out hb3)
            have HQT := hide (there_on HQT.out hb3)
            have HB := hide (HB.out.trans (hb3.mono HBG.out))
            have HBG : Hid (g ≤ w3.heap.size) := hide (Nat.le_trans HBG.out hb3.size)
            clear RD
            clear hb3
            have R := dmget_bad c l w w3 ee PM.out HEE.out (by rw [HG.out]; exact HB.out)
            rw [HG.out] at R
            have R := hide R
            go_wp2_with (refine wp_store_row rfl 52 (.tmp 4) (.tmp 108) rfl g 0 [.int .i64 0, .int .u64 0, .int .u32 0, .slice none 0 0, .int .u32 0, .slice none 0 0, .slice none 0 0] rfl rfl HT.out info_msg zero7_one ?_)
            exact ret_row_tmp 4 5 52 rfl g 0 rfl [.int .i64 0, .int .u64 0, .int .u32 0, .slice none 0 0, .int .u32 0, .slice none 0 0, .slice none 0 0] (World.rangeAt_setCells_same _ _ _ _ HT.out) _ Try.underlying52 rfl info_msg _ rfl rfl R.out
        · rw [show ((6 : Nat) : Int) = 6 from rfl] at HC ⊢
          have PK := hide (mkL (k := 6) (Or.inr (Or.inl rfl)) HC.out l)
          have hb1 := below_new W0 (.cells #[.int .i64 6, .int .u64 0, .int .u32 0, .slice none 0 0, .int .u32 0, .slice none 0 0, .slice none 0 0] 52)
          have HX := hide (MBox.new W0 (.int .i64 6) (.int .u64 0) (.int .u32 0) (.slice none 0 0) (.int .u32 0) (.slice none 0 0) (.slice none 0 0) 52)
          have HQT : Hid ((W0.alloc (.cells #[.int .i64 6, .int .u64 0, .int .u32 0, .slice none 0 0, .int .u32 0, .slice none 0 0, .slice none 0 0] 52)).there W0.heap.size 0 7) := hide (there_new W0 _ _)
          have HT := hide (there_on HT0.out hb1)
          have HB := hide (HB0.out.trans (hb1.mono HBG0.out))
          have HBG : Hid (g ≤ (W0.alloc (.cells #[.int .i64 6, .int .u64 0, .int .u32 0, .slice none 0 0, .int .u32 0, .slice none 0 0, .slice none 0 0] 52)).heap.size) := hide (Nat.le_trans HBG0.out hb1.size)
          have HSZ : Hid ((W0.alloc (.cells #[.int .i64 6, .int .u64 0, .int .u32 0, .slice none 0 0, .int .u32 0, .slice none 0 0, .slice none 0 0] 52)).heap.size = W0.heap.size + 1) := hide (alloc_size _ _)
          have FX : Hid (∀ w, Calls Try.prog 36 #[.int .i64 6] w fun e w' => e = .returned (.int .i64 (-1)) ∧ w' = w) := hide (fun w => rfixed_kind w 6 (by decide))
          clear hb1 HT0 HB0
          go_upto_region 7 with fail
          generalize W0.alloc (.cells #[.int .i64 6, .int .u64 0, .int .u32 0, .slice none 0 0, .int .u32 0, .slice none 0 0, .slice none 0 0] 52) = W at *
          generalize W0.heap.size = q at *
          go_wp2_with fail
          refine (FX.out _).mono ?_
          rintro e w2 ⟨rfl, hw2⟩
          rw [hw2]
          clear hw2 FX
          have RD : Hid (∀ wx, Below g w wx → Calls Try.prog 38 #[.slice a l.length cap] wx fun e w' => e = .returned (.tuple #[.int .u64 (readX l), .int .i64 (readN l), .int .i64 (readE l)]) ∧ Below wx.heap.size wx w') := hide (fun wx h => rread_any l _ wx (HVB.out wx h) HBB.out)
          by_cases hE : readE l = 0
          · obtain ⟨m, hm, hm1, hm2, hm9, -, hx0, hx1⟩ := read_ok l HBB.out hE
            obtain ⟨p, hp⟩ : ∃ p : Nat, readX l = p := ⟨(readX l).toNat, by omega⟩
            have QK := PK.out.2
            rw [hE, hm, hp] at QK RD
            clear PK hE hm hp hx0 hx1 hm9
            have RD := hide RD.out
            rw [Int.toNat_natCast m, Int.toNat_natCast p] at QK
            have QK := hide QK
            by_cases hp0 : p = 0
            · subst hp0
              go_wp2_with fail
              refine (RD.out _ HB.out).mono ?_
              rintro e w3 ⟨rfl, hb3⟩
              have HX := hide (HX.out.on hb3)
              have HT := hide (there_on HT.out hb3)
              have HQT := hide (there_on HQT.out hb3)
              have HB := hide (HB.out.trans (hb3.mono HBG.out))
              have HBG : Hid (g ≤ w3.heap.size) := hide (Nat.le_trans HBG.out hb3.size)
              clear RD
              clear hb3
              have R := dmget_bad c l w w3 9 (QK.out.1 (by trivial) (by trivial)) (by decide) (by rw [HG.out]; exact HB.out)
              rw [HG.out] at R
              have R := hide R
              go_wp2_with (refine wp_store_row rfl 52 (.tmp 4) (.tmp 112) rfl g 0 [.int .i64 0, .int .u64 0, .int .u32 0, .slice none 0 0, .int .u32 0, .slice none 0 0, .slice none 0 0] rfl rfl HT.out info_msg zero7_one ?_)
              exact ret_row_tmp 4 5 52 rfl g 0 rfl [.int .i64 0, .int .u64 0, .int .u32 0, .slice none 0 0, .int .u32 0, .slice none 0 0, .slice none 0 0] (World.rangeAt_setCells_same _ _ _ _ HT.out) _ Try.underlying52 rfl info_msg _ rfl rfl R.out
            · have ep0 : ¬ (p : Int) = 0 := by omega
              by_cases hp32 : 32 < p
              · have ep32 : (32 : Int) < (p : Int) := by omega
                go_wp2_with fail
                refine (RD.out _ HB.out).mono ?_
                rintro e w3 ⟨rfl, hb3⟩
                have HX := hide (HX.out.on hb3)
                have HT := hide (there_on HT.out hb3)
                have HQT := hide (there_on HQT.out hb3)
                have HB := hide (HB.out.trans (hb3.mono HBG.out))
                have HBG : Hid (g ≤ w3.heap.size) := hide (Nat.le_trans HBG.out hb3.size)
                clear RD
                clear hb3
                have R := dmget_bad c l w w3 5 (QK.out.2.1 (by trivial) (by omega) (by omega)) (by decide) (by rw [HG.out]; exact HB.out)
                rw [HG.out] at R
                have R := hide R
                go_wp2_with (refine wp_store_row rfl 52 (.tmp 4) (.tmp 115) rfl g 0 [.int .i64 0, .int .u64 0, .int .u32 0, .slice none 0 0, .int .u32 0, .slice none 0 0, .slice none 0 0] rfl rfl HT.out info_msg zero7_one ?_)
                exact ret_row_tmp 4 5 52 rfl g 0 rfl [.int .i64 0, .int .u64 0, .int .u32 0, .slice none 0 0, .int .u32 0, .slice none 0 0, .slice none 0 0] (World.rangeAt_setCells_same _ _ _ _ HT.out) _ Try.underlying52 rfl info_msg _ rfl rfl R.out
              · have ep32 : ¬ (32 : Int) < (p : Int) := by omega
                have hw1 : IntKind.i64.wrap (p : Int) = (p : Int) := by simp [IntKind.wrap, IntKind.bits, IntKind.signed]; omega
                have hw2 : IntKind.i64.wrap (32 * (p : Int)) = 32 * (p : Int) := by simp [IntKind.wrap, IntKind.bits, IntKind.signed]; omega
                have TK := hide (QK.out.2.2 (by trivial) (by omega) (by omega))
                clear QK
                have hmc : (m : Int) ≤ (l.length : Int) := by omega
                by_cases hs4 : l.length - m < p * 32
                · have e4 : (l.length : Int) - (m : Int) < 32 * (p : Int) := by omega
                  go_wp2_with fail
                  refine (RD.out _ HB.out).mono ?_
                  rintro e w3 ⟨rfl, hb3⟩
                  have HX := hide (HX.out.on hb3)
                  have HT := hide (there_on HT.out hb3)
                  have HQT := hide (there_on HQT.out hb3)
                  have HB := hide (HB.out.trans (hb3.mono HBG.out))
                  have HBG : Hid (g ≤ w3.heap.size) := hide (Nat.le_trans HBG.out hb3.size)
                  clear RD
                  clear hb3
                  have R := dmget_bad c l w w3 4 (TK.out.1 hs4) (by decide) (by rw [HG.out]; exact HB.out)
                  rw [HG.out] at R
                  have R := hide R
                  go_wp2_with (refine wp_store_row rfl 52 (.tmp 4) (.tmp 124) rfl g 0 [.int .i64 0, .int .u64 0, .int .u32 0, .slice none 0 0, .int .u32 0, .slice none 0 0, .slice none 0 0] rfl rfl HT.out info_msg zero7_one ?_)
                  exact ret_row_tmp 4 5 52 rfl g 0 rfl [.int .i64 0, .int .u64 0, .int .u32 0, .slice none 0 0, .int .u32 0, .slice none 0 0, .slice none 0 0] (World.rangeAt_setCells_same _ _ _ _ HT.out) _ Try.underlying52 rfl info_msg _ rfl rfl R.out
                · have e4 : ¬ (l.length : Int) - (m : Int) < 32 * (p : Int) := by omega
                  by_cases hs5 : p * 32 < l.length - m
                  · have e5 : 32 * (p : Int) < (l.length : Int) - (m : Int) := by omega
                    go_wp2_with fail
                    refine (RD.out _ HB.out).mono ?_
                    rintro e w3 ⟨rfl, hb3⟩
                    have HX := hide (HX.out.on hb3)
                    have HT := hide (there_on HT.out hb3)
                    have HQT := hide (there_on HQT.out hb3)
                    have HB := hide (HB.out.trans (hb3.mono HBG.out))
                    have HBG : Hid (g ≤ w3.heap.size) := hide (Nat.le_trans HBG.out hb3.size)
                    clear RD
                    clear hb3
                    have R := dmget_bad c l w w3 5 (TK.out.2.1 hs5) (by decide) (by rw [HG.out]; exact HB.out)
                    rw [HG.out] at R
                    have R := hide R
                    go_wp2_with (refine wp_store_row rfl 52 (.tmp 4) (.tmp 133) rfl g 0 [.int .i64 0, .int .u64 0, .int .u32 0, .slice none 0 0, .int .u32 0, .slice none 0 0, .slice none 0 0] rfl rfl HT.out info_msg zero7_one ?_)
                    exact ret_row_tmp 4 5 52 rfl g 0 rfl [.int .i64 0, .int .u64 0, .int .u32 0, .slice none 0 0, .int .u32 0, .slice none 0 0, .slice none 0 0] (World.rangeAt_setCells_same _ _ _ _ HT.out) _ Try.underlying52 rfl info_msg _ rfl rfl R.out
                  · have e5 : ¬ 32 * (p : Int) < (l.length : Int) - (m : Int) := by omega
                    have HS0 : Hid (l.length - m = p * 32) := hide (by omega)
                    obtain ⟨a2, c2, hrun2, hb2⟩ := tail_of a l.length cap m .i64 (by omega)
                    have HR2 := hide hrun2
                    have G1 : Hid (∀ wx, Below g w wx → Calls Try.prog 37 #[.slice a2 (l.length - m) c2] wx fun e w' => ∃ v', e = .returned v' ∧ Below wx.heap.size wx w' ∧ RowOwn w' wx.heap.size 40 32 v' ((hsL (l.drop m)).map (vals .u8))) := hide (fun wx h => rids_any (l.drop m) _ wx (hb2 _ _ (HVB.out wx h)) (by simp; omega) p (by rw [List.length_drop]; omega))
                    have PM := hide (TK.out.2.2 HS0.out)
                    clear hrun2 hb2 TK
                    generalize hsL (l.drop m) = I at *
                    go_wp2_with fail
                    refine (RD.out _ HB.out).mono ?_
                    rintro e w3 ⟨rfl, hb3⟩
                    have HX := hide (HX.out.on hb3)
                    have HT := hide (there_on HT.out hb3)
                    have HQT := hide (there_on HQT.out hb3)
                    have HB := hide (HB.out.trans (hb3.mono HBG.out))
                    have HBG : Hid (g ≤ w3.heap.size) := hide (Nat.le_trans HBG.out hb3.size)
                    clear RD
                    have HSW : Hid (g + 2 ≤ w3.heap.size) := hide (by have := hb3.size; have := HSZ.out; have := HGQ1.out; omega)
                    clear hb3
                    go_wp2_with (refine wp_from rfl (.tmp 134) (.tmp 135) rfl _ _ _ rfl rfl HR2.out ?_)
                    refine (G1.out _ HB.out).mono ?_
                    rintro e w4 ⟨v4, rfl, hb4, hown4⟩
                    obtain ⟨va, nn, vc, rfl⟩ : ∃ va nn vc, v4 = .slice va nn vc := hown4.row.form.elim fun a h => h.elim fun c h => ⟨a, _, c, h.1⟩
                    have HK : Hid (Keeps (fun k => g + 2 ≤ k) w4 fun w => IdsAt w (.slice va nn vc) I) := hide (hown4.keeps.weak fun k _ h => by have := HSW.out; omega)
                    have HX := hide (HX.out.on hb4)
                    have HT := hide (there_on HT.out hb4)
                    have HQT := hide (there_on HQT.out hb4)
                    have HB := hide (HB.out.trans (hb4.mono HBG.out))
                    have HBG : Hid (g ≤ w4.heap.size) := hide (Nat.le_trans HBG.out hb4.size)
                    clear hb4 hown4 G1 HR2
                    obtain ⟨c0, c1, c2, c3, c4, c5, c6⟩ := HX.out
                    obtain ⟨-, -, -, -, -, -, -, -, f0, f1, f2, f3, f4, f5, f6⟩ := there7 HQT.out
                    have HX := hide (HX.out.s3 (.slice va nn vc))
                    have HT := hide (there_setC HT.out ⟨q, 3, none⟩ (.slice va nn vc))
                    have HQT := hide (there_setC HQT.out ⟨q, 3, none⟩ (.slice va nn vc))
                    have HB := hide (below_set HB.out (show g ≤ (⟨q, 3, none⟩ : Addr).block from HGQ.out) (.slice va nn vc))
                    have HBG : Hid (g ≤ (w4.setCell ⟨q, 3, none⟩ (.slice va nn vc)).heap.size) := hide (by rw [size_setCell]; exact HBG.out)
                    have HK := hide (keeps_cell (i := 3) HK.out (show q < g + 2 by have := HGQ1.out; omega) (.slice va nn vc))
                    go_upto_region 49 with fail
                    generalize w4.setCell ⟨q, 3, none⟩ (.slice va nn vc) = W2 at *
                    clear c0 c1 c2 c3 c4 c5 c6 f0 f1 f2 f3 f4 f5 f6
                    have R := dmget_good c l w W2 ⟨6, 0, 0, I, noTr⟩ (.slice va nn vc) (.slice none 0 0) (.slice none 0 0) PM.out.1 PM.out.2 (by rw [HG.out]; exact HB.out) (by rw [HG.out]; exact ((HK.out.map fun w h => (⟨h, TxAt.none w⟩ : MsgAt w _ _ _ _)).weak fun k _ h => by omega)) [.int .i64 6, .int .u64 0, .int .u32 0, .slice va nn vc, .int .u32 0, .slice none 0 0, .slice none 0 0]
                    rw [HG.out] at R
                    have R := hide R
                    have ONE : Hid (∀ u ∈ ([.int .i64 6, .int .u64 0, .int .u32 0, .slice va nn vc, .int .u32 0, .slice none 0 0, .slice none 0 0] : List Value), u.oneCell' = true) := hide (by simp [Value.oneCell'])
                    go_wp2_with (first | (refine wpList_load_mid rfl 52 (.tmp 7) rfl q 0 rfl [.int .i64 6, .int .u64 0, .int .u32 0, .slice va nn vc, .int .u32 0, .slice none 0 0, .slice none 0 0] _ (range7 HX.out) Try.underlying52 rfl info_msg ?_) | (refine wp_store_row rfl 52 (.tmp 4) (.tmp 153) rfl g 0 [.int .i64 6, .int .u64 0, .int .u32 0, .slice va nn vc, .int .u32 0, .slice none 0 0, .slice none 0 0] rfl rfl HT.out info_msg ONE.out ?_))
                    exact ret_row_tmp 4 5 52 rfl g 0 rfl [.int .i64 6, .int .u64 0, .int .u32 0, .slice va nn vc, .int .u32 0, .slice none 0 0, .slice none 0 0] (World.rangeAt_setCells_same _ _ _ _ HT.out) _ Try.underlying52 rfl info_msg _ rfl rfl R.out
          · have PM := hide (PK.out.1 hE)
            clear PK
            have HEE := hide hE
            generalize readE l = ee at *
            generalize readX l = xx at *
            generalize readN l = nx at *
            go_wp2_with fail
            refine (RD.out _ HB.out).mono ?_
            rintro e w3 ⟨rfl, hb3⟩
            have HX := hide (HX.out.on hb3)
            have HT := hide (there_on HT.out hb3)
            have HQT := hide (there_on HQT.out hb3)
            have HB := hide (HB.out.trans (hb3.mono HBG.out))
            have HBG : Hid (g ≤ w3.heap.size) := hide (Nat.le_trans HBG.out hb3.size)
            clear RD
            clear hb3
            have R := dmget_bad c l w w3 ee PM.out HEE.out (by rw [HG.out]; exact HB.out)
            rw [HG.out] at R
            have R := hide R
            go_wp2_with (refine wp_store_row rfl 52 (.tmp 4) (.tmp 108) rfl g 0 [.int .i64 0, .int .u64 0, .int .u32 0, .slice none 0 0, .int .u32 0, .slice none 0 0, .slice none 0 0] rfl rfl HT.out info_msg zero7_one ?_)
            exact ret_row_tmp 4 5 52 rfl g 0 rfl [.int .i64 0, .int .u64 0, .int .u32 0, .slice none 0 0, .int .u32 0, .slice none 0 0, .slice none 0 0] (World.rangeAt_setCells_same _ _ _ _ HT.out) _ Try.underlying52 rfl info_msg _ rfl rfl R.out
        · rw [show ((7 : Nat) : Int) = 7 from rfl] at HC ⊢
          have PK := hide (mkL (k := 7) (Or.inr (Or.inr rfl)) HC.out l)
          have hb1 := below_new W0 (.cells #[.int .i64 7, .int .u64 0, .int .u32 0, .slice none 0 0, .int .u32 0, .slice none 0 0, .slice none 0 0] 52)
          have HX := hide (MBox.new W0 (.int .i64 7) (.int .u64 0) (.int .u32 0) (.slice none 0 0) (.int .u32 0) (.slice none 0 0) (.slice none 0 0) 52)
          have HQT : Hid ((W0.alloc (.cells #[.int .i64 7, .int .u64 0, .int .u32 0, .slice none 0 0, .int .u32 0, .slice none 0 0, .slice none 0 0] 52)).there W0.heap.size 0 7) := hide (there_new W0 _ _)
          have HT := hide (there_on HT0.out hb1)
          have HB := hide (HB0.out.trans (hb1.mono HBG0.out))
          have HBG : Hid (g ≤ (W0.alloc (.cells #[.int .i64 7, .int .u64 0, .int .u32 0, .slice none 0 0, .int .u32 0, .slice none 0 0, .slice none 0 0] 52)).heap.size) := hide (Nat.le_trans HBG0.out hb1.size)
          have HSZ : Hid ((W0.alloc (.cells #[.int .i64 7, .int .u64 0, .int .u32 0, .slice none 0 0, .int .u32 0, .slice none 0 0, .slice none 0 0] 52)).heap.size = W0.heap.size + 1) := hide (alloc_size _ _)
          have FX : Hid (∀ w, Calls Try.prog 36 #[.int .i64 7] w fun e w' => e = .returned (.int .i64 (-1)) ∧ w' = w) := hide (fun w => rfixed_kind w 7 (by decide))
          clear hb1 HT0 HB0
          go_upto_region 7 with fail
          generalize W0.alloc (.cells #[.int .i64 7, .int .u64 0, .int .u32 0, .slice none 0 0, .int .u32 0, .slice none 0 0, .slice none 0 0] 52) = W at *
          generalize W0.heap.size = q at *
          go_wp2_with fail
          refine (FX.out _).mono ?_
          rintro e w2 ⟨rfl, hw2⟩
          rw [hw2]
          clear hw2 FX
          have RD : Hid (∀ wx, Below g w wx → Calls Try.prog 38 #[.slice a l.length cap] wx fun e w' => e = .returned (.tuple #[.int .u64 (readX l), .int .i64 (readN l), .int .i64 (readE l)]) ∧ Below wx.heap.size wx w') := hide (fun wx h => rread_any l _ wx (HVB.out wx h) HBB.out)
          by_cases hE : readE l = 0
          · obtain ⟨m, hm, hm1, hm2, hm9, -, hx0, hx1⟩ := read_ok l HBB.out hE
            obtain ⟨p, hp⟩ : ∃ p : Nat, readX l = p := ⟨(readX l).toNat, by omega⟩
            have QK := PK.out.2
            rw [hE, hm, hp] at QK RD
            clear PK hE hm hp hx0 hx1 hm9
            have RD := hide RD.out
            rw [Int.toNat_natCast m, Int.toNat_natCast p] at QK
            have QK := hide QK
            by_cases hp0 : p = 0
            · subst hp0
              go_wp2_with fail
              refine (RD.out _ HB.out).mono ?_
              rintro e w3 ⟨rfl, hb3⟩
              have HX := hide (HX.out.on hb3)
              have HT := hide (there_on HT.out hb3)
              have HQT := hide (there_on HQT.out hb3)
              have HB := hide (HB.out.trans (hb3.mono HBG.out))
              have HBG : Hid (g ≤ w3.heap.size) := hide (Nat.le_trans HBG.out hb3.size)
              clear RD
              clear hb3
              have R := dmget_bad c l w w3 9 (QK.out.1 (by trivial) (by trivial)) (by decide) (by rw [HG.out]; exact HB.out)
              rw [HG.out] at R
              have R := hide R
              go_wp2_with (refine wp_store_row rfl 52 (.tmp 4) (.tmp 112) rfl g 0 [.int .i64 0, .int .u64 0, .int .u32 0, .slice none 0 0, .int .u32 0, .slice none 0 0, .slice none 0 0] rfl rfl HT.out info_msg zero7_one ?_)
              exact ret_row_tmp 4 5 52 rfl g 0 rfl [.int .i64 0, .int .u64 0, .int .u32 0, .slice none 0 0, .int .u32 0, .slice none 0 0, .slice none 0 0] (World.rangeAt_setCells_same _ _ _ _ HT.out) _ Try.underlying52 rfl info_msg _ rfl rfl R.out
            · have ep0 : ¬ (p : Int) = 0 := by omega
              by_cases hp32 : 32 < p
              · have ep32 : (32 : Int) < (p : Int) := by omega
                go_wp2_with fail
                refine (RD.out _ HB.out).mono ?_
                rintro e w3 ⟨rfl, hb3⟩
                have HX := hide (HX.out.on hb3)
                have HT := hide (there_on HT.out hb3)
                have HQT := hide (there_on HQT.out hb3)
                have HB := hide (HB.out.trans (hb3.mono HBG.out))
                have HBG : Hid (g ≤ w3.heap.size) := hide (Nat.le_trans HBG.out hb3.size)
                clear RD
                clear hb3
                have R := dmget_bad c l w w3 5 (QK.out.2.1 (by trivial) (by omega) (by omega)) (by decide) (by rw [HG.out]; exact HB.out)
                rw [HG.out] at R
                have R := hide R
                go_wp2_with (refine wp_store_row rfl 52 (.tmp 4) (.tmp 115) rfl g 0 [.int .i64 0, .int .u64 0, .int .u32 0, .slice none 0 0, .int .u32 0, .slice none 0 0, .slice none 0 0] rfl rfl HT.out info_msg zero7_one ?_)
                exact ret_row_tmp 4 5 52 rfl g 0 rfl [.int .i64 0, .int .u64 0, .int .u32 0, .slice none 0 0, .int .u32 0, .slice none 0 0, .slice none 0 0] (World.rangeAt_setCells_same _ _ _ _ HT.out) _ Try.underlying52 rfl info_msg _ rfl rfl R.out
              · have ep32 : ¬ (32 : Int) < (p : Int) := by omega
                have hw1 : IntKind.i64.wrap (p : Int) = (p : Int) := by simp [IntKind.wrap, IntKind.bits, IntKind.signed]; omega
                have hw2 : IntKind.i64.wrap (32 * (p : Int)) = 32 * (p : Int) := by simp [IntKind.wrap, IntKind.bits, IntKind.signed]; omega
                have TK := hide (QK.out.2.2 (by trivial) (by omega) (by omega))
                clear QK
                have hmc : (m : Int) ≤ (l.length : Int) := by omega
                by_cases hs4 : l.length - m < p * 32
                · have e4 : (l.length : Int) - (m : Int) < 32 * (p : Int) := by omega
                  go_wp2_with fail
                  refine (RD.out _ HB.out).mono ?_
                  rintro e w3 ⟨rfl, hb3⟩
                  have HX := hide (HX.out.on hb3)
                  have HT := hide (there_on HT.out hb3)
                  have HQT := hide (there_on HQT.out hb3)
                  have HB := hide (HB.out.trans (hb3.mono HBG.out))
                  have HBG : Hid (g ≤ w3.heap.size) := hide (Nat.le_trans HBG.out hb3.size)
                  clear RD
                  clear hb3
                  have R := dmget_bad c l w w3 4 (TK.out.1 hs4) (by decide) (by rw [HG.out]; exact HB.out)
                  rw [HG.out] at R
                  have R := hide R
                  go_wp2_with (refine wp_store_row rfl 52 (.tmp 4) (.tmp 124) rfl g 0 [.int .i64 0, .int .u64 0, .int .u32 0, .slice none 0 0, .int .u32 0, .slice none 0 0, .slice none 0 0] rfl rfl HT.out info_msg zero7_one ?_)
                  exact ret_row_tmp 4 5 52 rfl g 0 rfl [.int .i64 0, .int .u64 0, .int .u32 0, .slice none 0 0, .int .u32 0, .slice none 0 0, .slice none 0 0] (World.rangeAt_setCells_same _ _ _ _ HT.out) _ Try.underlying52 rfl info_msg _ rfl rfl R.out
                · have e4 : ¬ (l.length : Int) - (m : Int) < 32 * (p : Int) := by omega
                  by_cases hs5 : p * 32 < l.length - m
                  · have e5 : 32 * (p : Int) < (l.length : Int) - (m : Int) := by omega
                    go_wp2_with fail
                    refine (RD.out _ HB.out).mono ?_
                    rintro e w3 ⟨rfl, hb3⟩
                    have HX := hide (HX.out.on hb3)
                    have HT := hide (there_on HT.out hb3)
                    have HQT := hide (there_on HQT.out hb3)
                    have HB := hide (HB.out.trans (hb3.mono HBG.out))
                    have HBG : Hid (g ≤ w3.heap.size) := hide (Nat.le_trans HBG.out hb3.size)
                    clear RD
                    clear hb3
                    have R := dmget_bad c l w w3 5 (TK.out.2.1 hs5) (by decide) (by rw [HG.out]; exact HB.out)
                    rw [HG.out] at R
                    have R := hide R
                    go_wp2_with (refine wp_store_row rfl 52 (.tmp 4) (.tmp 133) rfl g 0 [.int .i64 0, .int .u64 0, .int .u32 0, .slice none 0 0, .int .u32 0, .slice none 0 0, .slice none 0 0] rfl rfl HT.out info_msg zero7_one ?_)
                    exact ret_row_tmp 4 5 52 rfl g 0 rfl [.int .i64 0, .int .u64 0, .int .u32 0, .slice none 0 0, .int .u32 0, .slice none 0 0, .slice none 0 0] (World.rangeAt_setCells_same _ _ _ _ HT.out) _ Try.underlying52 rfl info_msg _ rfl rfl R.out
                  · have e5 : ¬ 32 * (p : Int) < (l.length : Int) - (m : Int) := by omega
                    have HS0 : Hid (l.length - m = p * 32) := hide (by omega)
                    obtain ⟨a2, c2, hrun2, hb2⟩ := tail_of a l.length cap m .i64 (by omega)
                    have HR2 := hide hrun2
                    have G1 : Hid (∀ wx, Below g w wx → Calls Try.prog 37 #[.slice a2 (l.length - m) c2] wx fun e w' => ∃ v', e = .returned v' ∧ Below wx.heap.size wx w' ∧ RowOwn w' wx.heap.size 40 32 v' ((hsL (l.drop m)).map (vals .u8))) := hide (fun wx h => rids_any (l.drop m) _ wx (hb2 _ _ (HVB.out wx h)) (by simp; omega) p (by rw [List.length_drop]; omega))
                    have PM := hide (TK.out.2.2 HS0.out)
                    clear hrun2 hb2 TK
                    generalize hsL (l.drop m) = I at *
                    go_wp2_with fail
                    refine (RD.out _ HB.out).mono ?_
                    rintro e w3 ⟨rfl, hb3⟩
                    have HX := hide (HX.out.on hb3)
                    have HT := hide (there_on HT.out hb3)
                    have HQT := hide (there_on HQT.out hb3)
                    have HB := hide (HB.out.trans (hb3.mono HBG.out))
                    have HBG : Hid (g ≤ w3.heap.size) := hide (Nat.le_trans HBG.out hb3.size)
                    clear RD
                    have HSW : Hid (g + 2 ≤ w3.heap.size) := hide (by have := hb3.size; have := HSZ.out; have := HGQ1.out; omega)
                    clear hb3
                    go_wp2_with (refine wp_from rfl (.tmp 134) (.tmp 135) rfl _ _ _ rfl rfl HR2.out ?_)
                    refine (G1.out _ HB.out).mono ?_
                    rintro e w4 ⟨v4, rfl, hb4, hown4⟩
                    obtain ⟨va, nn, vc, rfl⟩ : ∃ va nn vc, v4 = .slice va nn vc := hown4.row.form.elim fun a h => h.elim fun c h => ⟨a, _, c, h.1⟩
                    have HK : Hid (Keeps (fun k => g + 2 ≤ k) w4 fun w => IdsAt w (.slice va nn vc) I) := hide (hown4.keeps.weak fun k _ h => by have := HSW.out; omega)
                    have HX := hide (HX.out.on hb4)
                    have HT := hide (there_on HT.out hb4)
                    have HQT := hide (there_on HQT.out hb4)
                    have HB := hide (HB.out.trans (hb4.mono HBG.out))
                    have HBG : Hid (g ≤ w4.heap.size) := hide (Nat.le_trans HBG.out hb4.size)
                    clear hb4 hown4 G1 HR2
                    obtain ⟨c0, c1, c2, c3, c4, c5, c6⟩ := HX.out
                    obtain ⟨-, -, -, -, -, -, -, -, f0, f1, f2, f3, f4, f5, f6⟩ := there7 HQT.out
                    have HX := hide (HX.out.s3 (.slice va nn vc))
                    have HT := hide (there_setC HT.out ⟨q, 3, none⟩ (.slice va nn vc))
                    have HQT := hide (there_setC HQT.out ⟨q, 3, none⟩ (.slice va nn vc))
                    have HB := hide (below_set HB.out (show g ≤ (⟨q, 3, none⟩ : Addr).block from HGQ.out) (.slice va nn vc))
                    have HBG : Hid (g ≤ (w4.setCell ⟨q, 3, none⟩ (.slice va nn vc)).heap.size) := hide (by rw [size_setCell]; exact HBG.out)
                    have HK := hide (keeps_cell (i := 3) HK.out (show q < g + 2 by have := HGQ1.out; omega) (.slice va nn vc))
                    go_upto_region 49 with fail
                    generalize w4.setCell ⟨q, 3, none⟩ (.slice va nn vc) = W2 at *
                    clear c0 c1 c2 c3 c4 c5 c6 f0 f1 f2 f3 f4 f5 f6
                    have R := dmget_good c l w W2 ⟨7, 0, 0, I, noTr⟩ (.slice va nn vc) (.slice none 0 0) (.slice none 0 0) PM.out.1 PM.out.2 (by rw [HG.out]; exact HB.out) (by rw [HG.out]; exact ((HK.out.map fun w h => (⟨h, TxAt.none w⟩ : MsgAt w _ _ _ _)).weak fun k _ h => by omega)) [.int .i64 7, .int .u64 0, .int .u32 0, .slice va nn vc, .int .u32 0, .slice none 0 0, .slice none 0 0]
                    rw [HG.out] at R
                    have R := hide R
                    have ONE : Hid (∀ u ∈ ([.int .i64 7, .int .u64 0, .int .u32 0, .slice va nn vc, .int .u32 0, .slice none 0 0, .slice none 0 0] : List Value), u.oneCell' = true) := hide (by simp [Value.oneCell'])
                    go_wp2_with (first | (refine wpList_load_mid rfl 52 (.tmp 7) rfl q 0 rfl [.int .i64 7, .int .u64 0, .int .u32 0, .slice va nn vc, .int .u32 0, .slice none 0 0, .slice none 0 0] _ (range7 HX.out) Try.underlying52 rfl info_msg ?_) | (refine wp_store_row rfl 52 (.tmp 4) (.tmp 153) rfl g 0 [.int .i64 7, .int .u64 0, .int .u32 0, .slice va nn vc, .int .u32 0, .slice none 0 0, .slice none 0 0] rfl rfl HT.out info_msg ONE.out ?_))
                    exact ret_row_tmp 4 5 52 rfl g 0 rfl [.int .i64 7, .int .u64 0, .int .u32 0, .slice va nn vc, .int .u32 0, .slice none 0 0, .slice none 0 0] (World.rangeAt_setCells_same _ _ _ _ HT.out) _ Try.underlying52 rfl info_msg _ rfl rfl R.out
          · have PM := hide (PK.out.1 hE)
            clear PK
            have HEE := hide hE
            generalize readE l = ee at *
            generalize readX l = xx at *
            generalize readN l = nx at *
            go_wp2_with fail
            refine (RD.out _ HB.out).mono ?_
            rintro e w3 ⟨rfl, hb3⟩
            have HX := hide (HX.out.on hb3)
            have HT := hide (there_on HT.out hb3)
            have HQT := hide (there_on HQT.out hb3)
            have HB := hide (HB.out.trans (hb3.mono HBG.out))
            have HBG : Hid (g ≤ w3.heap.size) := hide (Nat.le_trans HBG.out hb3.size)
            clear RD
            clear hb3
            have R := dmget_bad c l w w3 ee PM.out HEE.out (by rw [HG.out]; exact HB.out)
            rw [HG.out] at R
            have R := hide R
            go_wp2_with (refine wp_store_row rfl 52 (.tmp 4) (.tmp 108) rfl g 0 [.int .i64 0, .int .u64 0, .int .u32 0, .slice none 0 0, .int .u32 0, .slice none 0 0, .slice none 0 0] rfl rfl HT.out info_msg zero7_one ?_)
            exact ret_row_tmp 4 5 52 rfl g 0 rfl [.int .i64 0, .int .u64 0, .int .u32 0, .slice none 0 0, .int .u32 0, .slice none 0 0, .slice none 0 0] (World.rangeAt_setCells_same _ _ _ _ HT.out) _ Try.underlying52 rfl info_msg _ rfl rfl R.out
        · rw [show ((8 : Nat) : Int) = 8 from rfl] at HC ⊢
          have PK := hide (mkT (k := 8) (Or.inl rfl) HC.out l)
          have hb1 := below_new W0 (.cells #[.int .i64 8, .int .u64 0, .int .u32 0, .slice none 0 0, .int .u32 0, .slice none 0 0, .slice none 0 0] 52)
          have HX := hide (MBox.new W0 (.int .i64 8) (.int .u64 0) (.int .u32 0) (.slice none 0 0) (.int .u32 0) (.slice none 0 0) (.slice none 0 0) 52)
          have HQT : Hid ((W0.alloc (.cells #[.int .i64 8, .int .u64 0, .int .u32 0, .slice none 0 0, .int .u32 0, .slice none 0 0, .slice none 0 0] 52)).there W0.heap.size 0 7) := hide (there_new W0 _ _)
          have HT := hide (there_on HT0.out hb1)
          have HB := hide (HB0.out.trans (hb1.mono HBG0.out))
          have HBG : Hid (g ≤ (W0.alloc (.cells #[.int .i64 8, .int .u64 0, .int .u32 0, .slice none 0 0, .int .u32 0, .slice none 0 0, .slice none 0 0] 52)).heap.size) := hide (Nat.le_trans HBG0.out hb1.size)
          have HSZ : Hid ((W0.alloc (.cells #[.int .i64 8, .int .u64 0, .int .u32 0, .slice none 0 0, .int .u32 0, .slice none 0 0, .slice none 0 0] 52)).heap.size = W0.heap.size + 1) := hide (alloc_size _ _)
          have FX : Hid (∀ w, Calls Try.prog 36 #[.int .i64 8] w fun e w' => e = .returned (.int .i64 (-1)) ∧ w' = w) := hide (fun w => rfixed_kind w 8 (by decide))
          clear hb1 HT0 HB0
          go_upto_region 7 with fail
          generalize W0.alloc (.cells #[.int .i64 8, .int .u64 0, .int .u32 0, .slice none 0 0, .int .u32 0, .slice none 0 0, .slice none 0 0] 52) = W at *
          generalize W0.heap.size = q at *
          go_wp2_with fail
          refine (FX.out _).mono ?_
          rintro e w2 ⟨rfl, hw2⟩
          rw [hw2]
          clear hw2 FX
          have WH : Hid (∀ wx, Below g w wx → Calls Try.prog 10 #[.slice a l.length cap] wx (WholeDone wx l)) := hide (fun wx h => rwhole7_any l _ wx (HVB.out wx h) HBB.out (by have := HLL.out; omega))
          unfold WholeDone at WH
          generalize whT l = T at *
          generalize whE l = ee at *
          go_wp2_with fail
          refine (WH.out _ HB.out).mono ?_
          rintro e w3 ⟨iv, ov, rfl, hb3, hk3⟩
          obtain ⟨ia, ic, rfl, -, -⟩ := hk3.self.1.form
          obtain ⟨oa, oc, rfl, -, -⟩ := hk3.self.2.form
          have hb4 := below_on hb3 (below_new w3 (.cells #[.int .u32 T.ver, .slice ia T.ins.length ic, .slice oa T.outs.length oc] 28))
          obtain ⟨n0, n1, n2⟩ := TBox.new w3 (.int .u32 T.ver) (.slice ia T.ins.length ic) (.slice oa T.outs.length oc) 28
          have HK : Hid (Keeps (fun k => g + 2 ≤ k) (w3.alloc (.cells #[.int .u32 T.ver, .slice ia T.ins.length ic, .slice oa T.outs.length oc] 28)) fun w => TxAt w (.slice ia T.ins.length ic) (.slice oa T.outs.length oc) T) := hide ((hk3.below (below_new w3 _)).weak fun k _ h => by have := HSZ.out; have := HGQ1.out; omega)
          have HX := hide (HX.out.on hb4)
          have HT := hide (there_on HT.out hb4)
          have HQT := hide (there_on HQT.out hb4)
          have HB := hide (HB.out.trans (hb4.mono HBG.out))
          have HBG : Hid (g ≤ (w3.alloc (.cells #[.int .u32 T.ver, .slice ia T.ins.length ic, .slice oa T.outs.length oc] 28)).heap.size) := hide (Nat.le_trans HBG.out hb4.size)
          clear hb3 hb4 hk3 WH
          go_upto_region 46 with fail
          generalize w3.alloc (.cells #[.int .u32 T.ver, .slice ia T.ins.length ic, .slice oa T.outs.length oc] 28) = W2 at *
          generalize w3.heap.size = tq at *
          by_cases he : ee = 0
          · subst he
            obtain ⟨c0, c1, c2, c3, c4, c5, c6⟩ := HX.out
            obtain ⟨-, -, -, -, -, -, -, -, f0, f1, f2, f3, f4, f5, f6⟩ := there7 HQT.out
            have HX := hide (((HX.out.s4 (.int .u32 T.ver)).s5 (.slice ia T.ins.length ic)).s6 (.slice oa T.outs.length oc))
            have HT := hide (there_setC (there_setC (there_setC HT.out ⟨q, 4, none⟩ (.int .u32 T.ver)) ⟨q, 5, none⟩ (.slice ia T.ins.length ic)) ⟨q, 6, none⟩ (.slice oa T.outs.length oc))
            have HB := hide (below_set (below_set (below_set HB.out (show g ≤ (⟨q, 4, none⟩ : Addr).block from HGQ.out) (.int .u32 T.ver)) (show g ≤ (⟨q, 5, none⟩ : Addr).block from HGQ.out) (.slice ia T.ins.length ic)) (show g ≤ (⟨q, 6, none⟩ : Addr).block from HGQ.out) (.slice oa T.outs.length oc))
            have HK := hide (keeps_cell (i := 6) (keeps_cell (i := 5) (keeps_cell (i := 4) HK.out (show q < g + 2 by have := HGQ1.out; omega) (.int .u32 T.ver)) (show q < g + 2 by have := HGQ1.out; omega) (.slice ia T.ins.length ic)) (show q < g + 2 by have := HGQ1.out; omega) (.slice oa T.outs.length oc))
            go_upto_region 49 with fail
            generalize ((W2.setCell ⟨q, 4, none⟩ (.int .u32 T.ver)).setCell ⟨q, 5, none⟩ (.slice ia T.ins.length ic)).setCell ⟨q, 6, none⟩ (.slice oa T.outs.length oc) = W3 at *
            clear c0 c1 c2 c3 c4 c5 c6 f0 f1 f2 f3 f4 f5 f6 n0 n1 n2
            have R := dmget_good c l w W3 ⟨8, 0, 0, [], T⟩ (.slice none 0 0) (.slice ia T.ins.length ic) (.slice oa T.outs.length oc) PK.out.1 (PK.out.2 rfl) (by rw [HG.out]; exact HB.out) (by rw [HG.out]; exact ((HK.out.map fun w h => (⟨IdsAt.nil w, h⟩ : MsgAt w _ _ _ _)).weak fun k _ h => by omega)) [.int .i64 8, .int .u64 0, .int .u32 0, .slice none 0 0, .int .u32 T.ver, .slice ia T.ins.length ic, .slice oa T.outs.length oc]
            rw [HG.out] at R
            have R := hide R
            have ONE : Hid (∀ u ∈ ([.int .i64 8, .int .u64 0, .int .u32 0, .slice none 0 0, .int .u32 T.ver, .slice ia T.ins.length ic, .slice oa T.outs.length oc] : List Value), u.oneCell' = true) := hide (by simp [Value.oneCell'])
            go_wp2_with (first | (refine wpList_load_mid rfl 52 (.tmp 7) rfl q 0 rfl [.int .i64 8, .int .u64 0, .int .u32 0, .slice none 0 0, .int .u32 T.ver, .slice ia T.ins.length ic, .slice oa T.outs.length oc] _ (range7 HX.out) Try.underlying52 rfl info_msg ?_) | (refine wp_store_row rfl 52 (.tmp 4) (.tmp 153) rfl g 0 [.int .i64 8, .int .u64 0, .int .u32 0, .slice none 0 0, .int .u32 T.ver, .slice ia T.ins.length ic, .slice oa T.outs.length oc] rfl rfl HT.out info_msg ONE.out ?_))
            exact ret_row_tmp 4 5 52 rfl g 0 rfl [.int .i64 8, .int .u64 0, .int .u32 0, .slice none 0 0, .int .u32 T.ver, .slice ia T.ins.length ic, .slice oa T.outs.length oc] (World.rangeAt_setCells_same _ _ _ _ HT.out) _ Try.underlying52 rfl info_msg _ rfl rfl R.out
          · have HEE := hide he
            have R := dmget_bad c l w W2 ee PK.out.1 HEE.out (by rw [HG.out]; exact HB.out)
            rw [HG.out] at R
            have R := hide R
            clear n0 n1 n2
            go_wp2_with (refine wp_store_row rfl 52 (.tmp 4) (.tmp 149) rfl g 0 [.int .i64 0, .int .u64 0, .int .u32 0, .slice none 0 0, .int .u32 0, .slice none 0 0, .slice none 0 0] rfl rfl HT.out info_msg zero7_one ?_)
            exact ret_row_tmp 4 5 52 rfl g 0 rfl [.int .i64 0, .int .u64 0, .int .u32 0, .slice none 0 0, .int .u32 0, .slice none 0 0, .slice none 0 0] (World.rangeAt_setCells_same _ _ _ _ HT.out) _ Try.underlying52 rfl info_msg _ rfl rfl R.out
        · rw [show ((9 : Nat) : Int) = 9 from rfl] at HC ⊢
          have PK := hide (mkT (k := 9) (Or.inr rfl) HC.out l)
          have hb1 := below_new W0 (.cells #[.int .i64 9, .int .u64 0, .int .u32 0, .slice none 0 0, .int .u32 0, .slice none 0 0, .slice none 0 0] 52)
          have HX := hide (MBox.new W0 (.int .i64 9) (.int .u64 0) (.int .u32 0) (.slice none 0 0) (.int .u32 0) (.slice none 0 0) (.slice none 0 0) 52)
          have HQT : Hid ((W0.alloc (.cells #[.int .i64 9, .int .u64 0, .int .u32 0, .slice none 0 0, .int .u32 0, .slice none 0 0, .slice none 0 0] 52)).there W0.heap.size 0 7) := hide (there_new W0 _ _)
          have HT := hide (there_on HT0.out hb1)
          have HB := hide (HB0.out.trans (hb1.mono HBG0.out))
          have HBG : Hid (g ≤ (W0.alloc (.cells #[.int .i64 9, .int .u64 0, .int .u32 0, .slice none 0 0, .int .u32 0, .slice none 0 0, .slice none 0 0] 52)).heap.size) := hide (Nat.le_trans HBG0.out hb1.size)
          have HSZ : Hid ((W0.alloc (.cells #[.int .i64 9, .int .u64 0, .int .u32 0, .slice none 0 0, .int .u32 0, .slice none 0 0, .slice none 0 0] 52)).heap.size = W0.heap.size + 1) := hide (alloc_size _ _)
          have FX : Hid (∀ w, Calls Try.prog 36 #[.int .i64 9] w fun e w' => e = .returned (.int .i64 (-1)) ∧ w' = w) := hide (fun w => rfixed_kind w 9 (by decide))
          clear hb1 HT0 HB0
          go_upto_region 7 with fail
          generalize W0.alloc (.cells #[.int .i64 9, .int .u64 0, .int .u32 0, .slice none 0 0, .int .u32 0, .slice none 0 0, .slice none 0 0] 52) = W at *
          generalize W0.heap.size = q at *
          go_wp2_with fail
          refine (FX.out _).mono ?_
          rintro e w2 ⟨rfl, hw2⟩
          rw [hw2]
          clear hw2 FX
          have WH : Hid (∀ wx, Below g w wx → Calls Try.prog 10 #[.slice a l.length cap] wx (WholeDone wx l)) := hide (fun wx h => rwhole7_any l _ wx (HVB.out wx h) HBB.out (by have := HLL.out; omega))
          unfold WholeDone at WH
          generalize whT l = T at *
          generalize whE l = ee at *
          go_wp2_with fail
          refine (WH.out _ HB.out).mono ?_
          rintro e w3 ⟨iv, ov, rfl, hb3, hk3⟩
          obtain ⟨ia, ic, rfl, -, -⟩ := hk3.self.1.form
          obtain ⟨oa, oc, rfl, -, -⟩ := hk3.self.2.form
          have hb4 := below_on hb3 (below_new w3 (.cells #[.int .u32 T.ver, .slice ia T.ins.length ic, .slice oa T.outs.length oc] 28))
          obtain ⟨n0, n1, n2⟩ := TBox.new w3 (.int .u32 T.ver) (.slice ia T.ins.length ic) (.slice oa T.outs.length oc) 28
          have HK : Hid (Keeps (fun k => g + 2 ≤ k) (w3.alloc (.cells #[.int .u32 T.ver, .slice ia T.ins.length ic, .slice oa T.outs.length oc] 28)) fun w => TxAt w (.slice ia T.ins.length ic) (.slice oa T.outs.length oc) T) := hide ((hk3.below (below_new w3 _)).weak fun k _ h => by have := HSZ.out; have := HGQ1.out; omega)
          have HX := hide (HX.out.on hb4)
          have HT := hide (there_on HT.out hb4)
          have HQT := hide (there_on HQT.out hb4)
          have HB := hide (HB.out.trans (hb4.mono HBG.out))
          have HBG : Hid (g ≤ (w3.alloc (.cells #[.int .u32 T.ver, .slice ia T.ins.length ic, .slice oa T.outs.length oc] 28)).heap.size) := hide (Nat.le_trans HBG.out hb4.size)
          clear hb3 hb4 hk3 WH
          go_upto_region 46 with fail
          generalize w3.alloc (.cells #[.int .u32 T.ver, .slice ia T.ins.length ic, .slice oa T.outs.length oc] 28) = W2 at *
          generalize w3.heap.size = tq at *
          by_cases he : ee = 0
          · subst he
            obtain ⟨c0, c1, c2, c3, c4, c5, c6⟩ := HX.out
            obtain ⟨-, -, -, -, -, -, -, -, f0, f1, f2, f3, f4, f5, f6⟩ := there7 HQT.out
            have HX := hide (((HX.out.s4 (.int .u32 T.ver)).s5 (.slice ia T.ins.length ic)).s6 (.slice oa T.outs.length oc))
            have HT := hide (there_setC (there_setC (there_setC HT.out ⟨q, 4, none⟩ (.int .u32 T.ver)) ⟨q, 5, none⟩ (.slice ia T.ins.length ic)) ⟨q, 6, none⟩ (.slice oa T.outs.length oc))
            have HB := hide (below_set (below_set (below_set HB.out (show g ≤ (⟨q, 4, none⟩ : Addr).block from HGQ.out) (.int .u32 T.ver)) (show g ≤ (⟨q, 5, none⟩ : Addr).block from HGQ.out) (.slice ia T.ins.length ic)) (show g ≤ (⟨q, 6, none⟩ : Addr).block from HGQ.out) (.slice oa T.outs.length oc))
            have HK := hide (keeps_cell (i := 6) (keeps_cell (i := 5) (keeps_cell (i := 4) HK.out (show q < g + 2 by have := HGQ1.out; omega) (.int .u32 T.ver)) (show q < g + 2 by have := HGQ1.out; omega) (.slice ia T.ins.length ic)) (show q < g + 2 by have := HGQ1.out; omega) (.slice oa T.outs.length oc))
            go_upto_region 49 with fail
            generalize ((W2.setCell ⟨q, 4, none⟩ (.int .u32 T.ver)).setCell ⟨q, 5, none⟩ (.slice ia T.ins.length ic)).setCell ⟨q, 6, none⟩ (.slice oa T.outs.length oc) = W3 at *
            clear c0 c1 c2 c3 c4 c5 c6 f0 f1 f2 f3 f4 f5 f6 n0 n1 n2
            have R := dmget_good c l w W3 ⟨9, 0, 0, [], T⟩ (.slice none 0 0) (.slice ia T.ins.length ic) (.slice oa T.outs.length oc) PK.out.1 (PK.out.2 rfl) (by rw [HG.out]; exact HB.out) (by rw [HG.out]; exact ((HK.out.map fun w h => (⟨IdsAt.nil w, h⟩ : MsgAt w _ _ _ _)).weak fun k _ h => by omega)) [.int .i64 9, .int .u64 0, .int .u32 0, .slice none 0 0, .int .u32 T.ver, .slice ia T.ins.length ic, .slice oa T.outs.length oc]
            rw [HG.out] at R
            have R := hide R
            have ONE : Hid (∀ u ∈ ([.int .i64 9, .int .u64 0, .int .u32 0, .slice none 0 0, .int .u32 T.ver, .slice ia T.ins.length ic, .slice oa T.outs.length oc] : List Value), u.oneCell' = true) := hide (by simp [Value.oneCell'])
            go_wp2_with (first | (refine wpList_load_mid rfl 52 (.tmp 7) rfl q 0 rfl [.int .i64 9, .int .u64 0, .int .u32 0, .slice none 0 0, .int .u32 T.ver, .slice ia T.ins.length ic, .slice oa T.outs.length oc] _ (range7 HX.out) Try.underlying52 rfl info_msg ?_) | (refine wp_store_row rfl 52 (.tmp 4) (.tmp 153) rfl g 0 [.int .i64 9, .int .u64 0, .int .u32 0, .slice none 0 0, .int .u32 T.ver, .slice ia T.ins.length ic, .slice oa T.outs.length oc] rfl rfl HT.out info_msg ONE.out ?_))
            exact ret_row_tmp 4 5 52 rfl g 0 rfl [.int .i64 9, .int .u64 0, .int .u32 0, .slice none 0 0, .int .u32 T.ver, .slice ia T.ins.length ic, .slice oa T.outs.length oc] (World.rangeAt_setCells_same _ _ _ _ HT.out) _ Try.underlying52 rfl info_msg _ rfl rfl R.out
          · have HEE := hide he
            have R := dmget_bad c l w W2 ee PK.out.1 HEE.out (by rw [HG.out]; exact HB.out)
            rw [HG.out] at R
            have R := hide R
            clear n0 n1 n2
            go_wp2_with (refine wp_store_row rfl 52 (.tmp 4) (.tmp 149) rfl g 0 [.int .i64 0, .int .u64 0, .int .u32 0, .slice none 0 0, .int .u32 0, .slice none 0 0, .slice none 0 0] rfl rfl HT.out info_msg zero7_one ?_)
            exact ret_row_tmp 4 5 52 rfl g 0 rfl [.int .i64 0, .int .u64 0, .int .u32 0, .slice none 0 0, .int .u32 0, .slice none 0 0, .slice none 0 0] (World.rangeAt_setCells_same _ _ _ _ HT.out) _ Try.underlying52 rfl info_msg _ rfl rfl R.out
        · rw [show ((10 : Nat) : Int) = 10 from rfl] at HC ⊢
          have PK := hide (mk10 HC.out l HBB.out)
          have hb1 := below_new W0 (.cells #[.int .i64 10, .int .u64 0, .int .u32 0, .slice none 0 0, .int .u32 0, .slice none 0 0, .slice none 0 0] 52)
          have HX := hide (MBox.new W0 (.int .i64 10) (.int .u64 0) (.int .u32 0) (.slice none 0 0) (.int .u32 0) (.slice none 0 0) (.slice none 0 0) 52)
          have HQT : Hid ((W0.alloc (.cells #[.int .i64 10, .int .u64 0, .int .u32 0, .slice none 0 0, .int .u32 0, .slice none 0 0, .slice none 0 0] 52)).there W0.heap.size 0 7) := hide (there_new W0 _ _)
          have HT := hide (there_on HT0.out hb1)
          have HB := hide (HB0.out.trans (hb1.mono HBG0.out))
          have HBG : Hid (g ≤ (W0.alloc (.cells #[.int .i64 10, .int .u64 0, .int .u32 0, .slice none 0 0, .int .u32 0, .slice none 0 0, .slice none 0 0] 52)).heap.size) := hide (Nat.le_trans HBG0.out hb1.size)
          have HSZ : Hid ((W0.alloc (.cells #[.int .i64 10, .int .u64 0, .int .u32 0, .slice none 0 0, .int .u32 0, .slice none 0 0, .slice none 0 0] 52)).heap.size = W0.heap.size + 1) := hide (alloc_size _ _)
          have FX : Hid (∀ w, Calls Try.prog 36 #[.int .i64 10] w fun e w' => e = .returned (.int .i64 (33)) ∧ w' = w) := hide (fun w => rfixed_kind w 10 (by decide))
          clear hb1 HT0 HB0
          go_upto_region 7 with fail
          generalize W0.alloc (.cells #[.int .i64 10, .int .u64 0, .int .u32 0, .slice none 0 0, .int .u32 0, .slice none 0 0, .slice none 0 0] 52) = W at *
          generalize W0.heap.size = q at *
          go_wp2_with fail
          refine (FX.out _).mono ?_
          rintro e w2 ⟨rfl, hw2⟩
          rw [hw2]
          clear hw2 FX
          by_cases hS : l.length < 33
          · have e1 : (l.length : Int) < 33 := by omega
            have R := dmget_bad c l w W 4 (PK.out.1 hS) (by decide) (by rw [HG.out]; exact HB.out)
            rw [HG.out] at R
            have R := hide R
            go_wp2_with (refine wp_store_row rfl 52 (.tmp 4) (.tmp 39) rfl g 0 [.int .i64 0, .int .u64 0, .int .u32 0, .slice none 0 0, .int .u32 0, .slice none 0 0, .slice none 0 0] rfl rfl HT.out info_msg zero7_one ?_)
            exact ret_row_tmp 4 5 52 rfl g 0 rfl [.int .i64 0, .int .u64 0, .int .u32 0, .slice none 0 0, .int .u32 0, .slice none 0 0, .slice none 0 0] (World.rangeAt_setCells_same _ _ _ _ HT.out) _ Try.underlying52 rfl info_msg _ rfl rfl R.out
          · have e1 : ¬ (l.length : Int) < 33 := by omega
            by_cases hL : 33 < l.length
            · have e2 : (33 : Int) < (l.length : Int) := by omega
              have R := dmget_bad c l w W 5 (PK.out.2.1 hL) (by decide) (by rw [HG.out]; exact HB.out)
              rw [HG.out] at R
              have R := hide R
              go_wp2_with (refine wp_store_row rfl 52 (.tmp 4) (.tmp 44) rfl g 0 [.int .i64 0, .int .u64 0, .int .u32 0, .slice none 0 0, .int .u32 0, .slice none 0 0, .slice none 0 0] rfl rfl HT.out info_msg zero7_one ?_)
              exact ret_row_tmp 4 5 52 rfl g 0 rfl [.int .i64 0, .int .u64 0, .int .u32 0, .slice none 0 0, .int .u32 0, .slice none 0 0, .slice none 0 0] (World.rangeAt_setCells_same _ _ _ _ HT.out) _ Try.underlying52 rfl info_msg _ rfl rfl R.out
            · have e2 : ¬ (33 : Int) < (l.length : Int) := by omega
              have HN : Hid (l.length = 33) := hide (by omega)
              obtain ⟨b, off, rfl, hcl⟩ : ∃ b off, a = some ⟨b, off, none⟩ ∧ ∀ wx, Below g w wx → wx.cell? ⟨b, off + 32, none⟩ = some (.int .u8 (l.getD 32 0)) := by
                obtain ⟨b, off, cap', e, -⟩ := (HVB.out W HB.out).lies (by omega)
                cases e
                refine ⟨b, off, rfl, fun wx h => ?_⟩
                obtain ⟨b', off', cap', e, -, -, hc⟩ := (HVB.out wx h).lies (by omega)
                cases e
                exact hc 32 (by omega)
              obtain ⟨a1, hrun1, hb1⟩ := head_of (some ⟨b, off, none⟩) l.length cap 32 .i64 (by omega) hc1
              have HR1 := hide hrun1
              have HCL := hide hcl
              have G1 : Hid (∀ wx, Below g w wx → Calls Try.prog 37 #[.slice a1 32 cap] wx fun e w' => ∃ v', e = .returned v' ∧ Below wx.heap.size wx w' ∧ RowOwn w' wx.heap.size 40 32 v' ((hsL (l.take 32)).map (vals .u8))) := hide (fun wx h => rids_any (l.take 32) _ wx (hb1 _ _ (HVB.out wx h)) (by simp; omega) 1 (by simp; omega))
              have hz := byte_at HBB.out 32 (by omega)
              obtain ⟨hz0, hz1⟩ := hz
              have PM := hide (PK.out.2.2 HN.out)
              clear hrun1 hb1 hcl PK
              generalize l.getD 32 0 = z at *
              have hwr : IntKind.u32.wrap z = z := by simp [IntKind.wrap, IntKind.bits, IntKind.signed]; omega
              generalize hsL (l.take 32) = I at *
              go_wp2_with (refine wp_upto rfl (.tmp 75) (.const (.int .i64 32)) rfl _ _ _ rfl rfl HR1.out ?_)
              refine (G1.out _ HB.out).mono ?_
              rintro e w3 ⟨v3, rfl, hb3, hown3⟩
              obtain ⟨va, nn, vc, rfl⟩ : ∃ va nn vc, v3 = .slice va nn vc := hown3.row.form.elim fun a h => h.elim fun c h => ⟨a, _, c, h.1⟩
              have HK : Hid (Keeps (fun k => g + 2 ≤ k) w3 fun w => IdsAt w (.slice va nn vc) I) := hide (hown3.keeps.weak fun k _ h => by have := HSZ.out; have := HGQ1.out; omega)
              have HX := hide (HX.out.on hb3)
              have HT := hide (there_on HT.out hb3)
              have HQT := hide (there_on HQT.out hb3)
              have HB := hide (HB.out.trans (hb3.mono HBG.out))
              have HBG : Hid (g ≤ w3.heap.size) := hide (Nat.le_trans HBG.out hb3.size)
              clear hb3 hown3 G1 HR1
              obtain ⟨c0, c1, c2, c3, c4, c5, c6⟩ := HX.out
              obtain ⟨-, -, -, -, -, -, -, -, f0, f1, f2, f3, f4, f5, f6⟩ := there7 HQT.out
              have HX := hide (HX.out.s3 (.slice va nn vc))
              have HT := hide (there_setC HT.out ⟨q, 3, none⟩ (.slice va nn vc))
              have HQT := hide (there_setC HQT.out ⟨q, 3, none⟩ (.slice va nn vc))
              have HB := hide (below_set HB.out (show g ≤ (⟨q, 3, none⟩ : Addr).block from HGQ.out) (.slice va nn vc))
              have HBG : Hid (g ≤ (w3.setCell ⟨q, 3, none⟩ (.slice va nn vc)).heap.size) := hide (by rw [size_setCell]; exact HBG.out)
              have HK := hide (keeps_cell (i := 3) HK.out (show q < g + 2 by have := HGQ1.out; omega) (.slice va nn vc))
              go_upto_region 23 with fail
              generalize w3.setCell ⟨q, 3, none⟩ (.slice va nn vc) = W2 at *
              clear c0 c1 c2 c3 c4 c5 c6 f0 f1 f2 f3 f4 f5 f6
              have hcz := HCL.out _ HB.out
              have hlt32 : (32 : Int) < (l.length : Int) := by omega
              obtain ⟨c0, c1, c2, c3, c4, c5, c6⟩ := HX.out
              obtain ⟨-, -, -, -, -, -, -, -, f0, f1, f2, f3, f4, f5, f6⟩ := there7 HQT.out
              have HX := hide (HX.out.s2 (.int .u32 z))
              have HT := hide (there_setC HT.out ⟨q, 2, none⟩ (.int .u32 z))
              have HQT := hide (there_setC HQT.out ⟨q, 2, none⟩ (.int .u32 z))
              have HB := hide (below_set HB.out (show g ≤ (⟨q, 2, none⟩ : Addr).block from HGQ.out) (.int .u32 z))
              have HBG : Hid (g ≤ (W2.setCell ⟨q, 2, none⟩ (.int .u32 z)).heap.size) := hide (by rw [size_setCell]; exact HBG.out)
              have HK := hide (keeps_cell (i := 2) HK.out (show q < g + 2 by have := HGQ1.out; omega) (.int .u32 z))
              go_upto_region 49 with fail
              generalize W2.setCell ⟨q, 2, none⟩ (.int .u32 z) = W3 at *
              clear c0 c1 c2 c3 c4 c5 c6 f0 f1 f2 f3 f4 f5 f6
              clear hcz
              have R := dmget_good c l w W3 ⟨10, 0, z, I, noTr⟩ (.slice va nn vc) (.slice none 0 0) (.slice none 0 0) PM.out.1 PM.out.2 (by rw [HG.out]; exact HB.out) (by rw [HG.out]; exact ((HK.out.map fun w h => (⟨h, TxAt.none w⟩ : MsgAt w _ _ _ _)).weak fun k _ h => by omega)) [.int .i64 10, .int .u64 0, .int .u32 z, .slice va nn vc, .int .u32 0, .slice none 0 0, .slice none 0 0]
              rw [HG.out] at R
              have R := hide R
              have ONE : Hid (∀ u ∈ ([.int .i64 10, .int .u64 0, .int .u32 z, .slice va nn vc, .int .u32 0, .slice none 0 0, .slice none 0 0] : List Value), u.oneCell' = true) := hide (by simp [Value.oneCell'])
              go_wp2_with (first | (refine wpList_load_mid rfl 52 (.tmp 7) rfl q 0 rfl [.int .i64 10, .int .u64 0, .int .u32 z, .slice va nn vc, .int .u32 0, .slice none 0 0, .slice none 0 0] _ (range7 HX.out) Try.underlying52 rfl info_msg ?_) | (refine wp_store_row rfl 52 (.tmp 4) (.tmp 153) rfl g 0 [.int .i64 10, .int .u64 0, .int .u32 z, .slice va nn vc, .int .u32 0, .slice none 0 0, .slice none 0 0] rfl rfl HT.out info_msg ONE.out ?_))
              exact ret_row_tmp 4 5 52 rfl g 0 rfl [.int .i64 10, .int .u64 0, .int .u32 z, .slice va nn vc, .int .u32 0, .slice none 0 0, .slice none 0 0] (World.rangeAt_setCells_same _ _ _ _ HT.out) _ Try.underlying52 rfl info_msg _ rfl rfl R.out
        · rw [show ((11 : Nat) : Int) = 11 from rfl] at HC ⊢
          have PK := hide (mk11 HC.out l)
          have hb1 := below_new W0 (.cells #[.int .i64 11, .int .u64 0, .int .u32 0, .slice none 0 0, .int .u32 0, .slice none 0 0, .slice none 0 0] 52)
          have HX := hide (MBox.new W0 (.int .i64 11) (.int .u64 0) (.int .u32 0) (.slice none 0 0) (.int .u32 0) (.slice none 0 0) (.slice none 0 0) 52)
          have HQT : Hid ((W0.alloc (.cells #[.int .i64 11, .int .u64 0, .int .u32 0, .slice none 0 0, .int .u32 0, .slice none 0 0, .slice none 0 0] 52)).there W0.heap.size 0 7) := hide (there_new W0 _ _)
          have HT := hide (there_on HT0.out hb1)
          have HB := hide (HB0.out.trans (hb1.mono HBG0.out))
          have HBG : Hid (g ≤ (W0.alloc (.cells #[.int .i64 11, .int .u64 0, .int .u32 0, .slice none 0 0, .int .u32 0, .slice none 0 0, .slice none 0 0] 52)).heap.size) := hide (Nat.le_trans HBG0.out hb1.size)
          have HSZ : Hid ((W0.alloc (.cells #[.int .i64 11, .int .u64 0, .int .u32 0, .slice none 0 0, .int .u32 0, .slice none 0 0, .slice none 0 0] 52)).heap.size = W0.heap.size + 1) := hide (alloc_size _ _)
          have FX : Hid (∀ w, Calls Try.prog 36 #[.int .i64 11] w fun e w' => e = .returned (.int .i64 (1)) ∧ w' = w) := hide (fun w => rfixed_kind w 11 (by decide))
          clear hb1 HT0 HB0
          go_upto_region 7 with fail
          generalize W0.alloc (.cells #[.int .i64 11, .int .u64 0, .int .u32 0, .slice none 0 0, .int .u32 0, .slice none 0 0, .slice none 0 0] 52) = W at *
          generalize W0.heap.size = q at *
          go_wp2_with fail
          refine (FX.out _).mono ?_
          rintro e w2 ⟨rfl, hw2⟩
          rw [hw2]
          clear hw2 FX
          by_cases hS : l.length < 1
          · have e1 : (l.length : Int) < 1 := by omega
            have R := dmget_bad c l w W 4 (PK.out.1 hS) (by decide) (by rw [HG.out]; exact HB.out)
            rw [HG.out] at R
            have R := hide R
            go_wp2_with (refine wp_store_row rfl 52 (.tmp 4) (.tmp 39) rfl g 0 [.int .i64 0, .int .u64 0, .int .u32 0, .slice none 0 0, .int .u32 0, .slice none 0 0, .slice none 0 0] rfl rfl HT.out info_msg zero7_one ?_)
            exact ret_row_tmp 4 5 52 rfl g 0 rfl [.int .i64 0, .int .u64 0, .int .u32 0, .slice none 0 0, .int .u32 0, .slice none 0 0, .slice none 0 0] (World.rangeAt_setCells_same _ _ _ _ HT.out) _ Try.underlying52 rfl info_msg _ rfl rfl R.out
          · have e1 : ¬ (l.length : Int) < 1 := by omega
            by_cases hL : 1 < l.length
            · have e2 : (1 : Int) < (l.length : Int) := by omega
              have R := dmget_bad c l w W 5 (PK.out.2.1 hL) (by decide) (by rw [HG.out]; exact HB.out)
              rw [HG.out] at R
              have R := hide R
              go_wp2_with (refine wp_store_row rfl 52 (.tmp 4) (.tmp 44) rfl g 0 [.int .i64 0, .int .u64 0, .int .u32 0, .slice none 0 0, .int .u32 0, .slice none 0 0, .slice none 0 0] rfl rfl HT.out info_msg zero7_one ?_)
              exact ret_row_tmp 4 5 52 rfl g 0 rfl [.int .i64 0, .int .u64 0, .int .u32 0, .slice none 0 0, .int .u32 0, .slice none 0 0, .slice none 0 0] (World.rangeAt_setCells_same _ _ _ _ HT.out) _ Try.underlying52 rfl info_msg _ rfl rfl R.out
            · have e2 : ¬ (1 : Int) < (l.length : Int) := by omega
              have HN : Hid (l.length = 1) := hide (by omega)
              obtain ⟨b, off, rfl, hcl⟩ : ∃ b off, a = some ⟨b, off, none⟩ ∧ ∀ wx, Below g w wx → wx.cell? ⟨b, off, none⟩ = some (.int .u8 (l.getD 0 0)) := by
                obtain ⟨b, off, cap', e, -⟩ := (HVB.out W HB.out).lies (by omega)
                cases e
                refine ⟨b, off, rfl, fun wx h => ?_⟩
                obtain ⟨b', off', cap', e, -, -, hc⟩ := (HVB.out wx h).lies (by omega)
                cases e
                have := hc 0 (by omega)
                simpa using this
              have hcz := hcl _ HB.out
              have hz := byte_at HBB.out 0 (by omega)
              obtain ⟨hz0, hz1⟩ := hz
              have hlt0 : (0 : Int) < (l.length : Int) := by omega
              clear hcl
              by_cases h1 : 1 < l.getD 0 0
              · have PM := hide (PK.out.2.2.1 HN.out h1)
                clear PK
                generalize l.getD 0 0 = z at *
                have R := dmget_bad c l w W 6 PM.out (by decide) (by rw [HG.out]; exact HB.out)
                rw [HG.out] at R
                have R := hide R
                go_wp2_with (refine wp_store_row rfl 52 (.tmp 4) (.tmp 90) rfl g 0 [.int .i64 0, .int .u64 0, .int .u32 0, .slice none 0 0, .int .u32 0, .slice none 0 0, .slice none 0 0] rfl rfl HT.out info_msg zero7_one ?_)
                exact ret_row_tmp 4 5 52 rfl g 0 rfl [.int .i64 0, .int .u64 0, .int .u32 0, .slice none 0 0, .int .u32 0, .slice none 0 0, .slice none 0 0] (World.rangeAt_setCells_same _ _ _ _ HT.out) _ Try.underlying52 rfl info_msg _ rfl rfl R.out
              · have PM := hide (PK.out.2.2.2 HN.out (by omega))
                clear PK
                generalize l.getD 0 0 = z at *
                have hwr : IntKind.u32.wrap z = z := by simp [IntKind.wrap, IntKind.bits, IntKind.signed]; omega
                obtain ⟨c0, c1, c2, c3, c4, c5, c6⟩ := HX.out
                obtain ⟨-, -, -, -, -, -, -, -, f0, f1, f2, f3, f4, f5, f6⟩ := there7 HQT.out
                have HX := hide (HX.out.s2 (.int .u32 z))
                have HT := hide (there_setC HT.out ⟨q, 2, none⟩ (.int .u32 z))
                have HQT := hide (there_setC HQT.out ⟨q, 2, none⟩ (.int .u32 z))
                have HB := hide (below_set HB.out (show g ≤ (⟨q, 2, none⟩ : Addr).block from HGQ.out) (.int .u32 z))
                have HBG : Hid (g ≤ (W.setCell ⟨q, 2, none⟩ (.int .u32 z)).heap.size) := hide (by rw [size_setCell]; exact HBG.out)
                go_upto_region 49 with fail
                generalize W.setCell ⟨q, 2, none⟩ (.int .u32 z) = W3 at *
                clear c0 c1 c2 c3 c4 c5 c6 f0 f1 f2 f3 f4 f5 f6
                clear hcz
                have R := dmget_good c l w W3 ⟨11, 0, z, [], noTr⟩ (.slice none 0 0) (.slice none 0 0) (.slice none 0 0) PM.out.1 PM.out.2 (by rw [HG.out]; exact HB.out) (by rw [HG.out]; exact (fun w' _ => ⟨IdsAt.nil w', TxAt.none w'⟩)) [.int .i64 11, .int .u64 0, .int .u32 z, .slice none 0 0, .int .u32 0, .slice none 0 0, .slice none 0 0]
                rw [HG.out] at R
                have R := hide R
                have ONE : Hid (∀ u ∈ ([.int .i64 11, .int .u64 0, .int .u32 z, .slice none 0 0, .int .u32 0, .slice none 0 0, .slice none 0 0] : List Value), u.oneCell' = true) := hide (by simp [Value.oneCell'])
                go_wp2_with (first | (refine wpList_load_mid rfl 52 (.tmp 7) rfl q 0 rfl [.int .i64 11, .int .u64 0, .int .u32 z, .slice none 0 0, .int .u32 0, .slice none 0 0, .slice none 0 0] _ (range7 HX.out) Try.underlying52 rfl info_msg ?_) | (refine wp_store_row rfl 52 (.tmp 4) (.tmp 153) rfl g 0 [.int .i64 11, .int .u64 0, .int .u32 z, .slice none 0 0, .int .u32 0, .slice none 0 0, .slice none 0 0] rfl rfl HT.out info_msg ONE.out ?_))
                exact ret_row_tmp 4 5 52 rfl g 0 rfl [.int .i64 11, .int .u64 0, .int .u32 z, .slice none 0 0, .int .u32 0, .slice none 0 0, .slice none 0 0] (World.rangeAt_setCells_same _ _ _ _ HT.out) _ Try.underlying52 rfl info_msg _ rfl rfl R.out
      · rw [decide_eq_false (fun h => hs h.symm)] at hbeq
        have R : Hid (Naming W0 c (.int .i64 ((k + 1 : Nat) : Int)) W0) := hide ⟨k + 1, by omega, by omega, rfl, rfl, fun j hj1 hj2 => by
          by_cases hjk : j = k
          · subst hjk
            exact hs
          · exact HALL.out j hj1 (by omega)⟩
        have hsc : ∃ s : ByteArray, s = (shp (k : Int)).cmd := ⟨_, rfl⟩
        obtain ⟨s, hsc⟩ := hsc
        rw [← hsc] at hbeq ⊢
        clear hs hsc HALL HKK NM
        go_wp2
        go_roundw
        case rel => first | exact R.out | ((repeat apply Exists.intro); exact ⟨R.out, rfl⟩)
        case measure => simp [intOf]; omega
    · have e1 : ¬ (k : Int) ≤ 11 := by omega
      have HE : mgE c l = 8 := if_pos (kindOf_no fun j hj => by
        have hj' : 1 ≤ j ∧ j ≤ 11 := by simpa [isKind] using hj
        have := HALL.out j.toNat (by omega) (by omega)
        rwa [Int.toNat_of_nonneg (by omega)] at this)
      have R := dmget_bad c l w W0 8 HE (by decide) (by rw [HG.out]; exact HB0.out)
      rw [HG.out] at R
      have R := hide R
      clear HALL NM HE
      go_wp2_with (refine wp_store_row rfl 52 (.tmp 4) (.tmp 28) rfl g 0 [.int .i64 0, .int .u64 0, .int .u32 0, .slice none 0 0, .int .u32 0, .slice none 0 0, .slice none 0 0] rfl rfl HT0.out info_msg zero7_one ?_)
      exact ret_row_tmp 4 5 52 rfl g 0 rfl [.int .i64 0, .int .u64 0, .int .u32 0, .slice none 0 0, .int .u32 0, .slice none 0 0, .slice none 0 0] (World.rangeAt_setCells_same _ _ _ _ HT0.out) _ Try.underlying52 rfl info_msg _ rfl rfl R.out

end Go.Proofs.Ytjmifgdjmaelfaa
