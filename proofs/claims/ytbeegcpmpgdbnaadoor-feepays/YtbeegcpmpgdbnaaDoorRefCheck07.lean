/-
  What pappusref07.Check answers at this program, whatever the transaction.
-/
import Derived.Test.YtbeegcpmpgdbnaaDoorTxCk
import Derived.Test.YtbeegcpmpgdbnaaDoorRefForm07
namespace Go.Proofs.YtbeegcpmpgdbnaaDoor
open Go.RowKit

theorem sumV_mono : ∀ (L : List TOut) (j : Nat), (∀ x ∈ L, 0 < x.val) → sumV (L.take j) ≤ sumV L
  | [], j, _ => by simp
  | x :: L, 0, h => by
    have h1 : 0 < x.val := h x (by simp)
    have := sumV_mono L 0 fun y hy => h y (by simp [hy])
    simp only [List.take_zero] at *
    have e : sumV (x :: L) = x.val + sumV L := by simp [sumV]
    omega
  | x :: L, j + 1, h => by
    have := sumV_mono L j fun y hy => h y (by simp [hy])
    have e : sumV (x :: L) = x.val + sumV L := by simp [sumV]
    have e' : sumV ((x :: L).take (j + 1)) = x.val + sumV (L.take j) := by simp [sumV]
    omega
theorem sumV_mem : ∀ (L : List TOut), (∀ x ∈ L, 0 < x.val) → ∀ x ∈ L, x.val ≤ sumV L
  | [], _, x, hx => by cases hx
  | y :: L, h, x, hx => by
    have h0 := h y (by simp)
    have hl : ∀ z ∈ L, 0 < z.val := fun z hz => h z (by simp [hz])
    have hs := sumV_mono L 0 hl
    have e : sumV (y :: L) = y.val + sumV L := by simp [sumV]
    have e0 : sumV (L.take 0) = 0 := by simp [sumV]
    rcases List.mem_cons.1 hx with rfl | q
    · omega
    · have := sumV_mem L hl x q
      omega
/-- So far there is enough left. -/
def Lefting (w : World) (L : List TOut) (s i : Value) (wr : World) : Prop := ∃ k : Nat, k ≤ L.length ∧ i = .int .i64 k ∧ s = .int .u64 (1125899906842624 - sumV (L.take k)) ∧ Below w.heap.size w wr ∧ (∀ x ∈ L.take k, 0 < x.val) ∧ sumV (L.take k) ≤ 1125899906842624
/-- So far no point stood twice. -/
def Pairing (w : World) (L : List TIn) (i : Value) (wr : World) : Prop := ∃ k : Nat, k ≤ L.length ∧ i = .int .i64 k ∧ Below w.heap.size w wr ∧ ((L.take k).map ptOf).Nodup
/-- So far none of these is this one. -/
def Seeking (w : World) (L : List TIn) (k : Nat) (x : TIn) (i : Value) (wr : World) : Prop := ∃ j : Nat, j ≤ k ∧ i = .int .i64 j ∧ Below w.heap.size w wr ∧ ¬ ∃ y ∈ L.take j, ptOf y = ptOf x

set_option maxRecDepth 100000 in
set_option maxHeartbeats 2000000 in
theorem rcheck_any (t : Tr) (iv ov : Value) (w : World) (h : TxAt w iv ov t) (hok : TrOk t) (p d : Bool) (hp : p = true ↔ PayOk t.outs) (hd : d = false ↔ (t.ins.map ptOf).Nodup) :
    Calls Tryd.prog 28 #[.agg #[.int .u32 t.ver, iv, ov]] w fun e w' => e = .returned (.int .i64 (chE t p d)) ∧ Below w.heap.size w w' := by
  have hbel := below_new w (.cells #[.int .u32 t.ver, iv, ov] 26)
  have F := hide (rform_any t iv ov _ (h.1.on hbel) (h.2.on hbel) (fun x hx => (hok.2.1 x hx).1))
  have HB := hide hbel
  have HT := hide (h.on hbel)
  have HX := hide (TBox.new w (.int .u32 t.ver) iv ov 26)
  obtain ⟨n0, n1, n2⟩ := HX.out
  cases hf : formB t with
  | false =>
    have e : chE t p d = 5 := if_pos hf
    rw [e]
    rw [hf] at F
    obtain ⟨a, cap, rfl, hc1, hc2⟩ := h.1.form
    obtain ⟨a', cap', rfl, hd1, hd2⟩ := h.2.form
    clear h hbel hok hp hd hf e
    go_enter Tryd.func28, Tryd.ntmps28
    go_upto_region 1 with fail
    generalize w.alloc (.cells #[.int .u32 t.ver, .slice a t.ins.length cap, .slice a' t.outs.length cap'] 26) = W0 at *
    go_wp2_with fail
    refine F.out.mono ?_
    rintro e w1 ⟨rfl, hb1⟩
    have R := hide (below_on HB.out hb1)
    clear hb1 n0 n1 n2
    go_wp2
    go_ret
    exact ⟨rfl, R.out⟩
  | true =>
    obtain ⟨f1, f2, f3⟩ := (formB_iff t).1 hf
    rw [hf] at F
    have HCH : Hid (((t.ins.length = 0 ∨ t.outs.length = 0) → chE t p d = 9) ∧ (¬ (t.ins.length = 0 ∨ t.outs.length = 0) → (¬ PayOk t.outs → chE t p d = 11) ∧ (PayOk t.outs → (¬ (t.ins.map ptOf).Nodup → chE t p d = 12) ∧ ((t.ins.map ptOf).Nodup → chE t p d = 0)))) := hide (by
      unfold chE
      rw [if_neg (by rw [hf]; decide)]
      refine ⟨fun h => if_pos h, fun h => ⟨fun hq => ?_, fun hq => ⟨fun hn => ?_, fun hn => ?_⟩⟩⟩
      · have : p = false := by cases p with | false => rfl | true => exact absurd (hp.1 rfl) hq
        rw [if_neg h, if_pos this]
      · have h1 : d = true := by cases d with | true => rfl | false => exact absurd (hd.1 rfl) hn
        have h2 : p = true := hp.2 hq
        rw [if_neg h, if_neg (by rw [h2]; decide), if_pos h1]
      · have h1 : d = false := hd.2 hn
        have h2 : p = true := hp.2 hq
        rw [if_neg h, if_neg (by rw [h2]; decide), if_neg (by rw [h1]; decide)])
    generalize chE t p d = E at *
    have HOI := hide hok.2.1
    have HOO := hide hok.2.2
    obtain ⟨a, cap, rfl, hc1, hc2⟩ := h.1.form
    obtain ⟨a', cap', rfl, hd1, hd2⟩ := h.2.form
    clear h hbel hok hp hd hf f3
    obtain ⟨ver, ins, outs⟩ := t
    simp only at *
    go_enter Tryd.func28, Tryd.ntmps28
    go_upto_region 1 with fail
    generalize w.alloc (.cells #[.int .u32 ver, .slice a ins.length cap, .slice a' outs.length cap'] 26) = W0 at *
    generalize hg : w.heap.size = g at *
    have HG := hide hg
    clear hg
    go_wp2_with fail
    refine F.out.mono ?_
    rintro e w1 ⟨rfl, hb1⟩
    have HB1 := hide (HB.out.trans (hb1.mono (by have := HB.out.size; have := HG.out; omega)))
    have HT1 := hide (HT.out.on hb1)
    have HX1 := hide (HX.out.on hb1)
    clear n0 n1 n2
    obtain ⟨n0, n1, n2⟩ := HX1.out
    clear hb1 HB HT HX F
    by_cases h0 : ins.length = 0
    · have HF := hide (HCH.out.1 (Or.inl h0))
      clear HCH
      rw [h0] at n1
      clear h0
      go_wp2
      go_ret
      rw [HG.out]
      exact ⟨by rw [HF.out]; first | done | rfl, HB1.out⟩
    · have h0' : ((ins.length : Int) == 0) = false := by simpa using h0
      have h0'' : ¬ (ins.length : Int) = 0 := by omega
      by_cases h1 : outs.length = 0
      · have HF := hide (HCH.out.1 (Or.inr h1))
        clear HCH h0
        rw [h1] at n2
        clear h1
        go_wp2
        go_ret
        rw [HG.out]
        exact ⟨by rw [HF.out]; first | done | rfl, HB1.out⟩
      · have h1' : ((outs.length : Int) == 0) = false := by simpa using h1
        have h1'' : ¬ (outs.length : Int) = 0 := by omega
        have HE := hide (HCH.out.2 (by omega))
        have HS : Hid (Lefting w1 outs (.int .u64 1125899906842624) (.int .i64 0) w1) := hide ⟨0, Nat.zero_le _, rfl, by simp [sumV], Below.refl _ _, by simp, by simp [sumV]⟩
        have on : Hid (∀ wr, Below w1.heap.size w1 wr → TBox wr g (.int .u32 ver) (.slice a ins.length cap) (.slice a' outs.length cap')) := hide fun wr hb => HX1.out.on hb
        clear HCH h0 h1
        go_wp2_with fail
        clear n0 n1 n2 h0' h0'' h1' h1''
        go_loopw [3, 26] (fun s i wr => Lefting w1 outs s i wr) (fun _ i _ => outs.length - (intOf i).toNat)
        case atStart => exact HS.out
        case round =>
          clear HS
          obtain ⟨k, hk, rfl, rfl, hB, hall, hsum⟩ := hrel
          have HB := hide hB
          have HALL := hide hall
          have hlow : 0 ≤ sumV (outs.take k) := by have := sumV_mono (outs.take k) 0 hall; simpa [sumV] using this
          by_cases hlt : k < outs.length
          · obtain ⟨x, hx⟩ : ∃ x, outs[k]? = some x := ⟨_, List.getElem?_eq_getElem hlt⟩
            obtain ⟨b, off, rfl, hr⟩ := OutsAt.get (OutsAt.on HT1.out.2 hB) hx
            have hxo := HOO.out x (List.mem_of_getElem? hx)
            have hxl := hxo.2.1
            have HXR := hide hr
            have HN : Hid ((Tryd.prog.info? 60).map (·.size) = some (outC x).length) := hide (by rw [outC_length hxl]; exact info_out)
            have H1 : Hid (∀ u ∈ outC x, u.oneCell' = true) := hide (outC_one x)
            have HTH : Hid (∀ w : World, (w.alloc (.cells #[.int .u64 0, .int .u8 0, .int .u8 0, .int .u8 0, .int .u8 0, .int .u8 0, .int .u8 0, .int .u8 0, .int .u8 0, .int .u8 0, .int .u8 0, .int .u8 0, .int .u8 0, .int .u8 0, .int .u8 0, .int .u8 0, .int .u8 0, .int .u8 0, .int .u8 0, .int .u8 0, .int .u8 0, .int .u8 0, .int .u8 0, .int .u8 0, .int .u8 0, .int .u8 0, .int .u8 0, .int .u8 0, .int .u8 0, .int .u8 0, .int .u8 0, .int .u8 0, .int .u8 0] 60)).there w.heap.size 0 (outC x).length) := hide (fun w => by rw [outC_length hxl]; exact out_there w)
            have hk1 : (k : Int) < (outs.length : Int) := by omega
            have HXX := hide hx
            have hv0 := hxo.1.1
            have hv1 := hxo.1.2
            have HNX := hide (sumV_next hx)
            clear hr hx hxo hxl hB hall
            go_upto_region 9 with (first | (refine wpList_load_mid rfl 60 (.tmp 28) rfl b (off + k * 33) rfl (outC x) _ HXR.out Tryd.underlying60 rfl HN.out ?_) | (refine wp_store_row rfl 60 (.tmp 5) (.tmp 29) rfl wr.heap.size 0 (outC x) rfl rfl (HTH.out wr) HN.out H1.out ?_))
            have hW : ((wr.alloc (.cells #[.int .u64 0, .int .u8 0, .int .u8 0, .int .u8 0, .int .u8 0, .int .u8 0, .int .u8 0, .int .u8 0, .int .u8 0, .int .u8 0, .int .u8 0, .int .u8 0, .int .u8 0, .int .u8 0, .int .u8 0, .int .u8 0, .int .u8 0, .int .u8 0, .int .u8 0, .int .u8 0, .int .u8 0, .int .u8 0, .int .u8 0, .int .u8 0, .int .u8 0, .int .u8 0, .int .u8 0, .int .u8 0, .int .u8 0, .int .u8 0, .int .u8 0, .int .u8 0, .int .u8 0] 60)).setCells wr.heap.size 0 (outC x)).rangeAt wr.heap.size 0 (outC x) := World.rangeAt_setCells_same _ _ _ _ (HTH.out wr)
            have hB2 : Below wr.heap.size wr ((wr.alloc (.cells #[.int .u64 0, .int .u8 0, .int .u8 0, .int .u8 0, .int .u8 0, .int .u8 0, .int .u8 0, .int .u8 0, .int .u8 0, .int .u8 0, .int .u8 0, .int .u8 0, .int .u8 0, .int .u8 0, .int .u8 0, .int .u8 0, .int .u8 0, .int .u8 0, .int .u8 0, .int .u8 0, .int .u8 0, .int .u8 0, .int .u8 0, .int .u8 0, .int .u8 0, .int .u8 0, .int .u8 0, .int .u8 0, .int .u8 0, .int .u8 0, .int .u8 0, .int .u8 0, .int .u8 0] 60)).setCells wr.heap.size 0 (outC x)) := below_sets (Nat.le_refl _) _ _ _ ((Below.refl _ _).alloc (Nat.le_refl _) _)
            have c0 := hW 0 _ rfl
            simp only [Nat.add_zero] at c0
            generalize (wr.alloc (.cells #[.int .u64 0, .int .u8 0, .int .u8 0, .int .u8 0, .int .u8 0, .int .u8 0, .int .u8 0, .int .u8 0, .int .u8 0, .int .u8 0, .int .u8 0, .int .u8 0, .int .u8 0, .int .u8 0, .int .u8 0, .int .u8 0, .int .u8 0, .int .u8 0, .int .u8 0, .int .u8 0, .int .u8 0, .int .u8 0, .int .u8 0, .int .u8 0, .int .u8 0, .int .u8 0, .int .u8 0, .int .u8 0, .int .u8 0, .int .u8 0, .int .u8 0, .int .u8 0, .int .u8 0] 60)).setCells wr.heap.size 0 (outC x) = W2 at *
            have HB2 := hide (below_on HB.out hB2)
            clear hW hB2 HXR HN H1 HTH HB
            generalize wr.heap.size = gb at *
            generalize hS : sumV (outs.take k) = S at *
            have HSS := hide hS
            clear hS
            generalize hV : x.val = V at *
            have HVV := hide hV
            clear hV
            simp only [Act.put]
            by_cases e0 : V = 0
            · have HF := hide (HE.out.1 fun hq => by
                have := (hq.1 x (List.mem_of_getElem? HXX.out)).1
                rw [HVV.out] at this
                omega)
              have R := hide (HB1.out.trans (HB2.out.mono (by have := HB1.out.size; have := HG.out; omega)))
              subst e0
              clear HE HXX HNX on
              go_wp2
              go_ret
              rw [HG.out]
              exact ⟨by rw [HF.out]; first | done | rfl, R.out⟩
            · have e0' : (V == 0) = false := by simpa using e0
              by_cases e1 : V ≤ 1125899906842624 - S
              · have e1' : ¬ (1125899906842624 - S < V) := by omega
                have hw : IntKind.u64.wrap (1125899906842624 - S - V) = 1125899906842624 - (S + V) := by simp [IntKind.wrap, IntKind.bits, IntKind.signed]; omega
                have R : Hid (Lefting w1 outs (.int .u64 (1125899906842624 - (S + V))) (.int .i64 ((k + 1 : Nat) : Int)) W2) := hide ⟨k + 1, by omega, rfl, by rw [HNX.out], HB2.out, fun y hy => by
                  rcases take_mem HXX.out hy with q | rfl
                  · exact HALL.out y q
                  · rw [HVV.out]; omega, by rw [HNX.out]; omega⟩
                clear HE HXX HNX e0 HALL on
                go_wp2
                go_roundw
                case rel => first | exact R.out | ((repeat apply Exists.intro); exact ⟨R.out, rfl⟩)
                case measure => simp [intOf]; omega
              · have HF := hide (HE.out.1 fun hq => by
                  have h2 := sumV_mono outs (k + 1) fun y hy => (hq.1 y hy).1
                  rw [HNX.out] at h2
                  have := hq.2
                  omega)
                have R := hide (HB1.out.trans (HB2.out.mono (by have := HB1.out.size; have := HG.out; omega)))
                have e1' : 1125899906842624 - S < V := by omega
                clear HE HXX HNX e0 HALL on
                go_wp2
                go_ret
                rw [HG.out]
                exact ⟨by rw [HF.out]; first | done | rfl, R.out⟩
          · have hk2 : (outs.length : Int) ≤ (k : Int) := by omega
            have htk : outs.take k = outs := List.take_of_length_le (by omega)
            rw [htk] at hsum hall
            have HE2 := hide (HE.out.2 ⟨fun x hx => ⟨hall x hx, Int.le_trans (sumV_mem outs hall x hx) hsum⟩, hsum⟩)
            obtain ⟨n0, n1, n2⟩ := on.out wr hB
            have HT2 := hide (HT1.out.on hB)
            have HB2 := hide (HB1.out.trans (hB.mono (by have := HB1.out.size; have := HG.out; omega)))
            have HX2 := hide (on.out wr hB)
            have HS : Hid (Pairing wr ins (.int .i64 0) wr) := hide ⟨0, Nat.zero_le _, rfl, Below.refl _ _, by simp⟩
            rw [htk] at *
            clear hall hsum hlow htk HALL HE on hB HB HT1 HB1 HX1 HOO
            generalize sumV outs = SS at *
            obtain ⟨wo, hwo⟩ : ∃ wo, wo = wr := ⟨_, rfl⟩
            subst hwo
            have on : Hid (∀ wy, Below wo.heap.size wo wy → wy.cell? ⟨g, 1, none⟩ = some (.slice a ins.length cap)) := hide fun wy hb => (HX2.out.on hb).2.1
            go_wp2_with fail
            clear n0 n1 n2 hk2 hlt HX2
            go_loopw [47] (fun i wy => Pairing wo ins i wy) (fun i _ => ins.length - (intOf i).toNat)
            case atStart => exact HS.out
            case round =>
              clear HS
              obtain ⟨wy, hwy⟩ : ∃ wy, wy = wr := ⟨_, rfl⟩
              subst hwy
              obtain ⟨m, hm, rfl, hB, hnd⟩ := hrel
              have HB := hide hB
              have HND := hide hnd
              have n1 := on.out wy hB
              by_cases hlt : m < ins.length
              · obtain ⟨x, hx⟩ : ∃ x, ins[m]? = some x := ⟨_, List.getElem?_eq_getElem hlt⟩
                obtain ⟨b, off, kv, rfl, hr, hbv⟩ := (HT2.out.1.on hB).get hx
                have hxl := (HOI.out x (List.mem_of_getElem? hx)).1
                have HXR := hide hr
                have HN : Hid ((Tryd.prog.info? 39).map (·.size) = some (inC (x, kv)).length) := hide (by rw [inC_length hxl]; exact info_in)
                have H1 : Hid (∀ u ∈ inC (x, kv), u.oneCell' = true) := hide (inC_one hbv.oneCell)
                have HTH : Hid (∀ w : World, (w.alloc (.cells #[.int .u8 0, .int .u8 0, .int .u8 0, .int .u8 0, .int .u8 0, .int .u8 0, .int .u8 0, .int .u8 0, .int .u8 0, .int .u8 0, .int .u8 0, .int .u8 0, .int .u8 0, .int .u8 0, .int .u8 0, .int .u8 0, .int .u8 0, .int .u8 0, .int .u8 0, .int .u8 0, .int .u8 0, .int .u8 0, .int .u8 0, .int .u8 0, .int .u8 0, .int .u8 0, .int .u8 0, .int .u8 0, .int .u8 0, .int .u8 0, .int .u8 0, .int .u8 0, .int .u32 0, .slice none 0 0] 39)).there w.heap.size 0 (inC (x, kv)).length) := hide (fun w => by rw [inC_length hxl]; exact in_there w)
                have hk1 : (m : Int) < (ins.length : Int) := by omega
                have HXX := hide hx
                have HXL := hide hxl
                clear hr hx hxl hB hnd hbv
                go_upto_region 16 with (first | (refine wpList_load_mid rfl 39 (.tmp 50) rfl b (off + m * 34) rfl (inC (x, kv)) _ HXR.out Tryd.underlying39 rfl HN.out ?_) | (refine wp_store_row rfl 39 (.tmp 7) (.tmp 51) rfl wy.heap.size 0 (inC (x, kv)) rfl rfl (HTH.out wy) HN.out H1.out ?_))
                have hW : ((wy.alloc (.cells #[.int .u8 0, .int .u8 0, .int .u8 0, .int .u8 0, .int .u8 0, .int .u8 0, .int .u8 0, .int .u8 0, .int .u8 0, .int .u8 0, .int .u8 0, .int .u8 0, .int .u8 0, .int .u8 0, .int .u8 0, .int .u8 0, .int .u8 0, .int .u8 0, .int .u8 0, .int .u8 0, .int .u8 0, .int .u8 0, .int .u8 0, .int .u8 0, .int .u8 0, .int .u8 0, .int .u8 0, .int .u8 0, .int .u8 0, .int .u8 0, .int .u8 0, .int .u8 0, .int .u32 0, .slice none 0 0] 39)).setCells wy.heap.size 0 (inC (x, kv))).rangeAt wy.heap.size 0 (inC (x, kv)) := World.rangeAt_setCells_same _ _ _ _ (HTH.out wy)
                have hB2 : Below wy.heap.size wy ((wy.alloc (.cells #[.int .u8 0, .int .u8 0, .int .u8 0, .int .u8 0, .int .u8 0, .int .u8 0, .int .u8 0, .int .u8 0, .int .u8 0, .int .u8 0, .int .u8 0, .int .u8 0, .int .u8 0, .int .u8 0, .int .u8 0, .int .u8 0, .int .u8 0, .int .u8 0, .int .u8 0, .int .u8 0, .int .u8 0, .int .u8 0, .int .u8 0, .int .u8 0, .int .u8 0, .int .u8 0, .int .u8 0, .int .u8 0, .int .u8 0, .int .u8 0, .int .u8 0, .int .u8 0, .int .u32 0, .slice none 0 0] 39)).setCells wy.heap.size 0 (inC (x, kv))) := below_sets (Nat.le_refl _) _ _ _ ((Below.refl _ _).alloc (Nat.le_refl _) _)
                have m1 := (hB2.cell (World.block_lt_of_cell? _ _ n1)).trans n1
                generalize (wy.alloc (.cells #[.int .u8 0, .int .u8 0, .int .u8 0, .int .u8 0, .int .u8 0, .int .u8 0, .int .u8 0, .int .u8 0, .int .u8 0, .int .u8 0, .int .u8 0, .int .u8 0, .int .u8 0, .int .u8 0, .int .u8 0, .int .u8 0, .int .u8 0, .int .u8 0, .int .u8 0, .int .u8 0, .int .u8 0, .int .u8 0, .int .u8 0, .int .u8 0, .int .u8 0, .int .u8 0, .int .u8 0, .int .u8 0, .int .u8 0, .int .u8 0, .int .u8 0, .int .u8 0, .int .u32 0, .slice none 0 0] 39)).setCells wy.heap.size 0 (inC (x, kv)) = W2 at *
                have HPX := hide (inC_range hW HXL.out).1
                have HB3 := hide (below_on HB.out hB2)
                have HS2 : Hid (Seeking W2 ins m x (.int .i64 0) W2) := hide ⟨0, Nat.zero_le _, rfl, Below.refl _ _, by simp⟩
                clear hW hB2 HXR HN H1 HTH HB n1
                generalize wy.heap.size = gb at *
                simp only at HPX
                simp only [Act.put]
                go_wp2_with fail
                clear m1
                go_loopw [57] (fun i wz => Seeking W2 ins m x i wz) (fun i _ => m - (intOf i).toNat)
                case atStart => exact HS2.out
                case round =>
                  clear HS2
                  obtain ⟨wz, hwz⟩ : ∃ wz, wz = wr := ⟨_, rfl⟩
                  subst hwz
                  obtain ⟨j, hj, rfl, hBz, hno⟩ := hrel
                  have HBz := hide hBz
                  have HNO := hide hno
                  by_cases hltj : j < m
                  · obtain ⟨y, hy⟩ : ∃ y, ins[j]? = some y := ⟨_, List.getElem?_eq_getElem (by omega)⟩
                    obtain ⟨b2, off2, kv2, e2, hr, hbv⟩ := (HT2.out.1.on (below_on HB3.out hBz)).get hy
                    cases e2
                    have hyl := (HOI.out y (List.mem_of_getElem? hy)).1
                    have HYR := hide hr
                    have HN : Hid ((Tryd.prog.info? 39).map (·.size) = some (inC (y, kv2)).length) := hide (by rw [inC_length hyl]; exact info_in)
                    have H1 : Hid (∀ u ∈ inC (y, kv2), u.oneCell' = true) := hide (inC_one hbv.oneCell)
                    have HTH : Hid (∀ w : World, (w.alloc (.cells #[.int .u8 0, .int .u8 0, .int .u8 0, .int .u8 0, .int .u8 0, .int .u8 0, .int .u8 0, .int .u8 0, .int .u8 0, .int .u8 0, .int .u8 0, .int .u8 0, .int .u8 0, .int .u8 0, .int .u8 0, .int .u8 0, .int .u8 0, .int .u8 0, .int .u8 0, .int .u8 0, .int .u8 0, .int .u8 0, .int .u8 0, .int .u8 0, .int .u8 0, .int .u8 0, .int .u8 0, .int .u8 0, .int .u8 0, .int .u8 0, .int .u8 0, .int .u8 0, .int .u32 0, .slice none 0 0] 39)).there w.heap.size 0 (inC (y, kv2)).length) := hide (fun w => by rw [inC_length hyl]; exact in_there w)
                    have hj1 : (j : Int) < (m : Int) := by omega
                    have HYY := hide hy
                    have HYL := hide hyl
                    clear hr hy hyl hBz hno hbv
                    go_upto_region 19 with (first | (refine wpList_load_mid rfl 39 (.tmp 59) rfl b (off + j * 34) rfl (inC (y, kv2)) _ HYR.out Tryd.underlying39 rfl HN.out ?_) | (refine wp_store_row rfl 39 (.tmp 9) (.tmp 60) rfl wz.heap.size 0 (inC (y, kv2)) rfl rfl (HTH.out wz) HN.out H1.out ?_))
                    have hW : ((wz.alloc (.cells #[.int .u8 0, .int .u8 0, .int .u8 0, .int .u8 0, .int .u8 0, .int .u8 0, .int .u8 0, .int .u8 0, .int .u8 0, .int .u8 0, .int .u8 0, .int .u8 0, .int .u8 0, .int .u8 0, .int .u8 0, .int .u8 0, .int .u8 0, .int .u8 0, .int .u8 0, .int .u8 0, .int .u8 0, .int .u8 0, .int .u8 0, .int .u8 0, .int .u8 0, .int .u8 0, .int .u8 0, .int .u8 0, .int .u8 0, .int .u8 0, .int .u8 0, .int .u8 0, .int .u32 0, .slice none 0 0] 39)).setCells wz.heap.size 0 (inC (y, kv2))).rangeAt wz.heap.size 0 (inC (y, kv2)) := World.rangeAt_setCells_same _ _ _ _ (HTH.out wz)
                    have hB2 : Below wz.heap.size wz ((wz.alloc (.cells #[.int .u8 0, .int .u8 0, .int .u8 0, .int .u8 0, .int .u8 0, .int .u8 0, .int .u8 0, .int .u8 0, .int .u8 0, .int .u8 0, .int .u8 0, .int .u8 0, .int .u8 0, .int .u8 0, .int .u8 0, .int .u8 0, .int .u8 0, .int .u8 0, .int .u8 0, .int .u8 0, .int .u8 0, .int .u8 0, .int .u8 0, .int .u8 0, .int .u8 0, .int .u8 0, .int .u8 0, .int .u8 0, .int .u8 0, .int .u8 0, .int .u8 0, .int .u8 0, .int .u32 0, .slice none 0 0] 39)).setCells wz.heap.size 0 (inC (y, kv2))) := below_sets (Nat.le_refl _) _ _ _ ((Below.refl _ _).alloc (Nat.le_refl _) _)
                    generalize (wz.alloc (.cells #[.int .u8 0, .int .u8 0, .int .u8 0, .int .u8 0, .int .u8 0, .int .u8 0, .int .u8 0, .int .u8 0, .int .u8 0, .int .u8 0, .int .u8 0, .int .u8 0, .int .u8 0, .int .u8 0, .int .u8 0, .int .u8 0, .int .u8 0, .int .u8 0, .int .u8 0, .int .u8 0, .int .u8 0, .int .u8 0, .int .u8 0, .int .u8 0, .int .u8 0, .int .u8 0, .int .u8 0, .int .u8 0, .int .u8 0, .int .u8 0, .int .u8 0, .int .u8 0, .int .u32 0, .slice none 0 0] 39)).setCells wz.heap.size 0 (inC (y, kv2)) = W4 at *
                    have HPY := hide (inC_range hW HYL.out).1
                    have hB5 := below_on HBz.out hB2
                    have HB5 := hide hB5
                    have HPX2 := hide (range_on HPX.out hB5)
                    have HLX : Hid ((Tryd.prog.info? 36).map (·.size) = some (ptC x.tx x.n).length) := hide (by rw [ptC_length _ HXL.out]; exact info_pt)
                    have HLY : Hid ((Tryd.prog.info? 36).map (·.size) = some (ptC y.tx y.n).length) := hide (by rw [ptC_length _ HYL.out]; exact info_pt)
                    have hEQ := eql_pt x.tx y.tx x.n y.n HXL.out HYL.out
                    have HD : Hid ((decide (x.tx = y.tx) && decide (x.n = y.n)) = true ↔ ptOf y = ptOf x) := hide (by
                      unfold ptOf
                      simp only [Bool.and_eq_true, decide_eq_true_eq, Prod.mk.injEq]
                      exact ⟨fun h => ⟨h.1.symm, h.2.symm⟩, fun h => ⟨h.1.symm, h.2.symm⟩⟩)
                    clear hW hB2 hB5 HYR HN H1 HTH HBz
                    generalize wz.heap.size = gc at *
                    simp only at HPY
                    generalize (decide (x.tx = y.tx) && decide (x.n = y.n)) = dd at *
                    generalize hpx : ptC x.tx x.n = PX at *
                    generalize hpy : ptC y.tx y.n = PY at *
                    have HPXE := hide hpx
                    have HPYE := hide hpy
                    clear hpx hpy
                    simp only [Act.put]
                    cases dd with
                    | true =>
                      have HF := hide (HE2.out.1 fun hq => ((nodup_next HXX.out).1 (nodup_take (m + 1) hq)).2 ⟨y, by
                        have hlt' : j < (ins.take m).length := by simp; omega
                        have e : (ins.take m)[j]? = some y := by rw [List.getElem?_take_of_lt hltj]; exact HYY.out
                        exact List.mem_of_getElem? e, HD.out.1 rfl⟩)
                      have R := hide (HB2.out.trans ((below_on HB3.out HB5.out).mono (by have := HB2.out.size; have := HG.out; omega)))
                      clear HE2 HD
                      go_wp2_with (first | (refine wpList_load_mid rfl 36 (.tmp 61) rfl gb 0 rfl PX _ HPX2.out Tryd.underlying36 rfl HLX.out ?_) | (refine wpList_load_mid rfl 36 (.tmp 63) rfl gc 0 rfl PY _ HPY.out Tryd.underlying36 rfl HLY.out ?_))
                      go_ret
                      rw [HG.out]
                      exact ⟨by rw [HF.out]; first | done | rfl, R.out⟩
                    | false =>
                      have R : Hid (Seeking W2 ins m x (.int .i64 ((j + 1 : Nat) : Int)) W4) := hide ⟨j + 1, by omega, rfl, HB5.out, fun ⟨z, hz, e⟩ => by
                        rcases take_mem HYY.out hz with q | rfl
                        · exact HNO.out ⟨z, q, e⟩
                        · have := HD.out.2 e
                          cases this⟩
                      clear HE2 HD HNO HYY
                      go_wp2_with (first | (refine wpList_load_mid rfl 36 (.tmp 61) rfl gb 0 rfl PX _ HPX2.out Tryd.underlying36 rfl HLX.out ?_) | (refine wpList_load_mid rfl 36 (.tmp 63) rfl gc 0 rfl PY _ HPY.out Tryd.underlying36 rfl HLY.out ?_))
                      go_roundw
                      case rel => first | exact R.out | ((repeat apply Exists.intro); exact ⟨R.out, rfl⟩)
                      case measure => simp [intOf]; omega
                  · have hj2 : (m : Int) ≤ (j : Int) := by omega
                    have R : Hid (Pairing wo ins (.int .i64 ((m + 1 : Nat) : Int)) wz) := hide ⟨m + 1, by omega, rfl, below_on HB3.out HBz.out, (nodup_next HXX.out).2 ⟨HND.out, by
                      have h := HNO.out
                      rw [show j = m by omega] at h
                      exact h⟩⟩
                    clear hBz hno HNO HXX HPX
                    go_wp2
                    go_roundw
                    case rel => first | exact R.out | ((repeat apply Exists.intro); exact ⟨R.out, rfl⟩)
                    case measure => simp [intOf]; omega
              · have hm2 : (ins.length : Int) ≤ (m : Int) := by omega
                have HF := hide (HE2.out.2 (by
                  have h := HND.out
                  rw [List.take_of_length_le (by omega)] at h
                  exact h))
                have R := hide (HB2.out.trans (HB.out.mono (by have := HB2.out.size; have := HG.out; omega)))
                clear hB hnd n1
                go_wp2
                go_ret
                rw [HG.out]
                exact ⟨by rw [HF.out]; first | done | rfl, R.out⟩

end Go.Proofs.YtbeegcpmpgdbnaaDoor
