/-
  Proved: for every transaction and all outputs the law FeeBalances answers true, and its arguments read as they did. Condition: the table of the sum's constants stands, as the card says.
-/
import Derived.Test.YtbeegcpmpgdbnaaDoorFeeAl
import Derived.Test.YtbeegcpmpgdbnaaDoorFeeGr
import Derived.Test.YtbeegcpmpgdbnaaDoorFeeCame
import Derived.Test.YtbeegcpmpgdbnaaDoorFeeRow
import Derived.Test.YtbeegcpmpgdbnaaDoorShaLaw
namespace Go.Proofs.YtbeegcpmpgdbnaaDoor
open Go.ChangeShapes Go.WideShapes Go.ChangeAt Go.RowKit

/-! What is paid and what the outputs have are what the inputs had. -/
theorem sumV_tot (L : List TOut) : tot (valsO L) = sumV L := by
  induction L with
  | nil => rfl
  | cons x L ih =>
    have h1 : valsO (x :: L) = x.val :: valsO L := rfl
    rw [h1]
    simp only [tot, ih, sumV, List.map_cons, List.sum_cons]
theorem chE_pay {t : Tr} {p d : Bool} (h : chE t p d = 0) : p = true ∧ d = false := by
  unfold chE at h
  cases p <;> cases d <;> simp_all
  all_goals (repeat (split at h <;> simp_all))
theorem ofE_zero {t : Tr} {prev : List TOut} {p d r : Bool} (h : ofE t prev p d r = 0) : chE t p d = 0 ∧ prev.length = t.ins.length ∧ r = true ∧ sumE (valsO prev) = 0 ∧ csumV (valsO t.outs) ≤ csumV (valsO prev) := by
  unfold ofE at h
  by_cases c0 : chE t p d = 0
  · rw [if_neg (by simpa using c0)] at h
    by_cases c1 : prev.length = t.ins.length
    · rw [if_neg (by simpa using c1)] at h
      cases r with
      | false => simp at h
      | true =>
        rw [if_neg (by decide)] at h
        by_cases c2 : sumE (valsO prev) ≠ 0 ∨ csumV (valsO prev) < csumV (valsO t.outs)
        · rw [if_pos c2] at h
          cases h
        · exact ⟨c0, c1, rfl, by omega, by omega⟩
    · rw [if_pos (by simpa using c1)] at h
      cases h
  · rw [if_pos (by simpa using c0)] at h
    exact absurd h c0
theorem balance {t : Tr} {prev : List TOut} {p d r : Bool} (hp : p = true ↔ PayOk t.outs) (h : ofE t prev p d r = 0) :
    csumV (ofV t prev p d r :: valsO t.outs) = csumV (valsO prev) ∧ sumE (ofV t prev p d r :: valsO t.outs) = 0 := by
  obtain ⟨c0, c1, c2, c3, c4⟩ := ofE_zero h
  have hpay := (hp.1 (chE_pay c0).1).2
  have ht := sumV_tot t.outs
  have hfit : csumV (valsO t.outs) = tot (valsO t.outs) := by
    unfold csumV
    rw [if_pos (by omega)]
  have hn : ofV t prev p d r = csumV (valsO prev) - csumV (valsO t.outs) := by
    unfold ofV
    rw [if_pos ⟨c0, c1, c2, c3, c4⟩]
  have hs : csumV (valsO prev) < 18446744073709551616 := by
    unfold csumV
    split <;> omega
  have e : tot (ofV t prev p d r :: valsO t.outs) = csumV (valsO prev) := by
    simp only [tot]
    rw [hn, hfit]
    omega
  unfold csumV sumE
  rw [e, if_pos hs, if_pos hs]
  exact ⟨rfl, rfl⟩
theorem balance_words {t : Tr} {prev : List TOut} {p d r : Bool} (hok : TrOk t) (hpo : ∀ x ∈ prev, OutOk x) : ∀ z ∈ ofV t prev p d r :: valsO t.outs, Word z := by
  intro z hz
  rcases List.mem_cons.1 hz with rfl | hz
  · have h1 := csumV_word (l := valsO prev) (fun z hz => by obtain ⟨x, hx, rfl⟩ := List.mem_map.1 hz; exact (hpo x hx).1)
    have h2 := csumV_word (l := valsO t.outs) (fun z hz => by obtain ⟨x, hx, rfl⟩ := List.mem_map.1 hz; exact (hok.2.2 x hx).1)
    unfold ofV
    unfold Word at *
    split <;> omega
  · obtain ⟨x, hx, rfl⟩ := List.mem_map.1 hz
    exact (hok.2.2 x hx).1
/-- So far these outputs' values stand behind the fee. -/
def Balancing (w : World) (n : Int) (L : List TOut) (v i : Value) (wr : World) : Prop := ∃ k : Nat, k ≤ L.length ∧ i = .int .i64 k ∧ Below w.heap.size w wr ∧ RowOwn wr w.heap.size 29 1 v (uC (n :: valsO (L.take k)))

set_option maxRecDepth 100000 in
set_option maxHeartbeats 4000000 in
theorem feeBalances_walk {w : World} (hk : Ks w) (t : Tr) (iv ov : Value) (h : TxAt w iv ov t) (hok : TrOk t) (pv : Value) (prev : List TOut) (hpo : ∀ x ∈ prev, OutOk x) (ho : OutsAt w pv prev) :
    Calls Tryd.prog 5 #[.agg #[.int .u32 t.ver, iv, ov], pv] w fun e w' => e = .returned (.bool true) ∧ Below w.heap.size w w' := by
  classical
  obtain ⟨p, hp⟩ : ∃ p : Bool, p = true ↔ PayOk t.outs := ⟨decide (PayOk t.outs), by simp⟩
  obtain ⟨d, hd⟩ : ∃ d : Bool, d = false ↔ (t.ins.map ptOf).Nodup := ⟨!decide ((t.ins.map ptOf).Nodup), by simp⟩
  obtain ⟨r, hr⟩ : ∃ r : Bool, r = true ↔ Opens t.ins prev := ⟨decide (Opens t.ins prev), by simp⟩
  have hnm : (Tryd.f13.name == "runtime.NumGoroutine") = false := by kernel_rfl
  have hbd : Tryd.f13.body.isNone = false := by kernel_rfl
  have hnew := below_new w (.cells #[.int .u32 t.ver, iv, ov] 26)
  have HT0 := hide (h.on hnew)
  have HP0 := hide (OutsAt.on ho hnew)
  have HB0 := hide hnew
  have HX0 := hide (TBox.new w (.int .u32 t.ver) iv ov 26)
  have HK0 := hide (hk.on hnew)
  have AL := hide (fun w (k : Ks w) => alive10_any w k)
  have HZ := hide (fun h => ofE_zero (t := t) (prev := prev) (p := p) (d := d) (r := r) h)
  have HV0 : Hid (ofE t prev p d r ≠ 0 → ofV t prev p d r = 0) := hide (fun h => by
    unfold ofV
    refine if_neg fun c => h ?_
    unfold ofE
    rw [if_neg (by simpa using c.1), if_neg (by simpa using c.2.1), if_neg (by rw [c.2.2.1]; decide), if_neg (by omega)])
  have HBL := hide (fun h => balance (t := t) (prev := prev) (p := p) (d := d) (r := r) hp h)
  have HBW := hide (balance_words (t := t) (prev := prev) (p := p) (d := d) (r := r) hok hpo)
  have HRO : Hid (r = true → Opens t.ins prev) := hide hr.1
  have CO := hide (fun w (h : TxAt w iv ov t) (ho : OutsAt w pv prev) (k : Ks w) => of_any t iv ov pv prev w h ho hok hpo k p d r hp hd hr)
  have CC := hide (fun w (h : TxAt w iv ov t) => tcheck_any t iv ov w h hok p d hp hd)
  have HOK := hide hok
  have HPO := hide hpo
  obtain ⟨a, cap, rfl, hc1, hc2⟩ := h.1.form
  obtain ⟨a', cap', rfl, hd1, hd2⟩ := h.2.form
  obtain ⟨a'', cap'', rfl, he1, he2⟩ := OutsAt.form ho
  have GR := hide (fun w (h : TxAt w (.slice a t.ins.length cap) (.slice a' t.outs.length cap') t) => great10_any t (.slice a t.ins.length cap) (.slice a' t.outs.length cap') a'' prev.length cap'' w h.1 h.2 (fun x hx => (HOK.out.2.1 x hx).1))
  have HG : Hid (g10 t prev.length = false → t.ins.length ≤ 100 ∧ t.outs.length ≤ 100 ∧ prev.length ≤ 100) := hide (fun h => ⟨(greatB_not (g10_not h).1).1, (greatB_not (g10_not h).1).2.1, (g10_not h).2⟩)
  clear h ho hok hpo hk hp hd hr hnew
  generalize hgg : g10 t prev.length = gg at *
  clear hgg
  go_enter Tryd.func5, Tryd.ntmps5
  go_upto_region 1 with fail
  generalize w.alloc (.cells #[.int .u32 t.ver, .slice a t.ins.length cap, .slice a' t.outs.length cap'] 26) = W0 at *
  generalize hwq : w.heap.size = q at *
  have HQ := hide hwq
  clear hwq
  go_wp2_with fail
  refine (AL.out _ HK0.out).mono ?_
  rintro e w1 ⟨rfl, hb1⟩
  have HB1 := hide (below_on (show Below w.heap.size w W0 by rw [HQ.out]; exact HB0.out) hb1)
  have HT1 := hide (HT0.out.on hb1)
  have HP1 := hide (OutsAt.on HP0.out hb1)
  have HX1 := hide (HX0.out.on hb1)
  have HK1 := hide (HK0.out.on hb1)
  obtain ⟨n0, n1, n2⟩ := HX1.out
  clear hb1 HB0 HT0 HP0 HX0 HK0 AL
  go_wp2_with fail
  refine (GR.out _ HT1.out).mono ?_
  rintro e w2 ⟨rfl, hb2⟩
  have HB2 := hide (below_on HB1.out hb2)
  have HT2 := hide (HT1.out.on hb2)
  have HP2 := hide (OutsAt.on HP1.out hb2)
  have HX2 := hide (HX1.out.on hb2)
  have HK2 := hide (HK1.out.on hb2)
  clear hb2 n0 n1 n2 HB1 HT1 HP1 HX1 HK1 GR
  obtain ⟨n0, n1, n2⟩ := HX2.out
  cases gg with
  | true =>
    clear CO CC HBL
    go_wp2
    go_ret
    exact ⟨rfl, HB2.out⟩
  | false =>
  have HLE := hide (HG.out rfl)
  clear HG
  go_wp2_with fail
  refine (CO.out _ HT2.out HP2.out HK2.out).mono ?_
  rintro e w3 ⟨rfl, hb3⟩
  have HB3 := hide (below_on HB2.out hb3)
  have HT3 := hide (HT2.out.on hb3)
  have HP3 := hide (OutsAt.on HP2.out hb3)
  have HX3 := hide (HX2.out.on hb3)
  have HK3 := hide (HK2.out.on hb3)
  clear hb3 n0 n1 n2 HB2 HT2 HP2 HX2 HK2 CO
  obtain ⟨n0, n1, n2⟩ := HX3.out
  generalize ofV t prev p d r = n at *
  generalize ofE t prev p d r = ee at *
  by_cases c0 : ee = 0
  case neg =>
    have hn := HV0.out c0
    have c0' : (ee == 0) = false := by rw [beq_eq_false_iff_ne]; exact c0
    subst hn
    clear CC HBL HBW HZ HV0
    go_wp2
    go_ret
    exact ⟨rfl, HB3.out⟩
  have HZZ := hide (HZ.out c0)
  have HBB := hide (HBL.out c0)
  subst c0
  clear HZ HBL HV0
  have CC2 := hide (CC.out w3 HT3.out)
  rw [HZZ.out.1] at CC2
  clear CC
  have hlen := HZZ.out.2.1
  have HLEN := hide hlen
  obtain ⟨np, hnp⟩ : ∃ m, m = t.ins.length := ⟨_, rfl⟩
  go_wp2_with fail
  refine CC2.out.mono ?_
  rintro e w4 ⟨rfl, hb4⟩
  have HB4 := hide (below_on HB3.out hb4)
  have HT4 := hide (HT3.out.on hb4)
  have HP4 := hide (OutsAt.on HP3.out hb4)
  have HX4 := hide (HX3.out.on hb4)
  have HK4 := hide (HK3.out.on hb4)
  clear hb4 n0 n1 n2 HB3 HT3 HP3 HX3 HK3 CC2
  obtain ⟨n0, n1, n2⟩ := HX4.out
  have HS : Hid (Balancing w4 n t.outs (.slice (some ⟨w4.heap.size, 0, none⟩) 1 1) (.int .i64 0) (w4.alloc (.cells #[.int .u64 n] 29))) := hide ⟨0, Nat.zero_le _, rfl, below_new _ _, row_fresh w4 _ (Nat.le_refl _) n⟩
  have HPP : Hid (OutsAt w4 (.slice a'' t.ins.length cap'') prev) := hide (by
    have h := HP4.out
    rw [HLEN.out] at h
    exact h)
  have HBS : Hid (w.heap.size ≤ w4.heap.size) := hide HB4.out.size
  clear HP4 hnp he1 hd1 hc1
  have hle1 := HLE.out.1
  have hle2 := HLE.out.2.1
  obtain ⟨m0, m1, m2⟩ := HX4.out.on (below_new w4 (.cells #[.int .u64 n] 29))
  go_wp2
  clear n0 n1 n2 m0 m1 m2
  go_loopw [7, 48] (fun v i wr => Balancing w4 n t.outs v i wr) (fun _ i _ => t.outs.length - (intOf i).toNat)
  case atStart => exact HS.out
  case round =>
    clear HS
    obtain ⟨k, hk, rfl, hB, hown⟩ := hrel
    have HB := hide hB
    have HOWN := hide hown
    by_cases hlt : k < t.outs.length
    · obtain ⟨x, hx⟩ : ∃ x, t.outs[k]? = some x := ⟨_, List.getElem?_eq_getElem hlt⟩
      obtain ⟨b, off, rfl, hr⟩ := OutsAt.get (OutsAt.on HT4.out.2 hB) hx
      have hxl := (HOK.out.2.2 x (List.mem_of_getElem? hx)).2.1
      have HXR := hide hr
      have HN : Hid ((Tryd.prog.info? 60).map (·.size) = some (outC x).length) := hide (by rw [outC_length hxl]; exact info_out)
      have H1 : Hid (∀ u ∈ outC x, u.oneCell' = true) := hide (outC_one x)
      have HT : Hid (∀ w : World, (w.alloc (.cells #[.int .u64 0, .int .u8 0, .int .u8 0, .int .u8 0, .int .u8 0, .int .u8 0, .int .u8 0, .int .u8 0, .int .u8 0, .int .u8 0, .int .u8 0, .int .u8 0, .int .u8 0, .int .u8 0, .int .u8 0, .int .u8 0, .int .u8 0, .int .u8 0, .int .u8 0, .int .u8 0, .int .u8 0, .int .u8 0, .int .u8 0, .int .u8 0, .int .u8 0, .int .u8 0, .int .u8 0, .int .u8 0, .int .u8 0, .int .u8 0, .int .u8 0, .int .u8 0, .int .u8 0] 60)).there w.heap.size 0 (outC x).length) := hide (fun w => by rw [outC_length hxl]; exact out_there w)
      have hk1 : (k : Int) < (t.outs.length : Int) := by omega
      have HX := hide hx
      clear hr hx hxl hB hown
      go_upto_region 15 with (first | (refine wpList_load_mid rfl 60 (.tmp 50) rfl b (off + k * 33) rfl (outC x) _ HXR.out Tryd.underlying60 rfl HN.out ?_) | (refine wp_store_row rfl 60 (.tmp 10) (.tmp 51) rfl wr.heap.size 0 (outC x) rfl rfl (HT.out wr) HN.out H1.out ?_))
      have hW : ((wr.alloc (.cells #[.int .u64 0, .int .u8 0, .int .u8 0, .int .u8 0, .int .u8 0, .int .u8 0, .int .u8 0, .int .u8 0, .int .u8 0, .int .u8 0, .int .u8 0, .int .u8 0, .int .u8 0, .int .u8 0, .int .u8 0, .int .u8 0, .int .u8 0, .int .u8 0, .int .u8 0, .int .u8 0, .int .u8 0, .int .u8 0, .int .u8 0, .int .u8 0, .int .u8 0, .int .u8 0, .int .u8 0, .int .u8 0, .int .u8 0, .int .u8 0, .int .u8 0, .int .u8 0, .int .u8 0] 60)).setCells wr.heap.size 0 (outC x)).rangeAt wr.heap.size 0 (outC x) := World.rangeAt_setCells_same _ _ _ _ (HT.out wr)
      have hB2 : Below wr.heap.size wr ((wr.alloc (.cells #[.int .u64 0, .int .u8 0, .int .u8 0, .int .u8 0, .int .u8 0, .int .u8 0, .int .u8 0, .int .u8 0, .int .u8 0, .int .u8 0, .int .u8 0, .int .u8 0, .int .u8 0, .int .u8 0, .int .u8 0, .int .u8 0, .int .u8 0, .int .u8 0, .int .u8 0, .int .u8 0, .int .u8 0, .int .u8 0, .int .u8 0, .int .u8 0, .int .u8 0, .int .u8 0, .int .u8 0, .int .u8 0, .int .u8 0, .int .u8 0, .int .u8 0, .int .u8 0, .int .u8 0] 60)).setCells wr.heap.size 0 (outC x)) := below_sets (Nat.le_refl _) _ _ _ ((Below.refl _ _).alloc (Nat.le_refl _) _)
      have c0 := hW 0 _ rfl
      simp only [Nat.add_zero] at c0
      generalize (wr.alloc (.cells #[.int .u64 0, .int .u8 0, .int .u8 0, .int .u8 0, .int .u8 0, .int .u8 0, .int .u8 0, .int .u8 0, .int .u8 0, .int .u8 0, .int .u8 0, .int .u8 0, .int .u8 0, .int .u8 0, .int .u8 0, .int .u8 0, .int .u8 0, .int .u8 0, .int .u8 0, .int .u8 0, .int .u8 0, .int .u8 0, .int .u8 0, .int .u8 0, .int .u8 0, .int .u8 0, .int .u8 0, .int .u8 0, .int .u8 0, .int .u8 0, .int .u8 0, .int .u8 0, .int .u8 0] 60)).setCells wr.heap.size 0 (outC x) = W2 at *
      have HB2 := hide (below_on HB.out hB2)
      have HOWN2 := hide (HOWN.out.move (w1 := W2) fun g _ hl => hB2.block g hl)
      clear hW hB2 HXR HN H1 HT HB HOWN
      generalize wr.heap.size = gb at *
      generalize hV : x.val = V at *
      have HVV := hide hV
      clear hV
      simp only [Act.put]
      obtain ⟨v4, w5, hrun, hrow, -, hbel⟩ := row_more W2 w4.heap.size HB2.out.size u7 _ (by have := HLE.out; simp [valsO]; omega) HOWN2.out V
      have R : Hid (Balancing w4 n t.outs v4 (.int .i64 ((k + 1 : Nat) : Int)) w5) := hide ⟨k + 1, by omega, rfl, hbel _ _ HB2.out (Nat.le_refl _), by
        obtain ⟨e1, e2⟩ := List.getElem?_eq_some_iff.1 HX.out
        have e : n :: valsO (t.outs.take (k + 1)) = (n :: valsO (t.outs.take k)) ++ [V] := by
          rw [List.take_succ_eq_append_getElem e1, e2]
          simp [valsO, HVV.out]
        rw [e]
        exact hrow⟩
      clear hrow hbel HOWN2
      go_wp2_with (at_builtin; refine wp_app rfl (.tmp 52) (.tmp 55) 58 rfl (v1 := u7) (v2 := .slice (some ⟨W2.heap.size, 0, none⟩) 1 1) (v := v4) (w' := w5) rfl rfl ?_ ?_; exact hrun)
      go_roundw
      case rel => first | exact R.out | ((repeat apply Exists.intro); exact ⟨R.out, rfl⟩)
      case measure => simp [intOf]; omega
    · have hk2 : (t.outs.length : Int) ≤ (k : Int) := by omega
      have htk : t.outs.take k = t.outs := List.take_of_length_le (by omega)
      rw [htk] at hown
      have HALL := hide (slice_of_row hown)
      have HT5 := hide (HT4.out.on hB)
      have HP5 := hide (OutsAt.on HPP.out hB)
      have HX5 := hide (HX4.out.on hB)
      have HK5 := hide (HK4.out.on hB)
      have HB5 := hide (below_on HB4.out hB)
      clear hown htk hB HB HOWN HT4 HPP HX4 HK4 HB4 HBS
      obtain ⟨n0, n1, n2⟩ := HX5.out
      have HS2 : Hid (Totalling wr prev (.slice none 0 0) (.int .i64 0) wr) := hide ⟨0, Nat.zero_le _, rfl, Below.refl _ _, RowOwn.nil _ _ _ _⟩
      go_wp2
      clear n0 n1 n2
      generalize wr = W5 at *
      go_loopw [8, 60] (fun v i wr => Totalling W5 prev v i wr) (fun _ i _ => t.ins.length - (intOf i).toNat)
      case atStart => exact HS2.out
      case round =>
        clear HS2
        obtain ⟨k, hk, rfl, hB, hown⟩ := hrel
        rw [HLEN.out] at hk
        have HB := hide hB
        have HOWN := hide hown
        by_cases hlt : k < t.ins.length
        · obtain ⟨y, hy⟩ : ∃ y, prev[k]? = some y := ⟨_, List.getElem?_eq_getElem (by rw [HLEN.out]; exact hlt)⟩
          obtain ⟨x, hx⟩ : ∃ x, t.ins[k]? = some x := ⟨_, List.getElem?_eq_getElem hlt⟩
          obtain ⟨b, off, rfl, hr⟩ := OutsAt.get (OutsAt.on HP5.out hB) hy
          have hyl := (HPO.out y (List.mem_of_getElem? hy)).2.1
          have HXR := hide hr
          have HN : Hid ((Tryd.prog.info? 60).map (·.size) = some (outC y).length) := hide (by rw [outC_length hyl]; exact info_out)
          have H1 : Hid (∀ u ∈ outC y, u.oneCell' = true) := hide (outC_one y)
          have HT : Hid (∀ w : World, (w.alloc (.cells #[.int .u64 0, .int .u8 0, .int .u8 0, .int .u8 0, .int .u8 0, .int .u8 0, .int .u8 0, .int .u8 0, .int .u8 0, .int .u8 0, .int .u8 0, .int .u8 0, .int .u8 0, .int .u8 0, .int .u8 0, .int .u8 0, .int .u8 0, .int .u8 0, .int .u8 0, .int .u8 0, .int .u8 0, .int .u8 0, .int .u8 0, .int .u8 0, .int .u8 0, .int .u8 0, .int .u8 0, .int .u8 0, .int .u8 0, .int .u8 0, .int .u8 0, .int .u8 0, .int .u8 0] 60)).there w.heap.size 0 (outC y).length) := hide (fun w => by rw [outC_length hyl]; exact out_there w)
          have hk1 : (k : Int) < (t.ins.length : Int) := by omega
          have HX := hide hx
          have HY := hide hy
          have HYL := hide hyl
          clear hr hx hy hyl hB hown
          go_upto_region 20 with (first | (refine wpList_load_mid rfl 60 (.tmp 63) rfl b (off + k * 33) rfl (outC y) _ HXR.out Tryd.underlying60 rfl HN.out ?_) | (refine wp_store_row rfl 60 (.tmp 12) (.tmp 64) rfl wr.heap.size 0 (outC y) rfl rfl (HT.out wr) HN.out H1.out ?_))
          have hW : ((wr.alloc (.cells #[.int .u64 0, .int .u8 0, .int .u8 0, .int .u8 0, .int .u8 0, .int .u8 0, .int .u8 0, .int .u8 0, .int .u8 0, .int .u8 0, .int .u8 0, .int .u8 0, .int .u8 0, .int .u8 0, .int .u8 0, .int .u8 0, .int .u8 0, .int .u8 0, .int .u8 0, .int .u8 0, .int .u8 0, .int .u8 0, .int .u8 0, .int .u8 0, .int .u8 0, .int .u8 0, .int .u8 0, .int .u8 0, .int .u8 0, .int .u8 0, .int .u8 0, .int .u8 0, .int .u8 0] 60)).setCells wr.heap.size 0 (outC y)).rangeAt wr.heap.size 0 (outC y) := World.rangeAt_setCells_same _ _ _ _ (HT.out wr)
          have hB2 : Below wr.heap.size wr ((wr.alloc (.cells #[.int .u64 0, .int .u8 0, .int .u8 0, .int .u8 0, .int .u8 0, .int .u8 0, .int .u8 0, .int .u8 0, .int .u8 0, .int .u8 0, .int .u8 0, .int .u8 0, .int .u8 0, .int .u8 0, .int .u8 0, .int .u8 0, .int .u8 0, .int .u8 0, .int .u8 0, .int .u8 0, .int .u8 0, .int .u8 0, .int .u8 0, .int .u8 0, .int .u8 0, .int .u8 0, .int .u8 0, .int .u8 0, .int .u8 0, .int .u8 0, .int .u8 0, .int .u8 0, .int .u8 0] 60)).setCells wr.heap.size 0 (outC y)) := below_sets (Nat.le_refl _) _ _ _ ((Below.refl _ _).alloc (Nat.le_refl _) _)
          have c0 := hW 0 _ rfl
          simp only [Nat.add_zero] at c0
          generalize (wr.alloc (.cells #[.int .u64 0, .int .u8 0, .int .u8 0, .int .u8 0, .int .u8 0, .int .u8 0, .int .u8 0, .int .u8 0, .int .u8 0, .int .u8 0, .int .u8 0, .int .u8 0, .int .u8 0, .int .u8 0, .int .u8 0, .int .u8 0, .int .u8 0, .int .u8 0, .int .u8 0, .int .u8 0, .int .u8 0, .int .u8 0, .int .u8 0, .int .u8 0, .int .u8 0, .int .u8 0, .int .u8 0, .int .u8 0, .int .u8 0, .int .u8 0, .int .u8 0, .int .u8 0, .int .u8 0] 60)).setCells wr.heap.size 0 (outC y) = W2 at *
          have HB2 := hide (below_on HB.out hB2)
          have HOWN2 := hide (HOWN.out.move (w1 := W2) fun g _ hl => hB2.block g hl)
          have HWR := hide hW
          have HGB : Hid (u8.ownBlock ≠ some wr.heap.size) := hide (fun e => by have := (HOWN.out.lt _ e).2; omega)
          clear hW hB2 HXR HN H1 HT HB HOWN
          generalize wr.heap.size = gb at *
          simp only [Act.put]
          obtain ⟨v6, w6, hrun, hrow, hsame, hbel⟩ := row_more W2 W5.heap.size HB2.out.size u8 _ (by have := HLE.out.2.2; simp [valsO]; omega) HOWN2.out y.val
          have HROW : Hid (RowOwn w6 W5.heap.size 29 1 v6 (uC (valsO (prev.take (k + 1))))) := hide (by
            obtain ⟨e1, e2⟩ := List.getElem?_eq_some_iff.1 HY.out
            have e : valsO (prev.take (k + 1)) = valsO (prev.take k) ++ [y.val] := by
              rw [List.take_succ_eq_append_getElem e1, e2]
              simp [valsO]
            rw [e]
            exact hrow)
          have HB6 := hide (hbel _ _ HB2.out (Nat.le_refl _))
          have HRY : Hid (w6.rangeAt gb 1 (vals .u8 y.lock)) := hide (by
            have h := range_right (c := [Value.int .u64 y.val]) (d := vals .u8 y.lock) (range_block HWR.out (hsame gb (World.block_lt_of_cell? _ _ c0) HGB.out))
            simpa using h)
          have hX6 := HX5.out.on HB6.out
          obtain ⟨bi, oi, kv, e3, hrx, hbv⟩ := (HT5.out.1.on HB6.out).get HX.out
          subst e3
          have HKV : Hid (w6.cell? ⟨bi, oi + k * 34 + 33, none⟩ = some kv) := hide (inC_key hrx (HOK.out.2.1 x (List.mem_of_getElem? HX.out)).1).1
          have HIV := hide hX6.2.1
          have HK6 := hide (HK5.out.on HB6.out)
          have C := hide (lock_any w6.drew kv x.key hbv.drew (HK6.out.on (Below.refl _ _).drew) (by have := ((formB_iff t).1 (chE_form HZZ.out.1)).2.2 x (List.mem_of_getElem? HX.out); omega))
          have hop : digest x.key = y.lock := HRO.out HZZ.out.2.2.1 k x y HX.out HY.out
          rw [hop] at C
          have EQ := fun w => eql_hash y.lock HYL.out w
          have HLY : Hid ((Tryd.prog.info? 34).map (·.size) = some (vals .u8 y.lock).length) := hide (by rw [vals_length, HYL.out]; exact info_hash)
          clear hrow hbel hsame HOWN2 hX6 hrx hbv hop HWR HGB HB2
          go_upto_region 21 with (at_builtin; refine wp_app rfl (.tmp 65) (.tmp 68) 58 rfl (v1 := u8) (v2 := .slice (some ⟨W2.heap.size, 0, none⟩) 1 1) (v := v6) (w' := w6) rfl rfl ?_ ?_; exact hrun)
          clear hrun c0
          try simp only [Act.put]
          refine wp_region_held_drew (S := fun wx => Below w6.heap.size w6 wx) (by kernel_rfl) (Below.refl _ _).drew (fun hHeld => ?_)
          refine wpAnyH_take (i := 0) (oi := { dst := some 70, op := Op.fieldAddr 26 (Operand.tmp 2) 1, type := 0, pos := "law.go:111", after := #[], guard := none }) (v := .pointer (some ⟨q, 1, none⟩)) rfl (by kernel_rfl) (by kernel_rfl) (by kernel_rfl) (fun _ _ _ h => h) (Or.inl ⟨by rfl, fun w _ => by go_simp⟩) (by assumption) ?_
          simp only [Act.put, List.setIfInBounds_toArray, List.set_cons_zero, List.set_cons_succ]
          refine wpAnyH_take (i := 1) (oi := { dst := some 71, op := Op.load 23 (Operand.tmp 70), type := 23, pos := "law.go:111", after := #[{ on := 0, ground := Ground.data }], guard := none }) (v := .slice (some ⟨bi, oi, none⟩) t.ins.length cap) rfl (by kernel_rfl) (by kernel_rfl) (by kernel_rfl) (fun _ _ _ h => h) (Or.inl ⟨by rfl, fun wx h => by have c0 := (h.cell (World.block_lt_of_cell? _ _ HIV.out)).trans HIV.out; go_simp⟩) (by assumption) ?_
          simp only [Act.put, List.setIfInBounds_toArray, List.set_cons_zero, List.set_cons_succ]
          refine wpAnyH_take (i := 2) (oi := { dst := some 72, op := Op.move (Operand.tmp 11), type := 3, pos := "law.go:111", after := #[], guard := none }) (v := .int .i64 (k : Int)) rfl (by kernel_rfl) (by kernel_rfl) (by kernel_rfl) (fun _ _ _ h => h) (Or.inl ⟨by rfl, fun w _ => by go_simp⟩) (by assumption) ?_
          simp only [Act.put, List.setIfInBounds_toArray, List.set_cons_zero, List.set_cons_succ]
          refine wpAnyH_take (i := 3) (oi := { dst := some 73, op := Op.indexAddr 23 (Operand.tmp 71) (Operand.tmp 72), type := 0, pos := "law.go:111", after := #[{ on := 1, ground := Ground.data }, { on := 2, ground := Ground.data }], guard := none }) (v := .pointer (some ⟨bi, oi + k * 34, none⟩)) rfl (by kernel_rfl) (by kernel_rfl) (by kernel_rfl) (fun _ _ _ h => h) (Or.inl ⟨by rfl, fun w _ => by go_simp⟩) (by assumption) ?_
          simp only [Act.put, List.setIfInBounds_toArray, List.set_cons_zero, List.set_cons_succ]
          refine wpAnyH_take (i := 4) (oi := { dst := some 74, op := Op.fieldAddr 39 (Operand.tmp 73) 1, type := 0, pos := "law.go:111", after := #[{ on := 3, ground := Ground.data }], guard := none }) (v := .pointer (some ⟨bi, oi + k * 34 + 33, none⟩)) rfl (by kernel_rfl) (by kernel_rfl) (by kernel_rfl) (fun _ _ _ h => h) (Or.inl ⟨by rfl, fun w _ => by go_simp⟩) (by assumption) ?_
          simp only [Act.put, List.setIfInBounds_toArray, List.set_cons_zero, List.set_cons_succ]
          refine wpAnyH_take (i := 5) (oi := { dst := some 75, op := Op.load 37 (Operand.tmp 74), type := 37, pos := "law.go:111", after := #[{ on := 4, ground := Ground.data }], guard := none }) (v := kv) rfl (by kernel_rfl) (by kernel_rfl) (by kernel_rfl) (fun _ _ _ h => h) (Or.inl ⟨by rfl, fun wx h => by have c0 := (h.cell (World.block_lt_of_cell? _ _ HKV.out)).trans HKV.out; go_simp⟩) (by assumption) ?_
          simp only [Act.put, List.setIfInBounds_toArray, List.set_cons_zero, List.set_cons_succ]
          refine wpAnyH_take (i := 7) (oi := { dst := some 77, op := Op.fieldAddr 60 (Operand.tmp 12) 1, type := 0, pos := "law.go:111", after := #[], guard := none }) (v := .pointer (some ⟨gb, 1, none⟩)) rfl (by kernel_rfl) (by kernel_rfl) (by kernel_rfl) (fun _ _ _ h => h) (Or.inl ⟨by rfl, fun w _ => by go_simp⟩) (by assumption) ?_
          simp only [Act.put, List.setIfInBounds_toArray, List.set_cons_zero, List.set_cons_succ]
          refine wpAnyH_take (i := 8) (oi := { dst := some 78, op := Op.load 34 (Operand.tmp 77), type := 34, pos := "law.go:111", after := #[{ on := 7, ground := Ground.data }], guard := none }) (v := .agg (vals .u8 y.lock).toArray) rfl (by kernel_rfl) (by kernel_rfl) (by kernel_rfl) (fun _ _ _ h => h) (yieldsIf_load_mid (by rfl) 34 (.tmp 77) rfl gb 1 rfl (vals .u8 y.lock) _ (fun w h => range_on HRY.out h) Tryd.underlying34 rfl HLY.out) (by assumption) ?_
          simp only [Act.put, List.setIfInBounds_toArray, List.set_cons_zero, List.set_cons_succ]
          refine wpAnyH_ready (rs := [6]) (by kernel_rfl) (by simp) (AllReadyH.cons (o := { dst := some 76, op := Op.call { callee := Callee.value (Operand.func 13), args := #[Operand.tmp 75], argTypes := #[37] }, type := 34, pos := "law.go:111", after := #[{ on := 5, ground := Ground.data }], guard := none }) rfl (fun K hK => ?_) AllReadyH.nil)
          refine step_go (vs := #[kv]) rfl 13 _ Tryd.func13 hnm hbd _ _ rfl (by simp [Act.eval]) ?_
          refine C.out.mono ?_
          rintro e w7 ⟨rfl, hb7⟩
          have hb7' := hb7
          refine ⟨_, rfl, ?_⟩
          refine hK.out _ _ ?_ (fun hHeld => ?_)
          · exact below_on (Below.refl _ _).drew hb7
          clear hK K
          try simp only [Act.put, List.setIfInBounds_toArray, List.set_cons_zero, List.set_cons_succ]
          refine wpAnyH_take (i := 9) (oi := { dst := some 79, op := Op.binOp BinOp.neq 34 (Operand.tmp 76) (Operand.tmp 78) 34, type := 4, pos := "law.go:111", after := #[{ on := 6, ground := Ground.data }, { on := 8, ground := Ground.data }], guard := none }) (v := .bool false) rfl (by kernel_rfl) (by kernel_rfl) (by kernel_rfl) (fun _ _ _ h => h) (Or.inl ⟨by rfl, fun w _ => by go_simp⟩) (by assumption) ?_
          simp only [Act.put, List.setIfInBounds_toArray, List.set_cons_zero, List.set_cons_succ]
          refine wpAnyH_done (by kernel_rfl) ?_ _
          clear hHeld
          have HB7 := hide (below_on HB6.out (below_on (Below.refl _ _).drew hb7))
          clear hb7 EQ
          have R : Hid (Totalling W5 prev v6 (.int .i64 ((k + 1 : Nat) : Int)) w7) := hide ⟨k + 1, by omega, rfl, HB7.out, HROW.out.move fun g _ hl => (below_on (Below.refl _ _).drew hb7').block g hl⟩
          clear HB7 hb7' HROW
          go_wp2
          go_roundw
          case rel => first | exact R.out | ((repeat apply Exists.intro); exact ⟨R.out, rfl⟩)
          case measure => simp [intOf]; omega
        · have hk2 : (t.ins.length : Int) ≤ (k : Int) := by omega
          have htk : prev.take k = prev := List.take_of_length_le (by rw [HLEN.out]; omega)
          rw [htk] at hown
          have C1 := hide (csum_any _ u7 wr HBW.out (HALL.out.on hB))
          have C2 := hide (csum_any (valsO prev) u8 wr (fun z hz => by
            obtain ⟨x, hx, rfl⟩ := List.mem_map.1 hz
            exact (HPO.out x hx).1) (slice_of_row hown))
          rw [HBB.out.1, HBB.out.2] at C1
          rw [HZZ.out.2.2.2.1] at C2
          have HB7 := hide (below_on HB5.out hB)
          clear hown htk hB HB HOWN HALL HBB HBW HZZ
          generalize csumV (valsO prev) = s at *
          go_wp2_with fail
          refine C1.out.mono ?_
          rintro e w8 ⟨rfl, rfl⟩
          go_wp2_with fail
          refine C2.out.mono ?_
          rintro e w9 ⟨rfl, rfl⟩
          clear C1 C2
          go_wp2
          go_ret
          exact ⟨by first | rfl | simp, HB7.out⟩

set_option maxRecDepth 100000 in
theorem feeBalances_lifted (os : Os) (started : os.Started) (H : Type) (enc : TypeId × Value → H) :
    ReturnsInHanded {} Tryd.checked os 5 .any (fun w args => (Rows.feeBalancesSpec.pre enc Tryd.prog Tryd.f5 [] false w args ∧ laidMetH Tryd.prog laid1 w) ∧ sizedMet enc Tryd.prog Tryd.f5 (OpenSpec.ofChange Rows.feeBalancesSpec) false w args)
      (Rows.feeBalancesSpec.post enc Tryd.prog Tryd.f5 false true false false) := by
  refine returnsInHanded_of_change_and (C := Tryd.checked) (X := fun w _ => laidMetH Tryd.prog laid1 w) (fun _ _ _ hh h => h.of_heap hh) own started (by kernel_rfl) Tryd.func5
    (ChangeSpec.witness_shaped (enc := enc) (C := Tryd.checked) (os := os) (X := fun w _ => laidMetH Tryd.prog laid1 w) false (World.doorLaid Tryd.prog 14 os) #[.agg #[.int .u32 0, .slice none 0 0, .slice none 0 0], .slice none 0 0] 8 rfl (World.shaped_of_RefB (by kernel_rfl) (by kernel_rfl)) (by kernel_rfl) (by kernel_rfl) (by kernel_rfl) (door_met os _)) ?_
  intro W base args ds gs before hval0 hW _ _ hL _
  have hval : ∀ (j : Nat) t v, Tryd.f5.params[j]? = some t → args[j]? = some v → Value.okWide Tryd.prog W .any base t v := hval0
  have hW' := hW
  obtain ⟨p, q, hA0, hV, rfl, hfz, hnd⟩ := hW
  have hA : DataW.TrodAll enc Tryd.prog W 0 (fun _ => true) true Tryd.f5.params.toList args.toList ds p := hA0
  rw [Tryd.params5] at hA hval
  obtain ⟨v0, vs0, d0, ds0, p0, q0, hargs, rfl, rfl, h0, r0⟩ := trodAll_cons hA
  obtain ⟨v1, vs1, d1, ds1, p1, q1, rfl, rfl, rfl, h1, r1⟩ := trodAll_cons r0
  obtain ⟨rfl, rfl, rfl⟩ := trodAll_nil r1
  obtain rfl : args = #[v0, v1] := by cases args; simp_all
  obtain ⟨rfl, rfl⟩ := trodVars_none hV
  have k0 := h0
  have lt0 : ∀ x ∈ p0, x.block < W.heap.size := by obtain ⟨m, hm⟩ := k0; exact DataW.trod_lt m _ _ _ hm
  obtain ⟨t0, a0, b0, rfl, s0, w0⟩ := tx_came (fun _ => rfl) (hval 0 26 v0 rfl rfl) h0
  have k1 := h1
  have lt1 : ∀ x ∈ p1, x.block < W.heap.size := by obtain ⟨m, hm⟩ := k1; exact DataW.trod_lt m _ _ _ hm
  obtain ⟨l1, s1, w1⟩ := outs_arg (hval 1 24 v1 rfl rfl) h1
  clear hA0 hval0
  refine (feeBalances_walk (w := W) (ks_of_laid hL) t0 _ _ s0 w0 _ l1 w1 s1).mono fun e W' ⟨he, bel⟩ => ?_
  subst he
  exact ⟨_, rfl, _, _, _, [], _, [], hW', trodAll_mk1 (shut_bool Tryd.underlying4 _), (trodAll_cons_mk (Below.trod laidOut (by kernel_rfl) (of_decide_eq_true (by kernel_rfl)) k0 bel lt0) (trodAll_cons_mk (Below.trod laidOut (by kernel_rfl) (of_decide_eq_true (by kernel_rfl)) k1 bel lt1) trodAll_mk0)), rfl, bel.frame _, fun h => by cases h⟩

theorem feeBalances_holds : Rows.FeeBalancesSaid :=
  OpenClaim.holds_of_wide 5 Tryd.f5 rfl rfl rfl rfl rfl rfl rfl ⟨rfl, rfl, rfl, rfl, rfl⟩ rfl rfl rfl rfl rfl (by kernel_rfl) Tryd.func5 (by kernel_rfl)
    (of_decide_eq_true (by kernel_rfl)) (by unfold Func.isWrapper; first | (rw [if_pos (by decide +kernel)]; kernel_rfl) | (rw [if_neg (by decide +kernel)]; exact ⟨rfl, rfl⟩))
    (fun os started H enc _ => feeBalances_lifted os started H enc)
#print axioms feeBalances_holds
theorem feeBalances_card : Rows.FeeBalancesCardSaid :=
  Claim7.holds_tied_plain_at .later [] [.data] true (true, "85baf81c6edc530ebc6a8ace781ae8a87f889e51b0c1991837a95916fbd68c89") false
    feeBalances_holds (fun _ h => by cases h) (by kernel_rfl) (fun _ h => by cases h) feeBalances_row_tie rfl ⟨rfl, rfl⟩ (by kernel_rfl) rfl
    (fun f fn hf hfn => by
      obtain rfl : f = 5 := Option.some.inj ((show Tryd.prog.funcNamed "pappus/pappuslaw10.FeeBalances" = some 5 by kernel_rfl).symm.trans hf) |>.symm
      obtain rfl : fn = Tryd.f5 := (Option.some.inj (Tryd.func5.symm.trans hfn)).symm
      exact ⟨by kernel_rfl, fun j t ht => by
        rw [Tryd.params5] at ht
        have hm : t ∈ [26, 24] := by simpa using Array.mem_of_getElem? ht
        have hall : ([26, 24].all fun u => !Tryd.prog.wantsStandIn u) = true := by kernel_rfl
        exact (show Tryd.prog.wantsStandIn t = false by simpa using List.all_eq_true.1 hall t hm)⟩)
    (by kernel_rfl)
#print axioms feeBalances_card
end Go.Proofs.YtbeegcpmpgdbnaaDoor
