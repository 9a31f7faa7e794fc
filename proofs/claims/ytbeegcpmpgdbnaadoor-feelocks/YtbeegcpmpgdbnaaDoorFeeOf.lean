/-
  What fee.Of answers at this program, whatever the transaction and the outputs that it spends.
-/
import Derived.Test.YtbeegcpmpgdbnaaDoorFeeD
import Derived.Test.YtbeegcpmpgdbnaaDoorTxCk
namespace Go.Proofs.YtbeegcpmpgdbnaaDoor
open Go.RowKit

/-- Its two answers, out of what the check, the locks and the values are. -/
def ofV (t : Tr) (prev : List TOut) (p d r : Bool) : Int := if chE t p d = 0 ∧ prev.length = t.ins.length ∧ r = true ∧ sumE (valsO prev) = 0 ∧ csumV (valsO t.outs) ≤ csumV (valsO prev) then csumV (valsO prev) - csumV (valsO t.outs) else 0
def ofE (t : Tr) (prev : List TOut) (p d r : Bool) : Int := if chE t p d ≠ 0 then chE t p d else if prev.length ≠ t.ins.length then 2 else if r = false then 13 else if sumE (valsO prev) ≠ 0 ∨ csumV (valsO prev) < csumV (valsO t.outs) then 11 else 0
theorem chE_form {t : Tr} {p d : Bool} (h : chE t p d = 0) : formB t = true := by
  unfold chE at h
  cases hf : formB t with
  | true => rfl
  | false =>
    rw [if_pos hf] at h
    cases h
theorem csumV_word {l : List Int} (h : ∀ z ∈ l, Word z) : Word (csumV l) := by
  have := tot_nonneg l (fun z hz => (h z hz).1)
  unfold csumV Word
  split <;> omega

set_option maxRecDepth 100000 in
set_option maxHeartbeats 2000000 in
theorem of_any (t : Tr) (iv ov pv : Value) (prev : List TOut) (w : World) (h : TxAt w iv ov t) (ho : OutsAt w pv prev) (hok : TrOk t) (hpo : ∀ x ∈ prev, OutOk x) (hk : Ks w) (p d r : Bool) (hp : p = true ↔ PayOk t.outs) (hd : d = false ↔ (t.ins.map ptOf).Nodup) (hr : r = true ↔ Opens t.ins prev) :
    Calls Tryd.prog 11 #[.agg #[.int .u32 t.ver, iv, ov], pv] w fun e w' => e = .returned (.tuple #[.int .u64 (ofV t prev p d r), .int .i64 (ofE t prev p d r)]) ∧ Below w.heap.size w w' := by
  have hbel := below_new w (.cells #[.int .u32 t.ver, iv, ov] 26)
  have HB := hide hbel
  have HT := hide (h.on hbel)
  have HP := hide (OutsAt.on ho hbel)
  have HK := hide (hk.on hbel)
  have HX := hide (TBox.new w (.int .u32 t.ver) iv ov 26)
  have CH := hide (fun w h => tcheck_any t iv ov w h hok p d hp hd)
  have OPN := hide (fun w (hf : formB t = true) (hi : InsAt w iv t.ins) (ho : OutsAt w pv prev) (hl : prev.length = t.ins.length) (hk : Ks w) => opened_any t.ins prev iv pv w hi ho hl (fun x hx => ⟨(hok.2.1 x hx).1, by have := ((formB_iff t).1 hf).2.2 x hx; omega⟩) (fun y hy => (hpo y hy).2.1) (by have := ((formB_iff t).1 hf).1; omega) hk r hr)
  have TP := hide (fun w (hf : formB t = true) (ho : OutsAt w pv prev) (hl : prev.length = t.ins.length) => total_any prev pv w ho hpo (by have := ((formB_iff t).1 hf).1; omega))
  have TT := hide (fun w (hf : formB t = true) (ho : OutsAt w ov t.outs) => total_any t.outs ov w ho hok.2.2 (by have := ((formB_iff t).1 hf).2.1; omega))
  have HW1 := hide (csumV_word (l := valsO prev) (fun z hz => by obtain ⟨x, hx, rfl⟩ := List.mem_map.1 hz; exact (hpo x hx).1))
  have HW2 := hide (csumV_word (l := valsO t.outs) (fun z hz => by obtain ⟨x, hx, rfl⟩ := List.mem_map.1 hz; exact (hok.2.2 x hx).1))
  have HF := hide (fun h => chE_form (t := t) (p := p) (d := d) h)
  have HV : Hid (ofV t prev p d r = if chE t p d = 0 ∧ prev.length = t.ins.length ∧ r = true ∧ sumE (valsO prev) = 0 ∧ csumV (valsO t.outs) ≤ csumV (valsO prev) then csumV (valsO prev) - csumV (valsO t.outs) else 0) := hide rfl
  have HE : Hid (ofE t prev p d r = if chE t p d ≠ 0 then chE t p d else if prev.length ≠ t.ins.length then 2 else if r = false then 13 else if sumE (valsO prev) ≠ 0 ∨ csumV (valsO prev) < csumV (valsO t.outs) then 11 else 0) := hide rfl
  obtain ⟨a, cap, rfl, hc1, hc2⟩ := h.1.form
  obtain ⟨a', cap', rfl, hd1, hd2⟩ := h.2.form
  obtain ⟨a'', cap'', rfl, he1, he2⟩ := OutsAt.form ho
  obtain ⟨n0, n1, n2⟩ := HX.out
  clear h ho hok hpo hk hp hd hr hbel
  generalize ofV t prev p d r = RV at *
  generalize ofE t prev p d r = RE at *
  generalize chE t p d = ce at *
  generalize csumV (valsO prev) = sp at *
  generalize csumV (valsO t.outs) = st at *
  generalize sumE (valsO prev) = se at *
  generalize sumE (valsO t.outs) = se2 at *
  generalize prev.length = np at *
  generalize t.ins.length = ni at *
  go_enter Tryd.func11, Tryd.ntmps11
  go_upto_region 1 with fail
  generalize w.alloc (.cells #[.int .u32 t.ver, .slice a ni cap, .slice a' t.outs.length cap'] 26) = W0 at *
  go_wp2_with fail
  refine (CH.out _ HT.out).mono ?_
  rintro e w1 ⟨rfl, hb1⟩
  have HB1 := hide (below_on HB.out hb1)
  have HT1 := hide (HT.out.on hb1)
  have HP1 := hide (OutsAt.on HP.out hb1)
  have HK1 := hide (HK.out.on hb1)
  have HX1 := hide (HX.out.on hb1)
  clear n0 n1 n2 hb1 HB HT HP HK HX CH
  obtain ⟨n0, n1, n2⟩ := HX1.out
  by_cases c0 : ce = 0
  · subst c0
    have HFF := hide (HF.out rfl)
    by_cases c1 : np = ni
    · subst c1
      have HL : Hid (np = np) := hide rfl
      go_wp2_with fail
      refine (OPN.out _ HFF.out HT1.out.1 HP1.out HL.out HK1.out).mono ?_
      rintro e w2 ⟨rfl, hb2⟩
      have HB2 := hide (below_on HB1.out hb2)
      have HT2 := hide (HT1.out.on hb2)
      have HP2 := hide (OutsAt.on HP1.out hb2)
      have HX2 := hide (HX1.out.on hb2)
      clear n0 n1 n2 hb2 HB1 HT1 HP1 HK1 HX1 OPN
      obtain ⟨n0, n1, n2⟩ := HX2.out
      cases r with
      | false =>
        have A : Hid (RV = 0 ∧ RE = 13) := hide (by
          rw [HV.out, HE.out]
          simp)
        go_wp2
        go_ret2
        exact ⟨by rw [A.out.1, A.out.2]; first | done | rfl, HB2.out⟩
      | true =>
        go_wp2_with fail
        refine (TP.out _ HFF.out HP2.out HL.out).mono ?_
        rintro e w3 ⟨rfl, hb3⟩
        have HB3 := hide (below_on HB2.out hb3)
        have HT3 := hide (HT2.out.on hb3)
        have HX3 := hide (HX2.out.on hb3)
        clear n0 n1 n2 hb3 HB2 HT2 HP2 HX2 TP
        obtain ⟨n0, n1, n2⟩ := HX3.out
        by_cases c2 : se = 0
        · subst c2
          go_wp2_with fail
          refine (TT.out _ HFF.out HT3.out.2).mono ?_
          rintro e w4 ⟨rfl, hb4⟩
          have HB4 := hide (below_on HB3.out hb4)
          clear n0 n1 n2 hb4 HB3 HT3 HX3 TT
          by_cases c3 : sp < st
          · have A : Hid (RV = 0 ∧ RE = 11) := hide (by
              rw [HV.out, HE.out]
              simp [c3, show ¬ st ≤ sp by omega])
            go_wp2
            go_ret2
            exact ⟨by rw [A.out.1, A.out.2]; first | done | rfl, HB4.out⟩
          · have A : Hid (RV = sp - st ∧ RE = 0) := hide (by
              rw [HV.out, HE.out]
              simp [c3, show st ≤ sp by omega])
            have hw : IntKind.u64.wrap (sp - st) = sp - st := by
              have h1 := HW1.out
              have h2 := HW2.out
              unfold Word at h1 h2
              rw [IntKind.wrap_u64]
              omega
            go_wp2
            go_ret2
            exact ⟨by rw [A.out.1, A.out.2]; first | done | rfl, HB4.out⟩
        · have hne : (se == 0) = false := by rw [beq_eq_false_iff_ne]; exact c2
          have A : Hid (RV = 0 ∧ RE = 11) := hide (by
            rw [HV.out, HE.out]
            simp [c2])
          go_wp2
          go_ret2
          exact ⟨by rw [A.out.1, A.out.2]; first | done | rfl, HB3.out⟩
    · have h1 : ((np : Int) == (ni : Int)) = false := by rw [beq_eq_false_iff_ne]; omega
      have h1' : ¬ (np : Int) = (ni : Int) := by omega
      have A : Hid (RV = 0 ∧ RE = 2) := hide (by
        rw [HV.out, HE.out]
        simp [c1])
      go_wp2
      go_ret2
      exact ⟨by rw [A.out.1, A.out.2]; first | done | rfl, HB1.out⟩
  · have hne : (ce == 0) = false := by rw [beq_eq_false_iff_ne]; exact c0
    have A : Hid (RV = 0 ∧ RE = ce) := hide (by
      rw [HV.out, HE.out]
      simp [c0])
    go_wp2
    go_ret2
    exact ⟨by rw [A.out.1, A.out.2]; first | done | rfl, HB1.out⟩

end Go.Proofs.YtbeegcpmpgdbnaaDoor
