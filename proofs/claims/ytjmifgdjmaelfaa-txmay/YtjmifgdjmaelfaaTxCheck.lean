/-
  What tx.Check answers at this program, whatever the transaction.
-/
import Derived.Test.YtjmifgdjmaelfaaTxLawK
import Derived.Test.YtjmifgdjmaelfaaTxPay
import Derived.Test.YtjmifgdjmaelfaaTxRepeat
namespace Go.Proofs.Ytjmifgdjmaelfaa
open Go.RowKit

/-- Its answer, out of what payable and repeated are. -/
def chE (t : Tr) (p d : Bool) : Int := if formB t = false then 5 else if t.ins.length = 0 ∨ t.outs.length = 0 then 9 else if p = false then 11 else if d = true then 12 else 0
def PayOk (L : List TOut) : Prop := (∀ x ∈ L, valOk x) ∧ sumV L ≤ 1125899906842624

set_option maxRecDepth 100000 in
set_option maxHeartbeats 1000000 in
theorem tcheck_any (t : Tr) (iv ov : Value) (w : World) (h : TxAt w iv ov t) (hok : TrOk t) (p d : Bool) (hp : p = true ↔ PayOk t.outs) (hd : d = false ↔ (t.ins.map ptOf).Nodup) :
    Calls Try.prog 13 #[.agg #[.int .u32 t.ver, iv, ov]] w fun e w' => e = .returned (.int .i64 (chE t p d)) ∧ Below w.heap.size w w' := by
  have hbel := below_new w (.cells #[.int .u32 t.ver, iv, ov] 28)
  have F := hide (formed_any t iv ov _ (h.1.on hbel) (h.2.on hbel) (fun x hx => (hok.2.1 x hx).1))
  have HB := hide hbel
  have HT := hide (h.on hbel)
  have HX := hide (TBox.new w (.int .u32 t.ver) iv ov 28)
  obtain ⟨n0, n1, n2⟩ := HX.out
  cases hf : formB t with
  | false =>
    have e : chE t p d = 5 := if_pos hf
    rw [e]
    rw [hf] at F
    obtain ⟨a, cap, rfl, hc1, hc2⟩ := h.1.form
    obtain ⟨a', cap', rfl, hd1, hd2⟩ := h.2.form
    clear h hbel hok hp hd hf e
    go_enter Try.func13, Try.ntmps13
    go_upto_region 1 with fail
    generalize w.alloc (.cells #[.int .u32 t.ver, .slice a t.ins.length cap, .slice a' t.outs.length cap'] 28) = W0 at *
    go_wp2_with fail
    refine F.out.mono ?_
    rintro e w1 ⟨rfl, hb1⟩
    have R := hide (below_on HB.out hb1)
    clear hb1 n0 n1 n2
    go_wp2
    go_ret
    exact ⟨rfl, R.out⟩
  | true =>
    obtain ⟨f1, f2, f3⟩ := (formB_iff t).1 hf
    rw [hf] at F
    have PY := hide (fun w h => payable_any t.outs ov w h hok.2.2 f2 p hp)
    have RP := hide (fun w h => repeated_any t.ins iv w h hok.2.1 (by omega) d hd)
    have HCH : Hid (((t.ins.length = 0 ∨ t.outs.length = 0) → chE t p d = 9) ∧ (¬ (t.ins.length = 0 ∨ t.outs.length = 0) → (p = false → chE t p d = 11) ∧ (p = true → (d = true → chE t p d = 12) ∧ (d = false → chE t p d = 0)))) := hide (by
      unfold chE
      rw [if_neg (by rw [hf]; decide)]
      refine ⟨fun h => if_pos h, fun h => ⟨fun hp => by rw [if_neg h, if_pos hp], fun hp => ⟨fun hd => by rw [if_neg h, if_neg (by rw [hp]; decide), if_pos hd], fun hd => by rw [if_neg h, if_neg (by rw [hp]; decide), if_neg (by rw [hd]; decide)]⟩⟩⟩)
    generalize chE t p d = E at *
    obtain ⟨a, cap, rfl, hc1, hc2⟩ := h.1.form
    obtain ⟨a', cap', rfl, hd1, hd2⟩ := h.2.form
    clear h hbel hok hp hd hf f3
    go_enter Try.func13, Try.ntmps13
    go_upto_region 1 with fail
    generalize w.alloc (.cells #[.int .u32 t.ver, .slice a t.ins.length cap, .slice a' t.outs.length cap'] 28) = W0 at *
    go_wp2_with fail
    refine F.out.mono ?_
    rintro e w1 ⟨rfl, hb1⟩
    have HB1 := hide (below_on HB.out hb1)
    have HT1 := hide (HT.out.on hb1)
    have HX1 := hide (HX.out.on hb1)
    clear n0 n1 n2
    obtain ⟨n0, n1, n2⟩ := HX1.out
    clear hb1 HB HT HX F
    by_cases h0 : t.ins.length = 0
    · have HF := hide (HCH.out.1 (Or.inl h0))
      clear PY RP HCH
      rw [h0] at n1
      clear h0
      go_wp2
      go_ret
      exact ⟨by rw [HF.out]; first | done | rfl, HB1.out⟩
    · have h0' : ((t.ins.length : Int) == 0) = false := by simpa using h0
      have h0'' : ¬ (t.ins.length : Int) = 0 := by omega
      by_cases h1 : t.outs.length = 0
      · have HF := hide (HCH.out.1 (Or.inr h1))
        clear PY RP HCH h0
        rw [h1] at n2
        clear h1
        go_wp2
        go_ret
        exact ⟨by rw [HF.out]; first | done | rfl, HB1.out⟩
      · have h1' : ((t.outs.length : Int) == 0) = false := by simpa using h1
        have h1'' : ¬ (t.outs.length : Int) = 0 := by omega
        have HE := hide (HCH.out.2 (by omega))
        clear HCH h0 h1
        go_wp2_with fail
        refine (PY.out _ HT1.out.2).mono ?_
        rintro e w2 ⟨rfl, hb2⟩
        have HB2 := hide (below_on HB1.out hb2)
        have HT2 := hide (HT1.out.on hb2)
        clear n0 n1 n2
        obtain ⟨n0, n1, n2⟩ := HX1.out.on hb2
        clear hb2 HB1 HT1 HX1 PY
        cases p with
        | false =>
          have HF := hide (HE.out.1 rfl)
          clear RP HE
          go_wp2
          go_ret
          exact ⟨by rw [HF.out]; first | done | rfl, HB2.out⟩
        | true =>
          have HG := hide (HE.out.2 rfl)
          clear HE
          go_wp2_with fail
          refine (RP.out _ HT2.out.1).mono ?_
          rintro e w3 ⟨rfl, hb3⟩
          have R := hide (below_on HB2.out hb3)
          clear hb3 HB2 HT2 RP n0 n1 n2
          cases d with
          | true =>
            have HF := hide (HG.out.1 rfl)
            clear HG
            go_wp2
            go_ret
            exact ⟨by rw [HF.out]; first | done | rfl, R.out⟩
          | false =>
            have HF := hide (HG.out.2 rfl)
            clear HG
            go_wp2
            go_ret
            exact ⟨by rw [HF.out]; first | done | rfl, R.out⟩

end Go.Proofs.Ytjmifgdjmaelfaa
