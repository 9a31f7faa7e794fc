/-
  The law TxMay, of a transaction that is great or may not be.
-/
import Derived.Test.YtjmifgdjmaelfaaTxCheck
namespace Go.Proofs.Ytjmifgdjmaelfaa
open Go.ChangeShapes Go.WideShapes Go.ChangeAt Go.RowKit

set_option maxRecDepth 100000 in
set_option maxHeartbeats 1000000 in
theorem may_great {w : World} (t : Tr) (iv ov : Value) (h : TxAt w iv ov t) (hok : TrOk t) (x : Int) (hg : greatB t = true) :
    Calls Try.prog 4 #[.agg #[.int .u32 t.ver, iv, ov], .int .u8 x] w fun e w' => e = .returned (.bool true) ∧ Below w.heap.size w w' := by
  have HT0 := hide (h.on (below_new w (.cells #[.int .u32 t.ver, iv, ov] 28)))
  have HB0 := hide (below_new w (.cells #[.int .u32 t.ver, iv, ov] 28))
  have HX0 := hide (TBox.new w (.int .u32 t.ver) iv ov 28)
  have GR := hide (fun w (h : TxAt w iv ov t) => great_any t iv ov w h.1 h.2 (fun x hx => (hok.2.1 x hx).1))
  rw [hg] at GR
  have AL := hide alive_any
  obtain ⟨a, cap, rfl, -, -⟩ := h.1.form
  obtain ⟨a', cap', rfl, -, -⟩ := h.2.form
  clear h hok hg
  go_enter Try.func4, Try.ntmps4
  go_upto_region 1 with fail
  generalize w.alloc (.cells #[.int .u32 t.ver, .slice a t.ins.length cap, .slice a' t.outs.length cap'] 28) = W0 at *
  go_wp2_with fail
  refine (AL.out _).mono ?_
  rintro e w1 ⟨rfl, hb1⟩
  have HB1 := hide (below_on HB0.out hb1)
  have HT1 := hide (HT0.out.on hb1)
  have HX1 := hide (HX0.out.on hb1)
  obtain ⟨n0, n1, n2⟩ := HX1.out
  clear hb1 HB0 HT0 HX0 AL
  go_wp2_with fail
  refine (GR.out _ HT1.out).mono ?_
  rintro e w2 ⟨rfl, hb2⟩
  have HB2 := hide (below_on HB1.out hb2)
  clear n0 n1 n2 hb2
  go_wp2
  go_ret
  exact ⟨rfl, HB2.out⟩
set_option maxRecDepth 100000 in
set_option maxHeartbeats 1000000 in
theorem may_no {w : World} (t : Tr) (iv ov : Value) (h : TxAt w iv ov t) (hok : TrOk t) (x : Int) (hg : greatB t = false) (p d : Bool) (hp : p = true ↔ PayOk t.outs) (hd : d = false ↔ (t.ins.map ptOf).Nodup) (hE : ¬ chE t p d = 0) :
    Calls Try.prog 4 #[.agg #[.int .u32 t.ver, iv, ov], .int .u8 x] w fun e w' => e = .returned (.bool true) ∧ Below w.heap.size w w' := by
  have HT0 := hide (h.on (below_new w (.cells #[.int .u32 t.ver, iv, ov] 28)))
  have HB0 := hide (below_new w (.cells #[.int .u32 t.ver, iv, ov] 28))
  have HX0 := hide (TBox.new w (.int .u32 t.ver) iv ov 28)
  have GR := hide (fun w (h : TxAt w iv ov t) => great_any t iv ov w h.1 h.2 (fun x hx => (hok.2.1 x hx).1))
  rw [hg] at GR
  have AL := hide alive_any
  have CH := hide (fun w h => tcheck_any t iv ov w h hok p d hp hd)
  generalize chE t p d = E at *
  have hE1 : (E == 0) = false := beq_eq_false_iff_ne.2 hE
  obtain ⟨a, cap, rfl, -, -⟩ := h.1.form
  obtain ⟨a', cap', rfl, -, -⟩ := h.2.form
  clear h hok hg hp hd
  go_enter Try.func4, Try.ntmps4
  go_upto_region 1 with fail
  generalize w.alloc (.cells #[.int .u32 t.ver, .slice a t.ins.length cap, .slice a' t.outs.length cap'] 28) = W0 at *
  go_wp2_with fail
  refine (AL.out _).mono ?_
  rintro e w1 ⟨rfl, hb1⟩
  have HB1 := hide (below_on HB0.out hb1)
  have HT1 := hide (HT0.out.on hb1)
  have HX1 := hide (HX0.out.on hb1)
  obtain ⟨n0, n1, n2⟩ := HX1.out
  clear hb1 HB0 HT0 HX0 AL
  go_wp2_with fail
  refine (GR.out _ HT1.out).mono ?_
  rintro e w2 ⟨rfl, hb2⟩
  have HB2 := hide (below_on HB1.out hb2)
  have HT2 := hide (HT1.out.on hb2)
  have HX2 := hide (HX1.out.on hb2)
  clear n0 n1 n2
  obtain ⟨n0, n1, n2⟩ := HX2.out
  clear hb2 HB1 HT1 HX1 GR
  go_wp2_with fail
  refine (CH.out _ HT2.out).mono ?_
  rintro e w3 ⟨rfl, hb3⟩
  have HB3 := hide (below_on HB2.out hb3)
  clear n0 n1 n2 hb3
  go_wp2
  go_ret
  exact ⟨rfl, HB3.out⟩

end Go.Proofs.Ytjmifgdjmaelfaa
