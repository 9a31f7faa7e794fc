/-
  What tx.Check answers at this program, of a transaction without a form.
-/
import Derived.Test.YtjgainoplgojiaaTxLawK
namespace Go.Proofs.Ytjgainoplgojiaa
open Go.RowKit

theorem tcheck_long (t : Tr) (iv ov : Value) (w : World) (h : TxAt w iv ov t) (hl : ∀ x ∈ t.ins, x.tx.length = 32) (hf : formB t = false) :
    Calls Try.prog 15 #[.agg #[.int .u32 t.ver, iv, ov]] w fun e w' => e = .returned (.int .i64 5) ∧ Below w.heap.size w w' := by
  have hbel := below_new w (.cells #[.int .u32 t.ver, iv, ov] 28)
  have F := hide (formed_any t iv ov _ (h.1.on hbel) (h.2.on hbel) hl)
  rw [hf] at F
  have HB := hide hbel
  obtain ⟨n0, n1, n2⟩ := TBox.new w (.int .u32 t.ver) iv ov 28
  obtain ⟨a, cap, rfl, hc1, hc2⟩ := h.1.form
  obtain ⟨a', cap', rfl, hd1, hd2⟩ := h.2.form
  clear h hl hf hbel
  go_enter Try.func15, Try.ntmps15
  go_upto_region 1 with fail
  generalize w.alloc (.cells #[.int .u32 t.ver, .slice a t.ins.length cap, .slice a' t.outs.length cap'] 28) = W0 at *
  go_wp2_with fail
  refine F.out.mono ?_
  rintro e w1 ⟨rfl, hb1⟩
  have R := hide (HB.out.trans (hb1.mono HB.out.size))
  clear hb1 n0 n1 n2
  go_wp2
  go_ret
  exact ⟨rfl, R.out⟩

end Go.Proofs.Ytjgainoplgojiaa
