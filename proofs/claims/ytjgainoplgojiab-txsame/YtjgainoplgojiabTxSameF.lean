/-
  What tx.Same answers at this program, of any two transactions.
-/
import Derived.Test.YtjgainoplgojiabTxEql
import Derived.Test.YtjgainoplgojiabTxForm
import Derived.Test.YtjgainoplgojiabTxAddIn
import Derived.Test.YtjgainoplgojiabBytEq
import Derived.Test.YtjgainoplgojiabRefSame07
namespace Go.Proofs.Ytjgainoplgojiab
open Go.RowKit

def inEq (x y : TIn) : Bool := (decide (x.tx = y.tx) && decide (x.n = y.n)) && decide (x.key = y.key)
theorem inEq_iff (x y : TIn) : inEq x y = true ↔ x = y := by
  obtain ⟨a, b, c⟩ := x
  obtain ⟨a', b', c'⟩ := y
  simp [inEq, and_assoc]
def outEq (x y : TOut) : Bool := decide (x.val = y.val) && decide (x.lock = y.lock)
theorem outEq_iff (x y : TOut) : outEq x y = true ↔ x = y := by
  obtain ⟨a, b⟩ := x
  obtain ⟨a', b'⟩ := y
  simp [outEq]

set_option maxRecDepth 100000 in
set_option maxHeartbeats 1000000 in
theorem tsamein_any (x y : TIn) (kv kv' : Value) (w : World) (hx : InOk x) (hy : InOk y) (hk : Bytes w kv x.key) (hk' : Bytes w kv' y.key) :
    Calls Try.prog 20 #[.agg (inC (x, kv)).toArray, .agg (inC (y, kv')).toArray] w fun e w' => e = .returned (.bool (inEq x y)) ∧ Below w.heap.size w w' := by
  have b1 := below_on (show Below w.heap.size w (w.alloc (.cells (inC (x, kv)).toArray 42)) from (Below.refl _ _).alloc (Nat.le_refl _) _) (show Below _ _ ((w.alloc (.cells (inC (x, kv)).toArray 42)).alloc (.cells (inC (y, kv')).toArray 42)) from (Below.refl _ _).alloc (Nat.le_refl _) _)
  have r1 := range_on (range_new w (inC (x, kv)) 42) (show Below _ _ ((w.alloc (.cells (inC (x, kv)).toArray 42)).alloc (.cells (inC (y, kv')).toArray 42)) from (Below.refl _ _).alloc (Nat.le_refl _) _)
  have r2 := range_new (w.alloc (.cells (inC (x, kv)).toArray 42)) (inC (y, kv')) 42
  rw [alloc_size] at r2
  obtain ⟨p1, c1⟩ := inC_range r1 hx.1
  obtain ⟨p2, c2⟩ := inC_range r2 hy.1
  simp only [Nat.zero_add] at p1 c1 p2 c2
  have EQ := hide (equal_any x.key y.key kv kv' _ (hk.below b1) (hk'.below b1) hx.2.2.2 hy.2.2.2)
  have hEQ := eql_pt x.tx y.tx x.n y.n hx.1 hy.1
  have HLP : Hid ((Try.prog.info? 39).map (·.size) = some (ptC x.tx x.n).length) := hide (by rw [ptC_length _ hx.1]; exact info_pt)
  have HLQ : Hid ((Try.prog.info? 39).map (·.size) = some (ptC y.tx y.n).length) := hide (by rw [ptC_length _ hy.1]; exact info_pt)
  have HP1 := hide p1
  have HP2 := hide p2
  have HB := hide b1
  unfold inEq
  obtain ⟨a, c, rfl, -, -⟩ := hk.form
  obtain ⟨a', c', rfl, -, -⟩ := hk'.form
  clear r1 r2 p1 p2 b1 hx hy hk hk'
  generalize (decide (x.tx = y.tx) && decide (x.n = y.n)) = d1 at *
  generalize decide (x.key = y.key) = d2 at *
  generalize x.key.length = kl at *
  generalize y.key.length = kl' at *
  generalize ptC x.tx x.n = P1 at *
  generalize ptC y.tx y.n = P2 at *
  go_enter Try.func20, Try.ntmps20
  go_upto_region 1 with fail
  generalize (w.alloc (.cells (inC (x, .slice a kl c)).toArray 42)).alloc (.cells (inC (y, .slice a' kl' c')).toArray 42) = W at *
  generalize hg : w.heap.size = g at *
  have HG := hide hg
  clear hg
  cases d1 with
  | true =>
    go_wp2_with (first | (refine wpList_load_mid rfl 39 (.tmp 5) rfl g 0 rfl P1 _ HP1.out Try.underlying39 rfl HLP.out ?_) | (refine wpList_load_mid rfl 39 (.tmp 7) rfl (g + 1) 0 rfl P2 _ HP2.out Try.underlying39 rfl HLQ.out ?_))
    refine EQ.out.mono ?_
    rintro e w1 ⟨rfl, rfl⟩
    go_wp2
    go_ret
    rw [HG.out]
    exact ⟨by simp, HB.out⟩
  | false =>
    go_wp2_with (first | (refine wpList_load_mid rfl 39 (.tmp 5) rfl g 0 rfl P1 _ HP1.out Try.underlying39 rfl HLP.out ?_) | (refine wpList_load_mid rfl 39 (.tmp 7) rfl (g + 1) 0 rfl P2 _ HP2.out Try.underlying39 rfl HLQ.out ?_))
    go_ret
    rw [HG.out]
    exact ⟨by simp, HB.out⟩

end Go.Proofs.Ytjgainoplgojiab
