/-
  The document's examples of fees, in plain numbers.
-/
import Derived.Test.YtbeegcpmpgdbnaaDoorFeeOf
import Derived.Test.YtbeegcpmpgdbnaaDoorFeeA
import Derived.Test.YtbeegcpmpgdbnaaDoorFeeB
import Derived.Test.YtbeegcpmpgdbnaaDoorTxLive
namespace Go.Proofs.YtbeegcpmpgdbnaaDoor
open Go.RowKit

theorem digest_all (m : List Int) : AllB (digest m) := by
  intro z hz
  obtain ⟨x, -, hx⟩ := List.mem_flatMap.1 hz
  simp only [outI, List.mem_cons, List.not_mem_nil, or_false] at hx
  unfold Byte
  rcases hx with rfl | rfl | rfl | rfl <;> omega
def liveW : List Wt := [⟨5, 10⟩, ⟨6, 10⟩, ⟨1, 2⟩]
theorem liveW_ok : ∀ x ∈ liveW, WtOk x := by
  intro x hx
  simp only [liveW, List.mem_cons, List.not_mem_nil, or_false] at hx
  rcases hx with rfl | rfl | rfl <;> exact ⟨⟨by decide, by decide⟩, by decide, by decide⟩
theorem liveW_order : Ordd liveW [1, 0, 2] := by
  refine ⟨rfl, by decide, ?_⟩
  simp only [List.pairwise_cons, List.mem_cons, List.not_mem_nil, or_false, forall_eq_or_imp, forall_eq, List.Pairwise.nil, and_true, false_imp_iff, implies_true]
  exact ⟨⟨Or.inl (by decide), Or.inl (by decide)⟩, Or.inr ⟨by decide, by decide⟩⟩
theorem liveW_worst : worstK liveW 3 = 0 := by decide
theorem live_less : lessW ⟨1, 10⟩ ⟨2, 19⟩ = true := by decide
theorem live_floor : floorV 250 = 25 := by decide
def liveP : List TOut := [⟨10, digest [5]⟩]
theorem liveP_ok : ∀ x ∈ liveP, x.lock.length = 32 ∧ Word x.val := by
  intro x hx
  obtain rfl := List.mem_singleton.1 hx
  exact ⟨digest_length _, by decide, by decide⟩
theorem live_pay : PayOk liveT.outs := by
  refine ⟨fun x hx => ?_, by decide⟩
  obtain rfl := List.mem_singleton.1 hx
  exact ⟨by decide, by decide⟩
theorem live_dup : (liveT.ins.map ptOf).Nodup := by simp [liveT]
theorem live_opens : Opens liveT.ins liveP := by
  intro j x y h1 h2
  rcases j with _ | j
  · simp only [liveT, liveP, List.getElem?_cons_zero, Option.some.injEq] at h1 h2
    subst h1
    subst h2
    rfl
  · simp [liveT] at h1
theorem live_check : chE liveT true false = 0 := by decide
theorem live_ofV : ofV liveT liveP true false true = 3 ∧ ofE liveT liveP true false true = 0 := by
  have h1 : valsO liveP = [10] := rfl
  have h2 : valsO liveT.outs = [7] := rfl
  have h3 : csumV [10] = 10 := by decide
  have h4 : csumV [7] = 7 := by decide
  have h5 : sumE [10] = 0 := by decide
  have h6 : liveP.length = liveT.ins.length := rfl
  unfold ofV ofE
  rw [h1, h2, h3, h4, h5, live_check, h6]
  simp

end Go.Proofs.YtbeegcpmpgdbnaaDoor
