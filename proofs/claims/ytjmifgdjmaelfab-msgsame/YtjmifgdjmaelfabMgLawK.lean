/-
  What the laws of messages that come in have in common.
-/
import Derived.Test.YtjmifgdjmaelfabMgAlive
import Derived.Test.YtjmifgdjmaelfabMgGreat
import Derived.Test.YtjmifgdjmaelfabMgCame
import Derived.Test.YtjmifgdjmaelfabMgA
import Derived.ChangeMaps5
namespace Go.Proofs.Ytjmifgdjmaelfab
open Go.RowKit

theorem mp_bad {m : Mg} (h : mpE m ≠ 0) : mpC m = ⟨#[]⟩ ∧ mpB m = [] := ⟨if_neg h, if_neg h⟩
theorem Bytes.cap {w : World} {a : Option Addr} {n c : Nat} {l : List Int} (h : Bytes w (.slice a n c) l) : n ≤ c ∧ c ≤ 9223372036854775807 := by
  obtain ⟨a', c', e, h1, h2⟩ := h.form
  simp only [Value.slice.injEq] at e
  obtain ⟨-, rfl, rfl⟩ := e
  exact ⟨h1, h2⟩

end Go.Proofs.Ytjmifgdjmaelfab
