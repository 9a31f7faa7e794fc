/-
  What the laws of messages that come in have in common.
-/
import Derived.Test.YtjmifgdjmaelfabDoorMgAlive
import Derived.Test.YtjmifgdjmaelfabDoorMgGreat
import Derived.Test.YtjmifgdjmaelfabDoorMgCame
import Derived.Test.YtjmifgdjmaelfabDoorMgA
import Derived.ChangeMaps5
namespace Go.Proofs.YtjmifgdjmaelfabDoor
open Go.RowKit

theorem mp_bad {m : Mg} (h : mpE m ≠ 0) : mpC m = ⟨#[]⟩ ∧ mpB m = [] := ⟨if_neg h, if_neg h⟩
theorem Bytes.cap {w : World} {a : Option Addr} {n c : Nat} {l : List Int} (h : Bytes w (.slice a n c) l) : n ≤ c ∧ c ≤ 9223372036854775807 := by
  obtain ⟨a', c', e, h1, h2⟩ := h.form
  simp only [Value.slice.injEq] at e
  obtain ⟨-, rfl, rfl⟩ := e
  exact ⟨h1, h2⟩

end Go.Proofs.YtjmifgdjmaelfabDoor
