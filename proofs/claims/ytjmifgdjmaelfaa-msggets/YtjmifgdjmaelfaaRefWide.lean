/-
  What pappusref02.wide answers at this program.
-/
import Derived.Test.YtjmifgdjmaelfaaRefOct
namespace Go.Proofs.Ytjmifgdjmaelfaa
open Go.RowKit

theorem wide_any (c : Int) (w : World) : Calls Try.prog 54 #[.int .u8 c] w fun e w' => e = .returned (.int .i64 (behind c)) ∧ w' = w := by
  rcases behind_cases c with ⟨rfl, h⟩ | ⟨rfl, h⟩ | ⟨rfl, h⟩ | ⟨h1, h2, h3, h⟩
  all_goals rw [h]
  all_goals clear h
  all_goals go_enter Try.func54, Try.ntmps54
  all_goals go_wp2
  all_goals go_ret
  all_goals exact ⟨rfl, rfl⟩

end Go.Proofs.Ytjmifgdjmaelfaa
