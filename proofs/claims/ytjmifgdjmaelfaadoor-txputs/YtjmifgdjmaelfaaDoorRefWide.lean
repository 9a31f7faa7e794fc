/-
  What pappusref02.wide answers at this program.
-/
import Derived.Test.YtjmifgdjmaelfaaDoorRefOct
namespace Go.Proofs.YtjmifgdjmaelfaaDoor
open Go.RowKit

theorem wide_any (c : Int) (w : World) : Calls Tryd.prog 71 #[.int .u8 c] w fun e w' => e = .returned (.int .i64 (behind c)) ∧ w' = w := by
  rcases behind_cases c with ⟨rfl, h⟩ | ⟨rfl, h⟩ | ⟨rfl, h⟩ | ⟨h1, h2, h3, h⟩
  all_goals rw [h]
  all_goals clear h
  all_goals go_enter Tryd.func71, Tryd.ntmps71
  all_goals go_wp2
  all_goals go_ret
  all_goals exact ⟨rfl, rfl⟩

end Go.Proofs.YtjmifgdjmaelfaaDoor
