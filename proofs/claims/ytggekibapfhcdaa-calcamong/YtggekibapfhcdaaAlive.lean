/-
  The document's examples hold at this program: pappuslaw01.alive answers true, and nothing that was there has turned.
-/
import Derived.Test.YtggekibapfhcdaaPart
import Derived.Test.YtggekibapfhcdaaSum
import Derived.WalkSmall
namespace Go.Proofs.Ytggekibapfhcdaa
open Go.RowKit Go.Shelf

theorem bears_two {w : World} {b : Nat} {x y : Int} (h0 : w.cell? ⟨b, 0, none⟩ = some (.int .u64 x)) (h1 : w.cell? ⟨b, 1, none⟩ = some (.int .u64 y)) : Bears w b 0 [x, y] := by
  intro i hi
  match i, hi with
  | 0, _ => simpa using h0
  | 1, _ => simpa using h1
theorem slice_two {w : World} {b cap : Nat} {x y : Int} (h0 : w.cell? ⟨b, 0, none⟩ = some (.int .u64 x)) (h1 : w.cell? ⟨b, 1, none⟩ = some (.int .u64 y)) :
    Slice w (.slice (some ⟨b, 0, none⟩) 2 cap) [x, y] := Or.inr ⟨b, 0, cap, rfl, bears_two h0 h1, by simp⟩
theorem words_two {x y : Int} (hx : Word x) (hy : Word y) : ∀ z ∈ [x, y], Word z := by
  intro z hz
  simp at hz
  rcases hz with rfl | rfl
  · exact hx
  · exact hy

theorem part_example (w : World) :
    Calls Try.prog 14 #[.int .u64 9223372036854775808, .int .u64 6, .int .u64 4] w fun e w' => e = .returned (.tuple #[.int .u64 13835058055282163712, .int .i64 0]) ∧ ∃ n, w' = w.drewN n :=
  part_ok 9223372036854775808 6 4 (by omega) (by omega) (by omega) (by omega) (by omega) w
theorem need_example (w : World) :
    Calls Try.prog 16 #[.int .u64 251, .int .u64 100] w fun e w' => e = .returned (.tuple #[.int .u64 26, .int .i64 0]) ∧ ∃ n, w' = w.drewN n :=
  need_ok 251 100 (by omega) (by omega) (by omega) w
theorem cmp_example1 (w : World) :
    Calls Try.prog 18 #[.int .u64 3, .int .u64 4, .int .u64 2, .int .u64 5] w fun e w' => e = .returned (.int .i64 1) ∧ w' = w :=
  cmp_any 3 4 2 5 ⟨by omega, by omega⟩ ⟨by omega, by omega⟩ ⟨by omega, by omega⟩ ⟨by omega, by omega⟩ w
theorem cmp_example2 (w : World) :
    Calls Try.prog 18 #[.int .u64 3, .int .u64 4, .int .u64 2, .int .u64 7] w fun e w' => e = .returned (.int .i64 (-1)) ∧ w' = w :=
  cmp_any 3 4 2 7 ⟨by omega, by omega⟩ ⟨by omega, by omega⟩ ⟨by omega, by omega⟩ ⟨by omega, by omega⟩ w
theorem sum_example (b : Nat) (w : World) (h0 : w.cell? ⟨b, 0, none⟩ = some (.int .u64 18446744073709551615)) (h1 : w.cell? ⟨b, 1, none⟩ = some (.int .u64 1)) :
    Calls Try.prog 10 #[.slice (some ⟨b, 0, none⟩) 2 2] w fun e w' => e = .returned (.tuple #[.int .u64 0, .int .i64 3]) ∧ w' = w :=
  sum_over [18446744073709551615, 1] _ w (words_two ⟨by omega, by omega⟩ ⟨by omega, by omega⟩) (slice_two h0 h1) (by simp [tot])
theorem later_example (b : Nat) (w : World) (h0 : w.cell? ⟨b, 0, none⟩ = some (.int .u64 3)) (h1 : w.cell? ⟨b, 1, none⟩ = some (.int .u64 2)) :
    Calls Try.prog 12 #[.int .u64 5, .slice (some ⟨b, 0, none⟩) 2 2] w fun e w' => e = .returned (.int .u64 10) ∧ w' = w :=
  later_any 5 [3, 2] _ w ⟨by omega, by omega⟩ (words_two ⟨by omega, by omega⟩ ⟨by omega, by omega⟩) (slice_two h0 h1)

set_option maxHeartbeats 1000000 in
theorem alive_any (w : World) :
    Calls Try.prog 9 #[] w fun e w' => e = .returned (.bool true) ∧ Below w.heap.size w w' := by
  go_enter Try.func9, Try.ntmps9
  go_wp2_with fail
  refine (sum_example _ _ (by simp) (by simp)).mono ?_
  rintro e w' ⟨rfl, rfl⟩
  go_wp2_with fail
  refine (part_example _).mono ?_
  rintro e w' ⟨rfl, n, rfl⟩
  go_wp2_with fail
  refine (need_example _).mono ?_
  rintro e w' ⟨rfl, m, rfl⟩
  go_wp2_with fail
  refine (later_example _ _ (by simp [go_sem]) (by simp [go_sem])).mono ?_
  rintro e w' ⟨rfl, rfl⟩
  go_wp2_with fail
  refine (cmp_example1 _).mono ?_
  rintro e w' ⟨rfl, rfl⟩
  go_wp2_with fail
  refine (cmp_example2 _).mono ?_
  rintro e w' ⟨rfl, rfl⟩
  go_wp2
  go_ret
  exact ⟨rfl, (below_drewN ((Below.refl _ _).alloc (Nat.le_refl _) _) _).alloc (by simp) _⟩
end Go.Proofs.Ytggekibapfhcdaa
