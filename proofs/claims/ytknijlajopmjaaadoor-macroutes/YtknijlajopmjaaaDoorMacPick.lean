/-
  What mac.Pick answers at this program.
-/
import Derived.Test.YtknijlajopmjaaaDoorOctGet
import Derived.Test.YtknijlajopmjaaaDoorShaOne
namespace Go.Proofs.YtknijlajopmjaaaDoor
open Go.RowKit

/-- What Pick answers. -/
def pickX (h : List Int) (n : Int) : Int := if n < 1 then 0 else num (h.take 8) % n
def pickE (n : Int) : Int := if n < 1 then 2 else 0
theorem num_word (l : List Int) (hl : ∀ z ∈ l, Byte z) (hn : l.length ≤ 8) : Word (num l) := by
  refine ⟨num_nonneg l hl, ?_⟩
  have h1 := num_lt l hl
  have hp : (256 : Int) ^ l.length ≤ 18446744073709551616 := by
    rcases (show l.length = 0 ∨ l.length = 1 ∨ l.length = 2 ∨ l.length = 3 ∨ l.length = 4 ∨ l.length = 5 ∨ l.length = 6 ∨ l.length = 7 ∨ l.length = 8 by omega) with e | e | e | e | e | e | e | e | e <;> rw [e] <;> decide
  exact Int.lt_of_lt_of_le h1 hp
set_option maxRecDepth 100000 in
theorem pick_any (h : List Int) (n : Int) (w : World) (hl : h.length = 32) (hb : ∀ z ∈ h, Byte z) (hn : -9223372036854775808 ≤ n ∧ n ≤ 9223372036854775807) :
    Calls Tryd.prog 16 #[.agg (vals .u8 h).toArray, .int .i64 n] w fun e w' => e = .returned (.tuple #[.int .i64 (pickX h n), .int .i64 (pickE n)]) ∧ Below w.heap.size w w' := by
  have hbel := (Below.refl w.heap.size w).alloc (Nat.le_refl _) (.cells (vals .u8 h).toArray 27)
  unfold pickX pickE
  by_cases h1 : n < 1
  · rw [if_pos h1, if_pos h1]
    have HB := hide hbel
    clear hbel hb hl
    go_enter Tryd.func16, Tryd.ntmps16
    go_wp2
    go_ret2
    exact ⟨rfl, HB.out⟩
  · rw [if_neg h1, if_neg h1]
    have h1' : 1 ≤ n := by omega
    have h8 : (h.take 8).length = 8 := by simp; omega
    have hb8 : ∀ z ∈ h.take 8, Byte z := fun z hz => hb z (List.mem_of_mem_take hz)
    have G := get_any (h.take 8) _ _ (((Arr.new w .u8 h 27).bytes32 hl).take 8 (by omega)) hb8
    rw [show getX (h.take 8) = num (h.take 8) by rw [getX, h8]; rfl, show getE (h.take 8) = 0 by rw [getE, h8]; rfl] at G
    obtain ⟨x0, x1⟩ := num_word (h.take 8) hb8 (by omega)
    have G := hide G
    have HB := hide hbel
    have hm0 := Int.emod_nonneg (num (h.take 8)) (show n ≠ 0 by omega)
    have hm1 := Int.emod_lt_of_pos (num (h.take 8)) (show 0 < n by omega)
    clear hbel hb hl h8 hb8 h1
    generalize num (h.take 8) = X at *
    have hw : IntKind.u64.wrap n = n := by simp [IntKind.wrap, IntKind.bits, IntKind.signed]; omega
    have hn0 : (n == 0) = false := by simp; omega
    go_enter Tryd.func16, Tryd.ntmps16
    go_wp2_with fail
    refine G.out.mono ?_
    rintro e w' ⟨rfl, rfl⟩
    go_wp2
    go_ret2
    refine ⟨?_, HB.out⟩
    rfl

end Go.Proofs.YtknijlajopmjaaaDoor
