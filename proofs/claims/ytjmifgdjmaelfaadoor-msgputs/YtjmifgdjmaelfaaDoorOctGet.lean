/-
  What octet.Get answers at this program, whatever the bytes.
-/
import Derived.Test.YtjmifgdjmaelfaaDoorOctNum
namespace Go.Proofs.YtjmifgdjmaelfaaDoor
open Go.RowKit

/-- What Get answers. -/
def getX (l : List Int) : Int := if wideB l.length = true then num l else 0
def getE (l : List Int) : Int := if wideB l.length = true then 0 else 2
theorem get_any (l : List Int) (v : Value) (w : World) (hv : Bytes w v l) (hl : ∀ z ∈ l, Byte z) :
    Calls Tryd.prog 103 #[v] w fun e w' => e = .returned (.tuple #[.int .u64 (getX l), .int .i64 (getE l)]) ∧ w' = w := by
  have C := hide (fun w => width_any l.length w)
  obtain ⟨a, cap, rfl, hcap, hmax⟩ := hv.form
  unfold getX getE
  by_cases hw : wideB l.length = true
  · have hlen := wide_cases hw
    have D := hide (number_any l _ w hv hl (by omega) (by omega))
    rw [if_pos hw, if_pos hw]
    rw [hw] at C
    clear hw hlen hv hl
    generalize num l = X at *
    generalize l.length = n at *
    go_enter Tryd.func103, Tryd.ntmps103
    go_wp2_with fail
    refine (C.out _).mono ?_
    rintro e w' ⟨rfl, rfl⟩
    go_wp2_with fail
    refine D.out.mono ?_
    rintro e w' ⟨rfl, rfl⟩
    go_wp2
    go_ret2
    exact ⟨rfl, rfl⟩
  · have hw : wideB l.length = false := by simpa using hw
    rw [hw] at C ⊢
    simp only [Bool.false_eq_true, if_false]
    clear hw hv hl
    generalize l.length = n at *
    go_enter Tryd.func103, Tryd.ntmps103
    go_wp2_with fail
    refine (C.out _).mono ?_
    rintro e w' ⟨rfl, rfl⟩
    go_wp2
    go_ret2
    exact ⟨rfl, rfl⟩

end Go.Proofs.YtjmifgdjmaelfaaDoor
