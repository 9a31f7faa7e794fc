/-
  What octet.width and octet.add answer at this program, whatever the bytes.
-/
import Derived.Test.YtbeegcpmpgdbnabDoorKit
namespace Go.Proofs.YtbeegcpmpgdbnabDoor
open Go.RowKit


/-- May a number have just n bytes? -/
def wideB (n : Int) : Bool := n == 1 || n == 2 || n == 4 || n == 8
theorem width_any (n : Int) (w : World) : Calls Tryd.prog 58 #[.int .i64 n] w fun e w' => e = .returned (.bool (wideB n)) ∧ w' = w := by
  rcases (show n = 1 ∨ n = 2 ∨ n = 4 ∨ n = 8 ∨ (n ≠ 1 ∧ n ≠ 2 ∧ n ≠ 4 ∧ n ≠ 8) by omega) with rfl | rfl | rfl | rfl | ⟨h1, h2, h3, h4⟩
  all_goals go_enter Tryd.func58, Tryd.ntmps58
  all_goals go_wp2
  all_goals go_ret
  all_goals exact ⟨rfl, rfl⟩
/-- What holds at the head of a round of add. -/
def Adding (w : World) (base : Nat) (l : List Int) (x : Int) (n : Nat) (v xv i : Value) (wr : World) : Prop :=
  ∃ (k m : Nat) (y : Int) (l' : List Int), k + m = n ∧ i = .int .i64 k ∧ xv = .int .u64 y ∧ Word y ∧ Own wr base v l' ∧ l'.length + m = l.length + n ∧ l' ++ put m y = l ++ put n x ∧ Below base w wr
set_option maxHeartbeats 1000000 in
theorem add_any (w : World) (base : Nat) (v : Value) (l : List Int) (x : Int) (n : Nat) (hx : Word x) (hown : Own w base v l) (hb : base ≤ w.heap.size) (hn : l.length + n ≤ 900000) :
    Calls Tryd.prog 59 #[v, .int .u64 x, .int .i64 n] w fun e w' => ∃ v', e = .returned v' ∧ Own w' base v' (l ++ put n x) ∧ Below base w w' := by
  have HO := hide hown
  have HX := hide hx
  clear hown hx
  go_enter Tryd.func59, Tryd.ntmps59
  go_wp2_with fail
  go_loopw [0, 1, 8] (fun v xv i wr => Adding w base l x n v xv i wr) (fun _ _ i _ => n - (intOf i).toNat)
  case atStart => exact ⟨0, n, x, l, by omega, rfl, rfl, HX.out, HO.out, rfl, rfl, Below.refl _ _⟩
  case round =>
    obtain ⟨k, m, y, l', hkm, rfl, rfl, ⟨hy0, hy1⟩, hown, hlen, heq, hbel⟩ := hrel
    have HO := hide hown
    have HE := hide heq
    have HL := hide hlen
    have HB := hide hbel
    clear hown heq hlen hbel
    by_cases hlt : k < n
    · obtain ⟨m, rfl⟩ : ∃ j, m = j + 1 := ⟨m - 1, by omega⟩
      go_wp2_with (at_builtin; refine wp_append rfl _ _ rfl base _ l' rfl (HO.out.alloc _) _ [y % 256] rfl (Bytes.one _ _) ?c1 ?c2 ?_)
      case c1 => have := HL.out; simp; omega
      case c2 => have := HB.out.size; simp; omega
      intro v' w' hown' hbel'
      have R : Hid (Adding w base l x n v' (.int .u64 (y / 256)) (.int .i64 (k + 1 : Nat)) w') := by
        refine ⟨k + 1, m, y / 256, l' ++ [y % 256], by omega, rfl, rfl, ⟨by omega, by omega⟩, hown', by have := HL.out; simp; omega, ?_, (HB.out.alloc (by have := HB.out.size; omega) _).trans hbel'⟩
        rw [← HE.out]
        simp [put]
      clear hown' hbel'
      go_wp2
      go_roundw
      case rel => exact R.out
      case measure => simp [intOf]; omega
    · obtain rfl : m = 0 := by omega
      go_wp2
      go_ret
      refine ⟨_, rfl, ?_, HB.out⟩
      have h := HE.out
      simp only [put, List.append_nil] at h
      rw [← h]
      exact HO.out
/-- What Put answers: the bytes, and the word for how it went. -/
def putL (x n : Int) : List Int := if wideB n = true ∧ x < 256 ^ n.toNat then put n.toNat x else []
def putE (x n : Int) : Int := if wideB n = true then (if x < 256 ^ n.toNat then 0 else 3) else 2
theorem wide_cases {n : Int} (h : wideB n = true) : n = 1 ∨ n = 2 ∨ n = 4 ∨ n = 8 := by
  simp [wideB] at h
  omega

end Go.Proofs.YtbeegcpmpgdbnabDoor
