/-
  Single steps that the laws on hashers take: one piece written, what stays.
-/
import Derived.Test.YtknijlajopmjaaaDoorShaLaw
import Derived.Test.YtknijlajopmjaaaDoorShaHsum
namespace Go.Proofs.YtknijlajopmjaaaDoor
open Go.RowKit

theorem Arr.only {w w' : World} {b b' o : Nat} {k : IntKind} {zs : List Int} (h : Arr w b' o k zs) (ho : Only b w w') (hne : b' ≠ b) : Arr w' b' o k zs := by
  rcases Nat.eq_zero_or_pos zs.length with h0 | h0
  · exact h.at (fun i hi => by omega) (fun i hi => by omega)
  · exact h.at (fun i _ => ho.cell _ hne (h.lt h0)) (fun i _ => ho.frozen _ hne (h.lt h0))
theorem write_one (w : World) (b : Nat) (m : List Int) (p : Value) (l : List Int) (hH : Hashes w b m) (hS : Src w b p l) (hk : Ks w) (hb : b ≠ 0) (hsz : m.length + l.length ≤ 1000000000) :
    Calls Tryd.prog 30 #[.pointer (some ⟨b, 0, none⟩), .slice (some ⟨w.heap.size, 0, none⟩) 1 1] (w.alloc (.cells #[p] 22)) fun e w' => e = .returned (.int .i64 0) ∧ Hashes w' b (m ++ l) ∧ Only b w w' := by
  have ha := (Below.refl w.heap.size w).alloc (Nat.le_refl _) (.cells #[p] 22)
  have := write_any (w.alloc (.cells #[p] 22)) b m _ [l] (hH.on ha) (SrcAll.one hS hH.lt) (hk.alloc _) hb (by simpa using hsz)
  rw [show [l].flatten = l by simp] at this
  refine this.mono ?_
  rintro e w' ⟨rfl, h1, h2⟩
  exact ⟨rfl, h1, (Only.of_below ha (Nat.le_of_lt hH.lt)).trans h2⟩
theorem write_two (w : World) (b : Nat) (m : List Int) (p q : Value) (l k : List Int) (hH : Hashes w b m) (hS : Src w b p l) (hT : Src w b q k) (hk : Ks w) (hb : b ≠ 0) (hsz : m.length + (l ++ k).length ≤ 1000000000) :
    Calls Tryd.prog 30 #[.pointer (some ⟨b, 0, none⟩), .slice (some ⟨w.heap.size, 0, none⟩) 2 2] (w.alloc (.cells #[p, q] 22)) fun e w' => e = .returned (.int .i64 0) ∧ Hashes w' b (m ++ (l ++ k)) ∧ Only b w w' := by
  have ha := (Below.refl w.heap.size w).alloc (Nat.le_refl _) (.cells #[p, q] 22)
  have := write_any (w.alloc (.cells #[p, q] 22)) b m _ [l, k] (hH.on ha) (SrcAll.two hS hT hH.lt) (hk.alloc _) hb (by simpa using hsz)
  rw [show [l, k].flatten = l ++ k by simp] at this
  refine this.mono ?_
  rintro e w' ⟨rfl, h1, h2⟩
  exact ⟨rfl, h1, (Only.of_below ha (Nat.le_of_lt hH.lt)).trans h2⟩
theorem sum_two (w : World) (p q : Value) (l k : List Int) (h : Bytes w p l) (h' : Bytes w q k) (hk : Ks w) (hl : (l ++ k).length ≤ 100000000) :
    Calls Tryd.prog 18 #[.slice (some ⟨w.heap.size, 0, none⟩) 2 2] (w.alloc (.cells #[p, q] 22)) fun e w' => e = .returned (.agg (vals .u8 (digest (l ++ k))).toArray) ∧ Below w.heap.size w w' :=
  (sum_flat _ _ [l, k] (l ++ k) (by simp) (Parts.two w p q l k h h') (hk.alloc _) hl).mono (by
    rintro e w' ⟨rfl, hb⟩
    exact ⟨rfl, box1 hb⟩)
/-- sha.Sum of one piece, behind a draw. -/
theorem sum_drew (w : World) (p : Value) (l : List Int) (h : Bytes w p l) (hk : Ks w) (hl : l.length ≤ 100000000) :
    Calls Tryd.prog 18 #[.slice (some ⟨w.heap.size, 0, none⟩) 1 1] (w.alloc (.cells #[p] 22)).drew fun e w' => e = .returned (.agg (vals .u8 (digest l)).toArray) ∧ Below w.heap.size w w' :=
  show Calls Tryd.prog 18 #[.slice (some ⟨w.drew.heap.size, 0, none⟩) 1 1] (w.drew.alloc (.cells #[p] 22)) _ from
  (sum_one w.drew p l h.drew (hk.on (Below.refl _ _).drew) hl).mono (by
    rintro e w' ⟨rfl, hb⟩
    exact ⟨rfl, below_on (Below.refl _ _).drew hb⟩)

end Go.Proofs.YtknijlajopmjaaaDoor
