/-
  What bytes.Clone answers at this program.
-/
import Derived.Test.YtjmifgdjmaelfabKit
import Derived.Lib.LazyBuf
namespace Go.Proofs.Ytjmifgdjmaelfab
open Go.RowKit

theorem Own.low {w : World} {base base' : Nat} {v : Value} {l : List Int} (h : Own w base v l) (hb : base' ≤ base) : Own w base' v l := by
  obtain ⟨h1, h2⟩ := h
  refine ⟨h1, ?_⟩
  rcases h2 with h2 | ⟨g, cap, cur, hv, hg, r⟩
  · exact Or.inl h2
  · exact Or.inr ⟨g, cap, cur, hv, by omega, r⟩

theorem clone_any (l : List Int) (v : Value) (w : World) (hv : Bytes w v l) (hn : l.length ≤ 900000) :
    Calls Try.prog 59 #[v] w fun e w' => ∃ v', e = .returned v' ∧ Own w' w.heap.size v' l ∧ Below w.heap.size w w' := by
  have HV := hide hv
  obtain ⟨a, cap, rfl, hcap, hmax, hnone, _⟩ := hv
  have hnil := fun w => Lib.run_eql_slice_nil (P := Try.prog) w 34 5 a l.length cap 0 0 Try.underlying34
  cases a with
  | none =>
    obtain rfl := hnone rfl
    obtain rfl : l = [] := List.length_eq_zero_iff.1 (by omega)
    simp only [Option.isNone_none, List.length_nil] at hnil ⊢
    clear hcap hmax hnone
    go_enter Try.func59, Try.ntmps59
    go_wp2
    go_ret
    exact ⟨_, rfl, Own.nil _ _, Below.refl _ _⟩
  | some a =>
    simp only [Option.isNone_some] at hnil
    clear hnone
    go_enter Try.func59, Try.ntmps59
    go_wp2_with (at_builtin; refine wp_append rfl _ _ rfl w.heap.size _ [] rfl (Own.made _ _ (Nat.le_refl _)) _ l rfl (HV.out.alloc _) ?c1 ?c2 ?_)
    case c1 => first | omega | (simp; omega)
    case c2 => simp
    intro v' w' hown hbel
    have R : Hid (Own w' w.heap.size v' l ∧ Below w.heap.size w w') := ⟨hown, ((Below.refl _ _).alloc (Nat.le_refl _) _).trans hbel⟩
    clear hown hbel
    go_wp2
    go_ret
    exact ⟨_, rfl, R.out⟩

end Go.Proofs.Ytjmifgdjmaelfab
