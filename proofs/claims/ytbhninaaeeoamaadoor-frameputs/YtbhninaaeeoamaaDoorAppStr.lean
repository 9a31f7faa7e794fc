/-
  'append' of a string's bytes at a walk's operation. Nothing here speaks of one function.
-/
import Derived.Test.YtbhninaaeeoamaaDoorOwn
import Derived.Test.YtbhninaaeeoamaaDoorStr
import Derived.Lib.AppendStr
namespace Go.Proofs.YtbhninaaeeoamaaDoor
open Go.RowKit

/-- 'append', of a string onto a row of the call's own. -/
theorem wp_append_str {w : World} {ops : Array Oper} {rest : List Oper} {o : Oper} {a : Act} {Q : Exit → Act → World → Prop} (hgd : o.guard = none) (s x : Operand)
    (ho : o.op = .call { callee := .builtin .append, args := #[s, x], argTypes := #[22, 9] })
    (base : Nat) (v : Value) (l : List Int) (hs : a.eval s = v) (hown : Own w base v l) (t : ByteArray) (hx : a.eval x = .string t)
    (hsz : l.length + t.size ≤ 1000000) (hb : base ≤ w.heap.size)
    (h : ∀ v' w', Own w' base v' (l ++ strL t) → Below base w w' → wpList Tryd.prog ops Q rest (a.put o.dst v') w') : wpList Tryd.prog ops Q (o :: rest) a w := by
  obtain ⟨i0, hi, hz0, hz1, hz2⟩ := info_parts infoB
  refine Lib.wpList_append_own_string w hgd s x 22 9 ho base 5 i0 Tryd.underlying22 Tryd.underlying9 hi hz0 hz1 hz2 v l.length _ hs hown t hx (by unfold maxLen; omega) (by omega) hb ?_
  intro v' w' hown' hgrow _
  refine h v' w' ?_ ((Below.refl base w).grown hgrow hb (fun k hk => (World.ownsRow.lt hown k hk).1))
  have e : Lib.strCells t = (strL t).map (Value.int .u8) := by simp [Lib.strCells, strL]
  unfold Own
  rw [List.map_append, List.length_append, strL_length, ← e]
  exact hown'

end Go.Proofs.YtbhninaaeeoamaaDoor
