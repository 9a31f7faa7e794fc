/-
  'append' onto a row of the call's own: a younger row of the call's own stays. Nothing here speaks of one function.
-/
import Derived.Test.YtbhninaaeeoamaaDoorCopy
namespace Go.Proofs.YtbhninaaeeoamaaDoor
open Go.RowKit

theorem wp_append_far {w : World} {ops : Array Oper} {rest : List Oper} {o : Oper} {a : Act} {Q : Exit → Act → World → Prop} (hgd : o.guard = none) (s x : Operand)
    (ho : o.op = .call { callee := .builtin .append, args := #[s, x], argTypes := #[22, 22] })
    (base : Nat) (v : Value) (l : List Int) (hs : a.eval s = v) (hown : Own w base v l) (src : Value) (m : List Int) (hx : a.eval x = src) (hsrc : Bytes w src m)
    (hsz : l.length + m.length ≤ 1000000) (hb : base ≤ w.heap.size) (B : Nat) (u : Value) (y : List Int) (hu : Mine w B u y) (hob : ∀ k, v.ownBlock = some k → k < B)
    (h : ∀ v' w', Own w' base v' (l ++ m) → Below base w w' → Bytes w' u y → wpList Tryd.prog ops Q rest (a.put o.dst v') w') : wpList Tryd.prog ops Q (o :: rest) a w := by
  obtain ⟨i0, hi, hz0, hz1, hz2⟩ := info_parts infoB
  obtain ⟨ad, cap, rfl, hcap, hmax, hnone, hcell⟩ := hsrc
  cases ad with
  | none =>
    obtain rfl := hnone rfl
    obtain rfl : m = [] := List.length_eq_zero_iff.1 (by omega)
    refine wpList_append_own_none hgd s x 22 ho base 5 i0 1 Tryd.underlying22 hi v l.length _ hs hown hx ?_
    exact h v w (by rw [List.append_nil]; exact hown) (Below.refl _ _) hu.bytes
  | some ad =>
    refine wpList_append_own w hgd s x 22 ho base 5 i0 (.int .u8 0) 1 1 Tryd.underlying22 hi hz0 hz1 hz2 rfl (by decide) v l.length _ hs hown ad m.length cap (m.map (Value.int .u8)) hx (by simp) ?_ (ints_oneCell _ _) (by unfold maxLen; omega) (by omega) hb ?_
    · intro j u hj
      have hjl : j < m.length := by
        have := (List.getElem?_eq_some_iff.1 hj).1
        simpa using this
      obtain ⟨b, off, e, hc⟩ := hcell (by omega)
      cases e
      have e2 : (⟨b, off, none⟩ : Addr).add j = ⟨b, off + j, none⟩ := by simp [Addr.add]
      rw [e2, hc j hjl, ← hj]
      simp [List.getD, hjl]
    · intro v' w' hown' hgrow _
      refine h v' w' ?_ ((Below.refl base w).grown hgrow hb (fun k hk => (World.ownsRow.lt hown k hk).1)) ?_
      · unfold Own
        rw [List.map_append, List.length_append]
        exact hown'
      · obtain ⟨b, cap', rfl, h1, h2, h3, hA⟩ := hu
        refine ⟨_, _, rfl, h1, h2, by simp, fun _ => ⟨b, 0, rfl, fun i hi => ?_⟩⟩
        refine hgrow.cell (hA.cell i hi) fun e => ?_
        have := hob b e.symm
        omega

end Go.Proofs.YtbhninaaeeoamaaDoor
