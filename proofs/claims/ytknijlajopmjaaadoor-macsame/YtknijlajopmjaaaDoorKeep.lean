/-
  'append' onto a row of the call's own that is still wanted as it was; a slice of bytes told ahead: both where the operation is guarded. Nothing here speaks of one function.
-/
import Derived.Test.YtknijlajopmjaaaDoorOwn
import Derived.WalkLawsBesides
namespace Go.Proofs.YtknijlajopmjaaaDoor
open Go.RowKit

theorem run_append_keep (w : World) (base : Nat) (ty : TypeId) (v : Value) (l : List Int) (hown : Own w base v l) (src : Value) (m : List Int) (hsrc : Bytes w src m) (hm : 0 < m.length) (hsz : l.length + m.length ≤ 1000000) (hb : base ≤ w.heap.size) :
    ∃ v' w', (Builtin.append_ #[22, 22] ty #[v, src]).run Tryd.prog w = .ok v' w' ∧ Own w' base v' (l ++ m) ∧ Own w' base v l ∧ Below base w w' := by
  obtain ⟨i, hi, hz0, hz1, hz2⟩ := info_parts infoB
  obtain ⟨sb, soff, scap, rfl, h1, h2, hc⟩ := hsrc.lies hm
  have hnews : ∀ j u, (m.map (Value.int .u8))[j]? = some u → w.cell? ((⟨sb, soff, none⟩ : Addr).add j) = some u := by
    intro j u hj
    have hjl : j < m.length := by
      have := (List.getElem?_eq_some_iff.1 hj).1
      simpa using this
    have e2 : (⟨sb, soff, none⟩ : Addr).add j = ⟨sb, soff + j, none⟩ := by simp [Addr.add]
    rw [e2, hc j hjl, ← hj]
    simp [List.getD, hjl]
  obtain ⟨v', w', hr, hown', hgrow, -⟩ := run_append_own (P := Tryd.prog) w base 22 ty 5 i (.int .u8 0) 1 1 Tryd.underlying22 hi hz0 hz1 hz2 rfl (by decide) v l.length _ hown ⟨sb, soff, none⟩ m.length scap (m.map (Value.int .u8)) (by simp) hnews (ints_oneCell _ _) (by unfold maxLen; omega) (by omega) hb
  refine ⟨v', w', hr, ?_, ?_, (Below.refl base w).grown hgrow hb (fun k hk => (World.ownsRow.lt hown k hk).1)⟩
  · unfold Own
    rw [List.map_append, List.length_append]
    exact hown'
  · rcases hown.2 with ⟨rfl, h0⟩ | ⟨g, cap, cur, rfl, hbg, hg, hnc, hcm, hcs, htake⟩
    · obtain rfl : l = [] := List.length_eq_zero_iff.1 h0
      exact Own.nil _ _
    · by_cases hroom : l.length + m.length ≤ cap
      · have hr2 := run_append_room (P := Tryd.prog) w 22 ty 5 i Tryd.underlying22 hi g l.length cap cur hg ⟨sb, soff, none⟩ m.length scap (m.map (Value.int .u8)) (by rw [hz1]; simp) hnews (ints_oneCell _ _) hroom (by rw [hz1, hcs]; simp; omega)
        rw [hr] at hr2
        obtain ⟨-, rfl⟩ : v' = _ ∧ w' = _ := by simpa using hr2
        rw [hz1] at hown' ⊢
        simp only [Nat.mul_one] at hown' htake ⊢
        refine ⟨by simp, .inr ⟨g, cap, _, rfl, hbg, setRow_heap w g cur _ 5 _ hg, hnc, hcm, ?_, ?_⟩⟩
        · simp only [List.size_toArray, List.length_append, List.length_take, List.length_drop, Array.length_toList, List.length_map]
          omega
        · rw [htake]
          show List.take (l.length * 1) (List.map (Value.int .u8) l ++ _) = _
          rw [Nat.mul_one, List.take_append_of_le_length (by simp)]
          exact List.take_of_length_le (by simp)
      · have holds : ∀ j u, (l.map (Value.int .u8))[j]? = some u → w.cell? ((⟨g, 0, none⟩ : Addr).add j) = some u := World.ownsRow.cells hown (g := g) rfl
        have hr2 := run_append_grow (P := Tryd.prog) w 22 ty 5 i (.int .u8 0) Tryd.underlying22 hi hz0 ⟨g, 0, none⟩ l.length cap (l.map (Value.int .u8)) (by rw [hz1]; simp) holds ⟨sb, soff, none⟩ m.length scap (m.map (Value.int .u8)) (by rw [hz1]; simp) hnews (by omega) (by omega) (by rw [hz2]; exact growslice_fits (by omega) (by omega))
        rw [hr] at hr2
        obtain ⟨-, rfl⟩ : v' = _ ∧ w' = _ := by simpa using hr2
        exact (Own.drew (w := w) hown).alloc _
/-- 'append', of bytes onto a row of the call's own, which stays as it was. -/
theorem wp_append_keep {w : World} {ops : Array Oper} {rest : List Oper} {o : Oper} {a : Act} {Q : Exit → Act → World → Prop} (hw : Region.wanted o (yielded ops a.tmps) = true) (s x : Operand)
    (ho : o.op = .call { callee := .builtin .append, args := #[s, x], argTypes := #[22, 22] })
    (base : Nat) (v : Value) (l : List Int) (hs : a.eval s = v) (hown : Own w base v l) (src : Value) (m : List Int) (hx : a.eval x = src) (hsrc : Bytes w src m) (hm : 0 < m.length)
    (hsz : l.length + m.length ≤ 1000000) (hb : base ≤ w.heap.size)
    (h : ∀ v' w', Own w' base v' (l ++ m) → Own w' base v l → Below base w w' → wpList Tryd.prog ops Q rest (a.put o.dst v') w') : wpList Tryd.prog ops Q (o :: rest) a w := by
  obtain ⟨v', w', hr, h2, h3, h4⟩ := run_append_keep w base o.type v l hown src m hsrc hm hsz hb
  refine wpList_step fun K hK => ?_
  rw [if_pos hw]
  unfold Oper.wp execOp
  simp only [ho, resolve, invoke, builtin, Sem.run_bind, Sem.run_pure, Result.andThen_ok, List.map_toArray, List.map_cons, List.map_nil, hs, hx, hr]
  exact hK _ _ (h v' w' h2 h3 h4)
theorem wp_from_g {w : World} {ops : Array Oper} {rest : List Oper} {o : Oper} {a : Act} {Q : Exit → Act → World → Prop} (hw : Region.wanted o (yielded ops a.tmps) = true) (s i : Operand) (ho : o.op = .slice 22 s (some i) none none)
    (v v1 : Value) (x : Value) (hs : a.eval s = v) (hi : a.eval i = x) (hrun : ∀ w, (Instr.slice 22 v (some x) none none).run Tryd.prog w = .ok v1 w)
    (h : wpList Tryd.prog ops Q rest (a.put o.dst v1) w) : wpList Tryd.prog ops Q (o :: rest) a w := by
  have hat : ∀ w, (Instr.sliceAt 22 v (some x) none none).run Tryd.prog w = .ok v1 w := fun w => by
    rw [run_sliceAt_slice _ _ _ _ _ _ (by rw [Tryd.underlying22]; kernel_rfl)]
    exact hrun w
  refine wpList_step fun K hK => ?_
  rw [if_pos hw]
  unfold Oper.wp
  simp [execOp, ho, hs, hi, hat, Result.andThen, Oper.upon]
  exact hK _ _ h

end Go.Proofs.YtknijlajopmjaaaDoor
