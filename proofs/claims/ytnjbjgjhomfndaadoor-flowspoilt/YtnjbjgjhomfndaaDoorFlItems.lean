/-
  Items in memory: a row of the call's own, and the bodies. Nothing here speaks of one function.
-/
import Derived.Test.YtnjbjgjhomfndaaDoorKeeps
import Derived.Test.YtnjbjgjhomfndaaDoorFlTell
namespace Go.Proofs.YtnjbjgjhomfndaaDoor
open Go.RowKit

theorem infoI : (Tryd.prog.info? 52).map (fun i => (i.zero, i.size, i.bytes)) = some (some (.agg #[.string ⟨#[]⟩, .slice none 0 0, .int .i64 0]), 3, 48) := by kernel_rfl
/-- An item's cells, a row's. -/
def itC (x : It × Value) : List Value := itL (strOfNums x.1.c) x.2 x.1.e
def rowC (D : List (It × Value)) : List Value := D.flatMap itC
theorem itC_length (x : It × Value) : (itC x).length = 3 := rfl
theorem rowC_length : ∀ D : List (It × Value), (rowC D).length = D.length * 3
  | [] => rfl
  | x :: D => by
    have := rowC_length D
    simp only [rowC, List.flatMap_cons, List.length_append, itC_length, List.length_cons] at this ⊢
    omega
theorem rowC_append (D E : List (It × Value)) : rowC (D ++ E) = rowC D ++ rowC E := by simp [rowC]
theorem rowC_one (x : It × Value) : rowC [x] = itC x := by simp [rowC]
theorem rowC_get : ∀ (D : List (It × Value)) (i : Nat) (x : It × Value), D[i]? = some x → (rowC D)[3 * i]? = some (.string (strOfNums x.1.c)) ∧ (rowC D)[3 * i + 1]? = some x.2 ∧ (rowC D)[3 * i + 2]? = some (.int .i64 x.1.e)
  | [], _, _, h => by simp at h
  | y :: D, 0, x, h => by
    simp only [List.getElem?_cons_zero, Option.some.injEq] at h
    subst h
    exact ⟨rfl, rfl, rfl⟩
  | y :: D, i + 1, x, h => by
    have h' := rowC_get D i x (by simpa using h)
    have e : ∀ k, (rowC (y :: D))[3 * (i + 1) + k]? = (rowC D)[3 * i + k]? := fun k => by
      show (itC y ++ rowC D)[3 * (i + 1) + k]? = _
      rw [List.getElem?_append_right (by rw [itC_length]; omega), itC_length]
      congr 1
      omega
    exact ⟨(e 0).trans h'.1, (e 1).trans h'.2.1, (e 2).trans h'.2.2⟩
theorem rowC_mem {D : List (It × Value)} (h : ∀ x ∈ D, x.2.oneCell' = true) : ∀ u ∈ rowC D, u.oneCell' = true := by
  intro u hu
  obtain ⟨x, hx, hm⟩ := List.mem_flatMap.1 hu
  exact it_one (h x hx) u hm

/-- A row of items of the call's own; neither it nor a body lies in a block that 'av' takes. -/
def Items (w : World) (base : Nat) (av : Nat → Prop) (v : Value) (L : List It) : Prop :=
  ∃ D : List (It × Value), D.map Prod.fst = L ∧ w.ownsRow base 52 3 v D.length (rowC D) ∧ (∀ k, v.ownBlock = some k → ¬ av k) ∧
    ∀ x ∈ D, x.2.oneCell' = true ∧ Keeps (fun g => ¬ av g ∧ v.ownBlock ≠ some g) w fun w => Bytes w x.2 x.1.b
theorem Items.nil (w : World) (base : Nat) (av : Nat → Prop) : Items w base av (.slice none 0 0) [] := ⟨[], rfl, World.ownsRow_nil _ _ _ _, fun k hk => by simp [Value.ownBlock] at hk, fun x hx => by cases hx⟩
theorem Items.length {w : World} {base : Nat} {av : Nat → Prop} {v : Value} {L : List It} (h : Items w base av v L) : ∃ a cap, v = .slice a L.length cap ∧ L.length ≤ cap ∧ cap ≤ 9223372036854775807 := by
  obtain ⟨D, rfl, ⟨hl, h0 | ⟨g, cap, cur, rfl, -, -, hn, hm, -⟩⟩, -⟩ := h
  · obtain ⟨rfl, h0⟩ := h0
    exact ⟨none, 0, by rw [List.length_map, h0], by rw [List.length_map, h0]; exact Nat.le_refl _, by omega⟩
  · exact ⟨_, cap, by rw [List.length_map], by rw [List.length_map]; exact hn, by simpa [maxLen] using hm⟩
theorem Items.low {w : World} {base base' : Nat} {av : Nat → Prop} {v : Value} {L : List It} (h : Items w base av v L) (hb : base' ≤ base) : Items w base' av v L := by
  obtain ⟨D, h1, ⟨h2, h3⟩, h4⟩ := h
  refine ⟨D, h1, ⟨h2, ?_⟩, h4⟩
  rcases h3 with h3 | ⟨g, cap, cur, hv, hg, r⟩
  · exact Or.inl h3
  · exact Or.inr ⟨g, cap, cur, hv, by omega, r⟩
theorem Items.move {w w1 : World} {base : Nat} {av av' : Nat → Prop} {v : Value} {L : List It} (h : Items w base av v L) (hs : w.heap.size ≤ w1.heap.size) (hb : ∀ g, g < w.heap.size → ¬ av g → w1.heap[g]? = w.heap[g]?) (ha : ∀ g, g < w.heap.size → ¬ av g → ¬ av' g) : Items w1 base av' v L := by
  obtain ⟨D, h1, h2, h3, h4⟩ := h
  refine ⟨D, h1, ⟨h2.1, ?_⟩, fun k hk => ha k (World.ownsRow.lt h2 k hk).2 (h3 k hk), fun x hx => ⟨(h4 x hx).1, ?_⟩⟩
  · rcases h2.2 with h0 | ⟨g, cap, cur, rfl, hbg, hg, rest⟩
    · exact .inl h0
    · exact .inr ⟨g, cap, cur, rfl, hbg, (hb g (Array.getElem?_eq_some_iff.1 hg).1 (h3 g rfl)).trans hg, rest⟩
  · intro w' hw
    exact (h4 x hx).2 w' fun g hg hp => (hw g (by omega) ⟨ha g hg hp.1, hp.2⟩).trans (hb g hg hp.1)
theorem Items.below {w w1 : World} {base : Nat} {av : Nat → Prop} {v : Value} {L : List It} (h : Items w base av v L) (hb : Below w.heap.size w w1) : Items w1 base av v L := h.move hb.size (fun g hg _ => hb.block g hg) (fun _ _ h => h)
theorem keeps_grown {w w' : World} {v v' : Value} {P P' : Nat → Prop} {X : World → Prop} (h : Keeps P w X) (hg : w.grownBy w' v.ownBlock) (hv : v'.ownBlock = v.ownBlock ∨ ∀ k, v'.ownBlock = some k → w.heap.size ≤ k)
    (hP : ∀ g, g < w.heap.size → P g → v.ownBlock ≠ some g) (hP' : ∀ g, g < w.heap.size → P g → v'.ownBlock ≠ some g → P' g) : Keeps P' w' X := by
  intro w2 hw
  refine h w2 fun g hlt hp => ?_
  have h1 := hP g hlt hp
  have h2 : v'.ownBlock ≠ some g := by
    rcases hv with e | hv
    · rw [e]; exact h1
    · intro e
      have := hv g e
      omega
  exact (hw g (Nat.lt_of_lt_of_le hlt hg.size) (hP' g hlt hp h2)).trans (hg.block g hlt (fun e => h1 e.symm))
/-- 'append', of items onto a row of items. -/
theorem wp_append_items {w : World} {ops : Array Oper} {rest : List Oper} {o : Oper} {a : Act} {Q : Exit → Act → World → Prop} (hgd : o.guard = none) (s x : Operand)
    (ho : o.op = .call { callee := .builtin .append, args := #[s, x], argTypes := #[32, 32] })
    (base : Nat) (av : Nat → Prop) (v : Value) (L : List It) (hs : a.eval s = v) (hI : Items w base av v L) (u : Value) (ad : Addr) (m c : Nat) (hx : a.eval x = u) (hu : u = .slice (some ad) m c) (E : List (It × Value)) (hm : m = E.length)
    (hcell : ∀ j y, (rowC E)[j]? = some y → w.cell? (ad.add j) = some y) (hE : ∀ y ∈ E, y.2.oneCell' = true ∧ Keeps (fun g => ¬ av g ∧ v.ownBlock ≠ some g) w fun w => Bytes w y.2 y.1.b)
    (hsz : L.length + E.length ≤ 1000000) (hb : base ≤ w.heap.size) (hav : ∀ k, w.heap.size ≤ k → ¬ av k)
    (h : ∀ v' w', Items w' base av v' (L ++ E.map Prod.fst) → w.grownBy w' v.ownBlock → (∀ k, v.ownBlock = some k → base ≤ k) → wpList Tryd.prog ops Q rest (a.put o.dst v') w') : wpList Tryd.prog ops Q (o :: rest) a w := by
  obtain ⟨i0, hi, hz0, hz1, hz2⟩ := info_parts infoI
  obtain ⟨D, rfl, hrow, hav1, hbod⟩ := hI
  subst hu hm
  rw [List.length_map] at hsz
  refine wp_append_where hgd s x 32 ho base 52 i0 _ 3 48 Tryd.underlying32 hi hz0 hz1 hz2 rfl (by decide) v D.length (rowC D) hs hrow ad E.length c (rowC E) hx (rowC_length E) hcell (rowC_mem fun y hy => (hE y hy).1) (by unfold maxLen; omega) (by omega) hb ?_
  intro v' w' hown hgrow hwhere
  refine h v' w' ⟨D ++ E, by simp, ?_, ?_, fun y hy => ?_⟩ hgrow (fun k hk => (World.ownsRow.lt hrow k hk).1)
  · rw [rowC_append, List.length_append]
    exact hown
  · intro k hk
    rcases hwhere with e | hw
    · exact hav1 k (by rw [← e]; exact hk)
    · exact hav k (hw k hk)
  · rcases List.mem_append.1 hy with hy | hy
    · exact ⟨(hbod y hy).1, keeps_grown (hbod y hy).2 hgrow hwhere (fun g _ hp => hp.2) (fun g _ hp hq => ⟨hp.1, hq⟩)⟩
    · exact ⟨(hE y hy).1, keeps_grown (hE y hy).2 hgrow hwhere (fun g _ hp => hp.2) (fun g _ hp hq => ⟨hp.1, hq⟩)⟩

end Go.Proofs.YtnjbjgjhomfndaaDoor
