/-
  What pappuslaw06.row comes to at this program: frames, one behind the other, and what they say.
-/
import Derived.Test.YtnjbjgjhomfndaaDoorFlMsg
import Derived.Test.YtnjbjgjhomfndaaDoorFlAlive
namespace Go.Proofs.YtnjbjgjhomfndaaDoor
open Go.ChangeShapes Go.WideShapes Go.ChangeAt Go.RowKit

/-- A message's frame, if it may be; what it says. -/
def oneB (m : ByteArray × List Int) : List Int := if fpE (strL m.1) m.2 = 0 then frameL (strL m.1) m.2 else []
def oneI (m : ByteArray × List Int) : List It := if fpE (strL m.1) m.2 = 0 then [⟨strL m.1, m.2, 0⟩] else []
def rowB (M : List (ByteArray × List Int)) : List Int := M.flatMap oneB
def rowI (M : List (ByteArray × List Int)) : List It := M.flatMap oneI
theorem rowB_next {M : List (ByteArray × List Int)} {k : Nat} {m : ByteArray × List Int} (h : M[k]? = some m) : rowB (M.take (k + 1)) = rowB (M.take k) ++ oneB m ∧ rowI (M.take (k + 1)) = rowI (M.take k) ++ oneI m := by
  obtain ⟨hlt, e⟩ := List.getElem?_eq_some_iff.1 h
  rw [List.take_succ_eq_append_getElem hlt, e]
  simp [rowB, rowI]
theorem one_ok {m : ByteArray × List Int} (h : fpE (strL m.1) m.2 = 0) : namedL (strL m.1) = true ∧ m.2.length ≤ 2048 := by
  rcases fp_cases (strL m.1) m.2 with ⟨-, h'⟩ | ⟨-, -, h'⟩ | ⟨h1, h2, -⟩
  · omega
  · omega
  · exact ⟨h1, h2⟩
theorem oneB_upto (m : ByteArray × List Int) : (oneB m).length ≤ 2072 := by
  unfold oneB
  split
  · rename_i h
    obtain ⟨h1, h2⟩ := one_ok h
    rw [frameL_length h1]
    omega
  · simp
theorem rowB_upto : ∀ M : List (ByteArray × List Int), (rowB M).length ≤ M.length * 2072
  | [] => by simp [rowB]
  | m :: M => by
    have h1 := oneB_upto m
    have h2 := rowB_upto M
    simp only [rowB, List.flatMap_cons, List.length_append, List.length_cons] at h2 ⊢
    omega
theorem rowI_upto : ∀ M : List (ByteArray × List Int), (rowI M).length ≤ M.length
  | [] => by simp [rowI]
  | m :: M => by
    have h2 := rowI_upto M
    have h1 : (oneI m).length ≤ 1 := by unfold oneI; split <;> simp
    simp only [rowI, List.flatMap_cons, List.length_append, List.length_cons] at h2 ⊢
    omega
theorem rowB_byte {M : List (ByteArray × List Int)} (h : ∀ m ∈ M, MsgOk m) : ∀ z ∈ rowB M, Byte z := by
  intro z hz
  obtain ⟨m, hm, hz⟩ := List.mem_flatMap.1 hz
  unfold oneB at hz
  split at hz
  · rename_i h'
    exact frameL_byte (one_ok h').1 (h m hm).2 z hz
  · cases hz
/-- Frames, one behind the other, all come out. -/
theorem runs_row : ∀ (M : List (ByteArray × List Int)) {rest : List Int} {L : List It} {s : List Int} {d : Bool}, Runs rest L s d → Runs (rowB M ++ rest) (rowI M ++ L) s d
  | [], _, _, _, _, h => h
  | m :: M, rest, L, s, d, h => by
    have ih := runs_row M h
    show Runs ((oneB m ++ rowB M) ++ rest) ((oneI m ++ rowI M) ++ L) s d
    rw [List.append_assoc, List.append_assoc]
    unfold oneB oneI
    split
    · rename_i h'
      exact runs_frame (one_ok h').1 (one_ok h').2 ih
    · exact ih
/-- Rows of elements of two kinds are two rows. -/
theorem rows_apart {w : World} {base base' n n' size size' : Nat} {e e' : TypeId} {v v' : Value} {xs xs' : List Value} (h : w.ownsRow base e size v n xs) (k : w.ownsRow base' e' size' v' n' xs') (hne : e ≠ e') : v.ownBlock = none ∨ v.ownBlock ≠ v'.ownBlock := by
  obtain ⟨_, ⟨rfl, _⟩ | ⟨g, cap, cur, rfl, _, hg, _⟩⟩ := h
  · exact Or.inl rfl
  · right
    obtain ⟨_, ⟨rfl, _⟩ | ⟨g', cap', cur', rfl, _, hg', _⟩⟩ := k
    · simp [Value.ownBlock]
    · intro q
      simp only [Value.ownBlock, Option.some.injEq] at q
      rw [q, hg'] at hg
      simp only [Option.some.injEq, Obj.cells.injEq] at hg
      exact hne hg.2.1.symm
/-- 'append', of bytes onto a row of the call's own: what has grown. -/
theorem wp_append_grew {w : World} {ops : Array Oper} {rest : List Oper} {o : Oper} {a : Act} {Q : Exit → Act → World → Prop} (hgd : o.guard = none) (s x : Operand)
    (ho : o.op = .call { callee := .builtin .append, args := #[s, x], argTypes := #[28, 28] })
    (base : Nat) (v : Value) (l : List Int) (hs : a.eval s = v) (hown : Own w base v l) (src : Value) (m : List Int) (hx : a.eval x = src) (hsrc : Bytes w src m)
    (hsz : l.length + m.length ≤ 1000000) (hb : base ≤ w.heap.size)
    (h : ∀ v' w', Own w' base v' (l ++ m) → w.grownBy w' v.ownBlock → (∀ k, v.ownBlock = some k → base ≤ k ∧ k < w.heap.size) → wpList Tryd.prog ops Q rest (a.put o.dst v') w') : wpList Tryd.prog ops Q (o :: rest) a w := by
  obtain ⟨i0, hi, hz0, hz1, hz2⟩ := info_parts infoB
  obtain ⟨ad, cap, rfl, hcap, hmax, hnone, hcell⟩ := hsrc
  cases ad with
  | none =>
    obtain rfl := hnone rfl
    obtain rfl : m = [] := List.length_eq_zero_iff.1 (by omega)
    refine wpList_append_own_none hgd s x 28 ho base 5 i0 1 Tryd.underlying28 hi v l.length _ hs hown hx ?_
    exact h v w (by rw [List.append_nil]; exact hown) ⟨rfl, rfl, rfl, Nat.le_refl _, fun _ _ _ => rfl⟩ (fun k hk => World.ownsRow.lt hown k hk)
  | some ad =>
    refine wpList_append_own w hgd s x 28 ho base 5 i0 (.int .u8 0) 1 1 Tryd.underlying28 hi hz0 hz1 hz2 rfl (by decide) v l.length _ hs hown ad m.length cap (m.map (Value.int .u8)) hx (by simp) ?_ (ints_oneCell _ _) (by unfold maxLen; omega) (by omega) hb ?_
    · intro j u hj
      have hjl : j < m.length := by
        have := (List.getElem?_eq_some_iff.1 hj).1
        simpa using this
      obtain ⟨b, off, e, hc⟩ := hcell (by omega)
      cases e
      rw [Addr.add_mid, hc j hjl, ← hj]
      simp [List.getD, hjl]
    · intro v' w' hown' hgrow _
      refine h v' w' ?_ hgrow (fun k hk => World.ownsRow.lt hown k hk)
      unfold Own
      rw [List.map_append, List.length_append]
      exact hown'
/-- 'append', of one item onto a row of items, its body told by no word. -/
theorem wp_append_it {w : World} {ops : Array Oper} {rest : List Oper} {o : Oper} {a : Act} {Q : Exit → Act → World → Prop} (hgd : o.guard = none) (s x : Operand)
    (ho : o.op = .call { callee := .builtin .append, args := #[s, x], argTypes := #[32, 32] })
    (base : Nat) (v : Value) (D : List (It × Value)) (hs : a.eval s = v) (hrow : w.ownsRow base 52 3 v D.length (rowC D)) (u : Value) (ad : Addr) (m c : Nat) (hx : a.eval x = u) (hu : u = .slice (some ad) m c) (y : It × Value) (hm : m = 1)
    (hcell : ∀ j z, (itC y)[j]? = some z → w.cell? (ad.add j) = some z) (h1 : y.2.oneCell' = true) (hsz : D.length ≤ 900000) (hb : base ≤ w.heap.size)
    (h : ∀ v' w', w'.ownsRow base 52 3 v' (D ++ [y]).length (rowC (D ++ [y])) → w.grownBy w' v.ownBlock → (∀ k, v.ownBlock = some k → base ≤ k) → wpList Tryd.prog ops Q rest (a.put o.dst v') w') : wpList Tryd.prog ops Q (o :: rest) a w := by
  obtain ⟨i0, hi, hz0, hz1, hz2⟩ := info_parts infoI
  subst hu hm
  refine wpList_append_own w hgd s x 32 ho base 52 i0 _ 3 48 Tryd.underlying32 hi hz0 hz1 hz2 rfl (by decide) v D.length (rowC D) hs hrow ad 1 c (itC y) hx rfl hcell (it_one h1) (by unfold maxLen; omega) (by omega) hb ?_
  intro v' w' hown hgrow _
  refine h v' w' ?_ hgrow (fun k hk => (World.ownsRow.lt hrow k hk).1)
  rw [rowC_append, rowC_one, List.length_append]
  exact hown

end Go.Proofs.YtnjbjgjhomfndaaDoor
