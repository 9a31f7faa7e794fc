/-
  Plain coins: some of a list; bools in memory, and as they come in.
-/
import Derived.Test.YtkemdfikcmgaaabCoTwo
import Derived.Test.YtkemdfikcmgaaabCoCame
namespace Go.Proofs.Ytkemdfikcmgaaab
open Go.ChangeShapes Go.WideShapes Go.ChangeAt Go.RowKit

/-- Those that are marked. -/
def selB : List Cn → List Bool → List Cn
  | [], _ => []
  | _ :: _, [] => []
  | c :: L, b :: B => if b then c :: selB L B else selB L B
theorem selB_sub : ∀ (L : List Cn) (B : List Bool), (selB L B).Sublist L
  | [], _ => List.Sublist.refl _
  | _ :: _, [] => List.nil_sublist _
  | c :: L, b :: B => by
    unfold selB
    cases b
    · exact (selB_sub L B).cons c
    · exact (selB_sub L B).cons_cons c
theorem selB_next : ∀ (L : List Cn) (B : List Bool) (j : Nat) (x : Cn), L[j]? = some x → selB (L.take (j + 1)) B = selB (L.take j) B ++ (if B.getD j false = true then [x] else [])
  | [], _, _, _, h => by simp at h
  | c :: L, [], 0, x, _ => by simp [selB]
  | c :: L, [], j + 1, x, _ => by simp [selB]
  | c :: L, b :: B, 0, x, h => by
    simp only [List.getElem?_cons_zero, Option.some.injEq] at h
    subst h
    cases b <;> simp [selB]
  | c :: L, b :: B, j + 1, x, h => by
    have ih := selB_next L B j x (by simpa using h)
    simp only [List.take_succ_cons, selB, List.getD_cons_succ]
    rw [ih]
    cases b <;> simp
theorem drop_drop (C : List Cn) (A B : List Pt) : dropPts (dropPts C A) B = dropPts C (A ++ B) := by
  unfold dropPts
  rw [List.filter_filter]
  refine List.filter_congr fun c _ => ?_
  simp [Bool.and_comm]
theorem sel_pts {L : List Cn} (B : List Bool) (j : Nat) (hN : (L.map Cn.pt).Nodup) {x : Cn} (hx : L[j]? = some x) : x.pt ∉ (selB (L.take j) B).map Cn.pt := by
  intro h
  obtain ⟨c, hc, e⟩ := List.mem_map.1 h
  have h1 : c ∈ L.take j := (selB_sub _ _).subset hc
  have h2 : ((L.take (j + 1)).map Cn.pt).Nodup := by
    rw [List.map_take]
    exact hN.sublist (List.take_sublist _ _)
  rw [take_more hx, List.nodup_append] at h2
  exact h2.2.2 _ (mem_pt h1) _ (List.mem_singleton.2 rfl) e
theorem sel_nodup {L : List Cn} (B : List Bool) (hN : (L.map Cn.pt).Nodup) : ((selB L B).map Cn.pt).Nodup := hN.sublist ((selB_sub L B).map _)
theorem sel_mem {L : List Cn} (B : List Bool) : ∀ c ∈ selB L B, c ∈ L := fun _ h => (selB_sub L B).subset h
/-- The slice bears the bools. -/
def BoolsAt (w : World) (v : Value) (B : List Bool) : Prop := RowAt w 1 v (B.map fun b => [.bool b])
theorem BoolsAt.on {w w' : World} {v : Value} {B : List Bool} (h : BoolsAt w v B) (hb : Below w.heap.size w w') : BoolsAt w' v B := RowAt.on h hb
theorem BoolsAt.form {w : World} {v : Value} {B : List Bool} (h : BoolsAt w v B) : ∃ a cap, v = .slice a B.length cap ∧ B.length ≤ cap ∧ cap ≤ 9223372036854775807 := by
  have := RowAt.form h
  simpa using this
theorem BoolsAt.get {w : World} {a : Option Addr} {n cap : Nat} {B : List Bool} (h : BoolsAt w (.slice a n cap) B) {k : Nat} (hk : k < B.length) : ∃ b off, a = some ⟨b, off, none⟩ ∧ w.cell? ⟨b, off + k, none⟩ = some (.bool (B.getD k false)) := by
  obtain ⟨b, off, e, hr⟩ := RowAt.get h (k := k) (c := [.bool (B.getD k false)]) (by rw [List.getElem?_map, List.getElem?_eq_getElem hk]; simp [List.getD, hk])
  have := hr 0 _ rfl
  rw [Nat.mul_one, Nat.add_zero] at this
  exact ⟨b, off, e, this⟩
section
variable {H : Type} {enc : TypeId × Value → H} {W : World} {base : Nat} {spare : Nat → Bool} {held : Bool}
theorem bool_cell {fuel : Nat} {cs : List Value} {x : DataW H × List MemPlace} (h : DataW.trod enc Try.prog W base spare held fuel 4 cs = some x) : ∃ b : Bool, cs = [.bool b] := by
  obtain ⟨b, e, -⟩ := DataW.trod_bool Try.underlying4 h
  exact ⟨b, e⟩
set_option maxRecDepth 100000 in
theorem bools_arg {r : Reach} {b0 : Nat} {v : Value} {d : DataW H} {p : List MemPlace} (hv : Value.okWide Try.prog W r b0 23 v) (h : DataW.Trod enc Try.prog W base spare held 23 v d p) : ∃ B, BoolsAt W v B := by
  obtain ⟨b, len, cap, rfl⟩ := okWide_slice Try.underlying23 hv
  obtain ⟨fuel, hf⟩ := h
  rcases Go.Deep.open_slice Try.underlying23 hf with ⟨hcs, -⟩ | ⟨a, len', cap', m, n, D, Pl, hcs, hb, hl, hm, hmm, -, hx⟩
  · simp [Value.cells] at hcs
    obtain ⟨rfl, rfl, rfl⟩ := hcs
    exact ⟨[], RowAt.nil W 1⟩
  · simp [Value.cells] at hcs
    obtain ⟨rfl, rfl, rfl⟩ := hcs
    obtain ⟨L, h1, -, -⟩ := rows_came (α := Bool) (C := fun b => [Value.bool b]) (Q := fun _ => True) (s := 1) (e := 4) (m := m) (fun y _ => rfl) (by omega) (by kernel_rfl) hl hm (by rw [hmm]; split <;> omega) (fun i hi => by
      obtain ⟨cs', g1, g2⟩ := hx i hi
      obtain ⟨y, e⟩ := bool_cell g2
      exact ⟨cs', g1, y, e, trivial⟩)
    exact ⟨L, h1⟩
end

end Go.Proofs.Ytkemdfikcmgaaab
