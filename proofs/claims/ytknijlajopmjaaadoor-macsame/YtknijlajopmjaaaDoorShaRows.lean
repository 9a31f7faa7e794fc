/-
  Rows of the law's own whose bytes are raised one by one; a piece of one byte out of them.
-/
import Derived.Test.YtknijlajopmjaaaDoorShaSteps
namespace Go.Proofs.YtknijlajopmjaaaDoor
open Go.RowKit

/-- The first k bytes are raised by one. -/
def bumped (l : List Int) (k : Nat) : List Int := (l.take k).map (fun z => (z + 1) % 256) ++ l.drop k
theorem bumped_length (l : List Int) (k : Nat) : (bumped l k).length = l.length := by simp [bumped]; omega
theorem bumped_zero (l : List Int) : bumped l 0 = l := by simp [bumped]
theorem bumped_get (l : List Int) (k : Nat) (h : k < l.length) : (bumped l k).getD k 0 = l.getD k 0 := by
  have h1 : ((l.take k).map (fun z => (z + 1) % 256)).length = k := by simp; omega
  simp only [bumped, List.getD]
  rw [List.getElem?_append_right (by omega), h1, Nat.sub_self, List.getElem?_drop, Nat.add_zero]
theorem bumped_set (l : List Int) (k : Nat) (h : k < l.length) : (bumped l k).set k ((l.getD k 0 + 1) % 256) = bumped l (k + 1) := by
  have h1 : ((l.take k).map (fun z => (z + 1) % 256)).length = k := by simp; omega
  simp only [bumped]
  rw [List.set_append_right _ _ (by omega), h1, Nat.sub_self, List.drop_eq_getElem_cons h, List.set_cons_zero, List.take_succ_eq_append_getElem h, List.map_append, List.append_assoc]
  simp [List.getD, h]
theorem bumped_more (l : List Int) (k : Nat) (h : l.length ≤ k) : bumped l (k + 1) = bumped l k := by
  simp only [bumped]
  rw [List.take_of_length_le (by omega), List.take_of_length_le h, List.drop_of_length_le (by omega), List.drop_of_length_le h]
theorem take_more (l : List Int) (k : Nat) (h : l.length ≤ k) : l.take (k + 1) = l.take k := by rw [List.take_of_length_le (by omega), List.take_of_length_le h]
theorem take_one (l : List Int) (k : Nat) (h : k < l.length) : l.take (k + 1) = l.take k ++ [l.getD k 0] := by
  rw [List.take_succ_eq_append_getElem h]
  simp [List.getD, h]
/-- A row of the call's own, at the head of block b. -/
def Rowed (w : World) (v : Value) (b : Nat) (l : List Int) : Prop :=
  (∃ (a : Option Addr) (cap : Nat), v = .slice a l.length cap ∧ l.length ≤ cap ∧ cap ≤ 9223372036854775807 ∧ (0 < l.length → a = some ⟨b, 0, none⟩)) ∧ Arr w b 0 .u8 l
theorem Rowed.of {w : World} {base : Nat} {v : Value} {l : List Int} (h : Own w base v l) (hb : base < w.heap.size) : ∃ b, base ≤ b ∧ b < w.heap.size ∧ Rowed w v b l := by
  obtain ⟨_, ⟨rfl, h0⟩ | ⟨g, cap, cur, rfl, hbg, hg, hn, hm, hs, ht⟩⟩ := id h
  · obtain rfl : l = [] := List.length_eq_zero_iff.1 h0
    exact ⟨base, Nat.le_refl _, hb, ⟨_, _, rfl, by simp, by simp, by simp⟩, fun j v hv => by simp [vals] at hv, fun j hj => by simp at hj⟩
  · have hlt : g < w.heap.size := (Array.getElem?_eq_some_iff.1 hg).1
    refine ⟨g, hbg, hlt, ⟨_, _, rfl, hn, by simpa [maxLen] using hm, fun _ => rfl⟩, fun j v hv => ?_, fun j hj => ⟨?_, frozen_of_row _ _ _ _ _ hg⟩⟩
    · have hj : j < l.length := by have := (List.getElem?_eq_some_iff.1 hv).1; rwa [vals_length] at this
      have := World.ownsRow.cellAt h j (by omega)
      rw [Nat.zero_add, this, ← hv]
      rfl
    · have := World.ownsRow.cellAt h j (by omega)
      rw [Nat.zero_add, this]
      simp [hj]
theorem Rowed.form {w : World} {v : Value} {b : Nat} {l : List Int} (h : Rowed w v b l) : ∃ (a : Option Addr) (cap : Nat), v = .slice a l.length cap ∧ l.length ≤ cap ∧ cap ≤ 9223372036854775807 ∧ (0 < l.length → a = some ⟨b, 0, none⟩) := h.1
theorem Arr.bytesAt {w : World} {b n cap : Nat} {l : List Int} (h : Arr w b 0 .u8 l) (hn : l.length = n) (hc : n ≤ cap) (hm : cap ≤ 9223372036854775807) : Bytes w (.slice (some ⟨b, 0, none⟩) n cap) l := by
  subst hn
  exact ⟨_, _, rfl, hc, hm, by simp, fun _ => ⟨_, _, rfl, fun i hi => h.cell i hi⟩⟩
/-- One byte cut out of bytes. -/
theorem byte_of (a : Option Addr) (n cap lo hi : Nat) (hhi : hi = lo + 1) (hlo : hi ≤ n) (hn : n ≤ cap) :
    ∃ a1 c1, (∀ w, (Instr.slice 22 (.slice a n cap) (some (.int .i64 (lo : Int))) (some (.int .i64 (hi : Int))) none).run Tryd.prog w = .ok (.slice a1 1 c1) w) ∧ ∀ (w0 : World) (r : List Int), Bytes w0 (.slice a n cap) r → Bytes w0 (.slice a1 1 c1) ((r.drop lo).take 1) := by
  refine ⟨if cap = lo then a else a.map (·.add lo), cap - lo, fun w => ?_, fun w0 r h => ?_⟩
  · rw [run_slice_lh w 22 _ n cap (by rw [Tryd.underlying22]; kernel_rfl) .i64 .i64 (lo : Int) (hi : Int) (by omega) (by omega) (by omega)]
    have e : (sizeOf (Tryd.prog.elem 22)).run Tryd.prog w = .ok 1 w := by kernel_rfl
    rw [e]
    simp [Result.andThen, sliced]
    omega
  · exact (h.drop lo (by omega)).take 1 (by omega)
theorem wp_between {w : World} {ops : Array Oper} {rest : List Oper} {o : Oper} {a : Act} {Q : Exit → Act → World → Prop} (hgd : o.guard = none) (s i j : Operand) (ho : o.op = .slice 22 s (some i) (some j) none)
    (v v1 : Value) (x y : Value) (hs : a.eval s = v) (hi : a.eval i = x) (hj : a.eval j = y) (hrun : ∀ w, (Instr.slice 22 v (some x) (some y) none).run Tryd.prog w = .ok v1 w)
    (h : wpList Tryd.prog ops Q rest (a.put o.dst v1) w) : wpList Tryd.prog ops Q (o :: rest) a w := by
  have hat : ∀ w, (Instr.sliceAt 22 v (some x) (some y) none).run Tryd.prog w = .ok v1 w := fun w => by
    rw [run_sliceAt_slice _ _ _ _ _ _ (by rw [Tryd.underlying22]; kernel_rfl)]
    exact hrun w
  refine wpList_plain hgd fun K hK => ?_
  unfold Oper.wp
  simp [execOp, ho, hs, hi, hj, hat, Result.andThen, Oper.upon]
  exact hK _ _ h

end Go.Proofs.YtknijlajopmjaaaDoor
