/-
  Bytes in memory: a slice that bears them, a row of the call's own that is appended to. Nothing here speaks of one function.
-/
import Derived.Test.YtbhninaaeeoamabDoorProg
import Derived.Test.YtbhninaaeeoamabDoorOct
import Derived.WalkKit
import Derived.WalkSpells
import Derived.WalkSmall
import Derived.Laws.AppendOwnNone
import Derived.LoopTactic
import Derived.Outline
namespace Go.Proofs.YtbhninaaeeoamabDoor
open Go.RowKit

theorem hide {p : Prop} (h : p) : Hid p := h
/-- A word. -/
def Word (x : Int) : Prop := 0 ≤ x ∧ x < 18446744073709551616
theorem infoB : (Tryd.prog.info? 5).map (fun i => (i.zero, i.size, i.bytes)) = some (some (.int .u8 0), 1, 1) := by kernel_rfl

/-- The slice bears the bytes; an empty one may lie wherever. -/
def Bytes (w : World) (v : Value) (l : List Int) : Prop :=
  ∃ (a : Option Addr) (cap : Nat), v = .slice a l.length cap ∧ l.length ≤ cap ∧ cap ≤ 9223372036854775807 ∧ (a = none → cap = 0) ∧
    (0 < l.length → ∃ b off : Nat, a = some ⟨b, off, none⟩ ∧ ∀ i, i < l.length → w.cell? ⟨b, off + i, none⟩ = some (.int .u8 (l.getD i 0)))
/-- A row of the call's own (its block is base or behind it) bears the bytes. -/
def Own (w : World) (base : Nat) (v : Value) (l : List Int) : Prop := w.ownsRow base 5 1 v l.length (l.map (Value.int .u8))

theorem Bytes.form {w : World} {v : Value} {l : List Int} (h : Bytes w v l) : ∃ (a : Option Addr) (cap : Nat), v = .slice a l.length cap ∧ l.length ≤ cap ∧ cap ≤ 9223372036854775807 := by
  obtain ⟨a, cap, h1, h2, h3, _⟩ := h
  exact ⟨a, cap, h1, h2, h3⟩
theorem Bytes.lies {w : World} {v : Value} {l : List Int} (h : Bytes w v l) (hl : 0 < l.length) :
    ∃ b off cap : Nat, v = .slice (some ⟨b, off, none⟩) l.length cap ∧ l.length ≤ cap ∧ cap ≤ 9223372036854775807 ∧ ∀ i, i < l.length → w.cell? ⟨b, off + i, none⟩ = some (.int .u8 (l.getD i 0)) := by
  obtain ⟨a, cap, h1, h2, h3, _, h5⟩ := h
  obtain ⟨b, off, rfl, hc⟩ := h5 hl
  exact ⟨b, off, cap, h1, h2, h3, hc⟩
theorem Bytes.empty {w : World} {v : Value} (h : Bytes w v []) : ∃ (a : Option Addr) (cap : Nat), v = .slice a 0 cap ∧ cap ≤ 9223372036854775807 := by
  obtain ⟨a, cap, h1, _, h3, _⟩ := h
  exact ⟨a, cap, h1, h3⟩
theorem Bytes.nil (w : World) : Bytes w (.slice none 0 0) [] := ⟨none, 0, rfl, by simp, by simp, fun _ => rfl, by simp⟩
/-- What bytes bear does not turn while old memory stays. -/
theorem Bytes.at {w w' : World} {v : Value} {l : List Int} (h : Bytes w v l) (hb : ∀ p : Addr, p.block < w.heap.size → w'.cell? p = w.cell? p) : Bytes w' v l := by
  obtain ⟨a, cap, h1, h2, h3, h4, h5⟩ := h
  refine ⟨a, cap, h1, h2, h3, h4, fun hl => ?_⟩
  obtain ⟨b, off, rfl, hc⟩ := h5 hl
  exact ⟨b, off, rfl, fun i hi => (hb _ (World.block_lt_of_cell? _ _ (hc i hi))).trans (hc i hi)⟩
theorem Bytes.below {w w' : World} {v : Value} {l : List Int} (h : Bytes w v l) (hb : Below w.heap.size w w') : Bytes w' v l := h.at fun _ hp => hb.cell hp
theorem Bytes.alloc {w : World} {v : Value} {l : List Int} (h : Bytes w v l) (o : Obj) : Bytes (w.alloc o) v l := h.below ((Below.refl _ _).alloc (Nat.le_refl _) o)
theorem Bytes.drew {w : World} {v : Value} {l : List Int} (h : Bytes w v l) : Bytes w.drew v l := h.below (Below.refl _ _).drew
theorem Bytes.take {w : World} {a : Option Addr} {n cap : Nat} {l : List Int} (h : Bytes w (.slice a n cap) l) (k : Nat) (hk : k ≤ n) : Bytes w (.slice a k cap) (l.take k) := by
  obtain ⟨a', cap', h1, h2, h3, h4, h5⟩ := h
  cases h1
  have hl : (l.take k).length = k := by simp; omega
  refine ⟨a, cap, by rw [hl], by omega, h3, h4, fun hp => ?_⟩
  obtain ⟨b, off, e, hc⟩ := h5 (by omega)
  refine ⟨b, off, e, fun i hi => ?_⟩
  have hi' : i < k := by omega
  have e2 : (l.take k).getD i 0 = l.getD i 0 := by simp [List.getD, hi']
  rw [e2]
  exact hc i (by omega)
theorem Bytes.drop {w : World} {a : Option Addr} {n cap : Nat} {l : List Int} (h : Bytes w (.slice a n cap) l) (k : Nat) (hk : k ≤ n) :
    Bytes w (.slice (if cap = k then a else a.map (·.add k)) (n - k) (cap - k)) (l.drop k) := by
  obtain ⟨a', cap', h1, h2, h3, h4, h5⟩ := h
  cases h1
  have hl : (l.drop k).length = l.length - k := by simp
  refine ⟨_, _, by rw [hl], by omega, by omega, fun e => ?_, fun hp => ?_⟩
  · split at e
    · omega
    · cases a with
      | none => have := h4 rfl; omega
      | some a => simp at e
  · obtain ⟨b, off, rfl, hc⟩ := h5 (by omega)
    rw [if_neg (by omega)]
    refine ⟨b, off + k, by simp [Addr.add], fun i hi => ?_⟩
    have e2 : (l.drop k).getD i 0 = l.getD (k + i) 0 := by simp [List.getD, List.getElem?_drop]
    rw [e2, Nat.add_assoc]
    exact hc (k + i) (by omega)
/-- One new box of bytes. -/
theorem Bytes.made (w : World) (cs : Array Value) (l : List Int) (n : Nat) (hl : l.length = n) (hn : n ≤ 1000) (h : cs.toList = l.map (Value.int .u8)) : Bytes (w.alloc (.cells cs 5)) (.slice (some ⟨w.heap.size, 0, none⟩) n n) l := by
  subst hl
  refine ⟨_, _, rfl, Nat.le_refl _, by omega, by simp, fun _ => ⟨_, _, rfl, fun i hi => ?_⟩⟩
  rw [Nat.zero_add, cell_of_row _ _ _ cs 5 (0, 0) (heap_alloc_new w _)]
  have : cs[i]? = cs.toList[i]? := by simp
  rw [this, h]
  simp [List.getD, hi]
theorem Bytes.one (w : World) (z : Int) : Bytes (w.alloc (.cells #[.int .u8 z] 5)) (.slice (some ⟨w.heap.size, 0, none⟩) 1 1) [z] := Bytes.made w _ _ 1 rfl (by omega) rfl

theorem Own.bytes {w : World} {base : Nat} {v : Value} {l : List Int} (h : Own w base v l) : Bytes w v l := by
  obtain ⟨_, h0 | ⟨g, cap, cur, rfl, hb, hg, hn, hm, hs, ht⟩⟩ := id h
  · obtain ⟨rfl, h0⟩ := h0
    obtain rfl : l = [] := List.length_eq_zero_iff.1 h0
    exact Bytes.nil w
  · refine ⟨_, _, rfl, hn, by simpa [maxLen] using hm, by simp, fun _ => ⟨g, 0, rfl, fun i hi => ?_⟩⟩
    have := World.ownsRow.cellAt h i (by omega)
    rw [Nat.zero_add, this]
    simp [List.getD, hi]
theorem Own.nil (w : World) (base : Nat) : Own w base (.slice none 0 0) [] := World.ownsRow_nil _ _ _ _
theorem Own.alloc {w : World} {base : Nat} {v : Value} {l : List Int} (h : Own w base v l) (o : Obj) : Own (w.alloc o) base v l := World.ownsRow.alloc h o
theorem Own.drew {w : World} {base : Nat} {v : Value} {l : List Int} (h : Own w base v l) : Own w.drew base v l := World.ownsRow.drew h
/-- A slice that has just been made of nothing. -/
theorem Own.made (w : World) (base : Nat) (hb : base ≤ w.heap.size) : Own (w.alloc (.cells #[] 5)) base (.slice (some ⟨w.heap.size, 0, none⟩) 0 0) [] :=
  World.ownsRow_made w #[] 0 hb (by simp [maxLen]) (by simp)
theorem Own.made1 (w : World) (base : Nat) (hb : base ≤ w.heap.size) (z : Int) : Own (w.alloc (.cells #[.int .u8 z] 5)) base (.slice (some ⟨w.heap.size, 0, none⟩) 1 1) [z] :=
  World.ownsRow_lit w #[.int .u8 z] 1 hb (by simp [maxLen]) (by simp)

/-- 'append', of bytes onto a row of the call's own. -/
theorem wp_append {w : World} {ops : Array Oper} {rest : List Oper} {o : Oper} {a : Act} {Q : Exit → Act → World → Prop} (hgd : o.guard = none) (s x : Operand)
    (ho : o.op = .call { callee := .builtin .append, args := #[s, x], argTypes := #[22, 22] })
    (base : Nat) (v : Value) (l : List Int) (hs : a.eval s = v) (hown : Own w base v l) (src : Value) (m : List Int) (hx : a.eval x = src) (hsrc : Bytes w src m)
    (hsz : l.length + m.length ≤ 1000000) (hb : base ≤ w.heap.size)
    (h : ∀ v' w', Own w' base v' (l ++ m) → Below base w w' → wpList Tryd.prog ops Q rest (a.put o.dst v') w') : wpList Tryd.prog ops Q (o :: rest) a w := by
  obtain ⟨i0, hi, hz0, hz1, hz2⟩ := info_parts infoB
  obtain ⟨ad, cap, rfl, hcap, hmax, hnone, hcell⟩ := hsrc
  cases ad with
  | none =>
    obtain rfl := hnone rfl
    obtain rfl : m = [] := List.length_eq_zero_iff.1 (by omega)
    refine wpList_append_own_none hgd s x 22 ho base 5 i0 1 Tryd.underlying22 hi v l.length _ hs hown hx ?_
    exact h v w (by rw [List.append_nil]; exact hown) (Below.refl _ _)
  | some ad =>
    refine wpList_append_own w hgd s x 22 ho base 5 i0 (.int .u8 0) 1 1 Tryd.underlying22 hi hz0 hz1 hz2 rfl (by decide) v l.length _ hs hown ad m.length cap (m.map (Value.int .u8)) hx (by simp) ?_ (ints_oneCell _ _) (by unfold maxLen; omega) (by omega) hb ?_
    · intro j u hj
      have hjl : j < m.length := by
        have := (List.getElem?_eq_some_iff.1 hj).1
        simpa using this
      obtain ⟨b, off, e, hc⟩ := hcell (by omega)
      cases e
      have e2 : (⟨b, off, none⟩ : Addr).add j = ⟨b, off + j, none⟩ := by simp [Addr.add]
      rw [e2, hc j hjl, ← hj]
      simp [List.getD, hjl]
    · intro v' w' hown' hgrow _
      refine h v' w' ?_ ((Below.refl base w).grown hgrow hb (fun k hk => (World.ownsRow.lt hown k hk).1))
      unfold Own
      rw [List.map_append, List.length_append]
      exact hown'

end Go.Proofs.YtbhninaaeeoamabDoor
