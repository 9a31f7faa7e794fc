import Derived.Test.YtbeegcpmpgdbnaaDoorProg
import Derived.WalkKit
import Derived.WalkSpells
import Derived.WalkSmall
import Derived.Laws.AppendOwnNone
import Derived.LoopTactic
import Derived.Outline
import Derived.Laws.BytesArg
import Derived.Laws.Strings
import Derived.WalkLawsBesides
import Derived.Lib.AppendStr
/-
  Plain numbers and lists, with no word of the program: a number as n bytes, a number as short as may be, what is read of bytes.
-/
namespace Go.Proofs.YtbeegcpmpgdbnaaDoor

def Byte (x : Int) : Prop := 0 ≤ x ∧ x < 256
/-- x as n bytes, the lowest first. -/
def put : Nat → Int → List Int
  | 0, _ => []
  | n + 1, x => x % 256 :: put n (x / 256)
/-- The number that bytes are. -/
def num : List Int → Int
  | [] => 0
  | c :: l => c + 256 * num l
theorem put_length : ∀ (n : Nat) (x : Int), (put n x).length = n
  | 0, _ => rfl
  | n + 1, x => by simp [put, put_length n]
theorem put_byte : ∀ (n : Nat) (x : Int), ∀ z ∈ put n x, Byte z
  | 0, _ => by simp [put]
  | n + 1, x => by
    intro z hz
    simp only [put, List.mem_cons] at hz
    rcases hz with rfl | hz
    · exact ⟨by omega, by omega⟩
    · exact put_byte n _ z hz
theorem num_put : ∀ (n : Nat) (x : Int), 0 ≤ x → x < 256 ^ n → num (put n x) = x
  | 0, x, h0, h1 => by simp at h1; simp [put, num]; omega
  | n + 1, x, h0, h1 => by
    rw [Int.pow_succ] at h1
    have := num_put n (x / 256) (by omega) (by omega)
    simp only [put, num, this]
    omega
theorem put_num : ∀ (l : List Int), (∀ z ∈ l, Byte z) → put l.length (num l) = l
  | [], _ => rfl
  | c :: l, h => by
    have hc := h c (by simp)
    obtain ⟨h0, h1⟩ := hc
    have e1 : (c + 256 * num l) % 256 = c := by omega
    have e2 : (c + 256 * num l) / 256 = num l := by omega
    simp only [List.length_cons, num, put, e1, e2]
    rw [put_num l (fun z hz => h z (by simp [hz]))]
theorem num_nonneg : ∀ (l : List Int), (∀ z ∈ l, Byte z) → 0 ≤ num l
  | [], _ => by simp [num]
  | c :: l, h => by
    have hc := (h c (by simp)).1
    have := num_nonneg l (fun z hz => h z (by simp [hz]))
    simp only [num]; omega
theorem num_lt : ∀ (l : List Int), (∀ z ∈ l, Byte z) → num l < 256 ^ l.length
  | [], _ => by simp [num]
  | c :: l, h => by
    have hc := (h c (by simp)).2
    have := num_lt l (fun z hz => h z (by simp [hz]))
    simp only [num, List.length_cons, Int.pow_succ]; omega
theorem num_snoc : ∀ (l : List Int) (c : Int), num (l ++ [c]) = num l + c * 256 ^ l.length
  | [], c => by simp [num]
  | a :: l, c => by
    simp only [List.cons_append, num, num_snoc l c, List.length_cons, Int.pow_succ, Int.mul_add]
    have : 256 * (c * 256 ^ l.length) = c * (256 ^ l.length * 256) := by
      rw [Int.mul_comm 256, Int.mul_assoc]
    omega
/-- Put's test: is the number greater than n bytes can hold? -/
theorem put_rest : ∀ (n : Nat) (x : Int), 0 ≤ x → (x / 256 ^ n = 0 ↔ x < 256 ^ n) := by
  intro n x h0
  have hp : (0 : Int) < 256 ^ n := Int.pow_pos (by omega)
  constructor
  · intro h
    have := Int.lt_ediv_add_one_mul_self x hp
    rw [h] at this
    omega
  · intro h
    exact Int.ediv_eq_zero_of_lt h0 h

/-- How many bytes a number has, as short as may be. -/
def size (x : Int) : Int := if x < 253 then 1 else if x ≤ 65535 then 3 else if x ≤ 4294967295 then 5 else 9
/-- How many bytes stand behind the first one. -/
def behind (c : Int) : Int := if c = 253 then 2 else if c = 254 then 4 else if c = 255 then 8 else 0
/-- A number as short as may be. -/
def var (x : Int) : List Int := if x < 253 then [x] else if x ≤ 65535 then 253 :: put 2 x else if x ≤ 4294967295 then 254 :: put 4 x else 255 :: put 8 x
theorem var_length (x : Int) : ((var x).length : Int) = size x := by
  unfold var size
  split
  · rfl
  · split
    · simp [put_length]
    · split <;> simp [put_length]
theorem var_byte (x : Int) (h0 : 0 ≤ x) : ∀ z ∈ var x, Byte z := by
  unfold var
  intro z hz
  split at hz
  · simp at hz; subst hz; exact ⟨by omega, by omega⟩
  · split at hz
    · simp only [List.mem_cons] at hz
      rcases hz with rfl | hz
      · exact ⟨by omega, by omega⟩
      · exact put_byte _ _ z hz
    · split at hz
      · simp only [List.mem_cons] at hz
        rcases hz with rfl | hz
        · exact ⟨by omega, by omega⟩
        · exact put_byte _ _ z hz
      · simp only [List.mem_cons] at hz
        rcases hz with rfl | hz
        · exact ⟨by omega, by omega⟩
        · exact put_byte _ _ z hz
theorem size_cases (x : Int) : (x < 253 ∧ size x = 1) ∨ (253 ≤ x ∧ x ≤ 65535 ∧ size x = 3) ∨ (65535 < x ∧ x ≤ 4294967295 ∧ size x = 5) ∨ (4294967295 < x ∧ size x = 9) := by
  unfold size
  split
  · exact Or.inl ⟨by omega, rfl⟩
  · split
    · exact Or.inr (Or.inl ⟨by omega, by omega, rfl⟩)
    · split
      · exact Or.inr (Or.inr (Or.inl ⟨by omega, by omega, rfl⟩))
      · exact Or.inr (Or.inr (Or.inr ⟨by omega, rfl⟩))
theorem behind_cases (c : Int) : (c = 253 ∧ behind c = 2) ∨ (c = 254 ∧ behind c = 4) ∨ (c = 255 ∧ behind c = 8) ∨ (c ≠ 253 ∧ c ≠ 254 ∧ c ≠ 255 ∧ behind c = 0) := by
  unfold behind
  split
  · exact Or.inl ⟨by omega, rfl⟩
  · split
    · exact Or.inr (Or.inl ⟨by omega, rfl⟩)
    · split
      · exact Or.inr (Or.inr (Or.inl ⟨by omega, rfl⟩))
      · exact Or.inr (Or.inr (Or.inr ⟨by omega, by omega, by omega, rfl⟩))

/-- How many bytes the number has with which bytes begin, as its first byte says. -/
def lead (l : List Int) : Nat := 1 + (behind (l.getD 0 0)).toNat
/-- What stands behind the first byte, as a number. -/
def mid (l : List Int) : Int := num ((l.take (lead l)).drop 1)
/-- What is read: the number, how many bytes it has, and the word for how it went: 0, 4 (it ends early), 6 (it isn't as short as may be). -/
def readX (l : List Int) : Int := if l.length < lead l then 0 else if lead l = 1 then l.getD 0 0 else if size (mid l) ≠ lead l then 0 else mid l
def readN (l : List Int) : Int := if l.length < lead l then 0 else if lead l = 1 then 1 else if size (mid l) ≠ lead l then 0 else lead l
def readE (l : List Int) : Int := if l.length < lead l then 4 else if lead l = 1 then 0 else if size (mid l) ≠ lead l then 6 else 0
theorem lead_cases (l : List Int) : lead l = 1 ∨ lead l = 3 ∨ lead l = 5 ∨ lead l = 9 := by
  unfold lead
  rcases behind_cases (l.getD 0 0) with ⟨_, h⟩ | ⟨_, h⟩ | ⟨_, h⟩ | ⟨_, _, _, h⟩ <;> rw [h] <;> simp

end Go.Proofs.YtbeegcpmpgdbnaaDoor

/-
  Bytes in memory: a slice that bears them, a row of the call's own that is appended to. Nothing here speaks of one function.
-/
namespace Go.Proofs.YtbeegcpmpgdbnaaDoor
open Go.RowKit

theorem hide {p : Prop} (h : p) : Hid p := h
/-- A word. -/
def Word (x : Int) : Prop := 0 ≤ x ∧ x < 18446744073709551616
theorem infoB : (Tryd.prog.info? 5).map (fun i => (i.zero, i.size, i.bytes)) = some (some (.int .u8 0), 1, 1) := by kernel_rfl

/-- The slice bears the bytes; an empty one may lie wherever. -/
def Bytes (w : World) (v : Value) (l : List Int) : Prop :=
  ∃ (a : Option Addr) (cap : Nat), v = .slice a l.length cap ∧ l.length ≤ cap ∧ cap ≤ 9223372036854775807 ∧ (a = none → cap = 0) ∧
    (0 < l.length → ∃ b off : Nat, a = some ⟨b, off, none⟩ ∧ ∀ i, i < l.length → w.cell? ⟨b, off + i, none⟩ = some (.int .u8 (l.getD i 0)))
/-- A row of the call's own (its block is base or behind it) bears the bytes. -/
def Own (w : World) (base : Nat) (v : Value) (l : List Int) : Prop := w.ownsRow base 5 1 v l.length (l.map (Value.int .u8))

theorem Bytes.form {w : World} {v : Value} {l : List Int} (h : Bytes w v l) : ∃ (a : Option Addr) (cap : Nat), v = .slice a l.length cap ∧ l.length ≤ cap ∧ cap ≤ 9223372036854775807 := by
  obtain ⟨a, cap, h1, h2, h3, _⟩ := h
  exact ⟨a, cap, h1, h2, h3⟩
theorem Bytes.lies {w : World} {v : Value} {l : List Int} (h : Bytes w v l) (hl : 0 < l.length) :
    ∃ b off cap : Nat, v = .slice (some ⟨b, off, none⟩) l.length cap ∧ l.length ≤ cap ∧ cap ≤ 9223372036854775807 ∧ ∀ i, i < l.length → w.cell? ⟨b, off + i, none⟩ = some (.int .u8 (l.getD i 0)) := by
  obtain ⟨a, cap, h1, h2, h3, _, h5⟩ := h
  obtain ⟨b, off, rfl, hc⟩ := h5 hl
  exact ⟨b, off, cap, h1, h2, h3, hc⟩
theorem Bytes.empty {w : World} {v : Value} (h : Bytes w v []) : ∃ (a : Option Addr) (cap : Nat), v = .slice a 0 cap ∧ cap ≤ 9223372036854775807 := by
  obtain ⟨a, cap, h1, _, h3, _⟩ := h
  exact ⟨a, cap, h1, h3⟩
theorem Bytes.nil (w : World) : Bytes w (.slice none 0 0) [] := ⟨none, 0, rfl, by simp, by simp, fun _ => rfl, by simp⟩
/-- What bytes bear does not turn while old memory stays. -/
theorem Bytes.at {w w' : World} {v : Value} {l : List Int} (h : Bytes w v l) (hb : ∀ p : Addr, p.block < w.heap.size → w'.cell? p = w.cell? p) : Bytes w' v l := by
  obtain ⟨a, cap, h1, h2, h3, h4, h5⟩ := h
  refine ⟨a, cap, h1, h2, h3, h4, fun hl => ?_⟩
  obtain ⟨b, off, rfl, hc⟩ := h5 hl
  exact ⟨b, off, rfl, fun i hi => (hb _ (World.block_lt_of_cell? _ _ (hc i hi))).trans (hc i hi)⟩
theorem Bytes.below {w w' : World} {v : Value} {l : List Int} (h : Bytes w v l) (hb : Below w.heap.size w w') : Bytes w' v l := h.at fun _ hp => hb.cell hp
theorem Bytes.alloc {w : World} {v : Value} {l : List Int} (h : Bytes w v l) (o : Obj) : Bytes (w.alloc o) v l := h.below ((Below.refl _ _).alloc (Nat.le_refl _) o)
theorem Bytes.drew {w : World} {v : Value} {l : List Int} (h : Bytes w v l) : Bytes w.drew v l := h.below (Below.refl _ _).drew
theorem Bytes.take {w : World} {a : Option Addr} {n cap : Nat} {l : List Int} (h : Bytes w (.slice a n cap) l) (k : Nat) (hk : k ≤ n) : Bytes w (.slice a k cap) (l.take k) := by
  obtain ⟨a', cap', h1, h2, h3, h4, h5⟩ := h
  cases h1
  have hl : (l.take k).length = k := by simp; omega
  refine ⟨a, cap, by rw [hl], by omega, h3, h4, fun hp => ?_⟩
  obtain ⟨b, off, e, hc⟩ := h5 (by omega)
  refine ⟨b, off, e, fun i hi => ?_⟩
  have hi' : i < k := by omega
  have e2 : (l.take k).getD i 0 = l.getD i 0 := by simp [List.getD, hi']
  rw [e2]
  exact hc i (by omega)
theorem Bytes.drop {w : World} {a : Option Addr} {n cap : Nat} {l : List Int} (h : Bytes w (.slice a n cap) l) (k : Nat) (hk : k ≤ n) :
    Bytes w (.slice (if cap = k then a else a.map (·.add k)) (n - k) (cap - k)) (l.drop k) := by
  obtain ⟨a', cap', h1, h2, h3, h4, h5⟩ := h
  cases h1
  have hl : (l.drop k).length = l.length - k := by simp
  refine ⟨_, _, by rw [hl], by omega, by omega, fun e => ?_, fun hp => ?_⟩
  · split at e
    · omega
    · cases a with
      | none => have := h4 rfl; omega
      | some a => simp at e
  · obtain ⟨b, off, rfl, hc⟩ := h5 (by omega)
    rw [if_neg (by omega)]
    refine ⟨b, off + k, by simp [Addr.add], fun i hi => ?_⟩
    have e2 : (l.drop k).getD i 0 = l.getD (k + i) 0 := by simp [List.getD, List.getElem?_drop]
    rw [e2, Nat.add_assoc]
    exact hc (k + i) (by omega)
/-- One new box of bytes. -/
theorem Bytes.made (w : World) (cs : Array Value) (l : List Int) (n : Nat) (hl : l.length = n) (hn : n ≤ 1000) (h : cs.toList = l.map (Value.int .u8)) : Bytes (w.alloc (.cells cs 5)) (.slice (some ⟨w.heap.size, 0, none⟩) n n) l := by
  subst hl
  refine ⟨_, _, rfl, Nat.le_refl _, by omega, by simp, fun _ => ⟨_, _, rfl, fun i hi => ?_⟩⟩
  rw [Nat.zero_add, cell_of_row _ _ _ cs 5 (0, 0) (heap_alloc_new w _)]
  have : cs[i]? = cs.toList[i]? := by simp
  rw [this, h]
  simp [List.getD, hi]
theorem Bytes.one (w : World) (z : Int) : Bytes (w.alloc (.cells #[.int .u8 z] 5)) (.slice (some ⟨w.heap.size, 0, none⟩) 1 1) [z] := Bytes.made w _ _ 1 rfl (by omega) rfl

theorem Own.bytes {w : World} {base : Nat} {v : Value} {l : List Int} (h : Own w base v l) : Bytes w v l := by
  obtain ⟨_, h0 | ⟨g, cap, cur, rfl, hb, hg, hn, hm, hs, ht⟩⟩ := id h
  · obtain ⟨rfl, h0⟩ := h0
    obtain rfl : l = [] := List.length_eq_zero_iff.1 h0
    exact Bytes.nil w
  · refine ⟨_, _, rfl, hn, by simpa [maxLen] using hm, by simp, fun _ => ⟨g, 0, rfl, fun i hi => ?_⟩⟩
    have := World.ownsRow.cellAt h i (by omega)
    rw [Nat.zero_add, this]
    simp [List.getD, hi]
theorem Own.nil (w : World) (base : Nat) : Own w base (.slice none 0 0) [] := World.ownsRow_nil _ _ _ _
theorem Own.alloc {w : World} {base : Nat} {v : Value} {l : List Int} (h : Own w base v l) (o : Obj) : Own (w.alloc o) base v l := World.ownsRow.alloc h o
theorem Own.drew {w : World} {base : Nat} {v : Value} {l : List Int} (h : Own w base v l) : Own w.drew base v l := World.ownsRow.drew h
/-- A slice that has just been made of nothing. -/
theorem Own.made (w : World) (base : Nat) (hb : base ≤ w.heap.size) : Own (w.alloc (.cells #[] 5)) base (.slice (some ⟨w.heap.size, 0, none⟩) 0 0) [] :=
  World.ownsRow_made w #[] 0 hb (by simp [maxLen]) (by simp)
theorem Own.made1 (w : World) (base : Nat) (hb : base ≤ w.heap.size) (z : Int) : Own (w.alloc (.cells #[.int .u8 z] 5)) base (.slice (some ⟨w.heap.size, 0, none⟩) 1 1) [z] :=
  World.ownsRow_lit w #[.int .u8 z] 1 hb (by simp [maxLen]) (by simp)

/-- 'append', of bytes onto a row of the call's own. -/
theorem wp_append {w : World} {ops : Array Oper} {rest : List Oper} {o : Oper} {a : Act} {Q : Exit → Act → World → Prop} (hgd : o.guard = none) (s x : Operand)
    (ho : o.op = .call { callee := .builtin .append, args := #[s, x], argTypes := #[37, 37] })
    (base : Nat) (v : Value) (l : List Int) (hs : a.eval s = v) (hown : Own w base v l) (src : Value) (m : List Int) (hx : a.eval x = src) (hsrc : Bytes w src m)
    (hsz : l.length + m.length ≤ 1000000) (hb : base ≤ w.heap.size)
    (h : ∀ v' w', Own w' base v' (l ++ m) → Below base w w' → wpList Tryd.prog ops Q rest (a.put o.dst v') w') : wpList Tryd.prog ops Q (o :: rest) a w := by
  obtain ⟨i0, hi, hz0, hz1, hz2⟩ := info_parts infoB
  obtain ⟨ad, cap, rfl, hcap, hmax, hnone, hcell⟩ := hsrc
  cases ad with
  | none =>
    obtain rfl := hnone rfl
    obtain rfl : m = [] := List.length_eq_zero_iff.1 (by omega)
    refine wpList_append_own_none hgd s x 37 ho base 5 i0 1 Tryd.underlying37 hi v l.length _ hs hown hx ?_
    exact h v w (by rw [List.append_nil]; exact hown) (Below.refl _ _)
  | some ad =>
    refine wpList_append_own w hgd s x 37 ho base 5 i0 (.int .u8 0) 1 1 Tryd.underlying37 hi hz0 hz1 hz2 rfl (by decide) v l.length _ hs hown ad m.length cap (m.map (Value.int .u8)) hx (by simp) ?_ (ints_oneCell _ _) (by unfold maxLen; omega) (by omega) hb ?_
    · intro j u hj
      have hjl : j < m.length := by
        have := (List.getElem?_eq_some_iff.1 hj).1
        simpa using this
      obtain ⟨b, off, e, hc⟩ := hcell (by omega)
      cases e
      have e2 : (⟨b, off, none⟩ : Addr).add j = ⟨b, off + j, none⟩ := by simp [Addr.add]
      rw [e2, hc j hjl, ← hj]
      simp [List.getD, hjl]
    · intro v' w' hown' hgrow _
      refine h v' w' ?_ ((Below.refl base w).grown hgrow hb (fun k hk => (World.ownsRow.lt hown k hk).1))
      unfold Own
      rw [List.map_append, List.length_append]
      exact hown'

end Go.Proofs.YtbeegcpmpgdbnaaDoor

/-
  Strings as lists of numbers. Nothing here speaks of one function.
-/
namespace Go.Proofs.YtbeegcpmpgdbnaaDoor

/-- A string's bytes. -/
def strL (s : ByteArray) : List Int := s.data.toList.map fun b => (b.toNat : Int)
theorem strL_length (s : ByteArray) : (strL s).length = s.size := by
  rw [strL, List.length_map, Array.length_toList]
  rfl
theorem strL_byte (s : ByteArray) : ∀ z ∈ strL s, Byte z := by
  intro z hz
  obtain ⟨b, _, rfl⟩ := List.mem_map.1 hz
  have := b.toNat_lt
  exact ⟨by omega, by omega⟩
theorem str_strL (s : ByteArray) : strOfNums (strL s) = s := by
  obtain ⟨d⟩ := s
  simp [strOfNums, strL, Function.comp_def]
theorem strL_str (l : List Int) (h : ∀ z ∈ l, Byte z) : strL (strOfNums l) = l := by
  unfold strL strOfNums
  simp only [List.map_map]
  conv => rhs; rw [← List.map_id l]
  refine List.map_congr_left fun z hz => ?_
  obtain ⟨h0, h1⟩ := h z hz
  have : z.toNat < 256 := by omega
  simp [Nat.mod_eq_of_lt this]
  omega
theorem strL_at (s : ByteArray) (i : Nat) (h : i < s.size) : ((s[i]'h).toNat : Int) = (strL s).getD i 0 := by
  have h' : i < s.data.size := h
  simp only [strL, List.getD_eq_getElem?_getD, List.getElem?_map, Array.getElem?_toList, Array.getElem?_eq_getElem h', Option.map_some, Option.getD_some]
  rfl
theorem str_beq (a b : ByteArray) : (a.toList == b.toList) = decide (strL a = strL b) := by
  rw [ByteArray.toList_eq, ByteArray.toList_eq]
  by_cases h : a.data.toList = b.data.toList
  · simp [h, strL]
  · have h1 : (a.data.toList == b.data.toList) = false := by simpa using h
    rw [h1]
    symm
    refine decide_eq_false fun e => h ?_
    have e1 := str_strL a
    rw [e, str_strL] at e1
    rw [e1]
theorem strL_inj {a b : ByteArray} (h : strL a = strL b) : a = b := by rw [← str_strL a, h, str_strL]
theorem str_nil : strOfNums [] = ⟨#[]⟩ := rfl

end Go.Proofs.YtbeegcpmpgdbnaaDoor

/-
  Slices of slices of bytes, told ahead. Nothing here speaks of one function.
-/
namespace Go.Proofs.YtbeegcpmpgdbnaaDoor
open Go.RowKit

/-! Slices of slices, told ahead: so that the walk does not part. -/
theorem wp_from {w : World} {ops : Array Oper} {rest : List Oper} {o : Oper} {a : Act} {Q : Exit → Act → World → Prop} (hgd : o.guard = none) (s i : Operand) (ho : o.op = .slice 37 s (some i) none none)
    (v v1 : Value) (x : Value) (hs : a.eval s = v) (hi : a.eval i = x) (hrun : ∀ w, (Instr.slice 37 v (some x) none none).run Tryd.prog w = .ok v1 w)
    (h : wpList Tryd.prog ops Q rest (a.put o.dst v1) w) : wpList Tryd.prog ops Q (o :: rest) a w := by
  have hat : ∀ w, (Instr.sliceAt 37 v (some x) none none).run Tryd.prog w = .ok v1 w := fun w => by
    rw [run_sliceAt_slice _ _ _ _ _ _ (by rw [Tryd.underlying37]; kernel_rfl)]
    exact hrun w
  refine wpList_plain hgd fun K hK => ?_
  unfold Oper.wp
  simp [execOp, ho, hs, hi, hat, Result.andThen, Oper.upon]
  exact hK _ _ h
theorem wp_upto {w : World} {ops : Array Oper} {rest : List Oper} {o : Oper} {a : Act} {Q : Exit → Act → World → Prop} (hgd : o.guard = none) (s i : Operand) (ho : o.op = .slice 37 s none (some i) none)
    (v v1 : Value) (x : Value) (hs : a.eval s = v) (hi : a.eval i = x) (hrun : ∀ w, (Instr.slice 37 v none (some x) none).run Tryd.prog w = .ok v1 w)
    (h : wpList Tryd.prog ops Q rest (a.put o.dst v1) w) : wpList Tryd.prog ops Q (o :: rest) a w := by
  have hat : ∀ w, (Instr.sliceAt 37 v none (some x) none).run Tryd.prog w = .ok v1 w := fun w => by
    rw [run_sliceAt_slice _ _ _ _ _ _ (by rw [Tryd.underlying37]; kernel_rfl)]
    exact hrun w
  refine wpList_plain hgd fun K hK => ?_
  unfold Oper.wp
  simp [execOp, ho, hs, hi, hat, Result.andThen, Oper.upon]
  exact hK _ _ h
theorem tail_of (a : Option Addr) (n cap m : Nat) (k : IntKind) (hm : m ≤ n) :
    ∃ a1 c1, (∀ w, (Instr.slice 37 (.slice a n cap) (some (.int k (m : Int))) none none).run Tryd.prog w = .ok (.slice a1 (n - m) c1) w) ∧ ∀ (w0 : World) (r : List Int), Bytes w0 (.slice a n cap) r → Bytes w0 (.slice a1 (n - m) c1) (r.drop m) := by
  refine ⟨if cap = m then a else a.map (·.add m), cap - m, fun w => ?_, fun w0 r h => h.drop m hm⟩
  rw [run_slice_l w 37 _ n cap (by rw [Tryd.underlying37]; kernel_rfl) k (m : Int) (by omega) (by omega)]
  have e : (sizeOf (Tryd.prog.elem 37)).run Tryd.prog w = .ok 1 w := by kernel_rfl
  rw [e]
  simp [Result.andThen, sliced]
theorem head_of (a : Option Addr) (n cap m : Nat) (k : IntKind) (hm : m ≤ n) (hn : n ≤ cap) :
    ∃ a1, (∀ w, (Instr.slice 37 (.slice a n cap) none (some (.int k (m : Int))) none).run Tryd.prog w = .ok (.slice a1 m cap) w) ∧ ∀ (w0 : World) (r : List Int), Bytes w0 (.slice a n cap) r → Bytes w0 (.slice a1 m cap) (r.take m) := by
  refine ⟨if cap = 0 then a else a.map (·.add 0), fun w => ?_, fun w0 r h => ?_⟩
  · rw [run_slice_h w 37 _ n cap (by rw [Tryd.underlying37]; kernel_rfl) k (m : Int) (by omega) (by omega)]
    have e : (sizeOf (Tryd.prog.elem 37)).run Tryd.prog w = .ok 1 w := by kernel_rfl
    rw [e]
    simp [Result.andThen, sliced]
  · have h1 := (h.drop 0 (Nat.zero_le _)).take m (by omega)
    rw [List.drop_zero, Nat.sub_zero] at h1
    exact h1

end Go.Proofs.YtbeegcpmpgdbnaaDoor

/-
  A slice of bytes with both bounds, told ahead. Nothing here speaks of one function.
-/
namespace Go.Proofs.YtbeegcpmpgdbnaaDoor
open Go.RowKit

theorem wp_mid {w : World} {ops : Array Oper} {rest : List Oper} {o : Oper} {a : Act} {Q : Exit → Act → World → Prop} (hgd : o.guard = none) (s i j : Operand) (ho : o.op = .slice 37 s (some i) (some j) none)
    (v v1 : Value) (x y : Value) (hs : a.eval s = v) (hi : a.eval i = x) (hj : a.eval j = y) (hrun : ∀ w, (Instr.slice 37 v (some x) (some y) none).run Tryd.prog w = .ok v1 w)
    (h : wpList Tryd.prog ops Q rest (a.put o.dst v1) w) : wpList Tryd.prog ops Q (o :: rest) a w := by
  have hat : ∀ w, (Instr.sliceAt 37 v (some x) (some y) none).run Tryd.prog w = .ok v1 w := fun w => by
    rw [run_sliceAt_slice _ _ _ _ _ _ (by rw [Tryd.underlying37]; kernel_rfl)]
    exact hrun w
  refine wpList_plain hgd fun K hK => ?_
  unfold Oper.wp
  simp [execOp, ho, hs, hi, hj, hat, Result.andThen, Oper.upon]
  exact hK _ _ h
theorem cut_of (a : Option Addr) (n cap lo hi : Nat) (hlo : lo ≤ hi) (hhi : hi ≤ n) (hn : n ≤ cap) :
    ∃ a1 c1, (∀ w, (Instr.slice 37 (.slice a n cap) (some (.int .i64 (lo : Int))) (some (.int .i64 (hi : Int))) none).run Tryd.prog w = .ok (.slice a1 (hi - lo) c1) w) ∧ ∀ (w0 : World) (r : List Int), Bytes w0 (.slice a n cap) r → Bytes w0 (.slice a1 (hi - lo) c1) ((r.drop lo).take (hi - lo)) := by
  refine ⟨if cap = lo then a else a.map (·.add lo), cap - lo, fun w => ?_, fun w0 r h => ?_⟩
  · rw [run_slice_lh w 37 _ n cap (by rw [Tryd.underlying37]; kernel_rfl) .i64 .i64 (lo : Int) (hi : Int) (by omega) (by omega) (by omega)]
    have e : (sizeOf (Tryd.prog.elem 37)).run Tryd.prog w = .ok 1 w := by kernel_rfl
    rw [e]
    simp [Result.andThen, sliced]
  · exact (h.drop lo (by omega)).take (hi - lo) (by omega)

end Go.Proofs.YtbeegcpmpgdbnaaDoor

/-
  Lists of pieces: a slice of slices of bytes in memory. Nothing here speaks of one function.
-/
namespace Go.Proofs.YtbeegcpmpgdbnaaDoor
open Go.RowKit

/-- The slice bears parts, each of which bears its bytes. -/
def Parts (w : World) (v : Value) (L : List (List Int)) : Prop :=
  ∃ (a : Option Addr) (cap : Nat), v = .slice a L.length cap ∧ L.length ≤ cap ∧ cap ≤ 9223372036854775807 ∧ (a = none → cap = 0) ∧
    (0 < L.length → ∃ b off : Nat, a = some ⟨b, off, none⟩ ∧ ∀ i, i < L.length → ∃ p, w.cell? ⟨b, off + i, none⟩ = some p ∧ Bytes w p (L.getD i []))
theorem Parts.form {w : World} {v : Value} {L : List (List Int)} (h : Parts w v L) : ∃ (a : Option Addr) (cap : Nat), v = .slice a L.length cap ∧ L.length ≤ cap ∧ cap ≤ 9223372036854775807 := by
  obtain ⟨a, cap, h1, h2, h3, _⟩ := h
  exact ⟨a, cap, h1, h2, h3⟩
theorem Parts.lies {w : World} {v : Value} {L : List (List Int)} (h : Parts w v L) (hl : 0 < L.length) :
    ∃ b off cap : Nat, v = .slice (some ⟨b, off, none⟩) L.length cap ∧ L.length ≤ cap ∧ cap ≤ 9223372036854775807 ∧ ∀ i, i < L.length → ∃ p, w.cell? ⟨b, off + i, none⟩ = some p ∧ Bytes w p (L.getD i []) := by
  obtain ⟨a, cap, h1, h2, h3, _, h5⟩ := h
  obtain ⟨b, off, rfl, hc⟩ := h5 hl
  exact ⟨b, off, cap, h1, h2, h3, hc⟩
theorem Parts.empty {w : World} {v : Value} (h : Parts w v []) : ∃ (a : Option Addr) (cap : Nat), v = .slice a 0 cap ∧ cap ≤ 9223372036854775807 := by
  obtain ⟨a, cap, h1, _, h3, _⟩ := h
  exact ⟨a, cap, h1, h3⟩
theorem Parts.at {w w' : World} {v : Value} {L : List (List Int)} (h : Parts w v L) (hb : ∀ p : Addr, p.block < w.heap.size → w'.cell? p = w.cell? p) : Parts w' v L := by
  obtain ⟨a, cap, h1, h2, h3, h4, h5⟩ := h
  refine ⟨a, cap, h1, h2, h3, h4, fun hl => ?_⟩
  obtain ⟨b, off, rfl, hc⟩ := h5 hl
  refine ⟨b, off, rfl, fun i hi => ?_⟩
  obtain ⟨p, hp, hq⟩ := hc i hi
  exact ⟨p, (hb _ (World.block_lt_of_cell? _ _ hp)).trans hp, hq.at hb⟩
theorem Parts.below {w w' : World} {v : Value} {L : List (List Int)} (h : Parts w v L) (hb : Below w.heap.size w w') : Parts w' v L := h.at fun _ hp => hb.cell hp
theorem Parts.none (w : World) : Parts w (.slice .none 0 0) [] := ⟨.none, 0, rfl, by simp, by simp, fun _ => rfl, by simp⟩
theorem below_on {w a b : World} (h : Below w.heap.size w a) (k : Below a.heap.size a b) : Below w.heap.size w b := h.trans (k.mono h.size)
theorem below_box {w a b : World} {o : Obj} (h : Below w.heap.size w a) (k : Below (a.alloc o).heap.size (a.alloc o) b) : Below w.heap.size w b :=
  below_on (h.alloc h.size o) k
theorem box1 {a b : World} {o : Obj} (k : Below (a.alloc o).heap.size (a.alloc o) b) : Below a.heap.size a b := below_box (Below.refl _ _) k
theorem box2 {a b : World} {o o' : Obj} (k : Below ((a.alloc o).alloc o').heap.size ((a.alloc o).alloc o') b) : Below a.heap.size a b := box1 (box1 k)
/-- A new list of one piece, of two. -/
theorem Parts.one (w : World) (p : Value) (l : List Int) (h : Bytes w p l) : Parts (w.alloc (.cells #[p] 37)) (.slice (some ⟨w.heap.size, 0, .none⟩) 1 1) [l] := by
  refine ⟨_, _, rfl, Nat.le_refl _, by omega, by simp, fun _ => ⟨_, _, rfl, fun i hi => ?_⟩⟩
  obtain rfl : i = 0 := by simp at hi; omega
  exact ⟨p, by rw [cell_of_row _ _ _ _ 37 (0, 0) (heap_alloc_new w _)]; rfl, h.alloc _⟩
theorem Parts.two (w : World) (p q : Value) (l m : List Int) (h : Bytes w p l) (k : Bytes w q m) : Parts (w.alloc (.cells #[p, q] 37)) (.slice (some ⟨w.heap.size, 0, .none⟩) 2 2) [l, m] := by
  refine ⟨_, _, rfl, Nat.le_refl _, by omega, by simp, fun _ => ⟨_, _, rfl, fun i hi => ?_⟩⟩
  rcases (show i = 0 ∨ i = 1 by simp at hi; omega) with rfl | rfl
  · exact ⟨p, by rw [cell_of_row _ _ _ _ 37 (0, 0) (heap_alloc_new w _)]; rfl, h.alloc _⟩
  · exact ⟨q, by rw [cell_of_row _ _ _ _ 37 (0, 0) (heap_alloc_new w _)]; rfl, k.alloc _⟩

end Go.Proofs.YtbeegcpmpgdbnaaDoor

/-
  A row of the call's own stays while old memory stays. Nothing here speaks of one function.
-/
namespace Go.Proofs.YtbeegcpmpgdbnaaDoor
open Go.RowKit

theorem Own.on {w w' : World} {base : Nat} {v : Value} {l : List Int} (h : Own w base v l) (hb : Below w.heap.size w w') : Own w' base v l := by
  refine ⟨h.1, ?_⟩
  rcases h.2 with h0 | ⟨g, cap, cur, e, hbg, hg, rest⟩
  · exact .inl h0
  · exact .inr ⟨g, cap, cur, e, hbg, (hb.block g (Array.getElem?_eq_some_iff.1 hg).1).trans hg, rest⟩

end Go.Proofs.YtbeegcpmpgdbnaaDoor

/-
  'append' of a string's bytes at a walk's operation. Nothing here speaks of one function.
-/
namespace Go.Proofs.YtbeegcpmpgdbnaaDoor
open Go.RowKit

/-- 'append', of a string onto a row of the call's own. -/
theorem wp_append_str {w : World} {ops : Array Oper} {rest : List Oper} {o : Oper} {a : Act} {Q : Exit → Act → World → Prop} (hgd : o.guard = none) (s x : Operand)
    (ho : o.op = .call { callee := .builtin .append, args := #[s, x], argTypes := #[37, 9] })
    (base : Nat) (v : Value) (l : List Int) (hs : a.eval s = v) (hown : Own w base v l) (t : ByteArray) (hx : a.eval x = .string t)
    (hsz : l.length + t.size ≤ 1000000) (hb : base ≤ w.heap.size)
    (h : ∀ v' w', Own w' base v' (l ++ strL t) → Below base w w' → wpList Tryd.prog ops Q rest (a.put o.dst v') w') : wpList Tryd.prog ops Q (o :: rest) a w := by
  obtain ⟨i0, hi, hz0, hz1, hz2⟩ := info_parts infoB
  refine Lib.wpList_append_own_string w hgd s x 37 9 ho base 5 i0 Tryd.underlying37 Tryd.underlying9 hi hz0 hz1 hz2 v l.length _ hs hown t hx (by unfold maxLen; omega) (by omega) hb ?_
  intro v' w' hown' hgrow _
  refine h v' w' ?_ ((Below.refl base w).grown hgrow hb (fun k hk => (World.ownsRow.lt hown k hk).1))
  have e : Lib.strCells t = (strL t).map (Value.int .u8) := by simp [Lib.strCells, strL]
  unfold Own
  rw [List.map_append, List.length_append, strL_length, ← e]
  exact hown'

end Go.Proofs.YtbeegcpmpgdbnaaDoor
