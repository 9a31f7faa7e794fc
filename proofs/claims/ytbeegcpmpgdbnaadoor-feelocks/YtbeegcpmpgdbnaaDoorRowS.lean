/-
  Rows of structs in memory. Nothing here speaks of one function.
-/
import Derived.Test.YtbeegcpmpgdbnaaDoorTxP
import Derived.Test.YtbeegcpmpgdbnaaDoorKeeps
import Derived.Test.YtbeegcpmpgdbnaaDoorKit
import Derived.Test.YtbeegcpmpgdbnaaDoorKitA
namespace Go.Proofs.YtbeegcpmpgdbnaaDoor
open Go.RowKit

/-- The slice bears the elements, each a row of s cells. -/
def RowAt (w : World) (s : Nat) (v : Value) (C : List (List Value)) : Prop :=
  ∃ (a : Option Addr) (cap : Nat), v = .slice a C.length cap ∧ C.length ≤ cap ∧ cap ≤ 9223372036854775807 ∧ (a = none → cap = 0) ∧
    (0 < C.length → ∃ b off : Nat, a = some ⟨b, off, none⟩ ∧ ∀ i c, C[i]? = some c → w.rangeAt b (off + i * s) c)
theorem RowAt.nil (w : World) (s : Nat) : RowAt w s (.slice none 0 0) [] := ⟨none, 0, rfl, by simp, by simp, fun _ => rfl, by simp⟩
theorem RowAt.form {w : World} {s : Nat} {v : Value} {C : List (List Value)} (h : RowAt w s v C) : ∃ a cap, v = .slice a C.length cap ∧ C.length ≤ cap ∧ cap ≤ 9223372036854775807 := by
  obtain ⟨a, cap, h1, h2, h3, -⟩ := h
  exact ⟨a, cap, h1, h2, h3⟩
theorem RowAt.keeps {P : Nat → Prop} {w : World} {s : Nat} {v : Value} {C : List (List Value)} (h : RowAt w s v C) (hP : ∀ k, v.ownBlock = some k → P k) : Keeps P w fun w => RowAt w s v C := by
  intro w' hw
  obtain ⟨a, cap, h1, h2, h3, h4, h5⟩ := h
  refine ⟨a, cap, h1, h2, h3, h4, fun hl => ?_⟩
  obtain ⟨b, off, rfl, hc⟩ := h5 hl
  refine ⟨b, off, rfl, fun i c hi j u hu => ?_⟩
  have hcell := hc i c hi j u hu
  exact (World.cell?_of_block (w := w) (a := ⟨b, off + i * s + j, none⟩) (hw b (World.block_lt_of_cell? _ _ hcell) (hP b (by rw [h1]; rfl)))).trans hcell
theorem RowAt.keeps2 {P : Nat → Prop} {w : World} {s : Nat} {v : Value} {C : List (List Value)} (h : RowAt w s v C) (hP : 0 < C.length → ∀ k, v.ownBlock = some k → P k) : Keeps P w fun w => RowAt w s v C := by
  intro w' hw
  obtain ⟨a, cap, h1, h2, h3, h4, h5⟩ := h
  refine ⟨a, cap, h1, h2, h3, h4, fun hl => ?_⟩
  obtain ⟨b, off, rfl, hc⟩ := h5 hl
  refine ⟨b, off, rfl, fun i c hi j u hu => ?_⟩
  have hcell := hc i c hi j u hu
  exact (World.cell?_of_block (w := w) (a := ⟨b, off + i * s + j, none⟩) (hw b (World.block_lt_of_cell? _ _ hcell) (hP hl b (by rw [h1]; rfl)))).trans hcell
theorem RowAt.on {w w' : World} {s : Nat} {v : Value} {C : List (List Value)} (h : RowAt w s v C) (hb : Below w.heap.size w w') : RowAt w' s v C :=
  h.keeps (P := fun _ => True) (fun _ _ => trivial) w' fun g hg _ => hb.block g hg
/-- A row of the call's own. -/
def RowOwn (w : World) (base : Nat) (ty : TypeId) (s : Nat) (v : Value) (C : List (List Value)) : Prop := w.ownsRow base ty s v C.length C.flatten ∧ ∀ c ∈ C, c.length = s ∧ ∀ u ∈ c, u.oneCell' = true
theorem RowOwn.nil (w : World) (base : Nat) (ty : TypeId) (s : Nat) : RowOwn w base ty s (.slice none 0 0) [] := ⟨World.ownsRow_nil _ _ _ _, fun _ h => by cases h⟩
theorem flat_get (s : Nat) : ∀ (C : List (List Value)), (∀ c ∈ C, c.length = s) → ∀ i c, C[i]? = some c → ∀ j v, c[j]? = some v → C.flatten[i * s + j]? = some v
  | [], _, _, _, h, _, _, _ => by simp at h
  | x :: C, hs, 0, c, h, j, v, hv => by
    simp only [List.getElem?_cons_zero, Option.some.injEq] at h
    subst h
    rw [List.flatten_cons, Nat.zero_mul, Nat.zero_add, List.getElem?_append_left (List.getElem?_eq_some_iff.1 hv).1]
    exact hv
  | x :: C, hs, i + 1, c, h, j, v, hv => by
    have hx := hs x (by simp)
    have := flat_get s C (fun c hc => hs c (by simp [hc])) i c (by simpa using h) j v hv
    rw [List.flatten_cons, List.getElem?_append_right (by rw [hx, Nat.add_mul]; omega), hx, show (i + 1) * s + j - s = i * s + j by rw [Nat.add_mul]; omega]
    exact this
theorem flat_split (s : Nat) (hs0 : 0 < s) : ∀ (C : List (List Value)), (∀ c ∈ C, c.length = s) → ∀ k v, C.flatten[k]? = some v → ∃ i c j, C[i]? = some c ∧ c[j]? = some v ∧ k = i * s + j
  | [], _, _, _, h => by simp at h
  | x :: C, hs, k, v, h => by
    have hx := hs x (by simp)
    rw [List.flatten_cons] at h
    by_cases hk : k < s
    · rw [List.getElem?_append_left (by omega)] at h
      exact ⟨0, x, k, rfl, h, by simp⟩
    · rw [List.getElem?_append_right (by omega), hx] at h
      obtain ⟨i, c, j, h1, h2, h3⟩ := flat_split s hs0 C (fun c hc => hs c (by simp [hc])) _ v h
      exact ⟨i + 1, c, j, by simpa using h1, h2, by rw [Nat.add_mul]; omega⟩
theorem RowOwn.row {w : World} {base : Nat} {ty : TypeId} {s : Nat} {v : Value} {C : List (List Value)} (h : RowOwn w base ty s v C) : RowAt w s v C := by
  obtain ⟨hr, hs⟩ := h
  rcases id hr.2 with ⟨rfl, h0⟩ | ⟨g, cap, cur, rfl, hb, hg, hn, hm, hcs, ht⟩
  · obtain rfl : C = [] := List.length_eq_zero_iff.1 h0
    exact RowAt.nil w s
  · refine ⟨_, cap, rfl, hn, by simpa [maxLen] using hm, by simp, fun _ => ⟨g, 0, rfl, fun i c hi j u hu => ?_⟩⟩
    have hf := flat_get s C (fun c hc => (hs c hc).1) i c hi j u hu
    rw [show 0 + i * s + j = i * s + j by omega, World.ownsRow.cellAt hr (i * s + j) (by have := (List.getElem?_eq_some_iff.1 hf).1; rw [hr.1] at this; exact this)]
    exact hf
theorem RowOwn.lt {w : World} {base : Nat} {ty : TypeId} {s : Nat} {v : Value} {C : List (List Value)} (h : RowOwn w base ty s v C) : ∀ k, v.ownBlock = some k → base ≤ k ∧ k < w.heap.size := World.ownsRow.lt h.1
theorem RowOwn.move {w w1 : World} {base : Nat} {ty : TypeId} {s : Nat} {v : Value} {C : List (List Value)} (h : RowOwn w base ty s v C) (hb : ∀ g, base ≤ g → g < w.heap.size → w1.heap[g]? = w.heap[g]?) : RowOwn w1 base ty s v C := by
  refine ⟨⟨h.1.1, ?_⟩, h.2⟩
  rcases h.1.2 with h0 | ⟨g, cap, cur, e, hbg, hg, rest⟩
  · exact .inl h0
  · exact .inr ⟨g, cap, cur, e, hbg, (hb g hbg (Array.getElem?_eq_some_iff.1 hg).1).trans hg, rest⟩
/-- 'append', of elements onto a row of the call's own. -/
theorem wp_append_row {w : World} {ops : Array Oper} {rest : List Oper} {o : Oper} {a : Act} {Q : Exit → Act → World → Prop} (hgd : o.guard = none) (s x : Operand) (t ty : TypeId)
    (ho : o.op = .call { callee := .builtin .append, args := #[s, x], argTypes := #[t, t] }) (z : Value) (size bytes : Nat) (ht : Tryd.prog.underlying t = some (.slice ty))
    (hinfo : (Tryd.prog.info? ty).map (fun i => (i.zero, i.size, i.bytes)) = some (some z, size, bytes)) (hzs : z.cells.size = size) (hsz : 0 < size) (hby : bytes ≤ 1000)
    (base : Nat) (v : Value) (C : List (List Value)) (hs : a.eval s = v) (hown : RowOwn w base ty size v C) (u : Value) (E : List (List Value)) (hx : a.eval x = u) (hu : RowAt w size u E) (hE : ∀ c ∈ E, c.length = size ∧ ∀ y ∈ c, y.oneCell' = true)
    (hlen : C.length + E.length ≤ 100000) (hb : base ≤ w.heap.size)
    (h : ∀ v' w', RowOwn w' base ty size v' (C ++ E) → w.grownBy w' v.ownBlock → (v'.ownBlock = v.ownBlock ∨ ∀ k, v'.ownBlock = some k → w.heap.size ≤ k) → wpList Tryd.prog ops Q rest (a.put o.dst v') w') : wpList Tryd.prog ops Q (o :: rest) a w := by
  obtain ⟨i0, hi, hz0, hz1, hz2⟩ := info_parts hinfo
  obtain ⟨ad, cap, rfl, hcap, hmax, hnone, hcell⟩ := hu
  have hall : ∀ c ∈ C ++ E, c.length = size ∧ ∀ y ∈ c, y.oneCell' = true := fun c hc => by
    rcases List.mem_append.1 hc with q | q
    · exact hown.2 c q
    · exact hE c q
  cases ad with
  | none =>
    obtain rfl := hnone rfl
    obtain rfl : E = [] := List.length_eq_zero_iff.1 (by omega)
    refine wpList_append_own_none hgd s x t ho base ty i0 size ht hi v C.length _ hs hown.1 hx ?_
    exact h v w (by rw [List.append_nil]; exact hown) ⟨rfl, rfl, rfl, Nat.le_refl _, fun _ _ _ => rfl⟩ (Or.inl rfl)
  | some ad =>
    have hlE : E.flatten.length = E.length * size := by
      clear hcell hx hcap hnone hlen hall h
      induction E with
      | nil => simp
      | cons c E ih =>
        rw [List.flatten_cons, List.length_append, ih (fun c hc => hE c (by simp [hc])), (hE c (by simp)).1, List.length_cons, Nat.add_mul]
        omega
    have hbyt : (C.length + E.length) * bytes ≤ 140737488355328 := by
      have := Nat.mul_le_mul hlen hby
      omega
    refine wp_append_where hgd s x t ho base ty i0 z size bytes ht hi hz0 hz1 hz2 hzs hsz v C.length C.flatten hs hown.1 ad E.length cap E.flatten hx hlE ?_ ?_ (by unfold maxLen; omega) hbyt hb ?_
    · intro j y hj
      obtain ⟨i, c, k, h1, h2, rfl⟩ := flat_split size hsz E (fun c hc => (hE c hc).1) j y hj
      obtain ⟨b, off, e, hc⟩ := hcell (by have := (List.getElem?_eq_some_iff.1 h1).1; omega)
      cases e
      have := hc i c h1 k y h2
      rw [Addr.add_mid, ← Nat.add_assoc]
      exact this
    · intro y hy
      obtain ⟨c, hc, hyc⟩ := List.mem_flatten.1 hy
      exact (hE c hc).2 y hyc
    · intro v' w' hown' hgrow hw
      refine h v' w' ⟨?_, hall⟩ hgrow hw
      rw [List.length_append, List.flatten_append]
      exact hown'

def outC (x : TOut) : List Value := .int .u64 x.val :: vals .u8 x.lock
theorem outC_length {x : TOut} (h : x.lock.length = 32) : (outC x).length = 33 := by simp [outC, vals, h]
theorem vals_cell (k : IntKind) (zs : List Int) : ∀ u ∈ vals k zs, u.oneCell' = true := by
  intro u hu
  simp only [vals, List.mem_map] at hu
  obtain ⟨z, _, rfl⟩ := hu
  rfl
theorem outC_one (x : TOut) : ∀ u ∈ outC x, u.oneCell' = true := by
  intro u hu
  rcases List.mem_cons.1 hu with rfl | q
  · rfl
  · exact vals_cell _ _ u q
theorem infoOut : (Tryd.prog.info? 60).map (fun i => (i.zero, i.size, i.bytes)) = some (some (.agg #[.int .u64 0, .int .u8 0, .int .u8 0, .int .u8 0, .int .u8 0, .int .u8 0, .int .u8 0, .int .u8 0, .int .u8 0, .int .u8 0, .int .u8 0, .int .u8 0, .int .u8 0, .int .u8 0, .int .u8 0, .int .u8 0, .int .u8 0, .int .u8 0, .int .u8 0, .int .u8 0, .int .u8 0, .int .u8 0, .int .u8 0, .int .u8 0, .int .u8 0, .int .u8 0, .int .u8 0, .int .u8 0, .int .u8 0, .int .u8 0, .int .u8 0, .int .u8 0, .int .u8 0]), 33, 40) := by kernel_rfl
theorem info_out : (Tryd.prog.info? 60).map (·.size) = some 33 := by kernel_rfl
theorem info_hash : (Tryd.prog.info? 34).map (·.size) = some 32 := by kernel_rfl

theorem range_left {w : World} {b o : Nat} {c d : List Value} (h : w.rangeAt b o (c ++ d)) : w.rangeAt b o c := fun j v hv => h j v (by rw [List.getElem?_append_left (List.getElem?_eq_some_iff.1 hv).1]; exact hv)
theorem range_right {w : World} {b o : Nat} {c d : List Value} (h : w.rangeAt b o (c ++ d)) : w.rangeAt b (o + c.length) d := fun j v hv => by
  have := h (c.length + j) v (by rw [List.getElem?_append_right (by omega), show c.length + j - c.length = j by omega]; exact hv)
  rwa [← Nat.add_assoc] at this
theorem block_apart (w : World) (b o : Nat) (vs : List Value) {g : Nat} (h : g ≠ b) : (w.setCells b o vs).heap[g]? = w.heap[g]? := by
  induction vs generalizing o w with
  | nil => rfl
  | cons v vs ih => rw [World.setCells, ih]; exact Below.heap_setCell _ _ _ _ h
theorem there_apart {w : World} {g o n b : Nat} (h : w.there g o n) (hne : g ≠ b) (p : Nat) (vs : List Value) : (w.setCells b p vs).there g o n := fun j hj => by
  have hb := block_apart w b p vs hne
  rw [World.cell?_of_block (w := w) (a := ⟨g, o + j, none⟩) hb, World.frozen?_of_block (w := w) (a := ⟨g, o + j, none⟩) hb]
  exact h j hj
theorem range_apart {w : World} {g o b : Nat} {cs : List Value} (h : w.rangeAt g o cs) (hne : g ≠ b) (p : Nat) (vs : List Value) : (w.setCells b p vs).rangeAt g o cs := fun j v hv => by
  rw [World.cell?_of_block (w := w) (a := ⟨g, o + j, none⟩) (block_apart w b p vs hne)]
  exact h j v hv
theorem below_new (w : World) (o : Obj) : Below w.heap.size w (w.alloc o) := (Below.refl _ _).alloc (Nat.le_refl _) _
theorem RowOwn.low {w : World} {base base' : Nat} {ty : TypeId} {s : Nat} {v : Value} {C : List (List Value)} (h : RowOwn w base ty s v C) (hb : base' ≤ base) : RowOwn w base' ty s v C := by
  refine ⟨⟨h.1.1, ?_⟩, h.2⟩
  rcases h.1.2 with h0 | ⟨g, cap, cur, e, hbg, hg, rest⟩
  · exact .inl h0
  · exact .inr ⟨g, cap, cur, e, Nat.le_trans hb hbg, hg, rest⟩
theorem RowAt.get {w : World} {s : Nat} {a : Option Addr} {n cap : Nat} {C : List (List Value)} (h : RowAt w s (.slice a n cap) C) {k : Nat} {c : List Value} (hk : C[k]? = some c) :
    ∃ b off, a = some ⟨b, off, none⟩ ∧ w.rangeAt b (off + k * s) c := by
  obtain ⟨a', cap', e, -, -, -, h5⟩ := h
  simp only [Value.slice.injEq] at e
  obtain ⟨rfl, -, -⟩ := e
  obtain ⟨b, off, rfl, hc⟩ := h5 (by have := (List.getElem?_eq_some_iff.1 hk).1; omega)
  exact ⟨b, off, rfl, hc k c hk⟩


end Go.Proofs.YtbeegcpmpgdbnaaDoor
