import Derived.Test.YtbeegcpmpgdbnaaDoorCalA
import Derived.Test.YtbeegcpmpgdbnaaDoorRowS
import Derived.Shelf.SlSortCmp.Insertion1
import Derived.Shelf.SlicesQ.Load
import Derived.Deep.Cut
import Derived.Test.YtbeegcpmpgdbnaaDoorStabX
import Derived.Test.YtbeegcpmpgdbnaaDoorStabS
/-
  Weights; what fee.weighed, compare and Less answer at this program, whatever the weights.
-/
namespace Go.Proofs.YtbeegcpmpgdbnaaDoor
open Go.RowKit Go.Sort

structure Wt where
  fee : Int
  size : Int
instance : Inhabited Wt := ⟨⟨0, 0⟩⟩
def WtOk (x : Wt) : Prop := Word x.fee ∧ -9223372036854775808 ≤ x.size ∧ x.size < 9223372036854775808
def wtC (x : Wt) : List Value := [.int .u64 x.fee, .int .i64 x.size]
/-- The size that counts. -/
def wsz (x : Wt) : Int := max x.size 1
theorem wsz_word {x : Wt} (h : WtOk x) : Word (wsz x) := by
  obtain ⟨-, h1, h2⟩ := h
  unfold wsz Word
  omega
/-- How two weights compare. -/
def cmpW (x y : Wt) : Int := cmpI (x.fee * wsz y) (y.fee * wsz x)

theorem weighed_any (x : Wt) (h : WtOk x) (w : World) : Calls Tryd.prog 55 #[.agg #[.int .u64 x.fee, .int .i64 x.size]] w fun e w' => e = .returned (.int .u64 (wsz x)) ∧ ∃ q os, w' = grow (w.drewN q) os := by
  have hw := wsz_word h
  have e1 : IntKind.u64.wrap (wsz x) = wsz x := by
    unfold Word at hw
    rw [IntKind.wrap_u64]
    omega
  have e0 : max x.size 1 = wsz x := rfl
  generalize wsz x = r at *
  obtain ⟨f, s⟩ := x
  simp only at *
  clear h hw
  go_enter Tryd.func55, Tryd.ntmps55
  go_wp2
  go_ret
  exact ⟨rfl, 0, _, alloc_eq_grow _ _⟩

theorem load_wt {w : World} {b o : Nat} {x : Wt} (h : w.rangeAt b o (wtC x)) : Sem.run Tryd.prog (loadCellsFrom ⟨b, o, none⟩ 0 2 #[]) w = .ok #[.int .u64 x.fee, .int .i64 x.size] w := by
  have := run_loadCellsFrom_list Tryd.prog w ⟨b, o, none⟩ (wtC x) 2 rfl (fun j v hj => by
    rw [Addr.add_mid]
    exact h j v hj)
  simpa [wtC] using this
theorem range_grown {w : World} {b o : Nat} {c : List Value} (h : w.rangeAt b o c) (n : Nat) (os : Array Obj) : (grow (w.drewN n) os).rangeAt b o c := fun j v hj => by
  have hc := h j v hj
  exact cell_grown (World.block_lt_of_cell? _ _ hc) hc n os

set_option maxRecDepth 100000 in
set_option maxHeartbeats 1000000 in
theorem feecmp_any (x y : Wt) (hx : WtOk x) (hy : WtOk y) (w : World) :
    Calls Tryd.prog 37 #[.agg #[.int .u64 x.fee, .int .i64 x.size], .agg #[.int .u64 y.fee, .int .i64 y.size]] w fun e w' => e = .returned (.int .i64 (cmpW x y)) ∧ ∃ q os, w' = grow (w.drewN q) os := by
  have mixed : Tryd.prog.follows .mixedOrders = true := by kernel_rfl
  have aE := Tryd.isAgg53
  have zE := Tryd.sizeOf53
  have hb2 := below_new (w.alloc (.cells (wtC x).toArray 53)) (.cells (wtC y).toArray 53)
  have hrx := range_on (range_new w (wtC x) 53) hb2
  have hry := range_new (w.alloc (.cells (wtC x).toArray 53)) (wtC y) 53
  rw [alloc_size] at hry
  have HW : Hid (∀ n os', ∃ q os, grow (((w.alloc (.cells #[.int .u64 x.fee, .int .i64 x.size] 53)).alloc (.cells #[.int .u64 y.fee, .int .i64 y.size] 53)).drewN n) os' = grow (w.drewN q) os) := hide (fun n os' => ⟨n, _, by
    rw [alloc_eq_grow, alloc_eq_grow, grow_grow]
    show grow (grow (w.drewN n) _) os' = _
    rw [grow_grow]⟩)
  have CX := hide (fun w => weighed_any x hx w)
  have CY := hide (fun w => weighed_any y hy w)
  have CM := hide (fun w => cmp_any x.fee (wsz y) y.fee (wsz x) hx.1 (wsz_word hy) hy.1 (wsz_word hx) w)
  have CM' : Hid (cmpI (x.fee * wsz y) (y.fee * wsz x) = cmpW x y) := hide rfl
  rw [CM'.out] at CM
  change World.rangeAt (((w.alloc (.cells #[.int .u64 x.fee, .int .i64 x.size] 53)).alloc (.cells #[.int .u64 y.fee, .int .i64 y.size] 53))) _ _ _ at hrx hry
  clear hb2 hx hy CM'
  generalize hgx : wsz x = sx at *
  generalize hgy : wsz y = sy at *
  generalize cmpW x y = r at *
  clear hgx hgy
  go_enter Tryd.func37, Tryd.ntmps37
  go_upto_region 1 with fail
  generalize (w.alloc (.cells #[.int .u64 x.fee, .int .i64 x.size] 53)).alloc (.cells #[.int .u64 y.fee, .int .i64 y.size] 53) = W at *
  generalize hg : w.heap.size = g at *
  clear hg
  have lx := fun n os => load_wt (range_grown hrx n os)
  have ly := fun n os => load_wt (range_grown hry n os)
  have fx := fun n os => range_grown hrx n os 0 _ rfl
  have fy := fun n os => range_grown hry n os 0 _ rfl
  have fx1 := fun n os => range_grown hrx n os 1 _ rfl
  have fy1 := fun n os => range_grown hry n os 1 _ rfl
  simp only [Nat.zero_add, Nat.add_zero] at fx fy fx1 fy1
  clear hrx hry
  go_quiet_grown (first
    | (go_at_call 55; first | (refine Calls.grown_of (CX.out _)) | (refine Calls.grown_of (CY.out _)))
    | (go_at_call 54; refine Calls.grown_of ((CM.out _).mono fun _ _ h => ⟨h.1, 0, #[], by rw [h.2, grow_empty]; rfl⟩)))
  go_wp2
  go_ret
  exact ⟨rfl, HW.out _ _⟩

end Go.Proofs.YtbeegcpmpgdbnaaDoor

/-
  Plain lists: the order of weights, the places of an order, the worst. No word of the program's memory.
-/
namespace Go.Proofs.YtbeegcpmpgdbnaaDoor
open Go.Sort

/-- Is x less than y? -/
def lessW (x y : Wt) : Bool := decide (cmpW x y < 0)
theorem wsz_pos (x : Wt) : 0 < wsz x := by unfold wsz; omega
theorem lessW_iff {x y : Wt} : lessW x y = true ↔ x.fee * wsz y < y.fee * wsz x := by
  unfold lessW cmpW
  rw [decide_eq_true_iff]
  have := cmpI_cases (x.fee * wsz y) (y.fee * wsz x)
  omega
theorem lessW_not {x y : Wt} : lessW x y = false ↔ y.fee * wsz x ≤ x.fee * wsz y := by
  have := lessW_iff (x := x) (y := y)
  cases h : lessW x y <;> simp [h] at this ⊢ <;> omega
theorem lessW_self (x : Wt) : lessW x x = false := lessW_not.2 (Int.le_refl _)
theorem cross_le {a b c p q r : Int} (hp : 0 < p) (hq : 0 < q) (hr : 0 < r) (h1 : b * p ≤ a * q) (h2 : c * q ≤ b * r) : c * p ≤ a * r := by
  have e1 : c * q * p ≤ b * r * p := Int.mul_le_mul_of_nonneg_right h2 (Int.le_of_lt hp)
  have e2 : b * p * r ≤ a * q * r := Int.mul_le_mul_of_nonneg_right h1 (Int.le_of_lt hr)
  have e3 : c * p * q ≤ a * r * q := by
    rw [Int.mul_right_comm c p q, Int.mul_right_comm a r q]
    rw [Int.mul_right_comm b r p] at e1
    exact Int.le_trans e1 e2
  exact Int.le_of_mul_le_mul_right e3 hq
theorem cross_lt {a b c p q r : Int} (hp : 0 < p) (hq : 0 < q) (hr : 0 < r) (h1 : a * q < b * p) (h2 : b * r < c * q) : a * r < c * p := by
  refine Int.lt_of_not_ge fun h => ?_
  have := cross_le (a := a) (b := c) (c := b) (p := p) (q := r) (r := q) hp hr hq h (Int.le_of_lt h2)
  omega
theorem lessW_trans {x y z : Wt} (h1 : lessW x y = true) (h2 : lessW y z = true) : lessW x z = true := by
  rw [lessW_iff] at *
  exact cross_lt (wsz_pos x) (wsz_pos y) (wsz_pos z) h1 h2
theorem lessW_ntrans {x y z : Wt} (h1 : lessW x y = false) (h2 : lessW y z = false) : lessW x z = false := by
  rw [lessW_not] at *
  exact cross_le (wsz_pos x) (wsz_pos y) (wsz_pos z) h1 h2
theorem lessW_one {x y : Wt} (h : lessW x y = true) : lessW y x = false := by
  rw [lessW_iff] at h
  rw [lessW_not]
  omega

/-- Does place x come before place y? -/
def before (L : List Wt) (x y : Nat) : Prop := lessW (L.getD y default) (L.getD x default) = true ∨ (lessW (L.getD x default) (L.getD y default) = false ∧ x < y)
/-- An order of the list's places. -/
def Ordd (L : List Wt) (P : List Nat) : Prop := P.length = L.length ∧ (∀ x ∈ P, x < L.length) ∧ P.Pairwise (before L)
theorem before_not {L : List Wt} {x y : Nat} (h : before L x y) (h' : before L y x) : False := by
  rcases h with h | ⟨h, p⟩ <;> rcases h' with h' | ⟨h', p'⟩
  · rw [lessW_one h] at h'
    cases h'
  · rw [h] at h'
    cases h'
  · rw [h] at h'
    cases h'
  · omega
theorem Ordd.nodup {L : List Wt} {P : List Nat} (h : Ordd L P) : P.Nodup := h.2.2.imp fun {a b} hb e => by
  subst e
  exact before_not hb hb
theorem few_below : ∀ (n : Nat) (P : List Nat), P.Nodup → (∀ x ∈ P, x < n) → P.length ≤ n
  | 0, [], _, _ => Nat.le_refl _
  | 0, x :: _, _, h => absurd (h x (by simp)) (Nat.not_lt_zero _)
  | n + 1, P, hN, h => by
    have ih := few_below n (P.erase n) (hN.erase n) (fun x hx => by
      have h1 := h x (List.mem_of_mem_erase hx)
      have h2 : x ≠ n := ((hN.mem_erase_iff).1 hx).1
      omega)
    have := List.length_erase (a := n) (l := P)
    split at this <;> omega
/-- As many places as there are, all different and all there: all places. -/
theorem all_places : ∀ {n : Nat} {P : List Nat}, P.length = n → (∀ x ∈ P, x < n) → P.Nodup → P.Perm (List.range n)
  | 0, P, hl, _, _ => by
    obtain rfl : P = [] := List.length_eq_zero_iff.1 hl
    exact .refl _
  | n + 1, P, hl, hm, hN => by
    have hin : n ∈ P := by
      apply Classical.byContradiction
      intro hn
      have := few_below n P hN (fun x hx => by
        have h1 := hm x hx
        have h2 : x ≠ n := fun e => hn (e ▸ hx)
        omega)
      omega
    have ih := all_places (n := n) (P := P.erase n) (by rw [List.length_erase_of_mem hin]; omega) (fun x hx => by
      have h1 := hm x (List.mem_of_mem_erase hx)
      have h2 : x ≠ n := ((hN.mem_erase_iff).1 hx).1
      omega) (hN.erase n)
    rw [List.range_succ]
    exact (List.perm_cons_erase hin).trans ((ih.cons n).trans (List.perm_append_comm (l₁ := [n])))
theorem ordd_unique {L : List Wt} {P Q : List Nat} (h : Ordd L P) (h' : Ordd L Q) : P = Q :=
  List.Perm.eq_of_pairwise (fun _ _ _ _ h1 h2 => (before_not h1 h2).elim) h.2.2 h'.2.2 ((all_places h.1 h.2.1 h.nodup).trans (all_places h'.1 h'.2.1 h'.nodup).symm)

end Go.Proofs.YtbeegcpmpgdbnaaDoor

/-
  What fee.Less and the comparison within fee.Order answer at this program; a row of places, sorted by it.
-/
namespace Go.Proofs.YtbeegcpmpgdbnaaDoor
open Go.RowKit Go.Shelf Go.Lib Go.Sort

set_option maxRecDepth 100000 in
set_option maxHeartbeats 1000000 in
theorem less_any (x y : Wt) (hx : WtOk x) (hy : WtOk y) (w : World) :
    Calls Tryd.prog 22 #[.agg #[.int .u64 x.fee, .int .i64 x.size], .agg #[.int .u64 y.fee, .int .i64 y.size]] w fun e w' => e = .returned (.bool (lessW x y)) ∧ ∃ q os, w' = grow (w.drewN q) os := by
  have C := hide (fun w => feecmp_any x y hx hy w)
  have HL : Hid (decide (cmpW x y < 0) = lessW x y) := hide rfl
  have HW : Hid (∀ n os', ∃ q os, grow (((w.alloc (.cells #[.int .u64 x.fee, .int .i64 x.size] 53)).alloc (.cells #[.int .u64 y.fee, .int .i64 y.size] 53)).drewN n) os' = grow (w.drewN q) os) := hide (fun n os' => ⟨n, _, by
    rw [alloc_eq_grow, alloc_eq_grow, grow_grow]
    show grow (grow (w.drewN n) _) os' = _
    rw [grow_grow]⟩)
  clear hx hy
  generalize cmpW x y = r at *
  generalize lessW x y = l at *
  go_enter Tryd.func22, Tryd.ntmps22
  go_wp2_with fail
  refine (C.out _).mono ?_
  rintro e w' ⟨rfl, q, os, rfl⟩
  have hw := HW.out q os
  have H := hide hw
  have hl := HL.out
  clear hw C HW
  go_wp2
  go_ret
  exact ⟨by first | rfl | (rw [← HL.out]), H.out⟩

/-- The places' comparison. -/
def cfW (L : List Wt) (m : Nat) (i j : Fin (m + 1)) : Int := cmpW (L.getD j.val default) (L.getD i.val default)
theorem ltOf_cfW (L : List Wt) (m : Nat) (i j : Fin (m + 1)) : ltOf (cfW L m) i j = lessW (L.getD j.val default) (L.getD i.val default) := rfl
theorem cfW_swo (L : List Wt) (m : Nat) : SWO (ltOf (cfW L m)) where
  irrefl x := lessW_self _
  trans x y z h1 h2 := by
    rw [ltOf_cfW] at *
    exact lessW_trans h2 h1
  ntrans x y z h1 h2 := by
    rw [ltOf_cfW] at *
    exact lessW_ntrans h2 h1
def encP (m : Nat) (i : Fin (m + 1)) : Value := .int .i64 (i.val : Int)

set_option maxRecDepth 100000 in
set_option maxHeartbeats 1000000 in
theorem closure_any (L : List Wt) (hok : ∀ x ∈ L, WtOk x) (W : World) (B : Nat) (a : Option Addr) (cap : Nat) (hB : W.cell? ⟨B, 0, none⟩ = some (.slice a L.length cap)) (hL : RowAt W 2 (.slice a L.length cap) (L.map wtC)) (_hn : L.length ≤ 1000000) (i j : Nat) (hi : i < L.length) (hj : j < L.length) :
    Calls Tryd.prog 36 #[.int .i64 i, .int .i64 j, .pointer (some ⟨B, 0, none⟩)] W fun e w' => e = .returned (.int .i64 (cmpW (L.getD j default) (L.getD i default))) ∧ ∃ q os, w' = grow (W.drewN q) os := by
  have mixed : Tryd.prog.follows .mixedOrders = true := by kernel_rfl
  have aE := Tryd.isAgg53
  have zE := Tryd.sizeOf53
  obtain ⟨x, hx⟩ : ∃ x, L[i]? = some x := ⟨_, List.getElem?_eq_getElem hi⟩
  obtain ⟨y, hy⟩ : ∃ y, L[j]? = some y := ⟨_, List.getElem?_eq_getElem hj⟩
  have ei : L.getD i default = x := by rw [List.getD, hx]; rfl
  have ej : L.getD j default = y := by rw [List.getD, hy]; rfl
  rw [ei, ej]
  obtain ⟨b, off, rfl, hrx⟩ := hL.get (k := i) (c := wtC x) (by rw [List.getElem?_map, hx]; rfl)
  obtain ⟨b', off', e', hry⟩ := hL.get (k := j) (c := wtC y) (by rw [List.getElem?_map, hy]; rfl)
  cases e'
  have C := hide (fun w => feecmp_any y x (hok y (List.mem_of_getElem? hy)) (hok x (List.mem_of_getElem? hx)) w)
  obtain ⟨oi, hoi⟩ : ∃ o, o = off + i * 2 := ⟨_, rfl⟩
  obtain ⟨oj, hoj⟩ : ∃ o, o = off + j * 2 := ⟨_, rfl⟩
  have fx := fun n os => range_grown hrx n os 0 _ rfl
  have fy := fun n os => range_grown hry n os 0 _ rfl
  have fx1 := fun n os => range_grown hrx n os 1 _ rfl
  have fy1 := fun n os => range_grown hry n os 1 _ rfl
  simp only [Nat.add_zero] at fx fy fx1 fy1
  have fB := fun n os => cell_grown (World.block_lt_of_cell? _ _ hB) hB n os
  have hi' : (i : Int) < (L.length : Int) := by omega
  have hj' : (j : Int) < (L.length : Int) := by omega
  clear hrx hry hL hB ei ej hx hy hok hoi hoj
  generalize cmpW y x = r at *
  go_enter Tryd.func36, Tryd.ntmps36
  go_wp2_with fail
  go_quiet_grown (first | (go_at_call 37; refine Calls.grown_of (C.out _)))
  go_wp2
  go_ret
  exact ⟨rfl, _, _, rfl⟩

end Go.Proofs.YtbeegcpmpgdbnaaDoor

/-
  What slices.SortStableFunc does at this program to all places of a list of weights.
-/
namespace Go.Proofs.YtbeegcpmpgdbnaaDoor
open Go.RowKit Go.Shelf Go.Lib Go.Sort

def plC (K : List Nat) : List (List Value) := K.map fun (z : Nat) => [Value.int .i64 (z : Int)]
theorem plC_flat (K : List Nat) : (plC K).flatten = K.map fun (z : Nat) => Value.int .i64 (z : Int) := by
  induction K with
  | nil => rfl
  | cons x K ih =>
    have : plC (x :: K) = [.int .i64 (x : Int)] :: plC K := rfl
    rw [this, List.flatten_cons, ih]
    rfl
theorem heap_sorted1 {α : Type} [Inhabited α] (enc : α → Value) {w : World} {g n : Nat} {os : Array Obj} {cur : Array Value} {e : TypeId} (F : Array α) (hb : w.heap[g]? = some (.cells cur e (0, 0))) :
    (grow (putRow enc (Sort.ahead w n) g 0 F) os).heap[g]? = some (.cells (putCells enc 0 F cur) e (0, 0)) := by
  have hg : g < w.heap.size := (Array.getElem?_eq_some_iff.1 hb).1
  rw [heap_grow_old _ _ (by simpa using hg)]
  simp [putRow, mapBlock, Sort.ahead, Array.getElem?_modify, hb, onCells]
theorem grownBy_sorted1 {α : Type} [Inhabited α] (enc : α → Value) {w : World} {g n : Nat} {os : Array Obj} (F : Array α) : w.grownBy (grow (putRow enc (Sort.ahead w n) g 0 F) os) (some g) := by
  refine ⟨rfl, rfl, rfl, by simp, fun k hk hne => ?_⟩
  rw [heap_grow_old _ _ (by simpa using hk)]
  have : g ≠ k := fun e => hne (by rw [e])
  simp [putRow, mapBlock, Sort.ahead, Array.getElem?_modify, this]
theorem take_putCells1 {α : Type} [Inhabited α] (enc : α → Value) (cur : Array Value) (F : Array α) (h : F.size ≤ cur.size) : (putCells enc 0 F cur).toList.take F.size = F.toList.map enc := by
  apply List.ext_getElem?
  intro j
  by_cases hj : j < F.size
  · rw [List.getElem?_take_of_lt hj, Array.getElem?_toList, List.getElem?_map, Array.getElem?_toList]
    simp [putCells, hj, show j < cur.size by omega]
  · rw [List.getElem?_take_eq_none (by omega), List.getElem?_eq_none (by simp; omega)]

theorem sort_none (p : Option Addr) (cap : Nat) (fv : Value) (w : World) : Calls Tryd.prog 35 #[.slice p 0 cap, fv] w fun e w' => e = .returned (.tuple #[]) ∧ w' = w := by
  have CI : Hid (∀ w, Calls Tryd.prog 59 #[.slice p 0 cap, .int .i64 0, .int .i64 0, fv] w fun e w' => e = .returned (.tuple #[]) ∧ w' = w) := hide (fun w => by
    go_enter Tryd.func59, Tryd.ntmps59
    go_wp2
    refine wp_loop_rounds 1 ?_
    rw [rounds_succ]
    go_wp2
    go_end0
    exact ⟨rfl, rfl⟩)
  have CS : Hid (∀ w, Calls Tryd.prog 53 #[.slice p 0 cap, .int .i64 0, fv] w fun e w' => e = .returned (.tuple #[]) ∧ w' = w) := hide (fun w => by
    go_enter Tryd.func53, Tryd.ntmps53
    go_wp2
    refine wp_loop_rounds 1 ?_
    rw [rounds_succ]
    go_wp2_with fail
    refine (CI.out _).mono ?_
    rintro e w' ⟨rfl, rfl⟩
    go_wp2
    refine wp_loop_rounds 1 ?_
    rw [rounds_succ]
    go_wp2
    go_end0
    exact ⟨rfl, rfl⟩)
  go_enter Tryd.func35, Tryd.ntmps35
  go_wp2_with fail
  refine (CS.out _).mono ?_
  rintro e w' ⟨rfl, rfl⟩
  go_wp2
  go_end0
  exact ⟨rfl, rfl⟩

theorem places_sorted (L : List Wt) (hok : ∀ x ∈ L, WtOk x) (hn : L.length ≤ 1000000) (W0 w : World) (base B : Nat) (a : Option Addr) (cap : Nat) (hB : W0.cell? ⟨B, 0, none⟩ = some (.slice a L.length cap)) (hL : RowAt W0 2 (.slice a L.length cap) (L.map wtC))
    (hbel : Below W0.heap.size W0 w) (hbase : W0.heap.size ≤ base) (v : Value) (h : RowOwn w base 3 1 v (plC (List.range L.length))) :
    Calls Tryd.prog 35 #[v, .func (.func 36) #[] #[.pointer (some ⟨B, 0, none⟩)]] w fun e w' => e = .returned (.tuple #[]) ∧ ∃ P, Ordd L P ∧ RowOwn w' base 3 1 v (plC P) ∧ w.grownBy w' v.ownBlock := by
  rcases id h.1.2 with ⟨rfl, h0⟩ | ⟨g, c, cur, rfl, hbg, hg, hnc, hm, hcs, ht⟩
  · have hl : L = [] := List.length_eq_zero_iff.1 (by simpa [plC] using h0)
    subst hl
    refine (sort_none none 0 _ w).mono ?_
    rintro e w' ⟨rfl, rfl⟩
    exact ⟨rfl, [], ⟨rfl, fun _ h => (by cases h), List.Pairwise.nil⟩, h, ⟨rfl, rfl, rfl, Nat.le_refl _, fun _ _ _ => rfl⟩⟩
  · have hlen : (plC (List.range L.length)).length = L.length := by simp [plC]
    rw [hlen] at hnc ht
    rw [hlen]
    by_cases hz : L.length = 0
    · have hL0 : L = [] := List.length_eq_zero_iff.1 hz
      subst hL0
      refine (sort_none (some ⟨g, 0, none⟩) c _ w).mono ?_
      rintro e w' ⟨rfl, rfl⟩
      exact ⟨rfl, [], ⟨rfl, fun _ h => (by cases h), List.Pairwise.nil⟩, h, ⟨rfl, rfl, rfl, Nat.le_refl _, fun _ _ _ => rfl⟩⟩
    · obtain ⟨m, hmm⟩ : ∃ m, L.length = m + 1 := ⟨L.length - 1, by omega⟩
      have hgw : g < w.heap.size := (Array.getElem?_eq_some_iff.1 hg).1
      obtain ⟨d, hd⟩ : ∃ d : Array (Fin (m + 1)), d = Array.ofFn (fun i : Fin (m + 1) => i) := ⟨_, rfl⟩
      have hds : d.size = m + 1 := by rw [hd]; simp
      have hdk : ∀ k, (hk : k < m + 1) → d[k]! = ⟨k, hk⟩ := fun k hk => by
        rw [getElem!_pos d k (by omega)]
        subst hd
        simp
      rw [hmm] at hnc ht
      have hcur : ∀ k, k < m + 1 → cur[k]? = some (.int .i64 (k : Int)) := fun k hk => by
        have h1 : (cur.toList.take ((m + 1) * 1))[k]? = (plC (List.range (m + 1))).flatten[k]? := by rw [ht]
        rw [List.getElem?_take_of_lt (by omega), Array.getElem?_toList, plC_flat] at h1
        rw [h1]
        simp [hk]
      have hH : Holds (encP m) w g 0 d := fun j hj => by
        have hj' : j < m + 1 := by omega
        refine ⟨?_, by simp [World.frozen?, hg]⟩
        simp only [World.cell?, hg, Nat.zero_add, Option.isSome_none, Bool.false_eq_true, if_false]
        rw [hcur j hj', hdk j hj']
        rfl
      have hrow : Row1 (encP m) w g 0 d := ⟨fun _ => rfl, hH, hgw⟩
      have hMer : Merging (encP m) (cfW L m) (fun i : Fin (m + 1) => i.val) 36 #[.pointer (some ⟨B, 0, none⟩)] d w g 0 := by
        refine ⟨enters_of Tryd.func36 (by kernel_rfl) rfl, fun n os dk hs x y => ?_, hrow, cfW_swo L m, fun x y h => Fin.ext h, by omega⟩
        have hb : Below W0.heap.size W0 (sortWorld (encP m) w g 0 n dk os) := hbel.grown (grownBy_sorted1 (encP m) dk) hbel.size (fun j hj => by
          cases hj
          omega)
        exact closure_any L hok _ B a cap ((hb.cell (World.block_lt_of_cell? _ _ hB)).trans hB) (hL.on hb) hn x.val y.val (by omega) (by omega)
      have C := sortStable_any hMer c (SW.start hH) (fun k l h1 h2 => by
        rw [hdk k (by omega), hdk l (by omega)]
        exact h1) (by omega)
      rw [hds] at C
      rw [hmm]
      refine C.mono ?_
      rintro e w' ⟨rfl, d', ⟨n, os, rfl⟩, hF, hU⟩
      have hds' : d'.size = m + 1 := hF.1.trans hds
      refine ⟨rfl, d'.toList.map Fin.val, ⟨by simp [hds', hmm], fun x hx => ?_, ?_⟩, ?_, grownBy_sorted1 _ _⟩
      · obtain ⟨y, _, rfl⟩ := List.mem_map.1 hx
        omega
      · rw [List.pairwise_map, List.pairwise_iff_getElem]
        intro i j hi hj hij
        simp only [Array.length_toList] at hi hj
        have hu := hU i j (Nat.zero_le _) hij (by omega)
        rw [getElem!_pos d' i hi, getElem!_pos d' j hj, stT_true, ltOf_cfW, ltOf_cfW] at hu
        exact hu
      · have hpl : (plC (d'.toList.map Fin.val)).length = m + 1 := by simp [plC, hds']
        refine ⟨⟨?_, Or.inr ⟨g, c, _, by rw [hpl], hbg, heap_sorted1 (encP m) d' hg, ?_, hm, ?_, ?_⟩⟩, fun x hx => ?_⟩
        · rw [plC_flat]
          simp [plC]
        · rw [hpl]
          exact hnc
        · simp [putCells, hcs]
        · have tk := take_putCells1 (encP m) cur d' (by omega)
          rw [hds'] at tk
          rw [hpl, Nat.mul_one, tk, plC_flat, List.map_map]
          rfl
        · obtain ⟨z, _, rfl⟩ := List.mem_map.1 hx
          refine ⟨rfl, fun u hu => ?_⟩
          rw [List.mem_singleton.1 hu]
          rfl

end Go.Proofs.YtbeegcpmpgdbnaaDoor
