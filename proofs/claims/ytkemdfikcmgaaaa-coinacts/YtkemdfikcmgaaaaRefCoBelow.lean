/-
  What the document's Below answers at this program, whatever the points.
-/
import Derived.Test.YtkemdfikcmgaaaaCoSet
namespace Go.Proofs.Ytkemdfikcmgaaaa
open Go.RowKit

theorem lexB_at : ∀ (j : Nat) (l m : List Int), l.take j = m.take j → j < l.length → j < m.length → l.getD j 0 ≠ m.getD j 0 → lexB l m = if l.getD j 0 < m.getD j 0 then -1 else 1
  | _, [], _, _, h, _, _ => by simp at h
  | _, _ :: _, [], _, _, h, _ => by simp at h
  | 0, a :: l, b :: m, _, _, _, h => by
    simp only [List.getD_cons_zero] at h ⊢
    unfold lexB
    by_cases h1 : a < b
    · rw [if_pos h1, if_pos h1]
    · rw [if_neg h1, if_neg h1, if_pos (by omega)]
  | j + 1, a :: l, b :: m, ht, hl, hm, h => by
    simp only [List.take_succ_cons, List.cons.injEq] at ht
    simp only [List.getD_cons_succ, List.length_cons] at *
    have ih := lexB_at j l m ht.2 (by omega) (by omega) h
    unfold lexB
    rw [ht.1, if_neg (by omega), if_neg (by omega), ih]
theorem take_eq_more {l m : List Int} {j : Nat} (h : l.take j = m.take j) (hl : j < l.length) (hm : j < m.length) (e : l.getD j 0 = m.getD j 0) : l.take (j + 1) = m.take (j + 1) := by
  rw [List.take_succ_eq_append_getElem hl, List.take_succ_eq_append_getElem hm, h]
  simp only [List.getD, List.getElem?_eq_getElem hl, List.getElem?_eq_getElem hm, Option.getD_some] at e
  rw [e]
theorem p_cell {w : World} {g : Nat} {p : Pt} (h : w.rangeAt g 0 (pC p)) (hp : PtOk p) : (∀ j, j < 32 → w.cell? ⟨g, j, none⟩ = some (.int .u8 (p.1.getD j 0))) ∧ w.cell? ⟨g, 32, none⟩ = some (.int .u32 p.2) := by
  have hl : p.1.length = 32 := hp.1
  have hv : (vals .u8 p.1).length = 32 := by rw [vals_length]; exact hl
  constructor
  · intro j hj
    have := h j _ (by unfold pC ptC; rw [List.getElem?_append_left (by omega)]; exact vals_get .u8 p.1 j (by omega))
    rw [Nat.zero_add] at this
    exact this
  · have := h 32 (.int .u32 p.2) (by unfold pC ptC; rw [List.getElem?_append_right (by omega), hv]; rfl)
    rw [Nat.zero_add] at this
    exact this
theorem below_ne {p q : Pt} {x y : Int} (h : lexB p.1 q.1 = if x < y then -1 else 1) : decide (cmpPt p q < 0) = decide (x < y) := by
  unfold cmpPt
  by_cases h1 : x < y
  · rw [if_pos h1] at h
    rw [h, if_neg (by omega)]
    simp [h1]
  · rw [if_neg h1] at h
    rw [h, if_neg (by omega)]
    simp [h1]
theorem below_eq {p q : Pt} (h : p.1 = q.1) : decide (cmpPt p q < 0) = decide (p.2 < q.2) := by
  unfold cmpPt
  rw [h, lexB_self, if_pos rfl]
  unfold cmpN
  by_cases h1 : p.2 < q.2
  · simp [h1]
  · by_cases h2 : q.2 < p.2 <;> simp [h1, h2]
/-- So far the bytes are the same. -/
def BelI (W : World) (p q : Pt) (i : Value) (wr : World) : Prop := ∃ j : Nat, j ≤ 32 ∧ i = .int .i64 j ∧ Below W.heap.size W wr ∧ p.1.take j = q.1.take j
set_option maxRecDepth 100000 in
set_option maxHeartbeats 1000000 in
theorem rbelow_any (w : World) (p q : Pt) (hp : PtOk p) (hq : PtOk q) :
    Calls Try.prog 24 #[.agg (pC p).toArray, .agg (pC q).toArray] w fun e w' => e = .returned (.bool (decide (cmpPt p q < 0))) ∧ Below w.heap.size w w' := by
  have hb2 := below_new (w.alloc (.cells (pC p).toArray 47)) (.cells (pC q).toArray 47)
  have HB0 := hide (below_on (below_new w (.cells (pC p).toArray 47)) hb2)
  have hrp := range_on (range_new w (pC p) 47) hb2
  have hrq := range_new (w.alloc (.cells (pC p).toArray 47)) (pC q) 47
  rw [alloc_size] at hrq
  have HCP := hide (p_cell hrp hp)
  have HCQ := hide (p_cell hrq hq)
  have HSZ : Hid (((w.alloc (.cells (pC p).toArray 47)).alloc (.cells (pC q).toArray 47)).heap.size = w.heap.size + 2) := hide (by rw [alloc_size, alloc_size])
  have HLP : Hid (p.1.length = 32) := hide hp.1
  have HLQ : Hid (q.1.length = 32) := hide hq.1
  clear hb2 hrp hrq hp hq
  go_enter Try.func24, Try.ntmps24
  go_upto_region 1 with fail
  generalize (w.alloc (.cells (pC p).toArray 47)).alloc (.cells (pC q).toArray 47) = W at *
  generalize hg : w.heap.size = g at *
  have HG := hide hg
  clear hg
  have HS : Hid (BelI W p q (.int .i64 0) W) := hide ⟨0, by omega, rfl, Below.refl _ _, by simp⟩
  go_wp2_with fail
  go_loopw [6] (fun i wr => BelI W p q i wr) (fun i _ => 32 - (intOf i).toNat)
  case atStart => exact HS.out
  case round =>
    clear HS
    obtain ⟨j, hj, rfl, hB, ht⟩ := hrel
    have HB := hide hB
    have HT := hide ht
    by_cases hlt : j < 32
    · have hk1 : (j : Int) < 32 := by omega
      have HJ : Hid (j < 32) := hide hlt
      have HC1 : Hid (∀ wx, Below wr.heap.size wr wx → wx.cell? ⟨g, j, none⟩ = some (.int .u8 (p.1.getD j 0))) := hide (fun wx h => by
        have h1 := HSZ.out
        exact (h.cell (show g < wr.heap.size by have := hB.size; omega)).trans ((hB.cell (show g < W.heap.size by omega)).trans (HCP.out.1 j hlt)))
      have HC2 : Hid (∀ wx, Below wr.heap.size wr wx → wx.cell? ⟨g + 1, j, none⟩ = some (.int .u8 (q.1.getD j 0))) := hide (fun wx h => by
        have h1 := HSZ.out
        exact (h.cell (show g + 1 < wr.heap.size by have := hB.size; omega)).trans ((hB.cell (show g + 1 < W.heap.size by omega)).trans (HCQ.out.1 j hlt)))
      have HX : Hid (p.1.getD j 0 = q.1.getD j 0 → p.1.take (j + 1) = q.1.take (j + 1)) := hide (fun e => take_eq_more ht (by have := HLP.out; omega) (by have := HLQ.out; omega) e)
      have HY : Hid (p.1.getD j 0 ≠ q.1.getD j 0 → decide (cmpPt p q < 0) = decide (p.1.getD j 0 < q.1.getD j 0)) := hide (fun e => by
        exact below_ne (lexB_at j p.1 q.1 ht (by have := HLP.out; omega) (by have := HLQ.out; omega) e))
      have hao : ¬ (32 : Nat) ≤ j := by omega
      clear hB ht
      generalize p.1.getD j 0 = x at *
      generalize q.1.getD j 0 = y at *
      by_cases hxy : x = y
      · subst hxy
        have HTM := hide (HX.out rfl)
        clear HX HY
        go_upto_region 4 with fail
        refine wp_region_held_drew (S := fun wx => Below wr.heap.size wr wx) (by kernel_rfl) (Below.refl _ _).drew (fun hHeld => ?_)
        refine wpAnyH_take (i := 0) (oi := { dst := some 9, op := Op.move (Operand.tmp 5), type := 3, pos := "ref.go:12", after := #[], guard := none }) (v := .int .i64 j) rfl (by kernel_rfl) (by kernel_rfl) (by kernel_rfl) (fun _ _ _ h => h) (Or.inl ⟨by rfl, fun w _ => by go_simp⟩) (by assumption) ?_
        simp only [Act.put, List.setIfInBounds_toArray, List.set_cons_zero, List.set_cons_succ]
        refine wpAnyH_take (i := 1) (oi := { dst := some 10, op := Op.fieldAddr 47 (Operand.tmp 2) 0, type := 0, pos := "ref.go:12", after := #[], guard := none }) (v := .pointer (some ⟨g, 0, none⟩)) rfl (by kernel_rfl) (by kernel_rfl) (by kernel_rfl) (fun _ _ _ h => h) (Or.inl ⟨by rfl, fun w _ => by go_simp⟩) (by assumption) ?_
        simp only [Act.put, List.setIfInBounds_toArray, List.set_cons_zero, List.set_cons_succ]
        refine wpAnyH_take (i := 2) (oi := { dst := some 11, op := Op.indexAddr 44 (Operand.tmp 10) (Operand.tmp 9), type := 0, pos := "ref.go:12", after := #[{ on := 1, ground := Ground.data }, { on := 0, ground := Ground.data }], guard := none }) (v := .pointer (some ⟨g, j, none⟩)) rfl (by kernel_rfl) (by kernel_rfl) (by kernel_rfl) (fun _ _ _ h => h) (Or.inl ⟨by rfl, fun w _ => by go_simp⟩) (by assumption) ?_
        simp only [Act.put, List.setIfInBounds_toArray, List.set_cons_zero, List.set_cons_succ]
        refine wpAnyH_take (i := 3) (oi := { dst := some 12, op := Op.load 5 (Operand.tmp 11), type := 5, pos := "ref.go:12", after := #[{ on := 2, ground := Ground.data }], guard := none }) (v := .int .u8 x) rfl (by kernel_rfl) (by kernel_rfl) (by kernel_rfl) (fun _ _ _ h => h) (Or.inl ⟨by rfl, fun wx h => by have c0 := HC1.out wx h; go_simp⟩) (by assumption) ?_
        simp only [Act.put, List.setIfInBounds_toArray, List.set_cons_zero, List.set_cons_succ]
        refine wpAnyH_take (i := 4) (oi := { dst := some 13, op := Op.move (Operand.tmp 5), type := 3, pos := "ref.go:12", after := #[], guard := none }) (v := .int .i64 j) rfl (by kernel_rfl) (by kernel_rfl) (by kernel_rfl) (fun _ _ _ h => h) (Or.inl ⟨by rfl, fun w _ => by go_simp⟩) (by assumption) ?_
        simp only [Act.put, List.setIfInBounds_toArray, List.set_cons_zero, List.set_cons_succ]
        refine wpAnyH_take (i := 5) (oi := { dst := some 14, op := Op.fieldAddr 47 (Operand.tmp 3) 0, type := 0, pos := "ref.go:12", after := #[], guard := none }) (v := .pointer (some ⟨g + 1, 0, none⟩)) rfl (by kernel_rfl) (by kernel_rfl) (by kernel_rfl) (fun _ _ _ h => h) (Or.inl ⟨by rfl, fun w _ => by go_simp⟩) (by assumption) ?_
        simp only [Act.put, List.setIfInBounds_toArray, List.set_cons_zero, List.set_cons_succ]
        refine wpAnyH_take (i := 6) (oi := { dst := some 15, op := Op.indexAddr 44 (Operand.tmp 14) (Operand.tmp 13), type := 0, pos := "ref.go:12", after := #[{ on := 5, ground := Ground.data }, { on := 4, ground := Ground.data }], guard := none }) (v := .pointer (some ⟨g + 1, j, none⟩)) rfl (by kernel_rfl) (by kernel_rfl) (by kernel_rfl) (fun _ _ _ h => h) (Or.inl ⟨by rfl, fun w _ => by go_simp⟩) (by assumption) ?_
        simp only [Act.put, List.setIfInBounds_toArray, List.set_cons_zero, List.set_cons_succ]
        refine wpAnyH_take (i := 7) (oi := { dst := some 16, op := Op.load 5 (Operand.tmp 15), type := 5, pos := "ref.go:12", after := #[{ on := 6, ground := Ground.data }], guard := none }) (v := .int .u8 x) rfl (by kernel_rfl) (by kernel_rfl) (by kernel_rfl) (fun _ _ _ h => h) (Or.inl ⟨by rfl, fun wx h => by have c0 := HC2.out wx h; go_simp⟩) (by assumption) ?_
        simp only [Act.put, List.setIfInBounds_toArray, List.set_cons_zero, List.set_cons_succ]
        refine wpAnyH_take (i := 8) (oi := { dst := some 17, op := Op.binOp BinOp.neq 5 (Operand.tmp 12) (Operand.tmp 16) 5, type := 4, pos := "ref.go:12", after := #[{ on := 3, ground := Ground.data }, { on := 7, ground := Ground.data }], guard := none }) (v := .bool false) rfl (by kernel_rfl) (by kernel_rfl) (by kernel_rfl) (fun _ _ _ h => h) (Or.inl ⟨by rfl, fun w _ => by go_simp⟩) (by assumption) ?_
        simp only [Act.put, List.setIfInBounds_toArray, List.set_cons_zero, List.set_cons_succ]
        refine wpAnyH_done (by kernel_rfl) ?_ _
        have R : Hid (BelI W p q (.int .i64 ((j + 1 : Nat) : Int)) wr.drew) := hide ⟨j + 1, HJ.out, rfl, below_on HB.out hHeld, HTM.out⟩
        clear hHeld
        go_wp2
        go_roundw
        case rel => first | exact R.out | ((repeat apply Exists.intro); exact ⟨R.out, rfl⟩)
        case measure => simp [intOf]; omega
      · have HD := hide (HY.out hxy)
        have hne : (x != y) = true := by simpa using hxy
        clear HX HY
        go_upto_region 4 with fail
        refine wp_region_held_drew (S := fun wx => Below wr.heap.size wr wx) (by kernel_rfl) (Below.refl _ _).drew (fun hHeld => ?_)
        refine wpAnyH_take (i := 0) (oi := { dst := some 9, op := Op.move (Operand.tmp 5), type := 3, pos := "ref.go:12", after := #[], guard := none }) (v := .int .i64 j) rfl (by kernel_rfl) (by kernel_rfl) (by kernel_rfl) (fun _ _ _ h => h) (Or.inl ⟨by rfl, fun w _ => by go_simp⟩) (by assumption) ?_
        simp only [Act.put, List.setIfInBounds_toArray, List.set_cons_zero, List.set_cons_succ]
        refine wpAnyH_take (i := 1) (oi := { dst := some 10, op := Op.fieldAddr 47 (Operand.tmp 2) 0, type := 0, pos := "ref.go:12", after := #[], guard := none }) (v := .pointer (some ⟨g, 0, none⟩)) rfl (by kernel_rfl) (by kernel_rfl) (by kernel_rfl) (fun _ _ _ h => h) (Or.inl ⟨by rfl, fun w _ => by go_simp⟩) (by assumption) ?_
        simp only [Act.put, List.setIfInBounds_toArray, List.set_cons_zero, List.set_cons_succ]
        refine wpAnyH_take (i := 2) (oi := { dst := some 11, op := Op.indexAddr 44 (Operand.tmp 10) (Operand.tmp 9), type := 0, pos := "ref.go:12", after := #[{ on := 1, ground := Ground.data }, { on := 0, ground := Ground.data }], guard := none }) (v := .pointer (some ⟨g, j, none⟩)) rfl (by kernel_rfl) (by kernel_rfl) (by kernel_rfl) (fun _ _ _ h => h) (Or.inl ⟨by rfl, fun w _ => by go_simp⟩) (by assumption) ?_
        simp only [Act.put, List.setIfInBounds_toArray, List.set_cons_zero, List.set_cons_succ]
        refine wpAnyH_take (i := 3) (oi := { dst := some 12, op := Op.load 5 (Operand.tmp 11), type := 5, pos := "ref.go:12", after := #[{ on := 2, ground := Ground.data }], guard := none }) (v := .int .u8 x) rfl (by kernel_rfl) (by kernel_rfl) (by kernel_rfl) (fun _ _ _ h => h) (Or.inl ⟨by rfl, fun wx h => by have c0 := HC1.out wx h; go_simp⟩) (by assumption) ?_
        simp only [Act.put, List.setIfInBounds_toArray, List.set_cons_zero, List.set_cons_succ]
        refine wpAnyH_take (i := 4) (oi := { dst := some 13, op := Op.move (Operand.tmp 5), type := 3, pos := "ref.go:12", after := #[], guard := none }) (v := .int .i64 j) rfl (by kernel_rfl) (by kernel_rfl) (by kernel_rfl) (fun _ _ _ h => h) (Or.inl ⟨by rfl, fun w _ => by go_simp⟩) (by assumption) ?_
        simp only [Act.put, List.setIfInBounds_toArray, List.set_cons_zero, List.set_cons_succ]
        refine wpAnyH_take (i := 5) (oi := { dst := some 14, op := Op.fieldAddr 47 (Operand.tmp 3) 0, type := 0, pos := "ref.go:12", after := #[], guard := none }) (v := .pointer (some ⟨g + 1, 0, none⟩)) rfl (by kernel_rfl) (by kernel_rfl) (by kernel_rfl) (fun _ _ _ h => h) (Or.inl ⟨by rfl, fun w _ => by go_simp⟩) (by assumption) ?_
        simp only [Act.put, List.setIfInBounds_toArray, List.set_cons_zero, List.set_cons_succ]
        refine wpAnyH_take (i := 6) (oi := { dst := some 15, op := Op.indexAddr 44 (Operand.tmp 14) (Operand.tmp 13), type := 0, pos := "ref.go:12", after := #[{ on := 5, ground := Ground.data }, { on := 4, ground := Ground.data }], guard := none }) (v := .pointer (some ⟨g + 1, j, none⟩)) rfl (by kernel_rfl) (by kernel_rfl) (by kernel_rfl) (fun _ _ _ h => h) (Or.inl ⟨by rfl, fun w _ => by go_simp⟩) (by assumption) ?_
        simp only [Act.put, List.setIfInBounds_toArray, List.set_cons_zero, List.set_cons_succ]
        refine wpAnyH_take (i := 7) (oi := { dst := some 16, op := Op.load 5 (Operand.tmp 15), type := 5, pos := "ref.go:12", after := #[{ on := 6, ground := Ground.data }], guard := none }) (v := .int .u8 y) rfl (by kernel_rfl) (by kernel_rfl) (by kernel_rfl) (fun _ _ _ h => h) (Or.inl ⟨by rfl, fun wx h => by have c0 := HC2.out wx h; go_simp⟩) (by assumption) ?_
        simp only [Act.put, List.setIfInBounds_toArray, List.set_cons_zero, List.set_cons_succ]
        refine wpAnyH_take (i := 8) (oi := { dst := some 17, op := Op.binOp BinOp.neq 5 (Operand.tmp 12) (Operand.tmp 16) 5, type := 4, pos := "ref.go:12", after := #[{ on := 3, ground := Ground.data }, { on := 7, ground := Ground.data }], guard := none }) (v := .bool true) rfl (by kernel_rfl) (by kernel_rfl) (by kernel_rfl) (fun _ _ _ h => h) (Or.inl ⟨by rfl, fun w _ => by go_simp⟩) (by assumption) ?_
        simp only [Act.put, List.setIfInBounds_toArray, List.set_cons_zero, List.set_cons_succ]
        refine wpAnyH_done (by kernel_rfl) ?_ _
        have HB4 := hide (below_on HB.out hHeld)
        have HC3 : Hid (∀ wx, Below wr.drew.heap.size wr.drew wx → wx.cell? ⟨g, j, none⟩ = some (.int .u8 x)) := hide (fun wx h => HC1.out wx (below_on (Below.refl _ _).drew h))
        have HC4 : Hid (∀ wx, Below wr.drew.heap.size wr.drew wx → wx.cell? ⟨g + 1, j, none⟩ = some (.int .u8 y)) := hide (fun wx h => HC2.out wx (below_on (Below.refl _ _).drew h))
        clear hHeld HC1 HC2
        generalize wr.drew = wr2 at *
        go_upto_region 5 with fail
        refine wp_region_held_drew (S := fun wx => Below wr2.heap.size wr2 wx) (by kernel_rfl) (Below.refl _ _).drew (fun hHeld => ?_)
        refine wpAnyH_take (i := 0) (oi := { dst := some 18, op := Op.move (Operand.tmp 5), type := 3, pos := "ref.go:13", after := #[], guard := none }) (v := .int .i64 j) rfl (by kernel_rfl) (by kernel_rfl) (by kernel_rfl) (fun _ _ _ h => h) (Or.inl ⟨by rfl, fun w _ => by go_simp⟩) (by assumption) ?_
        simp only [Act.put, List.setIfInBounds_toArray, List.set_cons_zero, List.set_cons_succ]
        refine wpAnyH_take (i := 1) (oi := { dst := some 19, op := Op.fieldAddr 47 (Operand.tmp 2) 0, type := 0, pos := "ref.go:13", after := #[], guard := none }) (v := .pointer (some ⟨g, 0, none⟩)) rfl (by kernel_rfl) (by kernel_rfl) (by kernel_rfl) (fun _ _ _ h => h) (Or.inl ⟨by rfl, fun w _ => by go_simp⟩) (by assumption) ?_
        simp only [Act.put, List.setIfInBounds_toArray, List.set_cons_zero, List.set_cons_succ]
        refine wpAnyH_take (i := 2) (oi := { dst := some 20, op := Op.indexAddr 44 (Operand.tmp 19) (Operand.tmp 18), type := 0, pos := "ref.go:13", after := #[{ on := 1, ground := Ground.data }, { on := 0, ground := Ground.data }], guard := none }) (v := .pointer (some ⟨g, j, none⟩)) rfl (by kernel_rfl) (by kernel_rfl) (by kernel_rfl) (fun _ _ _ h => h) (Or.inl ⟨by rfl, fun w _ => by go_simp⟩) (by assumption) ?_
        simp only [Act.put, List.setIfInBounds_toArray, List.set_cons_zero, List.set_cons_succ]
        refine wpAnyH_take (i := 3) (oi := { dst := some 21, op := Op.load 5 (Operand.tmp 20), type := 5, pos := "ref.go:13", after := #[{ on := 2, ground := Ground.data }], guard := none }) (v := .int .u8 x) rfl (by kernel_rfl) (by kernel_rfl) (by kernel_rfl) (fun _ _ _ h => h) (Or.inl ⟨by rfl, fun wx h => by have c0 := HC3.out wx h; go_simp⟩) (by assumption) ?_
        simp only [Act.put, List.setIfInBounds_toArray, List.set_cons_zero, List.set_cons_succ]
        refine wpAnyH_take (i := 4) (oi := { dst := some 22, op := Op.move (Operand.tmp 5), type := 3, pos := "ref.go:13", after := #[], guard := none }) (v := .int .i64 j) rfl (by kernel_rfl) (by kernel_rfl) (by kernel_rfl) (fun _ _ _ h => h) (Or.inl ⟨by rfl, fun w _ => by go_simp⟩) (by assumption) ?_
        simp only [Act.put, List.setIfInBounds_toArray, List.set_cons_zero, List.set_cons_succ]
        refine wpAnyH_take (i := 5) (oi := { dst := some 23, op := Op.fieldAddr 47 (Operand.tmp 3) 0, type := 0, pos := "ref.go:13", after := #[], guard := none }) (v := .pointer (some ⟨g + 1, 0, none⟩)) rfl (by kernel_rfl) (by kernel_rfl) (by kernel_rfl) (fun _ _ _ h => h) (Or.inl ⟨by rfl, fun w _ => by go_simp⟩) (by assumption) ?_
        simp only [Act.put, List.setIfInBounds_toArray, List.set_cons_zero, List.set_cons_succ]
        refine wpAnyH_take (i := 6) (oi := { dst := some 24, op := Op.indexAddr 44 (Operand.tmp 23) (Operand.tmp 22), type := 0, pos := "ref.go:13", after := #[{ on := 5, ground := Ground.data }, { on := 4, ground := Ground.data }], guard := none }) (v := .pointer (some ⟨g + 1, j, none⟩)) rfl (by kernel_rfl) (by kernel_rfl) (by kernel_rfl) (fun _ _ _ h => h) (Or.inl ⟨by rfl, fun w _ => by go_simp⟩) (by assumption) ?_
        simp only [Act.put, List.setIfInBounds_toArray, List.set_cons_zero, List.set_cons_succ]
        refine wpAnyH_take (i := 7) (oi := { dst := some 25, op := Op.load 5 (Operand.tmp 24), type := 5, pos := "ref.go:13", after := #[{ on := 6, ground := Ground.data }], guard := none }) (v := .int .u8 y) rfl (by kernel_rfl) (by kernel_rfl) (by kernel_rfl) (fun _ _ _ h => h) (Or.inl ⟨by rfl, fun wx h => by have c0 := HC4.out wx h; go_simp⟩) (by assumption) ?_
        simp only [Act.put, List.setIfInBounds_toArray, List.set_cons_zero, List.set_cons_succ]
        refine wpAnyH_take (i := 8) (oi := { dst := some 26, op := Op.binOp BinOp.lss 5 (Operand.tmp 21) (Operand.tmp 25) 5, type := 4, pos := "ref.go:13", after := #[{ on := 3, ground := Ground.data }, { on := 7, ground := Ground.data }], guard := none }) (v := .bool (decide (x < y))) rfl (by kernel_rfl) (by kernel_rfl) (by kernel_rfl) (fun _ _ _ h => h) (Or.inl ⟨by rfl, fun w _ => by go_simp⟩) (by assumption) ?_
        simp only [Act.put, List.setIfInBounds_toArray, List.set_cons_zero, List.set_cons_succ]
        refine wpAnyH_take (i := 9) (oi := { dst := some 4, op := Op.assign (Operand.tmp 26), type := 4, pos := "ref.go:13", after := #[{ on := 8, ground := Ground.data }, { on := 0, ground := Ground.phase }, { on := 1, ground := Ground.phase }, { on := 2, ground := Ground.phase }, { on := 3, ground := Ground.phase }, { on := 4, ground := Ground.phase }, { on := 5, ground := Ground.phase }, { on := 6, ground := Ground.phase }, { on := 7, ground := Ground.phase }, { on := 8, ground := Ground.phase }], guard := none }) (v := .bool (decide (x < y))) rfl (by kernel_rfl) (by kernel_rfl) (by kernel_rfl) (fun _ _ _ h => h) (Or.inl ⟨by rfl, fun w _ => by go_simp⟩) (by assumption) ?_
        simp only [Act.put, List.setIfInBounds_toArray, List.set_cons_zero, List.set_cons_succ]
        refine wpAnyH_done (by kernel_rfl) ?_ _
        have R : Hid (Below g w wr2.drew) := hide (by have h := HB0.out; rw [← HG.out] at h ⊢; exact below_on h (below_on HB4.out hHeld))
        clear hHeld
        go_wp2
        go_ret
        rw [HG.out]
        exact ⟨by rw [HD.out]; first | done | rfl, R.out⟩
    · have hk2 : (32 : Int) ≤ (j : Int) := by omega
      obtain rfl : j = 32 := by omega
      have he : p.1 = q.1 := by
        rw [List.take_of_length_le (by have := HLP.out; omega), List.take_of_length_le (by have := HLQ.out; omega)] at ht
        exact ht
      have HD : Hid (decide (cmpPt p q < 0) = decide (p.2 < q.2)) := hide (below_eq he)
      have c1 : wr.cell? ⟨g, 32, none⟩ = some (.int .u32 p.2) := by
        have h1 := HSZ.out
        exact (hB.cell (show g < W.heap.size by omega)).trans HCP.out.2
      have c2 : wr.cell? ⟨g + 1, 32, none⟩ = some (.int .u32 q.2) := by
        have h1 := HSZ.out
        exact (hB.cell (show g + 1 < W.heap.size by omega)).trans HCQ.out.2
      have R : Hid (Below g w wr) := hide (by have h := HB0.out; rw [← HG.out] at h ⊢; exact below_on h hB)
      clear hB ht he
      go_wp2
      go_ret
      rw [HG.out]
      exact ⟨by rw [HD.out]; first | done | rfl, R.out⟩

end Go.Proofs.Ytkemdfikcmgaaaa
