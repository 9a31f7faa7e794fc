/-
  Plain transactions: cut off anywhere they are too short; how long they are.
-/
import Derived.Test.YtjgainoplgojiabDoorTxPure
namespace Go.Proofs.YtjgainoplgojiabDoor

/-- One reader behind the other. -/
theorem cut_seq {α : Type} {p : RdS → α × RdS} {q : α × RdS → RdS} {e1 e2 : List Int} {x : α} (hp : ∀ k, k < e1.length → (p (e1.take k, 0)).2.2 = 4) (hfull : ∀ r, p (e1 ++ r, 0) = (x, (r, 0)))
    (hq : ∀ k, k < e2.length → (q (x, (e2.take k, 0))).2 = 4) (hqe : ∀ y, y.2.2 ≠ 0 → (q y).2 = y.2.2) (k : Nat) (hk : k < (e1 ++ e2).length) : (q (p ((e1 ++ e2).take k, 0))).2 = 4 := by
  by_cases h : k < e1.length
  · rw [List.take_append_of_le_length (by omega), hqe _ (by rw [hp k h]; decide), hp k h]
  · have e : (e1 ++ e2).take k = e1 ++ e2.take (k - e1.length) := by rw [List.take_append, List.take_of_length_le (l := e1) (by omega)]
    rw [e, hfull]
    exact hq _ (by simp at hk; omega)
theorem cut_take (l : List Int) (n : Nat) (hl : l.length = n) (k : Nat) (hk : k < l.length) : (takeS n (l.take k, 0)).2.2 = 4 := by
  have : (l.take k).length < n := by simp; omega
  unfold takeS
  rw [if_neg (by simp), if_pos this]
theorem cut_num (x : Int) (n : Nat) (k : Nat) (hk : k < (put n x).length) : (numS n ((put n x).take k, 0)).2.2 = 4 := cut_take _ n (put_length n x) k hk
theorem cut_hash (l : List Int) (hl : l.length = 32) (k : Nat) (hk : k < l.length) : (hashS (l.take k, 0)).2.2 = 4 := cut_take l 32 hl k hk
theorem cut_count (c m : Nat) (hc : c ≤ 64) (k : Nat) (hk : k < (var (c : Int)).length) : (countS m ((var (c : Int)).take k, 0)).2.2 = 4 := by
  have h := read_cut (c : Int) (by omega) (by omega) k hk
  simp [countS, h]
theorem count_keeps (m : Nat) {s : RdS} (h : s.2 ≠ 0) : (countS m s).2.2 = s.2 := by rw [countS_err h]
theorem take_keeps (m : Nat) {s : RdS} (h : s.2 ≠ 0) : (takeS m s).2.2 = s.2 := by rw [takeS_err h]
theorem cut_in (x : TIn) (h : InOk x) (hk64 : x.key.length ≤ 64) (k : Nat) (hk : k < (inB x).length) : (inS ((inB x).take k, 0)).2.2 = 4 := by
  obtain ⟨h1, h2, h3, h4⟩ := h
  refine cut_seq (p := hashS) (q := fun y => (takeS (countS 64 (numS 4 y.2).2).1 (countS 64 (numS 4 y.2).2).2).2) (x := x.tx) (cut_hash x.tx h1) (fun r => hashS_put _ _ h1) ?_ ?_ k hk
  · refine cut_seq (p := fun s : RdS => numS 4 s) (q := fun y => (takeS (countS 64 y.2).1 (countS 64 y.2).2).2) (x := x.n) (cut_num x.n 4) (fun r => numS_put x.n 4 h3.1 (by simpa using h3.2) r) ?_ ?_
    · refine cut_seq (p := fun s : RdS => countS 64 s) (q := fun y => (takeS y.1 y.2).2) (x := x.key.length) (cut_count _ 64 hk64) (fun r => countS_put _ 64 hk64 (by omega) r) ?_ ?_
      · exact cut_take x.key _ rfl
      · exact fun y hy => take_keeps _ hy
    · intro y hy
      show (takeS _ (countS 64 y.2).2).2.2 = _
      rw [countS_err hy]
      exact take_keeps _ hy
  · intro y hy
    show (takeS _ (countS 64 (numS 4 y.2).2).2).2.2 = _
    rw [numS_err hy, countS_err hy]
    exact take_keeps _ hy
theorem cut_out (x : TOut) (h : OutOk x) (k : Nat) (hk : k < (outB x).length) : (outS ((outB x).take k, 0)).2.2 = 4 := by
  obtain ⟨h1, h2, h3⟩ := h
  refine cut_seq (p := fun s : RdS => numS 8 s) (q := fun y => (hashS y.2).2) (x := x.val) (cut_num x.val 8) (fun r => numS_put x.val 8 h1.1 (by simpa using h1.2) r) ?_ ?_ k hk
  · exact cut_hash x.lock h2
  · intro y hy
    show (hashS y.2).2.2 = _
    rw [hashS_err hy]
theorem take_snoc {α : Type} {f : α → List Int} {L : List α} {j : Nat} (h : j < L.length) : (L.take (j + 1)).flatMap f = (L.take j).flatMap f ++ f L[j] := by
  rw [List.take_succ_eq_append_getElem h, List.flatMap_append]
  simp
theorem cut_ins (L : List TIn) (h : ∀ x ∈ L, InOk x ∧ x.key.length ≤ 64) : ∀ j, j ≤ L.length → ∀ k, k < ((L.take j).flatMap inB).length → (insS j (((L.take j).flatMap inB).take k, 0)).2.2 = 4
  | 0, _, k, hk => by simp at hk
  | j + 1, hj, k, hk => by
    have hlt : j < L.length := by omega
    rw [take_snoc hlt] at hk ⊢
    have hx := h L[j] (List.getElem_mem hlt)
    refine cut_seq (p := insS j) (q := fun y => (inS y.2).2) (x := L.take j) (cut_ins L h j (by omega)) (fun r => ?_) (cut_in _ hx.1 hx.2) (fun y hy => ?_) k hk
    · have := insS_put (L.take j) (fun x hx => h x (List.mem_of_mem_take hx)) r j (by simp; omega)
      simpa [List.take_take] using this
    · show (inS y.2).2.2 = _
      rw [inS_err hy]
theorem cut_outs (L : List TOut) (h : ∀ x ∈ L, OutOk x) : ∀ j, j ≤ L.length → ∀ k, k < ((L.take j).flatMap outB).length → (outsS j (((L.take j).flatMap outB).take k, 0)).2.2 = 4
  | 0, _, k, hk => by simp at hk
  | j + 1, hj, k, hk => by
    have hlt : j < L.length := by omega
    rw [take_snoc hlt] at hk ⊢
    have hx := h L[j] (List.getElem_mem hlt)
    refine cut_seq (p := outsS j) (q := fun y => (outS y.2).2) (x := L.take j) (cut_outs L h j (by omega)) (fun r => ?_) (cut_out _ hx) (fun y hy => ?_) k hk
    · have := outsS_put (L.take j) (fun x hx => h x (List.mem_of_mem_take hx)) r j (by simp; omega)
      simpa [List.take_take] using this
    · show (outS y.2).2.2 = _
      rw [outS_err hy]
theorem cut_tx (t : Tr) (h : TrOk t) (hf : formB t = true) (k : Nat) (hk : k < (txB t).length) : (txS ((txB t).take k, 0)).2.2 = 4 := by
  obtain ⟨h1, h2, h3⟩ := h
  obtain ⟨f1, f2, f3⟩ := (formB_iff t).1 hf
  refine cut_seq (p := fun s : RdS => numS 4 s) (q := fun y => (outsS (countS 8 (insS (countS 8 y.2).1 (countS 8 y.2).2).2).1 (countS 8 (insS (countS 8 y.2).1 (countS 8 y.2).2).2).2).2) (x := t.ver) (cut_num t.ver 4) (fun r => numS_put t.ver 4 h1.1 (by simpa using h1.2) r) ?_ ?_ k hk
  · refine cut_seq (p := fun s : RdS => countS 8 s) (q := fun y => (outsS (countS 8 (insS y.1 y.2).2).1 (countS 8 (insS y.1 y.2).2).2).2) (x := t.ins.length) (cut_count _ 8 (by omega)) (fun r => countS_put _ 8 f1 (by omega) r) ?_ ?_
    · refine cut_seq (p := insS t.ins.length) (q := fun y => (outsS (countS 8 y.2).1 (countS 8 y.2).2).2) (x := t.ins) ?_ (fun r => ?_) ?_ ?_
      · have := cut_ins t.ins (fun x hx => ⟨h2 x hx, f3 x hx⟩) t.ins.length (Nat.le_refl _)
        simpa using this
      · have := insS_put t.ins (fun x hx => ⟨h2 x hx, f3 x hx⟩) r t.ins.length (Nat.le_refl _)
        simpa using this
      · refine cut_seq (p := fun s : RdS => countS 8 s) (q := fun y => (outsS y.1 y.2).2) (x := t.outs.length) (cut_count _ 8 (by omega)) (fun r => countS_put _ 8 f2 (by omega) r) ?_ ?_
        · have := cut_outs t.outs h3 t.outs.length (Nat.le_refl _)
          simpa using this
        · intro y hy
          show (outsS y.1 y.2).2.2 = _
          rw [outsS_err hy]
      · intro y hy
        show (outsS _ (countS 8 y.2).2).2.2 = _
        rw [countS_err hy, outsS_err hy]
    · intro y hy
      show (outsS _ (countS 8 (insS y.1 y.2).2).2).2.2 = _
      rw [insS_err hy, countS_err hy, outsS_err hy]
  · intro y hy
    show (outsS _ (countS 8 (insS _ (countS 8 y.2).2).2).2).2.2 = _
    rw [countS_err hy, insS_err hy, countS_err hy, outsS_err hy]
theorem get_cut (t : Tr) (h : TrOk t) (hf : formB t = true) (k : Nat) (hk : k < (txB t).length) : gtE ((txB t).take k) = 4 ∧ whE ((txB t).take k) = 4 ∧ whT ((txB t).take k) = noTr := by
  have e : gtE ((txB t).take k) = 4 := cut_tx t h hf k hk
  have e2 : whE ((txB t).take k) = 4 := by unfold whE; rw [if_pos (by rw [e]; decide), e]
  exact ⟨e, e2, by unfold whT; rw [if_neg (by rw [e2]; decide)]⟩
theorem var_one (x : Int) : 1 ≤ (var x).length ∧ (var x).length ≤ 9 := by have := var_length x; rcases size_cases x with ⟨_, h⟩ | ⟨_, _, h⟩ | ⟨_, _, h⟩ | ⟨_, h⟩ <;> omega
theorem txB_ge (t : Tr) : 6 ≤ (txB t).length := by
  have h1 := var_one (t.ins.length : Int)
  have h2 := var_one (t.outs.length : Int)
  simp only [txB, List.length_append, put_length]
  omega
theorem flat_le {α : Type} {f : α → List Int} {m : Nat} : ∀ (L : List α), (∀ x ∈ L, (f x).length ≤ m) → (L.flatMap f).length ≤ L.length * m
  | [], _ => by simp
  | x :: L, h => by
    have h1 := flat_le L (fun y hy => h y (by simp [hy]))
    have h2 := h x (by simp)
    simp only [List.flatMap_cons, List.length_append, List.length_cons, Nat.add_mul]
    omega
theorem txB_le (t : Tr) (h : TrOk t) (hf : formB t = true) : (txB t).length ≤ 2000 := by
  obtain ⟨h1, h2, h3⟩ := h
  obtain ⟨f1, f2, f3⟩ := (formB_iff t).1 hf
  have v1 := var_one (t.ins.length : Int)
  have v2 := var_one (t.outs.length : Int)
  have a1 := flat_le (f := inB) (m := 109) t.ins (fun x hx => by
    have := var_one (x.key.length : Int)
    have := f3 x hx
    have := (h2 x hx).1
    simp only [inB, List.length_append, put_length]
    omega)
  have a2 := flat_le (f := outB) (m := 40) t.outs (fun x hx => by
    have := (h3 x hx).2.1
    simp only [outB, List.length_append, put_length]
    omega)
  simp only [txB, List.length_append, put_length]
  omega

end Go.Proofs.YtjgainoplgojiabDoor
