/-
  What is read of bytes, step by step, as the document's Get goes: plain lists.
-/
import Derived.Test.YtjmifgdjmaelfaaTxP
namespace Go.Proofs.Ytjmifgdjmaelfaa

theorem takeS_full {n : Nat} {q : List Int} (h : n ≤ q.length) : takeS n (q, 0) = (q.take n, (q.drop n, 0)) := by
  have h1 : ¬ (q.length < n) := by omega
  simp [takeS, h1]
theorem takeS_short {n : Nat} {q : List Int} (h : q.length < n) : takeS n (q, 0) = ([], (q, 4)) := by simp [takeS, h]
theorem numS_full {n : Nat} {q : List Int} (h : n ≤ q.length) : numS n (q, 0) = (num (q.take n), (q.drop n, 0)) := by
  unfold numS; rw [takeS_full h]
theorem numS_short {n : Nat} {q : List Int} (h : q.length < n) : (numS n (q, 0)).2 = (q, 4) := by
  unfold numS; rw [takeS_short h]
theorem hashS_full {q : List Int} (h : 32 ≤ q.length) : hashS (q, 0) = (q.take 32, (q.drop 32, 0)) := by
  have h1 : (q.take 32).length = 32 := by simp; omega
  unfold hashS; rw [takeS_full h]; simp [pad32, h1]
theorem hashS_short {q : List Int} (h : q.length < 32) : (hashS (q, 0)).2 = (q, 4) := by
  unfold hashS; rw [takeS_short h]
theorem in_short {q : List Int} (h : q.length < 36) : (inS (q, 0)).2.2 = 4 := by
  have key : (numS 4 (hashS (q, 0)).2).2.2 = 4 := by
    by_cases h1 : q.length < 32
    · rw [hashS_short h1, numS_err (show ((q, 4) : RdS).2 ≠ 0 from by show (4 : Int) ≠ 0; decide)]
    · rw [hashS_full (by omega), numS_short (by simp; omega)]
  have hne : (numS 4 (hashS (q, 0)).2).2.2 ≠ 0 := by rw [key]; decide
  unfold inS
  simp only [countS_err hne, takeS_err hne]
  exact key
theorem in_full {q : List Int} (h : 36 ≤ q.length) :
    inS (q, 0) = (⟨q.take 32, num ((q.drop 32).take 4), (takeS (countS 64 (q.drop 36, 0)).1 (countS 64 (q.drop 36, 0)).2).1⟩, (takeS (countS 64 (q.drop 36, 0)).1 (countS 64 (q.drop 36, 0)).2).2) := by
  unfold inS
  rw [hashS_full (by omega)]
  simp only []
  rw [numS_full (by simp; omega)]
  simp [List.drop_drop]
theorem out_short {q : List Int} (h : q.length < 40) : (outS (q, 0)).2.2 = 4 := by
  unfold outS
  by_cases h1 : q.length < 8
  · simp only [numS_short h1]
    rw [hashS_err (show ((q, 4) : RdS).2 ≠ 0 from by show (4 : Int) ≠ 0; decide)]
  · rw [numS_full (by omega)]
    simp only []
    rw [hashS_short (by simp; omega)]
theorem out_full {q : List Int} (h : 40 ≤ q.length) : outS (q, 0) = (⟨num (q.take 8), (q.drop 8).take 32⟩, (q.drop 40, 0)) := by
  unfold outS
  rw [numS_full (by omega)]
  simp only []
  rw [hashS_full (by simp; omega)]
  simp [List.drop_drop]
theorem countS_read (most : Nat) (q : List Int) (hb : AllB q) (h : readE q = 0) (hx : ¬ ((most : Int) < readX q)) :
    ∃ m n : Nat, readX q = m ∧ readN q = n ∧ n ≤ q.length ∧ countS most (q, 0) = (m, (q.drop n, 0)) := by
  obtain ⟨n, hn, -, hl, -, -, h0, -⟩ := read_ok q hb h
  refine ⟨(readX q).toNat, n, by omega, hn, hl, ?_⟩
  simp [countS, h, hx, hn]
theorem countS_noread (most : Nat) (q : List Int) (h : readE q ≠ 0) : countS most (q, 0) = (0, (q, readE q)) := by simp [countS, h]
theorem countS_much (most : Nat) (q : List Int) (h : readE q = 0) (hx : (most : Int) < readX q) : countS most (q, 0) = (0, (q, 5)) := by simp [countS, h, hx]
/-! An error is the last word. -/
theorem insS_stay {s : RdS} {k : Nat} (h : (insS k s).2.2 ≠ 0) : ∀ j, (insS (k + j) s).2 = (insS k s).2
  | 0 => rfl
  | j + 1 => by
    show (inS (insS (k + j) s).2).2 = _
    rw [insS_stay h j]
    exact inS_err h
theorem outsS_stay {s : RdS} {k : Nat} (h : (outsS k s).2.2 ≠ 0) : ∀ j, (outsS (k + j) s).2 = (outsS k s).2
  | 0 => rfl
  | j + 1 => by
    show (outS (outsS (k + j) s).2).2 = _
    rw [outsS_stay h j]
    exact outS_err h
theorem gt_short {l : List Int} (h : l.length < 4) : gtE l = 4 := by
  have e := numS_short h
  have hne : (numS 4 (l, 0)).2.2 ≠ 0 := by rw [e]; show (4 : Int) ≠ 0; decide
  unfold gtE txS
  simp only [countS_err hne, insS_err hne, outsS_err hne]
  rw [e]
/-- Behind the number: what the count says, and the rows. -/
theorem gt_count {l : List Int} (h : 4 ≤ l.length) : txS (l, 0) =
    (⟨num (l.take 4), (insS (countS 8 (l.drop 4, 0)).1 (countS 8 (l.drop 4, 0)).2).1, (outsS (countS 8 (insS (countS 8 (l.drop 4, 0)).1 (countS 8 (l.drop 4, 0)).2).2).1 (countS 8 (insS (countS 8 (l.drop 4, 0)).1 (countS 8 (l.drop 4, 0)).2).2).2).1⟩,
      (outsS (countS 8 (insS (countS 8 (l.drop 4, 0)).1 (countS 8 (l.drop 4, 0)).2).2).1 (countS 8 (insS (countS 8 (l.drop 4, 0)).1 (countS 8 (l.drop 4, 0)).2).2).2).2) := by
  unfold txS
  rw [numS_full h]
theorem gt_e1 {l : List Int} (h : 4 ≤ l.length) (e : (countS 8 (l.drop 4, 0)).2.2 ≠ 0) : gtE l = (countS 8 (l.drop 4, 0)).2.2 := by
  unfold gtE
  rw [gt_count h]
  simp only [insS_err e, countS_err e, outsS_err e]
theorem gt_e2 {l : List Int} (h : 4 ≤ l.length) {k : Nat} (hk : k ≤ (countS 8 (l.drop 4, 0)).1) (e : (insS k (countS 8 (l.drop 4, 0)).2).2.2 ≠ 0) : gtE l = (insS k (countS 8 (l.drop 4, 0)).2).2.2 := by
  obtain ⟨j, hj⟩ : ∃ j, (countS 8 (l.drop 4, 0)).1 = k + j := ⟨_, (Nat.add_sub_cancel' hk).symm⟩
  have hs := insS_stay e j
  unfold gtE
  rw [gt_count h, hj]
  simp only [hs, countS_err e, outsS_err e]
theorem gt_e3 {l : List Int} (h : 4 ≤ l.length) (e : (countS 8 (insS (countS 8 (l.drop 4, 0)).1 (countS 8 (l.drop 4, 0)).2).2).2.2 ≠ 0) : gtE l = (countS 8 (insS (countS 8 (l.drop 4, 0)).1 (countS 8 (l.drop 4, 0)).2).2).2.2 := by
  unfold gtE
  rw [gt_count h]
  simp only [outsS_err e]
theorem gt_e4 {l : List Int} (h : 4 ≤ l.length) {k : Nat} (hk : k ≤ (countS 8 (insS (countS 8 (l.drop 4, 0)).1 (countS 8 (l.drop 4, 0)).2).2).1)
    (e : (outsS k (countS 8 (insS (countS 8 (l.drop 4, 0)).1 (countS 8 (l.drop 4, 0)).2).2).2).2.2 ≠ 0) : gtE l = (outsS k (countS 8 (insS (countS 8 (l.drop 4, 0)).1 (countS 8 (l.drop 4, 0)).2).2).2).2.2 := by
  obtain ⟨j, hj⟩ : ∃ j, (countS 8 (insS (countS 8 (l.drop 4, 0)).1 (countS 8 (l.drop 4, 0)).2).2).1 = k + j := ⟨_, (Nat.add_sub_cancel' hk).symm⟩
  have hs := outsS_stay e j
  unfold gtE
  rw [gt_count h, hj]
  simp only [hs]

end Go.Proofs.Ytjmifgdjmaelfaa
