/-
  Plain transactions, with no word of the program: as bytes, what is read of bytes; what is put is read, cut off it is too short, what is read has been put so.
-/
import Derived.Test.YtjgainoplgojiabDoorOctPure
namespace Go.Proofs.YtjgainoplgojiabDoor

structure TIn where
  tx : List Int
  n : Int
  key : List Int
structure TOut where
  val : Int
  lock : List Int
structure Tr where
  ver : Int
  ins : List TIn
  outs : List TOut
def AllB (l : List Int) : Prop := ∀ z ∈ l, Byte z
def InOk (x : TIn) : Prop := x.tx.length = 32 ∧ AllB x.tx ∧ (0 ≤ x.n ∧ x.n < 4294967296) ∧ AllB x.key
def OutOk (x : TOut) : Prop := (0 ≤ x.val ∧ x.val < 18446744073709551616) ∧ x.lock.length = 32 ∧ AllB x.lock
def TrOk (t : Tr) : Prop := (0 ≤ t.ver ∧ t.ver < 4294967296) ∧ (∀ x ∈ t.ins, InOk x) ∧ ∀ x ∈ t.outs, OutOk x
/-- As bytes. -/
def inB (x : TIn) : List Int := x.tx ++ (put 4 x.n ++ (var (x.key.length : Int) ++ x.key))
def outB (x : TOut) : List Int := put 8 x.val ++ x.lock
def txB (t : Tr) : List Int := put 4 t.ver ++ (var (t.ins.length : Int) ++ (t.ins.flatMap inB ++ (var (t.outs.length : Int) ++ t.outs.flatMap outB)))
/-- Has it a form? -/
def formB (t : Tr) : Bool := decide (t.ins.length ≤ 8) && decide (t.outs.length ≤ 8) && t.ins.all fun x => decide (x.key.length ≤ 64)
theorem formB_iff (t : Tr) : formB t = true ↔ t.ins.length ≤ 8 ∧ t.outs.length ≤ 8 ∧ ∀ x ∈ t.ins, x.key.length ≤ 64 := by
  simp [formB, and_assoc]

/-! What is read: the bytes that are left, and the first error. -/
abbrev RdS := List Int × Int
def takeS (n : Nat) (s : RdS) : List Int × RdS := if s.2 ≠ 0 then ([], s) else if s.1.length < n then ([], (s.1, 4)) else (s.1.take n, (s.1.drop n, 0))
def countS (most : Nat) (s : RdS) : Nat × RdS :=
  if s.2 ≠ 0 then (0, s) else if readE s.1 ≠ 0 then (0, (s.1, readE s.1)) else if (most : Int) < readX s.1 then (0, (s.1, 5)) else ((readX s.1).toNat, (s.1.drop (readN s.1).toNat, 0))
def numS (n : Nat) (s : RdS) : Int × RdS := (num (takeS n s).1, (takeS n s).2)
def pad32 (l : List Int) : List Int := l ++ List.replicate (32 - l.length) 0
def hashS (s : RdS) : List Int × RdS := (pad32 (takeS 32 s).1, (takeS 32 s).2)
def inS (s : RdS) : TIn × RdS :=
  (⟨(hashS s).1, (numS 4 (hashS s).2).1, (takeS (countS 64 (numS 4 (hashS s).2).2).1 (countS 64 (numS 4 (hashS s).2).2).2).1⟩, (takeS (countS 64 (numS 4 (hashS s).2).2).1 (countS 64 (numS 4 (hashS s).2).2).2).2)
def outS (s : RdS) : TOut × RdS := (⟨(numS 8 s).1, (hashS (numS 8 s).2).1⟩, (hashS (numS 8 s).2).2)
def insS : Nat → RdS → List TIn × RdS
  | 0, s => ([], s)
  | k + 1, s => ((insS k s).1 ++ [(inS (insS k s).2).1], (inS (insS k s).2).2)
def outsS : Nat → RdS → List TOut × RdS
  | 0, s => ([], s)
  | k + 1, s => ((outsS k s).1 ++ [(outS (outsS k s).2).1], (outS (outsS k s).2).2)
def txS (s : RdS) : Tr × RdS :=
  (⟨(numS 4 s).1, (insS (countS 8 (numS 4 s).2).1 (countS 8 (numS 4 s).2).2).1, (outsS (countS 8 (insS (countS 8 (numS 4 s).2).1 (countS 8 (numS 4 s).2).2).2).1 (countS 8 (insS (countS 8 (numS 4 s).2).1 (countS 8 (numS 4 s).2).2).2).2).1⟩,
    (outsS (countS 8 (insS (countS 8 (numS 4 s).2).1 (countS 8 (numS 4 s).2).2).2).1 (countS 8 (insS (countS 8 (numS 4 s).2).1 (countS 8 (numS 4 s).2).2).2).2).2)
def noTr : Tr := ⟨0, [], []⟩
/-- What Get answers. -/
def gtE (b : List Int) : Int := (txS (b, 0)).2.2
def gtT (b : List Int) : Tr := if gtE b = 0 then (txS (b, 0)).1 else noTr
def gtN (b : List Int) : Int := if gtE b = 0 then (b.length : Int) - ((txS (b, 0)).2.1.length : Int) else 0
/-- What Whole answers. -/
def whE (b : List Int) : Int := if gtE b ≠ 0 then gtE b else if gtN b < b.length then 5 else 0
def whT (b : List Int) : Tr := if whE b = 0 then gtT b else noTr

/-! An error stays. -/
theorem takeS_err {n : Nat} {s : RdS} (h : s.2 ≠ 0) : takeS n s = ([], s) := by unfold takeS; rw [if_pos h]
theorem countS_err {n : Nat} {s : RdS} (h : s.2 ≠ 0) : countS n s = (0, s) := by unfold countS; rw [if_pos h]
theorem numS_err {n : Nat} {s : RdS} (h : s.2 ≠ 0) : (numS n s).2 = s := by unfold numS; rw [takeS_err h]
theorem hashS_err {s : RdS} (h : s.2 ≠ 0) : (hashS s).2 = s := by unfold hashS; rw [takeS_err h]
theorem inS_err {s : RdS} (h : s.2 ≠ 0) : (inS s).2 = s := by
  unfold inS
  simp only [hashS_err h, numS_err h, countS_err h, takeS_err h]
theorem outS_err {s : RdS} (h : s.2 ≠ 0) : (outS s).2 = s := by
  unfold outS
  simp only [hashS_err h, numS_err h]
theorem insS_err {s : RdS} (h : s.2 ≠ 0) : ∀ k, (insS k s).2 = s
  | 0 => rfl
  | k + 1 => by rw [insS, insS_err h k]; exact inS_err h
theorem outsS_err {s : RdS} (h : s.2 ≠ 0) : ∀ k, (outsS k s).2 = s
  | 0 => rfl
  | k + 1 => by rw [outsS, outsS_err h k]; exact outS_err h

/-! What is left is ever an end of what there was. -/
theorem AllB.drop {l : List Int} (h : AllB l) (n : Nat) : AllB (l.drop n) := fun z hz => h z (List.mem_of_mem_drop hz)
theorem AllB.take {l : List Int} (h : AllB l) (n : Nat) : AllB (l.take n) := fun z hz => h z (List.mem_of_mem_take hz)
theorem AllB.nil : AllB [] := fun _ h => by cases h
theorem AllB.append {l m : List Int} (h : AllB l) (k : AllB m) : AllB (l ++ m) := fun z hz => by
  rcases List.mem_append.1 hz with q | q
  · exact h z q
  · exact k z q
theorem AllB.left {l m : List Int} (h : AllB (l ++ m)) : AllB l := fun z hz => h z (List.mem_append.2 (Or.inl hz))
theorem AllB.right {l m : List Int} (h : AllB (l ++ m)) : AllB m := fun z hz => h z (List.mem_append.2 (Or.inr hz))
theorem takeS_all {n : Nat} {s : RdS} (h : AllB s.1) : AllB (takeS n s).1 ∧ AllB (takeS n s).2.1 ∧ (takeS n s).2.1.length ≤ s.1.length ∧ (takeS n s).1.length ≤ n := by
  unfold takeS
  split
  · exact ⟨.nil, h, Nat.le_refl _, Nat.zero_le _⟩
  · split
    · exact ⟨.nil, h, Nat.le_refl _, Nat.zero_le _⟩
    · exact ⟨h.take n, h.drop n, by simp, by simp; omega⟩
theorem takeS_len (n : Nat) (s : RdS) : (takeS n s).1.length = n ∨ (takeS n s).1 = [] := by
  unfold takeS
  split
  · exact Or.inr rfl
  · split
    · exact Or.inr rfl
    · exact Or.inl (by simp; omega)
theorem countS_all {n : Nat} {s : RdS} (h : AllB s.1) : AllB (countS n s).2.1 ∧ (countS n s).1 ≤ n ∧ (countS n s).2.1.length ≤ s.1.length := by
  unfold countS
  split
  · exact ⟨h, Nat.zero_le _, Nat.le_refl _⟩
  · split
    · exact ⟨h, Nat.zero_le _, Nat.le_refl _⟩
    · split
      · exact ⟨h, Nat.zero_le _, Nat.le_refl _⟩
      · exact ⟨h.drop _, by show (readX s.1).toNat ≤ n; omega, by simp⟩
theorem pad32_ok {l : List Int} (h : AllB l) (hl : l.length ≤ 32) : AllB (pad32 l) ∧ (pad32 l).length = 32 := by
  refine ⟨h.append fun z hz => ?_, by simp [pad32]; omega⟩
  have := (List.mem_replicate.1 hz).2
  subst this
  exact ⟨by omega, by omega⟩
theorem num_u32 {l : List Int} (h : AllB l) (hl : l.length ≤ 4) : 0 ≤ num l ∧ num l < 4294967296 := by
  refine ⟨num_nonneg l h, ?_⟩
  have := num_lt l h
  generalize num l = y at *
  generalize l.length = n at *
  rcases (show n = 0 ∨ n = 1 ∨ n = 2 ∨ n = 3 ∨ n = 4 by omega) with rfl | rfl | rfl | rfl | rfl <;> simp at this <;> omega
theorem num_u64 {l : List Int} (h : AllB l) (hl : l.length ≤ 8) : 0 ≤ num l ∧ num l < 18446744073709551616 := by
  refine ⟨num_nonneg l h, ?_⟩
  have := num_lt l h
  generalize num l = y at *
  generalize l.length = n at *
  rcases (show n = 0 ∨ n = 1 ∨ n = 2 ∨ n = 3 ∨ n = 4 ∨ n = 5 ∨ n = 6 ∨ n = 7 ∨ n = 8 by omega) with rfl | rfl | rfl | rfl | rfl | rfl | rfl | rfl | rfl <;> simp at this <;> omega
theorem hashS_all {s : RdS} (h : AllB s.1) : AllB (hashS s).1 ∧ (hashS s).1.length = 32 ∧ AllB (hashS s).2.1 ∧ (hashS s).2.1.length ≤ s.1.length := by
  obtain ⟨h1, h2, h3, h4⟩ := takeS_all (n := 32) h
  obtain ⟨k1, k2⟩ := pad32_ok h1 h4
  exact ⟨k1, k2, h2, h3⟩
theorem inS_all {s : RdS} (h : AllB s.1) : InOk (inS s).1 ∧ (inS s).1.key.length ≤ 64 ∧ AllB (inS s).2.1 ∧ (inS s).2.1.length ≤ s.1.length := by
  obtain ⟨h1, h2, h3, h4⟩ := hashS_all h
  obtain ⟨k1, k2, k3, k4⟩ := takeS_all (n := 4) h3
  obtain ⟨c1, c2, c3⟩ := countS_all (n := 64) (s := (numS 4 (hashS s).2).2) k2
  obtain ⟨t1, t2, t3, t4⟩ := takeS_all (n := (countS 64 (numS 4 (hashS s).2).2).1) c1
  exact ⟨⟨h2, h1, num_u32 k1 k4, t1⟩, Nat.le_trans t4 c2, t2, Nat.le_trans t3 (Nat.le_trans c3 (Nat.le_trans k3 h4))⟩
theorem outS_all {s : RdS} (h : AllB s.1) : OutOk (outS s).1 ∧ AllB (outS s).2.1 ∧ (outS s).2.1.length ≤ s.1.length := by
  obtain ⟨k1, k2, k3, k4⟩ := takeS_all (n := 8) h
  obtain ⟨h1, h2, h3, h4⟩ := hashS_all (s := (numS 8 s).2) k2
  exact ⟨⟨num_u64 k1 k4, h2, h1⟩, h3, Nat.le_trans h4 k3⟩
theorem insS_all {s : RdS} (h : AllB s.1) : ∀ k, (insS k s).1.length = k ∧ (∀ x ∈ (insS k s).1, InOk x ∧ x.key.length ≤ 64) ∧ AllB (insS k s).2.1 ∧ (insS k s).2.1.length ≤ s.1.length
  | 0 => ⟨rfl, fun _ h => (by cases h), h, Nat.le_refl _⟩
  | k + 1 => by
    obtain ⟨h1, h2, h3, h4⟩ := insS_all h k
    obtain ⟨k1, k2, k3, k4⟩ := inS_all h3
    refine ⟨by simp [insS, h1], fun x hx => ?_, k3, Nat.le_trans k4 h4⟩
    rcases List.mem_append.1 hx with q | q
    · exact h2 x q
    · have e := List.mem_singleton.1 q
      rw [e]
      exact ⟨k1, k2⟩
theorem outsS_all {s : RdS} (h : AllB s.1) : ∀ k, (outsS k s).1.length = k ∧ (∀ x ∈ (outsS k s).1, OutOk x) ∧ AllB (outsS k s).2.1 ∧ (outsS k s).2.1.length ≤ s.1.length
  | 0 => ⟨rfl, fun _ h => (by cases h), h, Nat.le_refl _⟩
  | k + 1 => by
    obtain ⟨h1, h2, h3, h4⟩ := outsS_all h k
    obtain ⟨k1, k3, k4⟩ := outS_all h3
    refine ⟨by simp [outsS, h1], fun x hx => ?_, k3, Nat.le_trans k4 h4⟩
    rcases List.mem_append.1 hx with q | q
    · exact h2 x q
    · have e := List.mem_singleton.1 q
      rw [e]
      exact k1
theorem txS_all {s : RdS} (h : AllB s.1) : TrOk (txS s).1 ∧ formB (txS s).1 = true ∧ AllB (txS s).2.1 ∧ (txS s).2.1.length ≤ s.1.length := by
  obtain ⟨k1, k2, k3, k4⟩ := takeS_all (n := 4) h
  obtain ⟨c1, c2, c3⟩ := countS_all (n := 8) (s := (numS 4 s).2) k2
  obtain ⟨i1, i2, i3, i4⟩ := insS_all (s := (countS 8 (numS 4 s).2).2) c1 (countS 8 (numS 4 s).2).1
  obtain ⟨d1, d2, d3⟩ := countS_all (n := 8) (s := (insS (countS 8 (numS 4 s).2).1 (countS 8 (numS 4 s).2).2).2) i3
  obtain ⟨o1, o2, o3, o4⟩ := outsS_all d1 (countS 8 (insS (countS 8 (numS 4 s).2).1 (countS 8 (numS 4 s).2).2).2).1
  refine ⟨⟨num_u32 k1 k4, fun x hx => (i2 x hx).1, o2⟩, (formB_iff _).2 ⟨?_, ?_, fun x hx => (i2 x hx).2⟩, o3, Nat.le_trans o4 (Nat.le_trans d3 (Nat.le_trans i4 (Nat.le_trans c3 k3)))⟩
  · exact Nat.le_trans (Nat.le_of_eq i1) c2
  · exact Nat.le_trans (Nat.le_of_eq o1) d2

/-! What is read without an error has been put so. -/
theorem takeS_ok {n : Nat} {s : RdS} (h : (takeS n s).2.2 = 0) : s.2 = 0 ∧ s.1 = (takeS n s).1 ++ (takeS n s).2.1 ∧ (takeS n s).1.length = n := by
  unfold takeS at *
  split at h
  · rename_i q; exact absurd h q
  · rename_i q
    split at h
    · simp at h
    · rename_i q2
      rw [if_neg q, if_neg q2]
      exact ⟨by simpa using q, (List.take_append_drop n s.1).symm, by simp; omega⟩
theorem countS_ok {n : Nat} {s : RdS} (hb : AllB s.1) (h : (countS n s).2.2 = 0) : s.2 = 0 ∧ s.1 = var ((countS n s).1 : Int) ++ (countS n s).2.1 := by
  unfold countS at *
  split at h
  · rename_i q; exact absurd h q
  · rename_i q
    split at h
    · rename_i q2; exact absurd h q2
    · rename_i q2
      split at h
      · simp at h
      · rename_i q3
        rw [if_neg q, if_neg q2, if_neg q3]
        obtain ⟨m, hm, -, hm2, -, hv, h0, -⟩ := read_ok s.1 hb (by simpa using q2)
        refine ⟨by simpa using q, ?_⟩
        show s.1 = var ((readX s.1).toNat : Int) ++ s.1.drop (readN s.1).toNat
        rw [hm, show (((readX s.1).toNat : Nat) : Int) = readX s.1 by omega, hv, Int.toNat_natCast]
        exact (List.take_append_drop m s.1).symm
theorem numS_ok {n : Nat} {s : RdS} (hb : AllB s.1) (h : (numS n s).2.2 = 0) : s.2 = 0 ∧ s.1 = put n (numS n s).1 ++ (numS n s).2.1 := by
  obtain ⟨h1, h2, h3⟩ := takeS_ok (n := n) h
  refine ⟨h1, ?_⟩
  have := put_num _ (takeS_all (n := n) hb).1
  rw [h3] at this
  show s.1 = put n (num (takeS n s).1) ++ (takeS n s).2.1
  rw [this]
  exact h2
theorem hashS_ok {s : RdS} (h : (hashS s).2.2 = 0) : s.2 = 0 ∧ s.1 = (hashS s).1 ++ (hashS s).2.1 := by
  obtain ⟨h1, h2, h3⟩ := takeS_ok (n := 32) h
  refine ⟨h1, ?_⟩
  show s.1 = pad32 (takeS 32 s).1 ++ (takeS 32 s).2.1
  unfold pad32
  rw [h3]
  simpa using h2
theorem inS_ok {s : RdS} (hb : AllB s.1) (h : (inS s).2.2 = 0) : s.2 = 0 ∧ s.1 = inB (inS s).1 ++ (inS s).2.1 := by
  have b1 := (hashS_all hb).2.2.1
  have b2 := (takeS_all (n := 4) b1).2.1
  have b3 := (countS_all (n := 64) (s := (numS 4 (hashS s).2).2) b2).1
  obtain ⟨t1, t2, t3⟩ := takeS_ok (n := (countS 64 (numS 4 (hashS s).2).2).1) h
  obtain ⟨c1, c2⟩ := countS_ok (n := 64) (s := (numS 4 (hashS s).2).2) b2 t1
  obtain ⟨n1, n2⟩ := numS_ok (n := 4) b1 c1
  obtain ⟨a1, a2⟩ := hashS_ok n1
  refine ⟨a1, ?_⟩
  have e : inB (inS s).1 ++ (inS s).2.1 = (hashS s).1 ++ (put 4 (numS 4 (hashS s).2).1 ++ (var ((countS 64 (numS 4 (hashS s).2).2).1 : Int) ++ ((takeS (countS 64 (numS 4 (hashS s).2).2).1 (countS 64 (numS 4 (hashS s).2).2).2).1 ++ (takeS (countS 64 (numS 4 (hashS s).2).2).1 (countS 64 (numS 4 (hashS s).2).2).2).2.1))) := by
    show ((hashS s).1 ++ (put 4 (numS 4 (hashS s).2).1 ++ (var (((takeS (countS 64 (numS 4 (hashS s).2).2).1 (countS 64 (numS 4 (hashS s).2).2).2).1.length : Nat) : Int) ++ (takeS (countS 64 (numS 4 (hashS s).2).2).1 (countS 64 (numS 4 (hashS s).2).2).2).1))) ++ (takeS (countS 64 (numS 4 (hashS s).2).2).1 (countS 64 (numS 4 (hashS s).2).2).2).2.1 = _
    rw [t3]
    simp only [List.append_assoc]
  rw [e, ← t2, ← c2, ← n2]
  exact a2
theorem outS_ok {s : RdS} (hb : AllB s.1) (h : (outS s).2.2 = 0) : s.2 = 0 ∧ s.1 = outB (outS s).1 ++ (outS s).2.1 := by
  obtain ⟨a1, a2⟩ := hashS_ok (s := (numS 8 s).2) h
  obtain ⟨n1, n2⟩ := numS_ok (n := 8) hb a1
  refine ⟨n1, ?_⟩
  show s.1 = (put 8 (numS 8 s).1 ++ (hashS (numS 8 s).2).1) ++ (hashS (numS 8 s).2).2.1
  rw [List.append_assoc, ← a2]
  exact n2
theorem insS_ok {s : RdS} (hb : AllB s.1) : ∀ k, (insS k s).2.2 = 0 → s.2 = 0 ∧ s.1 = (insS k s).1.flatMap inB ++ (insS k s).2.1
  | 0, h => ⟨h, rfl⟩
  | k + 1, h => by
    obtain ⟨h1, h2⟩ := inS_ok (insS_all hb k).2.2.1 h
    obtain ⟨k1, k2⟩ := insS_ok hb k h1
    refine ⟨k1, ?_⟩
    show s.1 = ((insS k s).1 ++ [(inS (insS k s).2).1]).flatMap inB ++ (inS (insS k s).2).2.1
    rw [List.flatMap_append, List.append_assoc]
    simp only [List.flatMap_cons, List.flatMap_nil, List.append_nil]
    rw [← h2]
    exact k2
theorem outsS_ok {s : RdS} (hb : AllB s.1) : ∀ k, (outsS k s).2.2 = 0 → s.2 = 0 ∧ s.1 = (outsS k s).1.flatMap outB ++ (outsS k s).2.1
  | 0, h => ⟨h, rfl⟩
  | k + 1, h => by
    obtain ⟨h1, h2⟩ := outS_ok (outsS_all hb k).2.2.1 h
    obtain ⟨k1, k2⟩ := outsS_ok hb k h1
    refine ⟨k1, ?_⟩
    show s.1 = ((outsS k s).1 ++ [(outS (outsS k s).2).1]).flatMap outB ++ (outS (outsS k s).2).2.1
    rw [List.flatMap_append, List.append_assoc]
    simp only [List.flatMap_cons, List.flatMap_nil, List.append_nil]
    rw [← h2]
    exact k2
theorem txS_ok {s : RdS} (hb : AllB s.1) (h : (txS s).2.2 = 0) : s.2 = 0 ∧ s.1 = txB (txS s).1 ++ (txS s).2.1 := by
  have b1 := (takeS_all (n := 4) hb).2.1
  have b2 := (countS_all (n := 8) (s := (numS 4 s).2) b1).1
  have b3 := (insS_all b2 (countS 8 (numS 4 s).2).1)
  have b4 := (countS_all (n := 8) (s := (insS (countS 8 (numS 4 s).2).1 (countS 8 (numS 4 s).2).2).2) b3.2.2.1).1
  obtain ⟨o1, o2⟩ := outsS_ok b4 _ h
  obtain ⟨d1, d2⟩ := countS_ok b3.2.2.1 o1
  obtain ⟨i1, i2⟩ := insS_ok b2 _ d1
  obtain ⟨c1, c2⟩ := countS_ok (s := (numS 4 s).2) b1 i1
  obtain ⟨n1, n2⟩ := numS_ok hb c1
  refine ⟨n1, ?_⟩
  have e1 := b3.1
  have e2 := (outsS_all b4 (countS 8 (insS (countS 8 (numS 4 s).2).1 (countS 8 (numS 4 s).2).2).2).1).1
  unfold txB
  show s.1 = (put 4 (numS 4 s).1 ++ (var (((insS (countS 8 (numS 4 s).2).1 (countS 8 (numS 4 s).2).2).1.length : Nat) : Int) ++ ((insS (countS 8 (numS 4 s).2).1 (countS 8 (numS 4 s).2).2).1.flatMap inB ++
    (var (((outsS (countS 8 (insS (countS 8 (numS 4 s).2).1 (countS 8 (numS 4 s).2).2).2).1 (countS 8 (insS (countS 8 (numS 4 s).2).1 (countS 8 (numS 4 s).2).2).2).2).1.length : Nat) : Int) ++ (outsS (countS 8 (insS (countS 8 (numS 4 s).2).1 (countS 8 (numS 4 s).2).2).2).1 (countS 8 (insS (countS 8 (numS 4 s).2).1 (countS 8 (numS 4 s).2).2).2).2).1.flatMap outB)))) ++
    (outsS (countS 8 (insS (countS 8 (numS 4 s).2).1 (countS 8 (numS 4 s).2).2).2).1 (countS 8 (insS (countS 8 (numS 4 s).2).1 (countS 8 (numS 4 s).2).2).2).2).2.1
  rw [e1, e2]
  simp only [List.append_assoc]
  rw [← o2, ← d2, ← i2, ← c2]
  exact n2
theorem get_ok {b : List Int} (hb : AllB b) (h : gtE b = 0) : ∃ n : Nat, gtN b = n ∧ n ≤ b.length ∧ txB (gtT b) = b.take n ∧ TrOk (gtT b) ∧ formB (gtT b) = true := by
  obtain ⟨-, h2⟩ := txS_ok (s := (b, 0)) hb h
  obtain ⟨t1, t2, t3, t4⟩ := txS_all (s := (b, 0)) hb
  have ht : gtT b = (txS (b, 0)).1 := by unfold gtT; rw [if_pos h]
  have hl : b.length = (txB (txS (b, 0)).1).length + (txS (b, 0)).2.1.length := by
    have := congrArg List.length h2
    simpa using this
  refine ⟨(txB (gtT b)).length, ?_, ?_, ?_, by rw [ht]; exact t1, by rw [ht]; exact t2⟩
  · unfold gtN
    rw [if_pos h, ht]
    omega
  · rw [ht]; omega
  · rw [ht]
    have h2' : b = txB (txS (b, 0)).1 ++ (txS (b, 0)).2.1 := h2
    generalize txB (txS (b, 0)).1 = A at *
    generalize (txS (b, 0)).2.1 = C at *
    subst h2'
    simp
theorem get_bad {b : List Int} (h : gtE b ≠ 0) : gtT b = noTr ∧ gtN b = 0 := by
  unfold gtT gtN
  rw [if_neg h, if_neg h]
  exact ⟨rfl, rfl⟩

/-! What is put is read. -/
theorem takeS_put (l r : List Int) (n : Nat) (hn : l.length = n) : takeS n (l ++ r, 0) = (l, (r, 0)) := by
  subst hn
  simp [takeS]
theorem countS_put (c m : Nat) (h : c ≤ m) (hm : m ≤ 64) (r : List Int) : countS m (var (c : Int) ++ r, 0) = (c, (r, 0)) := by
  obtain ⟨h1, h2, h3⟩ := read_var (c : Int) (by omega) (by omega) r
  have hx : ¬ ((m : Int) < (c : Int)) := by omega
  simp [countS, h1, h2, h3, hx]
theorem numS_put (x : Int) (n : Nat) (h0 : 0 ≤ x) (h1 : x < 256 ^ n) (r : List Int) : numS n (put n x ++ r, 0) = (x, (r, 0)) := by
  unfold numS
  rw [takeS_put _ _ n (put_length n x)]
  show (num (put n x), _) = _
  rw [num_put n x h0 h1]
theorem hashS_put (l r : List Int) (hl : l.length = 32) : hashS (l ++ r, 0) = (l, (r, 0)) := by
  unfold hashS
  rw [takeS_put _ _ 32 hl]
  simp [pad32, hl]
theorem inS_put (x : TIn) (h : InOk x) (hk : x.key.length ≤ 64) (r : List Int) : inS (inB x ++ r, 0) = (x, (r, 0)) := by
  obtain ⟨h1, h2, h3, h4⟩ := h
  unfold inS inB
  simp only [List.append_assoc]
  rw [hashS_put _ _ h1]
  simp only []
  rw [numS_put x.n 4 h3.1 (by simpa using h3.2)]
  simp only []
  rw [countS_put _ 64 hk (by omega)]
  simp only []
  rw [takeS_put _ _ _ rfl]
theorem outS_put (x : TOut) (h : OutOk x) (r : List Int) : outS (outB x ++ r, 0) = (x, (r, 0)) := by
  obtain ⟨h1, h2, h3⟩ := h
  unfold outS outB
  simp only [List.append_assoc]
  rw [numS_put x.val 8 h1.1 (by simpa using h1.2)]
  simp only []
  rw [hashS_put _ _ h2]
theorem insS_put (L : List TIn) (h : ∀ x ∈ L, InOk x ∧ x.key.length ≤ 64) (r : List Int) : ∀ k, k ≤ L.length → insS k (L.flatMap inB ++ r, 0) = (L.take k, ((L.drop k).flatMap inB ++ r, 0))
  | 0, _ => by simp [insS]
  | k + 1, hk => by
    have hlt : k < L.length := by omega
    rw [insS, insS_put L h r k (by omega)]
    have hx := h L[k] (List.getElem_mem hlt)
    have e : (L.drop k).flatMap inB ++ r = inB L[k] ++ ((L.drop (k + 1)).flatMap inB ++ r) := by
      rw [List.drop_eq_getElem_cons hlt, List.flatMap_cons, List.append_assoc]
    simp only []
    rw [e, inS_put _ hx.1 hx.2]
    simp only []
    rw [List.take_succ_eq_append_getElem hlt]
theorem outsS_put (L : List TOut) (h : ∀ x ∈ L, OutOk x) (r : List Int) : ∀ k, k ≤ L.length → outsS k (L.flatMap outB ++ r, 0) = (L.take k, ((L.drop k).flatMap outB ++ r, 0))
  | 0, _ => by simp [outsS]
  | k + 1, hk => by
    have hlt : k < L.length := by omega
    rw [outsS, outsS_put L h r k (by omega)]
    have hx := h L[k] (List.getElem_mem hlt)
    have e : (L.drop k).flatMap outB ++ r = outB L[k] ++ ((L.drop (k + 1)).flatMap outB ++ r) := by
      rw [List.drop_eq_getElem_cons hlt, List.flatMap_cons, List.append_assoc]
    simp only []
    rw [e, outS_put _ hx]
    simp only []
    rw [List.take_succ_eq_append_getElem hlt]
theorem txS_put (t : Tr) (h : TrOk t) (hf : formB t = true) (r : List Int) : txS (txB t ++ r, 0) = (t, (r, 0)) := by
  obtain ⟨h1, h2, h3⟩ := h
  obtain ⟨f1, f2, f3⟩ := (formB_iff t).1 hf
  unfold txS txB
  simp only [List.append_assoc]
  rw [numS_put t.ver 4 h1.1 (by simpa using h1.2)]
  simp only []
  rw [countS_put _ 8 f1 (by omega)]
  simp only []
  rw [insS_put t.ins (fun x hx => ⟨h2 x hx, f3 x hx⟩) _ _ (Nat.le_refl _)]
  simp only [List.take_length, List.drop_length, List.flatMap_nil, List.nil_append]
  rw [countS_put _ 8 f2 (by omega)]
  simp only []
  rw [outsS_put t.outs h3 _ _ (Nat.le_refl _)]
  simp
theorem get_put (t : Tr) (h : TrOk t) (hf : formB t = true) (r : List Int) : gtE (txB t ++ r) = 0 ∧ gtT (txB t ++ r) = t ∧ gtN (txB t ++ r) = ((txB t).length : Int) := by
  have e := txS_put t h hf r
  have hE : gtE (txB t ++ r) = 0 := by unfold gtE; rw [e]
  refine ⟨hE, ?_, ?_⟩
  · unfold gtT; rw [if_pos hE, e]
  · unfold gtN; rw [if_pos hE, e]; simp
theorem txB_all {t : Tr} (h : TrOk t) : AllB (txB t) := by
  obtain ⟨h1, h2, h3⟩ := h
  refine AllB.append (put_byte 4 _) (AllB.append (var_byte _ (by omega)) (AllB.append ?_ (AllB.append (var_byte _ (by omega)) ?_)))
  · intro z hz
    obtain ⟨x, hx, hz⟩ := List.mem_flatMap.1 hz
    obtain ⟨a, b, c, d⟩ := h2 x hx
    exact (b.append (AllB.append (put_byte 4 _) (AllB.append (var_byte _ (by omega)) d))) z hz
  · intro z hz
    obtain ⟨x, hx, hz⟩ := List.mem_flatMap.1 hz
    obtain ⟨a, b, c⟩ := h3 x hx
    exact (AllB.append (put_byte 8 _) c) z hz

end Go.Proofs.YtjgainoplgojiabDoor
