import Derived.Test.YtbeegcpmpgdbnaaDoorKit
/-
  Plain lists, with no word of the program: what is written is read, cut off it is too short, what is read has been written so.
-/
namespace Go.Proofs.YtbeegcpmpgdbnaaDoor

/-- What is read where the first byte says that more follow, and they are there. -/
theorem var_mid (l : List Int) (m : Nat) (hl : ∀ z ∈ l, Byte z) (hlead : lead l = m + 1) (hm : m = 2 ∨ m = 4 ∨ m = 8) (hlen : m + 1 ≤ l.length) (hc : (m = 2 → l.getD 0 0 = 253) ∧ (m = 4 → l.getD 0 0 = 254) ∧ (m = 8 → l.getD 0 0 = 255)) :
    var (mid l) = l.take (m + 1) ↔ size (mid l) = (m + 1 : Nat) := by
  have hq : (l.take (m + 1)).drop 1 = (l.drop 1).take m := by rw [List.drop_take]; simp
  have hql : ((l.drop 1).take m).length = m := by simp; omega
  have hqb : ∀ z ∈ (l.drop 1).take m, Byte z := fun z hz => hl z (List.mem_of_mem_drop (List.mem_of_mem_take hz))
  have hmid : mid l = num ((l.drop 1).take m) := by unfold mid; rw [hlead, hq]
  have hput : put m (mid l) = (l.drop 1).take m := by rw [hmid]; have := put_num _ hqb; rw [hql] at this; exact this
  have hhead : l.take (m + 1) = l.getD 0 0 :: (l.drop 1).take m := by
    cases l with
    | nil => simp at hlen
    | cons a l => simp [List.getD]
  constructor
  · intro h
    rw [← var_length, h]
    simp; omega
  · intro h
    rw [hhead, ← hput]
    rcases hm with rfl | rfl | rfl
    · rw [hc.1 rfl]
      rcases size_cases (mid l) with ⟨_, h'⟩ | ⟨h1, h2, h'⟩ | ⟨_, _, h'⟩ | ⟨_, h'⟩ <;> rw [h'] at h <;> simp at h
      unfold var
      rw [if_neg (by omega), if_pos h2]
    · rw [hc.2.1 rfl]
      rcases size_cases (mid l) with ⟨_, h'⟩ | ⟨_, _, h'⟩ | ⟨h1, h2, h'⟩ | ⟨_, h'⟩ <;> rw [h'] at h <;> simp at h
      unfold var
      rw [if_neg (by omega), if_neg (by omega), if_pos h2]
    · rw [hc.2.2 rfl]
      rcases size_cases (mid l) with ⟨_, h'⟩ | ⟨_, _, h'⟩ | ⟨_, _, h'⟩ | ⟨h1, h'⟩ <;> rw [h'] at h <;> simp at h
      unfold var
      rw [if_neg (by omega), if_neg (by omega), if_neg (by omega)]
theorem read_long (l : List Int) (m : Nat) (hl : ∀ z ∈ l, Byte z) (hlead : lead l = m + 1) (hm : m = 2 ∨ m = 4 ∨ m = 8) (hlen : m + 1 ≤ l.length) (hc : (m = 2 → l.getD 0 0 = 253) ∧ (m = 4 → l.getD 0 0 = 254) ∧ (m = 8 → l.getD 0 0 = 255)) :
    (decide (var (mid l) = l.take (m + 1)) = true ∧ readX l = mid l ∧ readN l = (m + 1 : Nat) ∧ readE l = 0) ∨
    (decide (var (mid l) = l.take (m + 1)) = false ∧ readX l = 0 ∧ readN l = 0 ∧ readE l = 6) := by
  have h := var_mid l m hl hlead hm hlen hc
  have h1 : ¬ l.length < m + 1 := by omega
  have h2 : ¬ m + 1 = 1 := by omega
  unfold readX readN readE
  rw [hlead, if_neg h1, if_neg h1, if_neg h1, if_neg h2, if_neg h2, if_neg h2]
  by_cases hs : size (mid l) = (m + 1 : Nat)
  · left
    refine ⟨decide_eq_true (h.2 hs), ?_, ?_, ?_⟩ <;> rw [if_neg (not_not_intro hs)]
  · right
    refine ⟨decide_eq_false fun q => hs (h.1 q), ?_, ?_, ?_⟩ <;> rw [if_pos hs]


theorem read_bad (l : List Int) (h : ¬ readE l = 0) : readX l = 0 ∧ readN l = 0 := by
  unfold readE at h
  unfold readX readN
  split at h
  · rename_i h1
    rw [if_pos h1, if_pos h1]
    exact ⟨rfl, rfl⟩
  · rename_i h1
    split at h
    · exact absurd rfl h
    · rename_i h2
      split at h
      · rename_i h3
        rw [if_neg h1, if_neg h1, if_neg h2, if_neg h2, if_pos h3, if_pos h3]
        exact ⟨rfl, rfl⟩
      · exact absurd rfl h
theorem head_cases (l : List Int) : (lead l = 1 ∧ l.getD 0 0 ≠ 253 ∧ l.getD 0 0 ≠ 254 ∧ l.getD 0 0 ≠ 255) ∨ (lead l = 2 + 1 ∧ l.getD 0 0 = 253) ∨ (lead l = 4 + 1 ∧ l.getD 0 0 = 254) ∨ (lead l = 8 + 1 ∧ l.getD 0 0 = 255) := by
  unfold lead
  rcases behind_cases (l.getD 0 0) with ⟨h1, h⟩ | ⟨h1, h⟩ | ⟨h1, h⟩ | ⟨h1, h2, h3, h⟩
  · rw [h]; exact Or.inr (Or.inl ⟨rfl, h1⟩)
  · rw [h]; exact Or.inr (Or.inr (Or.inl ⟨rfl, h1⟩))
  · rw [h]; exact Or.inr (Or.inr (Or.inr ⟨rfl, h1⟩))
  · rw [h]; exact Or.inl ⟨rfl, h1, h2, h3⟩
theorem mid_word (l : List Int) (hl : ∀ z ∈ l, Byte z) : 0 ≤ mid l ∧ mid l < 18446744073709551616 := by
  have hb : ∀ z ∈ (l.take (lead l)).drop 1, Byte z := fun z hz => hl z (List.mem_of_mem_take (List.mem_of_mem_drop hz))
  have h0 := num_nonneg _ hb
  have h1 := num_lt _ hb
  have hlen : ((l.take (lead l)).drop 1).length ≤ 8 := by
    have := lead_cases l
    simp
    omega
  unfold mid
  refine ⟨h0, ?_⟩
  generalize num ((l.take (lead l)).drop 1) = y at *
  generalize ((l.take (lead l)).drop 1).length = n at *
  rcases (show n = 0 ∨ n = 1 ∨ n = 2 ∨ n = 3 ∨ n = 4 ∨ n = 5 ∨ n = 6 ∨ n = 7 ∨ n = 8 by omega) with rfl | rfl | rfl | rfl | rfl | rfl | rfl | rfl | rfl <;> simp at h1 <;> omega
/-- What is read has been written so. -/
theorem read_ok (l : List Int) (hl : ∀ z ∈ l, Byte z) (h : readE l = 0) :
    ∃ n : Nat, readN l = n ∧ 1 ≤ n ∧ n ≤ l.length ∧ n ≤ 9 ∧ var (readX l) = l.take n ∧ 0 ≤ readX l ∧ readX l < 18446744073709551616 := by
  have hlen : ¬ l.length < lead l := by
    intro q
    unfold readE at h
    rw [if_pos q] at h
    simp at h
  rcases head_cases l with ⟨h1, h2, h3, h4⟩ | ⟨h1, h2⟩ | ⟨h1, h2⟩ | ⟨h1, h2⟩
  · have hp : 0 < l.length := by omega
    obtain ⟨hc0, hc1⟩ := hl (l.getD 0 0) (by simp [List.getD, hp])
    have ex : readX l = l.getD 0 0 := by unfold readX; rw [if_neg hlen, if_pos h1]
    have en : readN l = (1 : Nat) := by unfold readN; rw [if_neg hlen, if_pos h1]; rfl
    refine ⟨1, en, by omega, by omega, by omega, ?_, by omega, by omega⟩
    rw [ex]
    unfold var
    rw [if_pos (by omega)]
    cases l with
    | nil => simp at hp
    | cons a l => simp [List.getD]
  · rcases read_long l 2 hl h1 (by omega) (by omega) ⟨fun _ => h2, by omega, by omega⟩ with ⟨q1, q2, q3, q4⟩ | ⟨q1, q2, q3, q4⟩
    · exact ⟨2 + 1, q3, by omega, by omega, by omega, by rw [q2]; exact of_decide_eq_true q1, by rw [q2]; exact (mid_word l hl).1, by rw [q2]; exact (mid_word l hl).2⟩
    · omega
  · rcases read_long l 4 hl h1 (by omega) (by omega) ⟨by omega, fun _ => h2, by omega⟩ with ⟨q1, q2, q3, q4⟩ | ⟨q1, q2, q3, q4⟩
    · exact ⟨4 + 1, q3, by omega, by omega, by omega, by rw [q2]; exact of_decide_eq_true q1, by rw [q2]; exact (mid_word l hl).1, by rw [q2]; exact (mid_word l hl).2⟩
    · omega
  · rcases read_long l 8 hl h1 (by omega) (by omega) ⟨by omega, by omega, fun _ => h2⟩ with ⟨q1, q2, q3, q4⟩ | ⟨q1, q2, q3, q4⟩
    · exact ⟨8 + 1, q3, by omega, by omega, by omega, by rw [q2]; exact of_decide_eq_true q1, by rw [q2]; exact (mid_word l hl).1, by rw [q2]; exact (mid_word l hl).2⟩
    · omega
/-- The form of a number that is as short as may be. -/
theorem var_form (x : Int) (h0 : 0 ≤ x) (h1 : x < 18446744073709551616) : (x < 253 ∧ var x = [x]) ∨
    (∃ m : Nat, (m = 2 ∨ m = 4 ∨ m = 8) ∧ ∃ c : Int, behind c = m ∧ var x = c :: put m x ∧ size x = (m + 1 : Nat) ∧ x < 256 ^ m) := by
  rcases size_cases x with ⟨h, _⟩ | ⟨h, h', e⟩ | ⟨h, h', e⟩ | ⟨h, e⟩
  · exact Or.inl ⟨h, by unfold var; rw [if_pos h]⟩
  · exact Or.inr ⟨2, by omega, 253, rfl, by unfold var; rw [if_neg (by omega), if_pos h'], e, by simp; omega⟩
  · exact Or.inr ⟨4, by omega, 254, rfl, by unfold var; rw [if_neg (by omega), if_neg (by omega), if_pos h'], e, by simp; omega⟩
  · exact Or.inr ⟨8, by omega, 255, rfl, by unfold var; rw [if_neg (by omega), if_neg (by omega), if_neg (by omega)], e, by simp; omega⟩
/-- What is written is read, whatever stands behind it. -/
theorem read_var (x : Int) (h0 : 0 ≤ x) (h1 : x < 18446744073709551616) (r : List Int) : readX (var x ++ r) = x ∧ readN (var x ++ r) = ((var x).length : Int) ∧ readE (var x ++ r) = 0 := by
  rcases var_form x h0 h1 with ⟨h, e⟩ | ⟨m, hm, c, hc, e, hs, hx⟩
  · have hlead : lead ([x] ++ r) = 1 := by
      unfold lead
      have : behind (([x] ++ r).getD 0 0) = 0 := by
        simp only [List.getD, List.cons_append, List.nil_append, List.getElem?_cons_zero, Option.getD_some]
        rcases behind_cases x with ⟨q, _⟩ | ⟨q, _⟩ | ⟨q, _⟩ | ⟨_, _, _, q⟩ <;> omega
      rw [this]
      rfl
    rw [e]
    have hl : ¬ ([x] ++ r).length < 1 := by simp
    have h2 : (1 : Nat) = 1 := rfl
    unfold readX readN readE
    rw [hlead, if_neg hl, if_neg hl, if_neg hl, if_pos h2, if_pos h2, if_pos h2]
    exact ⟨rfl, rfl, rfl⟩
  · have hlead : lead (c :: put m x ++ r) = m + 1 := by
      unfold lead
      have : (c :: put m x ++ r).getD 0 0 = c := rfl
      rw [this, hc]
      simp
      omega
    have hmid : mid (c :: put m x ++ r) = x := by
      unfold mid
      rw [hlead]
      have : List.drop 1 (List.take (m + 1) (c :: put m x ++ r)) = put m x := by
        simp only [List.cons_append, List.take_succ_cons, List.drop_succ_cons, List.drop_zero]
        rw [List.take_left' (put_length _ _)]
      rw [this]
      exact num_put m x h0 hx
    have hl : ¬ (c :: put m x ++ r).length < m + 1 := by simp [put_length]
    have h2 : ¬ m + 1 = 1 := by omega
    rw [e]
    unfold readX readN readE
    rw [hlead, hmid, if_neg hl, if_neg hl, if_neg hl, if_neg h2, if_neg h2, if_neg h2, if_neg (not_not_intro hs), if_neg (not_not_intro hs), if_neg (not_not_intro hs)]
    refine ⟨rfl, ?_, rfl⟩
    simp [put_length]
/-- Cut off, it is too short. -/
theorem read_cut (x : Int) (h0 : 0 ≤ x) (h1 : x < 18446744073709551616) (i : Nat) (hi : i < (var x).length) : readE ((var x).take i) = 4 := by
  have hshort : ((var x).take i).length < lead ((var x).take i) := by
    rw [List.length_take]
    cases i with
    | zero => simp [lead]; omega
    | succ j =>
      rcases var_form x h0 h1 with ⟨h, e⟩ | ⟨m, hm, c, hc, e, hs, hx⟩
      · rw [e] at hi
        simp at hi
      · rw [e] at hi ⊢
        have : lead ((c :: put m x).take (j + 1)) = m + 1 := by
          unfold lead
          have : ((c :: put m x).take (j + 1)).getD 0 0 = c := rfl
          rw [this, hc]
          simp
          omega
        rw [this]
        simp [put_length] at hi ⊢
        omega
  unfold readE
  rw [if_pos hshort]
end Go.Proofs.YtbeegcpmpgdbnaaDoor

/-
  Plain transactions, with no word of the program: as bytes, what is read of bytes; what is put is read, cut off it is too short, what is read has been put so.
-/
namespace Go.Proofs.YtbeegcpmpgdbnaaDoor

structure TIn where
  tx : List Int
  n : Int
  key : List Int
structure TOut where
  val : Int
  lock : List Int
structure Tr where
  ver : Int
  ins : List TIn
  outs : List TOut
def AllB (l : List Int) : Prop := ∀ z ∈ l, Byte z
def InOk (x : TIn) : Prop := x.tx.length = 32 ∧ AllB x.tx ∧ (0 ≤ x.n ∧ x.n < 4294967296) ∧ AllB x.key
def OutOk (x : TOut) : Prop := (0 ≤ x.val ∧ x.val < 18446744073709551616) ∧ x.lock.length = 32 ∧ AllB x.lock
def TrOk (t : Tr) : Prop := (0 ≤ t.ver ∧ t.ver < 4294967296) ∧ (∀ x ∈ t.ins, InOk x) ∧ ∀ x ∈ t.outs, OutOk x
/-- As bytes. -/
def inB (x : TIn) : List Int := x.tx ++ (put 4 x.n ++ (var (x.key.length : Int) ++ x.key))
def outB (x : TOut) : List Int := put 8 x.val ++ x.lock
def txB (t : Tr) : List Int := put 4 t.ver ++ (var (t.ins.length : Int) ++ (t.ins.flatMap inB ++ (var (t.outs.length : Int) ++ t.outs.flatMap outB)))
/-- Has it a form? -/
def formB (t : Tr) : Bool := decide (t.ins.length ≤ 8) && decide (t.outs.length ≤ 8) && t.ins.all fun x => decide (x.key.length ≤ 64)
theorem formB_iff (t : Tr) : formB t = true ↔ t.ins.length ≤ 8 ∧ t.outs.length ≤ 8 ∧ ∀ x ∈ t.ins, x.key.length ≤ 64 := by
  simp [formB, and_assoc]

/-- What Put answers. -/
def ptL (t : Tr) : List Int := if formB t = true then txB t else []
def ptE (t : Tr) : Int := if formB t = true then 0 else 5

/-! What is read: the bytes that are left, and the first error. -/
abbrev RdS := List Int × Int
def takeS (n : Nat) (s : RdS) : List Int × RdS := if s.2 ≠ 0 then ([], s) else if s.1.length < n then ([], (s.1, 4)) else (s.1.take n, (s.1.drop n, 0))
def countS (most : Nat) (s : RdS) : Nat × RdS :=
  if s.2 ≠ 0 then (0, s) else if readE s.1 ≠ 0 then (0, (s.1, readE s.1)) else if (most : Int) < readX s.1 then (0, (s.1, 5)) else ((readX s.1).toNat, (s.1.drop (readN s.1).toNat, 0))
def numS (n : Nat) (s : RdS) : Int × RdS := (num (takeS n s).1, (takeS n s).2)
def pad32 (l : List Int) : List Int := l ++ List.replicate (32 - l.length) 0
def hashS (s : RdS) : List Int × RdS := (pad32 (takeS 32 s).1, (takeS 32 s).2)
def inS (s : RdS) : TIn × RdS :=
  (⟨(hashS s).1, (numS 4 (hashS s).2).1, (takeS (countS 64 (numS 4 (hashS s).2).2).1 (countS 64 (numS 4 (hashS s).2).2).2).1⟩, (takeS (countS 64 (numS 4 (hashS s).2).2).1 (countS 64 (numS 4 (hashS s).2).2).2).2)
def outS (s : RdS) : TOut × RdS := (⟨(numS 8 s).1, (hashS (numS 8 s).2).1⟩, (hashS (numS 8 s).2).2)
def insS : Nat → RdS → List TIn × RdS
  | 0, s => ([], s)
  | k + 1, s => ((insS k s).1 ++ [(inS (insS k s).2).1], (inS (insS k s).2).2)
def outsS : Nat → RdS → List TOut × RdS
  | 0, s => ([], s)
  | k + 1, s => ((outsS k s).1 ++ [(outS (outsS k s).2).1], (outS (outsS k s).2).2)
def txS (s : RdS) : Tr × RdS :=
  (⟨(numS 4 s).1, (insS (countS 8 (numS 4 s).2).1 (countS 8 (numS 4 s).2).2).1, (outsS (countS 8 (insS (countS 8 (numS 4 s).2).1 (countS 8 (numS 4 s).2).2).2).1 (countS 8 (insS (countS 8 (numS 4 s).2).1 (countS 8 (numS 4 s).2).2).2).2).1⟩,
    (outsS (countS 8 (insS (countS 8 (numS 4 s).2).1 (countS 8 (numS 4 s).2).2).2).1 (countS 8 (insS (countS 8 (numS 4 s).2).1 (countS 8 (numS 4 s).2).2).2).2).2)
def noTr : Tr := ⟨0, [], []⟩
/-- What Get answers. -/
def gtE (b : List Int) : Int := (txS (b, 0)).2.2
def gtT (b : List Int) : Tr := if gtE b = 0 then (txS (b, 0)).1 else noTr
def gtN (b : List Int) : Int := if gtE b = 0 then (b.length : Int) - ((txS (b, 0)).2.1.length : Int) else 0
/-- What Whole answers. -/
def whE (b : List Int) : Int := if gtE b ≠ 0 then gtE b else if gtN b < b.length then 5 else 0
def whT (b : List Int) : Tr := if whE b = 0 then gtT b else noTr

/-! An error stays. -/
theorem takeS_err {n : Nat} {s : RdS} (h : s.2 ≠ 0) : takeS n s = ([], s) := by unfold takeS; rw [if_pos h]
theorem countS_err {n : Nat} {s : RdS} (h : s.2 ≠ 0) : countS n s = (0, s) := by unfold countS; rw [if_pos h]
theorem numS_err {n : Nat} {s : RdS} (h : s.2 ≠ 0) : (numS n s).2 = s := by unfold numS; rw [takeS_err h]
theorem hashS_err {s : RdS} (h : s.2 ≠ 0) : (hashS s).2 = s := by unfold hashS; rw [takeS_err h]
theorem inS_err {s : RdS} (h : s.2 ≠ 0) : (inS s).2 = s := by
  unfold inS
  simp only [hashS_err h, numS_err h, countS_err h, takeS_err h]
theorem outS_err {s : RdS} (h : s.2 ≠ 0) : (outS s).2 = s := by
  unfold outS
  simp only [hashS_err h, numS_err h]
theorem insS_err {s : RdS} (h : s.2 ≠ 0) : ∀ k, (insS k s).2 = s
  | 0 => rfl
  | k + 1 => by rw [insS, insS_err h k]; exact inS_err h
theorem outsS_err {s : RdS} (h : s.2 ≠ 0) : ∀ k, (outsS k s).2 = s
  | 0 => rfl
  | k + 1 => by rw [outsS, outsS_err h k]; exact outS_err h

/-! What is left is ever an end of what there was. -/
theorem AllB.drop {l : List Int} (h : AllB l) (n : Nat) : AllB (l.drop n) := fun z hz => h z (List.mem_of_mem_drop hz)
theorem AllB.take {l : List Int} (h : AllB l) (n : Nat) : AllB (l.take n) := fun z hz => h z (List.mem_of_mem_take hz)
theorem AllB.nil : AllB [] := fun _ h => by cases h
theorem AllB.append {l m : List Int} (h : AllB l) (k : AllB m) : AllB (l ++ m) := fun z hz => by
  rcases List.mem_append.1 hz with q | q
  · exact h z q
  · exact k z q
theorem AllB.left {l m : List Int} (h : AllB (l ++ m)) : AllB l := fun z hz => h z (List.mem_append.2 (Or.inl hz))
theorem AllB.right {l m : List Int} (h : AllB (l ++ m)) : AllB m := fun z hz => h z (List.mem_append.2 (Or.inr hz))
theorem takeS_all {n : Nat} {s : RdS} (h : AllB s.1) : AllB (takeS n s).1 ∧ AllB (takeS n s).2.1 ∧ (takeS n s).2.1.length ≤ s.1.length ∧ (takeS n s).1.length ≤ n := by
  unfold takeS
  split
  · exact ⟨.nil, h, Nat.le_refl _, Nat.zero_le _⟩
  · split
    · exact ⟨.nil, h, Nat.le_refl _, Nat.zero_le _⟩
    · exact ⟨h.take n, h.drop n, by simp, by simp; omega⟩
theorem takeS_len (n : Nat) (s : RdS) : (takeS n s).1.length = n ∨ (takeS n s).1 = [] := by
  unfold takeS
  split
  · exact Or.inr rfl
  · split
    · exact Or.inr rfl
    · exact Or.inl (by simp; omega)
theorem countS_all {n : Nat} {s : RdS} (h : AllB s.1) : AllB (countS n s).2.1 ∧ (countS n s).1 ≤ n ∧ (countS n s).2.1.length ≤ s.1.length := by
  unfold countS
  split
  · exact ⟨h, Nat.zero_le _, Nat.le_refl _⟩
  · split
    · exact ⟨h, Nat.zero_le _, Nat.le_refl _⟩
    · split
      · exact ⟨h, Nat.zero_le _, Nat.le_refl _⟩
      · exact ⟨h.drop _, by show (readX s.1).toNat ≤ n; omega, by simp⟩
theorem pad32_ok {l : List Int} (h : AllB l) (hl : l.length ≤ 32) : AllB (pad32 l) ∧ (pad32 l).length = 32 := by
  refine ⟨h.append fun z hz => ?_, by simp [pad32]; omega⟩
  have := (List.mem_replicate.1 hz).2
  subst this
  exact ⟨by omega, by omega⟩
theorem num_u32 {l : List Int} (h : AllB l) (hl : l.length ≤ 4) : 0 ≤ num l ∧ num l < 4294967296 := by
  refine ⟨num_nonneg l h, ?_⟩
  have := num_lt l h
  generalize num l = y at *
  generalize l.length = n at *
  rcases (show n = 0 ∨ n = 1 ∨ n = 2 ∨ n = 3 ∨ n = 4 by omega) with rfl | rfl | rfl | rfl | rfl <;> simp at this <;> omega
theorem num_u64 {l : List Int} (h : AllB l) (hl : l.length ≤ 8) : 0 ≤ num l ∧ num l < 18446744073709551616 := by
  refine ⟨num_nonneg l h, ?_⟩
  have := num_lt l h
  generalize num l = y at *
  generalize l.length = n at *
  rcases (show n = 0 ∨ n = 1 ∨ n = 2 ∨ n = 3 ∨ n = 4 ∨ n = 5 ∨ n = 6 ∨ n = 7 ∨ n = 8 by omega) with rfl | rfl | rfl | rfl | rfl | rfl | rfl | rfl | rfl <;> simp at this <;> omega
theorem hashS_all {s : RdS} (h : AllB s.1) : AllB (hashS s).1 ∧ (hashS s).1.length = 32 ∧ AllB (hashS s).2.1 ∧ (hashS s).2.1.length ≤ s.1.length := by
  obtain ⟨h1, h2, h3, h4⟩ := takeS_all (n := 32) h
  obtain ⟨k1, k2⟩ := pad32_ok h1 h4
  exact ⟨k1, k2, h2, h3⟩
theorem inS_all {s : RdS} (h : AllB s.1) : InOk (inS s).1 ∧ (inS s).1.key.length ≤ 64 ∧ AllB (inS s).2.1 ∧ (inS s).2.1.length ≤ s.1.length := by
  obtain ⟨h1, h2, h3, h4⟩ := hashS_all h
  obtain ⟨k1, k2, k3, k4⟩ := takeS_all (n := 4) h3
  obtain ⟨c1, c2, c3⟩ := countS_all (n := 64) (s := (numS 4 (hashS s).2).2) k2
  obtain ⟨t1, t2, t3, t4⟩ := takeS_all (n := (countS 64 (numS 4 (hashS s).2).2).1) c1
  exact ⟨⟨h2, h1, num_u32 k1 k4, t1⟩, Nat.le_trans t4 c2, t2, Nat.le_trans t3 (Nat.le_trans c3 (Nat.le_trans k3 h4))⟩
theorem outS_all {s : RdS} (h : AllB s.1) : OutOk (outS s).1 ∧ AllB (outS s).2.1 ∧ (outS s).2.1.length ≤ s.1.length := by
  obtain ⟨k1, k2, k3, k4⟩ := takeS_all (n := 8) h
  obtain ⟨h1, h2, h3, h4⟩ := hashS_all (s := (numS 8 s).2) k2
  exact ⟨⟨num_u64 k1 k4, h2, h1⟩, h3, Nat.le_trans h4 k3⟩
theorem insS_all {s : RdS} (h : AllB s.1) : ∀ k, (insS k s).1.length = k ∧ (∀ x ∈ (insS k s).1, InOk x ∧ x.key.length ≤ 64) ∧ AllB (insS k s).2.1 ∧ (insS k s).2.1.length ≤ s.1.length
  | 0 => ⟨rfl, fun _ h => (by cases h), h, Nat.le_refl _⟩
  | k + 1 => by
    obtain ⟨h1, h2, h3, h4⟩ := insS_all h k
    obtain ⟨k1, k2, k3, k4⟩ := inS_all h3
    refine ⟨by simp [insS, h1], fun x hx => ?_, k3, Nat.le_trans k4 h4⟩
    rcases List.mem_append.1 hx with q | q
    · exact h2 x q
    · have e := List.mem_singleton.1 q
      rw [e]
      exact ⟨k1, k2⟩
theorem outsS_all {s : RdS} (h : AllB s.1) : ∀ k, (outsS k s).1.length = k ∧ (∀ x ∈ (outsS k s).1, OutOk x) ∧ AllB (outsS k s).2.1 ∧ (outsS k s).2.1.length ≤ s.1.length
  | 0 => ⟨rfl, fun _ h => (by cases h), h, Nat.le_refl _⟩
  | k + 1 => by
    obtain ⟨h1, h2, h3, h4⟩ := outsS_all h k
    obtain ⟨k1, k3, k4⟩ := outS_all h3
    refine ⟨by simp [outsS, h1], fun x hx => ?_, k3, Nat.le_trans k4 h4⟩
    rcases List.mem_append.1 hx with q | q
    · exact h2 x q
    · have e := List.mem_singleton.1 q
      rw [e]
      exact k1
theorem txS_all {s : RdS} (h : AllB s.1) : TrOk (txS s).1 ∧ formB (txS s).1 = true ∧ AllB (txS s).2.1 ∧ (txS s).2.1.length ≤ s.1.length := by
  obtain ⟨k1, k2, k3, k4⟩ := takeS_all (n := 4) h
  obtain ⟨c1, c2, c3⟩ := countS_all (n := 8) (s := (numS 4 s).2) k2
  obtain ⟨i1, i2, i3, i4⟩ := insS_all (s := (countS 8 (numS 4 s).2).2) c1 (countS 8 (numS 4 s).2).1
  obtain ⟨d1, d2, d3⟩ := countS_all (n := 8) (s := (insS (countS 8 (numS 4 s).2).1 (countS 8 (numS 4 s).2).2).2) i3
  obtain ⟨o1, o2, o3, o4⟩ := outsS_all d1 (countS 8 (insS (countS 8 (numS 4 s).2).1 (countS 8 (numS 4 s).2).2).2).1
  refine ⟨⟨num_u32 k1 k4, fun x hx => (i2 x hx).1, o2⟩, (formB_iff _).2 ⟨?_, ?_, fun x hx => (i2 x hx).2⟩, o3, Nat.le_trans o4 (Nat.le_trans d3 (Nat.le_trans i4 (Nat.le_trans c3 k3)))⟩
  · exact Nat.le_trans (Nat.le_of_eq i1) c2
  · exact Nat.le_trans (Nat.le_of_eq o1) d2

/-! What is read without an error has been put so. -/
theorem takeS_ok {n : Nat} {s : RdS} (h : (takeS n s).2.2 = 0) : s.2 = 0 ∧ s.1 = (takeS n s).1 ++ (takeS n s).2.1 ∧ (takeS n s).1.length = n := by
  unfold takeS at *
  split at h
  · rename_i q; exact absurd h q
  · rename_i q
    split at h
    · simp at h
    · rename_i q2
      rw [if_neg q, if_neg q2]
      exact ⟨by simpa using q, (List.take_append_drop n s.1).symm, by simp; omega⟩
theorem countS_ok {n : Nat} {s : RdS} (hb : AllB s.1) (h : (countS n s).2.2 = 0) : s.2 = 0 ∧ s.1 = var ((countS n s).1 : Int) ++ (countS n s).2.1 := by
  unfold countS at *
  split at h
  · rename_i q; exact absurd h q
  · rename_i q
    split at h
    · rename_i q2; exact absurd h q2
    · rename_i q2
      split at h
      · simp at h
      · rename_i q3
        rw [if_neg q, if_neg q2, if_neg q3]
        obtain ⟨m, hm, -, hm2, -, hv, h0, -⟩ := read_ok s.1 hb (by simpa using q2)
        refine ⟨by simpa using q, ?_⟩
        show s.1 = var ((readX s.1).toNat : Int) ++ s.1.drop (readN s.1).toNat
        rw [hm, show (((readX s.1).toNat : Nat) : Int) = readX s.1 by omega, hv, Int.toNat_natCast]
        exact (List.take_append_drop m s.1).symm
theorem numS_ok {n : Nat} {s : RdS} (hb : AllB s.1) (h : (numS n s).2.2 = 0) : s.2 = 0 ∧ s.1 = put n (numS n s).1 ++ (numS n s).2.1 := by
  obtain ⟨h1, h2, h3⟩ := takeS_ok (n := n) h
  refine ⟨h1, ?_⟩
  have := put_num _ (takeS_all (n := n) hb).1
  rw [h3] at this
  show s.1 = put n (num (takeS n s).1) ++ (takeS n s).2.1
  rw [this]
  exact h2
theorem hashS_ok {s : RdS} (h : (hashS s).2.2 = 0) : s.2 = 0 ∧ s.1 = (hashS s).1 ++ (hashS s).2.1 := by
  obtain ⟨h1, h2, h3⟩ := takeS_ok (n := 32) h
  refine ⟨h1, ?_⟩
  show s.1 = pad32 (takeS 32 s).1 ++ (takeS 32 s).2.1
  unfold pad32
  rw [h3]
  simpa using h2
theorem inS_ok {s : RdS} (hb : AllB s.1) (h : (inS s).2.2 = 0) : s.2 = 0 ∧ s.1 = inB (inS s).1 ++ (inS s).2.1 := by
  have b1 := (hashS_all hb).2.2.1
  have b2 := (takeS_all (n := 4) b1).2.1
  have b3 := (countS_all (n := 64) (s := (numS 4 (hashS s).2).2) b2).1
  obtain ⟨t1, t2, t3⟩ := takeS_ok (n := (countS 64 (numS 4 (hashS s).2).2).1) h
  obtain ⟨c1, c2⟩ := countS_ok (n := 64) (s := (numS 4 (hashS s).2).2) b2 t1
  obtain ⟨n1, n2⟩ := numS_ok (n := 4) b1 c1
  obtain ⟨a1, a2⟩ := hashS_ok n1
  refine ⟨a1, ?_⟩
  have e : inB (inS s).1 ++ (inS s).2.1 = (hashS s).1 ++ (put 4 (numS 4 (hashS s).2).1 ++ (var ((countS 64 (numS 4 (hashS s).2).2).1 : Int) ++ ((takeS (countS 64 (numS 4 (hashS s).2).2).1 (countS 64 (numS 4 (hashS s).2).2).2).1 ++ (takeS (countS 64 (numS 4 (hashS s).2).2).1 (countS 64 (numS 4 (hashS s).2).2).2).2.1))) := by
    show ((hashS s).1 ++ (put 4 (numS 4 (hashS s).2).1 ++ (var (((takeS (countS 64 (numS 4 (hashS s).2).2).1 (countS 64 (numS 4 (hashS s).2).2).2).1.length : Nat) : Int) ++ (takeS (countS 64 (numS 4 (hashS s).2).2).1 (countS 64 (numS 4 (hashS s).2).2).2).1))) ++ (takeS (countS 64 (numS 4 (hashS s).2).2).1 (countS 64 (numS 4 (hashS s).2).2).2).2.1 = _
    rw [t3]
    simp only [List.append_assoc]
  rw [e, ← t2, ← c2, ← n2]
  exact a2
theorem outS_ok {s : RdS} (hb : AllB s.1) (h : (outS s).2.2 = 0) : s.2 = 0 ∧ s.1 = outB (outS s).1 ++ (outS s).2.1 := by
  obtain ⟨a1, a2⟩ := hashS_ok (s := (numS 8 s).2) h
  obtain ⟨n1, n2⟩ := numS_ok (n := 8) hb a1
  refine ⟨n1, ?_⟩
  show s.1 = (put 8 (numS 8 s).1 ++ (hashS (numS 8 s).2).1) ++ (hashS (numS 8 s).2).2.1
  rw [List.append_assoc, ← a2]
  exact n2
theorem insS_ok {s : RdS} (hb : AllB s.1) : ∀ k, (insS k s).2.2 = 0 → s.2 = 0 ∧ s.1 = (insS k s).1.flatMap inB ++ (insS k s).2.1
  | 0, h => ⟨h, rfl⟩
  | k + 1, h => by
    obtain ⟨h1, h2⟩ := inS_ok (insS_all hb k).2.2.1 h
    obtain ⟨k1, k2⟩ := insS_ok hb k h1
    refine ⟨k1, ?_⟩
    show s.1 = ((insS k s).1 ++ [(inS (insS k s).2).1]).flatMap inB ++ (inS (insS k s).2).2.1
    rw [List.flatMap_append, List.append_assoc]
    simp only [List.flatMap_cons, List.flatMap_nil, List.append_nil]
    rw [← h2]
    exact k2
theorem outsS_ok {s : RdS} (hb : AllB s.1) : ∀ k, (outsS k s).2.2 = 0 → s.2 = 0 ∧ s.1 = (outsS k s).1.flatMap outB ++ (outsS k s).2.1
  | 0, h => ⟨h, rfl⟩
  | k + 1, h => by
    obtain ⟨h1, h2⟩ := outS_ok (outsS_all hb k).2.2.1 h
    obtain ⟨k1, k2⟩ := outsS_ok hb k h1
    refine ⟨k1, ?_⟩
    show s.1 = ((outsS k s).1 ++ [(outS (outsS k s).2).1]).flatMap outB ++ (outS (outsS k s).2).2.1
    rw [List.flatMap_append, List.append_assoc]
    simp only [List.flatMap_cons, List.flatMap_nil, List.append_nil]
    rw [← h2]
    exact k2
theorem txS_ok {s : RdS} (hb : AllB s.1) (h : (txS s).2.2 = 0) : s.2 = 0 ∧ s.1 = txB (txS s).1 ++ (txS s).2.1 := by
  have b1 := (takeS_all (n := 4) hb).2.1
  have b2 := (countS_all (n := 8) (s := (numS 4 s).2) b1).1
  have b3 := (insS_all b2 (countS 8 (numS 4 s).2).1)
  have b4 := (countS_all (n := 8) (s := (insS (countS 8 (numS 4 s).2).1 (countS 8 (numS 4 s).2).2).2) b3.2.2.1).1
  obtain ⟨o1, o2⟩ := outsS_ok b4 _ h
  obtain ⟨d1, d2⟩ := countS_ok b3.2.2.1 o1
  obtain ⟨i1, i2⟩ := insS_ok b2 _ d1
  obtain ⟨c1, c2⟩ := countS_ok (s := (numS 4 s).2) b1 i1
  obtain ⟨n1, n2⟩ := numS_ok hb c1
  refine ⟨n1, ?_⟩
  have e1 := b3.1
  have e2 := (outsS_all b4 (countS 8 (insS (countS 8 (numS 4 s).2).1 (countS 8 (numS 4 s).2).2).2).1).1
  unfold txB
  show s.1 = (put 4 (numS 4 s).1 ++ (var (((insS (countS 8 (numS 4 s).2).1 (countS 8 (numS 4 s).2).2).1.length : Nat) : Int) ++ ((insS (countS 8 (numS 4 s).2).1 (countS 8 (numS 4 s).2).2).1.flatMap inB ++
    (var (((outsS (countS 8 (insS (countS 8 (numS 4 s).2).1 (countS 8 (numS 4 s).2).2).2).1 (countS 8 (insS (countS 8 (numS 4 s).2).1 (countS 8 (numS 4 s).2).2).2).2).1.length : Nat) : Int) ++ (outsS (countS 8 (insS (countS 8 (numS 4 s).2).1 (countS 8 (numS 4 s).2).2).2).1 (countS 8 (insS (countS 8 (numS 4 s).2).1 (countS 8 (numS 4 s).2).2).2).2).1.flatMap outB)))) ++
    (outsS (countS 8 (insS (countS 8 (numS 4 s).2).1 (countS 8 (numS 4 s).2).2).2).1 (countS 8 (insS (countS 8 (numS 4 s).2).1 (countS 8 (numS 4 s).2).2).2).2).2.1
  rw [e1, e2]
  simp only [List.append_assoc]
  rw [← o2, ← d2, ← i2, ← c2]
  exact n2
theorem get_ok {b : List Int} (hb : AllB b) (h : gtE b = 0) : ∃ n : Nat, gtN b = n ∧ n ≤ b.length ∧ txB (gtT b) = b.take n ∧ TrOk (gtT b) ∧ formB (gtT b) = true := by
  obtain ⟨-, h2⟩ := txS_ok (s := (b, 0)) hb h
  obtain ⟨t1, t2, t3, t4⟩ := txS_all (s := (b, 0)) hb
  have ht : gtT b = (txS (b, 0)).1 := by unfold gtT; rw [if_pos h]
  have hl : b.length = (txB (txS (b, 0)).1).length + (txS (b, 0)).2.1.length := by
    have := congrArg List.length h2
    simpa using this
  refine ⟨(txB (gtT b)).length, ?_, ?_, ?_, by rw [ht]; exact t1, by rw [ht]; exact t2⟩
  · unfold gtN
    rw [if_pos h, ht]
    omega
  · rw [ht]; omega
  · rw [ht]
    have h2' : b = txB (txS (b, 0)).1 ++ (txS (b, 0)).2.1 := h2
    generalize txB (txS (b, 0)).1 = A at *
    generalize (txS (b, 0)).2.1 = C at *
    subst h2'
    simp
theorem get_bad {b : List Int} (h : gtE b ≠ 0) : gtT b = noTr ∧ gtN b = 0 := by
  unfold gtT gtN
  rw [if_neg h, if_neg h]
  exact ⟨rfl, rfl⟩

/-! What is put is read. -/
theorem takeS_put (l r : List Int) (n : Nat) (hn : l.length = n) : takeS n (l ++ r, 0) = (l, (r, 0)) := by
  subst hn
  simp [takeS]
theorem countS_put (c m : Nat) (h : c ≤ m) (hm : m ≤ 64) (r : List Int) : countS m (var (c : Int) ++ r, 0) = (c, (r, 0)) := by
  obtain ⟨h1, h2, h3⟩ := read_var (c : Int) (by omega) (by omega) r
  have hx : ¬ ((m : Int) < (c : Int)) := by omega
  simp [countS, h1, h2, h3, hx]
theorem numS_put (x : Int) (n : Nat) (h0 : 0 ≤ x) (h1 : x < 256 ^ n) (r : List Int) : numS n (put n x ++ r, 0) = (x, (r, 0)) := by
  unfold numS
  rw [takeS_put _ _ n (put_length n x)]
  show (num (put n x), _) = _
  rw [num_put n x h0 h1]
theorem hashS_put (l r : List Int) (hl : l.length = 32) : hashS (l ++ r, 0) = (l, (r, 0)) := by
  unfold hashS
  rw [takeS_put _ _ 32 hl]
  simp [pad32, hl]
theorem inS_put (x : TIn) (h : InOk x) (hk : x.key.length ≤ 64) (r : List Int) : inS (inB x ++ r, 0) = (x, (r, 0)) := by
  obtain ⟨h1, h2, h3, h4⟩ := h
  unfold inS inB
  simp only [List.append_assoc]
  rw [hashS_put _ _ h1]
  simp only []
  rw [numS_put x.n 4 h3.1 (by simpa using h3.2)]
  simp only []
  rw [countS_put _ 64 hk (by omega)]
  simp only []
  rw [takeS_put _ _ _ rfl]
theorem outS_put (x : TOut) (h : OutOk x) (r : List Int) : outS (outB x ++ r, 0) = (x, (r, 0)) := by
  obtain ⟨h1, h2, h3⟩ := h
  unfold outS outB
  simp only [List.append_assoc]
  rw [numS_put x.val 8 h1.1 (by simpa using h1.2)]
  simp only []
  rw [hashS_put _ _ h2]
theorem insS_put (L : List TIn) (h : ∀ x ∈ L, InOk x ∧ x.key.length ≤ 64) (r : List Int) : ∀ k, k ≤ L.length → insS k (L.flatMap inB ++ r, 0) = (L.take k, ((L.drop k).flatMap inB ++ r, 0))
  | 0, _ => by simp [insS]
  | k + 1, hk => by
    have hlt : k < L.length := by omega
    rw [insS, insS_put L h r k (by omega)]
    have hx := h L[k] (List.getElem_mem hlt)
    have e : (L.drop k).flatMap inB ++ r = inB L[k] ++ ((L.drop (k + 1)).flatMap inB ++ r) := by
      rw [List.drop_eq_getElem_cons hlt, List.flatMap_cons, List.append_assoc]
    simp only []
    rw [e, inS_put _ hx.1 hx.2]
    simp only []
    rw [List.take_succ_eq_append_getElem hlt]
theorem outsS_put (L : List TOut) (h : ∀ x ∈ L, OutOk x) (r : List Int) : ∀ k, k ≤ L.length → outsS k (L.flatMap outB ++ r, 0) = (L.take k, ((L.drop k).flatMap outB ++ r, 0))
  | 0, _ => by simp [outsS]
  | k + 1, hk => by
    have hlt : k < L.length := by omega
    rw [outsS, outsS_put L h r k (by omega)]
    have hx := h L[k] (List.getElem_mem hlt)
    have e : (L.drop k).flatMap outB ++ r = outB L[k] ++ ((L.drop (k + 1)).flatMap outB ++ r) := by
      rw [List.drop_eq_getElem_cons hlt, List.flatMap_cons, List.append_assoc]
    simp only []
    rw [e, outS_put _ hx]
    simp only []
    rw [List.take_succ_eq_append_getElem hlt]
theorem txS_put (t : Tr) (h : TrOk t) (hf : formB t = true) (r : List Int) : txS (txB t ++ r, 0) = (t, (r, 0)) := by
  obtain ⟨h1, h2, h3⟩ := h
  obtain ⟨f1, f2, f3⟩ := (formB_iff t).1 hf
  unfold txS txB
  simp only [List.append_assoc]
  rw [numS_put t.ver 4 h1.1 (by simpa using h1.2)]
  simp only []
  rw [countS_put _ 8 f1 (by omega)]
  simp only []
  rw [insS_put t.ins (fun x hx => ⟨h2 x hx, f3 x hx⟩) _ _ (Nat.le_refl _)]
  simp only [List.take_length, List.drop_length, List.flatMap_nil, List.nil_append]
  rw [countS_put _ 8 f2 (by omega)]
  simp only []
  rw [outsS_put t.outs h3 _ _ (Nat.le_refl _)]
  simp
theorem get_put (t : Tr) (h : TrOk t) (hf : formB t = true) (r : List Int) : gtE (txB t ++ r) = 0 ∧ gtT (txB t ++ r) = t ∧ gtN (txB t ++ r) = ((txB t).length : Int) := by
  have e := txS_put t h hf r
  have hE : gtE (txB t ++ r) = 0 := by unfold gtE; rw [e]
  refine ⟨hE, ?_, ?_⟩
  · unfold gtT; rw [if_pos hE, e]
  · unfold gtN; rw [if_pos hE, e]; simp
theorem txB_all {t : Tr} (h : TrOk t) : AllB (txB t) := by
  obtain ⟨h1, h2, h3⟩ := h
  refine AllB.append (put_byte 4 _) (AllB.append (var_byte _ (by omega)) (AllB.append ?_ (AllB.append (var_byte _ (by omega)) ?_)))
  · intro z hz
    obtain ⟨x, hx, hz⟩ := List.mem_flatMap.1 hz
    obtain ⟨a, b, c, d⟩ := h2 x hx
    exact (b.append (AllB.append (put_byte 4 _) (AllB.append (var_byte _ (by omega)) d))) z hz
  · intro z hz
    obtain ⟨x, hx, hz⟩ := List.mem_flatMap.1 hz
    obtain ⟨a, b, c⟩ := h3 x hx
    exact (AllB.append (put_byte 8 _) c) z hz

end Go.Proofs.YtbeegcpmpgdbnaaDoor

/-
  Plain transactions: cut off anywhere they are too short; how long they are.
-/
namespace Go.Proofs.YtbeegcpmpgdbnaaDoor

/-- One reader behind the other. -/
theorem cut_seq {α : Type} {p : RdS → α × RdS} {q : α × RdS → RdS} {e1 e2 : List Int} {x : α} (hp : ∀ k, k < e1.length → (p (e1.take k, 0)).2.2 = 4) (hfull : ∀ r, p (e1 ++ r, 0) = (x, (r, 0)))
    (hq : ∀ k, k < e2.length → (q (x, (e2.take k, 0))).2 = 4) (hqe : ∀ y, y.2.2 ≠ 0 → (q y).2 = y.2.2) (k : Nat) (hk : k < (e1 ++ e2).length) : (q (p ((e1 ++ e2).take k, 0))).2 = 4 := by
  by_cases h : k < e1.length
  · rw [List.take_append_of_le_length (by omega), hqe _ (by rw [hp k h]; decide), hp k h]
  · have e : (e1 ++ e2).take k = e1 ++ e2.take (k - e1.length) := by rw [List.take_append, List.take_of_length_le (l := e1) (by omega)]
    rw [e, hfull]
    exact hq _ (by simp at hk; omega)
theorem cut_take (l : List Int) (n : Nat) (hl : l.length = n) (k : Nat) (hk : k < l.length) : (takeS n (l.take k, 0)).2.2 = 4 := by
  have : (l.take k).length < n := by simp; omega
  unfold takeS
  rw [if_neg (by simp), if_pos this]
theorem cut_num (x : Int) (n : Nat) (k : Nat) (hk : k < (put n x).length) : (numS n ((put n x).take k, 0)).2.2 = 4 := cut_take _ n (put_length n x) k hk
theorem cut_hash (l : List Int) (hl : l.length = 32) (k : Nat) (hk : k < l.length) : (hashS (l.take k, 0)).2.2 = 4 := cut_take l 32 hl k hk
theorem cut_count (c m : Nat) (hc : c ≤ 64) (k : Nat) (hk : k < (var (c : Int)).length) : (countS m ((var (c : Int)).take k, 0)).2.2 = 4 := by
  have h := read_cut (c : Int) (by omega) (by omega) k hk
  simp [countS, h]
theorem count_keeps (m : Nat) {s : RdS} (h : s.2 ≠ 0) : (countS m s).2.2 = s.2 := by rw [countS_err h]
theorem take_keeps (m : Nat) {s : RdS} (h : s.2 ≠ 0) : (takeS m s).2.2 = s.2 := by rw [takeS_err h]
theorem cut_in (x : TIn) (h : InOk x) (hk64 : x.key.length ≤ 64) (k : Nat) (hk : k < (inB x).length) : (inS ((inB x).take k, 0)).2.2 = 4 := by
  obtain ⟨h1, h2, h3, h4⟩ := h
  refine cut_seq (p := hashS) (q := fun y => (takeS (countS 64 (numS 4 y.2).2).1 (countS 64 (numS 4 y.2).2).2).2) (x := x.tx) (cut_hash x.tx h1) (fun r => hashS_put _ _ h1) ?_ ?_ k hk
  · refine cut_seq (p := fun s : RdS => numS 4 s) (q := fun y => (takeS (countS 64 y.2).1 (countS 64 y.2).2).2) (x := x.n) (cut_num x.n 4) (fun r => numS_put x.n 4 h3.1 (by simpa using h3.2) r) ?_ ?_
    · refine cut_seq (p := fun s : RdS => countS 64 s) (q := fun y => (takeS y.1 y.2).2) (x := x.key.length) (cut_count _ 64 hk64) (fun r => countS_put _ 64 hk64 (by omega) r) ?_ ?_
      · exact cut_take x.key _ rfl
      · exact fun y hy => take_keeps _ hy
    · intro y hy
      show (takeS _ (countS 64 y.2).2).2.2 = _
      rw [countS_err hy]
      exact take_keeps _ hy
  · intro y hy
    show (takeS _ (countS 64 (numS 4 y.2).2).2).2.2 = _
    rw [numS_err hy, countS_err hy]
    exact take_keeps _ hy
theorem cut_out (x : TOut) (h : OutOk x) (k : Nat) (hk : k < (outB x).length) : (outS ((outB x).take k, 0)).2.2 = 4 := by
  obtain ⟨h1, h2, h3⟩ := h
  refine cut_seq (p := fun s : RdS => numS 8 s) (q := fun y => (hashS y.2).2) (x := x.val) (cut_num x.val 8) (fun r => numS_put x.val 8 h1.1 (by simpa using h1.2) r) ?_ ?_ k hk
  · exact cut_hash x.lock h2
  · intro y hy
    show (hashS y.2).2.2 = _
    rw [hashS_err hy]
theorem take_snoc {α : Type} {f : α → List Int} {L : List α} {j : Nat} (h : j < L.length) : (L.take (j + 1)).flatMap f = (L.take j).flatMap f ++ f L[j] := by
  rw [List.take_succ_eq_append_getElem h, List.flatMap_append]
  simp
theorem cut_ins (L : List TIn) (h : ∀ x ∈ L, InOk x ∧ x.key.length ≤ 64) : ∀ j, j ≤ L.length → ∀ k, k < ((L.take j).flatMap inB).length → (insS j (((L.take j).flatMap inB).take k, 0)).2.2 = 4
  | 0, _, k, hk => by simp at hk
  | j + 1, hj, k, hk => by
    have hlt : j < L.length := by omega
    rw [take_snoc hlt] at hk ⊢
    have hx := h L[j] (List.getElem_mem hlt)
    refine cut_seq (p := insS j) (q := fun y => (inS y.2).2) (x := L.take j) (cut_ins L h j (by omega)) (fun r => ?_) (cut_in _ hx.1 hx.2) (fun y hy => ?_) k hk
    · have := insS_put (L.take j) (fun x hx => h x (List.mem_of_mem_take hx)) r j (by simp; omega)
      simpa [List.take_take] using this
    · show (inS y.2).2.2 = _
      rw [inS_err hy]
theorem cut_outs (L : List TOut) (h : ∀ x ∈ L, OutOk x) : ∀ j, j ≤ L.length → ∀ k, k < ((L.take j).flatMap outB).length → (outsS j (((L.take j).flatMap outB).take k, 0)).2.2 = 4
  | 0, _, k, hk => by simp at hk
  | j + 1, hj, k, hk => by
    have hlt : j < L.length := by omega
    rw [take_snoc hlt] at hk ⊢
    have hx := h L[j] (List.getElem_mem hlt)
    refine cut_seq (p := outsS j) (q := fun y => (outS y.2).2) (x := L.take j) (cut_outs L h j (by omega)) (fun r => ?_) (cut_out _ hx) (fun y hy => ?_) k hk
    · have := outsS_put (L.take j) (fun x hx => h x (List.mem_of_mem_take hx)) r j (by simp; omega)
      simpa [List.take_take] using this
    · show (outS y.2).2.2 = _
      rw [outS_err hy]
theorem cut_tx (t : Tr) (h : TrOk t) (hf : formB t = true) (k : Nat) (hk : k < (txB t).length) : (txS ((txB t).take k, 0)).2.2 = 4 := by
  obtain ⟨h1, h2, h3⟩ := h
  obtain ⟨f1, f2, f3⟩ := (formB_iff t).1 hf
  refine cut_seq (p := fun s : RdS => numS 4 s) (q := fun y => (outsS (countS 8 (insS (countS 8 y.2).1 (countS 8 y.2).2).2).1 (countS 8 (insS (countS 8 y.2).1 (countS 8 y.2).2).2).2).2) (x := t.ver) (cut_num t.ver 4) (fun r => numS_put t.ver 4 h1.1 (by simpa using h1.2) r) ?_ ?_ k hk
  · refine cut_seq (p := fun s : RdS => countS 8 s) (q := fun y => (outsS (countS 8 (insS y.1 y.2).2).1 (countS 8 (insS y.1 y.2).2).2).2) (x := t.ins.length) (cut_count _ 8 (by omega)) (fun r => countS_put _ 8 f1 (by omega) r) ?_ ?_
    · refine cut_seq (p := insS t.ins.length) (q := fun y => (outsS (countS 8 y.2).1 (countS 8 y.2).2).2) (x := t.ins) ?_ (fun r => ?_) ?_ ?_
      · have := cut_ins t.ins (fun x hx => ⟨h2 x hx, f3 x hx⟩) t.ins.length (Nat.le_refl _)
        simpa using this
      · have := insS_put t.ins (fun x hx => ⟨h2 x hx, f3 x hx⟩) r t.ins.length (Nat.le_refl _)
        simpa using this
      · refine cut_seq (p := fun s : RdS => countS 8 s) (q := fun y => (outsS y.1 y.2).2) (x := t.outs.length) (cut_count _ 8 (by omega)) (fun r => countS_put _ 8 f2 (by omega) r) ?_ ?_
        · have := cut_outs t.outs h3 t.outs.length (Nat.le_refl _)
          simpa using this
        · intro y hy
          show (outsS y.1 y.2).2.2 = _
          rw [outsS_err hy]
      · intro y hy
        show (outsS _ (countS 8 y.2).2).2.2 = _
        rw [countS_err hy, outsS_err hy]
    · intro y hy
      show (outsS _ (countS 8 (insS y.1 y.2).2).2).2.2 = _
      rw [insS_err hy, countS_err hy, outsS_err hy]
  · intro y hy
    show (outsS _ (countS 8 (insS _ (countS 8 y.2).2).2).2).2.2 = _
    rw [countS_err hy, insS_err hy, countS_err hy, outsS_err hy]
theorem get_cut (t : Tr) (h : TrOk t) (hf : formB t = true) (k : Nat) (hk : k < (txB t).length) : gtE ((txB t).take k) = 4 ∧ whE ((txB t).take k) = 4 ∧ whT ((txB t).take k) = noTr := by
  have e : gtE ((txB t).take k) = 4 := cut_tx t h hf k hk
  have e2 : whE ((txB t).take k) = 4 := by unfold whE; rw [if_pos (by rw [e]; decide), e]
  exact ⟨e, e2, by unfold whT; rw [if_neg (by rw [e2]; decide)]⟩
theorem var_one (x : Int) : 1 ≤ (var x).length ∧ (var x).length ≤ 9 := by have := var_length x; rcases size_cases x with ⟨_, h⟩ | ⟨_, _, h⟩ | ⟨_, _, h⟩ | ⟨_, h⟩ <;> omega
theorem txB_ge (t : Tr) : 6 ≤ (txB t).length := by
  have h1 := var_one (t.ins.length : Int)
  have h2 := var_one (t.outs.length : Int)
  simp only [txB, List.length_append, put_length]
  omega
theorem flat_le {α : Type} {f : α → List Int} {m : Nat} : ∀ (L : List α), (∀ x ∈ L, (f x).length ≤ m) → (L.flatMap f).length ≤ L.length * m
  | [], _ => by simp
  | x :: L, h => by
    have h1 := flat_le L (fun y hy => h y (by simp [hy]))
    have h2 := h x (by simp)
    simp only [List.flatMap_cons, List.length_append, List.length_cons, Nat.add_mul]
    omega
theorem txB_le (t : Tr) (h : TrOk t) (hf : formB t = true) : (txB t).length ≤ 2000 := by
  obtain ⟨h1, h2, h3⟩ := h
  obtain ⟨f1, f2, f3⟩ := (formB_iff t).1 hf
  have v1 := var_one (t.ins.length : Int)
  have v2 := var_one (t.outs.length : Int)
  have a1 := flat_le (f := inB) (m := 109) t.ins (fun x hx => by
    have := var_one (x.key.length : Int)
    have := f3 x hx
    have := (h2 x hx).1
    simp only [inB, List.length_append, put_length]
    omega)
  have a2 := flat_le (f := outB) (m := 40) t.outs (fun x hx => by
    have := (h3 x hx).2.1
    simp only [outB, List.length_append, put_length]
    omega)
  simp only [txB, List.length_append, put_length]
  omega

end Go.Proofs.YtbeegcpmpgdbnaaDoor
