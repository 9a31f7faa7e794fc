/-
  What is spent where all locks are opened; a number stored at the head of a row of outputs.
-/
import Derived.Test.YtbeegcpmpgdbnaaDoorFeeAl
namespace Go.Proofs.YtbeegcpmpgdbnaaDoor
open Go.RowKit

/-- Outputs whose locks the keys open. -/
def locks (L : List TIn) : List TOut := L.map fun x => ⟨0, digest x.key⟩
/-- The first one has this value. -/
def headV (z : Int) : List TOut → List TOut
  | [] => []
  | x :: L => ⟨z, x.lock⟩ :: L
theorem headV_length (z : Int) (L : List TOut) : (headV z L).length = L.length := by cases L <;> rfl
theorem locks_ok (L : List TIn) : ∀ x ∈ locks L, OutOk x := by
  intro x hx
  obtain ⟨y, _, rfl⟩ := List.mem_map.1 hx
  exact ⟨⟨Int.le_refl 0, by show (0 : Int) < 18446744073709551616; omega⟩, digest_length _, digest_all _⟩
theorem headV_ok {z : Int} {L : List TOut} (hz : Word z) (h : ∀ x ∈ L, OutOk x) : ∀ x ∈ headV z L, OutOk x := by
  cases L with
  | nil => exact h
  | cons y L =>
    intro x hx
    rcases List.mem_cons.1 hx with rfl | hx
    · exact ⟨hz, (h y (by simp)).2⟩
    · exact h x (by simp [hx])
theorem headV_opens (z : Int) (L : List TIn) : Opens L (headV z (locks L)) := by
  intro j x y h1 h2
  cases L with
  | nil => simp at h1
  | cons a L =>
    rcases j with _ | j
    · simp only [headV, locks, List.map_cons, List.getElem?_cons_zero, Option.some.injEq] at h1 h2
      subst h1
      subst h2
      rfl
    · simp only [headV, locks, List.map_cons, List.getElem?_cons_succ] at h1 h2
      rw [List.getElem?_map, h1] at h2
      simp only [Option.map_some, Option.some.injEq] at h2
      rw [← h2]
theorem app_opens (z : Int) (L : List TIn) (o : TOut) : Opens L (headV z (locks L) ++ [o]) := by
  intro j x y h1 h2
  have hj := (List.getElem?_eq_some_iff.1 h1).1
  rw [List.getElem?_append_left (by rw [headV_length]; simpa [locks] using hj)] at h2
  exact headV_opens z L j x y h1 h2
theorem tot_zeros (L : List TIn) : tot (valsO (locks L)) = 0 := by
  induction L with
  | nil => rfl
  | cons x L ih =>
    have : valsO (locks (x :: L)) = 0 :: valsO (locks L) := rfl
    rw [this]
    simp only [tot, ih]
    rfl
theorem headV_tot (z : Int) (L : List TIn) (h : 0 < L.length) : tot (valsO (headV z (locks L))) = z := by
  cases L with
  | nil => simp at h
  | cons x L =>
    have : valsO (headV z (locks (x :: L))) = z :: valsO (locks L) := rfl
    rw [this]
    simp only [tot, tot_zeros]
    omega
theorem sumV_tot' (L : List TOut) : tot (valsO L) = sumV L := by
  induction L with
  | nil => rfl
  | cons x L ih =>
    have h1 : valsO (x :: L) = x.val :: valsO L := rfl
    rw [h1]
    simp only [tot, ih, sumV, List.map_cons, List.sum_cons]
/-- What a transaction that may be pays, where its first output of all is so great. -/
theorem takes_enough {t : Tr} {p d : Bool} (hc : chE t p d = 0) (hp : p = true ↔ PayOk t.outs) (hpt : p = true) (h0 : 0 < t.ins.length) (m : Int) (hm : 0 ≤ m ∧ m < 4294967296) :
    ofV t (headV (sumV t.outs + m) (locks t.ins)) p d true = m ∧ ofE t (headV (sumV t.outs + m) (locks t.ins)) p d true = 0 := by
  have hs := (hp.1 hpt).2
  have h1 := headV_tot (sumV t.outs + m) t.ins h0
  have h2 := sumV_tot' t.outs
  have h3 := (sumV_le t.outs (hp.1 hpt).1).1
  have hl : (headV (sumV t.outs + m) (locks t.ins)).length = t.ins.length := by rw [headV_length]; simp [locks]
  have e1 : csumV (valsO (headV (sumV t.outs + m) (locks t.ins))) = sumV t.outs + m := by unfold csumV; rw [h1, if_pos (by omega)]
  have e2 : csumV (valsO t.outs) = sumV t.outs := by unfold csumV; rw [h2, if_pos (by omega)]
  have e3 : sumE (valsO (headV (sumV t.outs + m) (locks t.ins))) = 0 := by unfold sumE; rw [h1, if_pos (by omega)]
  unfold ofV ofE
  rw [e1, e2, e3, hc, hl]
  refine ⟨?_, ?_⟩
  · rw [if_pos ⟨rfl, rfl, rfl, rfl, by omega⟩]
    omega
  · rw [if_neg (by simp), if_neg (by simp), if_neg (by decide), if_neg (by omega)]
theorem takes_less {t : Tr} {p d : Bool} (hc : chE t p d = 0) (hp : p = true ↔ PayOk t.outs) (hpt : p = true) (h0 : 0 < t.ins.length) (h9 : 0 < sumV t.outs) :
    ofE t (headV (sumV t.outs - 1) (locks t.ins)) p d true = 11 := by
  have hs := (hp.1 hpt).2
  have h1 := headV_tot (sumV t.outs - 1) t.ins h0
  have h2 := sumV_tot' t.outs
  have hl : (headV (sumV t.outs - 1) (locks t.ins)).length = t.ins.length := by rw [headV_length]; simp [locks]
  have e1 : csumV (valsO (headV (sumV t.outs - 1) (locks t.ins))) = sumV t.outs - 1 := by unfold csumV; rw [h1, if_pos (by omega)]
  have e2 : csumV (valsO t.outs) = sumV t.outs := by unfold csumV; rw [h2, if_pos (by omega)]
  unfold ofE
  rw [e1, e2, hc, hl]
  rw [if_neg (by simp), if_neg (by simp), if_neg (by decide), if_pos (Or.inr (by omega))]
theorem takes_more {t : Tr} {p d : Bool} (hc : chE t p d = 0) (L : List TOut) (hl : L.length ≠ t.ins.length) (r : Bool) : ofE t L p d r = 2 := by
  unfold ofE
  rw [hc, if_neg (by simp), if_pos hl]
theorem sumV_pos {L : List TOut} (h : ∀ x ∈ L, valOk x) (h0 : 0 < L.length) : 0 < sumV L := by
  cases L with
  | nil => simp at h0
  | cons x L =>
    have h1 := (sumV_le L (fun y hy => h y (by simp [hy]))).1
    have h2 := (h x (by simp)).1
    have : sumV (x :: L) = x.val + sumV L := by simp [sumV]
    omega
/-- A number is stored at the head of a row. -/
theorem head_set {w : World} {base g n cap : Nat} {t : TypeId} {u : Value} (hu : u.oneCell' = true) {c : List Value} {c0 : Value} {C : List (List Value)} (h : RowOwn w base t 33 (.slice (some ⟨g, 0, none⟩) n cap) ((c0 :: c) :: C)) :
    RowOwn (w.setCell ⟨g, 0, none⟩ u) base t 33 (.slice (some ⟨g, 0, none⟩) n cap) ((u :: c) :: C) ∧ w.cell? ⟨g, 0, none⟩ = some c0 ∧ w.frozen? ⟨g, 0, none⟩ = false ∧ base ≤ g := by
  obtain ⟨⟨hl, hr⟩, hs⟩ := h
  rcases hr with ⟨e, _⟩ | ⟨g', cap', cur, e, hbg, hg, hn, hm, hcs, ht⟩
  · cases e
  · cases e
    have hc32 : c.length = 32 := by have := (hs _ (List.mem_cons_self ..)).1; simpa using this
    have hsz : 0 < cur.size := by
      rw [hcs]
      have h1 : (List.length ((c0 :: c) :: C)) ≤ cap := hn
      simp only [List.length_cons] at h1
      omega
    have h0 : cur[0]? = some c0 := by
      have h1 : (cur.toList.take ((List.length ((c0 :: c) :: C)) * 33))[0]? = ((c0 :: c) :: C).flatten[0]? := by rw [ht]
      rw [List.getElem?_take_of_lt (by simp), Array.getElem?_toList] at h1
      rw [h1]
      rfl
    refine ⟨⟨⟨?_, Or.inr ⟨g, cap, cur.setIfInBounds 0 u, rfl, hbg, ?_, hn, hm, by simpa using hcs, ?_⟩⟩, ?_⟩, ?_, ?_, hbg⟩
    · simpa using hl
    · have hgw : g < w.heap.size := (Array.getElem?_eq_some_iff.1 hg).1
      simp [World.setCell, Array.getElem?_modify, hg]
    · apply List.ext_getElem?
      intro i
      have h1 : (cur.toList.take ((List.length ((c0 :: c) :: C)) * 33))[i]? = ((c0 :: c) :: C).flatten[i]? := by rw [ht]
      rcases i with _ | i
      · rw [List.getElem?_take_of_lt (by simp), Array.getElem?_toList]
        simp [hsz]
      · by_cases hi : i + 1 < (List.length ((c0 :: c) :: C)) * 33
        · rw [List.getElem?_take_of_lt hi, Array.getElem?_toList] at h1
          rw [List.getElem?_take_of_lt (by simpa using hi), Array.getElem?_toList]
          simp only [Array.getElem?_setIfInBounds]
          rw [if_neg (by omega), h1]
          simp
        · rw [List.getElem?_take_eq_none (by omega)] at h1
          rw [List.getElem?_take_eq_none (by simp at hi ⊢; omega)]
          simpa using h1
    · intro d hd
      rcases List.mem_cons.1 hd with rfl | hd
      · refine ⟨by simp [hc32], fun v hv => ?_⟩
        rcases List.mem_cons.1 hv with rfl | hv
        · exact hu
        · exact (hs _ (List.mem_cons_self ..)).2 v (by simp [hv])
      · exact hs d (by simp [hd])
    · simp [World.cell?, hg, h0]
    · simp [World.frozen?, hg]

end Go.Proofs.YtbeegcpmpgdbnaaDoor
