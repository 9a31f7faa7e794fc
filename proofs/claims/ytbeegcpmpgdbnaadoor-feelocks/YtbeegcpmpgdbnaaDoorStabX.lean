import Derived.Sort.LotA
import Derived.Test.YtbeegcpmpgdbnaaDoorKit
import Derived.Shelf.SlSortCmp.Insertion1
/-
  Plain arrays, with no word of the program: an order that a stable sort makes; rotations, exchanges; two sorted parts, merged.
-/
namespace Go.Proofs.YtbeegcpmpgdbnaaDoor
open Go.Sort
variable {α : Type} [Inhabited α]

/-- Less, or else earlier. -/
def stT (lt : α → α → Bool) (pos : α → Nat) (x y : α) : Bool := lt x y || (!lt y x && decide (pos x < pos y))
omit [Inhabited α] in
theorem stT_true {lt : α → α → Bool} {pos : α → Nat} {x y : α} : stT lt pos x y = true ↔ lt x y = true ∨ (lt y x = false ∧ pos x < pos y) := by
  simp [stT]
omit [Inhabited α] in
theorem stT_false {lt : α → α → Bool} {pos : α → Nat} {x y : α} : stT lt pos x y = false ↔ lt x y = false ∧ (lt y x = true ∨ pos y ≤ pos x) := by
  unfold stT
  cases lt x y <;> cases lt y x <;> simp <;> omega
omit [Inhabited α] in
theorem stT_swo {lt : α → α → Bool} (pos : α → Nat) (h : SWO lt) : SWO (stT lt pos) where
  irrefl x := stT_false.2 ⟨h.irrefl x, Or.inr (Nat.le_refl _)⟩
  trans x y z h1 h2 := by
    rw [stT_true] at *
    rcases h1 with h1 | ⟨h1, p1⟩ <;> rcases h2 with h2 | ⟨h2, p2⟩
    · exact Or.inl (h.trans x y z h1 h2)
    · cases c : lt x z with
      | true => exact Or.inl rfl
      | false =>
        rw [h.ntrans x z y c h2] at h1
        cases h1
    · cases c : lt x z with
      | true => exact Or.inl rfl
      | false =>
        rw [h.ntrans y x z h1 c] at h2
        cases h2
    · exact Or.inr ⟨h.ntrans z y x h2 h1, by omega⟩
  ntrans x y z h1 h2 := by
    rw [stT_false] at *
    refine ⟨h.ntrans x y z h1.1 h2.1, ?_⟩
    cases c : lt z x with
    | true => exact Or.inl rfl
    | false =>
      rcases h1.2 with a | a
      · rw [h.ntrans y z x h2.1 c] at a
        cases a
      · rcases h2.2 with b | b
        · rw [h.ntrans z x y c h1.1] at b
          cases b
        · exact Or.inr (by omega)
omit [Inhabited α] in
theorem stT_late {lt : α → α → Bool} {pos : α → Nat} {x y : α} (h : pos y < pos x) : stT lt pos x y = lt x y := by
  unfold stT
  rw [show decide (pos x < pos y) = false from decide_eq_false (by omega)]
  simp
omit [Inhabited α] in
theorem stT_total {lt : α → α → Bool} {pos : α → Nat} (hp : ∀ x y, pos x = pos y → x = y) {x y : α} (h : x ≠ y) (h1 : stT lt pos y x = false) : stT lt pos x y = true := by
  have hne : pos x ≠ pos y := fun e => h (hp x y e)
  rw [stT_false] at h1
  rw [stT_true]
  rcases h1.2 with c | c
  · exact Or.inl c
  · exact Or.inr ⟨h1.1, by omega⟩

/-- Nothing outside has turned; what lies within came from within. -/
def From (a b : Nat) (d d' : Array α) : Prop := d'.size = d.size ∧ (∀ i, i < a ∨ b ≤ i → d'[i]! = d[i]!) ∧ ∀ i, a ≤ i → i < b → ∃ j, a ≤ j ∧ j < b ∧ d'[i]! = d[j]!
theorem From.refl (a b : Nat) (d : Array α) : From a b d d := ⟨rfl, fun _ _ => rfl, fun i h1 h2 => ⟨i, h1, h2, rfl⟩⟩
theorem From.trans {a b : Nat} {d d' d'' : Array α} (h : From a b d d') (h' : From a b d' d'') : From a b d d'' := by
  refine ⟨h'.1.trans h.1, fun i hi => (h'.2.1 i hi).trans (h.2.1 i hi), fun i h1 h2 => ?_⟩
  obtain ⟨j, h3, h4, e⟩ := h'.2.2 i h1 h2
  obtain ⟨k, h5, h6, e'⟩ := h.2.2 j h3 h4
  exact ⟨k, h5, h6, e.trans e'⟩
theorem From.mono {a b a' b' : Nat} {d d' : Array α} (h : From a b d d') (h1 : a' ≤ a) (h2 : b ≤ b') : From a' b' d d' := by
  refine ⟨h.1, fun i hi => h.2.1 i (by omega), fun i h3 h4 => ?_⟩
  by_cases c : a ≤ i ∧ i < b
  · obtain ⟨j, h5, h6, e⟩ := h.2.2 i c.1 c.2
    exact ⟨j, by omega, by omega, e⟩
  · exact ⟨i, h3, h4, h.2.1 i (by omega)⟩
/-- Each is less than all behind it. -/
def Up (lt : α → α → Bool) (a b : Nat) (d : Array α) : Prop := ∀ i j, a ≤ i → i < j → j < b → lt d[i]! d[j]! = true
/-- All before m came ahead of all behind it. -/
def Fore (pos : α → Nat) (a m b : Nat) (d : Array α) : Prop := ∀ i j, a ≤ i → i < m → m ≤ j → j < b → pos d[i]! < pos d[j]!
theorem Up.same {lt : α → α → Bool} {a b : Nat} {d d' : Array α} (h : Up lt a b d) (e : ∀ i, a ≤ i → i < b → d'[i]! = d[i]!) : Up lt a b d' := by
  intro i j h1 h2 h3
  rw [e i h1 (by omega), e j (by omega) h3]
  exact h i j h1 h2 h3
theorem Fore.same {pos : α → Nat} {a m b : Nat} {d d' : Array α} (h : Fore pos a m b d) (e : ∀ i, a ≤ i → i < b → d'[i]! = d[i]!) : Fore pos a m b d' := by
  intro i j h1 h2 h3 h4
  rw [e i h1 (by omega), e j (by omega) h4]
  exact h i j h1 h2 h3 h4

/-! Insertion: what is held against another one came later: so it is one whether 'less' or 'less, or else earlier'. -/
theorem insInner_from (lt : α → α → Bool) (a : Nat) : ∀ (j : Nat) (d : Array α), a ≤ j → j < d.size → From a (j + 1) d (insInner lt a j d)
  | 0, d, _, _ => From.refl _ _ _
  | j + 1, d, haj, hj => by
    unfold insInner
    split
    · rename_i hc
      simp only [Bool.and_eq_true, decide_eq_true_eq] at hc
      have ih := insInner_from lt a j (swp d (j + 1) j) (by omega) (by rw [swp_size]; omega)
      have g := swp_get d hj (show j < d.size by omega)
      refine From.trans ⟨swp_size _ _ _, fun i hi => ?_, fun i h1 h2 => ?_⟩ (ih.mono (Nat.le_refl _) (by omega))
      · rw [g, if_neg (by omega), if_neg (by omega)]
      · rw [g]
        by_cases c1 : i = j
        · exact ⟨j + 1, by omega, by omega, by rw [if_pos c1]⟩
        · by_cases c2 : i = j + 1
          · exact ⟨j, by omega, by omega, by rw [if_neg c1, if_pos c2]⟩
          · exact ⟨i, h1, h2, by rw [if_neg c1, if_neg c2]⟩
    · exact From.refl _ _ _
theorem insInner_stable (lt : α → α → Bool) (pos : α → Nat) (a : Nat) : ∀ (j : Nat) (d : Array α), j < d.size → (∀ k, a ≤ k → k < j → pos d[k]! < pos d[j]!) → insInner lt a j d = insInner (stT lt pos) a j d
  | 0, _, _, _ => rfl
  | j + 1, d, hj, h => by
    unfold insInner
    by_cases hja : j + 1 > a
    · rw [stT_late (h j (by omega) (by omega))]
      have g := swp_get d hj (show j < d.size by omega)
      have ih := insInner_stable lt pos a j (swp d (j + 1) j) (by rw [swp_size]; omega) (fun k h1 h2 => by
        rw [g, g, if_neg (by omega), if_neg (by omega), if_pos rfl]
        exact h k h1 (by omega))
      rw [ih]
    · rw [show decide (j + 1 > a) = false from decide_eq_false hja]
      simp
theorem insOuter_stable (lt : α → α → Bool) (pos : α → Nat) (a b : Nat) : ∀ (n i : Nat) (d : Array α), b - i = n → a < i → b ≤ d.size → Fore pos a i b d → (∀ k l, i ≤ k → k < l → l < b → pos d[k]! < pos d[l]!) →
    insOuter lt a b i d = insOuter (stT lt pos) a b i d
  | 0, i, d, hn, _, _, _, _ => by
    rw [insOuter, if_neg (by omega), insOuter, if_neg (by omega)]
  | n + 1, i, d, hn, hai, hb, hF, hU => by
    have hlt : i < b := by omega
    have e := insInner_stable lt pos a i d (by omega) (fun k h1 h2 => hF k i h1 h2 (Nat.le_refl _) hlt)
    have f := insInner_from lt a i d (by omega) (by omega)
    rw [show insOuter lt a b i d = insOuter lt a b (i + 1) (insInner lt a i d) by rw [insOuter, if_pos hlt], show insOuter (stT lt pos) a b i d = insOuter (stT lt pos) a b (i + 1) (insInner (stT lt pos) a i d) by rw [insOuter, if_pos hlt], ← e]
    refine insOuter_stable lt pos a b n (i + 1) _ (by omega) (by omega) (by rw [f.1]; exact hb) (fun k l h1 h2 h3 h4 => ?_) (fun k l h1 h2 h3 => ?_)
    · obtain ⟨k', h5, h6, e'⟩ := f.2.2 k h1 h2
      rw [e', f.2.1 l (by omega)]
      by_cases c : k' < i
      · exact hF k' l h5 c (by omega) h4
      · exact hU k' l (by omega) (by omega) h4
    · rw [f.2.1 k (by omega), f.2.1 l (by omega)]
      exact hU k l (by omega) h2 h3
theorem insertion_sorts {lt : α → α → Bool} {pos : α → Nat} (hS : SWO lt) (hp : ∀ x y, pos x = pos y → x = y) (d : Array α) (a b : Nat) (hab : a ≤ b) (hb : b ≤ d.size) (h : ∀ k l, a ≤ k → k < l → l < b → pos d[k]! < pos d[l]!) :
    From a b d (insertionSort lt d a b) ∧ Up (stT lt pos) a b (insertionSort lt d a b) := by
  have e : insertionSort lt d a b = insertionSort (stT lt pos) d a b := insOuter_stable lt pos a b _ (a + 1) d rfl (by omega) hb (fun k l h1 h2 h3 h4 => h k l h1 (by omega) h4) (fun k l h1 h2 h3 => h k l (by omega) h2 h3)
  rw [e]
  obtain ⟨hP, hU⟩ := insertionSort_holds (stT_swo pos hS) d a b hab hb
  generalize insertionSort (stT lt pos) d a b = d' at hP hU
  refine ⟨⟨hP.1, hP.2.1, permIn_all d d' a b (fun x => ∃ j, a ≤ j ∧ j < b ∧ x = d[j]!) hb hP (fun i h1 h2 => ⟨i, h1, h2, rfl⟩)⟩, fun i j h1 h2 h3 => ?_⟩
  refine stT_total hp (fun e => ?_) (hU i j h1 h2 h3)
  have hn : ((d.extract a b).toList).Nodup := by
    rw [List.Nodup, List.pairwise_iff_getElem]
    intro k l hk hl hkl e
    simp only [Array.length_toList, Array.size_extract] at hk hl
    have := h (a + k) (a + l) (by omega) (by omega) (by omega)
    simp only [Array.getElem_toList, Array.getElem_extract] at e
    rw [getElem!_pos d (a + k) (by omega), getElem!_pos d (a + l) (by omega), e] at this
    omega
  have hn' := hP.2.2.nodup_iff.2 hn
  rw [List.Nodup, List.pairwise_iff_getElem] at hn'
  have hs : d'.size = d.size := hP.1
  refine hn' (i - a) (j - a) (by simp; omega) (by simp; omega) (by omega) ?_
  simp only [Array.getElem_toList, Array.getElem_extract]
  rw [getElem!_pos d' i (by omega), getElem!_pos d' j (by omega)] at e
  have e1 : a + (i - a) = i := by omega
  have e2 : a + (j - a) = j := by omega
  simp only [e1, e2]
  exact e

/-! Rotations and exchanges, place by place. -/
def rotF (lo m hi : Nat) (A : Nat → α) (k : Nat) : α := if lo ≤ k ∧ k < lo + (hi - m) then A (k + (m - lo)) else if lo + (hi - m) ≤ k ∧ k < hi then A (k - (hi - m)) else A k
def swrF (x y l : Nat) (A : Nat → α) (k : Nat) : α := if x ≤ k ∧ k < x + l then A (k - x + y) else if y ≤ k ∧ k < y + l then A (k - y + x) else A k
omit [Inhabited α] in
theorem rot_gt (i j m : Nat) (A : Nat → α) (h : j < i) (hi : i ≤ m) : rotF (m - (i - j)) m (m + j) (swrF (m - i) m j A) = rotF (m - i) m (m + j) A := by
  funext k
  simp only [rotF, swrF]
  repeat' split
  all_goals first | omega | rfl | (congr 1 <;> omega)
omit [Inhabited α] in
theorem rot_lt (i j m : Nat) (A : Nat → α) (h : i < j) (hi : i ≤ m) : rotF (m - i) m (m + (j - i)) (swrF (m - i) (m + j - i) i A) = rotF (m - i) m (m + j) A := by
  funext k
  simp only [rotF, swrF]
  repeat' split
  all_goals first | omega | rfl | (congr 1 <;> omega)
omit [Inhabited α] in
theorem rot_eq (i m : Nat) (A : Nat → α) (hi : i ≤ m) : swrF (m - i) m i A = rotF (m - i) m (m + i) A := by
  funext k
  simp only [rotF, swrF]
  repeat' split
  all_goals first | omega | rfl | (congr 1 <;> omega)
omit [Inhabited α] in
theorem rot_none (lo m hi : Nat) (A : Nat → α) (h : hi ≤ m ∨ m ≤ lo) (h1 : lo ≤ m) (h2 : m ≤ hi) : rotF lo m hi A = A := by
  funext k
  simp only [rotF]
  repeat' split
  all_goals first | omega | rfl | (congr 1 <;> omega)
omit [Inhabited α] in
theorem swr_none (x y : Nat) (A : Nat → α) : swrF x y 0 A = A := by
  funext k
  simp only [swrF]
  repeat' split
  all_goals first | omega | rfl
theorem swr_step (x y l : Nat) (A : Nat → α) (d : Array α) (h : x + l < y) (hd : ∀ k, d[k]! = swrF x y l A k) (hy : y + l < d.size) : ∀ k, (swp d (x + l) (y + l))[k]! = swrF x y (l + 1) A k := by
  intro k
  rw [swp_get d (by omega) hy, hd, hd, hd]
  simp only [swrF]
  repeat' split
  all_goals first | omega | rfl | (congr 1 <;> omega)
theorem rise_step (a t : Nat) (A : Nat → α) (d : Array α) (hd : ∀ k, d[k]! = rotF a (a + 1) (a + 1 + t) A k) (hs : a + t + 1 < d.size) : ∀ k, (swp d (a + t) (a + t + 1))[k]! = rotF a (a + 1) (a + 1 + (t + 1)) A k := by
  intro k
  rw [swp_get d (by omega) hs, hd, hd, hd]
  simp only [rotF]
  repeat' split
  all_goals first | omega | rfl | (congr 1 <;> omega)
theorem fall_step (k0 m : Nat) (A : Nat → α) (d : Array α) (hk : k0 + 1 ≤ m) (hd : ∀ k, d[k]! = rotF (k0 + 1) m (m + 1) A k) (hs : m < d.size) : ∀ k, (swp d (k0 + 1) k0)[k]! = rotF k0 m (m + 1) A k := by
  intro k
  rw [swp_get d (by omega) (by omega), hd, hd, hd]
  simp only [rotF]
  repeat' split
  all_goals first | omega | rfl | (congr 1 <;> omega)
theorem rot_from {lo m hi : Nat} {d d' : Array α} (hs : d'.size = d.size) (h1 : lo ≤ m) (h2 : m ≤ hi) (hd : ∀ k, d'[k]! = rotF lo m hi (fun k => d[k]!) k) : From lo hi d d' := by
  refine ⟨hs, fun i hi => ?_, fun i h3 h4 => ?_⟩
  · rw [hd]
    simp only [rotF]
    repeat' split
    all_goals first | omega | rfl
  · rw [hd]
    by_cases c : i < lo + (hi - m)
    · exact ⟨i + (m - lo), by omega, by omega, by simp only [rotF]; rw [if_pos ⟨h3, c⟩]⟩
    · exact ⟨i - (hi - m), by omega, by omega, by simp only [rotF]; rw [if_neg (by omega), if_pos ⟨by omega, h4⟩]⟩

/-! Merging. -/
theorem up_le {lt : α → α → Bool} (hS : SWO lt) {a b : Nat} {d : Array α} (h : Up lt a b d) {i j : Nat} (h1 : a ≤ i) (h2 : i ≤ j) (h3 : j < b) {x : α} (hx : lt d[j]! x = true) : lt d[i]! x = true := by
  by_cases e : i = j
  · subst e; exact hx
  · exact hS.trans _ _ _ (h i j h1 (by omega) h3) hx
theorem up_ge {lt : α → α → Bool} (hS : SWO lt) {a b : Nat} {d : Array α} (h : Up lt a b d) {i j : Nat} (h1 : a ≤ i) (h2 : i ≤ j) (h3 : j < b) {x : α} (hx : lt x d[i]! = true) : lt x d[j]! = true := by
  by_cases e : i = j
  · subst e; exact hx
  · exact hS.trans _ _ _ hx (h i j h1 (by omega) h3)
/-- One is put among those behind it. -/
theorem merge_one {lt : α → α → Bool} (hS : SWO lt) {a b i : Nat} {d d' : Array α} (hi1 : a + 1 ≤ i) (hi2 : i ≤ b) (hU : Up lt (a + 1) b d) (h1 : i = a + 1 ∨ lt d[i - 1]! d[a]! = true) (h2 : i = b ∨ lt d[a]! d[i]! = true)
    (hd : ∀ k, d'[k]! = rotF a (a + 1) i (fun k => d[k]!) k) : Up lt a b d' := by
  have g : ∀ k, a ≤ k → k < b → (k < i - 1 ∧ d'[k]! = d[k + 1]!) ∨ (k = i - 1 ∧ d'[k]! = d[a]!) ∨ (i ≤ k ∧ d'[k]! = d[k]!) := by
    intro k hk hkb
    rw [hd]
    simp only [rotF]
    by_cases c1 : k < i - 1
    · exact Or.inl ⟨c1, by rw [if_pos (by omega)]; congr 1; omega⟩
    · by_cases c2 : k = i - 1
      · exact Or.inr (Or.inl ⟨c2, by rw [if_neg (by omega), if_pos (by omega)]; congr 1; omega⟩)
      · exact Or.inr (Or.inr ⟨by omega, by rw [if_neg (by omega), if_neg (by omega)]⟩)
  intro p q hp hpq hq
  rcases g p hp (by omega) with ⟨c, e⟩ | ⟨c, e⟩ | ⟨c, e⟩ <;> rcases g q (by omega) hq with ⟨c', e'⟩ | ⟨c', e'⟩ | ⟨c', e'⟩ <;> rw [e, e']
  · exact hU _ _ (by omega) (by omega) (by omega)
  · exact up_le hS hU (by omega) (show p + 1 ≤ i - 1 by omega) (by omega) (h1.resolve_left (by omega))
  · exact hU _ _ (by omega) (by omega) (by omega)
  · omega
  · omega
  · exact up_ge hS hU (by omega) c' hq (h2.resolve_left (by omega))
  · omega
  · omega
  · exact hU _ _ (by omega) (by omega) (by omega)
theorem merge_last {lt : α → α → Bool} (hS : SWO lt) {a m i : Nat} {d d' : Array α} (hi1 : a ≤ i) (hi2 : i ≤ m) (hU : Up lt a m d) (h1 : i = a ∨ lt d[i - 1]! d[m]! = true) (h2 : i = m ∨ lt d[m]! d[i]! = true)
    (hd : ∀ k, d'[k]! = rotF i m (m + 1) (fun k => d[k]!) k) : Up lt a (m + 1) d' := by
  have g : ∀ k, a ≤ k → k < m + 1 → (k < i ∧ d'[k]! = d[k]!) ∨ (k = i ∧ d'[k]! = d[m]!) ∨ (i < k ∧ d'[k]! = d[k - 1]!) := by
    intro k hk hkb
    rw [hd]
    simp only [rotF]
    by_cases c1 : k < i
    · exact Or.inl ⟨c1, by rw [if_neg (by omega), if_neg (by omega)]⟩
    · by_cases c2 : k = i
      · exact Or.inr (Or.inl ⟨c2, by rw [if_pos (by omega)]; congr 1; omega⟩)
      · exact Or.inr (Or.inr ⟨by omega, by rw [if_neg (by omega), if_pos (by omega)]; congr 1; omega⟩)
  intro p q hp hpq hq
  rcases g p hp (by omega) with ⟨c, e⟩ | ⟨c, e⟩ | ⟨c, e⟩ <;> rcases g q (by omega) hq with ⟨c', e'⟩ | ⟨c', e'⟩ | ⟨c', e'⟩ <;> rw [e, e']
  · exact hU _ _ hp hpq (by omega)
  · exact up_le hS hU hp (show p ≤ i - 1 by omega) (by omega) (h1.resolve_left (by omega))
  · exact hU _ _ hp (by omega) (by omega)
  · omega
  · omega
  · exact up_ge hS hU hi1 (show i ≤ q - 1 by omega) (by omega) (h2.resolve_left (by omega))
  · omega
  · omega
  · exact hU _ _ (by omega) (by omega) (by omega)
/-- Rotated where the two parts part, all before the middle is less than all behind it; what is left are two mergings. -/
structure Parted (lt : α → α → Bool) (pos : α → Nat) (a s mid e b : Nat) (d : Array α) : Prop where
  across : ∀ i j, a ≤ i → i < mid → mid ≤ j → j < b → lt d[i]! d[j]! = true
  u1 : Up lt a s d
  u2 : Up lt s mid d
  u3 : Up lt mid e d
  u4 : Up lt e b d
  f1 : Fore pos a s mid d
  f2 : Fore pos mid e b d
theorem parted {lt : α → α → Bool} (hS : SWO lt) {pos : α → Nat} {a m b s mid s0 r0 : Nat} {d d' : Array α} (ham : a < m) (hmb : m < b) (hmid : mid = (a + b) / 2)
    (hc : (mid < m ∧ s0 = mid + m - b ∧ r0 = mid) ∨ (m ≤ mid ∧ s0 = a ∧ r0 = m)) (hs1 : s0 ≤ s) (hs2 : s ≤ r0)
    (hL : Up lt a m d) (hR : Up lt m b d) (hF : Fore pos a m b d)
    (h1 : s = s0 ∨ lt d[s - 1]! d[mid + m - s]! = true) (h2 : s = r0 ∨ lt d[mid + m - 1 - s]! d[s]! = true)
    (hd : ∀ k, d'[k]! = rotF s m (mid + m - s) (fun k => d[k]!) k) : Parted lt pos a s mid (mid + m - s) b d' := by
  have ha : a ≤ s ∧ s ≤ m ∧ s ≤ mid ∧ m ≤ mid + m - s ∧ mid + m - s ≤ b ∧ mid < b ∧ a ≤ mid := by omega
  obtain ⟨e, he⟩ : ∃ e, e = mid + m - s := ⟨_, rfl⟩
  rw [← he] at hd ha h1 ⊢
  have he1 : mid + m - 1 - s = e - 1 := by omega
  rw [he1] at h2
  have hsum : s + (e - m) = mid := by omega
  have g1 : ∀ k, k < s → d'[k]! = d[k]! := fun k h => by
    rw [hd]; simp only [rotF]; rw [if_neg (by omega), if_neg (by omega)]
  have g2 : ∀ k, s ≤ k → k < mid → d'[k]! = d[k + (m - s)]! := fun k h h' => by
    rw [hd]; simp only [rotF]; rw [if_pos (by omega)]
  have g3 : ∀ k, mid ≤ k → k < e → d'[k]! = d[k - (e - m)]! := fun k h h' => by
    rw [hd]; simp only [rotF]; rw [if_neg (by omega), if_pos (by omega)]
  have g4 : ∀ k, e ≤ k → d'[k]! = d[k]! := fun k h => by
    rw [hd]; simp only [rotF]; rw [if_neg (by omega), if_neg (by omega)]
  refine ⟨fun i j hi hi' hj hj' => ?_, fun i j hi hij hj => ?_, fun i j hi hij hj => ?_, fun i j hi hij hj => ?_, fun i j hi hij hj => ?_, fun i j hi hi' hj hj' => ?_, fun i j hi hi' hj hj' => ?_⟩
  · by_cases c : i < s <;> by_cases c' : j < e
    · rw [g1 i c, g3 j hj c']
      exact hL _ _ hi (by omega) (by omega)
    · rw [g1 i c, g4 j (by omega)]
      exact up_le hS hL hi (show i ≤ s - 1 by omega) (by omega) (up_ge hS hR (show m ≤ e by omega) (by omega) hj' (h1.resolve_left (by omega)))
    · rw [g2 i (by omega) hi', g3 j hj c']
      exact up_le hS hR (by omega) (show i + (m - s) ≤ e - 1 by omega) (by omega) (up_ge hS hL ha.1 (show s ≤ j - (e - m) by omega) (by omega) (h2.resolve_left (by omega)))
    · rw [g2 i (by omega) hi', g4 j (by omega)]
      exact hR _ _ (by omega) (by omega) hj'
  · rw [g1 i (by omega), g1 j hj]
    exact hL _ _ hi hij (by omega)
  · rw [g2 i hi (by omega), g2 j (by omega) hj]
    exact hR _ _ (by omega) (by omega) (by omega)
  · rw [g3 i hi (by omega), g3 j (by omega) hj]
    exact hL _ _ (by omega) (by omega) (by omega)
  · rw [g4 i hi, g4 j (by omega)]
    exact hR _ _ (by omega) hij hj
  · rw [g1 i hi', g2 j hj hj']
    exact hF _ _ hi (by omega) (by omega) (by omega)
  · rw [g3 i hi hi', g4 j hj]
    exact hF _ _ (by omega) (by omega) (by omega) hj'
theorem merged {lt : α → α → Bool} {a mid b : Nat} {d1 d2 d3 : Array α} (ha : a ≤ mid) (hb : mid ≤ b) (hx : ∀ i j, a ≤ i → i < mid → mid ≤ j → j < b → lt d1[i]! d1[j]! = true)
    (f1 : From a mid d1 d2) (u1 : Up lt a mid d2) (f2 : From mid b d2 d3) (u2 : Up lt mid b d3) : From a b d1 d3 ∧ Up lt a b d3 := by
  refine ⟨(f1.mono (Nat.le_refl _) hb).trans (f2.mono ha (Nat.le_refl _)), fun i j hi hij hj => ?_⟩
  by_cases c : j < mid
  · rw [f2.2.1 i (by omega), f2.2.1 j (by omega)]
    exact u1 i j hi hij c
  · by_cases c' : i < mid
    · obtain ⟨j', h3, h4, e⟩ := f2.2.2 j (by omega) hj
      obtain ⟨i', h5, h6, e'⟩ := f1.2.2 i hi c'
      rw [f2.2.1 i (by omega), e', e, f1.2.1 j' (by omega)]
      exact hx i' j' h5 h6 h3 h4
    · exact u2 i j (by omega) hij hj

end Go.Proofs.YtbeegcpmpgdbnaaDoor

/-
  Plain arrays, with no word of the program: blocks of one length, sorted one by one; blocks of twice that length, merged.
-/
namespace Go.Proofs.YtbeegcpmpgdbnaaDoor
open Go.Sort
variable {α : Type} [Inhabited α]

/-- The two places lie in blocks apart. -/
def Sep (s i j : Nat) : Prop := ∃ u, i < s * u ∧ s * u ≤ j
theorem sep_one {s t i j : Nat} (hi : s * t ≤ i) (hj : j < s * (t + 1)) : ¬ Sep s i j := by
  rintro ⟨u, h1, h2⟩
  have a1 : t < u := Nat.lt_of_mul_lt_mul_left (Nat.lt_of_le_of_lt hi h1)
  have a2 : u < t + 1 := Nat.lt_of_mul_lt_mul_left (Nat.lt_of_le_of_lt h2 hj)
  omega
theorem sep_double {s i j : Nat} (h : Sep (2 * s) i j) : Sep s i j := by
  obtain ⟨u, h1, h2⟩ := h
  exact ⟨2 * u, by rw [← Nat.mul_assoc, Nat.mul_comm s 2]; exact h1, by rw [← Nat.mul_assoc, Nat.mul_comm s 2]; exact h2⟩
theorem sep_lt {s i j : Nat} (h : Sep s i j) : i < j := by
  obtain ⟨u, h1, h2⟩ := h
  omega
/-- Blocks apart are in the order in which they came. -/
def Fo (pos : α → Nat) (s n : Nat) (d : Array α) : Prop := ∀ i j, Sep s i j → j < n → pos d[i]! < pos d[j]!
/-- Before a each block is sorted. -/
def Done (lt : α → α → Bool) (s a : Nat) (d : Array α) : Prop := ∀ i j, i < j → j < a → ¬ Sep s i j → lt d[i]! d[j]! = true
theorem fo_from {pos : α → Nat} {s n t b : Nat} {d d' : Array α} (h : Fo pos s n d) (hf : From (s * t) b d d') (hb : b ≤ s * (t + 1)) (hn : b ≤ n) : Fo pos s n d' := by
  intro i j hs hj
  obtain ⟨u, h1, h2⟩ := hs
  have gi : ∃ i', d'[i]! = d[i']! ∧ i' < s * u := by
    by_cases c : s * t ≤ i ∧ i < b
    · obtain ⟨i', h3, h4, e⟩ := hf.2.2 i c.1 c.2
      have a1 : t < u := Nat.lt_of_mul_lt_mul_left (Nat.lt_of_le_of_lt c.1 h1)
      have a2 : s * (t + 1) ≤ s * u := Nat.mul_le_mul_left s a1
      exact ⟨i', e, by omega⟩
    · exact ⟨i, hf.2.1 i (by omega), h1⟩
  have gj : ∃ j', d'[j]! = d[j']! ∧ s * u ≤ j' ∧ j' < n := by
    by_cases c : s * t ≤ j ∧ j < b
    · obtain ⟨j', h3, h4, e⟩ := hf.2.2 j c.1 c.2
      have a1 : u < t + 1 := Nat.lt_of_mul_lt_mul_left (Nat.lt_of_le_of_lt h2 (Nat.lt_of_lt_of_le c.2 hb))
      have a2 : s * u ≤ s * t := Nat.mul_le_mul_left s (by omega)
      exact ⟨j', e, by omega, by omega⟩
    · exact ⟨j, hf.2.1 j (by omega), h2, hj⟩
  obtain ⟨i', e1, h5⟩ := gi
  obtain ⟨j', e2, h6, h7⟩ := gj
  rw [e1, e2]
  exact h i' j' ⟨u, h5, h6⟩ h7
theorem fo_double {pos : α → Nat} {s n : Nat} {d : Array α} (h : Fo pos s n d) : Fo pos (2 * s) n d := fun i j hs hj => h i j (sep_double hs) hj
theorem done_next {lt : α → α → Bool} {s t b : Nat} {d d' : Array α} (h : Done lt s (s * t) d) (hf : From (s * t) b d d') (hu : Up lt (s * t) b d') : Done lt s b d' := by
  intro i j hij hj hs
  by_cases c : j < s * t
  · rw [hf.2.1 i (by omega), hf.2.1 j (by omega)]
    exact h i j hij c hs
  · by_cases c' : i < s * t
    · exact absurd ⟨t, c', by omega⟩ hs
    · exact hu i j (by omega) hij hj
/-- What a merging asks of two blocks. -/
theorem merge_asks {lt : α → α → Bool} {pos : α → Nat} {s n t b : Nat} {d : Array α} (hF : Fo pos s n d) (hD : Done lt s n d) (hb : b ≤ n) (h1 : s * (2 * t + 1) ≤ b) (h2 : b ≤ s * (2 * t + 2)) :
    Up lt (s * (2 * t)) (s * (2 * t + 1)) d ∧ Up lt (s * (2 * t + 1)) b d ∧ Fore pos (s * (2 * t)) (s * (2 * t + 1)) b d :=
  ⟨fun i j hi hij hj => hD i j hij (by omega) (sep_one hi hj), fun i j hi hij hj => hD i j hij (by omega) (sep_one hi (Nat.lt_of_lt_of_le hj h2)), fun i j _ hi hj hj' => hF i j ⟨2 * t + 1, hi, hj⟩ (by omega)⟩
theorem done_one {lt : α → α → Bool} {s n : Nat} {d : Array α} (h : Done lt s n d) (hs : n ≤ s) : Up lt 0 n d := by
  intro i j _ hij hj
  refine h i j hij hj ?_
  rintro ⟨u, h1, h2⟩
  rcases Nat.eq_zero_or_pos u with rfl | hu
  · rw [Nat.mul_zero] at h1
    omega
  · have := Nat.le_mul_of_pos_right s hu
    omega

end Go.Proofs.YtbeegcpmpgdbnaaDoor

/-
  What slices.swapRangeCmpFunc and slices.rotateCmpFunc do at this program to a row whose elements have one cell.
-/
namespace Go.Proofs.YtbeegcpmpgdbnaaDoor
open Go.RowKit Go.Shelf Go.Lib Go.Sort
variable {α : Type} [Inhabited α]

set_option maxHeartbeats 1000000 in
set_option maxRecDepth 100000 in
theorem swapRange_any (enc : α → Value) (d0 d : Array α) (w0 w : World) (blk off cap x y n : Nat) (fv : Value) (R : Row1 enc w0 blk off d0) (hs : d0.size = d.size) (S : SW enc w0 blk off d w) (hx : x + n ≤ y) (hy : y + n ≤ d.size) (hsz : d.size < 4611686018427387904) :
    Calls Tryd.prog 70 #[.slice (some ⟨blk, off, none⟩) d.size cap, .int .i64 x, .int .i64 y, .int .i64 n, fv] w fun e w' => e = .returned (.tuple #[]) ∧ ∃ d', SW enc w0 blk off d' w' ∧ d'.size = d.size ∧ ∀ k, d'[k]! = swrF x y n (fun k => d[k]!) k := by
  have hcl0 := R.hO.cells
  simp only [Value.cells] at hcl0
  have hst := R.hO.store Tryd.prog
  have S0 : Aside (SW enc w0 blk off d w) := S
  clear S
  go_enter Tryd.func70, Tryd.ntmps70
  go_wp2
  go_loopg [10] n (fun g vi wr => ∃ (t : Nat) (dk : Array α), vi = .int .i64 t ∧ t ≤ n ∧ n - t ≤ g ∧ dk.size = d.size ∧ Aside (SW enc w0 blk off dk wr) ∧ Hid (∀ k, dk[k]! = swrF x y t (fun k => d[k]!) k))
  case atStart => exact ⟨0, d, rfl, Nat.zero_le _, Nat.le_refl _, rfl, S0, hide (fun k => by rw [swr_none])⟩
  case round =>
    clear S0
    obtain ⟨t, dk, rfl, ht, hg, hsk, S1, HD⟩ := hrel
    by_cases hlt : t < n
    · have hltz : (t : Int) < (n : Int) := by omega
      obtain ⟨iN, hiN⟩ : ∃ q, q = x + t := ⟨_, rfl⟩
      obtain ⟨jN, hjN⟩ : ∃ q, q = y + t := ⟨_, rfl⟩
      have ra : IntKind.i64.wrap ((x : Int) + (t : Int)) = (iN : Int) := by rw [IntKind.wrap_i64]; omega
      have rc : IntKind.i64.wrap ((y : Int) + (t : Int)) = (jN : Int) := by rw [IntKind.wrap_i64]; omega
      have ba : (iN : Int) < (d.size : Int) := by omega
      have bc : (jN : Int) < (d.size : Int) := by omega
      obtain ⟨xv, hxv⟩ : ∃ v, v = dk[x + t]! := ⟨_, rfl⟩
      obtain ⟨yv, hyv⟩ : ∃ v, v = dk[y + t]! := ⟨_, rfl⟩
      have S3 : Aside (SW enc w0 blk off (swp dk (x + t) (y + t)) ((wr.setCell ⟨blk, off + iN, none⟩ (enc yv)).setCell ⟨blk, off + jN, none⟩ (enc xv)).drew) := by rw [hiN, hjN, hxv, hyv]; exact S1.out.swapped R _ _ (by omega) (by omega)
      have ca := S1.out.c1 R (by omega) (x + t) (by omega)
      have cb := S1.out.c1 R (by omega) (y + t) (by omega)
      have fa := S1.out.f1 R (by omega) (x + t) (by omega)
      have fb := S1.out.f1 R (by omega) (y + t) (by omega)
      obtain ⟨u, cc⟩ := S1.out.c2 R (by omega) (x + t) (y + t) (by omega) (by omega) (enc yv)
      have HN : Hid (∀ k, (swp dk (x + t) (y + t))[k]! = swrF x y (t + 1) (fun k => d[k]!) k) := hide (swr_step x y t _ dk (by omega) HD.out (by omega))
      rw [← hjN, ← hiN] at cc
      rw [← hxv, ← hiN] at ca
      rw [← hyv, ← hjN] at cb
      rw [← hiN] at fa
      rw [← hjN] at fb
      clear S1 HD hxv hyv hiN hjN
      go_wp2_with fail
      go_big_region
      clear ca cb cc fa fb
      generalize ((wr.setCell ⟨blk, off + iN, none⟩ (enc yv)).setCell ⟨blk, off + jN, none⟩ (enc xv)).drew = w3 at S3 ⊢
      clear ra rc ba bc
      go_wp2
      go_roundg (n - (t + 1))
      case measure => omega
      case rel => exact ⟨t + 1, _, by go_num, by omega, by omega, by rw [size_swp]; exact hsk, S3, HN⟩
    · have hltz : ¬ (t : Int) < (n : Int) := by omega
      obtain rfl : t = n := by omega
      go_wp2
      go_end0
      exact ⟨rfl, dk, S1.out, hsk, HD.out⟩

set_option maxHeartbeats 1000000 in
set_option maxRecDepth 100000 in
theorem rotate_any (enc : α → Value) (d0 d : Array α) (w0 w : World) (blk off cap a m b : Nat) (fv : Value) (R : Row1 enc w0 blk off d0) (hs : d0.size = d.size) (S : SW enc w0 blk off d w) (ham : a < m) (hmb : m < b) (hb : b ≤ d.size) (hsz : d.size < 4611686018427387904) :
    Calls Tryd.prog 65 #[.slice (some ⟨blk, off, none⟩) d.size cap, .int .i64 a, .int .i64 m, .int .i64 b, fv] w fun e w' => e = .returned (.tuple #[]) ∧ ∃ d', SW enc w0 blk off d' w' ∧ d'.size = d.size ∧ ∀ k, d'[k]! = rotF a m b (fun k => d[k]!) k := by
  have S0 : Aside (SW enc w0 blk off d w) := S
  have SR : Aside _ := fun (dk : Array α) (hsk : dk.size = d.size) (wr : World) (x y n : Nat) (S1 : SW enc w0 blk off dk wr) (hx : x + n ≤ y) (hy : y + n ≤ d.size) => swapRange_any enc d0 dk w0 wr blk off cap x y n fv R (hs.trans hsk.symm) S1 hx (by omega) (by omega)
  clear S
  obtain ⟨i0, hi0⟩ : ∃ q, q = m - a := ⟨_, rfl⟩
  obtain ⟨j0, hj0⟩ : ∃ q, q = b - m := ⟨_, rfl⟩
  have r0 : IntKind.i64.wrap ((m : Int) - (a : Int)) = (i0 : Int) := by rw [IntKind.wrap_i64]; omega
  have r1 : IntKind.i64.wrap ((b : Int) - (m : Int)) = (j0 : Int) := by rw [IntKind.wrap_i64]; omega
  have I0 := hide hi0
  have J0 := hide hj0
  clear hi0 hj0
  go_enter Tryd.func65, Tryd.ntmps65
  go_wp2
  clear r0 r1
  go_loopg [10, 11] (b - a) (fun g vi vj wr => ∃ (i j : Nat) (dk : Array α), vi = .int .i64 i ∧ vj = .int .i64 j ∧ 1 ≤ i ∧ 1 ≤ j ∧ i ≤ i0 ∧ j ≤ j0 ∧ i + j ≤ g ∧ dk.size = d.size ∧ Aside (SW enc w0 blk off dk wr) ∧ Hid (rotF (m - i) m (m + j) (fun k => dk[k]!) = rotF a m b (fun k => d[k]!)))
  case atStart => 
    have hi0 := I0.out
    have hj0 := J0.out
    exact ⟨i0, j0, d, rfl, rfl, by omega, by omega, Nat.le_refl _, Nat.le_refl _, by omega, rfl, S0, hide (by rw [show m - i0 = a by omega, show m + j0 = b by omega])⟩
  case round =>
    clear S0
    obtain ⟨i, j, dk, rfl, rfl, hi1, hj1, hi2, hj2, hg, hsk, S1, HD⟩ := hrel
    have hi0 := I0.out
    have hj0 := J0.out
    obtain ⟨x, hx⟩ : ∃ q, q = m - i := ⟨_, rfl⟩
    have rx : IntKind.i64.wrap ((m : Int) - (i : Int)) = (x : Int) := by rw [IntKind.wrap_i64]; omega
    rcases Nat.lt_trichotomy i j with h | h | h
    · have hne : ((i : Int) == (j : Int)) = false := by rw [beq_eq_false_iff_ne]; omega
      have hgt : ¬ (i : Int) > (j : Int) := by omega
      have hgt' : ¬ (j : Int) < (i : Int) := by omega
      obtain ⟨y1, hy1⟩ : ∃ q, q = m + j := ⟨_, rfl⟩
      obtain ⟨y, hy⟩ : ∃ q, q = m + j - i := ⟨_, rfl⟩
      have ry1 : IntKind.i64.wrap ((m : Int) + (j : Int)) = (y1 : Int) := by rw [IntKind.wrap_i64]; omega
      have ry : IntKind.i64.wrap ((y1 : Int) - (i : Int)) = (y : Int) := by rw [IntKind.wrap_i64]; omega
      obtain ⟨j2, hj2'⟩ : ∃ q, q = j - i := ⟨_, rfl⟩
      have rj : IntKind.i64.wrap ((j : Int) - (i : Int)) = (j2 : Int) := by rw [IntKind.wrap_i64]; omega
      have C := SR.out dk hsk wr x y i S1.out (by omega) (by omega)
      rw [hsk] at C
      have X := hide hx
      have Y := hide hy
      have J2 := hide hj2'
      have HM := hide (show i ≤ m ∧ x + i ≤ y ∧ 1 ≤ j2 ∧ j2 ≤ j0 ∧ i + j2 < i + j by omega)
      clear hx hy hy1 hj2' hi0 hj0
      go_wp2_with fail
      refine C.mono ?_
      clear C
      rintro e w1 ⟨rfl, d1, S2', hs1, hd1⟩
      have S2 : Aside (SW enc w0 blk off d1 w1) := S2'
      have HN : Hid (rotF (m - i) m (m + j2) (fun k => d1[k]!) = rotF a m b (fun k => d[k]!)) := hide (by
        rw [← HD.out, ← rot_lt i j m _ h HM.out.1, ← J2.out, ← X.out, ← Y.out]
        congr 1
        funext k
        exact hd1 k)
      clear S2' hd1 S1 HD rx ry ry1
      go_wp2
      go_roundg (i + j2)
      case measure => have := HM.out; omega
      case rel => exact ⟨i, j2, d1, rfl, rfl, hi1, HM.out.2.2.1, hi2, HM.out.2.2.2.1, Nat.le_refl _, hs1, S2, HN⟩
    · subst h
      have C := SR.out dk hsk wr x m i S1.out (by omega) (by omega)
      rw [hsk] at C
      have X := hide hx
      have HM := hide (show i ≤ m by omega)
      clear hx hi0 hj0
      go_wp2_with fail
      refine C.mono ?_
      clear C
      rintro e w1 ⟨rfl, d1, S2', hs1, hd1⟩
      have S2 : Aside (SW enc w0 blk off d1 w1) := S2'
      have HN : Hid (∀ k, d1[k]! = rotF a m b (fun k => d[k]!) k) := hide (fun k => by
        rw [← HD.out, ← rot_eq i m _ HM.out, ← X.out]
        exact hd1 k)
      clear S2' hd1 S1 HD rx
      go_wp2
      go_end0
      exact ⟨rfl, d1, S2.out, hs1, HN.out⟩
    · have hne : ((i : Int) == (j : Int)) = false := by rw [beq_eq_false_iff_ne]; omega
      have hgt : (i : Int) > (j : Int) := by omega
      have hgt' : (j : Int) < (i : Int) := by omega
      obtain ⟨i2, hi2'⟩ : ∃ q, q = i - j := ⟨_, rfl⟩
      have ri : IntKind.i64.wrap ((i : Int) - (j : Int)) = (i2 : Int) := by rw [IntKind.wrap_i64]; omega
      have C := SR.out dk hsk wr x m j S1.out (by omega) (by omega)
      rw [hsk] at C
      have X := hide hx
      have I2 := hide hi2'
      have HM := hide (show i ≤ m ∧ 1 ≤ i2 ∧ i2 ≤ i0 ∧ i2 + j < i + j by omega)
      clear hx hi2' hi0 hj0
      go_wp2_with fail
      refine C.mono ?_
      clear C
      rintro e w1 ⟨rfl, d1, S2', hs1, hd1⟩
      have S2 : Aside (SW enc w0 blk off d1 w1) := S2'
      have HN : Hid (rotF (m - i2) m (m + j) (fun k => d1[k]!) = rotF a m b (fun k => d[k]!)) := hide (by
        rw [← HD.out, ← rot_gt i j m _ h HM.out.1, ← I2.out, ← X.out]
        congr 1
        funext k
        exact hd1 k)
      clear S2' hd1 S1 HD rx
      go_wp2
      go_roundg (i2 + j)
      case measure => have := HM.out; omega
      case rel => exact ⟨i2, j, d1, rfl, rfl, HM.out.2.1, hj1, HM.out.2.2.1, hj2, Nat.le_refl _, hs1, S2, HN⟩

end Go.Proofs.YtbeegcpmpgdbnaaDoor
