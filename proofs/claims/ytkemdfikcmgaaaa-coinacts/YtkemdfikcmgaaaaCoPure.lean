/-
  Plain coins, with no word of the program: the order of their points, sorted lists of them.
-/
import Derived.Test.YtkemdfikcmgaaaaTxP
namespace Go.Proofs.Ytkemdfikcmgaaaa

abbrev Pt := List Int × Int
structure Cn where
  tx : List Int
  n : Int
  out : TOut
def Cn.pt (c : Cn) : Pt := (c.tx, c.n)
def PtOk (p : Pt) : Prop := p.1.length = 32 ∧ AllB p.1 ∧ 0 ≤ p.2 ∧ p.2 < 4294967296
def CnOk (c : Cn) : Prop := PtOk c.pt ∧ OutOk c.out

/-! Bytes in their order. -/
def lexB : List Int → List Int → Int
  | [], [] => 0
  | [], _ :: _ => -1
  | _ :: _, [] => 1
  | a :: l, b :: m => if a < b then -1 else if b < a then 1 else lexB l m
theorem lexB_self : ∀ l, lexB l l = 0
  | [] => rfl
  | a :: l => by simp [lexB, lexB_self l]
theorem lexB_neg : ∀ l m, lexB l m = -lexB m l
  | [], [] => rfl
  | [], _ :: _ => rfl
  | _ :: _, [] => rfl
  | a :: l, b :: m => by
    have := lexB_neg l m
    simp only [lexB]
    by_cases h1 : a < b
    · rw [if_pos h1, if_neg (by omega), if_pos h1]
    · by_cases h2 : b < a
      · rw [if_neg h1, if_pos h2, if_pos h2]; rfl
      · rw [if_neg h1, if_neg h2, if_neg h2, if_neg h1, this]
theorem lexB_eq : ∀ l m, lexB l m = 0 → l = m
  | [], [], _ => rfl
  | [], _ :: _, h => by simp [lexB] at h
  | _ :: _, [], h => by simp [lexB] at h
  | a :: l, b :: m, h => by
    simp only [lexB] at h
    by_cases h1 : a < b
    · rw [if_pos h1] at h; omega
    · by_cases h2 : b < a
      · rw [if_neg h1, if_pos h2] at h; omega
      · rw [if_neg h1, if_neg h2] at h
        rw [lexB_eq l m h, show a = b by omega]
theorem lexB_trans : ∀ l m k, lexB l m < 0 → lexB m k < 0 → lexB l k < 0
  | [], [], _, h, _ => by simp [lexB] at h
  | [], _ :: _, [], _, h => by simp [lexB] at h
  | [], _ :: _, _ :: _, _, _ => by simp [lexB]
  | _ :: _, [], _, h, _ => by simp [lexB] at h
  | _ :: _, _ :: _, [], _, h => by simp [lexB] at h
  | a :: l, b :: m, c :: k, h, h' => by
    have := lexB_trans l m k
    simp only [lexB] at h h' ⊢
    by_cases h1 : a < b
    · by_cases h2 : b < c
      · rw [if_pos (by omega)]; omega
      · by_cases h3 : c < b
        · rw [if_neg h2, if_pos h3] at h'; omega
        · rw [if_pos (by omega)]; omega
    · by_cases h2 : b < a
      · rw [if_neg h1, if_pos h2] at h; omega
      · rw [if_neg h1, if_neg h2] at h
        obtain rfl : a = b := by omega
        by_cases h3 : a < c
        · rw [if_pos h3]; omega
        · by_cases h4 : c < a
          · rw [if_neg h3, if_pos h4] at h'; omega
          · rw [if_neg h3, if_neg h4] at h' ⊢
            exact this h h'

/-! Points in their order. -/
def cmpN (x y : Int) : Int := if x < y then -1 else if y < x then 1 else 0
def cmpPt (p q : Pt) : Int := if lexB p.1 q.1 = 0 then cmpN p.2 q.2 else lexB p.1 q.1
theorem cmpPt_self (p : Pt) : cmpPt p p = 0 := by simp [cmpPt, lexB_self, cmpN]
theorem cmpPt_neg (p q : Pt) : cmpPt p q = -cmpPt q p := by
  have h := lexB_neg p.1 q.1
  unfold cmpPt cmpN
  by_cases h0 : lexB p.1 q.1 = 0
  · have e : lexB q.1 p.1 = 0 := by omega
    rw [if_pos h0, if_pos e]
    by_cases h1 : p.2 < q.2
    · rw [if_pos h1, if_neg (by omega), if_pos h1]
    · by_cases h2 : q.2 < p.2
      · rw [if_neg h1, if_pos h2, if_pos h2]; rfl
      · rw [if_neg h1, if_neg h2, if_neg h2, if_neg h1]; rfl
  · have e : ¬ lexB q.1 p.1 = 0 := by omega
    rw [if_neg h0, if_neg e, h]
theorem cmpPt_eq {p q : Pt} (h : cmpPt p q = 0) : p = q := by
  unfold cmpPt cmpN at h
  by_cases h0 : lexB p.1 q.1 = 0
  · rw [if_pos h0] at h
    have h1 := lexB_eq _ _ h0
    have h2 : p.2 = q.2 := by
      by_cases h1 : p.2 < q.2
      · rw [if_pos h1] at h; omega
      · by_cases h2 : q.2 < p.2
        · rw [if_neg h1, if_pos h2] at h; omega
        · omega
    exact Prod.ext h1 h2
  · rw [if_neg h0] at h
    exact absurd h h0
theorem cmpPt_trans {p q r : Pt} (h : cmpPt p q < 0) (h' : cmpPt q r < 0) : cmpPt p r < 0 := by
  have t := lexB_trans p.1 q.1 r.1
  unfold cmpPt cmpN at *
  by_cases h0 : lexB p.1 q.1 = 0
  · have e := lexB_eq _ _ h0
    rw [if_pos h0] at h
    rw [e]
    by_cases h1 : lexB q.1 r.1 = 0
    · rw [if_pos h1] at h' ⊢
      by_cases a : p.2 < q.2
      · by_cases b : q.2 < r.2
        · rw [if_pos (by omega)]; omega
        · rw [if_neg b] at h'
          split at h' <;> omega
      · rw [if_neg a] at h
        split at h <;> omega
    · rw [if_neg h1] at h' ⊢
      exact h'
  · rw [if_neg h0] at h
    by_cases h1 : lexB q.1 r.1 = 0
    · have e := lexB_eq _ _ h1
      rw [← e, if_neg h0]
      exact h
    · rw [if_neg h1] at h'
      have := t h h'
      rw [if_neg (by omega)]
      exact this
theorem cmpPt_ne {p q : Pt} (h : p ≠ q) : cmpPt p q < 0 ∨ cmpPt q p < 0 := by
  have h1 := cmpPt_neg p q
  have h2 : cmpPt p q ≠ 0 := fun e => h (cmpPt_eq e)
  omega

/-! Sorted lists of coins. -/
def SortC (L : List Cn) : Prop := L.Pairwise fun a b => cmpPt a.pt b.pt < 0
theorem sort_unique {L M : List Cn} (h : SortC L) (h' : SortC M) (p : L.Perm M) : L = M :=
  List.Perm.eq_of_pairwise (fun a b _ _ h1 h2 => by
    have := cmpPt_neg a.pt b.pt
    omega) h h' p
theorem SortC.nodup {L : List Cn} (h : SortC L) : (L.map Cn.pt).Nodup := by
  rw [List.Nodup, List.pairwise_map]
  exact h.imp fun {a b} h1 e => by
    rw [e, cmpPt_self] at h1
    omega

/-! What is in, and found. -/
def inC? (C : List Cn) (p : Pt) : Prop := p ∈ C.map Cn.pt
theorem mem_pt {C : List Cn} {c : Cn} (h : c ∈ C) : c.pt ∈ C.map Cn.pt := List.mem_map_of_mem h
theorem pt_one {C : List Cn} (hN : (C.map Cn.pt).Nodup) {c d : Cn} (hc : c ∈ C) (hd : d ∈ C) (e : c.pt = d.pt) : c = d := by
  induction C with
  | nil => cases hc
  | cons x C ih =>
    rw [List.map_cons, List.nodup_cons] at hN
    rcases List.mem_cons.1 hc with h1 | h1
    · rcases List.mem_cons.1 hd with h2 | h2
      · rw [h1, h2]
      · rw [← h1, e] at hN
        exact absurd (mem_pt h2) hN.1
    · rcases List.mem_cons.1 hd with h2 | h2
      · rw [← h2, ← e] at hN
        exact absurd (mem_pt h1) hN.1
      · exact ih hN.2 h1 h2
/-- What Find answers. -/
def noOut : TOut := ⟨0, List.replicate 32 0⟩
def Looks (C : List Cn) (p : Pt) (o : TOut) (r : Bool) : Prop := (r = true ∧ ∃ c ∈ C, c.pt = p ∧ c.out = o) ∨ (r = false ∧ p ∉ C.map Cn.pt ∧ o = noOut)
theorem looks (C : List Cn) (p : Pt) : ∃ o r, Looks C p o r := by
  by_cases h : p ∈ C.map Cn.pt
  · obtain ⟨c, hc, e⟩ := List.mem_map.1 h
    exact ⟨c.out, true, Or.inl ⟨rfl, c, hc, e, rfl⟩⟩
  · exact ⟨noOut, false, Or.inr ⟨rfl, h, rfl⟩⟩
theorem Looks.is {C : List Cn} {p : Pt} {o : TOut} {r : Bool} (h : Looks C p o r) : r = true ↔ p ∈ C.map Cn.pt := by
  rcases h with ⟨h1, c, hc, rfl, -⟩ | ⟨h1, h2, -⟩
  · exact ⟨fun _ => mem_pt hc, fun _ => h1⟩
  · rw [h1]
    exact ⟨fun e => (by cases e), fun e => absurd e h2⟩
theorem Looks.lock {C : List Cn} {p : Pt} {o : TOut} {r : Bool} (h : Looks C p o r) (hC : ∀ c ∈ C, CnOk c) : o.lock.length = 32 := by
  rcases h with ⟨-, c, hc, -, rfl⟩ | ⟨-, -, rfl⟩
  · exact (hC c hc).2.2.1
  · rfl
theorem Looks.perm {C C' : List Cn} {p : Pt} {o : TOut} {r : Bool} (h : Looks C p o r) (q : C.Perm C') : Looks C' p o r := by
  rcases h with ⟨h1, c, hc, e⟩ | ⟨h1, h2, e⟩
  · exact Or.inl ⟨h1, c, q.mem_iff.1 hc, e⟩
  · exact Or.inr ⟨h1, fun h => h2 ((q.map Cn.pt).mem_iff.2 h), e⟩
theorem Looks.one {C : List Cn} {p : Pt} {o o' : TOut} {r r' : Bool} (hN : (C.map Cn.pt).Nodup) (h : Looks C p o r) (h' : Looks C p o' r') : o = o' ∧ r = r' := by
  rcases h with ⟨h1, c, hc, e, rfl⟩ | ⟨h1, h2, rfl⟩
  · rcases h' with ⟨h1', c', hc', e', rfl⟩ | ⟨h1', h2', rfl⟩
    · rw [pt_one hN hc hc' (e.trans e'.symm), h1, h1']
      exact ⟨rfl, rfl⟩
    · exact absurd (e ▸ mem_pt hc) h2'
  · rcases h' with ⟨h1', c', hc', e', rfl⟩ | ⟨h1', h2', rfl⟩
    · exact absurd (e' ▸ mem_pt hc') h2
    · exact ⟨rfl, by rw [h1, h1']⟩
/-- What Take leaves. -/
def dropPts (C : List Cn) (l : List Pt) : List Cn := C.filter fun c => !l.contains c.pt
theorem nodup_drop {C : List Cn} {l : List Pt} (h : (C.map Cn.pt).Nodup) : ((dropPts C l).map Cn.pt).Nodup := h.sublist (List.filter_sublist.map _)

end Go.Proofs.Ytkemdfikcmgaaaa
