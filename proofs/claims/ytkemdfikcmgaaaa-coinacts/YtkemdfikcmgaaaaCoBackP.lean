/-
  Plain coins: what is put and taken.
-/
import Derived.Test.YtkemdfikcmgaaaaCoTake
namespace Go.Proofs.Ytkemdfikcmgaaaa
open Go.RowKit

theorem drop_app {L M : List Cn} (h : ∀ p ∈ M.map Cn.pt, p ∉ L.map Cn.pt) : dropPts (L ++ M) (M.map Cn.pt) = L := by
  unfold dropPts
  rw [List.filter_append, List.filter_eq_self.2, List.filter_eq_nil_iff.2, List.append_nil]
  · intro c hc
    simpa using ⟨c, hc, rfl⟩
  · intro c hc
    have : c.pt ∉ M.map Cn.pt := fun hm => h _ hm (mem_pt hc)
    simpa using this
theorem nodup_or (L : List Cn) : (L.map Cn.pt).Nodup ∨ ¬ (L.map Cn.pt).Nodup := Decidable.em _
theorem in_or (L M : List Cn) : (∀ p ∈ M.map Cn.pt, p ∉ L.map Cn.pt) ∨ ∃ p ∈ M.map Cn.pt, p ∈ L.map Cn.pt := by
  by_cases h : ∃ p ∈ M.map Cn.pt, p ∈ L.map Cn.pt
  · exact Or.inr h
  · exact Or.inl fun p hp hm => h ⟨p, hp, hm⟩
theorem outsC_length (L : List Cn) : (outsC L).length = L.length := by unfold outsC; rw [List.length_map]
theorem outsC_get {L : List Cn} {j : Nat} {c : Cn} (h : L[j]? = some c) : (outsC L)[j]? = some (outC c.out) := by unfold outsC; rw [List.getElem?_map, h]; rfl
theorem besides_below {b q base : Nat} {w w1 w2 : World} (h : Below base w w1) (k : Besides b q w1 w2) (hb : base ≤ b) (hq : base ≤ q) (hs : base ≤ w.heap.size) : Below base w w2 :=
  h.trans (k.ground hb hq (Nat.le_trans hs h.size))
theorem own_keeps {P : Nat → Prop} {w : World} {base : Nat} {ty : TypeId} {s : Nat} {v : Value} {C : List (List Value)} (h : RowOwn w base ty s v C) (hP : ∀ k, base ≤ k → k < w.heap.size → P k) : Keeps P w fun w => RowAt w s v C :=
  h.row.keeps2 fun _ k hk => hP k (h.lt k hk).1 (h.lt k hk).2

end Go.Proofs.Ytkemdfikcmgaaaa
