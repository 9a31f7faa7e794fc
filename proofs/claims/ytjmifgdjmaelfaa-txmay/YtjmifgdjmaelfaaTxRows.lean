/-
  Many rows appended at once onto rows of the call's own.
-/
import Derived.Test.YtjmifgdjmaelfaaTxCell
namespace Go.Proofs.Ytjmifgdjmaelfaa
open Go.RowKit

theorem flat_at (s : Nat) : ∀ (C : List (List Value)), (∀ c ∈ C, c.length = s) → ∀ j v, C.flatten[j]? = some v → ∃ i c k, C[i]? = some c ∧ c[k]? = some v ∧ j = i * s + k
  | [], _, _, _, h => by simp at h
  | x :: C, hs, j, v, h => by
    have hx := hs x (by simp)
    rw [List.flatten_cons] at h
    by_cases hj : j < x.length
    · rw [List.getElem?_append_left hj] at h
      exact ⟨0, x, j, rfl, h, by omega⟩
    · rw [List.getElem?_append_right (by omega)] at h
      obtain ⟨i, c, k, h1, h2, h3⟩ := flat_at s C (fun c hc => hs c (by simp [hc])) _ _ h
      exact ⟨i + 1, c, k, by simpa using h1, h2, by rw [Nat.add_mul]; omega⟩
theorem flat_size (s : Nat) : ∀ (C : List (List Value)), (∀ c ∈ C, c.length = s) → C.flatten.length = C.length * s
  | [], _ => by simp
  | x :: C, hs => by
    rw [List.flatten_cons, List.length_append, flat_size s C fun c hc => hs c (by simp [hc]), hs x (by simp), List.length_cons, Nat.add_mul]
    omega
/-- An empty slice that was built is a row of the call's own. -/
theorem RowOwn.made (w : World) (base : Nat) (hb : base ≤ w.heap.size) (ty : TypeId) (s : Nat) : RowOwn (w.alloc (.cells #[] ty)) base ty s (.slice (some ⟨w.heap.size, 0, none⟩) 0 0) [] :=
  ⟨⟨by simp, Or.inr ⟨w.heap.size, 0, #[], rfl, hb, heap_alloc_new w _, Nat.le_refl _, Nat.zero_le _, by simp, by simp⟩⟩, fun _ h => by cases h⟩
theorem run_append_rows (w : World) (t ty rt : TypeId) (z : Value) (size bytes : Nat) (ht : Try.prog.underlying t = some (.slice ty))
    (hinfo : (Try.prog.info? ty).map (fun i => (i.zero, i.size, i.bytes)) = some (some z, size, bytes)) (hzs : z.cells.size = size) (hsz : 0 < size) (hby : bytes ≤ 1000)
    (base : Nat) (v : Value) (C : List (List Value)) (hown : RowOwn w base ty size v C) (b off cap : Nat) (D : List (List Value)) (hc : ∀ i c, D[i]? = some c → w.rangeAt b (off + i * size) c) (hE : ∀ c ∈ D, c.length = size ∧ ∀ y ∈ c, y.oneCell' = true)
    (hlen : C.length + D.length ≤ 10000) (hb : base ≤ w.heap.size) :
    ∃ v' w', (Builtin.append_ #[t, t] rt #[v, .slice (some ⟨b, off, none⟩) D.length cap]).run Try.prog w = .ok v' w' ∧ RowOwn w' base ty size v' (C ++ D) ∧ w.grownBy w' v.ownBlock ∧ (v'.ownBlock = v.ownBlock ∨ ∀ k, v'.ownBlock = some k → w.heap.size ≤ k) := by
  obtain ⟨i0, hi, hz0, hz1, hz2⟩ := info_parts hinfo
  have hbyt : (C.length + D.length) * bytes ≤ 140737488355328 := by
    have := Nat.mul_le_mul hlen hby
    omega
  obtain ⟨v', w', h1, h2, h3, h4⟩ := run_append_where (P := Try.prog) w base t rt ty i0 z size bytes ht hi hz0 hz1 hz2 hzs hsz v C.length C.flatten hown.1 ⟨b, off, none⟩ D.length cap D.flatten (flat_size size D fun c hc => (hE c hc).1) (fun j u hu => by
    obtain ⟨i, c, k, e1, e2, e3⟩ := flat_at size D (fun c hc => (hE c hc).1) j u hu
    rw [Addr.add_mid, e3, ← Nat.add_assoc]
    exact hc i c e1 k u e2) (fun y hy => by
    obtain ⟨c, hcD, hyc⟩ := List.mem_flatten.1 hy
    exact (hE c hcD).2 y hyc) (by unfold maxLen; omega) hbyt hb
  refine ⟨v', w', h1, ⟨by simpa using h2, fun d hd => ?_⟩, h3, h4⟩
  rcases List.mem_append.1 hd with q | q
  · exact hown.2 d q
  · exact hE d q

end Go.Proofs.Ytjmifgdjmaelfaa
