/-
  Rows of the call's own, built and joined; the head and the tail of a row. Nothing here speaks of one function.
-/
import Derived.Test.YtbeegcpmpgdbnaaDoorRowAdd
namespace Go.Proofs.YtbeegcpmpgdbnaaDoor
open Go.RowKit

theorem own_none (w : World) (base : Nat) (ty : TypeId) (s : Nat) (hb : base ≤ w.heap.size) : RowOwn (w.alloc (.cells #[] ty)) base ty s (.slice (some ⟨w.heap.size, 0, none⟩) 0 0) [] :=
  ⟨World.ownsRow_lit w #[] 0 hb (by simp [maxLen]) (by simp), fun _ h => by cases h⟩
theorem own_one (w : World) (base : Nat) (ty : TypeId) (s : Nat) (hb : base ≤ w.heap.size) (c : List Value) (hc : c.length = s ∧ ∀ u ∈ c, u.oneCell' = true) : RowOwn (w.alloc (.cells c.toArray ty)) base ty s (.slice (some ⟨w.heap.size, 0, none⟩) 1 1) [c] := by
  refine ⟨?_, fun d hd => by rw [List.mem_singleton.1 hd]; exact hc⟩
  have h := World.ownsRow_lit (e := ty) (size := s) w c.toArray 1 hb (by simp [maxLen]) (by simp [hc.1])
  simpa using h
theorem RowOwn.kept {w w' : World} {base : Nat} {ty : TypeId} {s : Nat} {v : Value} {C : List (List Value)} {row : Option Nat} (h : RowOwn w base ty s v C) (hg : w.grownBy w' row) (hne : v.ownBlock = none ∨ v.ownBlock ≠ row) : RowOwn w' base ty s v C := ⟨h.1.kept hg hne, h.2⟩
/-- 'append' of a row onto a row of the call's own, as a run. -/
theorem run_append_rows (w : World) (t ty rt : TypeId) (z : Value) (size bytes : Nat) (ht : Tryd.prog.underlying t = some (.slice ty))
    (hinfo : (Tryd.prog.info? ty).map (fun i => (i.zero, i.size, i.bytes)) = some (some z, size, bytes)) (hzs : z.cells.size = size) (hsz : 0 < size) (hby : bytes ≤ 1000)
    (base : Nat) (v : Value) (C : List (List Value)) (hown : RowOwn w base ty size v C) (ad : Addr) (n cap : Nat) (E : List (List Value)) (hu : RowAt w size (.slice (some ad) n cap) E) (hE : ∀ c ∈ E, c.length = size ∧ ∀ y ∈ c, y.oneCell' = true)
    (hlen : C.length + E.length ≤ 100000) (hb : base ≤ w.heap.size) :
    ∃ v' w', (Builtin.append_ #[t, t] rt #[v, .slice (some ad) n cap]).run Tryd.prog w = .ok v' w' ∧ RowOwn w' base ty size v' (C ++ E) ∧ w.grownBy w' v.ownBlock ∧ (v'.ownBlock = v.ownBlock ∨ ∀ k, v'.ownBlock = some k → w.heap.size ≤ k) := by
  obtain ⟨i0, hi, hz0, hz1, hz2⟩ := info_parts hinfo
  have hall : ∀ c ∈ C ++ E, c.length = size ∧ ∀ y ∈ c, y.oneCell' = true := fun c hc => by
    rcases List.mem_append.1 hc with q | q
    · exact hown.2 c q
    · exact hE c q
  obtain ⟨ad', cap', e, hcap, hmax, hnone, hcell⟩ := hu
  simp only [Value.slice.injEq] at e
  obtain ⟨rfl, rfl, rfl⟩ := e
  have hlE : E.flatten.length = E.length * size := by
    clear hcell hcap hnone hlen hall
    induction E with
    | nil => simp
    | cons c E ih =>
      rw [List.flatten_cons, List.length_append, ih (fun c hc => hE c (by simp [hc])), (hE c (by simp)).1, List.length_cons, Nat.add_mul]
      omega
  have hbyt : (C.length + E.length) * bytes ≤ 140737488355328 := by
    have := Nat.mul_le_mul hlen hby
    omega
  obtain ⟨v', w', h1, h2, h3, h4⟩ := run_append_where (P := Tryd.prog) w base t rt ty i0 z size bytes ht hi hz0 hz1 hz2 hzs hsz v C.length C.flatten hown.1 ad E.length cap E.flatten hlE (by
    intro j y hj
    obtain ⟨i, c, k, h1, h2, rfl⟩ := flat_split size hsz E (fun c hc => (hE c hc).1) j y hj
    obtain ⟨b, off, e, hc⟩ := hcell (by have := (List.getElem?_eq_some_iff.1 h1).1; omega)
    cases e
    have := hc i c h1 k y h2
    rw [Addr.add_mid, ← Nat.add_assoc]
    exact this) (by
    intro y hy
    obtain ⟨c, hc, hyc⟩ := List.mem_flatten.1 hy
    exact (hE c hc).2 y hyc) (by unfold maxLen; omega) hbyt hb
  refine ⟨v', w', h1, ⟨?_, hall⟩, h3, h4⟩
  rw [List.length_append, List.flatten_append]
  exact h2
theorem head_at {w : World} {s : Nat} {a : Option Addr} {n cap : Nat} {C : List (List Value)} (h : RowAt w s (.slice a n cap) C) {k : Nat} (hk : k ≤ n) : RowAt w s (.slice a k cap) (C.take k) := by
  obtain ⟨a', cap', e, h2, h3, h4, h5⟩ := h
  simp only [Value.slice.injEq] at e
  obtain ⟨rfl, rfl, rfl⟩ := e
  have hl : (C.take k).length = k := by rw [List.length_take]; omega
  refine ⟨a, cap, by rw [hl], by rw [hl]; omega, h3, h4, fun hp => ?_⟩
  obtain ⟨b, off, e, hc⟩ := h5 (by omega)
  refine ⟨b, off, e, fun i c hi => hc i c ?_⟩
  rw [List.getElem?_take] at hi
  split at hi
  · exact hi
  · cases hi
theorem tail_at {w : World} {s b off n cap : Nat} {C : List (List Value)} (h : RowAt w s (.slice (some ⟨b, off, none⟩) n cap) C) {k : Nat} (hk : k ≤ n) : RowAt w s (.slice (some ⟨b, off + k * s, none⟩) (n - k) (cap - k)) (C.drop k) := by
  obtain ⟨a', cap', e, h2, h3, h4, h5⟩ := h
  simp only [Value.slice.injEq] at e
  obtain ⟨rfl, rfl, rfl⟩ := e
  have hl : (C.drop k).length = C.length - k := by rw [List.length_drop]
  refine ⟨_, cap - k, by rw [hl], by rw [hl]; omega, by omega, by simp, fun hp => ?_⟩
  obtain ⟨b', off', e, hc⟩ := h5 (by omega)
  cases e
  refine ⟨b, off + k * s, rfl, fun i c hi => ?_⟩
  rw [List.getElem?_drop] at hi
  have := hc (k + i) c hi
  rw [Nat.add_mul, ← Nat.add_assoc] at this
  exact this
theorem tail_at2 {w : World} {s b off n cap : Nat} {C : List (List Value)} (h : RowAt w s (.slice (some ⟨b, off, none⟩) n cap) C) {k : Nat} (hk : k ≤ n) :
    ∃ to, (if cap = k then (some ⟨b, off, none⟩ : Option Addr) else some ⟨b, off + k * s, none⟩) = some ⟨b, to, none⟩ ∧ RowAt w s (.slice (some ⟨b, to, none⟩) (n - k) (cap - k)) (C.drop k) := by
  by_cases hc : cap = k
  · refine ⟨off, by rw [if_pos hc], ?_⟩
    obtain ⟨a', cap', e, h2, h3, h4, h5⟩ := h
    simp only [Value.slice.injEq] at e
    obtain ⟨-, rfl, rfl⟩ := e
    have hl : (C.drop k).length = 0 := by rw [List.length_drop]; omega
    exact ⟨_, _, by rw [hl, show C.length - k = 0 by omega], by rw [hl]; omega, by omega, by simp, fun hp => by omega⟩
  · exact ⟨off + k * s, by rw [if_neg hc], tail_at h hk⟩

end Go.Proofs.YtbeegcpmpgdbnaaDoor
