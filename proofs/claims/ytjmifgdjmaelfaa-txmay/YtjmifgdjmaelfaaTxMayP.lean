/-
  A transaction to which an input is added that spends what one of its inputs spends: what may not be of it.
-/
import Derived.Test.YtjmifgdjmaelfaaTxCheck
namespace Go.Proofs.Ytjmifgdjmaelfaa
open Go.RowKit

/-- With an input more that spends as the j-th does. -/
def moreIn (t : Tr) (z : TIn) (x : Int) : Tr := ⟨t.ver, t.ins ++ [⟨z.tx, z.n, [x]⟩], t.outs⟩
theorem moreIn_ok {t : Tr} (h : TrOk t) {z : TIn} (hz : z ∈ t.ins) {x : Int} (hx : Byte x) : TrOk (moreIn t z x) := by
  obtain ⟨h1, h2, h3⟩ := h
  refine ⟨h1, fun y hy => ?_, h3⟩
  rcases List.mem_append.1 hy with q | q
  · exact h2 y q
  · rw [List.mem_singleton.1 q]
    obtain ⟨a, b, c, -⟩ := h2 z hz
    exact ⟨a, b, c, fun u hu => by rw [List.mem_singleton.1 hu]; exact hx⟩
theorem moreIn_twice {t : Tr} {z : TIn} (hz : z ∈ t.ins) (x : Int) : (true = false) ↔ ((moreIn t z x).ins.map ptOf).Nodup := by
  constructor
  · intro h; cases h
  · intro h
    unfold moreIn at h
    rw [List.map_append, List.nodup_append] at h
    exact absurd rfl (h.2.2 (ptOf z) (List.mem_map.2 ⟨z, hz, rfl⟩) (ptOf z) (by simp [ptOf]))
theorem moreIn_check {t : Tr} (hf : formB t = true) (z : TIn) (x : Int) (ho : 0 < t.outs.length) : chE (moreIn t z x) true true = if 8 ≤ t.ins.length then 5 else 12 := by
  obtain ⟨h1, h2, h3⟩ := (formB_iff t).1 hf
  unfold chE
  by_cases h8 : 8 ≤ t.ins.length
  · have hn : formB (moreIn t z x) = false := by
      cases hb : formB (moreIn t z x) with
      | false => rfl
      | true =>
        have := ((formB_iff _).1 hb).1
        simp only [moreIn, List.length_append, List.length_cons, List.length_nil] at this
        omega
    rw [if_pos hn, if_pos h8]
  · have hn : formB (moreIn t z x) = true := by
      refine (formB_iff _).2 ⟨?_, h2, fun y hy => ?_⟩
      · simp only [moreIn, List.length_append, List.length_cons, List.length_nil]
        omega
      · rcases List.mem_append.1 hy with q | q
        · exact h3 y q
        · rw [List.mem_singleton.1 q]
          simp
    rw [if_neg (by rw [hn]; decide), if_neg (by simp only [moreIn, List.length_append, List.length_cons]; omega), if_neg (by decide), if_pos rfl, if_neg h8]

end Go.Proofs.Ytjmifgdjmaelfaa
