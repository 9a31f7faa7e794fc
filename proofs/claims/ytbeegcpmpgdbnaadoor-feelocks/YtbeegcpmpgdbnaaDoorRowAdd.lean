/-
  A slice of one struct; an element put behind a row of structs. Nothing here speaks of one function.
-/
import Derived.Test.YtbeegcpmpgdbnaaDoorRowS
import Derived.Great.BuildSlice
namespace Go.Proofs.YtbeegcpmpgdbnaaDoor
open Go.RowKit

/-- A slice of one struct. -/
theorem run_one (w : World) (t ty : TypeId) (z : Value) (size bytes : Nat) (ht : Tryd.prog.underlying t = some (.slice ty))
    (hinfo : (Tryd.prog.info? ty).map (fun i => (i.zero, i.size, i.bytes)) = some (some z, size, bytes)) (hsz : 0 < size) (hsz2 : size ≤ 1000) (c : List Value) (hc : c.length = size) :
    (Instr.buildSlice t 1 #[(0, .agg c.toArray)]).run Tryd.prog w = .ok (.slice (some ⟨w.heap.size, 0, none⟩) 1 1) (w.alloc (.cells c.toArray ty)) := by
  obtain ⟨i0, hi, hz0, hz1, hz2⟩ := info_parts hinfo
  refine run_buildSlice w t ty 1 _ c.toArray i0 z ht hi hz0 (by rw [hz1]; omega) (by rw [hz1]; omega) ?_
  rw [hz1]
  have h := Go.Great.fill_whole hsz [Value.agg c.toArray] ((Array.range (1 * size)).map (z.cells[· % z.cells.size]!)) (by intro v hv; rw [List.mem_singleton.1 hv]; simpa [Value.cells] using hc) (by simp)
  simpa [Value.cells] using h
/-- 'append' of elements onto a row of the call's own, as a run. -/
theorem run_append_row (w : World) (t ty rt : TypeId) (z : Value) (size bytes : Nat) (ht : Tryd.prog.underlying t = some (.slice ty))
    (hinfo : (Tryd.prog.info? ty).map (fun i => (i.zero, i.size, i.bytes)) = some (some z, size, bytes)) (hzs : z.cells.size = size) (hsz : 0 < size) (hby : bytes ≤ 1000)
    (base : Nat) (v : Value) (C : List (List Value)) (hown : RowOwn w base ty size v C) (b : Nat) (c : List Value) (hc : w.rangeAt b 0 c) (hE : c.length = size ∧ ∀ y ∈ c, y.oneCell' = true)
    (hlen : C.length ≤ 10000) (hb : base ≤ w.heap.size) :
    ∃ v' w', (Builtin.append_ #[t, t] rt #[v, .slice (some ⟨b, 0, none⟩) 1 1]).run Tryd.prog w = .ok v' w' ∧ RowOwn w' base ty size v' (C ++ [c]) ∧ w.grownBy w' v.ownBlock ∧ (v'.ownBlock = v.ownBlock ∨ ∀ k, v'.ownBlock = some k → w.heap.size ≤ k) := by
  obtain ⟨i0, hi, hz0, hz1, hz2⟩ := info_parts hinfo
  have hbyt : (C.length + 1) * bytes ≤ 140737488355328 := by
    have := Nat.mul_le_mul (show C.length + 1 ≤ 10001 by omega) hby
    omega
  obtain ⟨v', w', h1, h2, h3, h4⟩ := run_append_where (P := Tryd.prog) w base t rt ty i0 z size bytes ht hi hz0 hz1 hz2 hzs hsz v C.length C.flatten hown.1 ⟨b, 0, none⟩ 1 1 c (by rw [hE.1]; omega) (fun j u hu => by rw [Addr.add_mid]; exact hc j u hu) hE.2 (by unfold maxLen; omega) hbyt hb
  refine ⟨v', w', h1, ⟨by simpa using h2, fun d hd => ?_⟩, h3, h4⟩
  rcases List.mem_append.1 hd with q | q
  · exact hown.2 d q
  · rw [List.mem_singleton.1 q]
    exact hE

end Go.Proofs.YtbeegcpmpgdbnaaDoor
