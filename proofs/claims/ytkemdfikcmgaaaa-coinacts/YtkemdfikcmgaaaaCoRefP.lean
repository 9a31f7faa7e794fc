/-
  Plain coins and rows: what a refusal's list is made of. Nothing here speaks of one function.
-/
import Derived.Test.YtkemdfikcmgaaaaCoStep
import Derived.Test.YtkemdfikcmgaaaaCoTake
namespace Go.Proofs.Ytkemdfikcmgaaaa
open Go.RowKit

theorem run_none (w : World) (t ty : TypeId) (z : Value) (size bytes : Nat) (ht : Try.prog.underlying t = some (.slice ty))
    (hinfo : (Try.prog.info? ty).map (fun i => (i.zero, i.size, i.bytes)) = some (some z, size, bytes)) :
    (Instr.buildSlice t 0 #[]).run Try.prog w = .ok (.slice (some ⟨w.heap.size, 0, none⟩) 0 0) (w.alloc (.cells #[] ty)) := by
  obtain ⟨i0, hi, hz0, hz1, hz2⟩ := info_parts hinfo
  simp [Instr.buildSlice, run_underlying ht, sizeOf, typeInfo, hi, newRow, Instr.fill]
  have e : Array.map (fun _ => (default : Value)) (Array.range 0) = #[] := Array.eq_empty_of_size_eq_zero (by simp)
  rw [e]
theorem run_three (w : World) (t ty : TypeId) (z : Value) (size bytes : Nat) (ht : Try.prog.underlying t = some (.slice ty))
    (hinfo : (Try.prog.info? ty).map (fun i => (i.zero, i.size, i.bytes)) = some (some z, size, bytes)) (hsz : 0 < size) (hsz2 : size ≤ 1000) (c d e : List Value) (hc : c.length = size) (hd : d.length = size) (he : e.length = size) :
    (Instr.buildSlice t 3 #[(0, .agg c.toArray), (1, .agg d.toArray), (2, .agg e.toArray)]).run Try.prog w = .ok (.slice (some ⟨w.heap.size, 0, none⟩) 3 3) (w.alloc (.cells (c ++ (d ++ e)).toArray ty)) := by
  obtain ⟨i0, hi, hz0, hz1, hz2⟩ := info_parts hinfo
  refine run_buildSlice w t ty 3 _ (c ++ (d ++ e)).toArray i0 z ht hi hz0 (by rw [hz1]; omega) (by rw [hz1]; omega) ?_
  rw [hz1]
  have h := Go.Great.fill_whole hsz [Value.agg c.toArray, Value.agg d.toArray, Value.agg e.toArray] ((Array.range (3 * size)).map (z.cells[· % z.cells.size]!)) (by
    intro v hv
    rcases List.mem_cons.1 hv with rfl | hv
    · simpa [Value.cells] using hc
    · rcases List.mem_cons.1 hv with rfl | hv
      · simpa [Value.cells] using hd
      · rw [List.mem_singleton.1 hv]; simpa [Value.cells] using he) (by simp)
  simpa [Value.cells] using h
section
variable {ops : Array Oper} {o : Oper} {a : Act} {w : World} {K : Act → World → Prop} {Q : Exit → Act → World → Prop} {E : Prop}
theorem cstep_build0 (hw : Region.wanted o (yielded ops a.tmps) = true) (t ty : TypeId) (ho : o.op = .buildSlice t 0 #[])
    (z : Value) (size bytes : Nat) (ht : Try.prog.underlying t = some (.slice ty)) (hinfo : (Try.prog.info? ty).map (fun i => (i.zero, i.size, i.bytes)) = some (some z, size, bytes))
    (h : K (a.put o.dst (.slice (some ⟨w.heap.size, 0, none⟩) 0 0)) (w.alloc (.cells #[] ty))) : if Region.wanted o (yielded ops a.tmps) = true then Oper.wp Try.prog o a w K Q else E := by
  have hrun := run_none w t ty z size bytes ht hinfo
  rw [if_pos hw]
  unfold Oper.wp
  simp [execOp, ho, hrun, Result.andThen]
  exact h
theorem cstep_build1 (hw : Region.wanted o (yielded ops a.tmps) = true) (t ty : TypeId) (x : Operand) (ho : o.op = .buildSlice t 1 #[(0, x)])
    (z : Value) (size bytes : Nat) (ht : Try.prog.underlying t = some (.slice ty)) (hinfo : (Try.prog.info? ty).map (fun i => (i.zero, i.size, i.bytes)) = some (some z, size, bytes)) (hsz : 0 < size) (hsz2 : size ≤ 1000) (c : List Value) (hc : c.length = size) (hx : a.eval x = .agg c.toArray)
    (h : K (a.put o.dst (.slice (some ⟨w.heap.size, 0, none⟩) 1 1)) (w.alloc (.cells c.toArray ty))) : if Region.wanted o (yielded ops a.tmps) = true then Oper.wp Try.prog o a w K Q else E := by
  have hrun := run_one w t ty z size bytes ht hinfo hsz hsz2 c hc
  rw [if_pos hw]
  unfold Oper.wp
  simp [execOp, ho, hx, hrun, Result.andThen]
  exact h
theorem cstep_build3 (hw : Region.wanted o (yielded ops a.tmps) = true) (t ty : TypeId) (x y u : Operand) (ho : o.op = .buildSlice t 3 #[(0, x), (1, y), (2, u)])
    (z : Value) (size bytes : Nat) (ht : Try.prog.underlying t = some (.slice ty)) (hinfo : (Try.prog.info? ty).map (fun i => (i.zero, i.size, i.bytes)) = some (some z, size, bytes)) (hsz : 0 < size) (hsz2 : size ≤ 1000) (c d e : List Value) (hc : c.length = size) (hd : d.length = size) (he : e.length = size)
    (hx : a.eval x = .agg c.toArray) (hy : a.eval y = .agg d.toArray) (hu : a.eval u = .agg e.toArray)
    (h : K (a.put o.dst (.slice (some ⟨w.heap.size, 0, none⟩) 3 3)) (w.alloc (.cells (c ++ (d ++ e)).toArray ty))) : if Region.wanted o (yielded ops a.tmps) = true then Oper.wp Try.prog o a w K Q else E := by
  have hrun := run_three w t ty z size bytes ht hinfo hsz hsz2 c d e hc hd he
  rw [if_pos hw]
  unfold Oper.wp
  simp [execOp, ho, hx, hy, hu, hrun, Result.andThen]
  exact h
end
theorem cns_three (w : World) (c d e : Cn) (hc : CnOk c) (hd : CnOk d) : CnsAt (w.alloc (.cells (cnC c ++ (cnC d ++ cnC e)).toArray 59)) (.slice (some ⟨w.heap.size, 0, none⟩) 3 3) [c, d, e] := by
  have hr := range_new w (cnC c ++ (cnC d ++ cnC e)) 59
  refine ⟨_, 3, rfl, by simp, by omega, by simp, fun _ => ⟨w.heap.size, 0, rfl, fun i l hi => ?_⟩⟩
  have h2 := range_right hr
  rcases (show i = 0 ∨ i = 1 ∨ i = 2 by have := (List.getElem?_eq_some_iff.1 hi).1; simp at this; omega) with rfl | rfl | rfl
  · obtain rfl : l = cnC c := by simpa using hi.symm
    exact range_left hr
  · obtain rfl : l = cnC d := by simpa using hi.symm
    have := range_left h2
    rw [cnC_length hc] at this
    exact this
  · obtain rfl : l = cnC e := by simpa using hi.symm
    have := range_right h2
    rw [cnC_length hc, cnC_length hd] at this
    exact this
theorem own_none (w : World) (base : Nat) (ty : TypeId) (s : Nat) (hb : base ≤ w.heap.size) : RowOwn (w.alloc (.cells #[] ty)) base ty s (.slice (some ⟨w.heap.size, 0, none⟩) 0 0) [] :=
  ⟨World.ownsRow_lit w #[] 0 hb (by simp [maxLen]) (by simp), fun _ h => by cases h⟩
theorem own_one (w : World) (base : Nat) (ty : TypeId) (s : Nat) (hb : base ≤ w.heap.size) (c : List Value) (hc : c.length = s ∧ ∀ u ∈ c, u.oneCell' = true) : RowOwn (w.alloc (.cells c.toArray ty)) base ty s (.slice (some ⟨w.heap.size, 0, none⟩) 1 1) [c] := by
  refine ⟨?_, fun d hd => by rw [List.mem_singleton.1 hd]; exact hc⟩
  have h := World.ownsRow_lit (e := ty) (size := s) w c.toArray 1 hb (by simp [maxLen]) (by simp [hc.1])
  simpa using h
theorem RowOwn.kept {w w' : World} {base : Nat} {ty : TypeId} {s : Nat} {v : Value} {C : List (List Value)} {row : Option Nat} (h : RowOwn w base ty s v C) (hg : w.grownBy w' row) (hne : v.ownBlock = none ∨ v.ownBlock ≠ row) : RowOwn w' base ty s v C := ⟨h.1.kept hg hne, h.2⟩
/-- 'append' of a row onto a row of the call's own, as a run. -/
theorem run_append_rows (w : World) (t ty rt : TypeId) (z : Value) (size bytes : Nat) (ht : Try.prog.underlying t = some (.slice ty))
    (hinfo : (Try.prog.info? ty).map (fun i => (i.zero, i.size, i.bytes)) = some (some z, size, bytes)) (hzs : z.cells.size = size) (hsz : 0 < size) (hby : bytes ≤ 1000)
    (base : Nat) (v : Value) (C : List (List Value)) (hown : RowOwn w base ty size v C) (ad : Addr) (n cap : Nat) (E : List (List Value)) (hu : RowAt w size (.slice (some ad) n cap) E) (hE : ∀ c ∈ E, c.length = size ∧ ∀ y ∈ c, y.oneCell' = true)
    (hlen : C.length + E.length ≤ 100000) (hb : base ≤ w.heap.size) :
    ∃ v' w', (Builtin.append_ #[t, t] rt #[v, .slice (some ad) n cap]).run Try.prog w = .ok v' w' ∧ RowOwn w' base ty size v' (C ++ E) ∧ w.grownBy w' v.ownBlock ∧ (v'.ownBlock = v.ownBlock ∨ ∀ k, v'.ownBlock = some k → w.heap.size ≤ k) := by
  obtain ⟨i0, hi, hz0, hz1, hz2⟩ := info_parts hinfo
  have hall : ∀ c ∈ C ++ E, c.length = size ∧ ∀ y ∈ c, y.oneCell' = true := fun c hc => by
    rcases List.mem_append.1 hc with q | q
    · exact hown.2 c q
    · exact hE c q
  obtain ⟨ad', cap', e, hcap, hmax, hnone, hcell⟩ := hu
  simp only [Value.slice.injEq] at e
  obtain ⟨rfl, rfl, rfl⟩ := e
  have hlE : E.flatten.length = E.length * size := by
    clear hcell hcap hnone hlen hall
    induction E with
    | nil => simp
    | cons c E ih =>
      rw [List.flatten_cons, List.length_append, ih (fun c hc => hE c (by simp [hc])), (hE c (by simp)).1, List.length_cons, Nat.add_mul]
      omega
  have hbyt : (C.length + E.length) * bytes ≤ 140737488355328 := by
    have := Nat.mul_le_mul hlen hby
    omega
  obtain ⟨v', w', h1, h2, h3, h4⟩ := run_append_where (P := Try.prog) w base t rt ty i0 z size bytes ht hi hz0 hz1 hz2 hzs hsz v C.length C.flatten hown.1 ad E.length cap E.flatten hlE (by
    intro j y hj
    obtain ⟨i, c, k, h1, h2, rfl⟩ := flat_split size hsz E (fun c hc => (hE c hc).1) j y hj
    obtain ⟨b, off, e, hc⟩ := hcell (by have := (List.getElem?_eq_some_iff.1 h1).1; omega)
    cases e
    have := hc i c h1 k y h2
    rw [Addr.add_mid, ← Nat.add_assoc]
    exact this) (by
    intro y hy
    obtain ⟨c, hc, hyc⟩ := List.mem_flatten.1 hy
    exact (hE c hc).2 y hyc) (by unfold maxLen; omega) hbyt hb
  refine ⟨v', w', h1, ⟨?_, hall⟩, h3, h4⟩
  rw [List.length_append, List.flatten_append]
  exact h2
theorem head_at {w : World} {s : Nat} {a : Option Addr} {n cap : Nat} {C : List (List Value)} (h : RowAt w s (.slice a n cap) C) {k : Nat} (hk : k ≤ n) : RowAt w s (.slice a k cap) (C.take k) := by
  obtain ⟨a', cap', e, h2, h3, h4, h5⟩ := h
  simp only [Value.slice.injEq] at e
  obtain ⟨rfl, rfl, rfl⟩ := e
  have hl : (C.take k).length = k := by rw [List.length_take]; omega
  refine ⟨a, cap, by rw [hl], by rw [hl]; omega, h3, h4, fun hp => ?_⟩
  obtain ⟨b, off, e, hc⟩ := h5 (by omega)
  refine ⟨b, off, e, fun i c hi => hc i c ?_⟩
  rw [List.getElem?_take] at hi
  split at hi
  · exact hi
  · cases hi
theorem tail_at {w : World} {s b off n cap : Nat} {C : List (List Value)} (h : RowAt w s (.slice (some ⟨b, off, none⟩) n cap) C) {k : Nat} (hk : k ≤ n) : RowAt w s (.slice (some ⟨b, off + k * s, none⟩) (n - k) (cap - k)) (C.drop k) := by
  obtain ⟨a', cap', e, h2, h3, h4, h5⟩ := h
  simp only [Value.slice.injEq] at e
  obtain ⟨rfl, rfl, rfl⟩ := e
  have hl : (C.drop k).length = C.length - k := by rw [List.length_drop]
  refine ⟨_, cap - k, by rw [hl], by rw [hl]; omega, by omega, by simp, fun hp => ?_⟩
  obtain ⟨b', off', e, hc⟩ := h5 (by omega)
  cases e
  refine ⟨b, off + k * s, rfl, fun i c hi => ?_⟩
  rw [List.getElem?_drop] at hi
  have := hc (k + i) c hi
  rw [Nat.add_mul, ← Nat.add_assoc] at this
  exact this
theorem tail_at2 {w : World} {s b off n cap : Nat} {C : List (List Value)} (h : RowAt w s (.slice (some ⟨b, off, none⟩) n cap) C) {k : Nat} (hk : k ≤ n) :
    ∃ to, (if cap = k then (some ⟨b, off, none⟩ : Option Addr) else some ⟨b, off + k * s, none⟩) = some ⟨b, to, none⟩ ∧ RowAt w s (.slice (some ⟨b, to, none⟩) (n - k) (cap - k)) (C.drop k) := by
  by_cases hc : cap = k
  · refine ⟨off, by rw [if_pos hc], ?_⟩
    obtain ⟨a', cap', e, h2, h3, h4, h5⟩ := h
    simp only [Value.slice.injEq] at e
    obtain ⟨-, rfl, rfl⟩ := e
    have hl : (C.drop k).length = 0 := by rw [List.length_drop]; omega
    exact ⟨_, _, by rw [hl, show C.length - k = 0 by omega], by rw [hl]; omega, by omega, by simp, fun hp => by omega⟩
  · exact ⟨off + k * s, by rw [if_neg hc], tail_at h hk⟩
/-- The points, one more among them. -/
def amid (L : List Cn) (k : Nat) (p : Pt) : List Pt := (L.map Cn.pt).take k ++ (p :: (L.map Cn.pt).drop k)
theorem amid_row (L : List Cn) (k : Nat) (p : Pt) : ((L.map fun c => pC c.pt).take k ++ ([pC p] ++ (L.map fun c => pC c.pt).drop k)) = (amid L k p).map pC := by
  unfold amid
  rw [List.map_append, List.map_cons, List.map_take, List.map_drop, List.map_map]
  rfl
theorem amid_length (L : List Cn) (k : Nat) (p : Pt) : (amid L k p).length = L.length + 1 := by
  unfold amid
  rw [List.length_append, List.length_cons, List.length_take, List.length_drop, List.length_map]
  omega
theorem amid_ok {L : List Cn} (k : Nat) {p : Pt} (hL : ∀ c ∈ L, CnOk c) (hp : PtOk p) : ∀ q ∈ amid L k p, PtOk q := by
  intro q hq
  have h := pts_ok hL
  rcases List.mem_append.1 hq with h1 | h1
  · exact h q (List.mem_of_mem_take h1)
  · rcases List.mem_cons.1 h1 with rfl | h1
    · exact hp
    · exact h q (List.mem_of_mem_drop h1)
theorem amid_perm (L : List Cn) (k : Nat) (p : Pt) : (amid L k p).Perm (p :: L.map Cn.pt) := by
  unfold amid
  refine List.perm_middle.trans ?_
  rw [List.take_append_drop]
theorem amid_twice {L : List Cn} (k : Nat) {p : Pt} (h : p ∈ L.map Cn.pt) : ¬ (amid L k p).Nodup := fun hN => by
  have := (amid_perm L k p).nodup_iff.1 hN
  exact (List.nodup_cons.1 this).1 h
theorem amid_once {L : List Cn} (k : Nat) {p : Pt} (h : p ∉ L.map Cn.pt) (hN : (L.map Cn.pt).Nodup) : (amid L k p).Nodup := (amid_perm L k p).nodup_iff.2 (List.nodup_cons.2 ⟨h, hN⟩)
theorem amid_new (L : List Cn) (k : Nat) (p : Pt) : p ∈ amid L k p := by unfold amid; simp

end Go.Proofs.Ytkemdfikcmgaaaa
