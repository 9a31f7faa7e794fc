/-
  A row cut in two, an element put between: three runs of append.
-/
import Derived.Test.YtbeegcpmpgdbnaaDoorRowCut
import Derived.Test.YtbeegcpmpgdbnaaDoorFeeA
namespace Go.Proofs.YtbeegcpmpgdbnaaDoor
open Go.RowKit Go.Shelf Go.Lib

theorem infoInt2 : (Tryd.prog.info? 3).map (fun i => (i.zero, i.size, i.bytes)) = some (some (.int .i64 0), 1, 8) := by kernel_rfl
theorem run_append_nil (w : World) (t ty rt : TypeId) (z : Value) (size bytes : Nat) (ht : Tryd.prog.underlying t = some (.slice ty))
    (hinfo : (Tryd.prog.info? ty).map (fun i => (i.zero, i.size, i.bytes)) = some (some z, size, bytes)) (a : Option Addr) (n cap : Nat) (hn : n ≤ cap) :
    (Builtin.append_ #[t, t] rt #[.slice a n cap, .slice none 0 0]).run Tryd.prog w = .ok (.slice a n cap) w := by
  obtain ⟨i0, hi, hz0, hz1, hz2⟩ := info_parts hinfo
  cases a <;> simp [Builtin.append_, run_underlying ht, sizeOf, typeInfo, hi, Builtin.lenOf, Builtin.firstCells, storeCells, hn]
/-- A row, an element put between its head and its tail. -/
theorem splice_runs (wb w : World) (P : List Nat) (k q x : Nat) (a : Addr) (cap : Nat) (hk : P.length = k) (hq : q ≤ k) (hk2 : k ≤ 1000) (hB : Below wb.heap.size wb w)
    (h : RowOwn w wb.heap.size 3 1 (.slice (some a) k cap) (plC P)) (ha : a = ⟨a.block, a.off, none⟩) :
    ∃ v1 w1 v2 w2 v3 w3 to, (if cap = q then (some ⟨a.block, a.off, none⟩ : Option Addr) else some ⟨a.block, a.off + q * 1, none⟩) = some ⟨a.block, to, none⟩ ∧
      (Builtin.append_ #[46, 46] 46 #[.slice (some ⟨w.heap.size, 0, none⟩) 0 0, .slice (some a) q cap]).run Tryd.prog (w.alloc (.cells #[] 3)) = .ok v1 w1 ∧
      (Builtin.append_ #[46, 46] 46 #[v1, .slice (some ⟨w1.heap.size, 0, none⟩) 1 1]).run Tryd.prog (w1.alloc (.cells #[.int .i64 (x : Int)] 3)) = .ok v2 w2 ∧
      (Builtin.append_ #[46, 46] 46 #[v2, .slice (some ⟨a.block, to, none⟩) (k - q) (cap - q)]).run Tryd.prog w2 = .ok v3 w3 ∧
      RowOwn w3 wb.heap.size 3 1 v3 (plC (P.take q ++ [x] ++ P.drop q)) ∧ Below wb.heap.size wb w3 := by
  have hlp : (plC P).length = k := by simp [plC, hk]
  have hone : ∀ c ∈ plC P, c.length = 1 ∧ ∀ y ∈ c, y.oneCell' = true := h.2
  have hab := h.lt a.block rfl
  -- the empty row
  have hbn := below_new w (.cells #[] 3)
  have A0 := own_none w wb.heap.size 3 1 hB.size
  have P0 := h.move (w1 := w.alloc (.cells #[] 3)) fun g _ hl => hbn.block g hl
  have B0 := hB.alloc hB.size (.cells #[] 3)
  obtain ⟨v1, w1, r1, o1, g1, e1⟩ := run_append_rows (w.alloc (.cells #[] 3)) 46 3 46 _ 1 8 Tryd.underlying46 infoInt2 rfl (by omega) (by omega) wb.heap.size _ [] A0 a q cap ((plC P).take q) (head_at P0.row hq) (fun c hc => hone c (List.mem_of_mem_take hc)) (by rw [List.length_take]; simp only [List.length_nil]; omega) B0.size
  rw [List.nil_append] at o1
  have B1 := B0.grown g1 B0.size fun j hj => (A0.lt j hj).1
  have P1 := P0.kept g1 (Or.inr (by intro e; have e' : a.block = w.heap.size := Option.some.inj e; have := hab.2; omega))
  -- the element
  have hbn1 := below_new w1 (.cells #[.int .i64 (x : Int)] 3)
  have N2 := range_new w1 [.int .i64 (x : Int)] 3
  have O2 := o1.move (w1 := w1.alloc (.cells #[.int .i64 (x : Int)] 3)) fun g _ hl => hbn1.block g hl
  have P2 := P1.move (w1 := w1.alloc (.cells #[.int .i64 (x : Int)] 3)) fun g _ hl => hbn1.block g hl
  have B2 := B1.alloc B1.size (.cells #[.int .i64 (x : Int)] 3)
  obtain ⟨v2, w2, r2, o2, g2, e2⟩ := run_append_row (w1.alloc (.cells #[.int .i64 (x : Int)] 3)) 46 3 46 _ 1 8 Tryd.underlying46 infoInt2 rfl (by omega) (by omega) wb.heap.size v1 ((plC P).take q) O2 w1.heap.size [.int .i64 (x : Int)] N2 ⟨rfl, fun y hy => by rw [List.mem_singleton.1 hy]; rfl⟩ (by rw [List.length_take]; omega) B2.size
  have B3 := B2.grown g2 B2.size fun j hj => (O2.lt j hj).1
  have hne : ∀ j, v1.ownBlock = some j → w.heap.size ≤ j := by
    intro j hj
    rcases e1 with e1 | e1
    · rw [e1] at hj
      have e' : w.heap.size = j := Option.some.inj hj
      omega
    · have := e1 j hj
      rw [alloc_size] at this
      omega
  have P3 := P2.kept g2 (Or.inr (by intro e; have := hne a.block e.symm; have := hab.2; omega))
  -- the tail
  obtain ⟨to, ht, hT⟩ := tail_at2 (ha ▸ P3.row) hq
  obtain ⟨v3, w3, r3, o3, g3, e3⟩ := run_append_rows w2 46 3 46 _ 1 8 Tryd.underlying46 infoInt2 rfl (by omega) (by omega) wb.heap.size v2 _ o2 ⟨a.block, to, none⟩ (k - q) (cap - q) ((plC P).drop q) hT (fun c hc => hone c (List.mem_of_mem_drop hc)) (by rw [List.length_append, List.length_take, List.length_drop, List.length_singleton]; omega) B3.size
  refine ⟨v1, w1, v2, w2, v3, w3, to, ht, r1, r2, r3, ?_, B3.grown g3 B3.size fun j hj => (o2.lt j hj).1⟩
  have e : plC (P.take q ++ [x] ++ P.drop q) = (plC P).take q ++ [[.int .i64 (x : Int)]] ++ (plC P).drop q := by
    simp [plC, List.map_take, List.map_drop]
  rw [e]
  exact o3

/-- An element put behind no row at all. -/
theorem splice_nil (wb w : World) (x : Nat) (hB : Below wb.heap.size wb w) :
    ∃ w1 v2 w2, (Builtin.append_ #[46, 46] 46 #[.slice (some ⟨w.heap.size, 0, none⟩) 0 0, .slice none 0 0]).run Tryd.prog (w.alloc (.cells #[] 3)) = .ok (.slice (some ⟨w.heap.size, 0, none⟩) 0 0) w1 ∧
      (Builtin.append_ #[46, 46] 46 #[.slice (some ⟨w.heap.size, 0, none⟩) 0 0, .slice (some ⟨w1.heap.size, 0, none⟩) 1 1]).run Tryd.prog (w1.alloc (.cells #[.int .i64 (x : Int)] 3)) = .ok v2 w2 ∧
      (Builtin.append_ #[46, 46] 46 #[v2, .slice none 0 0]).run Tryd.prog w2 = .ok v2 w2 ∧
      RowOwn w2 wb.heap.size 3 1 v2 (plC [x]) ∧ Below wb.heap.size wb w2 := by
  have A0 := own_none w wb.heap.size 3 1 hB.size
  have B1 := hB.alloc hB.size (.cells #[] 3)
  have r1 := run_append_nil (w.alloc (.cells #[] 3)) 46 3 46 _ 1 8 Tryd.underlying46 infoInt2 (some ⟨w.heap.size, 0, none⟩) 0 0 (Nat.le_refl _)
  refine ⟨w.alloc (.cells #[] 3), ?_⟩
  generalize w.alloc (.cells #[] 3) = w1 at *
  have hbn1 := below_new w1 (.cells #[.int .i64 (x : Int)] 3)
  have N2 := range_new w1 [.int .i64 (x : Int)] 3
  have O2 := A0.move (w1 := w1.alloc (.cells #[.int .i64 (x : Int)] 3)) fun g _ hl => hbn1.block g hl
  have B2 := B1.alloc B1.size (.cells #[.int .i64 (x : Int)] 3)
  obtain ⟨v2, w2, r2, o2, g2, e2⟩ := run_append_row (w1.alloc (.cells #[.int .i64 (x : Int)] 3)) 46 3 46 _ 1 8 Tryd.underlying46 infoInt2 rfl (by omega) (by omega) wb.heap.size _ [] O2 w1.heap.size [.int .i64 (x : Int)] N2 ⟨rfl, fun y hy => by rw [List.mem_singleton.1 hy]; rfl⟩ (by simp) B2.size
  have B3 := B2.grown g2 B2.size fun j hj => (O2.lt j hj).1
  obtain ⟨a, c, rfl, hc, -⟩ := o2.row.form
  exact ⟨_, w2, r1, r2, run_append_nil w2 46 3 46 _ 1 8 Tryd.underlying46 infoInt2 a _ c hc, o2, B3⟩

end Go.Proofs.YtbeegcpmpgdbnaaDoor
