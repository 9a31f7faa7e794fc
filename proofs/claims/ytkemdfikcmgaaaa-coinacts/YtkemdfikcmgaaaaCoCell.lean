/-
  Coins and points in memory: their cells, rows of them. Nothing here speaks of one function.
-/
import Derived.Test.YtkemdfikcmgaaaaCoPure
import Derived.Test.YtkemdfikcmgaaaaFolds
import Derived.Test.YtkemdfikcmgaaaaRowAdd
namespace Go.Proofs.Ytkemdfikcmgaaaa
open Go.RowKit

/-- A coin's cells. -/
def cnC (c : Cn) : List Value := ptC c.tx c.n ++ outC c.out
theorem cnC_length {c : Cn} (h : CnOk c) : (cnC c).length = 66 := by
  unfold cnC
  rw [List.length_append, ptC_length c.n (show c.tx.length = 32 from h.1.1), outC_length h.2.2.1]
theorem cnC_one (c : Cn) : ∀ u ∈ cnC c, u.oneCell' = true := by
  intro u hu
  rcases List.mem_append.1 hu with q | q
  · exact ptC_one _ _ u q
  · exact outC_one _ u q
def pC (p : Pt) : List Value := ptC p.1 p.2
theorem pC_length {p : Pt} (h : PtOk p) : (pC p).length = 33 := ptC_length _ h.1
theorem pC_one (p : Pt) : ∀ u ∈ pC p, u.oneCell' = true := ptC_one _ _
theorem cnC_pt (c : Cn) : cnC c = pC c.pt ++ outC c.out := rfl
/-- The cells of a coin that isn't there. -/
def coinZ : Array Value := List.toArray (Value.int IntKind.u8 0 :: Value.int IntKind.u8 0 :: Value.int IntKind.u8 0 :: Value.int IntKind.u8 0 :: Value.int IntKind.u8 0 :: Value.int IntKind.u8 0 :: Value.int IntKind.u8 0 :: Value.int IntKind.u8 0 :: Value.int IntKind.u8 0 :: Value.int IntKind.u8 0 :: Value.int IntKind.u8 0 :: Value.int IntKind.u8 0 :: Value.int IntKind.u8 0 :: Value.int IntKind.u8 0 :: Value.int IntKind.u8 0 :: Value.int IntKind.u8 0 :: Value.int IntKind.u8 0 :: Value.int IntKind.u8 0 :: Value.int IntKind.u8 0 :: Value.int IntKind.u8 0 :: Value.int IntKind.u8 0 :: Value.int IntKind.u8 0 :: Value.int IntKind.u8 0 :: Value.int IntKind.u8 0 :: Value.int IntKind.u8 0 :: Value.int IntKind.u8 0 :: Value.int IntKind.u8 0 :: Value.int IntKind.u8 0 :: Value.int IntKind.u8 0 :: Value.int IntKind.u8 0 :: Value.int IntKind.u8 0 :: Value.int IntKind.u8 0 :: Value.int IntKind.u32 0 :: Value.int IntKind.u64 0 :: Value.int IntKind.u8 0 :: Value.int IntKind.u8 0 :: Value.int IntKind.u8 0 :: Value.int IntKind.u8 0 :: Value.int IntKind.u8 0 :: Value.int IntKind.u8 0 :: Value.int IntKind.u8 0 :: Value.int IntKind.u8 0 :: Value.int IntKind.u8 0 :: Value.int IntKind.u8 0 :: Value.int IntKind.u8 0 :: Value.int IntKind.u8 0 :: Value.int IntKind.u8 0 :: Value.int IntKind.u8 0 :: Value.int IntKind.u8 0 :: Value.int IntKind.u8 0 :: Value.int IntKind.u8 0 :: Value.int IntKind.u8 0 :: Value.int IntKind.u8 0 :: Value.int IntKind.u8 0 :: Value.int IntKind.u8 0 :: Value.int IntKind.u8 0 :: Value.int IntKind.u8 0 :: Value.int IntKind.u8 0 :: Value.int IntKind.u8 0 :: Value.int IntKind.u8 0 :: Value.int IntKind.u8 0 :: Value.int IntKind.u8 0 :: Value.int IntKind.u8 0 :: Value.int IntKind.u8 0 :: Value.int IntKind.u8 0 :: Value.int IntKind.u8 0 :: ([] : List Value))
theorem coinZ_size : coinZ.size = 66 := rfl
theorem zero_cn : ∀ w, (zeroValue 59).run Try.prog w = .ok (.agg coinZ) w := (zero_of_info (P := Try.prog) (n := 66) (t := 59) (v := .agg coinZ) (by kernel_rfl)).1
theorem infoCn : (Try.prog.info? 59).map (fun i => (i.zero, i.size, i.bytes)) = some (some (.agg coinZ), 66, 80) := by kernel_rfl
theorem info_cn : (Try.prog.info? 59).map (·.size) = some 66 := by kernel_rfl
theorem infoP : (Try.prog.info? 47).map (fun i => (i.zero, i.size, i.bytes)) = some (some (.agg #[.int .u8 0, .int .u8 0, .int .u8 0, .int .u8 0, .int .u8 0, .int .u8 0, .int .u8 0, .int .u8 0, .int .u8 0, .int .u8 0, .int .u8 0, .int .u8 0, .int .u8 0, .int .u8 0, .int .u8 0, .int .u8 0, .int .u8 0, .int .u8 0, .int .u8 0, .int .u8 0, .int .u8 0, .int .u8 0, .int .u8 0, .int .u8 0, .int .u8 0, .int .u8 0, .int .u8 0, .int .u8 0, .int .u8 0, .int .u8 0, .int .u8 0, .int .u8 0, .int .u32 0]), 33, 36) := by kernel_rfl
theorem cn_there (w : World) : (w.alloc (.cells coinZ 59)).there w.heap.size 0 66 := there_new w _ _
theorem p_there (w : World) : (w.alloc (.cells #[.int .u8 0, .int .u8 0, .int .u8 0, .int .u8 0, .int .u8 0, .int .u8 0, .int .u8 0, .int .u8 0, .int .u8 0, .int .u8 0, .int .u8 0, .int .u8 0, .int .u8 0, .int .u8 0, .int .u8 0, .int .u8 0, .int .u8 0, .int .u8 0, .int .u8 0, .int .u8 0, .int .u8 0, .int .u8 0, .int .u8 0, .int .u8 0, .int .u8 0, .int .u8 0, .int .u8 0, .int .u8 0, .int .u8 0, .int .u8 0, .int .u8 0, .int .u8 0, .int .u32 0] 47)).there w.heap.size 0 33 := there_new w _ _
theorem o_there (w : World) : (w.alloc (.cells #[.int .u64 0, .int .u8 0, .int .u8 0, .int .u8 0, .int .u8 0, .int .u8 0, .int .u8 0, .int .u8 0, .int .u8 0, .int .u8 0, .int .u8 0, .int .u8 0, .int .u8 0, .int .u8 0, .int .u8 0, .int .u8 0, .int .u8 0, .int .u8 0, .int .u8 0, .int .u8 0, .int .u8 0, .int .u8 0, .int .u8 0, .int .u8 0, .int .u8 0, .int .u8 0, .int .u8 0, .int .u8 0, .int .u8 0, .int .u8 0, .int .u8 0, .int .u8 0, .int .u8 0] 50)).there w.heap.size 0 33 := there_new w _ _
/-- A coin is built out of its point and its output. -/
theorem cn_size {Z : Array Value} (hZ : Z.size = 66) (p : List Value) (h : p.length = 33) : ¬ (List.foldl (fun (cs : Array Value) (x : Value × Nat) => cs.setIfInBounds x.2 x.1) Z p.zipIdx).size < 66 := by
  rw [fold_part _ 0 _ (by omega)]
  simp [h, hZ]
theorem cn_built {Z : Array Value} (hZ : Z.size = 66) (p o : List Value) (h : p.length = 33) (ho : o.length = 33) :
    List.foldl (fun (cs : Array Value) (x : Value × Nat) => cs.setIfInBounds (33 + x.2) x.1) (List.foldl (fun (cs : Array Value) (x : Value × Nat) => cs.setIfInBounds x.2 x.1) Z p.zipIdx) o.zipIdx = (p ++ o).toArray := by
  rw [fold_part _ 0 _ (by omega), fold_off 33 _ 0 _ (by simp; omega)]
  congr 1
  simp [h, ho, hZ, List.drop_append]
/-- The slice bears the coins; the points. -/
def CnsAt (w : World) (v : Value) (L : List Cn) : Prop := RowAt w 66 v (L.map cnC)
def PsAt (w : World) (v : Value) (L : List Pt) : Prop := RowAt w 33 v (L.map pC)
theorem CnsAt.on {w w' : World} {v : Value} {L : List Cn} (h : CnsAt w v L) (hb : Below w.heap.size w w') : CnsAt w' v L := RowAt.on h hb
theorem PsAt.on {w w' : World} {v : Value} {L : List Pt} (h : PsAt w v L) (hb : Below w.heap.size w w') : PsAt w' v L := RowAt.on h hb
theorem CnsAt.form {w : World} {v : Value} {L : List Cn} (h : CnsAt w v L) : ∃ a cap, v = .slice a L.length cap ∧ L.length ≤ cap ∧ cap ≤ 9223372036854775807 := by
  have := RowAt.form h
  simpa using this
theorem PsAt.form {w : World} {v : Value} {L : List Pt} (h : PsAt w v L) : ∃ a cap, v = .slice a L.length cap ∧ L.length ≤ cap ∧ cap ≤ 9223372036854775807 := by
  have := RowAt.form h
  simpa using this
theorem CnsAt.get {w : World} {a : Option Addr} {n cap : Nat} {L : List Cn} (h : CnsAt w (.slice a n cap) L) {k : Nat} {x : Cn} (hk : L[k]? = some x) : ∃ b off, a = some ⟨b, off, none⟩ ∧ w.rangeAt b (off + k * 66) (cnC x) :=
  RowAt.get h (k := k) (c := cnC x) (by rw [List.getElem?_map, hk]; rfl)
theorem PsAt.get {w : World} {a : Option Addr} {n cap : Nat} {L : List Pt} (h : PsAt w (.slice a n cap) L) {k : Nat} {x : Pt} (hk : L[k]? = some x) : ∃ b off, a = some ⟨b, off, none⟩ ∧ w.rangeAt b (off + k * 33) (pC x) :=
  RowAt.get h (k := k) (c := pC x) (by rw [List.getElem?_map, hk]; rfl)
theorem take_more {α β : Type} {f : α → β} {L : List α} {k : Nat} {x : α} (h : L[k]? = some x) : (L.take (k + 1)).map f = (L.take k).map f ++ [f x] := by
  obtain ⟨e1, e2⟩ := List.getElem?_eq_some_iff.1 h
  rw [List.take_succ_eq_append_getElem e1, e2, List.map_append, List.map_cons, List.map_nil]
theorem cn_range {w : World} {b o : Nat} {c : Cn} (h : w.rangeAt b o (cnC c)) (hl : CnOk c) : w.rangeAt b o (pC c.pt) ∧ w.rangeAt b (o + 33) (outC c.out) := by
  rw [cnC_pt] at h
  refine ⟨range_left h, ?_⟩
  have := range_right h
  rw [pC_length hl.1] at this
  exact this
/-- A slice that is built, of structs. -/
theorem wp_build_one {w : World} {ops : Array Oper} {rest : List Oper} {o : Oper} {a : Act} {Q : Exit → Act → World → Prop} (hgd : o.guard = none) (t ty : TypeId) (x : Operand) (ho : o.op = .buildSlice t 1 #[(0, x)])
    (z : Value) (size bytes : Nat) (ht : Try.prog.underlying t = some (.slice ty)) (hinfo : (Try.prog.info? ty).map (fun i => (i.zero, i.size, i.bytes)) = some (some z, size, bytes)) (hsz : 0 < size) (hsz2 : size ≤ 1000) (c : List Value) (hc : c.length = size) (hx : a.eval x = .agg c.toArray)
    (h : wpList Try.prog ops Q rest (a.put o.dst (.slice (some ⟨w.heap.size, 0, none⟩) 1 1)) (w.alloc (.cells c.toArray ty))) : wpList Try.prog ops Q (o :: rest) a w := by
  have hrun := run_one w t ty z size bytes ht hinfo hsz hsz2 c hc
  refine wpList_plain hgd fun K hK => ?_
  unfold Oper.wp
  simp [execOp, ho, hx, hrun, Result.andThen]
  exact hK _ _ h

end Go.Proofs.Ytkemdfikcmgaaaa
