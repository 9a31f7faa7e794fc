/-
  Arrays of numbers, and a struct of one and three numbers, that came in by value: opened. Nothing here speaks of one function.
-/
import Derived.Test.YtkemdfikcmgaaaaKitA
import Derived.ProofKit
import Derived.OpenShut
import Derived.Lib.SmallJoins
import Derived.Lib.LaidTab
namespace Go.Proofs.Ytkemdfikcmgaaaa
open Go.ChangeShapes Go.WideShapes Go.ChangeAt Go.RowKit

section
variable {H : Type} {enc : TypeId × Value → H} {P : Program} {w : World} {base : Nat} {spare : Nat → Bool} {held : Bool}

theorem okWide_array {r : Reach} {b0 n : Nat} {t e : TypeId} {v : Value} (ht : P.underlying t = some (.array n e)) (h : Value.okWide P w r b0 t v) : ∃ cs, v = .agg cs ∧ cs.size = P.cellsOf t := by
  simp only [Value.okWide, ht] at h
  obtain ⟨cs, h1, h2, _⟩ := h
  exact ⟨cs, h1, h2⟩
/-- The cells of an array of numbers. -/
theorem trod_nums {t e : TypeId} {n fuel : Nat} {k : IntKind} {cs : List Value} {x : DataW H × List MemPlace} (ht : P.underlying t = some (.array n e)) (he : P.underlying e = some (.int k)) (hce : P.cellsOf e = 1) (hct : P.cellsOf t = n)
    (h : DataW.trod enc P w base spare held fuel t cs = some x) : ∃ zs : List Int, cs = vals k zs ∧ zs.length = n ∧ ∀ z ∈ zs, (Lit.int k z).wf = true := by
  obtain ⟨xs, m, -, -, hl, hx, hf⟩ := DataW.trod_array ht h
  rw [hct] at hl
  have hg : ∀ i, i < n → ∃ z, cs[i]? = some (.int k z) ∧ (Lit.int k z).wf = true := by
    intro i hi
    have h1 := hf i hi
    rw [hce, Nat.mul_one, List.getElem?_eq_getElem (by omega)] at h1
    obtain ⟨z, hc, _, hw⟩ := DataW.trod_int he h1
    refine ⟨z, ?_, hw⟩
    have := congrArg (·[0]?) hc
    simpa [List.getElem?_take, List.getElem?_drop] using this
  refine ⟨(List.range n).map fun i => if h : i < n then (hg i h).choose else 0, ?_, by simp, ?_⟩
  · apply List.ext_getElem?
    intro i
    by_cases hi : i < n
    · simp only [vals, List.map_map, List.getElem?_map, List.getElem?_range hi, Option.map_some, Function.comp_apply, dif_pos hi]
      exact (hg i hi).choose_spec.1
    · rw [List.getElem?_eq_none (by omega), List.getElem?_eq_none (by simp [vals]; omega)]
  · intro z hz
    obtain ⟨i, hi, rfl⟩ := List.mem_map.1 hz
    have hi : i < n := by simpa using hi
    rw [dif_pos hi]
    exact (hg i hi).choose_spec.2
/-- An array of numbers that came in. -/
theorem arr_came {r : Reach} {b0 n : Nat} {t e : TypeId} {k : IntKind} {v : Value} {d : DataW H} {p : List MemPlace} (ht : P.underlying t = some (.array n e)) (he : P.underlying e = some (.int k)) (hce : P.cellsOf e = 1) (hct : P.cellsOf t = n)
    (hv : Value.okWide P w r b0 t v) (h : DataW.Trod enc P w base spare held t v d p) : ∃ zs : List Int, v = .agg (vals k zs).toArray ∧ zs.length = n ∧ ∀ z ∈ zs, (Lit.int k z).wf = true := by
  obtain ⟨cs, rfl, -⟩ := okWide_array ht hv
  obtain ⟨fuel, hf⟩ := h
  obtain ⟨zs, hz, h1, h2⟩ := trod_nums ht he hce hct hf
  refine ⟨zs, ?_, h1, h2⟩
  have : cs.toList = vals k zs := by simpa [Value.cells] using hz
  rw [← this]
/-- The cells of a struct of an array of bytes, a word and two ints. -/
def wayCells (zs : List Int) (x y z : Int) : List Value := vals .u8 zs ++ [Value.int .u64 x, Value.int .i64 y, Value.int .i64 z]
/-- A struct of an array of bytes, a word and two ints that came in. -/
theorem way_came {r : Reach} {b0 : Nat} {t ta e tu ti : TypeId} {f0 f1 f2 f3 : Field} {v : Value} {d : DataW H} {p : List MemPlace} (hs : P.underlying t = some (.struct #[f0, f1, f2, f3])) (hC : P.cellsOf t = 35)
    (o0 : f0.offset = 0 ∧ f0.type = ta) (o1 : f1.offset = 32 ∧ f1.type = tu) (o2 : f2.offset = 33 ∧ f2.type = ti) (o3 : f3.offset = 34 ∧ f3.type = ti)
    (ht : P.underlying ta = some (.array 32 e)) (he : P.underlying e = some (.int .u8)) (hce : P.cellsOf e = 1) (hct : P.cellsOf ta = 32) (hu : P.underlying tu = some (.int .u64)) (hcu : P.cellsOf tu = 1) (hi : P.underlying ti = some (.int .i64)) (hci : P.cellsOf ti = 1)
    (hv : Value.okWide P w r b0 t v) (h : DataW.Trod enc P w base spare held t v d p) :
    ∃ (zs : List Int) (x y z : Int), v = .agg (wayCells zs x y z).toArray ∧ zs.length = 32 ∧ (∀ z ∈ zs, (Lit.int .u8 z).wf = true) ∧ (Lit.int .u64 x).wf = true ∧ (Lit.int .i64 y).wf = true ∧ (Lit.int .i64 z).wf = true := by
  obtain ⟨cs, rfl, hsz⟩ := okWide_struct hs hv
  obtain ⟨fuel, hf⟩ := h
  obtain ⟨y0, y1, y2, y3, n, -, hl, h0, h1, h2, h3⟩ := Joins.trod_struct4 hs hf
  rw [o0.1, o0.2] at h0
  rw [o1.1, o1.2, hcu] at h1
  rw [o2.1, o2.2, hci] at h2
  rw [o3.1, o3.2, hci] at h3
  obtain ⟨zs, hz, l1, l2⟩ := trod_nums ht he hce hct h0
  obtain ⟨x, hx, -, wx⟩ := DataW.trod_int hu h1
  obtain ⟨y, hy, -, wy⟩ := DataW.trod_int hi h2
  obtain ⟨z, hz3, -, wz⟩ := DataW.trod_int hi h3
  refine ⟨zs, x, y, z, ?_, l1, l2, wx, wy, wz⟩
  simp only [Value.cells] at hl hz hx hy hz3
  rw [hct, List.drop_zero] at hz
  have hlen : cs.toList.length = 35 := by simpa [hC] using hsz
  have e1 : cs.toList = cs.toList.take 32 ++ ((cs.toList.drop 32).take 1 ++ ((cs.toList.drop 33).take 1 ++ (cs.toList.drop 34).take 1)) := by
    have a3 : (cs.toList.drop 34).take 1 = cs.toList.drop 34 := List.take_of_length_le (by simp; omega)
    have a2 : (cs.toList.drop 33).take 1 ++ cs.toList.drop 34 = cs.toList.drop 33 := by
      rw [show cs.toList.drop 34 = (cs.toList.drop 33).drop 1 by rw [List.drop_drop], List.take_append_drop]
    have a1 : (cs.toList.drop 32).take 1 ++ cs.toList.drop 33 = cs.toList.drop 32 := by
      rw [show cs.toList.drop 33 = (cs.toList.drop 32).drop 1 by rw [List.drop_drop], List.take_append_drop]
    rw [a3, a2, a1, List.take_append_drop]
  rw [hz, hx, hy, hz3] at e1
  have : cs = (vals .u8 zs ++ ([Value.int .u64 x] ++ ([Value.int .i64 y] ++ [Value.int .i64 z]))).toArray := by rw [← e1]
  rw [this]
  rfl
end

end Go.Proofs.Ytkemdfikcmgaaaa
