import Derived.Test.YtbeegcpmpgdbnaaDoorKitA
import Derived.ProofKit
import Derived.OpenShut
import Derived.Lib.SmallJoins
import Derived.Lib.LaidTab
import Derived.Test.YtbeegcpmpgdbnaaDoorLawKit
import Derived.Test.YtbeegcpmpgdbnaaDoorTxEql
import Derived.Deep.Strs
import Derived.Test.YtbeegcpmpgdbnaaDoorTxR
/-
  Arrays of numbers, and a struct of one and three numbers, that came in by value: opened. Nothing here speaks of one function.
-/
namespace Go.Proofs.YtbeegcpmpgdbnaaDoor
open Go.ChangeShapes Go.WideShapes Go.ChangeAt Go.RowKit

section
variable {H : Type} {enc : TypeId × Value → H} {P : Program} {w : World} {base : Nat} {spare : Nat → Bool} {held : Bool}

theorem okWide_array {r : Reach} {b0 n : Nat} {t e : TypeId} {v : Value} (ht : P.underlying t = some (.array n e)) (h : Value.okWide P w r b0 t v) : ∃ cs, v = .agg cs ∧ cs.size = P.cellsOf t := by
  simp only [Value.okWide, ht] at h
  obtain ⟨cs, h1, h2, _⟩ := h
  exact ⟨cs, h1, h2⟩
/-- The cells of an array of numbers. -/
theorem trod_nums {t e : TypeId} {n fuel : Nat} {k : IntKind} {cs : List Value} {x : DataW H × List MemPlace} (ht : P.underlying t = some (.array n e)) (he : P.underlying e = some (.int k)) (hce : P.cellsOf e = 1) (hct : P.cellsOf t = n)
    (h : DataW.trod enc P w base spare held fuel t cs = some x) : ∃ zs : List Int, cs = vals k zs ∧ zs.length = n ∧ ∀ z ∈ zs, (Lit.int k z).wf = true := by
  obtain ⟨xs, m, -, -, hl, hx, hf⟩ := DataW.trod_array ht h
  rw [hct] at hl
  have hg : ∀ i, i < n → ∃ z, cs[i]? = some (.int k z) ∧ (Lit.int k z).wf = true := by
    intro i hi
    have h1 := hf i hi
    rw [hce, Nat.mul_one, List.getElem?_eq_getElem (by omega)] at h1
    obtain ⟨z, hc, _, hw⟩ := DataW.trod_int he h1
    refine ⟨z, ?_, hw⟩
    have := congrArg (·[0]?) hc
    simpa [List.getElem?_take, List.getElem?_drop] using this
  refine ⟨(List.range n).map fun i => if h : i < n then (hg i h).choose else 0, ?_, by simp, ?_⟩
  · apply List.ext_getElem?
    intro i
    by_cases hi : i < n
    · simp only [vals, List.map_map, List.getElem?_map, List.getElem?_range hi, Option.map_some, Function.comp_apply, dif_pos hi]
      exact (hg i hi).choose_spec.1
    · rw [List.getElem?_eq_none (by omega), List.getElem?_eq_none (by simp [vals]; omega)]
  · intro z hz
    obtain ⟨i, hi, rfl⟩ := List.mem_map.1 hz
    have hi : i < n := by simpa using hi
    rw [dif_pos hi]
    exact (hg i hi).choose_spec.2
/-- An array of numbers that came in. -/
theorem arr_came {r : Reach} {b0 n : Nat} {t e : TypeId} {k : IntKind} {v : Value} {d : DataW H} {p : List MemPlace} (ht : P.underlying t = some (.array n e)) (he : P.underlying e = some (.int k)) (hce : P.cellsOf e = 1) (hct : P.cellsOf t = n)
    (hv : Value.okWide P w r b0 t v) (h : DataW.Trod enc P w base spare held t v d p) : ∃ zs : List Int, v = .agg (vals k zs).toArray ∧ zs.length = n ∧ ∀ z ∈ zs, (Lit.int k z).wf = true := by
  obtain ⟨cs, rfl, -⟩ := okWide_array ht hv
  obtain ⟨fuel, hf⟩ := h
  obtain ⟨zs, hz, h1, h2⟩ := trod_nums ht he hce hct hf
  refine ⟨zs, ?_, h1, h2⟩
  have : cs.toList = vals k zs := by simpa [Value.cells] using hz
  rw [← this]
/-- The cells of a struct of an array of bytes, a word and two ints. -/
def wayCells (zs : List Int) (x y z : Int) : List Value := vals .u8 zs ++ [Value.int .u64 x, Value.int .i64 y, Value.int .i64 z]
/-- A struct of an array of bytes, a word and two ints that came in. -/
theorem way_came {r : Reach} {b0 : Nat} {t ta e tu ti : TypeId} {f0 f1 f2 f3 : Field} {v : Value} {d : DataW H} {p : List MemPlace} (hs : P.underlying t = some (.struct #[f0, f1, f2, f3])) (hC : P.cellsOf t = 35)
    (o0 : f0.offset = 0 ∧ f0.type = ta) (o1 : f1.offset = 32 ∧ f1.type = tu) (o2 : f2.offset = 33 ∧ f2.type = ti) (o3 : f3.offset = 34 ∧ f3.type = ti)
    (ht : P.underlying ta = some (.array 32 e)) (he : P.underlying e = some (.int .u8)) (hce : P.cellsOf e = 1) (hct : P.cellsOf ta = 32) (hu : P.underlying tu = some (.int .u64)) (hcu : P.cellsOf tu = 1) (hi : P.underlying ti = some (.int .i64)) (hci : P.cellsOf ti = 1)
    (hv : Value.okWide P w r b0 t v) (h : DataW.Trod enc P w base spare held t v d p) :
    ∃ (zs : List Int) (x y z : Int), v = .agg (wayCells zs x y z).toArray ∧ zs.length = 32 ∧ (∀ z ∈ zs, (Lit.int .u8 z).wf = true) ∧ (Lit.int .u64 x).wf = true ∧ (Lit.int .i64 y).wf = true ∧ (Lit.int .i64 z).wf = true := by
  obtain ⟨cs, rfl, hsz⟩ := okWide_struct hs hv
  obtain ⟨fuel, hf⟩ := h
  obtain ⟨y0, y1, y2, y3, n, -, hl, h0, h1, h2, h3⟩ := Joins.trod_struct4 hs hf
  rw [o0.1, o0.2] at h0
  rw [o1.1, o1.2, hcu] at h1
  rw [o2.1, o2.2, hci] at h2
  rw [o3.1, o3.2, hci] at h3
  obtain ⟨zs, hz, l1, l2⟩ := trod_nums ht he hce hct h0
  obtain ⟨x, hx, -, wx⟩ := DataW.trod_int hu h1
  obtain ⟨y, hy, -, wy⟩ := DataW.trod_int hi h2
  obtain ⟨z, hz3, -, wz⟩ := DataW.trod_int hi h3
  refine ⟨zs, x, y, z, ?_, l1, l2, wx, wy, wz⟩
  simp only [Value.cells] at hl hz hx hy hz3
  rw [hct, List.drop_zero] at hz
  have hlen : cs.toList.length = 35 := by simpa [hC] using hsz
  have e1 : cs.toList = cs.toList.take 32 ++ ((cs.toList.drop 32).take 1 ++ ((cs.toList.drop 33).take 1 ++ (cs.toList.drop 34).take 1)) := by
    have a3 : (cs.toList.drop 34).take 1 = cs.toList.drop 34 := List.take_of_length_le (by simp; omega)
    have a2 : (cs.toList.drop 33).take 1 ++ cs.toList.drop 34 = cs.toList.drop 33 := by
      rw [show cs.toList.drop 34 = (cs.toList.drop 33).drop 1 by rw [List.drop_drop], List.take_append_drop]
    have a1 : (cs.toList.drop 32).take 1 ++ cs.toList.drop 33 = cs.toList.drop 32 := by
      rw [show cs.toList.drop 33 = (cs.toList.drop 32).drop 1 by rw [List.drop_drop], List.take_append_drop]
    rw [a3, a2, a1, List.take_append_drop]
  rw [hz, hx, hy, hz3] at e1
  have : cs = (vals .u8 zs ++ ([Value.int .u64 x] ++ ([Value.int .i64 y] ++ [Value.int .i64 z]))).toArray := by rw [← e1]
  rw [this]
  rfl
end

end Go.Proofs.YtbeegcpmpgdbnaaDoor

/-
  Points, outputs and rows of structs that come in. Nothing here speaks of one function.
-/
namespace Go.Proofs.YtbeegcpmpgdbnaaDoor
open Go.ChangeShapes Go.WideShapes Go.ChangeAt Go.RowKit

theorem cut_two {α : Type} {l : List α} {a b : Nat} (h : l.length = a + b) : l = l.take a ++ (l.drop a).take b := by
  rw [List.take_of_length_le (l := l.drop a) (by simp; omega), List.take_append_drop]
section
variable {H : Type} {enc : TypeId × Value → H} {W : World} {base : Nat} {spare : Nat → Bool} {held : Bool}
theorem hash_cells {fuel : Nat} {cs : List Value} {x : DataW H × List MemPlace} (h : DataW.trod enc Tryd.prog W base spare held fuel 34 cs = some x) : ∃ l : List Int, cs = vals .u8 l ∧ l.length = 32 ∧ AllB l := by
  obtain ⟨zs, h1, h2, h3⟩ := trod_nums Tryd.underlying34 Tryd.underlying5 (by kernel_rfl) (by kernel_rfl) h
  exact ⟨zs, h1, h2, fun z hz => byte_of_wf (h3 z hz)⟩
theorem pt_cells {fuel : Nat} {cs : List Value} {x : DataW H × List MemPlace} (h : DataW.trod enc Tryd.prog W base spare held fuel 36 cs = some x) : ∃ (tx : List Int) (n : Int), cs = ptC tx n ∧ tx.length = 32 ∧ AllB tx ∧ 0 ≤ n ∧ n < 4294967296 := by
  obtain ⟨y0, y1, m, -, hl, h0, h1⟩ := trod_struct2 Tryd.underlying36 h
  have hl : cs.length = 32 + 1 := hl.trans (by kernel_rfl)
  have c0 : Tryd.prog.cellsOf 34 = 32 := by kernel_rfl
  have c1 : Tryd.prog.cellsOf 22 = 1 := by kernel_rfl
  simp only [c0, c1, List.drop_zero] at h0 h1
  obtain ⟨tx, e0, l0, b0⟩ := hash_cells h0
  obtain ⟨n, e1, -, w1⟩ := DataW.trod_int Tryd.underlying22 h1
  have hn := u32_of_wf w1
  refine ⟨tx, n, ?_, l0, b0, hn.1, hn.2⟩
  rw [cut_two hl, e0, e1]
  rfl
theorem out_cells {fuel : Nat} {cs : List Value} {x : DataW H × List MemPlace} (h : DataW.trod enc Tryd.prog W base spare held fuel 60 cs = some x) : ∃ y : TOut, cs = outC y ∧ OutOk y := by
  obtain ⟨y0, y1, m, -, hl, h0, h1⟩ := trod_struct2 Tryd.underlying60 h
  have hl : cs.length = 1 + 32 := hl.trans (by kernel_rfl)
  have c0 : Tryd.prog.cellsOf 34 = 32 := by kernel_rfl
  have c1 : Tryd.prog.cellsOf 29 = 1 := by kernel_rfl
  simp only [c0, c1, List.drop_zero] at h0 h1
  obtain ⟨lk, e1, l1, b1⟩ := hash_cells h1
  obtain ⟨n, e0, -, w0⟩ := DataW.trod_int Tryd.underlying29 h0
  refine ⟨⟨n, lk⟩, ?_, word_of_wf w0, l1, b1⟩
  rw [cut_two hl, e0, e1]
  rfl
instance : Inhabited TOut := ⟨⟨0, []⟩⟩
/-- Rows of structs that came in. -/
theorem rows_came {α : Type} [Inhabited α] {e : TypeId} {s : Nat} {a : Addr} {len cap m : Nat} {C : α → List Value} {Q : α → Prop} (hC : ∀ x, Q x → (C x).length = s) (hs : 0 < s) (ce : Tryd.prog.cellsOf e = s) (hl : len ≤ cap) (hm : cap ≤ maxLen) (hlm : len ≤ m)
    (h : ∀ i, i < m → ∃ cs, W.cells? base (a.add (i * Tryd.prog.cellsOf e)) (Tryd.prog.cellsOf e) = some cs ∧ ∃ x, cs = C x ∧ Q x) :
    ∃ L : List α, RowAt W s (.slice (some a) len cap) (L.map C) ∧ L.length = len ∧ ∀ x ∈ L, Q x := by
  obtain ⟨f, hf⟩ := Go.Deep.choose_lt (p := fun i x => ∃ cs, W.cells? base (a.add (i * Tryd.prog.cellsOf e)) (Tryd.prog.cellsOf e) = some cs ∧ cs = C x ∧ Q x) (n := len) (fun i hi => by
    obtain ⟨cs, h1, x, h2, h3⟩ := h i (by omega)
    exact ⟨x, cs, h1, h2, h3⟩)
  refine ⟨(List.range len).map f, ⟨some a, cap, by simp, by simpa using hl, by simpa [maxLen] using hm, by simp, fun hp => ?_⟩, by simp, fun x hx => ?_⟩
  · have hpos : 0 < len := by simpa using hp
    obtain ⟨b, off, spot⟩ := a
    obtain ⟨cs, h1, h2, h3⟩ := hf 0 hpos
    obtain ⟨-, hlen, hcell⟩ := World.cells?_some h1
    have hspot : spot = none := by
      have h0 := hcell 0 (by rw [ce]; exact hs)
      rw [List.getElem?_eq_getElem (by rw [hlen, ce]; exact hs)] at h0
      simpa [Addr.add] using World.cell?_spot h0
    subst hspot
    refine ⟨b, off, rfl, fun i c hi => ?_⟩
    have hi' : i < len := by
      have := (List.getElem?_eq_some_iff.1 hi).1
      simpa using this
    obtain ⟨cs, h1, h2, h3⟩ := hf i hi'
    obtain ⟨-, hlen, hcell⟩ := World.cells?_some h1
    have hc : c = C (f i) := by
      have := hi
      simp [hi'] at this
      exact this.symm
    rw [ce] at hlen hcell
    intro j v hv
    have hj : j < s := by
      have := (List.getElem?_eq_some_iff.1 hv).1
      rw [hc, hC _ h3] at this
      exact this
    have := hcell j hj
    rw [h2, ← hc, hv] at this
    rw [add_plain, add_plain] at this
    exact this
  · obtain ⟨i, hi, rfl⟩ := List.mem_map.1 hx
    exact (hf i (by simpa using hi)).elim fun _ h => h.2.2
end

end Go.Proofs.YtbeegcpmpgdbnaaDoor

/-
  A transaction that comes in. Nothing here speaks of one function.
-/
namespace Go.Proofs.YtbeegcpmpgdbnaaDoor
open Go.ChangeShapes Go.WideShapes Go.ChangeAt Go.RowKit

section
variable {H : Type} {enc : TypeId × Value → H} {W : World} {base : Nat} {spare : Nat → Bool} {held : Bool}
theorem in_cells {fuel : Nat} {cs : List Value} {x : DataW H × List MemPlace} (hsp : ∀ k, spare k = true) (h : DataW.trod enc Tryd.prog W base spare held fuel 39 cs = some x) : ∃ y : TIn × Value, cs = inC y ∧ InOk y.1 ∧ Bytes W y.2 y.1.key := by
  obtain ⟨y0, y1, m, -, hl, h0, h1⟩ := trod_struct2 Tryd.underlying39 h
  have hl : cs.length = 33 + 1 := hl.trans (by kernel_rfl)
  have c0 : Tryd.prog.cellsOf 36 = 33 := by kernel_rfl
  have c1 : Tryd.prog.cellsOf 37 = 1 := by kernel_rfl
  simp only [c0, c1, List.drop_zero] at h0 h1
  obtain ⟨tx, n, e0, l0, b0, n0, n1⟩ := pt_cells h0
  have hs : cs = ptC tx n ++ (cs.drop 33).take 1 := by rw [← e0]; exact cut_two hl
  rcases open_ints Tryd.underlying37 Tryd.underlying5 (by kernel_rfl) h1 with ⟨hcs, _⟩ | ⟨a, l, c, zs, hcs, _, hl', hm, hz, _, hcell, hwz⟩
  · refine ⟨(⟨tx, n, []⟩, .slice none 0 0), ?_, ⟨l0, b0, ⟨n0, n1⟩, AllB.nil⟩, Bytes.nil W⟩
    rw [hs, hcs]
    simp [ptC, inC]
  · rw [hsp] at hz
    obtain ⟨k, k1, k2⟩ := bytes_row hl' hm (by simpa using hz) hcell hwz
    refine ⟨(⟨tx, n, k⟩, .slice (some a) l c), ?_, ⟨l0, b0, ⟨n0, n1⟩, k2⟩, k1⟩
    rw [hs, hcs]
    simp [ptC, inC]
instance : Inhabited (TIn × Value) := ⟨⟨⟨[], 0, []⟩, undef⟩⟩
theorem ins_came {fuel : Nat} {cs : List Value} {x : DataW H × List MemPlace} (hsp : ∀ k, spare k = true) (h : DataW.trod enc Tryd.prog W base spare held fuel 23 cs = some x) : ∃ v L, cs = [v] ∧ InsAt W v L ∧ ∀ x ∈ L, InOk x := by
  rcases Go.Deep.open_slice Tryd.underlying23 h with ⟨rfl, -⟩ | ⟨a, len, cap, m, n, D, Pl, rfl, hb, hl, hm, hmm, -, hx⟩
  · exact ⟨_, [], rfl, InsAt.nil W, fun _ h => by cases h⟩
  · obtain ⟨L, h1, h2, h3⟩ := rows_came (C := inC) (Q := fun y : TIn × Value => InOk y.1 ∧ Bytes W y.2 y.1.key) (s := 34) (m := m) (fun y hy => inC_length hy.1.1) (by omega) (by kernel_rfl) hl hm (by rw [hmm]; split <;> omega) (fun i hi => by
      obtain ⟨cs', g1, g2⟩ := hx i hi
      obtain ⟨y, e, k1, k2⟩ := in_cells hsp g2
      exact ⟨cs', g1, y, e, k1, k2⟩)
    refine ⟨_, L.map Prod.fst, rfl, ⟨L, rfl, h1, fun y hy => (h3 y hy).2⟩, fun y hy => ?_⟩
    obtain ⟨z, hz, rfl⟩ := List.mem_map.1 hy
    exact (h3 z hz).1
theorem outs_came {fuel : Nat} {cs : List Value} {x : DataW H × List MemPlace} (h : DataW.trod enc Tryd.prog W base spare held fuel 24 cs = some x) : ∃ v L, cs = [v] ∧ OutsAt W v L ∧ ∀ x ∈ L, OutOk x := by
  rcases Go.Deep.open_slice Tryd.underlying24 h with ⟨rfl, -⟩ | ⟨a, len, cap, m, n, D, Pl, rfl, hb, hl, hm, hmm, -, hx⟩
  · exact ⟨_, [], rfl, OutsAt.nil W, fun _ h => by cases h⟩
  · obtain ⟨L, h1, h2, h3⟩ := rows_came (C := outC) (Q := OutOk) (s := 33) (m := m) (fun y hy => outC_length hy.2.1) (by omega) (by kernel_rfl) hl hm (by rw [hmm]; split <;> omega) (fun i hi => by
      obtain ⟨cs', g1, g2⟩ := hx i hi
      obtain ⟨y, e, k1⟩ := out_cells g2
      exact ⟨cs', g1, y, e, k1⟩)
    exact ⟨_, L, rfl, h1, h3⟩
set_option maxRecDepth 100000 in
/-- A transaction that came in. -/
theorem tx_came {r : Reach} {b0 : Nat} {v : Value} {d : DataW H} {p : List MemPlace} (hsp : ∀ k, spare k = true) (hv : Value.okWide Tryd.prog W r b0 26 v) (h : DataW.Trod enc Tryd.prog W base spare held 26 v d p) :
    ∃ (t : Tr) (iv ov : Value), v = .agg #[.int .u32 t.ver, iv, ov] ∧ TxAt W iv ov t ∧ TrOk t := by
  obtain ⟨v0, v1, v2, y0, y1, y2, n, rfl, -, -, h0, h1, h2⟩ := Joins.open_agg3 Tryd.underlying26 (by kernel_rfl) (by kernel_rfl) hv h
  obtain ⟨z, e0, -, w0⟩ := DataW.trod_int Tryd.underlying22 h0
  obtain ⟨iv, L, e1, k1, k2⟩ := ins_came hsp h1
  obtain ⟨ov, M, e2, m1, m2⟩ := outs_came h2
  obtain rfl : v0 = .int .u32 z := by simpa using e0
  obtain rfl : v1 = iv := by simpa using e1
  obtain rfl : v2 = ov := by simpa using e2
  exact ⟨⟨z, L, M⟩, _, _, rfl, ⟨k1, m1⟩, u32_of_wf w0, k2, m2⟩
end

end Go.Proofs.YtbeegcpmpgdbnaaDoor
