/-
  A transaction that comes in. Nothing here speaks of one function.
-/
import Derived.Test.YtjmifgdjmaelfaaDoorLawKit
import Derived.Test.YtjmifgdjmaelfaaDoorTxEql
import Derived.Test.YtjmifgdjmaelfaaDoorTxGt
import Derived.Test.YtjmifgdjmaelfaaDoorCame
import Derived.Deep.Strs
namespace Go.Proofs.YtjmifgdjmaelfaaDoor
open Go.ChangeShapes Go.WideShapes Go.ChangeAt Go.RowKit

theorem cut_two {α : Type} {l : List α} {a b : Nat} (h : l.length = a + b) : l = l.take a ++ (l.drop a).take b := by
  rw [List.take_of_length_le (l := l.drop a) (by simp; omega), List.take_append_drop]
section
variable {H : Type} {enc : TypeId × Value → H} {W : World} {base : Nat} {spare : Nat → Bool} {held : Bool}
theorem hash_cells {fuel : Nat} {cs : List Value} {x : DataW H × List MemPlace} (h : DataW.trod enc Tryd.prog W base spare held fuel 36 cs = some x) : ∃ l : List Int, cs = vals .u8 l ∧ l.length = 32 ∧ AllB l := by
  obtain ⟨zs, h1, h2, h3⟩ := trod_nums Tryd.underlying36 Tryd.underlying5 (by kernel_rfl) (by kernel_rfl) h
  exact ⟨zs, h1, h2, fun z hz => byte_of_wf (h3 z hz)⟩
theorem pt_cells {fuel : Nat} {cs : List Value} {x : DataW H × List MemPlace} (h : DataW.trod enc Tryd.prog W base spare held fuel 45 cs = some x) : ∃ (tx : List Int) (n : Int), cs = ptC tx n ∧ tx.length = 32 ∧ AllB tx ∧ 0 ≤ n ∧ n < 4294967296 := by
  obtain ⟨y0, y1, m, -, hl, h0, h1⟩ := trod_struct2 Tryd.underlying45 h
  have hl : cs.length = 32 + 1 := hl.trans (by kernel_rfl)
  have c0 : Tryd.prog.cellsOf 36 = 32 := by kernel_rfl
  have c1 : Tryd.prog.cellsOf 22 = 1 := by kernel_rfl
  simp only [c0, c1, List.drop_zero] at h0 h1
  obtain ⟨tx, e0, l0, b0⟩ := hash_cells h0
  obtain ⟨n, e1, -, w1⟩ := DataW.trod_int Tryd.underlying22 h1
  have hn := u32_of_wf w1
  refine ⟨tx, n, ?_, l0, b0, hn.1, hn.2⟩
  rw [cut_two hl, e0, e1]
  rfl
theorem in_cells {fuel : Nat} {cs : List Value} {x : DataW H × List MemPlace} (hsp : ∀ k, spare k = true) (h : DataW.trod enc Tryd.prog W base spare held fuel 64 cs = some x) : ∃ y : TIn × Value, cs = inC y ∧ InOk y.1 ∧ Bytes W y.2 y.1.key := by
  obtain ⟨y0, y1, m, -, hl, h0, h1⟩ := trod_struct2 Tryd.underlying64 h
  have hl : cs.length = 33 + 1 := hl.trans (by kernel_rfl)
  have c0 : Tryd.prog.cellsOf 45 = 33 := by kernel_rfl
  have c1 : Tryd.prog.cellsOf 29 = 1 := by kernel_rfl
  simp only [c0, c1, List.drop_zero] at h0 h1
  obtain ⟨tx, n, e0, l0, b0, n0, n1⟩ := pt_cells h0
  have hs : cs = ptC tx n ++ (cs.drop 33).take 1 := by rw [← e0]; exact cut_two hl
  rcases open_ints Tryd.underlying29 Tryd.underlying5 (by kernel_rfl) h1 with ⟨hcs, _⟩ | ⟨a, l, c, zs, hcs, _, hl', hm, hz, _, hcell, hwz⟩
  · refine ⟨(⟨tx, n, []⟩, .slice none 0 0), ?_, ⟨l0, b0, ⟨n0, n1⟩, AllB.nil⟩, Bytes.nil W⟩
    rw [hs, hcs]
    simp [ptC, inC]
  · rw [hsp] at hz
    obtain ⟨k, k1, k2⟩ := bytes_row hl' hm (by simpa using hz) hcell hwz
    refine ⟨(⟨tx, n, k⟩, .slice (some a) l c), ?_, ⟨l0, b0, ⟨n0, n1⟩, k2⟩, k1⟩
    rw [hs, hcs]
    simp [ptC, inC]
theorem out_cells {fuel : Nat} {cs : List Value} {x : DataW H × List MemPlace} (h : DataW.trod enc Tryd.prog W base spare held fuel 66 cs = some x) : ∃ y : TOut, cs = outC y ∧ OutOk y := by
  obtain ⟨y0, y1, m, -, hl, h0, h1⟩ := trod_struct2 Tryd.underlying66 h
  have hl : cs.length = 1 + 32 := hl.trans (by kernel_rfl)
  have c0 : Tryd.prog.cellsOf 36 = 32 := by kernel_rfl
  have c1 : Tryd.prog.cellsOf 48 = 1 := by kernel_rfl
  simp only [c0, c1, List.drop_zero] at h0 h1
  obtain ⟨lk, e1, l1, b1⟩ := hash_cells h1
  obtain ⟨n, e0, -, w0⟩ := DataW.trod_int Tryd.underlying48 h0
  refine ⟨⟨n, lk⟩, ?_, word_of_wf w0, l1, b1⟩
  rw [cut_two hl, e0, e1]
  rfl
instance : Inhabited TOut := ⟨⟨0, []⟩⟩
instance : Inhabited (TIn × Value) := ⟨⟨⟨[], 0, []⟩, undef⟩⟩
/-- Rows of structs that came in. -/
theorem rows_came {α : Type} [Inhabited α] {e : TypeId} {s : Nat} {a : Addr} {len cap m : Nat} {C : α → List Value} {Q : α → Prop} (hC : ∀ x, Q x → (C x).length = s) (hs : 0 < s) (ce : Tryd.prog.cellsOf e = s) (hl : len ≤ cap) (hm : cap ≤ maxLen) (hlm : len ≤ m)
    (h : ∀ i, i < m → ∃ cs, W.cells? base (a.add (i * Tryd.prog.cellsOf e)) (Tryd.prog.cellsOf e) = some cs ∧ ∃ x, cs = C x ∧ Q x) :
    ∃ L : List α, RowAt W s (.slice (some a) len cap) (L.map C) ∧ L.length = len ∧ ∀ x ∈ L, Q x := by
  obtain ⟨f, hf⟩ := Go.Deep.choose_lt (p := fun i x => ∃ cs, W.cells? base (a.add (i * Tryd.prog.cellsOf e)) (Tryd.prog.cellsOf e) = some cs ∧ cs = C x ∧ Q x) (n := len) (fun i hi => by
    obtain ⟨cs, h1, x, h2, h3⟩ := h i (by omega)
    exact ⟨x, cs, h1, h2, h3⟩)
  refine ⟨(List.range len).map f, ⟨some a, cap, by simp, by simpa using hl, by simpa [maxLen] using hm, by simp, fun hp => ?_⟩, by simp, fun x hx => ?_⟩
  · have hpos : 0 < len := by simpa using hp
    obtain ⟨b, off, spot⟩ := a
    obtain ⟨cs, h1, h2, h3⟩ := hf 0 hpos
    obtain ⟨-, hlen, hcell⟩ := World.cells?_some h1
    have hspot : spot = none := by
      have h0 := hcell 0 (by rw [ce]; exact hs)
      rw [List.getElem?_eq_getElem (by rw [hlen, ce]; exact hs)] at h0
      simpa [Addr.add] using World.cell?_spot h0
    subst hspot
    refine ⟨b, off, rfl, fun i c hi => ?_⟩
    have hi' : i < len := by
      have := (List.getElem?_eq_some_iff.1 hi).1
      simpa using this
    obtain ⟨cs, h1, h2, h3⟩ := hf i hi'
    obtain ⟨-, hlen, hcell⟩ := World.cells?_some h1
    have hc : c = C (f i) := by
      have := hi
      simp [hi'] at this
      exact this.symm
    rw [ce] at hlen hcell
    intro j v hv
    have hj : j < s := by
      have := (List.getElem?_eq_some_iff.1 hv).1
      rw [hc, hC _ h3] at this
      exact this
    have := hcell j hj
    rw [h2, ← hc, hv] at this
    rw [add_plain, add_plain] at this
    exact this
  · obtain ⟨i, hi, rfl⟩ := List.mem_map.1 hx
    exact (hf i (by simpa using hi)).elim fun _ h => h.2.2
theorem ins_came {fuel : Nat} {cs : List Value} {x : DataW H × List MemPlace} (hsp : ∀ k, spare k = true) (h : DataW.trod enc Tryd.prog W base spare held fuel 23 cs = some x) : ∃ v L, cs = [v] ∧ InsAt W v L ∧ ∀ x ∈ L, InOk x := by
  rcases Go.Deep.open_slice Tryd.underlying23 h with ⟨rfl, -⟩ | ⟨a, len, cap, m, n, D, Pl, rfl, hb, hl, hm, hmm, -, hx⟩
  · exact ⟨_, [], rfl, InsAt.nil W, fun _ h => by cases h⟩
  · obtain ⟨L, h1, h2, h3⟩ := rows_came (C := inC) (Q := fun y : TIn × Value => InOk y.1 ∧ Bytes W y.2 y.1.key) (s := 34) (m := m) (fun y hy => inC_length hy.1.1) (by omega) (by kernel_rfl) hl hm (by rw [hmm]; split <;> omega) (fun i hi => by
      obtain ⟨cs', g1, g2⟩ := hx i hi
      obtain ⟨y, e, k1, k2⟩ := in_cells hsp g2
      exact ⟨cs', g1, y, e, k1, k2⟩)
    refine ⟨_, L.map Prod.fst, rfl, ⟨L, rfl, h1, fun y hy => (h3 y hy).2⟩, fun y hy => ?_⟩
    obtain ⟨z, hz, rfl⟩ := List.mem_map.1 hy
    exact (h3 z hz).1
theorem outs_came {fuel : Nat} {cs : List Value} {x : DataW H × List MemPlace} (h : DataW.trod enc Tryd.prog W base spare held fuel 24 cs = some x) : ∃ v L, cs = [v] ∧ OutsAt W v L ∧ ∀ x ∈ L, OutOk x := by
  rcases Go.Deep.open_slice Tryd.underlying24 h with ⟨rfl, -⟩ | ⟨a, len, cap, m, n, D, Pl, rfl, hb, hl, hm, hmm, -, hx⟩
  · exact ⟨_, [], rfl, OutsAt.nil W, fun _ h => by cases h⟩
  · obtain ⟨L, h1, h2, h3⟩ := rows_came (C := outC) (Q := OutOk) (s := 33) (m := m) (fun y hy => outC_length hy.2.1) (by omega) (by kernel_rfl) hl hm (by rw [hmm]; split <;> omega) (fun i hi => by
      obtain ⟨cs', g1, g2⟩ := hx i hi
      obtain ⟨y, e, k1⟩ := out_cells g2
      exact ⟨cs', g1, y, e, k1⟩)
    exact ⟨_, L, rfl, h1, h3⟩
set_option maxRecDepth 100000 in
/-- A transaction that came in. -/
theorem tx_came {r : Reach} {b0 : Nat} {v : Value} {d : DataW H} {p : List MemPlace} (hsp : ∀ k, spare k = true) (hv : Value.okWide Tryd.prog W r b0 26 v) (h : DataW.Trod enc Tryd.prog W base spare held 26 v d p) :
    ∃ (t : Tr) (iv ov : Value), v = .agg #[.int .u32 t.ver, iv, ov] ∧ TxAt W iv ov t ∧ TrOk t := by
  obtain ⟨v0, v1, v2, y0, y1, y2, n, rfl, -, -, h0, h1, h2⟩ := Joins.open_agg3 Tryd.underlying26 (by kernel_rfl) (by kernel_rfl) hv h
  obtain ⟨z, e0, -, w0⟩ := DataW.trod_int Tryd.underlying22 h0
  obtain ⟨iv, L, e1, k1, k2⟩ := ins_came hsp h1
  obtain ⟨ov, M, e2, m1, m2⟩ := outs_came h2
  obtain rfl : v0 = .int .u32 z := by simpa using e0
  obtain rfl : v1 = iv := by simpa using e1
  obtain rfl : v2 = ov := by simpa using e2
  exact ⟨⟨z, L, M⟩, _, _, rfl, ⟨k1, m1⟩, u32_of_wf w0, k2, m2⟩
end

end Go.Proofs.YtjmifgdjmaelfaaDoor
