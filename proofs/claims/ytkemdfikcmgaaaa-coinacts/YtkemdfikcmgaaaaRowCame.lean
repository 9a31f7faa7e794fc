/-
  Points, outputs and rows of structs that come in. Nothing here speaks of one function.
-/
import Derived.Test.YtkemdfikcmgaaaaLawKit
import Derived.Test.YtkemdfikcmgaaaaTxEql
import Derived.Test.YtkemdfikcmgaaaaCame
import Derived.Deep.Strs
namespace Go.Proofs.Ytkemdfikcmgaaaa
open Go.ChangeShapes Go.WideShapes Go.ChangeAt Go.RowKit

theorem cut_two {α : Type} {l : List α} {a b : Nat} (h : l.length = a + b) : l = l.take a ++ (l.drop a).take b := by
  rw [List.take_of_length_le (l := l.drop a) (by simp; omega), List.take_append_drop]
section
variable {H : Type} {enc : TypeId × Value → H} {W : World} {base : Nat} {spare : Nat → Bool} {held : Bool}
theorem hash_cells {fuel : Nat} {cs : List Value} {x : DataW H × List MemPlace} (h : DataW.trod enc Try.prog W base spare held fuel 44 cs = some x) : ∃ l : List Int, cs = vals .u8 l ∧ l.length = 32 ∧ AllB l := by
  obtain ⟨zs, h1, h2, h3⟩ := trod_nums Try.underlying44 Try.underlying5 (by kernel_rfl) (by kernel_rfl) h
  exact ⟨zs, h1, h2, fun z hz => byte_of_wf (h3 z hz)⟩
theorem pt_cells {fuel : Nat} {cs : List Value} {x : DataW H × List MemPlace} (h : DataW.trod enc Try.prog W base spare held fuel 47 cs = some x) : ∃ (tx : List Int) (n : Int), cs = ptC tx n ∧ tx.length = 32 ∧ AllB tx ∧ 0 ≤ n ∧ n < 4294967296 := by
  obtain ⟨y0, y1, m, -, hl, h0, h1⟩ := trod_struct2 Try.underlying47 h
  have hl : cs.length = 32 + 1 := hl.trans (by kernel_rfl)
  have c0 : Try.prog.cellsOf 44 = 32 := by kernel_rfl
  have c1 : Try.prog.cellsOf 45 = 1 := by kernel_rfl
  simp only [c0, c1, List.drop_zero] at h0 h1
  obtain ⟨tx, e0, l0, b0⟩ := hash_cells h0
  obtain ⟨n, e1, -, w1⟩ := DataW.trod_int Try.underlying45 h1
  have hn := u32_of_wf w1
  refine ⟨tx, n, ?_, l0, b0, hn.1, hn.2⟩
  rw [cut_two hl, e0, e1]
  rfl
theorem out_cells {fuel : Nat} {cs : List Value} {x : DataW H × List MemPlace} (h : DataW.trod enc Try.prog W base spare held fuel 50 cs = some x) : ∃ y : TOut, cs = outC y ∧ OutOk y := by
  obtain ⟨y0, y1, m, -, hl, h0, h1⟩ := trod_struct2 Try.underlying50 h
  have hl : cs.length = 1 + 32 := hl.trans (by kernel_rfl)
  have c0 : Try.prog.cellsOf 44 = 32 := by kernel_rfl
  have c1 : Try.prog.cellsOf 48 = 1 := by kernel_rfl
  simp only [c0, c1, List.drop_zero] at h0 h1
  obtain ⟨lk, e1, l1, b1⟩ := hash_cells h1
  obtain ⟨n, e0, -, w0⟩ := DataW.trod_int Try.underlying48 h0
  refine ⟨⟨n, lk⟩, ?_, word_of_wf w0, l1, b1⟩
  rw [cut_two hl, e0, e1]
  rfl
instance : Inhabited TOut := ⟨⟨0, []⟩⟩
/-- Rows of structs that came in. -/
theorem rows_came {α : Type} [Inhabited α] {e : TypeId} {s : Nat} {a : Addr} {len cap m : Nat} {C : α → List Value} {Q : α → Prop} (hC : ∀ x, Q x → (C x).length = s) (hs : 0 < s) (ce : Try.prog.cellsOf e = s) (hl : len ≤ cap) (hm : cap ≤ maxLen) (hlm : len ≤ m)
    (h : ∀ i, i < m → ∃ cs, W.cells? base (a.add (i * Try.prog.cellsOf e)) (Try.prog.cellsOf e) = some cs ∧ ∃ x, cs = C x ∧ Q x) :
    ∃ L : List α, RowAt W s (.slice (some a) len cap) (L.map C) ∧ L.length = len ∧ ∀ x ∈ L, Q x := by
  obtain ⟨f, hf⟩ := Go.Deep.choose_lt (p := fun i x => ∃ cs, W.cells? base (a.add (i * Try.prog.cellsOf e)) (Try.prog.cellsOf e) = some cs ∧ cs = C x ∧ Q x) (n := len) (fun i hi => by
    obtain ⟨cs, h1, x, h2, h3⟩ := h i (by omega)
    exact ⟨x, cs, h1, h2, h3⟩)
  refine ⟨(List.range len).map f, ⟨some a, cap, by simp, by simpa using hl, by simpa [maxLen] using hm, by simp, fun hp => ?_⟩, by simp, fun x hx => ?_⟩
  · have hpos : 0 < len := by simpa using hp
    obtain ⟨b, off, spot⟩ := a
    obtain ⟨cs, h1, h2, h3⟩ := hf 0 hpos
    obtain ⟨-, hlen, hcell⟩ := World.cells?_some h1
    have hspot : spot = none := by
      have h0 := hcell 0 (by rw [ce]; exact hs)
      rw [List.getElem?_eq_getElem (by rw [hlen, ce]; exact hs)] at h0
      simpa [Addr.add] using World.cell?_spot h0
    subst hspot
    refine ⟨b, off, rfl, fun i c hi => ?_⟩
    have hi' : i < len := by
      have := (List.getElem?_eq_some_iff.1 hi).1
      simpa using this
    obtain ⟨cs, h1, h2, h3⟩ := hf i hi'
    obtain ⟨-, hlen, hcell⟩ := World.cells?_some h1
    have hc : c = C (f i) := by
      have := hi
      simp [hi'] at this
      exact this.symm
    rw [ce] at hlen hcell
    intro j v hv
    have hj : j < s := by
      have := (List.getElem?_eq_some_iff.1 hv).1
      rw [hc, hC _ h3] at this
      exact this
    have := hcell j hj
    rw [h2, ← hc, hv] at this
    rw [add_plain, add_plain] at this
    exact this
  · obtain ⟨i, hi, rfl⟩ := List.mem_map.1 hx
    exact (hf i (by simpa using hi)).elim fun _ h => h.2.2
end

end Go.Proofs.Ytkemdfikcmgaaaa
