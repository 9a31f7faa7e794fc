/-
  Acts: in memory, and as they come in; what the law's great answers.
-/
import Derived.Test.YtkemdfikcmgaaaaCoCame
import Derived.Test.YtkemdfikcmgaaaaCoStep
import Derived.Test.YtkemdfikcmgaaaaLawKit
namespace Go.Proofs.Ytkemdfikcmgaaaa
open Go.ChangeShapes Go.WideShapes Go.ChangeAt Go.RowKit

structure Ac where
  kind : Int
  cs : List Cn
  ps : List Pt
  cv : Value
  pv : Value
def acC (a : Ac) : List Value := [.int .i64 a.kind, a.cv, a.pv]
theorem acC_length (a : Ac) : (acC a).length = 3 := rfl
def AcAt (w : World) (a : Ac) : Prop := CnsAt w a.cv a.cs ∧ PsAt w a.pv a.ps ∧ (∀ c ∈ a.cs, CnOk c) ∧ ∀ p ∈ a.ps, PtOk p
theorem AcAt.one {w : World} {a : Ac} (h : AcAt w a) : ∀ u ∈ acC a, u.oneCell' = true := by
  obtain ⟨x, c, e, -⟩ := h.1.form
  obtain ⟨y, d, e2, -⟩ := h.2.1.form
  intro u hu
  unfold acC at hu
  rw [e, e2] at hu
  simp only [List.mem_cons, List.not_mem_nil, or_false] at hu
  rcases hu with rfl | rfl | rfl <;> rfl
theorem AcAt.on {w w' : World} {a : Ac} (h : AcAt w a) (hb : Below w.heap.size w w') : AcAt w' a := ⟨h.1.on hb, h.2.1.on hb, h.2.2⟩
def AcsAt (w : World) (v : Value) (L : List Ac) : Prop := RowAt w 3 v (L.map acC) ∧ ∀ a ∈ L, AcAt w a
theorem AcsAt.on {w w' : World} {v : Value} {L : List Ac} (h : AcsAt w v L) (hb : Below w.heap.size w w') : AcsAt w' v L := ⟨h.1.on hb, fun a ha => (h.2 a ha).on hb⟩
theorem AcsAt.form {w : World} {v : Value} {L : List Ac} (h : AcsAt w v L) : ∃ a cap, v = .slice a L.length cap ∧ L.length ≤ cap ∧ cap ≤ 9223372036854775807 := by
  have := RowAt.form h.1
  simpa using this
theorem AcsAt.get {w : World} {a : Option Addr} {n cap : Nat} {L : List Ac} (h : AcsAt w (.slice a n cap) L) {k : Nat} {x : Ac} (hk : L[k]? = some x) : ∃ b off, a = some ⟨b, off, none⟩ ∧ w.rangeAt b (off + k * 3) (acC x) :=
  RowAt.get h.1 (by rw [List.getElem?_map, hk]; rfl)
instance : Inhabited Ac := ⟨⟨0, [], [], undef, undef⟩⟩
section
variable {H : Type} {enc : TypeId × Value → H} {W : World} {base : Nat} {spare : Nat → Bool} {held : Bool}
theorem ps_came {fuel : Nat} {cs : List Value} {x : DataW H × List MemPlace} (h : DataW.trod enc Try.prog W base spare held fuel 33 cs = some x) : ∃ v L, cs = [v] ∧ PsAt W v L ∧ ∀ x ∈ L, PtOk x := by
  rcases Go.Deep.open_slice Try.underlying33 h with ⟨rfl, -⟩ | ⟨a, len, cap, m, n, D, Pl, rfl, hb, hl, hm, hmm, -, hx⟩
  · exact ⟨_, [], rfl, RowAt.nil W 33, fun _ h => by cases h⟩
  · obtain ⟨L, h1, h2, h3⟩ := rows_came (C := pC) (Q := PtOk) (s := 33) (m := m) (fun y hy => pC_length hy) (by omega) (by kernel_rfl) hl hm (by rw [hmm]; split <;> omega) (fun i hi => by
      obtain ⟨cs', g1, g2⟩ := hx i hi
      obtain ⟨tx, n, e, l0, b0, n0, n1⟩ := pt_cells g2
      exact ⟨cs', g1, (tx, n), e, l0, b0, n0, n1⟩)
    exact ⟨_, L, rfl, h1, h3⟩
set_option maxRecDepth 100000 in
theorem ac_cells {fuel : Nat} {cs : List Value} {x : DataW H × List MemPlace} (h : DataW.trod enc Try.prog W base spare held fuel 35 cs = some x) : ∃ a : Ac, cs = acC a ∧ AcAt W a := by
  obtain ⟨y0, y1, y2, n, -, hl, h0, h1, h2⟩ := Go.Deep.trod_struct3 Try.underlying35 h
  have hl : cs.length = 3 := hl.trans (by kernel_rfl)
  have c0 : Try.prog.cellsOf 3 = 1 := by kernel_rfl
  have c1 : Try.prog.cellsOf 30 = 1 := by kernel_rfl
  have c2 : Try.prog.cellsOf 33 = 1 := by kernel_rfl
  match cs, hl with
  | [v0, v1, v2], _ =>
    simp only [c0, c1, c2] at h0 h1 h2
    obtain ⟨z, e0, -, w0⟩ := DataW.trod_int Try.underlying3 (show DataW.trod enc Try.prog W base spare held n 3 [v0] = some y0 from h0)
    obtain ⟨iv, L, e1, k1, k2⟩ := cns_came (show DataW.trod enc Try.prog W base spare held n 30 [v1] = some y1 from h1)
    obtain ⟨ov, M, e2, m1, m2⟩ := ps_came (show DataW.trod enc Try.prog W base spare held n 33 [v2] = some y2 from h2)
    obtain rfl : v0 = .int .i64 z := by simpa using e0
    obtain rfl : v1 = iv := by simpa using e1
    obtain rfl : v2 = ov := by simpa using e2
    exact ⟨⟨z, L, M, v1, v2⟩, rfl, k1, m1, k2, m2⟩
set_option maxRecDepth 100000 in
theorem acs_arg {r : Reach} {b0 : Nat} {v : Value} {d : DataW H} {p : List MemPlace} (hv : Value.okWide Try.prog W r b0 22 v) (h : DataW.Trod enc Try.prog W base spare held 22 v d p) : ∃ L, AcsAt W v L := by
  obtain ⟨b, len, cap, rfl⟩ := okWide_slice Try.underlying22 hv
  obtain ⟨fuel, hf⟩ := h
  rcases Go.Deep.open_slice Try.underlying22 hf with ⟨hcs, -⟩ | ⟨a, len', cap', m, n, D, Pl, hcs, hb, hl, hm, hmm, -, hx⟩
  · simp [Value.cells] at hcs
    obtain ⟨rfl, rfl, rfl⟩ := hcs
    exact ⟨[], RowAt.nil W 3, fun _ h => by cases h⟩
  · simp [Value.cells] at hcs
    obtain ⟨rfl, rfl, rfl⟩ := hcs
    obtain ⟨L, h1, -, h3⟩ := rows_came (C := acC) (Q := AcAt W) (s := 3) (m := m) (fun y _ => acC_length y) (by omega) (by kernel_rfl) hl hm (by rw [hmm]; split <;> omega) (fun i hi => by
      obtain ⟨cs', g1, g2⟩ := hx i hi
      obtain ⟨y, e, k1⟩ := ac_cells g2
      exact ⟨cs', g1, y, e, k1⟩)
    exact ⟨L, h1, h3⟩
end
/-- How much is asked. -/
def wtA (a : Ac) : Nat := a.cs.length + a.ps.length
def wtL : List Ac → Nat
  | [] => 0
  | a :: L => wtA a + wtL L
theorem wtL_app : ∀ (L M : List Ac), wtL (L ++ M) = wtL L + wtL M
  | [], M => by simp [wtL]
  | a :: L, M => by
    have := wtL_app L M
    simp only [List.cons_append, wtL]
    omega
theorem wtL_next {L : List Ac} {j : Nat} {x : Ac} (hx : L[j]? = some x) : wtL (L.take (j + 1)) = wtL (L.take j) + wtA x := by
  obtain ⟨h1, h2⟩ := List.getElem?_eq_some_iff.1 hx
  rw [List.take_succ_eq_append_getElem h1, h2, wtL_app]
  simp [wtL]
theorem wtL_le (L : List Ac) (j : Nat) : wtL (L.take j) ≤ wtL L := by
  have h := wtL_app (L.take j) (L.drop j)
  rw [List.take_append_drop] at h
  omega
theorem info_ac : (Try.prog.info? 35).map (·.size) = some 3 := by kernel_rfl
theorem ac_there (w : World) : (w.alloc (.cells #[.int .i64 0, .slice none 0 0, .slice none 0 0] 35)).there w.heap.size 0 3 := there_new w _ _
def GrEnd (L : List Ac) (e : Ending) : Prop := ∃ r, e = .returned (.bool r) ∧ (r = false → L.length ≤ 60 ∧ wtL L ≤ 500)
theorem GrEnd.yes (L : List Ac) : GrEnd L (.returned (.bool true)) := ⟨true, rfl, fun e => by cases e⟩
theorem GrEnd.no {L : List Ac} (h : L.length ≤ 60 ∧ wtL L ≤ 500) : GrEnd L (.returned (.bool false)) := ⟨false, rfl, fun _ => h⟩
/-- So far. -/
def GrI (w : World) (L : List Ac) (n i : Value) (wr : World) : Prop := ∃ j : Nat, j ≤ L.length ∧ i = .int .i64 j ∧ Below w.heap.size w wr ∧ wtL (L.take j) ≤ 500 ∧ n = .int .i64 (wtL (L.take j) : Nat)
set_option maxRecDepth 100000 in
set_option maxHeartbeats 1000000 in
theorem great9_any (L : List Ac) (v : Value) (w : World) (h : AcsAt w v L) :
    Calls Try.prog 10 #[v] w fun e w' => GrEnd L e ∧ Below w.heap.size w w' := by
  have HV := hide h
  obtain ⟨a, cap, rfl, hc1, hc2⟩ := h.form
  clear h
  by_cases h60 : (60 : Int) < (L.length : Int)
  · go_enter Try.func10, Try.ntmps10
    go_wp2
    go_ret
    exact ⟨GrEnd.yes L, Below.refl _ _⟩
  have HS0 : Hid (GrI w L (.int .i64 0) (.int .i64 0) w) := hide ⟨0, Nat.zero_le _, rfl, Below.refl _ _, by simp [wtL], by simp [wtL]⟩
  have H60 : Hid (L.length ≤ 60) := hide (by omega)
  go_enter Try.func10, Try.ntmps10
  go_wp2_with fail
  go_loopw [3, 11] (fun n i wr => GrI w L n i wr) (fun _ i _ => L.length - (intOf i).toNat)
  case atStart => exact HS0.out
  case round =>
    clear HS0
    obtain ⟨j, hj, rfl, hB, hw5, rfl⟩ := hrel
    have HBJ := hide hB
    have HW5 := hide hw5
    by_cases hlt : j < L.length
    · obtain ⟨x, hx⟩ : ∃ x, L[j]? = some x := ⟨_, List.getElem?_eq_getElem hlt⟩
      obtain ⟨b2, off2, rfl, hr⟩ := (HV.out.on hB).get hx
      have hxa := HV.out.2 x (List.mem_of_getElem? hx)
      have HXR := hide hr
      have HX := hide hx
      have H1 := hide hxa.one
      have HT : Hid (∀ w : World, (w.alloc (.cells #[.int .i64 0, .slice none 0 0, .slice none 0 0] 35)).there w.heap.size 0 (acC x).length) := hide ac_there
      have HN1 : Hid ((Try.prog.info? 35).map (·.size) = some (acC x).length) := hide info_ac
      have hk1 : (j : Int) < (L.length : Int) := by omega
      obtain ⟨xa, xc, hxv, -, -⟩ := hxa.1.form
      obtain ⟨ya, yc, hyv, -, -⟩ := hxa.2.1.form
      have HXV := hide hxv
      have HYV := hide hyv
      clear hr hx hB hxa hxv hyv
      go_upto_region 7 with (first | (refine wpList_load_mid rfl 35 (.tmp 13) rfl b2 (off2 + j * 3) rfl (acC x) _ HXR.out Try.underlying35 rfl HN1.out ?_) | (refine wp_store_row rfl 35 (.tmp 5) (.tmp 14) rfl wr.heap.size 0 (acC x) rfl rfl (HT.out wr) HN1.out H1.out ?_))
      have hW : ((wr.alloc (.cells #[.int .i64 0, .slice none 0 0, .slice none 0 0] 35)).setCells wr.heap.size 0 (acC x)).rangeAt wr.heap.size 0 (acC x) := World.rangeAt_setCells_same _ _ _ _ (HT.out wr)
      have hB2 : Below wr.heap.size wr ((wr.alloc (.cells #[.int .i64 0, .slice none 0 0, .slice none 0 0] 35)).setCells wr.heap.size 0 (acC x)) := below_sets (Nat.le_refl _) _ _ _ (below_new wr _)
      generalize (wr.alloc (.cells #[.int .i64 0, .slice none 0 0, .slice none 0 0] 35)).setCells wr.heap.size 0 (acC x) = W at *
      have c1 : W.cell? ⟨wr.heap.size, 1, none⟩ = some (.slice xa x.cs.length xc) := by rw [← HXV.out]; exact hW 1 x.cv rfl
      have c2 : W.cell? ⟨wr.heap.size, 2, none⟩ = some (.slice ya x.ps.length yc) := by rw [← HYV.out]; exact hW 2 x.pv rfl
      have HB2 := hide (below_on HBJ.out hB2)
      clear hW hB2 HXR H1 HT HBJ
      generalize wr.heap.size = gb at *
      generalize acC x = K at *
      have hnx := wtL_next HX.out
      have hwx : wtA x = x.cs.length + x.ps.length := rfl
      go_upto_region 8 with fail
      obtain ⟨N, hN⟩ : ∃ N : Int, N = (wtL (List.take j L) : Int) + ((if (501 : Int) < (x.cs.length : Int) then (501 : Int) else (x.cs.length : Int)) + if (501 : Int) < (x.ps.length : Int) then (501 : Int) else (x.ps.length : Int)) := ⟨_, rfl⟩
      rw [← hN]
      have e1 : N ≤ 500 → N = ((wtL (L.take (j + 1)) : Nat) : Int) := fun h => by
        rw [hnx, hwx]
        rw [hN] at h ⊢
        split at h <;> split at h <;> omega
      have HE1 := hide e1
      clear hN e1 hnx hwx
      generalize (if (501 : Int) < (x.cs.length : Int) then (501 : Int) else (x.cs.length : Int)) = m1 at *
      generalize (if (501 : Int) < (x.ps.length : Int) then (501 : Int) else (x.ps.length : Int)) = m2 at *
      by_cases hgt : 500 < N
      · clear hw5 c1 c2
        go_wp2
        go_ret
        exact ⟨GrEnd.yes L, HB2.out⟩
      · have hle : N ≤ 500 := by omega
        have e1 := HE1.out hle
        have R : Hid (GrI w L (.int .i64 N) (.int .i64 ((j + 1 : Nat) : Int)) W) := hide ⟨j + 1, by omega, rfl, HB2.out, by omega, by rw [e1]⟩
        clear hw5 c1 c2 e1 hgt
        go_wp2
        go_roundw
        case rel => first | exact R.out | ((repeat apply Exists.intro); exact ⟨R.out, rfl⟩)
        case measure => simp [intOf]; omega
    · have hk2 : (L.length : Int) ≤ (j : Int) := by omega
      rw [List.take_of_length_le (by omega)] at hw5
      have R : Hid (L.length ≤ 60 ∧ wtL L ≤ 500) := hide ⟨H60.out, hw5⟩
      clear hw5 hB
      go_wp2
      go_ret
      exact ⟨GrEnd.no R.out, HBJ.out⟩

end Go.Proofs.Ytkemdfikcmgaaaa
