/-
  What the document's add does at this program: a coin that is not there, at its place.
-/
import Derived.Test.YtkemdfikcmgaaaaRefCoBelow
import Derived.Test.YtkemdfikcmgaaaaCoDoc
namespace Go.Proofs.Ytkemdfikcmgaaaa
open Go.RowKit

/-- So far: the coin is not in yet, or it is. -/
def AddP (D : List Cn) (c : Cn) (j : Nat) (d : Bool) (R : List Cn) : Prop :=
  (d = false ∧ R = D.take j ∧ ∀ y ∈ R, cmpPt y.pt c.pt < 0) ∨ (d = true ∧ R.Perm (c :: D.take j) ∧ SortC R ∧ ∀ y ∈ R, ∀ z ∈ D.drop j, cmpPt y.pt z.pt < 0)
theorem sort_snoc {R : List Cn} {x : Cn} (h : SortC R) (hx : ∀ y ∈ R, cmpPt y.pt x.pt < 0) : SortC (R ++ [x]) := by
  refine List.pairwise_append.2 ⟨h, List.pairwise_singleton _ _, fun a ha b hb => ?_⟩
  rw [List.mem_singleton.1 hb]
  exact hx a ha
theorem cns_snoc {D : List Cn} {j : Nat} {x : Cn} (hx : D[j]? = some x) : D.take (j + 1) = D.take j ++ [x] := by
  obtain ⟨h1, h2⟩ := List.getElem?_eq_some_iff.1 hx
  rw [List.take_succ_eq_append_getElem h1, h2]
theorem drop_cons {D : List Cn} {j : Nat} {x : Cn} (hx : D[j]? = some x) : D.drop j = x :: D.drop (j + 1) := by
  obtain ⟨h1, h2⟩ := List.getElem?_eq_some_iff.1 hx
  rw [List.drop_eq_getElem_cons h1, h2]
theorem sort_take {D : List Cn} (h : SortC D) (j : Nat) : SortC (D.take j) := h.sublist (List.take_sublist _ _)
theorem sort_split {D : List Cn} (h : SortC D) (j : Nat) : ∀ y ∈ D.take j, ∀ z ∈ D.drop j, cmpPt y.pt z.pt < 0 := by
  have h1 : SortC (D.take j ++ D.drop j) := by rw [List.take_append_drop]; exact h
  exact (List.pairwise_append.1 h1).2.2
theorem AddP.in {D : List Cn} {c x : Cn} {j : Nat} {R : List Cn} (hs : SortC D) (h : AddP D c j false R) (hx : D[j]? = some x) (hb : cmpPt c.pt x.pt < 0) : AddP D c (j + 1) true ((R ++ [c]) ++ [x]) := by
  rcases h with ⟨-, rfl, h2⟩ | ⟨h1, -⟩
  · have hd := drop_cons hx
    have hsp := sort_split hs j
    rw [hd] at hsp
    have hxz : ∀ z ∈ D.drop (j + 1), cmpPt x.pt z.pt < 0 := by
      have h3 : SortC (D.drop j) := hs.sublist (List.drop_sublist _ _)
      rw [hd] at h3
      exact (List.pairwise_cons.1 h3).1
    refine Or.inr ⟨rfl, ?_, ?_, ?_⟩
    · rw [cns_snoc hx, List.append_assoc]
      exact List.perm_middle
    · refine sort_snoc (sort_snoc (sort_take hs j) h2) fun y hy => ?_
      rcases List.mem_append.1 hy with h3 | h3
      · exact hsp y h3 x (by simp)
      · rw [List.mem_singleton.1 h3]; exact hb
    · intro y hy z hz
      rcases List.mem_append.1 hy with h3 | h3
      · rcases List.mem_append.1 h3 with h4 | h4
        · exact hsp y h4 z (by simp [hz])
        · rw [List.mem_singleton.1 h4]; exact cmpPt_trans hb (hxz z hz)
      · rw [List.mem_singleton.1 h3]; exact hxz z hz
  · cases h1
theorem AddP.no {D : List Cn} {c x : Cn} {j : Nat} {R : List Cn} (h : AddP D c j false R) (hx : D[j]? = some x) (hb : ¬ cmpPt c.pt x.pt < 0) (hn : c.pt ∉ D.map Cn.pt) : AddP D c (j + 1) false (R ++ [x]) := by
  rcases h with ⟨-, rfl, h2⟩ | ⟨h1, -⟩
  · refine Or.inl ⟨rfl, (cns_snoc hx).symm, fun y hy => ?_⟩
    rcases List.mem_append.1 hy with h3 | h3
    · exact h2 y h3
    · rw [List.mem_singleton.1 h3]
      have hne : c.pt ≠ x.pt := fun e => hn (by rw [e]; exact mem_pt (List.mem_of_getElem? hx))
      rcases cmpPt_ne hne with h4 | h4
      · exact absurd h4 hb
      · exact h4
  · cases h1
theorem AddP.go {D : List Cn} {c x : Cn} {j : Nat} {R : List Cn} (hs : SortC D) (h : AddP D c j true R) (hx : D[j]? = some x) : AddP D c (j + 1) true (R ++ [x]) := by
  rcases h with ⟨h1, -⟩ | ⟨-, h2, h3, h4⟩
  · cases h1
  · have hd := drop_cons hx
    rw [hd] at h4
    have hxz : ∀ y ∈ R, cmpPt y.pt x.pt < 0 := fun y hy => h4 y hy x (by simp)
    refine Or.inr ⟨rfl, ?_, sort_snoc h3 hxz, fun y hy z hz => ?_⟩
    · rw [cns_snoc hx, ← List.cons_append]
      exact h2.append_right [x]
    · rcases List.mem_append.1 hy with h5 | h5
      · exact h4 y h5 z (by simp [hz])
      · rw [List.mem_singleton.1 h5]
        have h6 : SortC (D.drop j) := hs.sublist (List.drop_sublist _ _)
        rw [hd] at h6
        exact (List.pairwise_cons.1 h6).1 z hz
/-- The rows so far. -/
def RAdd (w : World) (D : List Cn) (c : Cn) (v dn i : Value) (wr : World) : Prop := ∃ j : Nat, j ≤ D.length ∧ i = .int .i64 j ∧ Below w.heap.size w wr ∧ ∃ (d : Bool) (R : List Cn), dn = .bool d ∧ AddP D c j d R ∧ R.length ≤ j + 1 ∧ RowOwn wr w.heap.size 59 66 v (R.map cnC)
theorem doc_stored {W : World} {m base : Nat} {v x : Value} {R : List Cn} (hx : W.cell? ⟨m, 0, none⟩ = some x) (hf : W.frozen? ⟨m, 0, none⟩ = false) (hm : m < base) (hrow : RowOwn W base 59 66 v (R.map cnC)) (hok : ∀ d ∈ R, CnOk d) :
    DocAt (W.setCell ⟨m, 0, none⟩ v) (fun g => base ≤ g) m R := by
  refine ⟨v, World.cell?_setCell_same _ _ _ hx, by rw [World.frozen?_setCell]; exact hf, ?_, fun g hg => ?_, hok⟩
  · exact (hrow.move (w1 := W.setCell ⟨m, 0, none⟩ v) fun g hg _ => Below.heap_setCell _ _ _ _ (by show g ≠ m; omega)).row
  · have h := hrow.lt g hg
    exact ⟨by omega, h.1, by rw [World.size_setCell]; exact h.2⟩
set_option maxRecDepth 100000 in
set_option maxHeartbeats 1000000 in
theorem radd_any (w : World) (A : Nat → Prop) (m : Nat) (D : List Cn) (c : Cn) (h : DocAt w A m D) (hs : SortC D) (hc : CnOk c) (hn : c.pt ∉ D.map Cn.pt) (hlen : D.length ≤ 5000) :
    Calls Try.prog 31 #[.pointer (some ⟨m, 0, none⟩), .agg (cnC c).toArray] w fun e w' => e = .returned (.tuple #[]) ∧ ∃ D' : List Cn, D'.Perm (c :: D) ∧ SortC D' ∧ DocAt w' (fun g => w.heap.size ≤ g) m D' ∧ Besides m m w w' := by
  have hok := h.ok
  have hml := h.lt
  obtain ⟨v, hcell, hfz, hv, -, -⟩ := h
  have hnew := below_new w (.cells (cnC c).toArray 59)
  have HB0 := hide hnew
  have HV := hide (hv.on hnew)
  have HCL := hide ((hnew.cell hml).trans hcell)
  have HFZ := hide ((World.frozen?_of_block (w := w) (a := ⟨m, 0, none⟩) (hnew.block m hml)).trans hfz)
  have HCB := hide (range_new w (cnC c) 59)
  have HSZ : Hid ((w.alloc (.cells (cnC c).toArray 59)).heap.size = w.heap.size + 1) := hide (by rw [alloc_size])
  have HML := hide hml
  have HN0 : Hid ((Try.prog.info? 59).map (·.size) = some (cnC c).length) := hide (by rw [cnC_length hc]; exact info_cn)
  have HLC : Hid ((cnC c).length = 66 ∧ ∀ u ∈ cnC c, u.oneCell' = true) := hide ⟨cnC_length hc, cnC_one c⟩
  have HIP : Hid ((Try.prog.info? 47).map (·.size) = some (pC c.pt).length) := hide (by rw [pC_length hc.1]; exact info_pt)
  have HCP := hide (cn_range HCB.out hc).1
  have HOK := hide hok
  have HS := hide hs
  have HN := hide hn
  have HC := hide hc
  have HLEN : Hid (D.length ≤ 5000) := hide hlen
  have HZ := hide zero_cn
  obtain ⟨a, cap, rfl, hc1, hc2⟩ := hv.form
  clear hnew hcell hfz hv hok hs hc hn hml hlen
  go_enter Try.func31, Try.ntmps31
  go_upto_region 1 with fail
  generalize hK : cnC c = K1 at *
  have HK1 := hide hK
  clear hK
  generalize w.alloc (.cells K1.toArray 59) = W0 at *
  generalize hg : w.heap.size = g at *
  have HG := hide hg
  clear hg
  have c0 := HCL.out
  have HS0 : Hid (RAdd W0 D c (.slice none 0 0) (.bool false) (.int .i64 0) W0) := hide ⟨0, Nat.zero_le _, rfl, Below.refl _ _, false, [], rfl, Or.inl ⟨rfl, by simp, fun _ h => by cases h⟩, by simp, RowOwn.nil _ _ _ _⟩
  go_wp2_with fail
  clear c0
  go_loopw [4, 5, 13] (fun v d i wr => RAdd W0 D c v d i wr) (fun _ _ i _ => D.length - (intOf i).toNat)
  case atStart => exact HS0.out
  case round =>
    clear HS0
    obtain ⟨j, hj, rfl, hB, d, R, rfl, hP, hRL, hrow⟩ := hrel
    have HBJ := hide hB
    have HP := hide hP
    have HRJ := hide hRL
    have HROWJ := hide hrow
    have HRL : Hid (R.length ≤ 5001) := hide (by have := HLEN.out; omega)
    by_cases hlt : j < D.length
    · obtain ⟨x, hx⟩ : ∃ x, D[j]? = some x := ⟨_, List.getElem?_eq_getElem hlt⟩
      obtain ⟨b2, off2, rfl, hr⟩ := (HV.out.on hB).get hx
      have hxm := List.mem_of_getElem? hx
      have hxo := HOK.out x hxm
      have HXO := hide hxo
      have HX := hide hx
      have HXR := hide hr
      have HN1 : Hid ((Try.prog.info? 59).map (·.size) = some (cnC x).length) := hide (by rw [cnC_length hxo]; exact info_cn)
      have H1 : Hid (∀ u ∈ cnC x, u.oneCell' = true) := hide (cnC_one x)
      have HLX : Hid ((cnC x).length = 66 ∧ ∀ u ∈ cnC x, u.oneCell' = true) := hide ⟨cnC_length hxo, cnC_one x⟩
      have HT : Hid (∀ w : World, (w.alloc (.cells coinZ 59)).there w.heap.size 0 (cnC x).length) := hide (fun w => by rw [cnC_length hxo]; exact cn_there w)
      have HIX : Hid ((Try.prog.info? 47).map (·.size) = some (pC x.pt).length) := hide (by rw [pC_length hxo.1]; exact info_pt)
      have hk1 : (j : Int) < (D.length : Int) := by omega
      have hzc := HZ.out wr
      clear hr hx hxo hB hxm hP hRL hrow
      go_upto_region 6 with (first | (refine wpList_load_mid rfl 59 (.tmp 15) rfl b2 (off2 + j * 66) rfl (cnC x) _ HXR.out Try.underlying59 rfl HN1.out ?_) | (refine wp_store_row rfl 59 (.tmp 7) (.tmp 16) rfl wr.heap.size 0 (cnC x) rfl rfl (HT.out wr) HN1.out H1.out ?_))
      have hW : ((wr.alloc (.cells coinZ 59)).setCells wr.heap.size 0 (cnC x)).rangeAt wr.heap.size 0 (cnC x) := World.rangeAt_setCells_same _ _ _ _ (HT.out wr)
      have hB2 : Below wr.heap.size wr ((wr.alloc (.cells coinZ 59)).setCells wr.heap.size 0 (cnC x)) := below_sets (Nat.le_refl _) _ _ _ (below_new wr _)
      have HGS : Hid (wr.heap.size < ((wr.alloc (.cells coinZ 59)).setCells wr.heap.size 0 (cnC x)).heap.size) := hide (by rw [size_setCells, alloc_size]; omega)
      generalize (wr.alloc (.cells coinZ 59)).setCells wr.heap.size 0 (cnC x) = W2 at *
      have HXW := hide hW
      have HRP := hide (cn_range hW HXO.out).1
      have HBW := hide (below_on HBJ.out hB2)
      have HROW := hide (HROWJ.out.move (w1 := W2) fun g _ hl => hB2.block g hl)
      have HOL : Hid (∀ g, u4.ownBlock = some g → g ≠ wr.heap.size) := hide (fun g hg => Nat.ne_of_lt (HROWJ.out.lt g hg).2)
      clear hW hB2 HXR H1 HT hzc HBJ HROWJ
      generalize wr.heap.size = gb at *
      cases d with
      | true =>
        clear HRP
        have hbn := below_new W2 (.cells (cnC x).toArray 59)
        have HNEW := hide (range_new W2 (cnC x) 59)
        have HROW3 := hide (HROW.out.move (w1 := W2.alloc (.cells (cnC x).toArray 59)) fun g _ hl => hbn.block g hl)
        have hw4 : W0.heap.size ≤ (W2.alloc (.cells (cnC x).toArray 59)).heap.size := Nat.le_trans HBW.out.size hbn.size
        obtain ⟨v4, W9, hrun, hrow5, hgr, hwh⟩ := run_append_row (W2.alloc (.cells (cnC x).toArray 59)) 30 59 30 _ 66 80 Try.underlying30 infoCn rfl (by omega) (by omega) W0.heap.size u4 (R.map cnC) HROW3.out W2.heap.size (cnC x) HNEW.out HLX.out (by simp only [List.length_map]; have := HRL.out; omega) hw4
        obtain ⟨va30, vc30, rfl, -, -⟩ := hrow5.row.form
        have hlt5 := HROW3.out.lt
        have HGS2 : Hid (gb < W9.heap.size) := hide (Nat.lt_of_lt_of_le HGS.out (Nat.le_trans hbn.size hgr.size))
        have hgb : W9.heap[gb]? = W2.heap[gb]? := (hgr.block gb (Nat.lt_of_lt_of_le HGS.out hbn.size) fun e => HOL.out gb e.symm rfl).trans (hbn.block gb HGS.out)
        have HX2 : Hid (W9.rangeAt gb 0 (cnC x)) := hide (fun i y hy => (World.cell?_of_block (w := W2) (a := ⟨gb, 0 + i, none⟩) hgb).trans (HXW.out i y hy))
        have HOL2 : Hid (∀ g, (Value.slice va30 ((R.map cnC) ++ [(cnC x)]).length vc30).ownBlock = some g → g ≠ gb) := hide (fun g hg => by
          rcases hwh with h | h
          · exact HOL.out g (h.symm.trans hg)
          · have h1 := h g hg
            have h2 := Nat.lt_of_lt_of_le HGS.out hbn.size
            omega)
        have HBW2 := hide ((below_on HBW.out hbn).grown hgr hw4 fun g hg => (hlt5 g hg).1)
        have HROW2 := hide hrow5
        obtain ⟨nn30, hnn⟩ : ∃ nn, nn = ((R.map cnC) ++ [(cnC x)]).length := ⟨_, rfl⟩
        rw [← hnn] at hrun HROW2 HOL2
        clear hbn HNEW HROW3 hw4 hrow5 hgr hwh hlt5 hgb hnn
        have R : Hid (RAdd W0 D c (.slice va30 nn30 vc30) (.bool true) (.int .i64 ((j + 1 : Nat) : Int)) W9) := hide ⟨j + 1, by omega, rfl, HBW2.out, true, (R ++ [x]), rfl, HP.out.go HS.out HX.out, by have := HRJ.out; simp; omega, by
          simp only [List.map_append, List.map_cons, List.map_nil]
          exact HROW2.out⟩
        clear HBW2 HROW2 HX2 HOL2 HGS2
        go_wp2_with (first
          | (refine wpList_load_mid rfl 59 (.tmp 7) rfl gb 0 rfl (cnC x) _ HXW.out Try.underlying59 rfl HN1.out ?_)
          | (refine wp_build_one rfl 30 59 (.tmp 31) rfl _ 66 80 Try.underlying30 infoCn (by omega) (by omega) (cnC x) HLX.out.1 rfl ?_)
          | (at_builtin; refine wp_app rfl (.tmp 30) (.tmp 32) 30 rfl (v1 := u4) (v2 := .slice (some ⟨W2.heap.size, 0, none⟩) 1 1) (v := .slice va30 nn30 vc30) (w' := W9) rfl rfl ?_ ?_; exact hrun))
        go_roundw
        case rel => first | exact R.out | ((repeat apply Exists.intro); exact ⟨R.out, rfl⟩)
        case measure => simp [intOf]; omega
      | false =>
        have HRJ : Hid (R.length ≤ j) := hide (by
          rcases HP.out with ⟨-, e, -⟩ | ⟨h, -⟩
          · rw [e, List.length_take]; omega
          · cases h)
        have hcb := rbelow_any W2 c.pt x.pt HC.out.1 HXO.out.1
        by_cases hbl : cmpPt c.pt x.pt < 0
        · rw [show decide (cmpPt c.pt x.pt < 0) = true by simpa using hbl] at hcb
          have CB := hide hcb
          have HPN := hide (HP.out.in HS.out HX.out hbl)
          clear hcb hbl
          go_wp2_with (first
            | (refine cw_load (by rfl) 47 (.tmp 20) rfl g 0 rfl (pC c.pt) _ (range_on HCP.out HBW.out) Try.underlying47 rfl HIP.out ?_)
            | (refine cw_load (by rfl) 47 (.tmp 22) rfl gb 0 rfl (pC x.pt) _ HRP.out Try.underlying47 rfl HIX.out ?_))
          refine CB.out.mono ?_
          rintro e W3 ⟨rfl, hb3⟩
          have HXW := hide (range_on HXW.out hb3)
          have HROW := hide (HROW.out.move (w1 := W3) fun g _ hl => hb3.block g hl)
          have HGS : Hid (gb < W3.heap.size) := hide (Nat.lt_of_lt_of_le HGS.out hb3.size)
          have HBW := hide (below_on HBW.out hb3)
          clear hb3 CB HRP
          have hbn := below_new W3 (.cells K1.toArray 59)
          have HNEW := hide (range_new W3 K1 59)
          have HROW3 := hide (HROW.out.move (w1 := W3.alloc (.cells K1.toArray 59)) fun g _ hl => hbn.block g hl)
          have hw4 : W0.heap.size ≤ (W3.alloc (.cells K1.toArray 59)).heap.size := Nat.le_trans HBW.out.size hbn.size
          obtain ⟨v4, W8, hrun, hrow5, hgr, hwh⟩ := run_append_row (W3.alloc (.cells K1.toArray 59)) 30 59 30 _ 66 80 Try.underlying30 infoCn rfl (by omega) (by omega) W0.heap.size u4 (R.map cnC) HROW3.out W3.heap.size K1 HNEW.out HLC.out (by simp only [List.length_map]; have := HRL.out; omega) hw4
          obtain ⟨va26, vc26, rfl, -, -⟩ := hrow5.row.form
          have hlt5 := HROW3.out.lt
          have HGS2 : Hid (gb < W8.heap.size) := hide (Nat.lt_of_lt_of_le HGS.out (Nat.le_trans hbn.size hgr.size))
          have hgb : W8.heap[gb]? = W3.heap[gb]? := (hgr.block gb (Nat.lt_of_lt_of_le HGS.out hbn.size) fun e => HOL.out gb e.symm rfl).trans (hbn.block gb HGS.out)
          have HX2 : Hid (W8.rangeAt gb 0 (cnC x)) := hide (fun i y hy => (World.cell?_of_block (w := W3) (a := ⟨gb, 0 + i, none⟩) hgb).trans (HXW.out i y hy))
          have HOL2 : Hid (∀ g, (Value.slice va26 ((R.map cnC) ++ [K1]).length vc26).ownBlock = some g → g ≠ gb) := hide (fun g hg => by
            rcases hwh with h | h
            · exact HOL.out g (h.symm.trans hg)
            · have h1 := h g hg
              have h2 := Nat.lt_of_lt_of_le HGS.out hbn.size
              omega)
          have HBW2 := hide ((below_on HBW.out hbn).grown hgr hw4 fun g hg => (hlt5 g hg).1)
          have HROW2 := hide hrow5
          obtain ⟨nn26, hnn⟩ : ∃ nn, nn = ((R.map cnC) ++ [K1]).length := ⟨_, rfl⟩
          rw [← hnn] at hrun HROW2 HOL2
          clear hbn HNEW HROW3 hw4 hrow5 hgr hwh hlt5 hgb hnn
          go_upto_region 8 with (first
            | (refine wpList_load_mid rfl 59 (.tmp 3) rfl g 0 rfl K1 _ (range_on HCB.out HBW.out) Try.underlying59 rfl HN0.out ?_)
            | (refine wp_build_one rfl 30 59 (.tmp 27) rfl _ 66 80 Try.underlying30 infoCn (by omega) (by omega) K1 HLC.out.1 rfl ?_)
            | (at_builtin; refine wp_app rfl (.tmp 26) (.tmp 28) 30 rfl (v1 := u4) (v2 := .slice (some ⟨W3.heap.size, 0, none⟩) 1 1) (v := .slice va26 nn26 vc26) (w' := W8) rfl rfl ?_ ?_; exact hrun))
          clear hrun
          have HXW := HX2
          have HROW := HROW2
          have HOL := HOL2
          have HGS := HGS2
          have HBW := HBW2
          go_upto_region 9 with fail
          have hbn := below_new W8 (.cells (cnC x).toArray 59)
          have HNEW := hide (range_new W8 (cnC x) 59)
          have HROW3 := hide (HROW.out.move (w1 := W8.alloc (.cells (cnC x).toArray 59)) fun g _ hl => hbn.block g hl)
          have hw4 : W0.heap.size ≤ (W8.alloc (.cells (cnC x).toArray 59)).heap.size := Nat.le_trans HBW.out.size hbn.size
          obtain ⟨v4, W9, hrun, hrow5, hgr, hwh⟩ := run_append_row (W8.alloc (.cells (cnC x).toArray 59)) 30 59 30 _ 66 80 Try.underlying30 infoCn rfl (by omega) (by omega) W0.heap.size (.slice va26 nn26 vc26) (R.map cnC ++ [K1]) HROW3.out W8.heap.size (cnC x) HNEW.out HLX.out (by simp only [List.length_append, List.length_map, List.length_singleton]; have := HRL.out; omega) hw4
          obtain ⟨va30, vc30, rfl, -, -⟩ := hrow5.row.form
          have hlt5 := HROW3.out.lt
          have HGS2 : Hid (gb < W9.heap.size) := hide (Nat.lt_of_lt_of_le HGS.out (Nat.le_trans hbn.size hgr.size))
          have hgb : W9.heap[gb]? = W8.heap[gb]? := (hgr.block gb (Nat.lt_of_lt_of_le HGS.out hbn.size) fun e => HOL.out gb e.symm rfl).trans (hbn.block gb HGS.out)
          have HX2 : Hid (W9.rangeAt gb 0 (cnC x)) := hide (fun i y hy => (World.cell?_of_block (w := W8) (a := ⟨gb, 0 + i, none⟩) hgb).trans (HXW.out i y hy))
          have HOL2 : Hid (∀ g, (Value.slice va30 ((R.map cnC ++ [K1]) ++ [(cnC x)]).length vc30).ownBlock = some g → g ≠ gb) := hide (fun g hg => by
            rcases hwh with h | h
            · exact HOL.out g (h.symm.trans hg)
            · have h1 := h g hg
              have h2 := Nat.lt_of_lt_of_le HGS.out hbn.size
              omega)
          have HBW2 := hide ((below_on HBW.out hbn).grown hgr hw4 fun g hg => (hlt5 g hg).1)
          have HROW2 := hide hrow5
          obtain ⟨nn30, hnn⟩ : ∃ nn, nn = ((R.map cnC ++ [K1]) ++ [(cnC x)]).length := ⟨_, rfl⟩
          rw [← hnn] at hrun HROW2 HOL2
          clear hbn HNEW HROW3 hw4 hrow5 hgr hwh hlt5 hgb hnn
          have R : Hid (RAdd W0 D c (.slice va30 nn30 vc30) (.bool true) (.int .i64 ((j + 1 : Nat) : Int)) W9) := hide ⟨j + 1, by omega, rfl, HBW2.out, true, ((R ++ [c]) ++ [x]), rfl, HPN.out, by have := HRJ.out; simp; omega, by
            simp only [List.map_append, List.map_cons, List.map_nil, HK1.out]
            exact HROW2.out⟩
          clear HBW2 HROW2 HX2 HOL2 HGS2
          go_wp2_with (first
            | (refine wpList_load_mid rfl 59 (.tmp 7) rfl gb 0 rfl (cnC x) _ HXW.out Try.underlying59 rfl HN1.out ?_)
            | (refine wp_build_one rfl 30 59 (.tmp 31) rfl _ 66 80 Try.underlying30 infoCn (by omega) (by omega) (cnC x) HLX.out.1 rfl ?_)
            | (at_builtin; refine wp_app rfl (.tmp 30) (.tmp 32) 30 rfl (v1 := (.slice va26 nn26 vc26)) (v2 := .slice (some ⟨W8.heap.size, 0, none⟩) 1 1) (v := .slice va30 nn30 vc30) (w' := W9) rfl rfl ?_ ?_; exact hrun))
          go_roundw
          case rel => first | exact R.out | ((repeat apply Exists.intro); exact ⟨R.out, rfl⟩)
          case measure => simp [intOf]; omega
        · rw [show decide (cmpPt c.pt x.pt < 0) = false by simpa using hbl] at hcb
          have CB := hide hcb
          have HPN := hide (HP.out.no HX.out hbl HN.out)
          clear hcb hbl
          go_wp2_with (first
            | (refine cw_load (by rfl) 47 (.tmp 20) rfl g 0 rfl (pC c.pt) _ (range_on HCP.out HBW.out) Try.underlying47 rfl HIP.out ?_)
            | (refine cw_load (by rfl) 47 (.tmp 22) rfl gb 0 rfl (pC x.pt) _ HRP.out Try.underlying47 rfl HIX.out ?_))
          refine CB.out.mono ?_
          rintro e W3 ⟨rfl, hb3⟩
          have HXW := hide (range_on HXW.out hb3)
          have HROW := hide (HROW.out.move (w1 := W3) fun g _ hl => hb3.block g hl)
          have HGS : Hid (gb < W3.heap.size) := hide (Nat.lt_of_lt_of_le HGS.out hb3.size)
          have HBW := hide (below_on HBW.out hb3)
          clear hb3 CB HRP
          have hbn := below_new W3 (.cells (cnC x).toArray 59)
          have HNEW := hide (range_new W3 (cnC x) 59)
          have HROW3 := hide (HROW.out.move (w1 := W3.alloc (.cells (cnC x).toArray 59)) fun g _ hl => hbn.block g hl)
          have hw4 : W0.heap.size ≤ (W3.alloc (.cells (cnC x).toArray 59)).heap.size := Nat.le_trans HBW.out.size hbn.size
          obtain ⟨v4, W9, hrun, hrow5, hgr, hwh⟩ := run_append_row (W3.alloc (.cells (cnC x).toArray 59)) 30 59 30 _ 66 80 Try.underlying30 infoCn rfl (by omega) (by omega) W0.heap.size u4 (R.map cnC) HROW3.out W3.heap.size (cnC x) HNEW.out HLX.out (by simp only [List.length_map]; have := HRL.out; omega) hw4
          obtain ⟨va30, vc30, rfl, -, -⟩ := hrow5.row.form
          have hlt5 := HROW3.out.lt
          have HGS2 : Hid (gb < W9.heap.size) := hide (Nat.lt_of_lt_of_le HGS.out (Nat.le_trans hbn.size hgr.size))
          have hgb : W9.heap[gb]? = W3.heap[gb]? := (hgr.block gb (Nat.lt_of_lt_of_le HGS.out hbn.size) fun e => HOL.out gb e.symm rfl).trans (hbn.block gb HGS.out)
          have HX2 : Hid (W9.rangeAt gb 0 (cnC x)) := hide (fun i y hy => (World.cell?_of_block (w := W3) (a := ⟨gb, 0 + i, none⟩) hgb).trans (HXW.out i y hy))
          have HOL2 : Hid (∀ g, (Value.slice va30 ((R.map cnC) ++ [(cnC x)]).length vc30).ownBlock = some g → g ≠ gb) := hide (fun g hg => by
            rcases hwh with h | h
            · exact HOL.out g (h.symm.trans hg)
            · have h1 := h g hg
              have h2 := Nat.lt_of_lt_of_le HGS.out hbn.size
              omega)
          have HBW2 := hide ((below_on HBW.out hbn).grown hgr hw4 fun g hg => (hlt5 g hg).1)
          have HROW2 := hide hrow5
          obtain ⟨nn30, hnn⟩ : ∃ nn, nn = ((R.map cnC) ++ [(cnC x)]).length := ⟨_, rfl⟩
          rw [← hnn] at hrun HROW2 HOL2
          clear hbn HNEW HROW3 hw4 hrow5 hgr hwh hlt5 hgb hnn
          have R : Hid (RAdd W0 D c (.slice va30 nn30 vc30) (.bool false) (.int .i64 ((j + 1 : Nat) : Int)) W9) := hide ⟨j + 1, by omega, rfl, HBW2.out, false, (R ++ [x]), rfl, HPN.out, by have := HRJ.out; simp; omega, by
            simp only [List.map_append, List.map_cons, List.map_nil]
            exact HROW2.out⟩
          clear HBW2 HROW2 HX2 HOL2 HGS2
          go_wp2_with (first
            | (refine wpList_load_mid rfl 59 (.tmp 7) rfl gb 0 rfl (cnC x) _ HXW.out Try.underlying59 rfl HN1.out ?_)
            | (refine wp_build_one rfl 30 59 (.tmp 31) rfl _ 66 80 Try.underlying30 infoCn (by omega) (by omega) (cnC x) HLX.out.1 rfl ?_)
            | (at_builtin; refine wp_app rfl (.tmp 30) (.tmp 32) 30 rfl (v1 := u4) (v2 := .slice (some ⟨W3.heap.size, 0, none⟩) 1 1) (v := .slice va30 nn30 vc30) (w' := W9) rfl rfl ?_ ?_; exact hrun))
          go_roundw
          case rel => first | exact R.out | ((repeat apply Exists.intro); exact ⟨R.out, rfl⟩)
          case measure => simp [intOf]; omega
    · have hk2 : (D.length : Int) ≤ (j : Int) := by omega
      have hP' := hP
      rw [show j = D.length by omega] at hP'
      unfold AddP at hP'
      rw [List.drop_of_length_le (Nat.le_refl _)] at hP'
      rw [List.take_of_length_le (Nat.le_refl _)] at hP'
      have c0 := (HBJ.out.cell (World.block_lt_of_cell? _ _ HCL.out)).trans HCL.out
      have f0 := (World.frozen?_of_block (w := W0) (a := ⟨m, 0, none⟩) (HBJ.out.block m (World.block_lt_of_cell? _ _ HCL.out))).trans HFZ.out
      have HBW : Hid (Below w.heap.size w wr) := hide (by have h := HB0.out; rw [← HG.out] at h; exact below_on h HBJ.out)
      have HC0 := hide c0
      have HF0 := hide f0
      cases d with
      | true =>
        obtain ⟨h2, h3⟩ : R.Perm (c :: D) ∧ SortC R := by
          rcases hP' with ⟨h1, -⟩ | ⟨-, h2, h3, -⟩
          · cases h1
          · exact ⟨h2, h3⟩
        have HR := hide (show R.Perm (c :: D) ∧ SortC R from ⟨h2, h3⟩)
        have HRK : Hid (∀ d ∈ R, CnOk d) := hide (fun d hd => by
          rcases List.mem_cons.1 (HR.out.1.mem_iff.1 hd) with h | h
          · rw [h]; exact HC.out
          · exact HOK.out d h)
        clear h2 h3 hP hP' hB hRL hrow
        obtain ⟨ua, uc, rfl, -, -⟩ := HROWJ.out.row.form
        simp only [List.length_map] at HROWJ ⊢
        go_wp2
        go_end0
        refine ⟨rfl, R, HR.out.1, HR.out.2, ?_, (Besides.of_below HBW.out).set ⟨m, 0, none⟩ (Or.inl rfl) _⟩
        exact DocAt.weak (A := fun g => W0.heap.size ≤ g) (A' := fun g => w.heap.size ≤ g) (doc_stored HC0.out HF0.out (by have := HML.out; have := HSZ.out; omega) HROWJ.out HRK.out) (fun g' h => Nat.le_trans (by have := HSZ.out; have := HG.out; omega) h)
      | false =>
        obtain ⟨h2, h3⟩ : R = D ∧ ∀ y ∈ R, cmpPt y.pt c.pt < 0 := by
          rcases hP' with ⟨-, h2, h3⟩ | ⟨h1, -⟩
          · exact ⟨h2, h3⟩
          · cases h1
        obtain rfl := h2
        have HR := hide (show (R ++ [c]).Perm (c :: R) ∧ SortC (R ++ [c]) from ⟨List.perm_append_comm, sort_snoc HS.out h3⟩)
        have HRK : Hid (∀ d ∈ R ++ [c], CnOk d) := hide (fun d hd => by
          rcases List.mem_append.1 hd with h | h
          · exact HOK.out d h
          · rw [List.mem_singleton.1 h]; exact HC.out)
        clear h3 hP hP' hB hRL hrow
        have hbn := below_new wr (.cells K1.toArray 59)
        have HNEW := hide (range_new wr K1 59)
        have HROW3 := hide (HROWJ.out.move (w1 := wr.alloc (.cells K1.toArray 59)) fun g _ hl => hbn.block g hl)
        have hw4 : W0.heap.size ≤ (wr.alloc (.cells K1.toArray 59)).heap.size := Nat.le_trans HBJ.out.size hbn.size
        obtain ⟨v4, W9, hrun, hrow5, hgr, hwh⟩ := run_append_row (wr.alloc (.cells K1.toArray 59)) 30 59 30 _ 66 80 Try.underlying30 infoCn rfl (by omega) (by omega) W0.heap.size u4 (R.map cnC) HROW3.out wr.heap.size K1 HNEW.out HLC.out (by simp only [List.length_map]; have := HRL.out; omega) hw4
        obtain ⟨va, vc, rfl, -, -⟩ := hrow5.row.form
        have hlt5 := HROW3.out.lt
        have HBK := hide ((below_on HBJ.out hbn).grown hgr hw4 fun g hg => (hlt5 g hg).1)
        have HRW : Hid (RowOwn W9 W0.heap.size 59 66 _ ((R ++ [c]).map cnC)) := hide (by
          rw [List.map_append, List.map_cons, List.map_nil, HK1.out]
          exact hrow5)
        have c9 := (HBK.out.cell (World.block_lt_of_cell? _ _ HCL.out)).trans HCL.out
        have f9 := (World.frozen?_of_block (w := W0) (a := ⟨m, 0, none⟩) (HBK.out.block m (World.block_lt_of_cell? _ _ HCL.out))).trans HFZ.out
        have HC9 := hide c9
        have HF9 := hide f9
        have HBW9 : Hid (Below w.heap.size w W9) := hide (by have h := HB0.out; rw [← HG.out] at h; exact below_on h HBK.out)
        obtain ⟨nn, hnn⟩ : ∃ nn, nn = ((R.map cnC) ++ [K1]).length := ⟨_, rfl⟩
        rw [← hnn] at hrun HRW
        clear hbn HNEW HROW3 hw4 hrow5 hgr hwh hlt5 c0 f0 hnn
        go_wp2_with (first
          | (refine wpList_load_mid rfl 59 (.tmp 3) rfl g 0 rfl K1 _ (range_on HCB.out HBJ.out) Try.underlying59 rfl HN0.out ?_)
          | (refine wp_build_one rfl 30 59 (.tmp 38) rfl _ 66 80 Try.underlying30 infoCn (by omega) (by omega) K1 HLC.out.1 rfl ?_)
          | (at_builtin; refine wp_app rfl (.tmp 37) (.tmp 39) 30 rfl (v1 := u4) (v2 := .slice (some ⟨wr.heap.size, 0, none⟩) 1 1) (v := .slice va nn vc) (w' := W9) rfl rfl ?_ ?_; exact hrun))
        go_end0
        refine ⟨rfl, R ++ [c], HR.out.1, HR.out.2, ?_, (Besides.of_below HBW9.out).set ⟨m, 0, none⟩ (Or.inl rfl) _⟩
        exact DocAt.weak (A := fun g => W0.heap.size ≤ g) (A' := fun g => w.heap.size ≤ g) (doc_stored HC9.out HF9.out (by have := HML.out; have := HSZ.out; omega) HRW.out HRK.out) (fun g' h => Nat.le_trans (by have := HSZ.out; have := HG.out; omega) h)

end Go.Proofs.Ytkemdfikcmgaaaa
