/-
  What the document's Find answers at this program, whatever the set and the point.
-/
import Derived.Test.YtkemdfikcmgaaaaCoDoc
namespace Go.Proofs.Ytkemdfikcmgaaaa
open Go.RowKit

/-- So far none is it. -/
def RFind (w : World) (D : List Cn) (p : Pt) (i : Value) (wr : World) : Prop := ∃ j : Nat, j ≤ D.length ∧ i = .int .i64 j ∧ Below w.heap.size w wr ∧ p ∉ (D.take j).map Cn.pt
set_option maxRecDepth 100000 in
set_option maxHeartbeats 1000000 in
theorem rfind_any (w : World) (A : Nat → Prop) (m : Nat) (D : List Cn) (h : DocAt w A m D) (hN : (D.map Cn.pt).Nodup) (p : Pt) (hp : PtOk p) (_hlen : D.length ≤ 100000) (o : TOut) (r : Bool) (hl : Looks D p o r) :
    Calls Try.prog 18 #[.pointer (some ⟨m, 0, none⟩), .agg (pC p).toArray] w fun e w' => e = .returned (.tuple #[.agg (outC o).toArray, .bool r]) ∧ Below w.heap.size w w' := by
  have hok := h.ok
  obtain ⟨v, hc, -, hv, -, -⟩ := h
  have hnew := below_new w (.cells (pC p).toArray 47)
  have hnew2 := below_on hnew (below_new (w.alloc (.cells (pC p).toArray 47)) (.cells #[.int .u64 0, .int .u8 0, .int .u8 0, .int .u8 0, .int .u8 0, .int .u8 0, .int .u8 0, .int .u8 0, .int .u8 0, .int .u8 0, .int .u8 0, .int .u8 0, .int .u8 0, .int .u8 0, .int .u8 0, .int .u8 0, .int .u8 0, .int .u8 0, .int .u8 0, .int .u8 0, .int .u8 0, .int .u8 0, .int .u8 0, .int .u8 0, .int .u8 0, .int .u8 0, .int .u8 0, .int .u8 0, .int .u8 0, .int .u8 0, .int .u8 0, .int .u8 0, .int .u8 0] 50))
  have HB := hide hnew2
  have HV := hide (hv.on hnew2)
  have HC := hide ((hnew2.cell (World.block_lt_of_cell? _ _ hc)).trans hc)
  have HP := hide (range_on (range_new w (pC p) 47) (below_new (w.alloc (.cells (pC p).toArray 47)) (.cells #[.int .u64 0, .int .u8 0, .int .u8 0, .int .u8 0, .int .u8 0, .int .u8 0, .int .u8 0, .int .u8 0, .int .u8 0, .int .u8 0, .int .u8 0, .int .u8 0, .int .u8 0, .int .u8 0, .int .u8 0, .int .u8 0, .int .u8 0, .int .u8 0, .int .u8 0, .int .u8 0, .int .u8 0, .int .u8 0, .int .u8 0, .int .u8 0, .int .u8 0, .int .u8 0, .int .u8 0, .int .u8 0, .int .u8 0, .int .u8 0, .int .u8 0, .int .u8 0, .int .u8 0] 50)))
  have HLP : Hid ((Try.prog.info? 47).map (·.size) = some (pC p).length) := hide (by rw [pC_length hp]; exact info_pt)
  have HT1 := hide (o_there (w.alloc (.cells (pC p).toArray 47)))
  have HSZ : Hid (((w.alloc (.cells (pC p).toArray 47)).alloc (.cells #[.int .u64 0, .int .u8 0, .int .u8 0, .int .u8 0, .int .u8 0, .int .u8 0, .int .u8 0, .int .u8 0, .int .u8 0, .int .u8 0, .int .u8 0, .int .u8 0, .int .u8 0, .int .u8 0, .int .u8 0, .int .u8 0, .int .u8 0, .int .u8 0, .int .u8 0, .int .u8 0, .int .u8 0, .int .u8 0, .int .u8 0, .int .u8 0, .int .u8 0, .int .u8 0, .int .u8 0, .int .u8 0, .int .u8 0, .int .u8 0, .int .u8 0, .int .u8 0, .int .u8 0] 50)).heap.size = w.heap.size + 2) := hide (by rw [alloc_size, alloc_size])
  rw [alloc_size] at HT1
  have HOK := hide hok
  have HL := hide hl
  have HN := hide hN
  have HPK := hide hp
  have HZ := hide zero_cn
  obtain ⟨a, cap, rfl, hc1, hc2⟩ := hv.form
  clear hnew hnew2 hc hv hok hl hN hp
  go_enter Try.func18, Try.ntmps18
  go_upto_region 1 with fail
  generalize (w.alloc (.cells (pC p).toArray 47)).alloc (.cells #[.int .u64 0, .int .u8 0, .int .u8 0, .int .u8 0, .int .u8 0, .int .u8 0, .int .u8 0, .int .u8 0, .int .u8 0, .int .u8 0, .int .u8 0, .int .u8 0, .int .u8 0, .int .u8 0, .int .u8 0, .int .u8 0, .int .u8 0, .int .u8 0, .int .u8 0, .int .u8 0, .int .u8 0, .int .u8 0, .int .u8 0, .int .u8 0, .int .u8 0, .int .u8 0, .int .u8 0, .int .u8 0, .int .u8 0, .int .u8 0, .int .u8 0, .int .u8 0, .int .u8 0] 50) = W at *
  generalize hg : w.heap.size = g at *
  have HG := hide hg
  clear hg
  generalize hP2 : pC p = P2 at *
  have HP2 := hide hP2
  clear hP2
  have c0 := HC.out
  have HS0 : Hid (RFind W D p (.int .i64 0) W) := hide ⟨0, Nat.zero_le _, rfl, Below.refl _ _, by simp⟩
  go_wp2_with fail
  clear c0
  go_loopw [13] (fun i wr => RFind W D p i wr) (fun i _ => D.length - (intOf i).toNat)
  case atStart => exact HS0.out
  case round =>
    clear HS0
    obtain ⟨j, hj, rfl, hB, hno⟩ := hrel
    have HBJ := hide hB
    have HNO := hide hno
    by_cases hlt : j < D.length
    · obtain ⟨x, hx⟩ : ∃ x, D[j]? = some x := ⟨_, List.getElem?_eq_getElem hlt⟩
      obtain ⟨b2, off2, rfl, hr⟩ := (HV.out.on hB).get hx
      have hxm := List.mem_of_getElem? hx
      have hxo := HOK.out x hxm
      have HXO := hide hxo
      have HXM := hide hxm
      have HX := hide hx
      have HXR := hide hr
      have HN1 : Hid ((Try.prog.info? 59).map (·.size) = some (cnC x).length) := hide (by rw [cnC_length hxo]; exact info_cn)
      have H1 : Hid (∀ u ∈ cnC x, u.oneCell' = true) := hide (cnC_one x)
      have HT : Hid (∀ w : World, (w.alloc (.cells coinZ 59)).there w.heap.size 0 (cnC x).length) := hide (fun w => by rw [cnC_length hxo]; exact cn_there w)
      have HIX : Hid ((Try.prog.info? 47).map (·.size) = some (pC x.pt).length) := hide (by rw [pC_length hxo.1]; exact info_pt)
      have HLO : Hid ((Try.prog.info? 50).map (·.size) = some (outC x.out).length) := hide (by rw [outC_length hxo.2.2.1]; exact info_out)
      have HO1 : Hid (∀ u ∈ outC x.out, u.oneCell' = true) := hide (outC_one _)
      have HOL : Hid ((outC x.out).length = 33) := hide (outC_length hxo.2.2.1)
      have hk1 : (j : Int) < (D.length : Int) := by omega
      have heq := eql_pts x.pt p hxo.1 HPK.out
      rw [HP2.out] at heq
      have HEQ := hide heq
      have hzc := HZ.out wr
      clear hr hx hxo hB hxm hno heq
      go_upto_region 4 with (first | (refine wpList_load_mid rfl 59 (.tmp 15) rfl b2 (off2 + j * 66) rfl (cnC x) _ HXR.out Try.underlying59 rfl HN1.out ?_) | (refine wp_store_row rfl 59 (.tmp 7) (.tmp 16) rfl wr.heap.size 0 (cnC x) rfl rfl (HT.out wr) HN1.out H1.out ?_))
      have hW : ((wr.alloc (.cells coinZ 59)).setCells wr.heap.size 0 (cnC x)).rangeAt wr.heap.size 0 (cnC x) := World.rangeAt_setCells_same _ _ _ _ (HT.out wr)
      have hB2 : Below wr.heap.size wr ((wr.alloc (.cells coinZ 59)).setCells wr.heap.size 0 (cnC x)) := below_sets (Nat.le_refl _) _ _ _ (below_new wr _)
      generalize (wr.alloc (.cells coinZ 59)).setCells wr.heap.size 0 (cnC x) = W2 at *
      have HRP := hide (cn_range hW HXO.out).1
      have HRO : Hid (W2.rangeAt wr.heap.size 33 (outC x.out)) := hide (by have h := (cn_range hW HXO.out).2; rw [Nat.zero_add] at h; exact h)
      have HB2 := hide (below_on HBJ.out hB2)
      have HPW := hide (range_on HP.out HB2.out)
      clear hW hB2 HXR HN1 H1 HT hzc HBJ
      generalize wr.heap.size = gb at *
      by_cases hxp : x.pt = p
      · have hd : decide (x.pt = p) = true := by simpa using hxp
        have hEQ := HEQ.out
        rw [hd] at hEQ
        have HRES := hide (Looks.one HN.out HL.out (Or.inl ⟨rfl, x, HXM.out, hxp, rfl⟩))
        have HT2 := hide (there_on HT1.out HB2.out)
        generalize hX : outC x.out = X at *
        have HXE := hide hX
        generalize pC x.pt = P at *
        clear hxp hX hd
        rw [← HOL.out] at HT2
        go_wp2_with (first
          | (refine wpList_load_mid rfl 47 (.tmp 17) rfl gb 0 rfl P _ HRP.out Try.underlying47 rfl HIX.out ?_)
          | (refine wpList_load_mid rfl 47 (.tmp 3) rfl g 0 rfl P2 _ HPW.out Try.underlying47 rfl HLP.out ?_)
          | (refine wpList_load_mid rfl 50 (.tmp 21) rfl gb 33 rfl X _ HRO.out Try.underlying50 rfl HLO.out ?_)
          | ((with_reducible show wpList _ _ _ (_ :: _) _ _); refine wp_store_row rfl 50 (.tmp 4) (.tmp 22) rfl (g + 1) 0 X rfl rfl HT2.out HLO.out HO1.out ?_))
        refine ret_row_tmp 4 5 50 rfl (g + 1) 0 rfl X (World.rangeAt_setCells_same _ _ _ _ HT2.out) _ Try.underlying50 rfl HLO.out (.bool true) rfl rfl ?_
        refine ⟨by rw [HRES.out.1, HRES.out.2, HXE.out], ?_⟩
        rw [HG.out]
        exact below_sets (by omega) _ _ _ (HB.out.trans (HB2.out.mono (by have := HSZ.out; omega)))
      · have hd : decide (x.pt = p) = false := by simpa using hxp
        have hEQ := HEQ.out
        rw [hd] at hEQ
        have R : Hid (RFind W D p (.int .i64 ((j + 1 : Nat) : Int)) W2) := hide ⟨j + 1, by omega, rfl, HB2.out, by
          rw [take_more (f := Cn.pt) HX.out, List.mem_append, List.mem_singleton]
          exact fun h => h.elim HNO.out fun e => hxp e.symm⟩
        generalize pC x.pt = P at *
        clear hd HRO HB2
        go_wp2_with (first
          | (refine wpList_load_mid rfl 47 (.tmp 17) rfl gb 0 rfl P _ HRP.out Try.underlying47 rfl HIX.out ?_)
          | (refine wpList_load_mid rfl 47 (.tmp 3) rfl g 0 rfl P2 _ HPW.out Try.underlying47 rfl HLP.out ?_))
        go_roundw
        case rel => first | exact R.out | ((repeat apply Exists.intro); exact ⟨R.out, rfl⟩)
        case measure => simp [intOf]; omega
    · have hk2 : (D.length : Int) ≤ (j : Int) := by omega
      rw [List.take_of_length_le (by omega)] at hno
      have HRES := hide (Looks.one HN.out HL.out (Or.inr ⟨rfl, hno, rfl⟩))
      have HT2 := hide (there_on HT1.out hB)
      have HLO : Hid ((Try.prog.info? 50).map (·.size) = some (outC noOut).length) := hide (by rw [outC_length rfl]; exact info_out)
      have HO1 : Hid (∀ u ∈ outC noOut, u.oneCell' = true) := hide (outC_one _)
      rw [show 33 = (outC noOut).length from (outC_length rfl).symm] at HT2
      clear hB hno
      go_wp2_with (first
        | (refine cw_const rfl 50 _ rfl (v := .agg (outC noOut).toArray) (by kernel_rfl) ?_)
        | ((with_reducible show wpList _ _ _ (_ :: _) _ _); refine wp_store_row rfl 50 (.tmp 4) (.tmp 24) rfl (g + 1) 0 (outC noOut) rfl rfl HT2.out HLO.out HO1.out ?_))
      refine ret_row_tmp 4 5 50 rfl (g + 1) 0 rfl (outC noOut) (World.rangeAt_setCells_same _ _ _ _ HT2.out) _ Try.underlying50 rfl HLO.out (.bool false) rfl rfl ?_
      refine ⟨by rw [HRES.out.1, HRES.out.2], ?_⟩
      rw [HG.out]
      exact below_sets (by omega) _ _ _ (HB.out.trans (HBJ.out.mono (by have := HSZ.out; omega)))

end Go.Proofs.Ytkemdfikcmgaaaa
