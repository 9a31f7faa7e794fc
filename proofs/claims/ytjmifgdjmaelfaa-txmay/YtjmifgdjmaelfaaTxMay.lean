/-
  Proved: for every transaction and every byte the law TxMay answers true, and its arguments read as they did. No condition.
-/
import Derived.Test.YtjmifgdjmaelfaaTxCheck
import Derived.Test.YtjmifgdjmaelfaaTxPts
import Derived.Test.YtjmifgdjmaelfaaTxMayR
import Derived.Test.YtjmifgdjmaelfaaTxMayN
import Derived.Test.YtjmifgdjmaelfaaLawKit
import Derived.Deep.RegionHeld3
namespace Go.Proofs.Ytjmifgdjmaelfaa
open Go.ChangeShapes Go.WideShapes Go.ChangeAt Go.RowKit

/-- The points so far are as they should be. -/
def Maying (w : World) (K : Nat) (i : Value) (wr : World) : Prop := ∃ k : Nat, k ≤ K ∧ i = .int .i64 k ∧ Below w.heap.size w wr
theorem nodup_pt {L : List TIn} (h : (L.map ptOf).Nodup) {i j : Nat} {x y : TIn} (hx : L[i]? = some x) (hy : L[j]? = some y) : (decide (x.tx = y.tx) && decide (x.n = y.n)) = decide (i = j) := by
  by_cases e : i = j
  · subst e
    rw [hx] at hy
    cases hy
    simp
  · rw [decide_eq_false e]
    cases hb : (decide (x.tx = y.tx) && decide (x.n = y.n)) with
    | false => rfl
    | true =>
      simp only [Bool.and_eq_true, decide_eq_true_eq] at hb
      refine absurd ((List.getElem?_inj (by have := (List.getElem?_eq_some_iff.1 hx).1; simpa using this) h).1 ?_) e
      rw [List.getElem?_map, List.getElem?_map, hx, hy]
      simp [ptOf, hb.1, hb.2]

set_option maxRecDepth 100000 in
set_option maxHeartbeats 4000000 in
theorem may_form {w : World} (t : Tr) (iv ov : Value) (h : TxAt w iv ov t) (hok : TrOk t) (x : Int) (hx : 0 ≤ x ∧ x < 256) (hg : greatB t = false) (hf : formB t = true) (hi0 : 0 < t.ins.length) (ho0 : 0 < t.outs.length) (hpay : PayOk t.outs) (hnd : (t.ins.map ptOf).Nodup) :
    Calls Try.prog 4 #[.agg #[.int .u32 t.ver, iv, ov], .int .u8 x] w fun e w' => e = .returned (.bool true) ∧ Below w.heap.size w w' := by
  obtain ⟨hi8, ho8, hkey⟩ := (formB_iff t).1 hf
  have HT0 := hide (h.on (below_new w (.cells #[.int .u32 t.ver, iv, ov] 28)))
  have HB0 := hide (below_new w (.cells #[.int .u32 t.ver, iv, ov] 28))
  have HX0 := hide (TBox.new w (.int .u32 t.ver) iv ov 28)
  have GR := hide (fun w (h : TxAt w iv ov t) => great_any t iv ov w h.1 h.2 (fun x hx => (hok.2.1 x hx).1))
  rw [hg] at GR
  have AL := hide alive_any
  have CH := hide (fun w (h : TxAt w iv ov t) => tcheck_any t iv ov w h hok true false ⟨fun _ => hpay, fun _ => rfl⟩ ⟨fun _ => hnd, fun _ => rfl⟩)
  have hE : chE t true false = 0 := by
    unfold chE
    rw [if_neg (by rw [hf]; decide), if_neg (by omega), if_neg (by decide), if_neg (by decide)]
  rw [hE] at CH
  have PO := hide (fun w (h : TxAt w iv ov t) => tpoints_any t iv ov w h hok.2.1 (by omega))
  have HPAY := hide hpay
  have HND := hide hnd
  have HOK := hide hok
  have HFORM := hide hf
  obtain ⟨a, cap, rfl, hc1, hc2⟩ := h.1.form
  obtain ⟨a', cap', rfl, hd1, hd2⟩ := h.2.form
  obtain ⟨x0, x1⟩ := hx
  clear h hok hg hf hpay hnd hE
  go_enter Try.func4, Try.ntmps4
  go_upto_region 1 with fail
  generalize w.alloc (.cells #[.int .u32 t.ver, .slice a t.ins.length cap, .slice a' t.outs.length cap'] 28) = W0 at *
  go_wp2_with fail
  refine (AL.out _).mono ?_
  rintro e w1 ⟨rfl, hb1⟩
  have HB1 := hide (below_on HB0.out hb1)
  have HT1 := hide (HT0.out.on hb1)
  have HX1 := hide (HX0.out.on hb1)
  obtain ⟨n0, n1, n2⟩ := HX1.out
  clear hb1 HB0 HT0 HX0 AL
  go_wp2_with fail
  refine (GR.out _ HT1.out).mono ?_
  rintro e w2 ⟨rfl, hb2⟩
  have HB2 := hide (below_on HB1.out hb2)
  have HT2 := hide (HT1.out.on hb2)
  have HX2 := hide (HX1.out.on hb2)
  clear n0 n1 n2
  obtain ⟨n0, n1, n2⟩ := HX2.out
  clear hb2 HB1 HT1 HX1 GR
  go_wp2_with fail
  refine (CH.out _ HT2.out).mono ?_
  rintro e w3 ⟨rfl, hb3⟩
  have HB3 := hide (below_on HB2.out hb3)
  have HT3 := hide (HT2.out.on hb3)
  have HX3 := hide (HX2.out.on hb3)
  clear n0 n1 n2
  obtain ⟨n0, n1, n2⟩ := HX3.out
  clear hb3 HB2 HT2 HX2 CH
  have HS : Hid (Paying w3 t.outs (.int .u64 0) (.int .i64 0) w3) := hide ⟨0, Nat.zero_le _, rfl, by simp [sumV], Below.refl _ _, by simp⟩
  go_wp2_with fail
  clear n0 n1 n2
  go_loopw [5, 24] (fun s i wr => Paying w3 t.outs s i wr) (fun _ i _ => t.outs.length - (intOf i).toNat)
  case atStart => exact HS.out
  case round =>
    clear HS
    obtain ⟨k, hk, rfl, rfl, hB, hall⟩ := hrel
    have HB := hide hB
    have hsb := sumV_le (t.outs.take k) hall
    have hlt8 : ((t.outs.take k).length : Int) ≤ 8 := by simp; omega
    by_cases hlt : k < t.outs.length
    · obtain ⟨y, hy⟩ : ∃ y, t.outs[k]? = some y := ⟨_, List.getElem?_eq_getElem hlt⟩
      obtain ⟨b, off, rfl, hr⟩ := OutsAt.get (OutsAt.on HT3.out.2 hB) hy
      have hyl := (HOK.out.2.2 y (List.mem_of_getElem? hy)).2.1
      have hval := HPAY.out.1 y (List.mem_of_getElem? hy)
      have HXR := hide hr
      have HN : Hid ((Try.prog.info? 42).map (·.size) = some (outC y).length) := hide (by rw [outC_length hyl]; exact info_out)
      have H1 : Hid (∀ u ∈ outC y, u.oneCell' = true) := hide (outC_one y)
      have HT : Hid (∀ w : World, (w.alloc (.cells #[.int .u64 0, .int .u8 0, .int .u8 0, .int .u8 0, .int .u8 0, .int .u8 0, .int .u8 0, .int .u8 0, .int .u8 0, .int .u8 0, .int .u8 0, .int .u8 0, .int .u8 0, .int .u8 0, .int .u8 0, .int .u8 0, .int .u8 0, .int .u8 0, .int .u8 0, .int .u8 0, .int .u8 0, .int .u8 0, .int .u8 0, .int .u8 0, .int .u8 0, .int .u8 0, .int .u8 0, .int .u8 0, .int .u8 0, .int .u8 0, .int .u8 0, .int .u8 0, .int .u8 0] 42)).there w.heap.size 0 (outC y).length) := hide (fun w => by rw [outC_length hyl]; exact out_there w)
      have hk1 : (k : Int) < (t.outs.length : Int) := by omega
      have HY := hide hy
      have HNX := hide (sumV_next hy)
      have HALL := hide hall
      have e1 : ¬ (1125899906842624 < y.val) := by unfold valOk at hval; omega
      have e2 : ¬ y.val = 0 := by unfold valOk at hval; omega
      have e3 : (y.val == 0) = false := by simpa using e2
      have hw : IntKind.u64.wrap (sumV (t.outs.take k) + y.val) = sumV (t.outs.take k) + y.val := by unfold valOk at hval; simp [IntKind.wrap, IntKind.bits, IntKind.signed]; omega
      have HVAL := hide hval
      have hv0 := (HOK.out.2.2 y (List.mem_of_getElem? hy)).1
      clear hr hy hyl hB hall hval
      go_upto_region 11 with (first | (refine wpList_load_mid rfl 42 (.tmp 26) rfl b (off + k * 33) rfl (outC y) _ HXR.out Try.underlying42 rfl HN.out ?_) | (refine wp_store_row rfl 42 (.tmp 7) (.tmp 27) rfl wr.heap.size 0 (outC y) rfl rfl (HT.out wr) HN.out H1.out ?_))
      have hW : ((wr.alloc (.cells #[.int .u64 0, .int .u8 0, .int .u8 0, .int .u8 0, .int .u8 0, .int .u8 0, .int .u8 0, .int .u8 0, .int .u8 0, .int .u8 0, .int .u8 0, .int .u8 0, .int .u8 0, .int .u8 0, .int .u8 0, .int .u8 0, .int .u8 0, .int .u8 0, .int .u8 0, .int .u8 0, .int .u8 0, .int .u8 0, .int .u8 0, .int .u8 0, .int .u8 0, .int .u8 0, .int .u8 0, .int .u8 0, .int .u8 0, .int .u8 0, .int .u8 0, .int .u8 0, .int .u8 0] 42)).setCells wr.heap.size 0 (outC y)).rangeAt wr.heap.size 0 (outC y) := World.rangeAt_setCells_same _ _ _ _ (HT.out wr)
      have hB2 : Below wr.heap.size wr ((wr.alloc (.cells #[.int .u64 0, .int .u8 0, .int .u8 0, .int .u8 0, .int .u8 0, .int .u8 0, .int .u8 0, .int .u8 0, .int .u8 0, .int .u8 0, .int .u8 0, .int .u8 0, .int .u8 0, .int .u8 0, .int .u8 0, .int .u8 0, .int .u8 0, .int .u8 0, .int .u8 0, .int .u8 0, .int .u8 0, .int .u8 0, .int .u8 0, .int .u8 0, .int .u8 0, .int .u8 0, .int .u8 0, .int .u8 0, .int .u8 0, .int .u8 0, .int .u8 0, .int .u8 0, .int .u8 0] 42)).setCells wr.heap.size 0 (outC y)) := below_sets (Nat.le_refl _) _ _ _ ((Below.refl _ _).alloc (Nat.le_refl _) _)
      have c0 := hW 0 _ rfl
      simp only [Nat.add_zero] at c0
      generalize (wr.alloc (.cells #[.int .u64 0, .int .u8 0, .int .u8 0, .int .u8 0, .int .u8 0, .int .u8 0, .int .u8 0, .int .u8 0, .int .u8 0, .int .u8 0, .int .u8 0, .int .u8 0, .int .u8 0, .int .u8 0, .int .u8 0, .int .u8 0, .int .u8 0, .int .u8 0, .int .u8 0, .int .u8 0, .int .u8 0, .int .u8 0, .int .u8 0, .int .u8 0, .int .u8 0, .int .u8 0, .int .u8 0, .int .u8 0, .int .u8 0, .int .u8 0, .int .u8 0, .int .u8 0, .int .u8 0] 42)).setCells wr.heap.size 0 (outC y) = W2 at *
      have HB2 := hide (below_on HB.out hB2)
      clear hW hB2 HXR HN H1 HT HB
      generalize wr.heap.size = gb at *
      have R : Hid (Paying w3 t.outs (.int .u64 (sumV (t.outs.take k) + y.val)) (.int .i64 ((k + 1 : Nat) : Int)) W2) := hide ⟨k + 1, by omega, rfl, by rw [HNX.out], HB2.out, fun z hz => by
        rcases take_mem HY.out hz with q | rfl
        · exact HALL.out z q
        · exact HVAL.out⟩
      clear HALL HNX HY HVAL
      generalize sumV (t.outs.take k) = S at *
      generalize y.val = V at *
      simp only [Act.put]
      go_wp2
      go_roundw
      case rel => first | exact R.out | ((repeat apply Exists.intro); exact ⟨R.out, rfl⟩)
      case measure => simp [intOf]; omega
    · have hk2 : (t.outs.length : Int) ≤ (k : Int) := by omega
      have htk : t.outs.take k = t.outs := List.take_of_length_le (by omega)
      rw [htk] at hsb ⊢
      have hsm : ¬ (1125899906842624 < sumV t.outs) := by have := HPAY.out.2; omega
      have HB4 := hide (below_on HB3.out hB)
      have HT4 := hide (HT3.out.on hB)
      have HX4 := hide (HX3.out.on hB)
      obtain ⟨n0, n1, n2⟩ := HX4.out
      clear hB hall htk HB HB3 HT3 HX3
      generalize sumV t.outs = S at *
      go_wp2_with fail
      refine (PO.out _ HT4.out).mono ?_
      rintro e w5 ⟨v5, rfl, hb5, hrow5⟩
      have HR5 := hide hrow5.row
      obtain ⟨pa, pc, rfl, hp1, hp2⟩ := hrow5.row.form
      rw [List.length_map] at hp1 HR5
      have HB5 := hide (below_on HB4.out hb5)
      have HT5 := hide (HT4.out.on hb5)
      have HX5 := hide (HX4.out.on hb5)
      rw [List.length_map]
      have hl0 : ((t.ins.length : Int) == 0) = false := beq_eq_false_iff_ne.2 (by omega)
      have hl1 : ¬ (t.ins.length : Int) = 0 := by omega
      have hm0 : ((t.outs.length : Int) == 0) = false := beq_eq_false_iff_ne.2 (by omega)
      have hm1 : ¬ (t.outs.length : Int) = 0 := by omega
      have hm2 : ¬ (8 : Int) < (t.outs.length : Int) := by omega
      have hxw : IntKind.i64.wrap x = x := by simp [IntKind.wrap, IntKind.bits, IntKind.signed]; omega
      obtain ⟨j, hj⟩ : ∃ j : Nat, x % (t.ins.length : Int) = (j : Int) := ⟨(x % (t.ins.length : Int)).toNat, (Int.toNat_of_nonneg (Int.emod_nonneg _ (by omega))).symm⟩
      have hjl : j < t.ins.length := by have := Int.emod_lt_of_pos x (show (0 : Int) < (t.ins.length : Int) by omega); omega
      have hj2 : x.tmod (t.ins.length : Int) = (j : Int) := by rw [Int.tmod_eq_emod_of_nonneg x0, hj]
      clear n0 n1 n2
      obtain ⟨n0, n1, n2⟩ := HX5.out
      have HJ := hide hjl
      clear hb5 HB4 HT4 HX4 PO hrow5 hj hsb hlt8 hjl
      go_upto_region 20 with fail
      have HS : Hid (Maying w5 t.ins.length (.int .i64 0) w5) := hide ⟨0, Nat.zero_le _, rfl, Below.refl _ _⟩
      clear n0 n1 n2
      go_loopw [77] (fun i wr => Maying w5 t.ins.length i wr) (fun i _ => t.ins.length - (intOf i).toNat)
      case atStart => exact HS.out
      case round =>
        clear HS
        obtain ⟨i, hi, rfl, hB⟩ := hrel
        have HB := hide hB
        by_cases hlt : i < t.ins.length
        · obtain ⟨y, hy⟩ : ∃ y, t.ins[i]? = some y := ⟨_, List.getElem?_eq_getElem hlt⟩
          obtain ⟨z, hz⟩ : ∃ z, t.ins[j]? = some z := ⟨_, List.getElem?_eq_getElem HJ.out⟩
          obtain ⟨b, off, rfl, hr⟩ := (HR5.out.on hB).get (c := ptC y.tx y.n) (k := i) (by rw [List.getElem?_map, hy]; rfl)
          obtain ⟨b1, off1, e1, hr1⟩ := (HR5.out.on hB).get (c := ptC z.tx z.n) (k := j) (by rw [List.getElem?_map, hz]; rfl)
          cases e1
          obtain ⟨b2, off2, kv, rfl, hr2, hbv⟩ := (InsAt.on HT5.out.1 hB).get hy
          have hyl := (HOK.out.2.1 y (List.mem_of_getElem? hy)).1
          have hzl := (HOK.out.2.1 z (List.mem_of_getElem? hz)).1
          have hr3 : wr.rangeAt b2 (off2 + i * 34) (ptC y.tx y.n) := by
            rw [inC_pt] at hr2
            exact range_left hr2
          have hdec := nodup_pt HND.out hy hz
          have HXR := hide hr
          have HLY : Hid ((Try.prog.info? 46).map (·.size) = some (ptC y.tx y.n).length) := hide (by rw [ptC_length _ hyl]; exact info_pt)
          have HLZ : Hid ((Try.prog.info? 46).map (·.size) = some (ptC z.tx z.n).length) := hide (by rw [ptC_length _ hzl]; exact info_pt)
          have HTP : Hid ((wr.alloc (.cells #[.int .u8 0, .int .u8 0, .int .u8 0, .int .u8 0, .int .u8 0, .int .u8 0, .int .u8 0, .int .u8 0, .int .u8 0, .int .u8 0, .int .u8 0, .int .u8 0, .int .u8 0, .int .u8 0, .int .u8 0, .int .u8 0, .int .u8 0, .int .u8 0, .int .u8 0, .int .u8 0, .int .u8 0, .int .u8 0, .int .u8 0, .int .u8 0, .int .u8 0, .int .u8 0, .int .u8 0, .int .u8 0, .int .u8 0, .int .u8 0, .int .u8 0, .int .u8 0, .int .u32 0] 46)).there wr.heap.size 0 (ptC y.tx y.n).length) := hide (by rw [ptC_length _ hyl]; exact there_new wr #[.int .u8 0, .int .u8 0, .int .u8 0, .int .u8 0, .int .u8 0, .int .u8 0, .int .u8 0, .int .u8 0, .int .u8 0, .int .u8 0, .int .u8 0, .int .u8 0, .int .u8 0, .int .u8 0, .int .u8 0, .int .u8 0, .int .u8 0, .int .u8 0, .int .u8 0, .int .u8 0, .int .u8 0, .int .u8 0, .int .u8 0, .int .u8 0, .int .u8 0, .int .u8 0, .int .u8 0, .int .u8 0, .int .u8 0, .int .u8 0, .int .u8 0, .int .u8 0, .int .u32 0] _)
          have hk1 : (i : Int) < (t.ins.length : Int) := by omega
          have hjl : (j : Int) < (t.ins.length : Int) := by have := HJ.out; omega
          have EP : ∀ wx, (Op.equalIn 10000 46 (.agg (ptC y.tx y.n).toArray) (.agg (ptC z.tx z.n).toArray)).run Try.prog wx = .ok (decide (i = j)) wx := fun wx => by
            rw [eql_pt y.tx z.tx y.n z.n hyl hzl wx, hdec]
          have EQ : ∀ wx, (Op.equalIn 10000 46 (.agg (ptC y.tx y.n).toArray) (.agg (ptC y.tx y.n).toArray)).run Try.prog wx = .ok true wx := fun wx => by
            have := eql_pt y.tx y.tx y.n y.n hyl hyl wx
            simpa using this
          have hij : ((i : Int) == (j : Int)) = decide (i = j) := by
            by_cases e : i = j
            · subst e; simp
            · rw [decide_eq_false e]; exact beq_eq_false_iff_ne.2 (by omega)
          have hXX := (HX5.out.on hB).2.1
          clear hr hy hz hyl hzl hr2 hbv hdec hB
          go_upto_region 22 with (first | (refine wpList_load_mid rfl 46 (.tmp 80) rfl b (off + i * 33) rfl (ptC y.tx y.n) _ HXR.out Try.underlying46 rfl HLY.out ?_) | (refine wp_store_row rfl 46 (.tmp 11) (.tmp 81) rfl wr.heap.size 0 (ptC y.tx y.n) rfl rfl HTP.out HLY.out (ptC_one _ _) ?_))
          have hW : ((wr.alloc (.cells #[.int .u8 0, .int .u8 0, .int .u8 0, .int .u8 0, .int .u8 0, .int .u8 0, .int .u8 0, .int .u8 0, .int .u8 0, .int .u8 0, .int .u8 0, .int .u8 0, .int .u8 0, .int .u8 0, .int .u8 0, .int .u8 0, .int .u8 0, .int .u8 0, .int .u8 0, .int .u8 0, .int .u8 0, .int .u8 0, .int .u8 0, .int .u8 0, .int .u8 0, .int .u8 0, .int .u8 0, .int .u8 0, .int .u8 0, .int .u8 0, .int .u8 0, .int .u8 0, .int .u32 0] 46)).setCells wr.heap.size 0 (ptC y.tx y.n)).rangeAt wr.heap.size 0 (ptC y.tx y.n) := World.rangeAt_setCells_same _ _ _ _ HTP.out
          have hB2 : Below wr.heap.size wr ((wr.alloc (.cells #[.int .u8 0, .int .u8 0, .int .u8 0, .int .u8 0, .int .u8 0, .int .u8 0, .int .u8 0, .int .u8 0, .int .u8 0, .int .u8 0, .int .u8 0, .int .u8 0, .int .u8 0, .int .u8 0, .int .u8 0, .int .u8 0, .int .u8 0, .int .u8 0, .int .u8 0, .int .u8 0, .int .u8 0, .int .u8 0, .int .u8 0, .int .u8 0, .int .u8 0, .int .u8 0, .int .u8 0, .int .u8 0, .int .u8 0, .int .u8 0, .int .u8 0, .int .u8 0, .int .u32 0] 46)).setCells wr.heap.size 0 (ptC y.tx y.n)) := below_sets (Nat.le_refl _) _ _ _ ((Below.refl _ _).alloc (Nat.le_refl _) _)
          generalize (wr.alloc (.cells #[.int .u8 0, .int .u8 0, .int .u8 0, .int .u8 0, .int .u8 0, .int .u8 0, .int .u8 0, .int .u8 0, .int .u8 0, .int .u8 0, .int .u8 0, .int .u8 0, .int .u8 0, .int .u8 0, .int .u8 0, .int .u8 0, .int .u8 0, .int .u8 0, .int .u8 0, .int .u8 0, .int .u8 0, .int .u8 0, .int .u8 0, .int .u8 0, .int .u8 0, .int .u8 0, .int .u8 0, .int .u8 0, .int .u8 0, .int .u8 0, .int .u8 0, .int .u8 0, .int .u32 0] 46)).setCells wr.heap.size 0 (ptC y.tx y.n) = W6 at *
          have HP0 := hide hW
          have HP1 := hide (range_on hr1 hB2)
          have HP2 := hide (range_on hr3 hB2)
          have m1 := (hB2.cell (World.block_lt_of_cell? _ _ hXX)).trans hXX
          have HB6 := hide (below_on HB.out hB2)
          clear hW hB2 hr1 hr3 HXR HTP hXX HB
          generalize wr.heap.size = gb at *
          generalize ptC y.tx y.n = PY at *
          generalize ptC z.tx z.n = PZ at *
          generalize hr : decide (i = j) = r at *
          clear hr
          simp only [Act.put]
          refine wp_region_quiet_lit (by kernel_rfl) (by kernel_rfl) ?_
          repeat (first
            | (go_big_quiet_want; refine quiet_load 46 (.tmp 11) rfl gb 0 rfl PY _ (range_drewN HP0.out) Try.underlying46 rfl HLY.out ?_; go_simp; go_big_quiet_on)
            | (go_big_quiet_want; refine quiet_load 46 (.tmp 85) rfl b (off + j * 33) rfl PZ _ (range_drewN HP1.out) Try.underlying46 rfl HLZ.out ?_; go_simp; go_big_quiet_on)
            | (go_big_quiet_want; refine quiet_load 46 (.tmp 98) rfl b2 (off2 + i * 34) rfl PY _ (range_drewN HP2.out) Try.underlying46 rfl HLY.out ?_; go_simp; go_big_quiet_on)
            | (go_big_quiet_step (fail)))
          refine wpQuiet_nil ?_
          intro _ hw'
          obtain ⟨nq, hw''⟩ := hw'
          subst hw''
          have R : Hid (Maying w5 t.ins.length (.int .i64 ((i + 1 : Nat) : Int)) (W6.drewN nq)) := hide ⟨i + 1, by omega, rfl, HB6.out.trans ⟨rfl, rfl, rfl, Nat.le_refl _, fun _ _ => rfl⟩⟩
          clear HB6 m1 EP EQ HP0 HP1 HP2 HLY HLZ hij
          generalize W6.drewN nq = W7 at *
          go_wp2
          go_roundw
          case rel => first | exact R.out | ((repeat apply Exists.intro); exact ⟨R.out, rfl⟩)
          case measure => simp [intOf]; omega
        · have hi2 : (t.ins.length : Int) ≤ (i : Int) := by omega
          have HR6 := hide (HR5.out.on hB)
          have HT6 := hide (HT5.out.on hB)
          have HX6 := hide (HX5.out.on hB)
          have HB6 := hide (below_on HB5.out hB)
          obtain ⟨n0, n1, n2⟩ := HX6.out
          clear hB HB HR5 HT5 HX5 HB5
          obtain ⟨z, hz⟩ : ∃ z, t.ins[j]? = some z := ⟨_, List.getElem?_eq_getElem HJ.out⟩
          obtain ⟨b, off, rfl, hr⟩ := HR6.out.get (c := ptC z.tx z.n) (k := j) (by rw [List.getElem?_map, hz]; rfl)
          have hzm := List.mem_of_getElem? hz
          have hzl := (HOK.out.2.1 z hzm).1
          obtain ⟨D, hD, hrow, hkeys⟩ := HT6.out.1
          have hDl : D.length = t.ins.length := by have := congrArg List.length hD; simpa using this
          have hDx : ∀ x ∈ D, x.1.tx.length = 32 ∧ x.2.oneCell' = true := fun y hy => ⟨(HOK.out.2.1 y.1 (by rw [← hD]; exact List.mem_map_of_mem hy)).1, (hkeys y hy).oneCell⟩
          have hS : ∀ wx, Below wr.heap.size wr wx → wx.rangeAt b (off + j * 33) (ptC z.tx z.n) ∧ wx.cell? ⟨w.heap.size, 1, none⟩ = some (.slice a t.ins.length cap) := fun wx h => ⟨range_on hr h, (h.cell (World.block_lt_of_cell? _ _ n1)).trans n1⟩
          have hjl : (j : Int) < (t.ins.length : Int) := by have := HJ.out; omega
          have HLP : Hid ((Try.prog.info? 46).map (·.size) = some (ptC z.tx z.n).length) := hide (by rw [ptC_length _ hzl]; exact info_pt)
          have hlp : (ptC z.tx z.n).length = 33 := ptC_length _ hzl
          have hs1 := in_size z.n hzl
          have hs2 : ∀ kv : Value, (List.foldl (fun (cs : Array Value) (x : Value × Nat) => cs.setIfInBounds x.2 x.1) #[.int .u8 0, .int .u8 0, .int .u8 0, .int .u8 0, .int .u8 0, .int .u8 0, .int .u8 0, .int .u8 0, .int .u8 0, .int .u8 0, .int .u8 0, .int .u8 0, .int .u8 0, .int .u8 0, .int .u8 0, .int .u8 0, .int .u8 0, .int .u8 0, .int .u8 0, .int .u8 0, .int .u8 0, .int .u8 0, .int .u8 0, .int .u8 0, .int .u8 0, .int .u8 0, .int .u8 0, .int .u8 0, .int .u8 0, .int .u8 0, .int .u8 0, .int .u8 0, .int .u32 0, .slice none 0 0] (ptC z.tx z.n).zipIdx).setIfInBounds 33 kv = (inC (⟨z.tx, z.n, [x]⟩, kv)).toArray := fun kv => in_built ⟨z.tx, z.n, [x]⟩ kv hzl
          have hlen : ∀ kv : Value, (inC (⟨z.tx, z.n, [x]⟩, kv)).length = 34 := fun kv => inC_length (x := (⟨z.tx, z.n, [x]⟩, kv)) hzl
          have hone : ∀ kv : Value, List.foldl (fun (cs : Array Value) (x : Value × Nat) => cs.setIfInBounds x.2 x.1) #[.int .u8 0, .int .u8 0, .int .u8 0, .int .u8 0, .int .u8 0, .int .u8 0, .int .u8 0, .int .u8 0, .int .u8 0, .int .u8 0, .int .u8 0, .int .u8 0, .int .u8 0, .int .u8 0, .int .u8 0, .int .u8 0, .int .u8 0, .int .u8 0, .int .u8 0, .int .u8 0, .int .u8 0, .int .u8 0, .int .u8 0, .int .u8 0, .int .u8 0, .int .u8 0, .int .u8 0, .int .u8 0, .int .u8 0, .int .u8 0, .int .u8 0, .int .u8 0, .int .u32 0, .slice none 0 0] (inC (⟨z.tx, z.n, [x]⟩, kv)).zipIdx = (inC (⟨z.tx, z.n, [x]⟩, kv)).toArray := fun kv => fold_whole _ #[.int .u8 0, .int .u8 0, .int .u8 0, .int .u8 0, .int .u8 0, .int .u8 0, .int .u8 0, .int .u8 0, .int .u8 0, .int .u8 0, .int .u8 0, .int .u8 0, .int .u8 0, .int .u8 0, .int .u8 0, .int .u8 0, .int .u8 0, .int .u8 0, .int .u8 0, .int .u8 0, .int .u8 0, .int .u8 0, .int .u8 0, .int .u8 0, .int .u8 0, .int .u8 0, .int .u8 0, .int .u8 0, .int .u8 0, .int .u8 0, .int .u8 0, .int .u8 0, .int .u32 0, .slice none 0 0] (hlen kv).symm
          have HI0 : Hid (0 < t.ins.length) := hide hi0
          have HI8 : Hid (t.ins.length ≤ 8) := hide hi8
          have CM : Hid (∀ (Wf : World) (va : Option Addr) (vc : Nat), InsAt Wf (.slice va (t.ins.length + 1) vc) (t.ins ++ [⟨z.tx, z.n, [x]⟩]) → OutsAt Wf (.slice a' t.outs.length cap') t.outs → Calls Try.prog 13 #[.agg #[.int .u32 t.ver, .slice va (t.ins.length + 1) vc, .slice a' t.outs.length cap']] Wf fun e w' => e = .returned (.int .i64 (if 8 ≤ t.ins.length then 5 else 12)) ∧ Below Wf.heap.size Wf w') := hide (fun Wf va vc hi ho => by
            have h := tcheck_any (moreIn t z x) (.slice va (t.ins.length + 1) vc) (.slice a' t.outs.length cap') Wf ⟨hi, ho⟩ (moreIn_ok HOK.out hzm ⟨x0, x1⟩) true true ⟨fun _ => HPAY.out, fun _ => rfl⟩ (moreIn_twice hzm x)
            rw [moreIn_check HFORM.out z x ho0] at h
            exact h)
          have HOUT : Hid (∀ Wf, Below wr.heap.size wr Wf → OutsAt Wf (.slice a' t.outs.length cap') t.outs) := hide (fun Wf h => OutsAt.on HT6.out.2 h)
          have HBB : Hid (∀ Wf, Below wr.heap.size wr Wf → Below w.heap.size w Wf) := hide (fun Wf h => below_on HB6.out h)
          have HDD := hide hD
          have hwlt : w.heap.size < wr.heap.size := World.block_lt_of_cell? _ _ n0
          have HWL := hide hwlt
          clear hz hr HR6 HT6 HX6 hD hwlt
          go_upto_region 26 with fail
          have hwa : Below wr.heap.size wr (wr.alloc (.cells #[.int .u32 t.ver, .slice a t.ins.length cap, .slice a' t.outs.length cap'] 28)) := below_new _ _
          have HSZ : Hid ((wr.alloc (.cells #[.int .u32 t.ver, .slice a t.ins.length cap, .slice a' t.outs.length cap'] 28)).heap.size = wr.heap.size + 1) := hide (alloc_size _ _)
          have HBX : Hid (TxBox (wr.alloc (.cells #[.int .u32 t.ver, .slice a t.ins.length cap, .slice a' t.outs.length cap'] 28)) wr.heap.size t.ver (.slice a t.ins.length cap) (.slice a' t.outs.length cap')) := hide (by
            have hr := range_new wr [.int .u32 t.ver, .slice a t.ins.length cap, .slice a' t.outs.length cap'] 28
            have n0 := hr 0 _ rfl
            have n1 := hr 1 _ rfl
            have n2 := hr 2 _ rfl
            simp only [Nat.add_zero, Nat.zero_add] at n0 n1 n2
            exact ⟨n0, n1, n2, there_new wr _ _⟩)
          generalize wr.alloc (.cells #[.int .u32 t.ver, .slice a t.ins.length cap, .slice a' t.outs.length cap'] 28) = WA at *
          clear n0 n1 n2
          refine wp_region_held_drew (S := fun wx => wx.rangeAt b (off + j * 33) (ptC z.tx z.n) ∧ wx.cell? ⟨w.heap.size, 1, none⟩ = some (.slice a t.ins.length cap)) (by kernel_rfl) (hS _ (Below.drew hwa)) (fun hHeld => ?_)
          refine wpAnyH_take (i := 1) (oi := { dst := some 105, op := Op.fieldAddr 28 (Operand.tmp 2) 1, type := 0, pos := "law.go:204", after := #[], guard := none }) (v := .pointer (some ⟨w.heap.size, 1, none⟩)) rfl (by kernel_rfl) (by kernel_rfl) (by kernel_rfl) (fun _ _ _ h => h) (Or.inl ⟨by rfl, fun w _ => by go_simp⟩) (by assumption) ?_
          simp only [Act.put, List.setIfInBounds_toArray, List.set_cons_zero, List.set_cons_succ]
          refine wpAnyH_take (i := 2) (oi := { dst := some 106, op := Op.load 25 (Operand.tmp 105), type := 25, pos := "law.go:204", after := #[{ on := 1, ground := Ground.data }], guard := none }) (v := .slice a t.ins.length cap) rfl (by kernel_rfl) (by kernel_rfl) (by kernel_rfl) (fun _ _ _ h => h) (Or.inl ⟨by rfl, fun wx h => by obtain ⟨-, h2⟩ := h; go_simp⟩) (by assumption) ?_
          simp only [Act.put, List.setIfInBounds_toArray, List.set_cons_zero, List.set_cons_succ]
          refine wpAnyH_take (i := 4) (oi := { dst := some 108, op := Op.move (Operand.tmp 8), type := 43, pos := "law.go:204", after := #[], guard := none }) (v := .slice (some ⟨b, off, none⟩) t.ins.length pc) rfl (by kernel_rfl) (by kernel_rfl) (by kernel_rfl) (fun _ _ _ h => h) (Or.inl ⟨by rfl, fun w _ => by go_simp⟩) (by assumption) ?_
          simp only [Act.put, List.setIfInBounds_toArray, List.set_cons_zero, List.set_cons_succ]
          refine wpAnyH_take (i := 5) (oi := { dst := some 109, op := Op.move (Operand.tmp 9), type := 3, pos := "law.go:204", after := #[], guard := none }) (v := .int .i64 j) rfl (by kernel_rfl) (by kernel_rfl) (by kernel_rfl) (fun _ _ _ h => h) (Or.inl ⟨by rfl, fun w _ => by go_simp⟩) (by assumption) ?_
          simp only [Act.put, List.setIfInBounds_toArray, List.set_cons_zero, List.set_cons_succ]
          refine wpAnyH_take (i := 6) (oi := { dst := some 110, op := Op.indexAddr 43 (Operand.tmp 108) (Operand.tmp 109), type := 0, pos := "law.go:204", after := #[{ on := 4, ground := Ground.data }, { on := 5, ground := Ground.data }], guard := none }) (v := .pointer (some ⟨b, off + j * 33, none⟩)) rfl (by kernel_rfl) (by kernel_rfl) (by kernel_rfl) (fun _ _ _ h => h) (Or.inl ⟨by rfl, fun w _ => by go_simp⟩) (by assumption) ?_
          simp only [Act.put, List.setIfInBounds_toArray, List.set_cons_zero, List.set_cons_succ]
          refine wpAnyH_take (i := 7) (oi := { dst := some 111, op := Op.load 46 (Operand.tmp 110), type := 46, pos := "law.go:204", after := #[{ on := 6, ground := Ground.data }], guard := none }) (v := .agg (ptC z.tx z.n).toArray) rfl (by kernel_rfl) (by kernel_rfl) (by kernel_rfl) (fun _ _ _ h => h) (yieldsIf_load_mid (by rfl) 46 (.tmp 110) rfl b (off + j * 33) rfl (ptC z.tx z.n) _ (fun w h => h.1) Try.underlying46 rfl HLP.out) (by assumption) ?_
          simp only [Act.put, List.setIfInBounds_toArray, List.set_cons_zero, List.set_cons_succ]
          refine wpAnyH_take (i := 8) (oi := { dst := some 112, op := Op.move (Operand.tmp 1), type := 5, pos := "law.go:204", after := #[], guard := none }) (v := .int .u8 x) rfl (by kernel_rfl) (by kernel_rfl) (by kernel_rfl) (fun _ _ _ h => h) (Or.inl ⟨by rfl, fun w _ => by go_simp⟩) (by assumption) ?_
          simp only [Act.put, List.setIfInBounds_toArray, List.set_cons_zero, List.set_cons_succ]
          refine wpAnyH_ready (rs := [0, 9]) (by kernel_rfl) (by simp) (AllReadyH.cons (o := { dst := some 104, op := Op.buildSlice 25 0 #[], type := 25, pos := "law.go:204", after := #[], guard := none }) rfl (fun K hK => ?_) (AllReadyH.cons (o := { dst := some 113, op := Op.buildSlice 22 1 #[(0, Operand.tmp 112)], type := 22, pos := "law.go:204", after := #[{ on := 8, ground := Ground.data }], guard := none }) rfl (fun K hK => ?_) AllReadyH.nil))
          · go_simp
            refine hK.out _ _ ?_ (fun hHeld => ?_)
            · (refine hS _ ?_; repeat (first | exact hwa | exact hb3 | refine Below.drew ?_ | refine below_alloc' ?_ _))
            clear hK K
            try simp only [Act.put, List.setIfInBounds_toArray, List.set_cons_zero, List.set_cons_succ]
            refine wpAnyH_ready (rs := [3, 9]) (by kernel_rfl) (by simp) (AllReadyH.cons (o := { dst := some 107, op := Op.call { callee := Callee.builtin Builtin.append, args := #[Operand.tmp 104, Operand.tmp 106], argTypes := #[25, 25] }, type := 25, pos := "law.go:204", after := #[{ on := 0, ground := Ground.data }, { on := 2, ground := Ground.data }], guard := none }) rfl (fun K hK => ?_) (AllReadyH.cons (o := { dst := some 113, op := Op.buildSlice 22 1 #[(0, Operand.tmp 112)], type := 22, pos := "law.go:204", after := #[{ on := 8, ground := Ground.data }], guard := none }) rfl (fun K hK => ?_) AllReadyH.nil))
            · have hbW : Below wr.heap.size wr (WA.alloc (.cells #[] 48)) := below_alloc' (hwa) _
              have ho : RowOwn (WA.alloc (.cells #[] 48)) (wr.heap.size + 1) 48 34 (.slice (some ⟨WA.heap.size, 0, none⟩) 0 0) [] := by have h := RowOwn.made WA (wr.heap.size + 1) (by (try simp only [alloc_size]); have := HSZ.out; omega) 48 34;  exact h
              obtain ⟨ra, rc, w3, hrun3, hown3, hb3, hsz3, hblk3, hwh3⟩ := may3 (WA.alloc (.cells #[] 48)) hbW (wr.heap.size + 1) (Nat.le_succ _) (by (try simp only [alloc_size]); have := HSZ.out; omega) (.slice (some ⟨WA.heap.size, 0, none⟩) 0 0) (ho) D a t.ins.length cap hDl HI0.out HI8.out hrow hDx
              clear hbW ho
              refine step_app rfl (.tmp 104) (.tmp 106) 25 rfl rfl rfl hrun3 ?_
              refine hK.out _ _ ?_ (fun hHeld => ?_)
              · exact hS _ hb3
              clear hK K
              try simp only [Act.put, List.setIfInBounds_toArray, List.set_cons_zero, List.set_cons_succ]
              refine wpAnyH_ready (rs := [9]) (by kernel_rfl) (by simp) (AllReadyH.cons (o := { dst := some 113, op := Op.buildSlice 22 1 #[(0, Operand.tmp 112)], type := 22, pos := "law.go:204", after := #[{ on := 8, ground := Ground.data }], guard := none }) rfl (fun K hK => ?_) AllReadyH.nil)
              go_simp
              refine hK.out _ _ ?_ (fun hHeld => ?_)
              · (refine hS _ ?_; repeat (first | exact hwa | exact hb3 | refine Below.drew ?_ | refine below_alloc' ?_ _))
              clear hK K
              try simp only [Act.put, List.setIfInBounds_toArray, List.set_cons_zero, List.set_cons_succ]
              refine wpAnyH_take (i := 10) (oi := { dst := some 114, op := Op.build 48 #[(0, Operand.tmp 111), (1, Operand.tmp 113)], type := 48, pos := "law.go:204", after := #[{ on := 7, ground := Ground.data }, { on := 9, ground := Ground.data }], guard := none }) (v := .agg (inC (⟨z.tx, z.n, [x]⟩, .slice (some ⟨w3.heap.size, 0, none⟩) 1 1)).toArray) rfl (by kernel_rfl) (by kernel_rfl) (by kernel_rfl) (fun _ _ _ h => h) (Or.inl ⟨by rfl, fun w _ => by go_simp⟩) (by assumption) ?_
              simp only [Act.put, List.setIfInBounds_toArray, List.set_cons_zero, List.set_cons_succ]
              refine wpAnyH_ready (rs := [11]) (by kernel_rfl) (by simp) (AllReadyH.cons (o := { dst := some 115, op := Op.buildSlice 25 1 #[(0, Operand.tmp 114)], type := 25, pos := "law.go:204", after := #[{ on := 10, ground := Ground.data }], guard := none }) rfl (fun K hK => ?_) AllReadyH.nil)
              go_simp
              refine hK.out _ _ ?_ (fun hHeld => ?_)
              · (refine hS _ ?_; repeat (first | exact hwa | exact hb3 | refine Below.drew ?_ | refine below_alloc' ?_ _))
              clear hK K
              try simp only [Act.put, List.setIfInBounds_toArray, List.set_cons_zero, List.set_cons_succ]
              refine wpAnyH_ready (rs := [12]) (by kernel_rfl) (by simp) (AllReadyH.cons (o := { dst := some 116, op := Op.call { callee := Callee.builtin Builtin.append, args := #[Operand.tmp 107, Operand.tmp 115], argTypes := #[25, 25] }, type := 25, pos := "law.go:204", after := #[{ on := 3, ground := Ground.data }, { on := 11, ground := Ground.data }, { on := 3, ground := Ground.chain }], guard := none }) rfl (fun K hK => ?_) AllReadyH.nil)
              simp only [alloc_size] at hsz3
              have hk0 : Bytes (w3.alloc (.cells #[.int .u8 x] 5)) (.slice (some ⟨w3.heap.size, 0, none⟩) 1 1) [x] := by have h := Bytes.one w3 x;  exact h
              have hk : Bytes ((w3.alloc (.cells #[.int .u8 x] 5)).alloc (.cells (inC (⟨z.tx, z.n, [x]⟩, .slice (some ⟨w3.heap.size, 0, none⟩) 1 1)).toArray 48)) (.slice (some ⟨w3.heap.size, 0, none⟩) 1 1) [x] := (hk0).alloc _
              have hq0 : World.rangeAt ((w3.alloc (.cells #[.int .u8 x] 5)).alloc (.cells (inC (⟨z.tx, z.n, [x]⟩, .slice (some ⟨w3.heap.size, 0, none⟩) 1 1)).toArray 48)) (w3.heap.size + 1) 0 (inC (⟨z.tx, z.n, [x]⟩, .slice (some ⟨w3.heap.size, 0, none⟩) 1 1)) := by have h := range_new (w3.alloc (.cells #[.int .u8 x] 5)) (inC (⟨z.tx, z.n, [x]⟩, .slice (some ⟨w3.heap.size, 0, none⟩) 1 1)) 48; rw [alloc_size] at h; exact h
              have hq : World.rangeAt ((w3.alloc (.cells #[.int .u8 x] 5)).alloc (.cells (inC (⟨z.tx, z.n, [x]⟩, .slice (some ⟨w3.heap.size, 0, none⟩) 1 1)).toArray 48)) (w3.heap.size + 1) 0 (inC (⟨z.tx, z.n, [x]⟩, .slice (some ⟨w3.heap.size, 0, none⟩) 1 1)) := hq0
              have hbx : TxBox ((w3.alloc (.cells #[.int .u8 x] 5)).alloc (.cells (inC (⟨z.tx, z.n, [x]⟩, .slice (some ⟨w3.heap.size, 0, none⟩) 1 1)).toArray 48)) wr.heap.size t.ver (.slice a t.ins.length cap) (.slice a' t.outs.length cap') := TxBox.alloc' (TxBox.alloc' ((TxBox.heap (TxBox.alloc' (HBX.out) _) (hblk3 wr.heap.size (by (try simp only [alloc_size]); have := HSZ.out; omega) (fun e => by have e' : WA.heap.size = wr.heap.size := Option.some.inj e; have := HSZ.out; omega)))) _) _
              obtain ⟨va, vc, w12, hrun12, hcell, hfrz, hb12, hbf, hif, hxf⟩ := may12 ((w3.alloc (.cells #[.int .u8 x] 5)).alloc (.cells (inC (⟨z.tx, z.n, [x]⟩, .slice (some ⟨w3.heap.size, 0, none⟩) 1 1)).toArray 48)) (below_alloc' (below_alloc' (hb3) _) _) t.ins.length ra rc D (((hown3).alloc' _).alloc' _) HI8.out hDl hkeys ⟨z.tx, z.n, [x]⟩ (w3.heap.size) (.slice (some ⟨w3.heap.size, 0, none⟩) 1 1) rfl hk (by have := HSZ.out; omega) (by (try simp only [alloc_size]); have := HSZ.out; omega) (fun e => by have h := hown3.lt _ e; omega) (w3.heap.size + 1) hq hzl t.ver (.slice a t.ins.length cap) (.slice a' t.outs.length cap') hbx (by (try simp only [alloc_size]); have := HSZ.out; omega)
              clear hk0 hk hq0 hq hbx
              refine step_app rfl (.tmp 107) (.tmp 115) 25 rfl rfl rfl hrun12 ?_
              refine hK.out _ _ ?_ (fun hHeld => ?_)
              · exact hS _ hb12
              clear hK K
              try simp only [Act.put, List.setIfInBounds_toArray, List.set_cons_zero, List.set_cons_succ]
              refine wpAnyH_take (i := 13) (oi := { dst := some 117, op := Op.fieldAddr 28 (Operand.tmp 12) 1, type := 0, pos := "law.go:204", after := #[{ on := 0, ground := Ground.phase }, { on := 1, ground := Ground.phase }, { on := 2, ground := Ground.phase }, { on := 3, ground := Ground.phase }, { on := 4, ground := Ground.phase }, { on := 5, ground := Ground.phase }, { on := 6, ground := Ground.phase }, { on := 7, ground := Ground.phase }, { on := 8, ground := Ground.phase }, { on := 9, ground := Ground.phase }, { on := 10, ground := Ground.phase }, { on := 11, ground := Ground.phase }, { on := 12, ground := Ground.phase }], guard := none }) (v := .pointer (some ⟨wr.heap.size, 1, none⟩)) rfl (by kernel_rfl) (by kernel_rfl) (by kernel_rfl) (fun _ _ _ h => h) (Or.inl ⟨by rfl, fun w _ => by go_simp⟩) (by assumption) ?_
              simp only [Act.put, List.setIfInBounds_toArray, List.set_cons_zero, List.set_cons_succ]
              refine wpAnyH_ready (rs := [14]) (by kernel_rfl) (by simp) (AllReadyH.cons (o := { dst := none, op := Op.store 25 (Operand.tmp 117) (Operand.tmp 116), type := 0, pos := "law.go:204", after := #[{ on := 13, ground := Ground.data }, { on := 12, ground := Ground.data }, { on := 12, ground := Ground.chain }, { on := 0, ground := Ground.phase }, { on := 1, ground := Ground.phase }, { on := 2, ground := Ground.phase }, { on := 3, ground := Ground.phase }, { on := 4, ground := Ground.phase }, { on := 5, ground := Ground.phase }, { on := 6, ground := Ground.phase }, { on := 7, ground := Ground.phase }, { on := 8, ground := Ground.phase }, { on := 9, ground := Ground.phase }, { on := 10, ground := Ground.phase }, { on := 11, ground := Ground.phase }, { on := 12, ground := Ground.phase }], guard := none }) rfl (fun K hK => ?_) AllReadyH.nil)
              go_simp
              refine hK.out _ _ ?_ (fun hHeld => ?_)
              · exact hS _ hbf
              clear hK K
              try simp only [Act.put, List.setIfInBounds_toArray, List.set_cons_zero, List.set_cons_succ]
              refine wpAnyH_done (by kernel_rfl) ?_ _
              have HBF := hide hbf
              have HIF := hide hif
              have HXF := hide hxf
              have hc1f := (hS _ hbf).2
              generalize w12.setCell ⟨wr.heap.size, 1, none⟩ (.slice va (t.ins.length + 1) vc) = Wf at *
              have HE := hide (HBB.out _ HBF.out)
              have C8 := hide (CM.out Wf va vc (by have h := HIF.out; rw [HDD.out] at h; exact h) (HOUT.out _ HBF.out))
              obtain ⟨y0, y1, y2, -⟩ := HXF.out
              clear hHeld hcell hfrz hb12 hbf hif hxf hrun12 hrun3 hown3 hb3 hsz3 hblk3 hwh3 hS hs1 hs2 hone hlen hlp hrow hkeys hDl hDx hwa CM HIF HXF HOUT HBB HBF HBX HSZ
              by_cases h8 : 8 ≤ t.ins.length
              · have e8 : (8 : Int) ≤ (t.ins.length : Int) := by omega
                rw [if_pos h8] at C8
                clear h8
                go_wp2_with fail
                refine C8.out.mono ?_
                rintro e w7 ⟨rfl, hb7⟩
                have HE7 := hide (below_on HE.out hb7)
                clear hb7 C8 HE y0 y1 y2 hc1f
                go_wp2
                go_ret
                exact ⟨rfl, HE7.out⟩
              · have e8 : ¬ (8 : Int) ≤ (t.ins.length : Int) := by omega
                rw [if_neg h8] at C8
                clear h8
                go_wp2_with fail
                refine C8.out.mono ?_
                rintro e w7 ⟨rfl, hb7⟩
                have HE7 := hide (below_on HE.out hb7)
                clear hb7 C8 HE y0 y1 y2 hc1f
                go_wp2
                go_ret
                exact ⟨rfl, HE7.out⟩
            · go_simp
              refine hK.out _ _ ?_ (fun hHeld => ?_)
              · (refine hS _ ?_; repeat (first | exact hwa | exact hb3 | refine Below.drew ?_ | refine below_alloc' ?_ _))
              clear hK K
              try simp only [Act.put, List.setIfInBounds_toArray, List.set_cons_zero, List.set_cons_succ]
              refine wpAnyH_take (i := 10) (oi := { dst := some 114, op := Op.build 48 #[(0, Operand.tmp 111), (1, Operand.tmp 113)], type := 48, pos := "law.go:204", after := #[{ on := 7, ground := Ground.data }, { on := 9, ground := Ground.data }], guard := none }) (v := .agg (inC (⟨z.tx, z.n, [x]⟩, .slice (some ⟨WA.heap.size + 1, 0, none⟩) 1 1)).toArray) rfl (by kernel_rfl) (by kernel_rfl) (by kernel_rfl) (fun _ _ _ h => h) (Or.inl ⟨by rfl, fun w _ => by go_simp⟩) (by assumption) ?_
              simp only [Act.put, List.setIfInBounds_toArray, List.set_cons_zero, List.set_cons_succ]
              refine wpAnyH_ready (rs := [3, 11]) (by kernel_rfl) (by simp) (AllReadyH.cons (o := { dst := some 107, op := Op.call { callee := Callee.builtin Builtin.append, args := #[Operand.tmp 104, Operand.tmp 106], argTypes := #[25, 25] }, type := 25, pos := "law.go:204", after := #[{ on := 0, ground := Ground.data }, { on := 2, ground := Ground.data }], guard := none }) rfl (fun K hK => ?_) (AllReadyH.cons (o := { dst := some 115, op := Op.buildSlice 25 1 #[(0, Operand.tmp 114)], type := 25, pos := "law.go:204", after := #[{ on := 10, ground := Ground.data }], guard := none }) rfl (fun K hK => ?_) AllReadyH.nil))
              · have hbW : Below wr.heap.size wr ((WA.alloc (.cells #[] 48)).alloc (.cells #[.int .u8 x] 5)) := below_alloc' (below_alloc' (hwa) _) _
                have ho : RowOwn (WA.alloc (.cells #[] 48)) (wr.heap.size + 1) 48 34 (.slice (some ⟨WA.heap.size, 0, none⟩) 0 0) [] := by have h := RowOwn.made WA (wr.heap.size + 1) (by (try simp only [alloc_size]); have := HSZ.out; omega) 48 34;  exact h
                obtain ⟨ra, rc, w3, hrun3, hown3, hb3, hsz3, hblk3, hwh3⟩ := may3 ((WA.alloc (.cells #[] 48)).alloc (.cells #[.int .u8 x] 5)) hbW (wr.heap.size + 1) (Nat.le_succ _) (by (try simp only [alloc_size]); have := HSZ.out; omega) (.slice (some ⟨WA.heap.size, 0, none⟩) 0 0) ((ho).alloc' _) D a t.ins.length cap hDl HI0.out HI8.out hrow hDx
                clear hbW ho
                refine step_app rfl (.tmp 104) (.tmp 106) 25 rfl rfl rfl hrun3 ?_
                refine hK.out _ _ ?_ (fun hHeld => ?_)
                · exact hS _ hb3
                clear hK K
                try simp only [Act.put, List.setIfInBounds_toArray, List.set_cons_zero, List.set_cons_succ]
                refine wpAnyH_ready (rs := [11]) (by kernel_rfl) (by simp) (AllReadyH.cons (o := { dst := some 115, op := Op.buildSlice 25 1 #[(0, Operand.tmp 114)], type := 25, pos := "law.go:204", after := #[{ on := 10, ground := Ground.data }], guard := none }) rfl (fun K hK => ?_) AllReadyH.nil)
                go_simp
                refine hK.out _ _ ?_ (fun hHeld => ?_)
                · (refine hS _ ?_; repeat (first | exact hwa | exact hb3 | refine Below.drew ?_ | refine below_alloc' ?_ _))
                clear hK K
                try simp only [Act.put, List.setIfInBounds_toArray, List.set_cons_zero, List.set_cons_succ]
                refine wpAnyH_ready (rs := [12]) (by kernel_rfl) (by simp) (AllReadyH.cons (o := { dst := some 116, op := Op.call { callee := Callee.builtin Builtin.append, args := #[Operand.tmp 107, Operand.tmp 115], argTypes := #[25, 25] }, type := 25, pos := "law.go:204", after := #[{ on := 3, ground := Ground.data }, { on := 11, ground := Ground.data }, { on := 3, ground := Ground.chain }], guard := none }) rfl (fun K hK => ?_) AllReadyH.nil)
                simp only [alloc_size] at hsz3
                have hk0 : Bytes ((WA.alloc (.cells #[] 48)).alloc (.cells #[.int .u8 x] 5)) (.slice (some ⟨WA.heap.size + 1, 0, none⟩) 1 1) [x] := by have h := Bytes.one (WA.alloc (.cells #[] 48)) x; rw [alloc_size] at h; exact h
                have hk1 : Bytes ((WA.alloc (.cells #[] 48)).alloc (.cells #[.int .u8 x] 5)) (.slice (some ⟨WA.heap.size + 1, 0, none⟩) 1 1) [x] := hk0
                have hk : Bytes (w3.alloc (.cells (inC (⟨z.tx, z.n, [x]⟩, .slice (some ⟨WA.heap.size + 1, 0, none⟩) 1 1)).toArray 48)) (.slice (some ⟨WA.heap.size + 1, 0, none⟩) 1 1) [x] := (kept_key hk1 (hblk3 (WA.heap.size + 1) (by (try simp only [alloc_size]); have := HSZ.out; omega) (fun e => by have e' : WA.heap.size = WA.heap.size + 1 := Option.some.inj e; omega))).alloc _
                have hq0 : World.rangeAt (w3.alloc (.cells (inC (⟨z.tx, z.n, [x]⟩, .slice (some ⟨WA.heap.size + 1, 0, none⟩) 1 1)).toArray 48)) (w3.heap.size) 0 (inC (⟨z.tx, z.n, [x]⟩, .slice (some ⟨WA.heap.size + 1, 0, none⟩) 1 1)) := by have h := range_new w3 (inC (⟨z.tx, z.n, [x]⟩, .slice (some ⟨WA.heap.size + 1, 0, none⟩) 1 1)) 48;  exact h
                have hq : World.rangeAt (w3.alloc (.cells (inC (⟨z.tx, z.n, [x]⟩, .slice (some ⟨WA.heap.size + 1, 0, none⟩) 1 1)).toArray 48)) (w3.heap.size) 0 (inC (⟨z.tx, z.n, [x]⟩, .slice (some ⟨WA.heap.size + 1, 0, none⟩) 1 1)) := hq0
                have hbx : TxBox (w3.alloc (.cells (inC (⟨z.tx, z.n, [x]⟩, .slice (some ⟨WA.heap.size + 1, 0, none⟩) 1 1)).toArray 48)) wr.heap.size t.ver (.slice a t.ins.length cap) (.slice a' t.outs.length cap') := TxBox.alloc' ((TxBox.heap (TxBox.alloc' (TxBox.alloc' (HBX.out) _) _) (hblk3 wr.heap.size (by (try simp only [alloc_size]); have := HSZ.out; omega) (fun e => by have e' : WA.heap.size = wr.heap.size := Option.some.inj e; have := HSZ.out; omega)))) _
                obtain ⟨va, vc, w12, hrun12, hcell, hfrz, hb12, hbf, hif, hxf⟩ := may12 (w3.alloc (.cells (inC (⟨z.tx, z.n, [x]⟩, .slice (some ⟨WA.heap.size + 1, 0, none⟩) 1 1)).toArray 48)) (below_alloc' (hb3) _) t.ins.length ra rc D ((hown3).alloc' _) HI8.out hDl hkeys ⟨z.tx, z.n, [x]⟩ (WA.heap.size + 1) (.slice (some ⟨WA.heap.size + 1, 0, none⟩) 1 1) rfl hk (by have := HSZ.out; omega) (by (try simp only [alloc_size]); have := HSZ.out; omega) (fun e => (hwh3 _ e).elim (fun h => by have e' : WA.heap.size = WA.heap.size + 1 := Option.some.inj h; omega) (fun h => by (try simp only [alloc_size] at h); omega)) (w3.heap.size) hq hzl t.ver (.slice a t.ins.length cap) (.slice a' t.outs.length cap') hbx (by (try simp only [alloc_size]); have := HSZ.out; omega)
                clear hk0 hk hq0 hq hbx hk1
                refine step_app rfl (.tmp 107) (.tmp 115) 25 rfl rfl rfl hrun12 ?_
                refine hK.out _ _ ?_ (fun hHeld => ?_)
                · exact hS _ hb12
                clear hK K
                try simp only [Act.put, List.setIfInBounds_toArray, List.set_cons_zero, List.set_cons_succ]
                refine wpAnyH_take (i := 13) (oi := { dst := some 117, op := Op.fieldAddr 28 (Operand.tmp 12) 1, type := 0, pos := "law.go:204", after := #[{ on := 0, ground := Ground.phase }, { on := 1, ground := Ground.phase }, { on := 2, ground := Ground.phase }, { on := 3, ground := Ground.phase }, { on := 4, ground := Ground.phase }, { on := 5, ground := Ground.phase }, { on := 6, ground := Ground.phase }, { on := 7, ground := Ground.phase }, { on := 8, ground := Ground.phase }, { on := 9, ground := Ground.phase }, { on := 10, ground := Ground.phase }, { on := 11, ground := Ground.phase }, { on := 12, ground := Ground.phase }], guard := none }) (v := .pointer (some ⟨wr.heap.size, 1, none⟩)) rfl (by kernel_rfl) (by kernel_rfl) (by kernel_rfl) (fun _ _ _ h => h) (Or.inl ⟨by rfl, fun w _ => by go_simp⟩) (by assumption) ?_
                simp only [Act.put, List.setIfInBounds_toArray, List.set_cons_zero, List.set_cons_succ]
                refine wpAnyH_ready (rs := [14]) (by kernel_rfl) (by simp) (AllReadyH.cons (o := { dst := none, op := Op.store 25 (Operand.tmp 117) (Operand.tmp 116), type := 0, pos := "law.go:204", after := #[{ on := 13, ground := Ground.data }, { on := 12, ground := Ground.data }, { on := 12, ground := Ground.chain }, { on := 0, ground := Ground.phase }, { on := 1, ground := Ground.phase }, { on := 2, ground := Ground.phase }, { on := 3, ground := Ground.phase }, { on := 4, ground := Ground.phase }, { on := 5, ground := Ground.phase }, { on := 6, ground := Ground.phase }, { on := 7, ground := Ground.phase }, { on := 8, ground := Ground.phase }, { on := 9, ground := Ground.phase }, { on := 10, ground := Ground.phase }, { on := 11, ground := Ground.phase }, { on := 12, ground := Ground.phase }], guard := none }) rfl (fun K hK => ?_) AllReadyH.nil)
                go_simp
                refine hK.out _ _ ?_ (fun hHeld => ?_)
                · exact hS _ hbf
                clear hK K
                try simp only [Act.put, List.setIfInBounds_toArray, List.set_cons_zero, List.set_cons_succ]
                refine wpAnyH_done (by kernel_rfl) ?_ _
                have HBF := hide hbf
                have HIF := hide hif
                have HXF := hide hxf
                have hc1f := (hS _ hbf).2
                generalize w12.setCell ⟨wr.heap.size, 1, none⟩ (.slice va (t.ins.length + 1) vc) = Wf at *
                have HE := hide (HBB.out _ HBF.out)
                have C8 := hide (CM.out Wf va vc (by have h := HIF.out; rw [HDD.out] at h; exact h) (HOUT.out _ HBF.out))
                obtain ⟨y0, y1, y2, -⟩ := HXF.out
                clear hHeld hcell hfrz hb12 hbf hif hxf hrun12 hrun3 hown3 hb3 hsz3 hblk3 hwh3 hS hs1 hs2 hone hlen hlp hrow hkeys hDl hDx hwa CM HIF HXF HOUT HBB HBF HBX HSZ
                by_cases h8 : 8 ≤ t.ins.length
                · have e8 : (8 : Int) ≤ (t.ins.length : Int) := by omega
                  rw [if_pos h8] at C8
                  clear h8
                  go_wp2_with fail
                  refine C8.out.mono ?_
                  rintro e w7 ⟨rfl, hb7⟩
                  have HE7 := hide (below_on HE.out hb7)
                  clear hb7 C8 HE y0 y1 y2 hc1f
                  go_wp2
                  go_ret
                  exact ⟨rfl, HE7.out⟩
                · have e8 : ¬ (8 : Int) ≤ (t.ins.length : Int) := by omega
                  rw [if_neg h8] at C8
                  clear h8
                  go_wp2_with fail
                  refine C8.out.mono ?_
                  rintro e w7 ⟨rfl, hb7⟩
                  have HE7 := hide (below_on HE.out hb7)
                  clear hb7 C8 HE y0 y1 y2 hc1f
                  go_wp2
                  go_ret
                  exact ⟨rfl, HE7.out⟩
              · go_simp
                refine hK.out _ _ ?_ (fun hHeld => ?_)
                · (refine hS _ ?_; repeat (first | exact hwa | exact hb3 | refine Below.drew ?_ | refine below_alloc' ?_ _))
                clear hK K
                try simp only [Act.put, List.setIfInBounds_toArray, List.set_cons_zero, List.set_cons_succ]
                refine wpAnyH_ready (rs := [3]) (by kernel_rfl) (by simp) (AllReadyH.cons (o := { dst := some 107, op := Op.call { callee := Callee.builtin Builtin.append, args := #[Operand.tmp 104, Operand.tmp 106], argTypes := #[25, 25] }, type := 25, pos := "law.go:204", after := #[{ on := 0, ground := Ground.data }, { on := 2, ground := Ground.data }], guard := none }) rfl (fun K hK => ?_) AllReadyH.nil)
                have hbW : Below wr.heap.size wr (((WA.alloc (.cells #[] 48)).alloc (.cells #[.int .u8 x] 5)).alloc (.cells (inC (⟨z.tx, z.n, [x]⟩, .slice (some ⟨WA.heap.size + 1, 0, none⟩) 1 1)).toArray 48)) := below_alloc' (below_alloc' (below_alloc' (hwa) _) _) _
                have ho : RowOwn (WA.alloc (.cells #[] 48)) (wr.heap.size + 1) 48 34 (.slice (some ⟨WA.heap.size, 0, none⟩) 0 0) [] := by have h := RowOwn.made WA (wr.heap.size + 1) (by (try simp only [alloc_size]); have := HSZ.out; omega) 48 34;  exact h
                obtain ⟨ra, rc, w3, hrun3, hown3, hb3, hsz3, hblk3, hwh3⟩ := may3 (((WA.alloc (.cells #[] 48)).alloc (.cells #[.int .u8 x] 5)).alloc (.cells (inC (⟨z.tx, z.n, [x]⟩, .slice (some ⟨WA.heap.size + 1, 0, none⟩) 1 1)).toArray 48)) hbW (wr.heap.size + 1) (Nat.le_succ _) (by (try simp only [alloc_size]); have := HSZ.out; omega) (.slice (some ⟨WA.heap.size, 0, none⟩) 0 0) (((ho).alloc' _).alloc' _) D a t.ins.length cap hDl HI0.out HI8.out hrow hDx
                clear hbW ho
                refine step_app rfl (.tmp 104) (.tmp 106) 25 rfl rfl rfl hrun3 ?_
                refine hK.out _ _ ?_ (fun hHeld => ?_)
                · exact hS _ hb3
                clear hK K
                try simp only [Act.put, List.setIfInBounds_toArray, List.set_cons_zero, List.set_cons_succ]
                refine wpAnyH_ready (rs := [12]) (by kernel_rfl) (by simp) (AllReadyH.cons (o := { dst := some 116, op := Op.call { callee := Callee.builtin Builtin.append, args := #[Operand.tmp 107, Operand.tmp 115], argTypes := #[25, 25] }, type := 25, pos := "law.go:204", after := #[{ on := 3, ground := Ground.data }, { on := 11, ground := Ground.data }, { on := 3, ground := Ground.chain }], guard := none }) rfl (fun K hK => ?_) AllReadyH.nil)
                simp only [alloc_size] at hsz3
                have hk0 : Bytes ((WA.alloc (.cells #[] 48)).alloc (.cells #[.int .u8 x] 5)) (.slice (some ⟨WA.heap.size + 1, 0, none⟩) 1 1) [x] := by have h := Bytes.one (WA.alloc (.cells #[] 48)) x; rw [alloc_size] at h; exact h
                have hk1 : Bytes (((WA.alloc (.cells #[] 48)).alloc (.cells #[.int .u8 x] 5)).alloc (.cells (inC (⟨z.tx, z.n, [x]⟩, .slice (some ⟨WA.heap.size + 1, 0, none⟩) 1 1)).toArray 48)) (.slice (some ⟨WA.heap.size + 1, 0, none⟩) 1 1) [x] := (hk0).alloc _
                have hk : Bytes w3 (.slice (some ⟨WA.heap.size + 1, 0, none⟩) 1 1) [x] := kept_key hk1 (hblk3 (WA.heap.size + 1) (by (try simp only [alloc_size]); have := HSZ.out; omega) (fun e => by have e' : WA.heap.size = WA.heap.size + 1 := Option.some.inj e; omega))
                have hq0 : World.rangeAt (((WA.alloc (.cells #[] 48)).alloc (.cells #[.int .u8 x] 5)).alloc (.cells (inC (⟨z.tx, z.n, [x]⟩, .slice (some ⟨WA.heap.size + 1, 0, none⟩) 1 1)).toArray 48)) (WA.heap.size + 2) 0 (inC (⟨z.tx, z.n, [x]⟩, .slice (some ⟨WA.heap.size + 1, 0, none⟩) 1 1)) := by have h := range_new ((WA.alloc (.cells #[] 48)).alloc (.cells #[.int .u8 x] 5)) (inC (⟨z.tx, z.n, [x]⟩, .slice (some ⟨WA.heap.size + 1, 0, none⟩) 1 1)) 48; rw [alloc_size] at h; rw [alloc_size] at h; exact h
                have hq1 : World.rangeAt (((WA.alloc (.cells #[] 48)).alloc (.cells #[.int .u8 x] 5)).alloc (.cells (inC (⟨z.tx, z.n, [x]⟩, .slice (some ⟨WA.heap.size + 1, 0, none⟩) 1 1)).toArray 48)) (WA.heap.size + 2) 0 (inC (⟨z.tx, z.n, [x]⟩, .slice (some ⟨WA.heap.size + 1, 0, none⟩) 1 1)) := hq0
                have hq : World.rangeAt w3 (WA.heap.size + 2) 0 (inC (⟨z.tx, z.n, [x]⟩, .slice (some ⟨WA.heap.size + 1, 0, none⟩) 1 1)) := range_heap hq1 (hblk3 (WA.heap.size + 2) (by (try simp only [alloc_size]); have := HSZ.out; omega) (fun e => by have e' : WA.heap.size = WA.heap.size + 2 := Option.some.inj e; omega))
                have hbx : TxBox w3 wr.heap.size t.ver (.slice a t.ins.length cap) (.slice a' t.outs.length cap') := (TxBox.heap (TxBox.alloc' (TxBox.alloc' (TxBox.alloc' (HBX.out) _) _) _) (hblk3 wr.heap.size (by (try simp only [alloc_size]); have := HSZ.out; omega) (fun e => by have e' : WA.heap.size = wr.heap.size := Option.some.inj e; have := HSZ.out; omega)))
                obtain ⟨va, vc, w12, hrun12, hcell, hfrz, hb12, hbf, hif, hxf⟩ := may12 w3 (hb3) t.ins.length ra rc D (hown3) HI8.out hDl hkeys ⟨z.tx, z.n, [x]⟩ (WA.heap.size + 1) (.slice (some ⟨WA.heap.size + 1, 0, none⟩) 1 1) rfl hk (by have := HSZ.out; omega) (by (try simp only [alloc_size]); have := HSZ.out; omega) (fun e => (hwh3 _ e).elim (fun h => by have e' : WA.heap.size = WA.heap.size + 1 := Option.some.inj h; omega) (fun h => by (try simp only [alloc_size] at h); omega)) (WA.heap.size + 2) hq hzl t.ver (.slice a t.ins.length cap) (.slice a' t.outs.length cap') hbx (by (try simp only [alloc_size]); have := HSZ.out; omega)
                clear hk0 hk hq0 hq hbx hk1 hq1
                refine step_app rfl (.tmp 107) (.tmp 115) 25 rfl rfl rfl hrun12 ?_
                refine hK.out _ _ ?_ (fun hHeld => ?_)
                · exact hS _ hb12
                clear hK K
                try simp only [Act.put, List.setIfInBounds_toArray, List.set_cons_zero, List.set_cons_succ]
                refine wpAnyH_take (i := 13) (oi := { dst := some 117, op := Op.fieldAddr 28 (Operand.tmp 12) 1, type := 0, pos := "law.go:204", after := #[{ on := 0, ground := Ground.phase }, { on := 1, ground := Ground.phase }, { on := 2, ground := Ground.phase }, { on := 3, ground := Ground.phase }, { on := 4, ground := Ground.phase }, { on := 5, ground := Ground.phase }, { on := 6, ground := Ground.phase }, { on := 7, ground := Ground.phase }, { on := 8, ground := Ground.phase }, { on := 9, ground := Ground.phase }, { on := 10, ground := Ground.phase }, { on := 11, ground := Ground.phase }, { on := 12, ground := Ground.phase }], guard := none }) (v := .pointer (some ⟨wr.heap.size, 1, none⟩)) rfl (by kernel_rfl) (by kernel_rfl) (by kernel_rfl) (fun _ _ _ h => h) (Or.inl ⟨by rfl, fun w _ => by go_simp⟩) (by assumption) ?_
                simp only [Act.put, List.setIfInBounds_toArray, List.set_cons_zero, List.set_cons_succ]
                refine wpAnyH_ready (rs := [14]) (by kernel_rfl) (by simp) (AllReadyH.cons (o := { dst := none, op := Op.store 25 (Operand.tmp 117) (Operand.tmp 116), type := 0, pos := "law.go:204", after := #[{ on := 13, ground := Ground.data }, { on := 12, ground := Ground.data }, { on := 12, ground := Ground.chain }, { on := 0, ground := Ground.phase }, { on := 1, ground := Ground.phase }, { on := 2, ground := Ground.phase }, { on := 3, ground := Ground.phase }, { on := 4, ground := Ground.phase }, { on := 5, ground := Ground.phase }, { on := 6, ground := Ground.phase }, { on := 7, ground := Ground.phase }, { on := 8, ground := Ground.phase }, { on := 9, ground := Ground.phase }, { on := 10, ground := Ground.phase }, { on := 11, ground := Ground.phase }, { on := 12, ground := Ground.phase }], guard := none }) rfl (fun K hK => ?_) AllReadyH.nil)
                go_simp
                refine hK.out _ _ ?_ (fun hHeld => ?_)
                · exact hS _ hbf
                clear hK K
                try simp only [Act.put, List.setIfInBounds_toArray, List.set_cons_zero, List.set_cons_succ]
                refine wpAnyH_done (by kernel_rfl) ?_ _
                have HBF := hide hbf
                have HIF := hide hif
                have HXF := hide hxf
                have hc1f := (hS _ hbf).2
                generalize w12.setCell ⟨wr.heap.size, 1, none⟩ (.slice va (t.ins.length + 1) vc) = Wf at *
                have HE := hide (HBB.out _ HBF.out)
                have C8 := hide (CM.out Wf va vc (by have h := HIF.out; rw [HDD.out] at h; exact h) (HOUT.out _ HBF.out))
                obtain ⟨y0, y1, y2, -⟩ := HXF.out
                clear hHeld hcell hfrz hb12 hbf hif hxf hrun12 hrun3 hown3 hb3 hsz3 hblk3 hwh3 hS hs1 hs2 hone hlen hlp hrow hkeys hDl hDx hwa CM HIF HXF HOUT HBB HBF HBX HSZ
                by_cases h8 : 8 ≤ t.ins.length
                · have e8 : (8 : Int) ≤ (t.ins.length : Int) := by omega
                  rw [if_pos h8] at C8
                  clear h8
                  go_wp2_with fail
                  refine C8.out.mono ?_
                  rintro e w7 ⟨rfl, hb7⟩
                  have HE7 := hide (below_on HE.out hb7)
                  clear hb7 C8 HE y0 y1 y2 hc1f
                  go_wp2
                  go_ret
                  exact ⟨rfl, HE7.out⟩
                · have e8 : ¬ (8 : Int) ≤ (t.ins.length : Int) := by omega
                  rw [if_neg h8] at C8
                  clear h8
                  go_wp2_with fail
                  refine C8.out.mono ?_
                  rintro e w7 ⟨rfl, hb7⟩
                  have HE7 := hide (below_on HE.out hb7)
                  clear hb7 C8 HE y0 y1 y2 hc1f
                  go_wp2
                  go_ret
                  exact ⟨rfl, HE7.out⟩
          · go_simp
            refine hK.out _ _ ?_ (fun hHeld => ?_)
            · (refine hS _ ?_; repeat (first | exact hwa | exact hb3 | refine Below.drew ?_ | refine below_alloc' ?_ _))
            clear hK K
            try simp only [Act.put, List.setIfInBounds_toArray, List.set_cons_zero, List.set_cons_succ]
            refine wpAnyH_take (i := 10) (oi := { dst := some 114, op := Op.build 48 #[(0, Operand.tmp 111), (1, Operand.tmp 113)], type := 48, pos := "law.go:204", after := #[{ on := 7, ground := Ground.data }, { on := 9, ground := Ground.data }], guard := none }) (v := .agg (inC (⟨z.tx, z.n, [x]⟩, .slice (some ⟨WA.heap.size, 0, none⟩) 1 1)).toArray) rfl (by kernel_rfl) (by kernel_rfl) (by kernel_rfl) (fun _ _ _ h => h) (Or.inl ⟨by rfl, fun w _ => by go_simp⟩) (by assumption) ?_
            simp only [Act.put, List.setIfInBounds_toArray, List.set_cons_zero, List.set_cons_succ]
            refine wpAnyH_ready (rs := [0, 11]) (by kernel_rfl) (by simp) (AllReadyH.cons (o := { dst := some 104, op := Op.buildSlice 25 0 #[], type := 25, pos := "law.go:204", after := #[], guard := none }) rfl (fun K hK => ?_) (AllReadyH.cons (o := { dst := some 115, op := Op.buildSlice 25 1 #[(0, Operand.tmp 114)], type := 25, pos := "law.go:204", after := #[{ on := 10, ground := Ground.data }], guard := none }) rfl (fun K hK => ?_) AllReadyH.nil))
            · go_simp
              refine hK.out _ _ ?_ (fun hHeld => ?_)
              · (refine hS _ ?_; repeat (first | exact hwa | exact hb3 | refine Below.drew ?_ | refine below_alloc' ?_ _))
              clear hK K
              try simp only [Act.put, List.setIfInBounds_toArray, List.set_cons_zero, List.set_cons_succ]
              refine wpAnyH_ready (rs := [3, 11]) (by kernel_rfl) (by simp) (AllReadyH.cons (o := { dst := some 107, op := Op.call { callee := Callee.builtin Builtin.append, args := #[Operand.tmp 104, Operand.tmp 106], argTypes := #[25, 25] }, type := 25, pos := "law.go:204", after := #[{ on := 0, ground := Ground.data }, { on := 2, ground := Ground.data }], guard := none }) rfl (fun K hK => ?_) (AllReadyH.cons (o := { dst := some 115, op := Op.buildSlice 25 1 #[(0, Operand.tmp 114)], type := 25, pos := "law.go:204", after := #[{ on := 10, ground := Ground.data }], guard := none }) rfl (fun K hK => ?_) AllReadyH.nil))
              · have hbW : Below wr.heap.size wr ((WA.alloc (.cells #[.int .u8 x] 5)).alloc (.cells #[] 48)) := below_alloc' (below_alloc' (hwa) _) _
                have ho : RowOwn ((WA.alloc (.cells #[.int .u8 x] 5)).alloc (.cells #[] 48)) (wr.heap.size + 1) 48 34 (.slice (some ⟨WA.heap.size + 1, 0, none⟩) 0 0) [] := by have h := RowOwn.made (WA.alloc (.cells #[.int .u8 x] 5)) (wr.heap.size + 1) (by (try simp only [alloc_size]); have := HSZ.out; omega) 48 34; rw [alloc_size] at h; exact h
                obtain ⟨ra, rc, w3, hrun3, hown3, hb3, hsz3, hblk3, hwh3⟩ := may3 ((WA.alloc (.cells #[.int .u8 x] 5)).alloc (.cells #[] 48)) hbW (wr.heap.size + 1) (Nat.le_succ _) (by (try simp only [alloc_size]); have := HSZ.out; omega) (.slice (some ⟨WA.heap.size + 1, 0, none⟩) 0 0) (ho) D a t.ins.length cap hDl HI0.out HI8.out hrow hDx
                clear hbW ho
                refine step_app rfl (.tmp 104) (.tmp 106) 25 rfl rfl rfl hrun3 ?_
                refine hK.out _ _ ?_ (fun hHeld => ?_)
                · exact hS _ hb3
                clear hK K
                try simp only [Act.put, List.setIfInBounds_toArray, List.set_cons_zero, List.set_cons_succ]
                refine wpAnyH_ready (rs := [11]) (by kernel_rfl) (by simp) (AllReadyH.cons (o := { dst := some 115, op := Op.buildSlice 25 1 #[(0, Operand.tmp 114)], type := 25, pos := "law.go:204", after := #[{ on := 10, ground := Ground.data }], guard := none }) rfl (fun K hK => ?_) AllReadyH.nil)
                go_simp
                refine hK.out _ _ ?_ (fun hHeld => ?_)
                · (refine hS _ ?_; repeat (first | exact hwa | exact hb3 | refine Below.drew ?_ | refine below_alloc' ?_ _))
                clear hK K
                try simp only [Act.put, List.setIfInBounds_toArray, List.set_cons_zero, List.set_cons_succ]
                refine wpAnyH_ready (rs := [12]) (by kernel_rfl) (by simp) (AllReadyH.cons (o := { dst := some 116, op := Op.call { callee := Callee.builtin Builtin.append, args := #[Operand.tmp 107, Operand.tmp 115], argTypes := #[25, 25] }, type := 25, pos := "law.go:204", after := #[{ on := 3, ground := Ground.data }, { on := 11, ground := Ground.data }, { on := 3, ground := Ground.chain }], guard := none }) rfl (fun K hK => ?_) AllReadyH.nil)
                simp only [alloc_size] at hsz3
                have hk0 : Bytes (WA.alloc (.cells #[.int .u8 x] 5)) (.slice (some ⟨WA.heap.size, 0, none⟩) 1 1) [x] := by have h := Bytes.one WA x;  exact h
                have hk1 : Bytes ((WA.alloc (.cells #[.int .u8 x] 5)).alloc (.cells #[] 48)) (.slice (some ⟨WA.heap.size, 0, none⟩) 1 1) [x] := (hk0).alloc _
                have hk : Bytes (w3.alloc (.cells (inC (⟨z.tx, z.n, [x]⟩, .slice (some ⟨WA.heap.size, 0, none⟩) 1 1)).toArray 48)) (.slice (some ⟨WA.heap.size, 0, none⟩) 1 1) [x] := (kept_key hk1 (hblk3 (WA.heap.size) (by (try simp only [alloc_size]); have := HSZ.out; omega) (fun e => by have e' : WA.heap.size + 1 = WA.heap.size := Option.some.inj e; omega))).alloc _
                have hq0 : World.rangeAt (w3.alloc (.cells (inC (⟨z.tx, z.n, [x]⟩, .slice (some ⟨WA.heap.size, 0, none⟩) 1 1)).toArray 48)) (w3.heap.size) 0 (inC (⟨z.tx, z.n, [x]⟩, .slice (some ⟨WA.heap.size, 0, none⟩) 1 1)) := by have h := range_new w3 (inC (⟨z.tx, z.n, [x]⟩, .slice (some ⟨WA.heap.size, 0, none⟩) 1 1)) 48;  exact h
                have hq : World.rangeAt (w3.alloc (.cells (inC (⟨z.tx, z.n, [x]⟩, .slice (some ⟨WA.heap.size, 0, none⟩) 1 1)).toArray 48)) (w3.heap.size) 0 (inC (⟨z.tx, z.n, [x]⟩, .slice (some ⟨WA.heap.size, 0, none⟩) 1 1)) := hq0
                have hbx : TxBox (w3.alloc (.cells (inC (⟨z.tx, z.n, [x]⟩, .slice (some ⟨WA.heap.size, 0, none⟩) 1 1)).toArray 48)) wr.heap.size t.ver (.slice a t.ins.length cap) (.slice a' t.outs.length cap') := TxBox.alloc' ((TxBox.heap (TxBox.alloc' (TxBox.alloc' (HBX.out) _) _) (hblk3 wr.heap.size (by (try simp only [alloc_size]); have := HSZ.out; omega) (fun e => by have e' : WA.heap.size + 1 = wr.heap.size := Option.some.inj e; have := HSZ.out; omega)))) _
                obtain ⟨va, vc, w12, hrun12, hcell, hfrz, hb12, hbf, hif, hxf⟩ := may12 (w3.alloc (.cells (inC (⟨z.tx, z.n, [x]⟩, .slice (some ⟨WA.heap.size, 0, none⟩) 1 1)).toArray 48)) (below_alloc' (hb3) _) t.ins.length ra rc D ((hown3).alloc' _) HI8.out hDl hkeys ⟨z.tx, z.n, [x]⟩ (WA.heap.size) (.slice (some ⟨WA.heap.size, 0, none⟩) 1 1) rfl hk (by have := HSZ.out; omega) (by (try simp only [alloc_size]); have := HSZ.out; omega) (fun e => (hwh3 _ e).elim (fun h => by have e' : WA.heap.size + 1 = WA.heap.size := Option.some.inj h; omega) (fun h => by (try simp only [alloc_size] at h); omega)) (w3.heap.size) hq hzl t.ver (.slice a t.ins.length cap) (.slice a' t.outs.length cap') hbx (by (try simp only [alloc_size]); have := HSZ.out; omega)
                clear hk0 hk hq0 hq hbx hk1
                refine step_app rfl (.tmp 107) (.tmp 115) 25 rfl rfl rfl hrun12 ?_
                refine hK.out _ _ ?_ (fun hHeld => ?_)
                · exact hS _ hb12
                clear hK K
                try simp only [Act.put, List.setIfInBounds_toArray, List.set_cons_zero, List.set_cons_succ]
                refine wpAnyH_take (i := 13) (oi := { dst := some 117, op := Op.fieldAddr 28 (Operand.tmp 12) 1, type := 0, pos := "law.go:204", after := #[{ on := 0, ground := Ground.phase }, { on := 1, ground := Ground.phase }, { on := 2, ground := Ground.phase }, { on := 3, ground := Ground.phase }, { on := 4, ground := Ground.phase }, { on := 5, ground := Ground.phase }, { on := 6, ground := Ground.phase }, { on := 7, ground := Ground.phase }, { on := 8, ground := Ground.phase }, { on := 9, ground := Ground.phase }, { on := 10, ground := Ground.phase }, { on := 11, ground := Ground.phase }, { on := 12, ground := Ground.phase }], guard := none }) (v := .pointer (some ⟨wr.heap.size, 1, none⟩)) rfl (by kernel_rfl) (by kernel_rfl) (by kernel_rfl) (fun _ _ _ h => h) (Or.inl ⟨by rfl, fun w _ => by go_simp⟩) (by assumption) ?_
                simp only [Act.put, List.setIfInBounds_toArray, List.set_cons_zero, List.set_cons_succ]
                refine wpAnyH_ready (rs := [14]) (by kernel_rfl) (by simp) (AllReadyH.cons (o := { dst := none, op := Op.store 25 (Operand.tmp 117) (Operand.tmp 116), type := 0, pos := "law.go:204", after := #[{ on := 13, ground := Ground.data }, { on := 12, ground := Ground.data }, { on := 12, ground := Ground.chain }, { on := 0, ground := Ground.phase }, { on := 1, ground := Ground.phase }, { on := 2, ground := Ground.phase }, { on := 3, ground := Ground.phase }, { on := 4, ground := Ground.phase }, { on := 5, ground := Ground.phase }, { on := 6, ground := Ground.phase }, { on := 7, ground := Ground.phase }, { on := 8, ground := Ground.phase }, { on := 9, ground := Ground.phase }, { on := 10, ground := Ground.phase }, { on := 11, ground := Ground.phase }, { on := 12, ground := Ground.phase }], guard := none }) rfl (fun K hK => ?_) AllReadyH.nil)
                go_simp
                refine hK.out _ _ ?_ (fun hHeld => ?_)
                · exact hS _ hbf
                clear hK K
                try simp only [Act.put, List.setIfInBounds_toArray, List.set_cons_zero, List.set_cons_succ]
                refine wpAnyH_done (by kernel_rfl) ?_ _
                have HBF := hide hbf
                have HIF := hide hif
                have HXF := hide hxf
                have hc1f := (hS _ hbf).2
                generalize w12.setCell ⟨wr.heap.size, 1, none⟩ (.slice va (t.ins.length + 1) vc) = Wf at *
                have HE := hide (HBB.out _ HBF.out)
                have C8 := hide (CM.out Wf va vc (by have h := HIF.out; rw [HDD.out] at h; exact h) (HOUT.out _ HBF.out))
                obtain ⟨y0, y1, y2, -⟩ := HXF.out
                clear hHeld hcell hfrz hb12 hbf hif hxf hrun12 hrun3 hown3 hb3 hsz3 hblk3 hwh3 hS hs1 hs2 hone hlen hlp hrow hkeys hDl hDx hwa CM HIF HXF HOUT HBB HBF HBX HSZ
                by_cases h8 : 8 ≤ t.ins.length
                · have e8 : (8 : Int) ≤ (t.ins.length : Int) := by omega
                  rw [if_pos h8] at C8
                  clear h8
                  go_wp2_with fail
                  refine C8.out.mono ?_
                  rintro e w7 ⟨rfl, hb7⟩
                  have HE7 := hide (below_on HE.out hb7)
                  clear hb7 C8 HE y0 y1 y2 hc1f
                  go_wp2
                  go_ret
                  exact ⟨rfl, HE7.out⟩
                · have e8 : ¬ (8 : Int) ≤ (t.ins.length : Int) := by omega
                  rw [if_neg h8] at C8
                  clear h8
                  go_wp2_with fail
                  refine C8.out.mono ?_
                  rintro e w7 ⟨rfl, hb7⟩
                  have HE7 := hide (below_on HE.out hb7)
                  clear hb7 C8 HE y0 y1 y2 hc1f
                  go_wp2
                  go_ret
                  exact ⟨rfl, HE7.out⟩
              · go_simp
                refine hK.out _ _ ?_ (fun hHeld => ?_)
                · (refine hS _ ?_; repeat (first | exact hwa | exact hb3 | refine Below.drew ?_ | refine below_alloc' ?_ _))
                clear hK K
                try simp only [Act.put, List.setIfInBounds_toArray, List.set_cons_zero, List.set_cons_succ]
                refine wpAnyH_ready (rs := [3]) (by kernel_rfl) (by simp) (AllReadyH.cons (o := { dst := some 107, op := Op.call { callee := Callee.builtin Builtin.append, args := #[Operand.tmp 104, Operand.tmp 106], argTypes := #[25, 25] }, type := 25, pos := "law.go:204", after := #[{ on := 0, ground := Ground.data }, { on := 2, ground := Ground.data }], guard := none }) rfl (fun K hK => ?_) AllReadyH.nil)
                have hbW : Below wr.heap.size wr (((WA.alloc (.cells #[.int .u8 x] 5)).alloc (.cells #[] 48)).alloc (.cells (inC (⟨z.tx, z.n, [x]⟩, .slice (some ⟨WA.heap.size, 0, none⟩) 1 1)).toArray 48)) := below_alloc' (below_alloc' (below_alloc' (hwa) _) _) _
                have ho : RowOwn ((WA.alloc (.cells #[.int .u8 x] 5)).alloc (.cells #[] 48)) (wr.heap.size + 1) 48 34 (.slice (some ⟨WA.heap.size + 1, 0, none⟩) 0 0) [] := by have h := RowOwn.made (WA.alloc (.cells #[.int .u8 x] 5)) (wr.heap.size + 1) (by (try simp only [alloc_size]); have := HSZ.out; omega) 48 34; rw [alloc_size] at h; exact h
                obtain ⟨ra, rc, w3, hrun3, hown3, hb3, hsz3, hblk3, hwh3⟩ := may3 (((WA.alloc (.cells #[.int .u8 x] 5)).alloc (.cells #[] 48)).alloc (.cells (inC (⟨z.tx, z.n, [x]⟩, .slice (some ⟨WA.heap.size, 0, none⟩) 1 1)).toArray 48)) hbW (wr.heap.size + 1) (Nat.le_succ _) (by (try simp only [alloc_size]); have := HSZ.out; omega) (.slice (some ⟨WA.heap.size + 1, 0, none⟩) 0 0) ((ho).alloc' _) D a t.ins.length cap hDl HI0.out HI8.out hrow hDx
                clear hbW ho
                refine step_app rfl (.tmp 104) (.tmp 106) 25 rfl rfl rfl hrun3 ?_
                refine hK.out _ _ ?_ (fun hHeld => ?_)
                · exact hS _ hb3
                clear hK K
                try simp only [Act.put, List.setIfInBounds_toArray, List.set_cons_zero, List.set_cons_succ]
                refine wpAnyH_ready (rs := [12]) (by kernel_rfl) (by simp) (AllReadyH.cons (o := { dst := some 116, op := Op.call { callee := Callee.builtin Builtin.append, args := #[Operand.tmp 107, Operand.tmp 115], argTypes := #[25, 25] }, type := 25, pos := "law.go:204", after := #[{ on := 3, ground := Ground.data }, { on := 11, ground := Ground.data }, { on := 3, ground := Ground.chain }], guard := none }) rfl (fun K hK => ?_) AllReadyH.nil)
                simp only [alloc_size] at hsz3
                have hk0 : Bytes (WA.alloc (.cells #[.int .u8 x] 5)) (.slice (some ⟨WA.heap.size, 0, none⟩) 1 1) [x] := by have h := Bytes.one WA x;  exact h
                have hk1 : Bytes (((WA.alloc (.cells #[.int .u8 x] 5)).alloc (.cells #[] 48)).alloc (.cells (inC (⟨z.tx, z.n, [x]⟩, .slice (some ⟨WA.heap.size, 0, none⟩) 1 1)).toArray 48)) (.slice (some ⟨WA.heap.size, 0, none⟩) 1 1) [x] := ((hk0).alloc _).alloc _
                have hk : Bytes w3 (.slice (some ⟨WA.heap.size, 0, none⟩) 1 1) [x] := kept_key hk1 (hblk3 (WA.heap.size) (by (try simp only [alloc_size]); have := HSZ.out; omega) (fun e => by have e' : WA.heap.size + 1 = WA.heap.size := Option.some.inj e; omega))
                have hq0 : World.rangeAt (((WA.alloc (.cells #[.int .u8 x] 5)).alloc (.cells #[] 48)).alloc (.cells (inC (⟨z.tx, z.n, [x]⟩, .slice (some ⟨WA.heap.size, 0, none⟩) 1 1)).toArray 48)) (WA.heap.size + 2) 0 (inC (⟨z.tx, z.n, [x]⟩, .slice (some ⟨WA.heap.size, 0, none⟩) 1 1)) := by have h := range_new ((WA.alloc (.cells #[.int .u8 x] 5)).alloc (.cells #[] 48)) (inC (⟨z.tx, z.n, [x]⟩, .slice (some ⟨WA.heap.size, 0, none⟩) 1 1)) 48; rw [alloc_size] at h; rw [alloc_size] at h; exact h
                have hq1 : World.rangeAt (((WA.alloc (.cells #[.int .u8 x] 5)).alloc (.cells #[] 48)).alloc (.cells (inC (⟨z.tx, z.n, [x]⟩, .slice (some ⟨WA.heap.size, 0, none⟩) 1 1)).toArray 48)) (WA.heap.size + 2) 0 (inC (⟨z.tx, z.n, [x]⟩, .slice (some ⟨WA.heap.size, 0, none⟩) 1 1)) := hq0
                have hq : World.rangeAt w3 (WA.heap.size + 2) 0 (inC (⟨z.tx, z.n, [x]⟩, .slice (some ⟨WA.heap.size, 0, none⟩) 1 1)) := range_heap hq1 (hblk3 (WA.heap.size + 2) (by (try simp only [alloc_size]); have := HSZ.out; omega) (fun e => by have e' : WA.heap.size + 1 = WA.heap.size + 2 := Option.some.inj e; omega))
                have hbx : TxBox w3 wr.heap.size t.ver (.slice a t.ins.length cap) (.slice a' t.outs.length cap') := (TxBox.heap (TxBox.alloc' (TxBox.alloc' (TxBox.alloc' (HBX.out) _) _) _) (hblk3 wr.heap.size (by (try simp only [alloc_size]); have := HSZ.out; omega) (fun e => by have e' : WA.heap.size + 1 = wr.heap.size := Option.some.inj e; have := HSZ.out; omega)))
                obtain ⟨va, vc, w12, hrun12, hcell, hfrz, hb12, hbf, hif, hxf⟩ := may12 w3 (hb3) t.ins.length ra rc D (hown3) HI8.out hDl hkeys ⟨z.tx, z.n, [x]⟩ (WA.heap.size) (.slice (some ⟨WA.heap.size, 0, none⟩) 1 1) rfl hk (by have := HSZ.out; omega) (by (try simp only [alloc_size]); have := HSZ.out; omega) (fun e => (hwh3 _ e).elim (fun h => by have e' : WA.heap.size + 1 = WA.heap.size := Option.some.inj h; omega) (fun h => by (try simp only [alloc_size] at h); omega)) (WA.heap.size + 2) hq hzl t.ver (.slice a t.ins.length cap) (.slice a' t.outs.length cap') hbx (by (try simp only [alloc_size]); have := HSZ.out; omega)
                clear hk0 hk hq0 hq hbx hk1 hq1
                refine step_app rfl (.tmp 107) (.tmp 115) 25 rfl rfl rfl hrun12 ?_
                refine hK.out _ _ ?_ (fun hHeld => ?_)
                · exact hS _ hb12
                clear hK K
                try simp only [Act.put, List.setIfInBounds_toArray, List.set_cons_zero, List.set_cons_succ]
                refine wpAnyH_take (i := 13) (oi := { dst := some 117, op := Op.fieldAddr 28 (Operand.tmp 12) 1, type := 0, pos := "law.go:204", after := #[{ on := 0, ground := Ground.phase }, { on := 1, ground := Ground.phase }, { on := 2, ground := Ground.phase }, { on := 3, ground := Ground.phase }, { on := 4, ground := Ground.phase }, { on := 5, ground := Ground.phase }, { on := 6, ground := Ground.phase }, { on := 7, ground := Ground.phase }, { on := 8, ground := Ground.phase }, { on := 9, ground := Ground.phase }, { on := 10, ground := Ground.phase }, { on := 11, ground := Ground.phase }, { on := 12, ground := Ground.phase }], guard := none }) (v := .pointer (some ⟨wr.heap.size, 1, none⟩)) rfl (by kernel_rfl) (by kernel_rfl) (by kernel_rfl) (fun _ _ _ h => h) (Or.inl ⟨by rfl, fun w _ => by go_simp⟩) (by assumption) ?_
                simp only [Act.put, List.setIfInBounds_toArray, List.set_cons_zero, List.set_cons_succ]
                refine wpAnyH_ready (rs := [14]) (by kernel_rfl) (by simp) (AllReadyH.cons (o := { dst := none, op := Op.store 25 (Operand.tmp 117) (Operand.tmp 116), type := 0, pos := "law.go:204", after := #[{ on := 13, ground := Ground.data }, { on := 12, ground := Ground.data }, { on := 12, ground := Ground.chain }, { on := 0, ground := Ground.phase }, { on := 1, ground := Ground.phase }, { on := 2, ground := Ground.phase }, { on := 3, ground := Ground.phase }, { on := 4, ground := Ground.phase }, { on := 5, ground := Ground.phase }, { on := 6, ground := Ground.phase }, { on := 7, ground := Ground.phase }, { on := 8, ground := Ground.phase }, { on := 9, ground := Ground.phase }, { on := 10, ground := Ground.phase }, { on := 11, ground := Ground.phase }, { on := 12, ground := Ground.phase }], guard := none }) rfl (fun K hK => ?_) AllReadyH.nil)
                go_simp
                refine hK.out _ _ ?_ (fun hHeld => ?_)
                · exact hS _ hbf
                clear hK K
                try simp only [Act.put, List.setIfInBounds_toArray, List.set_cons_zero, List.set_cons_succ]
                refine wpAnyH_done (by kernel_rfl) ?_ _
                have HBF := hide hbf
                have HIF := hide hif
                have HXF := hide hxf
                have hc1f := (hS _ hbf).2
                generalize w12.setCell ⟨wr.heap.size, 1, none⟩ (.slice va (t.ins.length + 1) vc) = Wf at *
                have HE := hide (HBB.out _ HBF.out)
                have C8 := hide (CM.out Wf va vc (by have h := HIF.out; rw [HDD.out] at h; exact h) (HOUT.out _ HBF.out))
                obtain ⟨y0, y1, y2, -⟩ := HXF.out
                clear hHeld hcell hfrz hb12 hbf hif hxf hrun12 hrun3 hown3 hb3 hsz3 hblk3 hwh3 hS hs1 hs2 hone hlen hlp hrow hkeys hDl hDx hwa CM HIF HXF HOUT HBB HBF HBX HSZ
                by_cases h8 : 8 ≤ t.ins.length
                · have e8 : (8 : Int) ≤ (t.ins.length : Int) := by omega
                  rw [if_pos h8] at C8
                  clear h8
                  go_wp2_with fail
                  refine C8.out.mono ?_
                  rintro e w7 ⟨rfl, hb7⟩
                  have HE7 := hide (below_on HE.out hb7)
                  clear hb7 C8 HE y0 y1 y2 hc1f
                  go_wp2
                  go_ret
                  exact ⟨rfl, HE7.out⟩
                · have e8 : ¬ (8 : Int) ≤ (t.ins.length : Int) := by omega
                  rw [if_neg h8] at C8
                  clear h8
                  go_wp2_with fail
                  refine C8.out.mono ?_
                  rintro e w7 ⟨rfl, hb7⟩
                  have HE7 := hide (below_on HE.out hb7)
                  clear hb7 C8 HE y0 y1 y2 hc1f
                  go_wp2
                  go_ret
                  exact ⟨rfl, HE7.out⟩
            · go_simp
              refine hK.out _ _ ?_ (fun hHeld => ?_)
              · (refine hS _ ?_; repeat (first | exact hwa | exact hb3 | refine Below.drew ?_ | refine below_alloc' ?_ _))
              clear hK K
              try simp only [Act.put, List.setIfInBounds_toArray, List.set_cons_zero, List.set_cons_succ]
              refine wpAnyH_ready (rs := [0]) (by kernel_rfl) (by simp) (AllReadyH.cons (o := { dst := some 104, op := Op.buildSlice 25 0 #[], type := 25, pos := "law.go:204", after := #[], guard := none }) rfl (fun K hK => ?_) AllReadyH.nil)
              go_simp
              refine hK.out _ _ ?_ (fun hHeld => ?_)
              · (refine hS _ ?_; repeat (first | exact hwa | exact hb3 | refine Below.drew ?_ | refine below_alloc' ?_ _))
              clear hK K
              try simp only [Act.put, List.setIfInBounds_toArray, List.set_cons_zero, List.set_cons_succ]
              refine wpAnyH_ready (rs := [3]) (by kernel_rfl) (by simp) (AllReadyH.cons (o := { dst := some 107, op := Op.call { callee := Callee.builtin Builtin.append, args := #[Operand.tmp 104, Operand.tmp 106], argTypes := #[25, 25] }, type := 25, pos := "law.go:204", after := #[{ on := 0, ground := Ground.data }, { on := 2, ground := Ground.data }], guard := none }) rfl (fun K hK => ?_) AllReadyH.nil)
              have hbW : Below wr.heap.size wr (((WA.alloc (.cells #[.int .u8 x] 5)).alloc (.cells (inC (⟨z.tx, z.n, [x]⟩, .slice (some ⟨WA.heap.size, 0, none⟩) 1 1)).toArray 48)).alloc (.cells #[] 48)) := below_alloc' (below_alloc' (below_alloc' (hwa) _) _) _
              have ho : RowOwn (((WA.alloc (.cells #[.int .u8 x] 5)).alloc (.cells (inC (⟨z.tx, z.n, [x]⟩, .slice (some ⟨WA.heap.size, 0, none⟩) 1 1)).toArray 48)).alloc (.cells #[] 48)) (wr.heap.size + 1) 48 34 (.slice (some ⟨WA.heap.size + 2, 0, none⟩) 0 0) [] := by have h := RowOwn.made ((WA.alloc (.cells #[.int .u8 x] 5)).alloc (.cells (inC (⟨z.tx, z.n, [x]⟩, .slice (some ⟨WA.heap.size, 0, none⟩) 1 1)).toArray 48)) (wr.heap.size + 1) (by (try simp only [alloc_size]); have := HSZ.out; omega) 48 34; rw [alloc_size] at h; rw [alloc_size] at h; exact h
              obtain ⟨ra, rc, w3, hrun3, hown3, hb3, hsz3, hblk3, hwh3⟩ := may3 (((WA.alloc (.cells #[.int .u8 x] 5)).alloc (.cells (inC (⟨z.tx, z.n, [x]⟩, .slice (some ⟨WA.heap.size, 0, none⟩) 1 1)).toArray 48)).alloc (.cells #[] 48)) hbW (wr.heap.size + 1) (Nat.le_succ _) (by (try simp only [alloc_size]); have := HSZ.out; omega) (.slice (some ⟨WA.heap.size + 2, 0, none⟩) 0 0) (ho) D a t.ins.length cap hDl HI0.out HI8.out hrow hDx
              clear hbW ho
              refine step_app rfl (.tmp 104) (.tmp 106) 25 rfl rfl rfl hrun3 ?_
              refine hK.out _ _ ?_ (fun hHeld => ?_)
              · exact hS _ hb3
              clear hK K
              try simp only [Act.put, List.setIfInBounds_toArray, List.set_cons_zero, List.set_cons_succ]
              refine wpAnyH_ready (rs := [12]) (by kernel_rfl) (by simp) (AllReadyH.cons (o := { dst := some 116, op := Op.call { callee := Callee.builtin Builtin.append, args := #[Operand.tmp 107, Operand.tmp 115], argTypes := #[25, 25] }, type := 25, pos := "law.go:204", after := #[{ on := 3, ground := Ground.data }, { on := 11, ground := Ground.data }, { on := 3, ground := Ground.chain }], guard := none }) rfl (fun K hK => ?_) AllReadyH.nil)
              simp only [alloc_size] at hsz3
              have hk0 : Bytes (WA.alloc (.cells #[.int .u8 x] 5)) (.slice (some ⟨WA.heap.size, 0, none⟩) 1 1) [x] := by have h := Bytes.one WA x;  exact h
              have hk1 : Bytes (((WA.alloc (.cells #[.int .u8 x] 5)).alloc (.cells (inC (⟨z.tx, z.n, [x]⟩, .slice (some ⟨WA.heap.size, 0, none⟩) 1 1)).toArray 48)).alloc (.cells #[] 48)) (.slice (some ⟨WA.heap.size, 0, none⟩) 1 1) [x] := ((hk0).alloc _).alloc _
              have hk : Bytes w3 (.slice (some ⟨WA.heap.size, 0, none⟩) 1 1) [x] := kept_key hk1 (hblk3 (WA.heap.size) (by (try simp only [alloc_size]); have := HSZ.out; omega) (fun e => by have e' : WA.heap.size + 2 = WA.heap.size := Option.some.inj e; omega))
              have hq0 : World.rangeAt ((WA.alloc (.cells #[.int .u8 x] 5)).alloc (.cells (inC (⟨z.tx, z.n, [x]⟩, .slice (some ⟨WA.heap.size, 0, none⟩) 1 1)).toArray 48)) (WA.heap.size + 1) 0 (inC (⟨z.tx, z.n, [x]⟩, .slice (some ⟨WA.heap.size, 0, none⟩) 1 1)) := by have h := range_new (WA.alloc (.cells #[.int .u8 x] 5)) (inC (⟨z.tx, z.n, [x]⟩, .slice (some ⟨WA.heap.size, 0, none⟩) 1 1)) 48; rw [alloc_size] at h; exact h
              have hq1 : World.rangeAt (((WA.alloc (.cells #[.int .u8 x] 5)).alloc (.cells (inC (⟨z.tx, z.n, [x]⟩, .slice (some ⟨WA.heap.size, 0, none⟩) 1 1)).toArray 48)).alloc (.cells #[] 48)) (WA.heap.size + 1) 0 (inC (⟨z.tx, z.n, [x]⟩, .slice (some ⟨WA.heap.size, 0, none⟩) 1 1)) := range_alloc (hq0) _
              have hq : World.rangeAt w3 (WA.heap.size + 1) 0 (inC (⟨z.tx, z.n, [x]⟩, .slice (some ⟨WA.heap.size, 0, none⟩) 1 1)) := range_heap hq1 (hblk3 (WA.heap.size + 1) (by (try simp only [alloc_size]); have := HSZ.out; omega) (fun e => by have e' : WA.heap.size + 2 = WA.heap.size + 1 := Option.some.inj e; omega))
              have hbx : TxBox w3 wr.heap.size t.ver (.slice a t.ins.length cap) (.slice a' t.outs.length cap') := (TxBox.heap (TxBox.alloc' (TxBox.alloc' (TxBox.alloc' (HBX.out) _) _) _) (hblk3 wr.heap.size (by (try simp only [alloc_size]); have := HSZ.out; omega) (fun e => by have e' : WA.heap.size + 2 = wr.heap.size := Option.some.inj e; have := HSZ.out; omega)))
              obtain ⟨va, vc, w12, hrun12, hcell, hfrz, hb12, hbf, hif, hxf⟩ := may12 w3 (hb3) t.ins.length ra rc D (hown3) HI8.out hDl hkeys ⟨z.tx, z.n, [x]⟩ (WA.heap.size) (.slice (some ⟨WA.heap.size, 0, none⟩) 1 1) rfl hk (by have := HSZ.out; omega) (by (try simp only [alloc_size]); have := HSZ.out; omega) (fun e => (hwh3 _ e).elim (fun h => by have e' : WA.heap.size + 2 = WA.heap.size := Option.some.inj h; omega) (fun h => by (try simp only [alloc_size] at h); omega)) (WA.heap.size + 1) hq hzl t.ver (.slice a t.ins.length cap) (.slice a' t.outs.length cap') hbx (by (try simp only [alloc_size]); have := HSZ.out; omega)
              clear hk0 hk hq0 hq hbx hk1 hq1
              refine step_app rfl (.tmp 107) (.tmp 115) 25 rfl rfl rfl hrun12 ?_
              refine hK.out _ _ ?_ (fun hHeld => ?_)
              · exact hS _ hb12
              clear hK K
              try simp only [Act.put, List.setIfInBounds_toArray, List.set_cons_zero, List.set_cons_succ]
              refine wpAnyH_take (i := 13) (oi := { dst := some 117, op := Op.fieldAddr 28 (Operand.tmp 12) 1, type := 0, pos := "law.go:204", after := #[{ on := 0, ground := Ground.phase }, { on := 1, ground := Ground.phase }, { on := 2, ground := Ground.phase }, { on := 3, ground := Ground.phase }, { on := 4, ground := Ground.phase }, { on := 5, ground := Ground.phase }, { on := 6, ground := Ground.phase }, { on := 7, ground := Ground.phase }, { on := 8, ground := Ground.phase }, { on := 9, ground := Ground.phase }, { on := 10, ground := Ground.phase }, { on := 11, ground := Ground.phase }, { on := 12, ground := Ground.phase }], guard := none }) (v := .pointer (some ⟨wr.heap.size, 1, none⟩)) rfl (by kernel_rfl) (by kernel_rfl) (by kernel_rfl) (fun _ _ _ h => h) (Or.inl ⟨by rfl, fun w _ => by go_simp⟩) (by assumption) ?_
              simp only [Act.put, List.setIfInBounds_toArray, List.set_cons_zero, List.set_cons_succ]
              refine wpAnyH_ready (rs := [14]) (by kernel_rfl) (by simp) (AllReadyH.cons (o := { dst := none, op := Op.store 25 (Operand.tmp 117) (Operand.tmp 116), type := 0, pos := "law.go:204", after := #[{ on := 13, ground := Ground.data }, { on := 12, ground := Ground.data }, { on := 12, ground := Ground.chain }, { on := 0, ground := Ground.phase }, { on := 1, ground := Ground.phase }, { on := 2, ground := Ground.phase }, { on := 3, ground := Ground.phase }, { on := 4, ground := Ground.phase }, { on := 5, ground := Ground.phase }, { on := 6, ground := Ground.phase }, { on := 7, ground := Ground.phase }, { on := 8, ground := Ground.phase }, { on := 9, ground := Ground.phase }, { on := 10, ground := Ground.phase }, { on := 11, ground := Ground.phase }, { on := 12, ground := Ground.phase }], guard := none }) rfl (fun K hK => ?_) AllReadyH.nil)
              go_simp
              refine hK.out _ _ ?_ (fun hHeld => ?_)
              · exact hS _ hbf
              clear hK K
              try simp only [Act.put, List.setIfInBounds_toArray, List.set_cons_zero, List.set_cons_succ]
              refine wpAnyH_done (by kernel_rfl) ?_ _
              have HBF := hide hbf
              have HIF := hide hif
              have HXF := hide hxf
              have hc1f := (hS _ hbf).2
              generalize w12.setCell ⟨wr.heap.size, 1, none⟩ (.slice va (t.ins.length + 1) vc) = Wf at *
              have HE := hide (HBB.out _ HBF.out)
              have C8 := hide (CM.out Wf va vc (by have h := HIF.out; rw [HDD.out] at h; exact h) (HOUT.out _ HBF.out))
              obtain ⟨y0, y1, y2, -⟩ := HXF.out
              clear hHeld hcell hfrz hb12 hbf hif hxf hrun12 hrun3 hown3 hb3 hsz3 hblk3 hwh3 hS hs1 hs2 hone hlen hlp hrow hkeys hDl hDx hwa CM HIF HXF HOUT HBB HBF HBX HSZ
              by_cases h8 : 8 ≤ t.ins.length
              · have e8 : (8 : Int) ≤ (t.ins.length : Int) := by omega
                rw [if_pos h8] at C8
                clear h8
                go_wp2_with fail
                refine C8.out.mono ?_
                rintro e w7 ⟨rfl, hb7⟩
                have HE7 := hide (below_on HE.out hb7)
                clear hb7 C8 HE y0 y1 y2 hc1f
                go_wp2
                go_ret
                exact ⟨rfl, HE7.out⟩
              · have e8 : ¬ (8 : Int) ≤ (t.ins.length : Int) := by omega
                rw [if_neg h8] at C8
                clear h8
                go_wp2_with fail
                refine C8.out.mono ?_
                rintro e w7 ⟨rfl, hb7⟩
                have HE7 := hide (below_on HE.out hb7)
                clear hb7 C8 HE y0 y1 y2 hc1f
                go_wp2
                go_ret
                exact ⟨rfl, HE7.out⟩
theorem chE_zero {t : Tr} {p d : Bool} (h : chE t p d = 0) : formB t = true ∧ 0 < t.ins.length ∧ 0 < t.outs.length ∧ p = true ∧ d = false := by
  unfold chE at h
  split at h
  · cases h
  · rename_i h1
    split at h
    · cases h
    · rename_i h2
      split at h
      · cases h
      · rename_i h3
        split at h
        · cases h
        · rename_i h4
          exact ⟨by simpa using h1, by omega, by omega, by simpa using h3, by simpa using h4⟩
theorem may_law {w : World} (t : Tr) (iv ov : Value) (h : TxAt w iv ov t) (hok : TrOk t) (x : Int) (hx : 0 ≤ x ∧ x < 256) :
    Calls Try.prog 4 #[.agg #[.int .u32 t.ver, iv, ov], .int .u8 x] w fun e w' => e = .returned (.bool true) ∧ Below w.heap.size w w' := by
  classical
  cases hg : greatB t with
  | true => exact may_great t iv ov h hok x hg
  | false =>
    have hp : decide (PayOk t.outs) = true ↔ PayOk t.outs := decide_eq_true_iff
    have hd : (!decide (t.ins.map ptOf).Nodup) = false ↔ (t.ins.map ptOf).Nodup := by simp
    by_cases hE : chE t (decide (PayOk t.outs)) (!decide (t.ins.map ptOf).Nodup) = 0
    · obtain ⟨h1, h2, h3, h4, h5⟩ := chE_zero hE
      exact may_form t iv ov h hok x hx hg h1 h2 h3 (hp.1 h4) (hd.1 h5)
    · exact may_no t iv ov h hok x hg _ _ hp hd hE

set_option maxRecDepth 100000 in
theorem txMay_lifted (os : Os) (started : os.Started) (H : Type) (enc : TypeId × Value → H) :
    ReturnsInHanded {} Try.checked os 4 .any (Rows.txMaySpec.pre6 enc Try.prog Try.f4 Rows.txMayRow.domain false) (Rows.txMaySpec.post enc Try.prog Try.f4 false true false false) := by
  refine returnsInHanded_of_change (C := Try.checked) own started (by kernel_rfl) Try.func4
    (ChangeSpec.witness6 (enc := enc) (C := Try.checked) false ⟨#[], #[.agg #[.int .u32 0, .slice none 0 0, .slice none 0 0], .int .u8 0], []⟩ 8 (by kernel_rfl) (by kernel_rfl) (by kernel_rfl) (by kernel_rfl)) ?_
  intro W base args ds gs before hval0 hW hcnd _
  have hval : ∀ (j : Nat) t v, Try.f4.params[j]? = some t → args[j]? = some v → Value.okWide Try.prog W .any base t v := hval0
  have hW' := hW
  obtain ⟨p, q, hA0, hV, rfl, hfz, hnd⟩ := hW
  have hA : DataW.TrodAll enc Try.prog W 0 (fun _ => true) true Try.f4.params.toList args.toList ds p := hA0
  rw [Try.params4] at hA hval
  obtain ⟨v0, vs0, d0, ds0, p0, q0, hargs, rfl, rfl, h0, r0⟩ := trodAll_cons hA
  obtain ⟨v1, vs1, d1, ds1, p1, q1, rfl, rfl, rfl, h1, r1⟩ := trodAll_cons r0
  obtain ⟨rfl, rfl, rfl⟩ := trodAll_nil r1
  obtain rfl : args = #[v0, v1] := by cases args; simp_all
  obtain ⟨rfl, rfl⟩ := trodVars_none hV
  have k0 := h0
  have lt0 : ∀ x ∈ p0, x.block < W.heap.size := by obtain ⟨m, hm⟩ := k0; exact DataW.trod_lt m _ _ _ hm
  obtain ⟨t0, a0, b0, rfl, s0, w0⟩ := tx_came (fun _ => rfl) (hval 0 28 v0 rfl rfl) h0
  obtain ⟨a1, rfl, rfl, rfl, w1⟩ := open_int Try.underlying5 (hval 1 5 v1 rfl rfl) h1
  clear hA0 hval0
  refine (may_law (w := W) t0 _ _ s0 w0 a1 (byte_of_wf w1)).mono fun e W' ⟨he, bel⟩ => ?_
  subst he
  exact ⟨_, rfl, _, _, _, [], _, [], hW', trodAll_mk1 (shut_bool Try.underlying4 _), (trodAll_cons_mk (Below.trod laidOut (by kernel_rfl) (of_decide_eq_true (by kernel_rfl)) k0 bel lt0) (trodAll_cons_mk (shut_int Try.underlying5 w1) trodAll_mk0)), rfl, bel.frame _, fun h => by cases h⟩

theorem txMay_holds : Rows.TxMaySaid :=
  OpenClaim.holds_of_wide 4 Try.f4 rfl rfl rfl rfl rfl rfl rfl ⟨rfl, rfl, rfl, rfl, rfl⟩ rfl rfl rfl rfl rfl (by kernel_rfl) Try.func4 (by kernel_rfl)
    (of_decide_eq_true (by kernel_rfl)) (by unfold Func.isWrapper; first | (rw [if_pos (by decide +kernel)]; kernel_rfl) | (rw [if_neg (by decide +kernel)]; exact ⟨rfl, rfl⟩))
    (fun os started H enc _ => txMay_lifted os started H enc)
#print axioms txMay_holds
end Go.Proofs.Ytjmifgdjmaelfaa
