/-
  For every list of coins and every list of marks the law CoinParts returns true: coins put at once are as those put one by one, taken at once as one by one; no condition.
-/
import Derived.Test.YtkemdfikcmgaaabCoAlive
import Derived.Test.YtkemdfikcmgaaabCoPartP
namespace Go.Proofs.Ytkemdfikcmgaaab
open Go.ChangeShapes Go.WideShapes Go.ChangeAt Go.RowKit

set_option maxRecDepth 100000 in
set_option maxHeartbeats 600000 in
theorem parts_long1 (w : World) (v v' : Value) (L : List Cn) (hV : CnsAt w v L) (hlen : 300 < L.length) :
    Calls Try.prog 3 #[v, v'] w fun e w' => e = .returned (.bool true) ∧ Below w.heap.size w w' := by
  have CAL := hide (alive9_any w)
  obtain ⟨a, cap, rfl, hc1, hc2⟩ := hV.form
  have HML := hide (fun w' => many_yes L.length a cap w' hlen)
  clear hV hlen
  go_enter Try.func3, Try.ntmps3
  go_wp2_with fail
  refine CAL.out.mono ?_
  rintro e w1 ⟨rfl, hb1⟩
  have HB1 := hide hb1
  clear hb1 CAL
  go_wp2_with fail
  refine (HML.out w1).mono ?_
  rintro e w2 ⟨rfl, rfl⟩
  go_wp2
  go_ret
  exact ⟨rfl, HB1.out⟩
set_option maxRecDepth 100000 in
set_option maxHeartbeats 600000 in
theorem parts_long2 (w : World) (v v' : Value) (L : List Cn) (B : List Bool) (hV : CnsAt w v L) (hB' : BoolsAt w v' B) (hlen : L.length ≤ 300) (hlen' : 300 < B.length) :
    Calls Try.prog 3 #[v, v'] w fun e w' => e = .returned (.bool true) ∧ Below w.heap.size w w' := by
  have CAL := hide (alive9_any w)
  obtain ⟨a, cap, rfl, hc1, hc2⟩ := hV.form
  obtain ⟨a', cap', rfl, hd1, hd2⟩ := hB'.form
  have HML := hide (fun w' => many_no L.length a cap w' hlen)
  have hbl : (300 : Int) < (B.length : Int) := by omega
  clear hV hB' hlen hlen'
  go_enter Try.func3, Try.ntmps3
  go_wp2_with fail
  refine CAL.out.mono ?_
  rintro e w1 ⟨rfl, hb1⟩
  have HB1 := hide hb1
  clear hb1 CAL
  go_wp2_with fail
  refine (HML.out w1).mono ?_
  rintro e w2 ⟨rfl, rfl⟩
  go_wp2
  go_ret
  exact ⟨rfl, HB1.out⟩
set_option maxRecDepth 100000 in
set_option maxHeartbeats 600000 in
theorem parts_twice (w : World) (v v' : Value) (L : List Cn) (B : List Bool) (hV : CnsAt w v L) (hB' : BoolsAt w v' B) (hok : ∀ c ∈ L, CnOk c) (hlen : L.length ≤ 300) (hlen' : B.length ≤ 300) (hN : ¬ (L.map Cn.pt).Nodup) :
    Calls Try.prog 3 #[v, v'] w fun e w' => e = .returned (.bool true) ∧ Below w.heap.size w w' := by
  have CAL := hide (alive9_any w)
  have HV := hide hV
  have HOK := hide hok
  have HN := hide hN
  have HLN : Hid (L.length ≤ 300) := hide hlen
  have HBL := hide hB'
  have hle : (L.length : Int) ≤ 300 := by omega
  obtain ⟨a, cap, rfl, hc1, hc2⟩ := hV.form
  obtain ⟨a', cap', rfl, hd1, hd2⟩ := hB'.form
  have HML := hide (fun w' => many_no L.length a cap w' hlen)
  have hbl : (B.length : Int) ≤ 300 := by omega
  clear hV hB' hlen hlen' hok hN
  go_enter Try.func3, Try.ntmps3
  go_wp2_with fail
  refine CAL.out.mono ?_
  rintro e w1 ⟨rfl, hb1⟩
  have HB1 := hide hb1
  have CE := hide (new_ok [] (.slice none 0 0) w1 (RowAt.nil w1 66) (fun _ h => by cases h) (by simp) (by simp))
  clear hb1 CAL
  go_wp2_with fail
  refine (HML.out w1).mono ?_
  rintro e w2 ⟨rfl, hw2⟩
  rw [hw2]
  clear hw2
  -- a set
  go_wp2_with fail
  refine CE.out.mono ?_
  rintro e w2 ⟨b, k, rfl, hset, hbb, hkb, hb2⟩
  have HS2 := hide hset
  have HB2 := hide (below_on HB1.out hb2)
  have HBK : Hid (w.heap.size ≤ b ∧ w.heap.size ≤ k ∧ b < w2.heap.size ∧ k < w2.heap.size) := hide ⟨Nat.le_trans HB1.out.size hbb, Nat.le_trans HB1.out.size hkb, hset.lt, (hset.2.2.2 k rfl).2.lt⟩
  have CE2 := hide (new_ok [] (.slice none 0 0) w2 (RowAt.nil w2 66) (fun _ h => by cases h) (by simp) (by simp))
  clear hset hbb hkb hb2 CE HB1
  -- another one
  go_wp2_with fail
  refine CE2.out.mono ?_
  rintro e w3 ⟨b', k', rfl, hset, hbb, hkb, hb3⟩
  have HS3 := hide (HS2.out.on hb3)
  have HT3 := hide hset
  have HB3 := hide (below_on HB2.out hb3)
  have HBK' : Hid (w2.heap.size ≤ b' ∧ w2.heap.size ≤ k' ∧ b' < w3.heap.size ∧ k' < w3.heap.size) := hide ⟨hbb, hkb, hset.lt, (hset.2.2.2 k' rfl).2.lt⟩
  clear hset hbb hkb hb3 CE2 HS2 HB2
  have CP := hide (put_twice w3 b (some k) [] HS3.out L _ (HV.out.on HB3.out) HOK.out (by have := HLN.out; omega) HN.out)
  go_wp2_with fail
  refine CP.out.mono ?_
  rintro e w4 ⟨rfl, hb4⟩
  have HB4 := hide (below_on HB3.out hb4)
  have CL := hide (len_any w4 b (some k) [] (HS3.out.on hb4))
  clear hb4
  go_wp2_with fail
  refine CL.out.mono ?_
  rintro e w5 ⟨rfl, hw5⟩
  rw [hw5]
  clear hw5
  go_wp2
  go_ret
  exact ⟨rfl, HB4.out⟩
theorem ps_one (w : World) (p : Pt) (hp : PtOk p) : PsAt (w.alloc (.cells (pC p).toArray 36)) (.slice (some ⟨w.heap.size, 0, none⟩) 1 1) [p] := by
  refine ⟨_, 1, rfl, by simp, by omega, by simp, fun _ => ⟨w.heap.size, 0, rfl, fun i l hi => ?_⟩⟩
  obtain rfl : i = 0 := by have := (List.getElem?_eq_some_iff.1 hi).1; simp at this; omega
  obtain rfl : l = pC p := by simpa using hi.symm
  have := pC_length hp
  exact range_new w (pC p) 36
theorem dropPts_length (C : List Cn) (l : List Pt) : (dropPts C l).length ≤ C.length := List.length_filter_le _ _
theorem mem_drop {C : List Cn} {l : List Pt} {x : Cn} (h : x ∈ C) (hn : x.pt ∉ l) : x ∈ dropPts C l := by
  unfold dropPts
  rw [List.mem_filter]
  exact ⟨h, by simpa using hn⟩
theorem sel_none (B : List Bool) : selB [] B = [] := by simp [selB]
/-- So far these are put, one by one. -/
def PartI (w : World) (b k : Nat) (L : List Cn) (i : Value) (wr : World) : Prop := ∃ j : Nat, j ≤ L.length ∧ i = .int .i64 j ∧ SetAt wr b (some k) (L.take j) ∧ Besides b k w wr
/-- So far these are taken, one by one. -/
def PartJ (w : World) (b k : Nat) (L : List Cn) (B : List Bool) (v i : Value) (wr : World) : Prop := ∃ j : Nat, j ≤ L.length ∧ i = .int .i64 j ∧ SetAt wr b (some k) (dropPts L ((selB (L.take j) B).map Cn.pt)) ∧ Besides b k w wr ∧
  RowOwn wr w.heap.size 36 33 v ((selB (L.take j) B).map fun c => pC c.pt)
set_option maxRecDepth 100000 in
set_option maxHeartbeats 1000000 in
theorem parts_main (w : World) (v v' : Value) (L : List Cn) (B : List Bool) (hV : CnsAt w v L) (hB' : BoolsAt w v' B) (hok : ∀ c ∈ L, CnOk c) (hlen : L.length ≤ 300) (hlen' : B.length ≤ 300) (hN : (L.map Cn.pt).Nodup) :
    Calls Try.prog 3 #[v, v'] w fun e w' => e = .returned (.bool true) ∧ Below w.heap.size w w' := by
  have CAL := hide (alive9_any w)
  have HV := hide hV
  have HOK := hide hok
  have HN := hide hN
  have HLN : Hid (L.length ≤ 300) := hide hlen
  have HBL := hide hB'
  have hle : (L.length : Int) ≤ 300 := by omega
  obtain ⟨a, cap, rfl, hc1, hc2⟩ := hV.form
  obtain ⟨a', cap', rfl, hd1, hd2⟩ := hB'.form
  have HML := hide (fun w' => many_no L.length a cap w' hlen)
  have hbl : (B.length : Int) ≤ 300 := by omega
  clear hV hB' hlen hlen' hok hN
  have HZ := hide zero_cn
  go_enter Try.func3, Try.ntmps3
  go_wp2_with fail
  refine CAL.out.mono ?_
  rintro e w1 ⟨rfl, hb1⟩
  have HB1 := hide hb1
  have CE := hide (new_ok [] (.slice none 0 0) w1 (RowAt.nil w1 66) (fun _ h => by cases h) (by simp) (by simp))
  clear hb1 CAL
  go_wp2_with fail
  refine (HML.out w1).mono ?_
  rintro e w2 ⟨rfl, hw2⟩
  rw [hw2]
  clear hw2
  -- a set
  go_wp2_with fail
  refine CE.out.mono ?_
  rintro e w2 ⟨b, k, rfl, hset, hbb, hkb, hb2⟩
  have HS2 := hide hset
  have HB2 := hide (below_on HB1.out hb2)
  have HBK : Hid (w.heap.size ≤ b ∧ w.heap.size ≤ k ∧ b < w2.heap.size ∧ k < w2.heap.size) := hide ⟨Nat.le_trans HB1.out.size hbb, Nat.le_trans HB1.out.size hkb, hset.lt, (hset.2.2.2 k rfl).2.lt⟩
  have CE2 := hide (new_ok [] (.slice none 0 0) w2 (RowAt.nil w2 66) (fun _ h => by cases h) (by simp) (by simp))
  clear hset hbb hkb hb2 CE HB1
  -- another one
  go_wp2_with fail
  refine CE2.out.mono ?_
  rintro e w3 ⟨b', k', rfl, hset, hbb, hkb, hb3⟩
  have HS3 := hide (HS2.out.on hb3)
  have HT3 := hide hset
  have HB3 := hide (below_on HB2.out hb3)
  have HBK' : Hid (w2.heap.size ≤ b' ∧ w2.heap.size ≤ k' ∧ b' < w3.heap.size ∧ k' < w3.heap.size) := hide ⟨hbb, hkb, hset.lt, (hset.2.2.2 k' rfl).2.lt⟩
  clear hset hbb hkb hb3 CE2 HS2 HB2
  have CP := hide (put_ok w3 b (some k) [] HS3.out L _ (HV.out.old HB3.out fun g hg => ⟨by have := HBK.out; omega, by have := HBK.out; simp; omega⟩) HOK.out (by have := HLN.out; omega) (by simp) HN.out (by simp))
  go_wp2_with fail
  refine CP.out.mono ?_
  rintro e w4 ⟨rfl, k2, hset, hk, hbes⟩
  obtain rfl : k2 = k := by
    rcases hk with e | ⟨e, -⟩
    · exact (Option.some.inj e).symm
    · cases e
  rw [List.nil_append] at hset
  have HS4 := hide hset
  have HT4 := hide (HT3.out.besides hbes (by have h1 := HBK.out; have h2 := HBK'.out; exact ⟨by omega, by simp; omega⟩) (fun y hy => by cases hy; have h1 := HBK.out; have h2 := HBK'.out; exact ⟨by omega, by simp; omega⟩))
  have HB4 := hide (besides_below HB3.out hbes (by have := HBK.out; omega) (by have := HBK.out; simp; omega) (Nat.le_refl _))
  have HZ4 : Hid (w3.heap.size ≤ w4.heap.size) := hide hbes.size
  clear hset hk hbes CP HS3 HT3
  have HI0 : Hid (PartI w4 b' k' L (.int .i64 0) w4) := hide ⟨0, Nat.zero_le _, rfl, by rw [List.take_zero]; exact HT4.out, .of_below (Below.refl _ _)⟩
  go_wp2_with fail
  go_loopw [50] (fun i wr => PartI w4 b' k' L i wr) (fun i _ => L.length - (intOf i).toNat)
  case atStart => exact HI0.out
  case round =>
    clear HI0
    obtain ⟨j, hj, rfl, hset, hbes⟩ := hrel
    have HSJ := hide hset
    have HBES := hide hbes
    have HBW := hide (besides_below HB4.out hbes (by have := HBK.out; have := HBK'.out; omega) (by have := HBK.out; have := HBK'.out; omega) (Nat.le_refl _))
    by_cases hlt : j < L.length
    · obtain ⟨x, hx⟩ : ∃ x, L[j]? = some x := ⟨_, List.getElem?_eq_getElem hlt⟩
      obtain ⟨b2, off2, rfl, hr⟩ := (HV.out.on HBW.out).get hx
      have hxo := HOK.out x (List.mem_of_getElem? hx)
      have HXO := hide hxo
      have HXR := hide hr
      have HN1 : Hid ((Try.prog.info? 41).map (·.size) = some (cnC x).length) := hide (by rw [cnC_length hxo]; exact info_cn)
      have H1 : Hid (∀ u ∈ cnC x, u.oneCell' = true) := hide (cnC_one x)
      have HT : Hid (∀ w : World, (w.alloc (.cells coinZ 41)).there w.heap.size 0 (cnC x).length) := hide (fun w => by rw [cnC_length hxo]; exact cn_there w)
      have HCL := hide (cnC_length hxo)
      have hk1 : (j : Int) < (L.length : Int) := by omega
      have hnp : x.pt ∉ (L.take j).map Cn.pt := by
        have := new_pt (C := []) hx HN.out (by simp)
        simpa using this
      have HNP := hide hnp
      have HX := hide hx
      have hzc := HZ.out wr
      have HWS : Hid (w4.heap.size ≤ wr.heap.size) := hide hbes.size
      clear hx hr hxo hset hbes hnp
      go_upto_region 14 with (first | (refine wpList_load_mid rfl 41 (.tmp 52) rfl b2 (off2 + j * 66) rfl (cnC x) _ HXR.out Try.underlying41 rfl HN1.out ?_) | (refine wp_store_row rfl 41 (.tmp 10) (.tmp 53) rfl wr.heap.size 0 (cnC x) rfl rfl (HT.out wr) HN1.out H1.out ?_))
      have hW : ((wr.alloc (.cells coinZ 41)).setCells wr.heap.size 0 (cnC x)).rangeAt wr.heap.size 0 (cnC x) := World.rangeAt_setCells_same _ _ _ _ (HT.out wr)
      have hB2 : Below wr.heap.size wr ((wr.alloc (.cells coinZ 41)).setCells wr.heap.size 0 (cnC x)) := below_sets (Nat.le_refl _) _ _ _ (below_new wr _)
      generalize (wr.alloc (.cells coinZ 41)).setCells wr.heap.size 0 (cnC x) = W at *
      have HRW := hide hW
      have hb5 := below_new W (.cells (cnC x).toArray 41)
      have hk5 : Keeps (off b' ((some k').getD b')) (W.alloc (.cells (cnC x).toArray 41)) (fun w => CnsAt w (.slice (some ⟨W.heap.size, 0, none⟩) 1 1) [x]) :=
        (cns_one W x HXO.out).keeps2 fun _ g hg => by
          have h1 := HWS.out
          have h2 := HBK'.out
          have h3 := hB2.size
          have h4 := HZ4.out
          obtain rfl : W.heap.size = g := by simpa [Value.ownBlock] using hg
          exact ⟨by omega, by simp; omega⟩
      have HPUT := hide (put_ok _ b' (some k') _ ((HSJ.out.on hB2).on hb5) [x] _ hk5 (fun c hc => by rw [List.mem_singleton.1 hc]; exact HXO.out) (by simp) (by rw [List.length_take]; omega) (List.pairwise_singleton _ _) (fun p hp => by simp at hp; rw [hp]; exact HNP.out))
      have HBES2 := hide (HBES.out.on (below_on hB2 hb5))
      clear hW hB2 hb5 hk5 HXR H1 HT hzc HSJ HNP
      generalize wr.heap.size = gb at *
      try simp only [Act.put]
      go_wp2_with (first
        | (refine cw_load (by rfl) 41 (.tmp 10) rfl gb 0 rfl (cnC x) _ HRW.out Try.underlying41 rfl HN1.out ?_)
        | (refine cw_build1 (by rfl) 22 41 (.tmp 55) rfl _ 66 80 Try.underlying22 infoCn (by omega) (by omega) (cnC x) HCL.out rfl ?_))
      generalize W.alloc (.cells (cnC x).toArray 41) = w5 at *
      refine HPUT.out.mono ?_
      rintro e w6 ⟨rfl, k3, hset, hk, hbes⟩
      obtain rfl : k3 = k' := by
        rcases hk with e | ⟨e, -⟩
        · exact (Option.some.inj e).symm
        · cases e
      have R : Hid (PartI w4 b' k3 L (.int .i64 ((j + 1 : Nat) : Int)) w6) := hide ⟨j + 1, by omega, rfl, by
        obtain ⟨e1, e2⟩ := List.getElem?_eq_some_iff.1 HX.out
        rw [List.take_succ_eq_append_getElem e1, e2]
        exact hset, HBES2.out.trans hbes⟩
      clear hset hk hbes HPUT
      go_wp2
      go_roundw
      case rel => first | exact R.out | ((repeat apply Exists.intro); exact ⟨R.out, rfl⟩)
      case measure => simp [intOf]; omega
    · have hk2 : (L.length : Int) ≤ (j : Int) := by omega
      rw [List.take_of_length_le (by omega)] at hset
      have HT5 := hide hset
      have HS5 := hide (HS4.out.besides hbes (by have h1 := HBK.out; have h2 := HBK'.out; exact ⟨by omega, by omega⟩) (fun y hy => by cases hy; have h1 := HBK.out; have h2 := HBK'.out; exact ⟨by omega, by omega⟩))
      have HZ5 : Hid (w3.heap.size ≤ wr.heap.size) := hide (Nat.le_trans HZ4.out hbes.size)
      obtain ⟨w5, rfl⟩ : ∃ x, x = wr := ⟨_, rfl⟩
      clear hset hbes HSJ HBES HS4 HT4
      have HJ0 : Hid (PartJ w5 b' k' L B (.slice none 0 0) (.int .i64 0) w5) := hide ⟨0, Nat.zero_le _, rfl, by rw [List.take_zero, sel_none, List.map_nil, drop_none]; exact HT5.out, .of_below (Below.refl _ _), by rw [List.take_zero, sel_none, List.map_nil]; exact RowOwn.nil _ _ _ _⟩
      go_wp2_with fail
      go_loopw [11, 62] (fun v i wr => PartJ w5 b' k' L B v i wr) (fun _ i _ => L.length - (intOf i).toNat)
      case atStart => exact HJ0.out
      case round =>
        clear HJ0
        obtain ⟨q, hq, rfl, hset, hbes, hrow⟩ := hrel
        have HSQ := hide hset
        have HBQ := hide hbes
        have HROW := hide hrow
        have HB5 := hide (besides_below HBW.out hbes (by have := HBK.out; have := HBK'.out; omega) (by have := HBK.out; have := HBK'.out; omega) (Nat.le_refl _))
        by_cases hlt2 : q < L.length
        · have hzc := HZ.out wr
          clear hset hbes hrow
          obtain ⟨x, hx⟩ : ∃ x, L[q]? = some x := ⟨_, List.getElem?_eq_getElem hlt2⟩
          obtain ⟨b2, off2, rfl, hr⟩ := (HV.out.on HB5.out).get hx
          have hxo := HOK.out x (List.mem_of_getElem? hx)
          have HXO := hide hxo
          have HXR := hide hr
          have HX := hide hx
          have HN1 : Hid ((Try.prog.info? 41).map (·.size) = some (cnC x).length) := hide (by rw [cnC_length hxo]; exact info_cn)
          have H1 : Hid (∀ u ∈ cnC x, u.oneCell' = true) := hide (cnC_one x)
          have HT : Hid (∀ w : World, (w.alloc (.cells coinZ 41)).there w.heap.size 0 (cnC x).length) := hide (fun w => by rw [cnC_length hxo]; exact cn_there w)
          have hk1 : (q : Int) < (L.length : Int) := by omega
          have HNEXT := hide (selB_next L B q x hx)
          have HSZ : Hid (w5.heap.size ≤ wr.heap.size) := hide HBQ.out.size
          clear hx hr hxo
          go_upto_region 21 with (first | (refine wpList_load_mid rfl 41 (.tmp 65) rfl b2 (off2 + q * 66) rfl (cnC x) _ HXR.out Try.underlying41 rfl HN1.out ?_) | (refine wp_store_row rfl 41 (.tmp 13) (.tmp 66) rfl wr.heap.size 0 (cnC x) rfl rfl (HT.out wr) HN1.out H1.out ?_))
          have hW : ((wr.alloc (.cells coinZ 41)).setCells wr.heap.size 0 (cnC x)).rangeAt wr.heap.size 0 (cnC x) := World.rangeAt_setCells_same _ _ _ _ (HT.out wr)
          have hB2 : Below wr.heap.size wr ((wr.alloc (.cells coinZ 41)).setCells wr.heap.size 0 (cnC x)) := below_sets (Nat.le_refl _) _ _ _ (below_new wr _)
          generalize (wr.alloc (.cells coinZ 41)).setCells wr.heap.size 0 (cnC x) = W at *
          have HRP := hide (cn_range hW HXO.out).1
          have HRO : Hid (W.rangeAt wr.heap.size 33 (outC x.out)) := hide (by have h := (cn_range hW HXO.out).2; rw [Nat.zero_add] at h; exact h)
          have HSW := hide (HSQ.out.on hB2)
          have HBW5 := hide (HBQ.out.on hB2)
          have HROWW := hide (HROW.out.move (w1 := W) fun g _ hl => hB2.block g hl)
          have HBLW := hide ((HBL.out.on HB5.out).on hB2)
          have HOL : Hid (∀ g, u11.ownBlock = some g → g < wr.heap.size) := hide (fun g hg => (HROW.out.lt g hg).2)
          have HGS : Hid (wr.heap.size < W.heap.size) := hide (by
            obtain ⟨u, hu⟩ : ∃ u, (pC x.pt)[0]? = some u := ⟨_, List.getElem?_eq_getElem (by rw [pC_length HXO.out.1]; omega)⟩
            exact World.block_lt_of_cell? _ _ (HRP.out 0 u hu))
          clear hW hB2 HXR HN1 H1 HT hzc HSQ HBQ HROW
          generalize wr.heap.size = gb at *
          have hunm : B.getD q false = false → PartJ w5 b' k' L B u11 (.int .i64 ((q + 1 : Nat) : Int)) W := fun e => ⟨q + 1, by omega, rfl, by rw [HNEXT.out, e]; simpa using HSW.out, HBW5.out, by rw [HNEXT.out, e]; simpa using HROWW.out⟩
          have HUNM := hide hunm
          clear hunm
          by_cases hqb : q < B.length
          · obtain ⟨b3, off3, rfl, hcell⟩ := HBLW.out.get hqb
            have hqb2 : (q : Int) < (B.length : Int) := by omega
            obtain ⟨m, hm⟩ : ∃ m, m = B.getD q false := ⟨_, rfl⟩
            rw [← hm] at hcell
            have HM := hide hm
            clear hm
            cases m with
            | false =>
              have R := hide (HUNM.out HM.out.symm)
              clear HUNM HSW HBW5 HROWW HBLW HNEXT HRP HRO
              go_wp2
              go_roundw
              case rel => first | exact R.out | ((repeat apply Exists.intro); exact ⟨R.out, rfl⟩)
              case measure => simp [intOf]; omega
            | true =>
              have HNP := hide (sel_pts B q HN.out HX.out)
              have HLP : Hid ((Try.prog.info? 36).map (·.size) = some (pC x.pt).length) := hide (by rw [pC_length HXO.out.1]; exact info_pt)
              have HLEN : Hid ((pC x.pt).length = 33) := hide (pC_length HXO.out.1)
              have HLO : Hid ((Try.prog.info? 39).map (·.size) = some (outC x.out).length) := hide (by rw [outC_length HXO.out.2.2.1]; exact info_out)
              have hPP : ∀ u ∈ pC x.pt, u.oneCell' = true := pC_one _
              have HPS := hide (fun w => ps_one w x.pt HXO.out.1)
              clear HUNM HBLW
              go_upto_region 22 with fail
              clear hcell
              generalize hP : pC x.pt = P at *
              have HPP := hide hP
              clear hP
              have hbn := below_new W (.cells P.toArray 36)
              have HNEW := hide (range_new W P 36)
              have HROW3 := hide (HROWW.out.move (w1 := W.alloc (.cells P.toArray 36)) fun g _ hl => hbn.block g hl)
              have hw4 : w5.heap.size ≤ (W.alloc (.cells P.toArray 36)).heap.size := Nat.le_trans HBW5.out.size hbn.size
              have hsl := (selB_sub (L.take q) B).length_le
              rw [List.length_take] at hsl
              obtain ⟨v4, w6, hrun, hrow5, hgr, -⟩ := run_append_row (W.alloc (.cells P.toArray 36)) 42 36 42 _ 33 36 Try.underlying42 infoP rfl (by omega) (by omega) w5.heap.size u11 ((selB (L.take q) B).map fun c => pC c.pt) HROW3.out W.heap.size P HNEW.out ⟨HLEN.out, hPP⟩ (by rw [List.length_map]; have := HLN.out; omega) hw4
              obtain ⟨va, vc, rfl, -, -⟩ := hrow5.row.form
              have hlt5 := HROW3.out.lt
              have hbq : b' < w5.heap.size ∧ k' < w5.heap.size := by have h2 := HBK'.out; have h3 := HZ5.out; exact ⟨by omega, by omega⟩
              have HBQQ := hide hbq
              have HBES6 := hide ((HBW5.out.on hbn).grown hgr fun g hg => (hlt5 g hg).1)
              have HS6 := hide ((HSW.out.on hbn).heap (hgr.block b' (Nat.lt_of_lt_of_le hbq.1 hw4) fun e => by have := (hlt5 b' e.symm).1; omega) fun y hy => by
                cases hy
                exact hgr.block k' (Nat.lt_of_lt_of_le hbq.2 hw4) fun e => by have := (hlt5 k' e.symm).1; omega)
              have hgbb : w6.heap[gb]? = (W.alloc (.cells P.toArray 36)).heap[gb]? := hgr.block gb (Nat.lt_of_lt_of_le HGS.out hbn.size) fun e => by have := HOL.out gb e.symm; omega
              have HRP6 : Hid (w6.rangeAt gb 0 P) := hide (fun i u hu => (World.cell?_of_block (w := W.alloc (.cells P.toArray 36)) (a := ⟨gb, 0 + i, none⟩) hgbb).trans (range_on HRP.out hbn i u hu))
              have HRO6 : Hid (w6.rangeAt gb 33 (outC x.out)) := hide (fun i u hu => (World.cell?_of_block (w := W.alloc (.cells P.toArray 36)) (a := ⟨gb, 33 + i, none⟩) hgbb).trans (range_on HRO.out hbn i u hu))
              have HROW6 := hide hrow5
              have HGL : Hid (gb < w6.heap.size ∧ w5.heap.size ≤ w6.heap.size) := hide ⟨Nat.lt_of_lt_of_le HGS.out (Nat.le_trans hbn.size hgr.size), Nat.le_trans hw4 hgr.size⟩
              clear hbn HNEW HROW3 hw4 hsl hrow5 hgr hlt5 hbq hgbb HROWW HBW5 HSW HRO hPP HGS HOL
              obtain ⟨nn, hnn⟩ : ∃ nn, nn = (((selB (L.take q) B).map fun c => pC c.pt) ++ [P]).length := ⟨_, rfl⟩
              rw [← hnn] at hrun HROW6
              clear hnn
              go_upto_region 23 with (first
                | (refine wpList_load_mid rfl 36 (.tmp 78) rfl gb 0 rfl P _ HRP.out Try.underlying36 rfl HLP.out ?_)
                | (refine wp_build_one rfl 42 36 (.tmp 79) rfl _ 33 36 Try.underlying42 infoP (by omega) (by omega) P HLEN.out rfl ?_)
                | (at_builtin; refine wp_app rfl (.tmp 77) (.tmp 80) 42 rfl (v1 := u11) (v2 := .slice (some ⟨W.heap.size, 0, none⟩) 1 1) (v := .slice va nn vc) (w' := w6) rfl rfl ?_ ?_; exact hrun))
              clear hrun HRP
              generalize W.heap.size = ga at *
              -- one is taken
              have hb7 := below_new w6 (.cells P.toArray 36)
              have hk7 : Keeps (off b' ((some k').getD b')) (w6.alloc (.cells P.toArray 36)) (fun w => PsAt w (.slice (some ⟨w6.heap.size, 0, none⟩) 1 1) ([x].map Cn.pt)) :=
                (HPS.out w6).keeps2 fun _ g hg => by
                  have h2 := HBQQ.out
                  have h3 := HGL.out
                  obtain rfl : w6.heap.size = g := by simpa [Value.ownBlock] using hg
                  exact ⟨by omega, by simp; omega⟩
              have CT := hide (take_ok _ b' (some k') _ (HS6.out.on hb7) [x] _ hk7 (by simp) (List.pairwise_singleton _ _) (fun c hc => by rw [List.mem_singleton.1 hc]; exact mem_drop (List.mem_of_getElem? HX.out) HNP.out))
              have HBES7 := hide (HBES6.out.on hb7)
              have HRO7 := hide (range_on HRO6.out hb7)
              have HROW7 := hide (HROW6.out.move (w1 := w6.alloc (.cells P.toArray 36)) fun g _ hl => hb7.block g hl)
              have HGL7 : Hid (gb < (w6.alloc (.cells P.toArray 36)).heap.size ∧ w5.heap.size ≤ (w6.alloc (.cells P.toArray 36)).heap.size) := hide ⟨Nat.lt_of_lt_of_le HGL.out.1 hb7.size, Nat.le_trans HGL.out.2 hb7.size⟩
              clear hk7 hb7 HS6 HBES6 HRO6 HROW6 HPS HNP HGL
              go_wp2_with (first
                | (refine cw_load (by rfl) 36 (.tmp 84) rfl gb 0 rfl P _ HRP6.out Try.underlying36 rfl HLP.out ?_)
                | (refine cw_build1 (by rfl) 42 36 (.tmp 85) rfl _ 33 36 Try.underlying42 infoP (by omega) (by omega) P HLEN.out rfl ?_))
              generalize w6.alloc (.cells P.toArray 36) = w7 at *
              generalize w6.heap.size = ge at *
              refine CT.out.mono ?_
              rintro e w8 ⟨xv, rfl, hset, hbes, hrow⟩
              rw [drop_drop] at hset
              have HS8 := hide hset
              have HBES8 := hide (HBES7.out.trans hbes)
              have HROW8 := hide (HROW7.out.move (w1 := w8) fun g hg hl => hbes.block g hl (by have := HBQQ.out; omega) (by have := HBQQ.out; simp; omega))
              have hgb8 : w8.heap[gb]? = w7.heap[gb]? := hbes.block gb HGL7.out.1 (by have := HBQQ.out; have := HSZ.out; omega) (by have := HBQQ.out; have := HSZ.out; simp; omega)
              have HRO8 : Hid (w8.rangeAt gb 33 (outC x.out)) := hide (fun i u hu => (World.cell?_of_block (w := w7) (a := ⟨gb, 33 + i, none⟩) hgb8).trans (HRO7.out i u hu))
              have hxr : RowAt w8 33 xv (outsC [x]) := hrow.row
              obtain ⟨xa, xc, rfl, -, -⟩ := hrow.row.form
              obtain ⟨b4, off4, rfl, hr4⟩ := hxr.get (k := 0) (c := outC x.out) rfl
              rw [show off4 + 0 * 33 = off4 by omega] at hr4
              have HR4 := hide hr4
              rw [show (outsC [x]).length = 1 from rfl]
              have hEQ := eql_out x.out x.out HXO.out.2.2.1 HXO.out.2.2.1
              simp only [decide_true, Bool.and_self] at hEQ
              clear hset hbes hrow hxr hr4 hgb8 CT HBES7 HROW7 HRO7 HRP6 HLP HLEN
              go_upto_region 24 with fail
              generalize outC x.out = X at *
              generalize w8 = W at *
              refine wp_region_held_drew (S := fun wx => Below W.heap.size W wx) (by kernel_rfl) (Below.refl _ _).drew (fun hHeld => ?_)
              refine wpAnyH_take (i := 0) (oi := { dst := some 90, op := Op.move (Operand.tmp 15), type := 27, pos := "law.go:261", after := #[], guard := none }) (v := .int .i64 0) rfl (by kernel_rfl) (by kernel_rfl) (by kernel_rfl) (fun _ _ _ h => h) (Or.inl ⟨by rfl, fun w _ => by go_simp⟩) (by assumption) ?_
              simp only [Act.put, List.setIfInBounds_toArray, List.set_cons_zero, List.set_cons_succ]
              refine wpAnyH_take (i := 1) (oi := { dst := some 91, op := Op.binOp BinOp.neq 27 (Operand.tmp 90) (Operand.const (Value.int IntKind.i64 0)) 27, type := 4, pos := "law.go:261", after := #[{ on := 0, ground := Ground.data }], guard := none }) (v := .bool false) rfl (by kernel_rfl) (by kernel_rfl) (by kernel_rfl) (fun _ _ _ h => h) (Or.inl ⟨by rfl, fun w _ => by go_simp⟩) (by assumption) ?_
              simp only [Act.put, List.setIfInBounds_toArray, List.set_cons_zero, List.set_cons_succ]
              refine wpAnyH_take (i := 2) (oi := { dst := some 92, op := Op.move (Operand.tmp 91), type := 4, pos := "law.go:261", after := #[{ on := 1, ground := Ground.data }], guard := none }) (v := .bool false) rfl (by kernel_rfl) (by kernel_rfl) (by kernel_rfl) (fun _ _ _ h => h) (Or.inl ⟨by rfl, fun w _ => by go_simp⟩) (by assumption) ?_
              simp only [Act.put, List.setIfInBounds_toArray, List.set_cons_zero, List.set_cons_succ]
              refine wpAnyH_take (i := 3) (oi := { dst := some 93, op := Op.move (Operand.tmp 14), type := 43, pos := "law.go:261", after := #[{ on := 2, ground := Ground.guard }], guard := some (2, false) }) (v := .slice (some ⟨b4, off4, none⟩) 1 xc) rfl (by kernel_rfl) (by kernel_rfl) (by kernel_rfl) (fun _ _ _ h => h) (Or.inl ⟨by rfl, fun w _ => by go_simp⟩) (by assumption) ?_
              simp only [Act.put, List.setIfInBounds_toArray, List.set_cons_zero, List.set_cons_succ]
              refine wpAnyH_take (i := 4) (oi := { dst := some 94, op := Op.call { callee := Callee.builtin Builtin.len, args := #[Operand.tmp 93], argTypes := #[43] }, type := 3, pos := "law.go:261", after := #[{ on := 3, ground := Ground.data }, { on := 2, ground := Ground.guard }], guard := some (2, false) }) (v := .int .i64 1) rfl (by kernel_rfl) (by kernel_rfl) (by kernel_rfl) (fun _ _ _ h => h) (Or.inl ⟨by rfl, fun w _ => by go_simp⟩) (by assumption) ?_
              simp only [Act.put, List.setIfInBounds_toArray, List.set_cons_zero, List.set_cons_succ]
              refine wpAnyH_take (i := 5) (oi := { dst := some 95, op := Op.binOp BinOp.neq 3 (Operand.tmp 94) (Operand.const (Value.int IntKind.i64 1)) 3, type := 4, pos := "law.go:261", after := #[{ on := 4, ground := Ground.data }, { on := 2, ground := Ground.guard }], guard := some (2, false) }) (v := .bool false) rfl (by kernel_rfl) (by kernel_rfl) (by kernel_rfl) (fun _ _ _ h => h) (Or.inl ⟨by rfl, fun w _ => by go_simp⟩) (by assumption) ?_
              simp only [Act.put, List.setIfInBounds_toArray, List.set_cons_zero, List.set_cons_succ]
              refine wpAnyH_take (i := 6) (oi := { dst := some 96, op := Op.pick (Operand.tmp 92) (Operand.const (Value.bool true)) (Operand.tmp 95), type := 4, pos := "law.go:261", after := #[{ on := 2, ground := Ground.data }, { on := 5, ground := Ground.data }], guard := none }) (v := .bool false) rfl (by kernel_rfl) (by kernel_rfl) (by kernel_rfl) (fun _ _ _ h => h) (Or.inl ⟨by rfl, fun w _ => by go_simp⟩) (by assumption) ?_
              simp only [Act.put, List.setIfInBounds_toArray, List.set_cons_zero, List.set_cons_succ]
              refine wpAnyH_take (i := 7) (oi := { dst := some 97, op := Op.move (Operand.tmp 96), type := 4, pos := "law.go:261", after := #[{ on := 6, ground := Ground.data }, { on := 2, ground := Ground.chain }], guard := none }) (v := .bool false) rfl (by kernel_rfl) (by kernel_rfl) (by kernel_rfl) (fun _ _ _ h => h) (Or.inl ⟨by rfl, fun w _ => by go_simp⟩) (by assumption) ?_
              simp only [Act.put, List.setIfInBounds_toArray, List.set_cons_zero, List.set_cons_succ]
              refine wpAnyH_take (i := 8) (oi := { dst := some 98, op := Op.move (Operand.tmp 14), type := 43, pos := "law.go:261", after := #[{ on := 7, ground := Ground.guard }], guard := some (7, false) }) (v := .slice (some ⟨b4, off4, none⟩) 1 xc) rfl (by kernel_rfl) (by kernel_rfl) (by kernel_rfl) (fun _ _ _ h => h) (Or.inl ⟨by rfl, fun w _ => by go_simp⟩) (by assumption) ?_
              simp only [Act.put, List.setIfInBounds_toArray, List.set_cons_zero, List.set_cons_succ]
              refine wpAnyH_take (i := 9) (oi := { dst := some 99, op := Op.indexAddr 43 (Operand.tmp 98) (Operand.const (Value.int IntKind.i64 0)), type := 0, pos := "law.go:261", after := #[{ on := 8, ground := Ground.data }, { on := 7, ground := Ground.guard }], guard := some (7, false) }) (v := .pointer (some ⟨b4, off4, none⟩)) rfl (by kernel_rfl) (by kernel_rfl) (by kernel_rfl) (fun _ _ _ h => h) (Or.inl ⟨by rfl, fun w _ => by go_simp⟩) (by assumption) ?_
              simp only [Act.put, List.setIfInBounds_toArray, List.set_cons_zero, List.set_cons_succ]
              refine wpAnyH_take (i := 10) (oi := { dst := some 100, op := Op.load 39 (Operand.tmp 99), type := 39, pos := "law.go:261", after := #[{ on := 9, ground := Ground.data }, { on := 7, ground := Ground.guard }], guard := some (7, false) }) (v := .agg (X).toArray) rfl (by kernel_rfl) (by kernel_rfl) (by kernel_rfl) (fun _ _ _ h => h) (yieldsIf_load_mid (by rfl) 39 (.tmp 99) rfl b4 off4 rfl (X) _ (fun w h => range_on HR4.out h) Try.underlying39 rfl HLO.out) (by assumption) ?_
              simp only [Act.put, List.setIfInBounds_toArray, List.set_cons_zero, List.set_cons_succ]
              refine wpAnyH_take (i := 11) (oi := { dst := some 101, op := Op.fieldAddr 41 (Operand.tmp 13) 1, type := 0, pos := "law.go:261", after := #[{ on := 7, ground := Ground.guard }], guard := some (7, false) }) (v := .pointer (some ⟨gb, 33, none⟩)) rfl (by kernel_rfl) (by kernel_rfl) (by kernel_rfl) (fun _ _ _ h => h) (Or.inl ⟨by rfl, fun w _ => by go_simp⟩) (by assumption) ?_
              simp only [Act.put, List.setIfInBounds_toArray, List.set_cons_zero, List.set_cons_succ]
              refine wpAnyH_take (i := 12) (oi := { dst := some 102, op := Op.load 39 (Operand.tmp 101), type := 39, pos := "law.go:261", after := #[{ on := 11, ground := Ground.data }, { on := 7, ground := Ground.guard }], guard := some (7, false) }) (v := .agg (X).toArray) rfl (by kernel_rfl) (by kernel_rfl) (by kernel_rfl) (fun _ _ _ h => h) (yieldsIf_load_mid (by rfl) 39 (.tmp 101) rfl gb 33 rfl (X) _ (fun w h => range_on HRO8.out h) Try.underlying39 rfl HLO.out) (by assumption) ?_
              simp only [Act.put, List.setIfInBounds_toArray, List.set_cons_zero, List.set_cons_succ]
              refine wpAnyH_take (i := 13) (oi := { dst := some 103, op := Op.binOp BinOp.neq 39 (Operand.tmp 100) (Operand.tmp 102) 39, type := 4, pos := "law.go:261", after := #[{ on := 10, ground := Ground.data }, { on := 12, ground := Ground.data }, { on := 7, ground := Ground.guard }], guard := some (7, false) }) (v := .bool false) rfl (by kernel_rfl) (by kernel_rfl) (by kernel_rfl) (fun _ _ _ h => h) (Or.inl ⟨by rfl, fun w _ => by go_simp⟩) (by assumption) ?_
              simp only [Act.put, List.setIfInBounds_toArray, List.set_cons_zero, List.set_cons_succ]
              refine wpAnyH_take (i := 14) (oi := { dst := some 104, op := Op.pick (Operand.tmp 97) (Operand.const (Value.bool true)) (Operand.tmp 103), type := 4, pos := "law.go:261", after := #[{ on := 7, ground := Ground.data }, { on := 13, ground := Ground.data }], guard := none }) (v := .bool false) rfl (by kernel_rfl) (by kernel_rfl) (by kernel_rfl) (fun _ _ _ h => h) (Or.inl ⟨by rfl, fun w _ => by go_simp⟩) (by assumption) ?_
              simp only [Act.put, List.setIfInBounds_toArray, List.set_cons_zero, List.set_cons_succ]
              refine wpAnyH_done (by kernel_rfl) ?_ _
              have R : Hid (PartJ w5 b' k' L B (.slice va nn vc) (.int .i64 ((q + 1 : Nat) : Int)) W.drew) := hide ⟨q + 1, by omega, rfl, by rw [HNEXT.out, ← HM.out, if_pos rfl, List.map_append]; exact HS8.out.on hHeld, HBES8.out.on hHeld, by rw [HNEXT.out, ← HM.out, if_pos rfl, List.map_append, List.map_singleton, HPP.out]; exact HROW8.out.move fun g _ hl => hHeld.block g hl⟩
              clear hHeld HS8 HBES8 HROW8 HRO8 HR4 hEQ HLO HNEXT HPP
              go_wp2
              go_roundw
              case rel => first | exact R.out | ((repeat apply Exists.intro); exact ⟨R.out, rfl⟩)
              case measure => simp [intOf]; omega
          · have hqb2 : ¬ (q : Int) < (B.length : Int) := by omega
            have R := hide (HUNM.out (by simp [List.getD, List.getElem?_eq_none (show B.length ≤ q by omega)]))
            clear HUNM HSW HBW5 HROWW HBLW HNEXT HRP HRO
            go_wp2
            go_roundw
            case rel => first | exact R.out | ((repeat apply Exists.intro); exact ⟨R.out, rfl⟩)
            case measure => simp [intOf]; omega
        · have hq2 : (L.length : Int) ≤ (q : Int) := by omega
          rw [List.take_of_length_le (by omega)] at hset hrow
          have hsl := (selB_sub L B).length_le
          have hne : b ≠ b' ∧ b ≠ k' ∧ k2 ≠ b' ∧ k2 ≠ k' := by have h1 := HBK.out; have h2 := HBK'.out; exact ⟨by omega, by omega, by omega, by omega⟩
          have hsj := HS5.out.besides hbes ⟨hne.1, hne.2.1⟩ (fun y hy => by cases hy; exact ⟨hne.2.2.1, hne.2.2.2⟩)
          have hpk : Keeps (off b ((some k2).getD b)) wr fun w => PsAt w u11 ((selB L B).map Cn.pt) := by
            have hk := own_keeps (P := off b ((some k2).getD b)) hrow fun g h1 h2 => by
              have h3 := HBK.out
              have h4 := HBK'.out
              have h5 := HZ5.out
              exact ⟨by omega, by simp; omega⟩
            unfold PsAt
            rw [List.map_map]
            exact hk
          have CT := hide (take_ok wr b (some k2) _ hsj (selB L B) u11 hpk (by have := HLN.out; omega) (sel_nodup B HN.out) (sel_mem B))
          have HTJ := hide hset
          have HNE := hide hne
          clear hset hrow hsl hsj hpk hbes HSQ HBQ HROW hne
          go_wp2_with fail
          refine CT.out.mono ?_
          rintro e w7 ⟨xv, rfl, hset, hbes, -⟩
          have HS7 := hide hset
          have HT7 := hide (HTJ.out.besides hbes ⟨HNE.out.1.symm, by simp; exact fun e => HNE.out.2.2.1 e.symm⟩ (fun y hy => by cases hy; exact ⟨HNE.out.2.1.symm, by simp; exact fun e => HNE.out.2.2.2 e.symm⟩))
          have HB7 := hide (besides_below HB5.out hbes (by have := HBK.out; omega) (by have := HBK.out; simp; omega) (Nat.le_refl _))
          have CA1 := hide (all_any w7 b _ _ HS7.out (by have h1 := dropPts_length L ((selB L B).map Cn.pt); have h2 := HLN.out; omega))
          clear hset hbes CT HTJ HS5 HT5
          go_wp2_with fail
          refine CA1.out.mono ?_
          rintro e w10 ⟨v1, M1, rfl, hp1, hs1, hr1, hb10⟩
          have HV1 : Hid (CnsAt w10 v1 M1) := hide hr1.row
          have HP1 := hide (show M1.Perm (dropPts L ((selB L B).map Cn.pt)) ∧ SortC M1 from ⟨hp1, hs1⟩)
          have HB10 := hide (below_on HB7.out hb10)
          have CA2 := hide (all_any w10 b' _ _ (HT7.out.on hb10) (by have h1 := dropPts_length L ((selB L B).map Cn.pt); have h2 := HLN.out; omega))
          clear hp1 hs1 hr1 hb10 CA1 HS7 HT7
          go_wp2_with fail
          refine CA2.out.mono ?_
          rintro e w11 ⟨v2, M2, rfl, hp2, hs2, hr2, hb11⟩
          obtain rfl : M2 = M1 := sort_unique hs2 HP1.out.2 (hp2.trans HP1.out.1.symm)
          have HB11 := hide (below_on HB10.out hb11)
          have CS := hide (rsamecn_eq M2 v1 v2 w11 (HV1.out.on hb11) hr2.row (fun c hc => HOK.out c (List.mem_filter.1 (hp2.mem_iff.1 hc)).1))
          clear hp2 hs2 hr2 hb11 CA2
          go_wp2_with fail
          refine CS.out.mono ?_
          rintro e w12 ⟨rfl, hb12⟩
          have R := hide (below_on HB11.out hb12)
          clear hb12
          go_wp2
          go_ret
          exact ⟨rfl, R.out⟩
theorem coinParts_any {w : World} (v : Value) (L : List Cn) (hok : ∀ c ∈ L, CnOk c) (hV : CnsAt w v L) (v' : Value) (B : List Bool) (hB : BoolsAt w v' B) :
    Calls Try.prog 3 #[v, v'] w fun e w' => e = .returned (.bool true) ∧ Below w.heap.size w w' := by
  by_cases h1 : L.length ≤ 300
  · by_cases h2 : B.length ≤ 300
    · rcases nodup_or L with hN | hN
      · exact parts_main w v v' L B hV hB hok h1 h2 hN
      · exact parts_twice w v v' L B hV hB hok h1 h2 hN
    · exact parts_long2 w v v' L B hV hB h1 (by omega)
  · exact parts_long1 w v v' L hV (by omega)
set_option maxRecDepth 100000 in
theorem coinParts_lifted (os : Os) (started : os.Started) (H : Type) (enc : TypeId × Value → H) :
    ReturnsInHanded {} Try.checked os 3 .any (Rows.coinPartsSpec.pre6 enc Try.prog Try.f3 Rows.coinPartsRow.domain false) (Rows.coinPartsSpec.post enc Try.prog Try.f3 false true false false) := by
  refine returnsInHanded_of_change (C := Try.checked) own started (by kernel_rfl) Try.func3
    (ChangeSpec.witness6 (enc := enc) (C := Try.checked) false ⟨#[], #[.slice none 0 0, .slice none 0 0], []⟩ 8 (by kernel_rfl) (by kernel_rfl) (by kernel_rfl) (by kernel_rfl)) ?_
  intro W base args ds gs before hval0 hW hcnd _
  have hval : ∀ (j : Nat) t v, Try.f3.params[j]? = some t → args[j]? = some v → Value.okWide Try.prog W .any base t v := hval0
  have hW' := hW
  obtain ⟨p, q, hA0, hV, rfl, hfz, hnd⟩ := hW
  have hA : DataW.TrodAll enc Try.prog W 0 (fun _ => true) true Try.f3.params.toList args.toList ds p := hA0
  rw [Try.params3] at hA hval
  obtain ⟨v0, vs0, d0, ds0, p0, q0, hargs, rfl, rfl, h0, r0⟩ := trodAll_cons hA
  obtain ⟨v1, vs1, d1, ds1, p1, q1, rfl, rfl, rfl, h1, r1⟩ := trodAll_cons r0
  obtain ⟨rfl, rfl, rfl⟩ := trodAll_nil r1
  obtain rfl : args = #[v0, v1] := by cases args; simp_all
  obtain ⟨rfl, rfl⟩ := trodVars_none hV
  have k0 := h0
  have lt0 : ∀ x ∈ p0, x.block < W.heap.size := by obtain ⟨m, hm⟩ := k0; exact DataW.trod_lt m _ _ _ hm
  obtain ⟨l0, s0, w0⟩ := cns_arg (hval 0 22 v0 rfl rfl) h0
  have k1 := h1
  have lt1 : ∀ x ∈ p1, x.block < W.heap.size := by obtain ⟨m, hm⟩ := k1; exact DataW.trod_lt m _ _ _ hm
  obtain ⟨l1, s1⟩ := bools_arg (hval 1 23 v1 rfl rfl) h1
  clear hA0 hval0
  refine (coinParts_any (w := W) _ l0 w0 s0 _ l1 s1).mono fun e W' ⟨he, bel⟩ => ?_
  subst he
  exact ⟨_, rfl, _, _, _, [], _, [], hW', trodAll_mk1 (shut_bool Try.underlying4 _), (trodAll_cons_mk (Below.trod laidOut (by kernel_rfl) (of_decide_eq_true (by kernel_rfl)) k0 bel lt0) (trodAll_cons_mk (Below.trod laidOut (by kernel_rfl) (of_decide_eq_true (by kernel_rfl)) k1 bel lt1) trodAll_mk0)), rfl, bel.frame _, fun h => by cases h⟩

theorem coinParts_holds : Rows.CoinPartsSaid :=
  OpenClaim.holds_of_wide 3 Try.f3 rfl rfl rfl rfl rfl rfl rfl ⟨rfl, rfl, rfl, rfl, rfl⟩ rfl rfl rfl rfl rfl (by kernel_rfl) Try.func3 (by kernel_rfl)
    (of_decide_eq_true (by kernel_rfl)) (by unfold Func.isWrapper; first | (rw [if_pos (by decide +kernel)]; kernel_rfl) | (rw [if_neg (by decide +kernel)]; exact ⟨rfl, rfl⟩))
    (fun os started H enc _ => coinParts_lifted os started H enc)
#print axioms coinParts_holds

end Go.Proofs.Ytkemdfikcmgaaab
