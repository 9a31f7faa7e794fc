import Derived.Test.YtjmifgdjmaelfaaDoorRfW
/-
  What the document's Put of messages answers, kinds 1, 2, 3, 4.
-/
namespace Go.Proofs.YtjmifgdjmaelfaaDoor
open Go.RowKit

set_option maxRecDepth 100000 in
set_option maxHeartbeats 8000000 in
theorem rmput_k1 (n code : Int) (ids : List (List Int)) (tx : Tr) (d iv ov : Value) (w : World) (h : MsgAt w d iv ov (⟨1, n, code, ids, tx⟩ : Mg)) (hok : MgOk (⟨1, n, code, ids, tx⟩ : Mg)) (hil : ids.length ≤ 100) :
    Calls Tryd.prog 22 #[.agg #[.int .i64 1, .int .u64 n, .int .u32 code, d, .int .u32 tx.ver, iv, ov]] w (MputDone w (⟨1, n, code, ids, tx⟩ : Mg)) := by
  obtain ⟨-, ⟨n0, n1⟩, ⟨co0, co1⟩, hids, htx⟩ := hok
  have hids : ∀ x ∈ ids, IdOk x := hids
  have htx : TrOk tx := htx
  simp only at n0 n1 co0 co1
  have NM : Hid (∀ w, Calls Tryd.prog 48 #[.int .i64 1] w fun e w' => e = .returned (.string ⟨#[118, 101, 114, 115, 105, 111, 110]⟩) ∧ w' = w) := hide (fun w => rname_kind w 1 (by decide))
  have UN : Hid (∀ w, Calls Tryd.prog 49 #[.int .i64 1] w fun e w' => e = .returned (.bool true) ∧ w' = w) := hide (fun w => rusesN_kind w 1 (by decide))
  have UC : Hid (∀ w, Calls Tryd.prog 50 #[.int .i64 1] w fun e w' => e = .returned (.bool true) ∧ w' = w) := hide (fun w => rusesCode_kind w 1 (by decide))
  have UI : Hid (∀ w, Calls Tryd.prog 51 #[.int .i64 1] w fun e w' => e = .returned (.bool false) ∧ w' = w) := hide (fun w => rusesIds_kind w 1 (by decide))
  have CT : Hid (∀ w, Calls Tryd.prog 55 #[.int .i64 1] w fun e w' => e = .returned (.bool false) ∧ w' = w) := hide (fun w => rcounted_kind w 1 (by decide))
  have UT : Hid (∀ w, Calls Tryd.prog 52 #[.int .i64 1] w fun e w' => e = .returned (.bool false) ∧ w' = w) := hide (fun w => rusesTx_kind w 1 (by decide))
  have HEX : Hid (∀ (wr : World) (E : Int), mpE (⟨1, n, code, ids, tx⟩ : Mg) = E → E ≠ 0 → Below w.heap.size w wr → MputDone w (⟨1, n, code, ids, tx⟩ : Mg) (.returned (.tuple #[.string ⟨#[]⟩, .slice none 0 0, .int .i64 E])) wr) := hide (rmput_bad w (⟨1, n, code, ids, tx⟩ : Mg))
  have HSC : Hid ((shp 1).cmd = ⟨#[118, 101, 114, 115, 105, 111, 110]⟩) := hide rfl
  have HIDS := hide hids
  have HTX := hide htx
  obtain ⟨sa, sc, ia, ic, oa, oc, rfl, rfl, rfl⟩ := h.form
  simp only at h
  have BA := hide (fun w (h : TxAt w (.slice ia tx.ins.length ic) (.slice oa tx.outs.length oc) tx) => rbare_any tx _ _ w h)
  have hnew := below_new w (.cells #[.int .i64 1, .int .u64 n, .int .u32 code, .slice sa ids.length sc, .int .u32 tx.ver, .slice ia tx.ins.length ic, .slice oa tx.outs.length oc] 51)
  have HT := hide (h.on hnew)
  have HB := hide hnew
  have HX := hide (MBox.new w (.int .i64 1) (.int .u64 n) (.int .u32 code) (.slice sa ids.length sc) (.int .u32 tx.ver) (.slice ia tx.ins.length ic) (.slice oa tx.outs.length oc) 51)
  have HFIN : Hid (∀ (wr : World) (v : Value) (l : List Int), mpE (⟨1, n, code, ids, tx⟩ : Mg) = 0 → mpC (⟨1, n, code, ids, tx⟩ : Mg) = ⟨#[118, 101, 114, 115, 105, 111, 110]⟩ → mpB (⟨1, n, code, ids, tx⟩ : Mg) = l → Bytes wr v l → Below w.heap.size w wr → MputDone w (⟨1, n, code, ids, tx⟩ : Mg) (.returned (.tuple #[.string ⟨#[118, 101, 114, 115, 105, 111, 110]⟩, v, .int .i64 0])) wr) := hide (rmput_good w (⟨1, n, code, ids, tx⟩ : Mg) ⟨#[118, 101, 114, 115, 105, 111, 110]⟩)
  clear hnew h hids htx
  go_enter Tryd.func22, Tryd.ntmps22
  go_upto_region 1 with fail
  generalize w.alloc (.cells #[.int .i64 1, .int .u64 n, .int .u32 code, .slice sa ids.length sc, .int .u32 tx.ver, .slice ia tx.ins.length ic, .slice oa tx.outs.length oc] 51) = W at *
  obtain ⟨p0, p1, p2, p3, p4, p5, p6⟩ := HX.out
  by_cases hi : ids.length = 0
  · have HI0 := hide hi
    by_cases hbt : bareB tx = true
    · rw [hbt] at BA
      have HCV : Hid (coversB (shp 1) (⟨1, n, code, ids, tx⟩ : Mg) = true) := hide ((coversB_iff (shp 1) (⟨1, n, code, ids, tx⟩ : Mg)).2 ⟨fun _ => List.length_eq_zero_iff.1 HI0.out, fun h => absurd h (by decide), fun h => absurd h (by decide), fun _ => (bareB_iff tx).1 hbt⟩)
      go_wp2_with fail
      refine (NM.out _).mono ?_
      rintro e w1 ⟨rfl, hw1⟩
      rw [hw1]
      clear hw1
      go_wp2_with fail
      refine (UN.out _).mono ?_
      rintro e w1 ⟨rfl, hw1⟩
      rw [hw1]
      clear hw1
      go_wp2_with fail
      refine (UC.out _).mono ?_
      rintro e w1 ⟨rfl, hw1⟩
      rw [hw1]
      clear hw1
      go_wp2_with fail
      refine (UI.out _).mono ?_
      rintro e w1 ⟨rfl, hw1⟩
      rw [hw1]
      clear hw1
      go_wp2_with fail
      refine (UT.out _).mono ?_
      rintro e w1 ⟨rfl, hw1⟩
      rw [hw1]
      clear hw1
      go_wp2_with fail
      refine (BA.out _ HT.out.2).mono ?_
      rintro e wB ⟨rfl, hbw⟩
      have HBW := hide hbw
      clear hbw BA
      clear p0 p1 p2 p3 p4 p5 p6
      obtain ⟨p0, p1, p2, p3, p4, p5, p6⟩ := HX.out.on HBW.out
      have HPM := hide (mp0 (m := (⟨1, n, code, ids, tx⟩ : Mg)) (show isKind 1 = true from by decide) HCV.out (fun h => absurd h (show ¬ 0 < (shp 1).maxIds from by decide)) (by show ¬ 0 < ids.length; rw [HI0.out]; decide) (show ¬ (4294967295 : Int) < code from by omega))
      go_wp2_with fail
      refine (UI.out _).mono ?_
      rintro e w1 ⟨rfl, hw1⟩
      rw [hw1]
      clear hw1
      have HO := hide (Own.nil wB W.heap.size)
      have NU4 := hide (fun wx => rnum8_any code 4 wx (Or.inl rfl) co0 (by simpa using co1))
      have hwc : IntKind.u64.wrap code = code := by simp [IntKind.wrap, IntKind.bits, IntKind.signed]; omega
      go_wp2_with fail
      refine (NU4.out _).mono ?_
      rintro e wc1 ⟨vc1, rfl, hownn, hbn⟩
      have HO := hide (HO.out.on hbn)
      have HBY := hide hownn.bytes
      have HBW := hide (HBW.out.trans (hbn.mono HBW.out.size))
      clear hownn hbn
      clear p0 p1 p2 p3 p4 p5 p6
      obtain ⟨p0, p1, p2, p3, p4, p5, p6⟩ := HX.out.on HBW.out
      go_wp2_with (at_builtin; refine wp_append_by rfl _ _ rfl W.heap.size _ _ rfl HO.out _ (put 4 code) rfl HBY.out ?c1 ?c2 ?_)
      case c1 => simp [put_length]
      case c2 => exact HBW.out.size
      intro va1 wa1 hown hg
      have HBW := hide (HBW.out.trans (HO.out.grew hg HBW.out.size))
      have HO := hide hown
      clear hown hg HBY
      clear p0 p1 p2 p3 p4 p5 p6
      obtain ⟨p0, p1, p2, p3, p4, p5, p6⟩ := HX.out.on HBW.out
      go_wp2_with fail
      refine (UN.out _).mono ?_
      rintro e w1 ⟨rfl, hw1⟩
      rw [hw1]
      clear hw1
      have NU8 := hide (fun wx => rnum8_any n 8 wx (Or.inr rfl) n0 (by simpa using n1))
      go_wp2_with fail
      refine (NU8.out _).mono ?_
      rintro e wc2 ⟨vc2, rfl, hownn, hbn⟩
      have HO := hide (HO.out.on hbn)
      have HBY := hide hownn.bytes
      have HBW := hide (HBW.out.trans (hbn.mono HBW.out.size))
      clear hownn hbn
      clear p0 p1 p2 p3 p4 p5 p6
      obtain ⟨p0, p1, p2, p3, p4, p5, p6⟩ := HX.out.on HBW.out
      go_wp2_with (at_builtin; refine wp_append_by rfl _ _ rfl W.heap.size _ _ rfl HO.out _ (put 8 n) rfl HBY.out ?c1 ?c2 ?_)
      case c1 => simp [put_length]
      case c2 => exact HBW.out.size
      intro va2 wa2 hown hg
      have HBW := hide (HBW.out.trans (HO.out.grew hg HBW.out.size))
      have HO := hide hown
      clear hown hg HBY
      clear p0 p1 p2 p3 p4 p5 p6
      obtain ⟨p0, p1, p2, p3, p4, p5, p6⟩ := HX.out.on HBW.out
      go_wp2_with fail
      refine (CT.out _).mono ?_
      rintro e w1 ⟨rfl, hw1⟩
      rw [hw1]
      clear hw1
      obtain ⟨pre, hpre⟩ : ∃ p : List Int, p = [] ++ put 4 code ++ put 8 n := ⟨_, rfl⟩
      have HPRE := hide hpre
      have HPL : Hid (pre.length ≤ 12) := hide (by rw [hpre]; simp [put_length])
      have HS : Hid (Putting W idL pre ids va2 (.int .i64 0) wa2) := hide ⟨0, by omega, rfl, by rw [hpre]; simpa using HO.out, HBW.out⟩
      clear HO HBW hpre
      go_wp2_with fail
      clear p0 p1 p2 p3 p4 p5 p6
      go_loopw [7, 117] (fun v i wr => Putting W idL pre ids v i wr) (fun _ i _ => ids.length - (intOf i).toNat)
      case atStart => exact HS.out
      case round =>
        clear HS
        obtain ⟨k, hk, rfl, hown, hB⟩ := hrel
        have HBW := hide hB
        have HO := hide hown
        have HLEN : Hid ((pre ++ (ids.take k).flatMap idL).length ≤ 4000) := hide (by
          have h1 := flat_len (f := idL) (m := 32) (ids.take k) (fun x hx => by show x.length ≤ 32; rw [(HIDS.out x (List.mem_of_mem_take hx)).1]; exact Nat.le_refl _)
          have h2 : (ids.take k).length ≤ 100 := by simp; omega
          have h3 := HPL.out
          have h4 : ((ids.take k).flatMap idL).length ≤ (ids.take k).length * 32 := h1
          rw [List.length_append]
          omega)
        by_cases hlt : k < ids.length
        · exact absurd hlt (by have := HI0.out; omega)
        · have hk2 : (ids.length : Int) ≤ (k : Int) := by omega
          have htk : ids.take k = ids := List.take_of_length_le (by omega)
          rw [htk] at HO HLEN
          obtain ⟨p0, p1, p2, p3, p4, p5, p6⟩ := HX.out.on hB
          clear hown hB htk
          have HFL : Hid (ids.flatMap idL = ids.flatten) := hide (by show ids.flatMap (fun x => x) = ids.flatten; simp)
          go_wp2_with fail
          refine (UT.out _).mono ?_
          rintro e w1 ⟨rfl, hw1⟩
          rw [hw1]
          clear hw1
          have hml : mbL (shp 1) (⟨1, n, code, ids, tx⟩ : Mg) = pre ++ ids.flatMap idL := by show ([] : List Int) ++ (ids.flatten ++ (put 4 code ++ put 8 n)) = _; rw [HPRE.out, List.length_eq_zero_iff.1 HI0.out]; simp
          have hm0 : mbE (shp 1) (⟨1, n, code, ids, tx⟩ : Mg) = 0 := rfl
          have R := hide (HFIN.out wr u7 (pre ++ ids.flatMap idL) (HPM.out.1.trans hm0) ((HPM.out.2 hm0).1.trans HSC.out) ((HPM.out.2 hm0).2.trans hml) HO.out.bytes (HB.out.trans (HBW.out.mono HB.out.size)))
          obtain ⟨fa, fc, hvf, -, -⟩ := HO.out.bytes.form
          obtain ⟨nn, hnn⟩ : ∃ nn, nn = (pre ++ ids.flatMap idL).length := ⟨_, rfl⟩
          rw [← hnn] at hvf
          clear hnn HO
          subst hvf
          clear hml hm0 HPM HFIN HEX HFL
          go_wp2_with fail
          refine (NM.out _).mono ?_
          rintro e w7 ⟨rfl, hw7⟩
          rw [hw7]
          clear hw7
          go_wp2
          go_ret3
          exact R.out
    · have hbt : bareB tx = false := by simpa using hbt
      rw [hbt] at BA
      have PB := hide (mpA (m := (⟨1, n, code, ids, tx⟩ : Mg)) (show isKind 1 = true from by decide) (cov_t rfl hbt))
      go_wp2_with fail
      refine (NM.out _).mono ?_
      rintro e w1 ⟨rfl, hw1⟩
      rw [hw1]
      clear hw1
      go_wp2_with fail
      refine (UN.out _).mono ?_
      rintro e w1 ⟨rfl, hw1⟩
      rw [hw1]
      clear hw1
      go_wp2_with fail
      refine (UC.out _).mono ?_
      rintro e w1 ⟨rfl, hw1⟩
      rw [hw1]
      clear hw1
      go_wp2_with fail
      refine (UI.out _).mono ?_
      rintro e w1 ⟨rfl, hw1⟩
      rw [hw1]
      clear hw1
      go_wp2_with fail
      refine (UT.out _).mono ?_
      rintro e w1 ⟨rfl, hw1⟩
      rw [hw1]
      clear hw1
      go_wp2_with fail
      refine (BA.out _ HT.out.2).mono ?_
      rintro e wB ⟨rfl, hbw⟩
      have R := hide (HEX.out wB 2 PB.out (by decide) (HB.out.trans (hbw.mono HB.out.size)))
      clear hbw HFIN BA
      go_wp2
      go_ret3
      exact R.out
  · have hne : ¬ ids = [] := fun e => hi (by rw [e]; rfl)
    have hpos : 0 < ids.length := by omega
    have PB := hide (mpA (m := (⟨1, n, code, ids, tx⟩ : Mg)) (show isKind 1 = true from by decide) (cov_i rfl (by show 0 < ids.length; omega)))
    have R := hide (HEX.out W 2 (PB.out) (by decide) HB.out)
    clear HFIN
    go_wp2_with fail
    refine (NM.out _).mono ?_
    rintro e w1 ⟨rfl, hw1⟩
    rw [hw1]
    clear hw1
    go_wp2_with fail
    refine (UN.out _).mono ?_
    rintro e w1 ⟨rfl, hw1⟩
    rw [hw1]
    clear hw1
    go_wp2_with fail
    refine (UC.out _).mono ?_
    rintro e w1 ⟨rfl, hw1⟩
    rw [hw1]
    clear hw1
    go_wp2_with fail
    refine (UI.out _).mono ?_
    rintro e w1 ⟨rfl, hw1⟩
    rw [hw1]
    clear hw1
    go_wp2
    go_ret3
    exact R.out
set_option maxRecDepth 100000 in
set_option maxHeartbeats 8000000 in
theorem rmput_k2 (n code : Int) (ids : List (List Int)) (tx : Tr) (d iv ov : Value) (w : World) (h : MsgAt w d iv ov (⟨2, n, code, ids, tx⟩ : Mg)) (hok : MgOk (⟨2, n, code, ids, tx⟩ : Mg)) (hil : ids.length ≤ 100) :
    Calls Tryd.prog 22 #[.agg #[.int .i64 2, .int .u64 n, .int .u32 code, d, .int .u32 tx.ver, iv, ov]] w (MputDone w (⟨2, n, code, ids, tx⟩ : Mg)) := by
  obtain ⟨-, ⟨n0, n1⟩, ⟨co0, co1⟩, hids, htx⟩ := hok
  have hids : ∀ x ∈ ids, IdOk x := hids
  have htx : TrOk tx := htx
  simp only at n0 n1 co0 co1
  have NM : Hid (∀ w, Calls Tryd.prog 48 #[.int .i64 2] w fun e w' => e = .returned (.string ⟨#[118, 101, 114, 97, 99, 107]⟩) ∧ w' = w) := hide (fun w => rname_kind w 2 (by decide))
  have UN : Hid (∀ w, Calls Tryd.prog 49 #[.int .i64 2] w fun e w' => e = .returned (.bool false) ∧ w' = w) := hide (fun w => rusesN_kind w 2 (by decide))
  have UC : Hid (∀ w, Calls Tryd.prog 50 #[.int .i64 2] w fun e w' => e = .returned (.bool false) ∧ w' = w) := hide (fun w => rusesCode_kind w 2 (by decide))
  have UI : Hid (∀ w, Calls Tryd.prog 51 #[.int .i64 2] w fun e w' => e = .returned (.bool false) ∧ w' = w) := hide (fun w => rusesIds_kind w 2 (by decide))
  have CT : Hid (∀ w, Calls Tryd.prog 55 #[.int .i64 2] w fun e w' => e = .returned (.bool false) ∧ w' = w) := hide (fun w => rcounted_kind w 2 (by decide))
  have UT : Hid (∀ w, Calls Tryd.prog 52 #[.int .i64 2] w fun e w' => e = .returned (.bool false) ∧ w' = w) := hide (fun w => rusesTx_kind w 2 (by decide))
  have HEX : Hid (∀ (wr : World) (E : Int), mpE (⟨2, n, code, ids, tx⟩ : Mg) = E → E ≠ 0 → Below w.heap.size w wr → MputDone w (⟨2, n, code, ids, tx⟩ : Mg) (.returned (.tuple #[.string ⟨#[]⟩, .slice none 0 0, .int .i64 E])) wr) := hide (rmput_bad w (⟨2, n, code, ids, tx⟩ : Mg))
  have HSC : Hid ((shp 2).cmd = ⟨#[118, 101, 114, 97, 99, 107]⟩) := hide rfl
  have HIDS := hide hids
  have HTX := hide htx
  obtain ⟨sa, sc, ia, ic, oa, oc, rfl, rfl, rfl⟩ := h.form
  simp only at h
  have BA := hide (fun w (h : TxAt w (.slice ia tx.ins.length ic) (.slice oa tx.outs.length oc) tx) => rbare_any tx _ _ w h)
  have hnew := below_new w (.cells #[.int .i64 2, .int .u64 n, .int .u32 code, .slice sa ids.length sc, .int .u32 tx.ver, .slice ia tx.ins.length ic, .slice oa tx.outs.length oc] 51)
  have HT := hide (h.on hnew)
  have HB := hide hnew
  have HX := hide (MBox.new w (.int .i64 2) (.int .u64 n) (.int .u32 code) (.slice sa ids.length sc) (.int .u32 tx.ver) (.slice ia tx.ins.length ic) (.slice oa tx.outs.length oc) 51)
  have HFIN : Hid (∀ (wr : World) (v : Value) (l : List Int), mpE (⟨2, n, code, ids, tx⟩ : Mg) = 0 → mpC (⟨2, n, code, ids, tx⟩ : Mg) = ⟨#[118, 101, 114, 97, 99, 107]⟩ → mpB (⟨2, n, code, ids, tx⟩ : Mg) = l → Bytes wr v l → Below w.heap.size w wr → MputDone w (⟨2, n, code, ids, tx⟩ : Mg) (.returned (.tuple #[.string ⟨#[118, 101, 114, 97, 99, 107]⟩, v, .int .i64 0])) wr) := hide (rmput_good w (⟨2, n, code, ids, tx⟩ : Mg) ⟨#[118, 101, 114, 97, 99, 107]⟩)
  clear hnew h hids htx
  go_enter Tryd.func22, Tryd.ntmps22
  go_upto_region 1 with fail
  generalize w.alloc (.cells #[.int .i64 2, .int .u64 n, .int .u32 code, .slice sa ids.length sc, .int .u32 tx.ver, .slice ia tx.ins.length ic, .slice oa tx.outs.length oc] 51) = W at *
  obtain ⟨p0, p1, p2, p3, p4, p5, p6⟩ := HX.out
  by_cases hn : n = 0
  · subst hn
    by_cases hc : code = 0
    · subst hc
      by_cases hi : ids.length = 0
      · have HI0 := hide hi
        by_cases hbt : bareB tx = true
        · rw [hbt] at BA
          have HCV : Hid (coversB (shp 2) (⟨2, 0, 0, ids, tx⟩ : Mg) = true) := hide ((coversB_iff (shp 2) (⟨2, 0, 0, ids, tx⟩ : Mg)).2 ⟨fun _ => List.length_eq_zero_iff.1 HI0.out, fun _ => rfl, fun _ => rfl, fun _ => (bareB_iff tx).1 hbt⟩)
          go_wp2_with fail
          refine (NM.out _).mono ?_
          rintro e w1 ⟨rfl, hw1⟩
          rw [hw1]
          clear hw1
          go_wp2_with fail
          refine (UN.out _).mono ?_
          rintro e w1 ⟨rfl, hw1⟩
          rw [hw1]
          clear hw1
          go_wp2_with fail
          refine (UC.out _).mono ?_
          rintro e w1 ⟨rfl, hw1⟩
          rw [hw1]
          clear hw1
          go_wp2_with fail
          refine (UI.out _).mono ?_
          rintro e w1 ⟨rfl, hw1⟩
          rw [hw1]
          clear hw1
          go_wp2_with fail
          refine (UT.out _).mono ?_
          rintro e w1 ⟨rfl, hw1⟩
          rw [hw1]
          clear hw1
          go_wp2_with fail
          refine (BA.out _ HT.out.2).mono ?_
          rintro e wB ⟨rfl, hbw⟩
          have HBW := hide hbw
          clear hbw BA
          clear p0 p1 p2 p3 p4 p5 p6
          obtain ⟨p0, p1, p2, p3, p4, p5, p6⟩ := HX.out.on HBW.out
          have HPM := hide (mp0 (m := (⟨2, 0, 0, ids, tx⟩ : Mg)) (show isKind 2 = true from by decide) HCV.out (fun h => absurd h (show ¬ 0 < (shp 2).maxIds from by decide)) (by show ¬ 0 < ids.length; rw [HI0.out]; decide) (show ¬ (0 : Int) < 0 from by decide))
          go_wp2_with fail
          refine (UI.out _).mono ?_
          rintro e w1 ⟨rfl, hw1⟩
          rw [hw1]
          clear hw1
          have HO := hide (Own.nil wB W.heap.size)
          go_wp2_with fail
          refine (UN.out _).mono ?_
          rintro e w1 ⟨rfl, hw1⟩
          rw [hw1]
          clear hw1
          go_wp2_with fail
          refine (CT.out _).mono ?_
          rintro e w1 ⟨rfl, hw1⟩
          rw [hw1]
          clear hw1
          obtain ⟨pre, hpre⟩ : ∃ p : List Int, p = [] := ⟨_, rfl⟩
          have HPRE := hide hpre
          have HPL : Hid (pre.length ≤ 12) := hide (by rw [hpre]; simp)
          have HS : Hid (Putting W idL pre ids (.slice none 0 0) (.int .i64 0) wB) := hide ⟨0, by omega, rfl, by rw [hpre]; simpa using HO.out, HBW.out⟩
          clear HO HBW hpre
          go_wp2_with fail
          clear p0 p1 p2 p3 p4 p5 p6
          go_loopw [7, 117] (fun v i wr => Putting W idL pre ids v i wr) (fun _ i _ => ids.length - (intOf i).toNat)
          case atStart => exact HS.out
          case round =>
            clear HS
            obtain ⟨k, hk, rfl, hown, hB⟩ := hrel
            have HBW := hide hB
            have HO := hide hown
            have HLEN : Hid ((pre ++ (ids.take k).flatMap idL).length ≤ 4000) := hide (by
              have h1 := flat_len (f := idL) (m := 32) (ids.take k) (fun x hx => by show x.length ≤ 32; rw [(HIDS.out x (List.mem_of_mem_take hx)).1]; exact Nat.le_refl _)
              have h2 : (ids.take k).length ≤ 100 := by simp; omega
              have h3 := HPL.out
              have h4 : ((ids.take k).flatMap idL).length ≤ (ids.take k).length * 32 := h1
              rw [List.length_append]
              omega)
            by_cases hlt : k < ids.length
            · exact absurd hlt (by have := HI0.out; omega)
            · have hk2 : (ids.length : Int) ≤ (k : Int) := by omega
              have htk : ids.take k = ids := List.take_of_length_le (by omega)
              rw [htk] at HO HLEN
              obtain ⟨p0, p1, p2, p3, p4, p5, p6⟩ := HX.out.on hB
              clear hown hB htk
              have HFL : Hid (ids.flatMap idL = ids.flatten) := hide (by show ids.flatMap (fun x => x) = ids.flatten; simp)
              go_wp2_with fail
              refine (UT.out _).mono ?_
              rintro e w1 ⟨rfl, hw1⟩
              rw [hw1]
              clear hw1
              have hml : mbL (shp 2) (⟨2, 0, 0, ids, tx⟩ : Mg) = pre ++ ids.flatMap idL := by show ([] : List Int) ++ (ids.flatten ++ (put 0 0 ++ put 0 0)) = _; rw [HPRE.out, List.length_eq_zero_iff.1 HI0.out]; rfl
              have hm0 : mbE (shp 2) (⟨2, 0, 0, ids, tx⟩ : Mg) = 0 := rfl
              have R := hide (HFIN.out wr u7 (pre ++ ids.flatMap idL) (HPM.out.1.trans hm0) ((HPM.out.2 hm0).1.trans HSC.out) ((HPM.out.2 hm0).2.trans hml) HO.out.bytes (HB.out.trans (HBW.out.mono HB.out.size)))
              obtain ⟨fa, fc, hvf, -, -⟩ := HO.out.bytes.form
              obtain ⟨nn, hnn⟩ : ∃ nn, nn = (pre ++ ids.flatMap idL).length := ⟨_, rfl⟩
              rw [← hnn] at hvf
              clear hnn HO
              subst hvf
              clear hml hm0 HPM HFIN HEX HFL
              go_wp2_with fail
              refine (NM.out _).mono ?_
              rintro e w7 ⟨rfl, hw7⟩
              rw [hw7]
              clear hw7
              go_wp2
              go_ret3
              exact R.out
        · have hbt : bareB tx = false := by simpa using hbt
          rw [hbt] at BA
          have PB := hide (mpA (m := (⟨2, 0, 0, ids, tx⟩ : Mg)) (show isKind 2 = true from by decide) (cov_t rfl hbt))
          go_wp2_with fail
          refine (NM.out _).mono ?_
          rintro e w1 ⟨rfl, hw1⟩
          rw [hw1]
          clear hw1
          go_wp2_with fail
          refine (UN.out _).mono ?_
          rintro e w1 ⟨rfl, hw1⟩
          rw [hw1]
          clear hw1
          go_wp2_with fail
          refine (UC.out _).mono ?_
          rintro e w1 ⟨rfl, hw1⟩
          rw [hw1]
          clear hw1
          go_wp2_with fail
          refine (UI.out _).mono ?_
          rintro e w1 ⟨rfl, hw1⟩
          rw [hw1]
          clear hw1
          go_wp2_with fail
          refine (UT.out _).mono ?_
          rintro e w1 ⟨rfl, hw1⟩
          rw [hw1]
          clear hw1
          go_wp2_with fail
          refine (BA.out _ HT.out.2).mono ?_
          rintro e wB ⟨rfl, hbw⟩
          have R := hide (HEX.out wB 2 PB.out (by decide) (HB.out.trans (hbw.mono HB.out.size)))
          clear hbw HFIN BA
          go_wp2
          go_ret3
          exact R.out
      · have hne : ¬ ids = [] := fun e => hi (by rw [e]; rfl)
        have hpos : 0 < ids.length := by omega
        have PB := hide (mpA (m := (⟨2, 0, 0, ids, tx⟩ : Mg)) (show isKind 2 = true from by decide) (cov_i rfl (by show 0 < ids.length; omega)))
        have R := hide (HEX.out W 2 (PB.out) (by decide) HB.out)
        clear HFIN
        go_wp2_with fail
        refine (NM.out _).mono ?_
        rintro e w1 ⟨rfl, hw1⟩
        rw [hw1]
        clear hw1
        go_wp2_with fail
        refine (UN.out _).mono ?_
        rintro e w1 ⟨rfl, hw1⟩
        rw [hw1]
        clear hw1
        go_wp2_with fail
        refine (UC.out _).mono ?_
        rintro e w1 ⟨rfl, hw1⟩
        rw [hw1]
        clear hw1
        go_wp2_with fail
        refine (UI.out _).mono ?_
        rintro e w1 ⟨rfl, hw1⟩
        rw [hw1]
        clear hw1
        go_wp2
        go_ret3
        exact R.out
    · have hc' : (code == 0) = false := beq_eq_false_iff_ne.2 hc
      have PB := hide (mpA (m := (⟨2, 0, code, ids, tx⟩ : Mg)) (show isKind 2 = true from by decide) (cov_c rfl hc))
      have R := hide (HEX.out W 2 (PB.out) (by decide) HB.out)
      clear HFIN
      go_wp2_with fail
      refine (NM.out _).mono ?_
      rintro e w1 ⟨rfl, hw1⟩
      rw [hw1]
      clear hw1
      go_wp2_with fail
      refine (UN.out _).mono ?_
      rintro e w1 ⟨rfl, hw1⟩
      rw [hw1]
      clear hw1
      go_wp2_with fail
      refine (UC.out _).mono ?_
      rintro e w1 ⟨rfl, hw1⟩
      rw [hw1]
      clear hw1
      go_wp2
      go_ret3
      exact R.out
  · have hn' : (n == 0) = false := beq_eq_false_iff_ne.2 hn
    have PB := hide (mpA (m := (⟨2, n, code, ids, tx⟩ : Mg)) (show isKind 2 = true from by decide) (cov_n rfl hn))
    have R := hide (HEX.out W 2 (PB.out) (by decide) HB.out)
    clear HFIN
    go_wp2_with fail
    refine (NM.out _).mono ?_
    rintro e w1 ⟨rfl, hw1⟩
    rw [hw1]
    clear hw1
    go_wp2_with fail
    refine (UN.out _).mono ?_
    rintro e w1 ⟨rfl, hw1⟩
    rw [hw1]
    clear hw1
    go_wp2
    go_ret3
    exact R.out
set_option maxRecDepth 100000 in
set_option maxHeartbeats 8000000 in
theorem rmput_k3 (n code : Int) (ids : List (List Int)) (tx : Tr) (d iv ov : Value) (w : World) (h : MsgAt w d iv ov (⟨3, n, code, ids, tx⟩ : Mg)) (hok : MgOk (⟨3, n, code, ids, tx⟩ : Mg)) (hil : ids.length ≤ 100) :
    Calls Tryd.prog 22 #[.agg #[.int .i64 3, .int .u64 n, .int .u32 code, d, .int .u32 tx.ver, iv, ov]] w (MputDone w (⟨3, n, code, ids, tx⟩ : Mg)) := by
  obtain ⟨-, ⟨n0, n1⟩, ⟨co0, co1⟩, hids, htx⟩ := hok
  have hids : ∀ x ∈ ids, IdOk x := hids
  have htx : TrOk tx := htx
  simp only at n0 n1 co0 co1
  have NM : Hid (∀ w, Calls Tryd.prog 48 #[.int .i64 3] w fun e w' => e = .returned (.string ⟨#[112, 105, 110, 103]⟩) ∧ w' = w) := hide (fun w => rname_kind w 3 (by decide))
  have UN : Hid (∀ w, Calls Tryd.prog 49 #[.int .i64 3] w fun e w' => e = .returned (.bool true) ∧ w' = w) := hide (fun w => rusesN_kind w 3 (by decide))
  have UC : Hid (∀ w, Calls Tryd.prog 50 #[.int .i64 3] w fun e w' => e = .returned (.bool false) ∧ w' = w) := hide (fun w => rusesCode_kind w 3 (by decide))
  have UI : Hid (∀ w, Calls Tryd.prog 51 #[.int .i64 3] w fun e w' => e = .returned (.bool false) ∧ w' = w) := hide (fun w => rusesIds_kind w 3 (by decide))
  have CT : Hid (∀ w, Calls Tryd.prog 55 #[.int .i64 3] w fun e w' => e = .returned (.bool false) ∧ w' = w) := hide (fun w => rcounted_kind w 3 (by decide))
  have UT : Hid (∀ w, Calls Tryd.prog 52 #[.int .i64 3] w fun e w' => e = .returned (.bool false) ∧ w' = w) := hide (fun w => rusesTx_kind w 3 (by decide))
  have HEX : Hid (∀ (wr : World) (E : Int), mpE (⟨3, n, code, ids, tx⟩ : Mg) = E → E ≠ 0 → Below w.heap.size w wr → MputDone w (⟨3, n, code, ids, tx⟩ : Mg) (.returned (.tuple #[.string ⟨#[]⟩, .slice none 0 0, .int .i64 E])) wr) := hide (rmput_bad w (⟨3, n, code, ids, tx⟩ : Mg))
  have HSC : Hid ((shp 3).cmd = ⟨#[112, 105, 110, 103]⟩) := hide rfl
  have HIDS := hide hids
  have HTX := hide htx
  obtain ⟨sa, sc, ia, ic, oa, oc, rfl, rfl, rfl⟩ := h.form
  simp only at h
  have BA := hide (fun w (h : TxAt w (.slice ia tx.ins.length ic) (.slice oa tx.outs.length oc) tx) => rbare_any tx _ _ w h)
  have hnew := below_new w (.cells #[.int .i64 3, .int .u64 n, .int .u32 code, .slice sa ids.length sc, .int .u32 tx.ver, .slice ia tx.ins.length ic, .slice oa tx.outs.length oc] 51)
  have HT := hide (h.on hnew)
  have HB := hide hnew
  have HX := hide (MBox.new w (.int .i64 3) (.int .u64 n) (.int .u32 code) (.slice sa ids.length sc) (.int .u32 tx.ver) (.slice ia tx.ins.length ic) (.slice oa tx.outs.length oc) 51)
  have HFIN : Hid (∀ (wr : World) (v : Value) (l : List Int), mpE (⟨3, n, code, ids, tx⟩ : Mg) = 0 → mpC (⟨3, n, code, ids, tx⟩ : Mg) = ⟨#[112, 105, 110, 103]⟩ → mpB (⟨3, n, code, ids, tx⟩ : Mg) = l → Bytes wr v l → Below w.heap.size w wr → MputDone w (⟨3, n, code, ids, tx⟩ : Mg) (.returned (.tuple #[.string ⟨#[112, 105, 110, 103]⟩, v, .int .i64 0])) wr) := hide (rmput_good w (⟨3, n, code, ids, tx⟩ : Mg) ⟨#[112, 105, 110, 103]⟩)
  clear hnew h hids htx
  go_enter Tryd.func22, Tryd.ntmps22
  go_upto_region 1 with fail
  generalize w.alloc (.cells #[.int .i64 3, .int .u64 n, .int .u32 code, .slice sa ids.length sc, .int .u32 tx.ver, .slice ia tx.ins.length ic, .slice oa tx.outs.length oc] 51) = W at *
  obtain ⟨p0, p1, p2, p3, p4, p5, p6⟩ := HX.out
  by_cases hc : code = 0
  · subst hc
    by_cases hi : ids.length = 0
    · have HI0 := hide hi
      by_cases hbt : bareB tx = true
      · rw [hbt] at BA
        have HCV : Hid (coversB (shp 3) (⟨3, n, 0, ids, tx⟩ : Mg) = true) := hide ((coversB_iff (shp 3) (⟨3, n, 0, ids, tx⟩ : Mg)).2 ⟨fun _ => List.length_eq_zero_iff.1 HI0.out, fun _ => rfl, fun h => absurd h (by decide), fun _ => (bareB_iff tx).1 hbt⟩)
        go_wp2_with fail
        refine (NM.out _).mono ?_
        rintro e w1 ⟨rfl, hw1⟩
        rw [hw1]
        clear hw1
        go_wp2_with fail
        refine (UN.out _).mono ?_
        rintro e w1 ⟨rfl, hw1⟩
        rw [hw1]
        clear hw1
        go_wp2_with fail
        refine (UC.out _).mono ?_
        rintro e w1 ⟨rfl, hw1⟩
        rw [hw1]
        clear hw1
        go_wp2_with fail
        refine (UI.out _).mono ?_
        rintro e w1 ⟨rfl, hw1⟩
        rw [hw1]
        clear hw1
        go_wp2_with fail
        refine (UT.out _).mono ?_
        rintro e w1 ⟨rfl, hw1⟩
        rw [hw1]
        clear hw1
        go_wp2_with fail
        refine (BA.out _ HT.out.2).mono ?_
        rintro e wB ⟨rfl, hbw⟩
        have HBW := hide hbw
        clear hbw BA
        clear p0 p1 p2 p3 p4 p5 p6
        obtain ⟨p0, p1, p2, p3, p4, p5, p6⟩ := HX.out.on HBW.out
        have HPM := hide (mp0 (m := (⟨3, n, 0, ids, tx⟩ : Mg)) (show isKind 3 = true from by decide) HCV.out (fun h => absurd h (show ¬ 0 < (shp 3).maxIds from by decide)) (by show ¬ 0 < ids.length; rw [HI0.out]; decide) (show ¬ (0 : Int) < 0 from by decide))
        go_wp2_with fail
        refine (UI.out _).mono ?_
        rintro e w1 ⟨rfl, hw1⟩
        rw [hw1]
        clear hw1
        have HO := hide (Own.nil wB W.heap.size)
        go_wp2_with fail
        refine (UN.out _).mono ?_
        rintro e w1 ⟨rfl, hw1⟩
        rw [hw1]
        clear hw1
        have NU8 := hide (fun wx => rnum8_any n 8 wx (Or.inr rfl) n0 (by simpa using n1))
        go_wp2_with fail
        refine (NU8.out _).mono ?_
        rintro e wc1 ⟨vc1, rfl, hownn, hbn⟩
        have HO := hide (HO.out.on hbn)
        have HBY := hide hownn.bytes
        have HBW := hide (HBW.out.trans (hbn.mono HBW.out.size))
        clear hownn hbn
        clear p0 p1 p2 p3 p4 p5 p6
        obtain ⟨p0, p1, p2, p3, p4, p5, p6⟩ := HX.out.on HBW.out
        go_wp2_with (at_builtin; refine wp_append_by rfl _ _ rfl W.heap.size _ _ rfl HO.out _ (put 8 n) rfl HBY.out ?c1 ?c2 ?_)
        case c1 => simp [put_length]
        case c2 => exact HBW.out.size
        intro va1 wa1 hown hg
        have HBW := hide (HBW.out.trans (HO.out.grew hg HBW.out.size))
        have HO := hide hown
        clear hown hg HBY
        clear p0 p1 p2 p3 p4 p5 p6
        obtain ⟨p0, p1, p2, p3, p4, p5, p6⟩ := HX.out.on HBW.out
        go_wp2_with fail
        refine (CT.out _).mono ?_
        rintro e w1 ⟨rfl, hw1⟩
        rw [hw1]
        clear hw1
        obtain ⟨pre, hpre⟩ : ∃ p : List Int, p = [] ++ put 8 n := ⟨_, rfl⟩
        have HPRE := hide hpre
        have HPL : Hid (pre.length ≤ 12) := hide (by rw [hpre]; simp [put_length])
        have HS : Hid (Putting W idL pre ids va1 (.int .i64 0) wa1) := hide ⟨0, by omega, rfl, by rw [hpre]; simpa using HO.out, HBW.out⟩
        clear HO HBW hpre
        go_wp2_with fail
        clear p0 p1 p2 p3 p4 p5 p6
        go_loopw [7, 117] (fun v i wr => Putting W idL pre ids v i wr) (fun _ i _ => ids.length - (intOf i).toNat)
        case atStart => exact HS.out
        case round =>
          clear HS
          obtain ⟨k, hk, rfl, hown, hB⟩ := hrel
          have HBW := hide hB
          have HO := hide hown
          have HLEN : Hid ((pre ++ (ids.take k).flatMap idL).length ≤ 4000) := hide (by
            have h1 := flat_len (f := idL) (m := 32) (ids.take k) (fun x hx => by show x.length ≤ 32; rw [(HIDS.out x (List.mem_of_mem_take hx)).1]; exact Nat.le_refl _)
            have h2 : (ids.take k).length ≤ 100 := by simp; omega
            have h3 := HPL.out
            have h4 : ((ids.take k).flatMap idL).length ≤ (ids.take k).length * 32 := h1
            rw [List.length_append]
            omega)
          by_cases hlt : k < ids.length
          · exact absurd hlt (by have := HI0.out; omega)
          · have hk2 : (ids.length : Int) ≤ (k : Int) := by omega
            have htk : ids.take k = ids := List.take_of_length_le (by omega)
            rw [htk] at HO HLEN
            obtain ⟨p0, p1, p2, p3, p4, p5, p6⟩ := HX.out.on hB
            clear hown hB htk
            have HFL : Hid (ids.flatMap idL = ids.flatten) := hide (by show ids.flatMap (fun x => x) = ids.flatten; simp)
            go_wp2_with fail
            refine (UT.out _).mono ?_
            rintro e w1 ⟨rfl, hw1⟩
            rw [hw1]
            clear hw1
            have hml : mbL (shp 3) (⟨3, n, 0, ids, tx⟩ : Mg) = pre ++ ids.flatMap idL := by show ([] : List Int) ++ (ids.flatten ++ (put 0 0 ++ put 8 n)) = _; rw [HPRE.out, List.length_eq_zero_iff.1 HI0.out]; simp [put]
            have hm0 : mbE (shp 3) (⟨3, n, 0, ids, tx⟩ : Mg) = 0 := rfl
            have R := hide (HFIN.out wr u7 (pre ++ ids.flatMap idL) (HPM.out.1.trans hm0) ((HPM.out.2 hm0).1.trans HSC.out) ((HPM.out.2 hm0).2.trans hml) HO.out.bytes (HB.out.trans (HBW.out.mono HB.out.size)))
            obtain ⟨fa, fc, hvf, -, -⟩ := HO.out.bytes.form
            obtain ⟨nn, hnn⟩ : ∃ nn, nn = (pre ++ ids.flatMap idL).length := ⟨_, rfl⟩
            rw [← hnn] at hvf
            clear hnn HO
            subst hvf
            clear hml hm0 HPM HFIN HEX HFL
            go_wp2_with fail
            refine (NM.out _).mono ?_
            rintro e w7 ⟨rfl, hw7⟩
            rw [hw7]
            clear hw7
            go_wp2
            go_ret3
            exact R.out
      · have hbt : bareB tx = false := by simpa using hbt
        rw [hbt] at BA
        have PB := hide (mpA (m := (⟨3, n, 0, ids, tx⟩ : Mg)) (show isKind 3 = true from by decide) (cov_t rfl hbt))
        go_wp2_with fail
        refine (NM.out _).mono ?_
        rintro e w1 ⟨rfl, hw1⟩
        rw [hw1]
        clear hw1
        go_wp2_with fail
        refine (UN.out _).mono ?_
        rintro e w1 ⟨rfl, hw1⟩
        rw [hw1]
        clear hw1
        go_wp2_with fail
        refine (UC.out _).mono ?_
        rintro e w1 ⟨rfl, hw1⟩
        rw [hw1]
        clear hw1
        go_wp2_with fail
        refine (UI.out _).mono ?_
        rintro e w1 ⟨rfl, hw1⟩
        rw [hw1]
        clear hw1
        go_wp2_with fail
        refine (UT.out _).mono ?_
        rintro e w1 ⟨rfl, hw1⟩
        rw [hw1]
        clear hw1
        go_wp2_with fail
        refine (BA.out _ HT.out.2).mono ?_
        rintro e wB ⟨rfl, hbw⟩
        have R := hide (HEX.out wB 2 PB.out (by decide) (HB.out.trans (hbw.mono HB.out.size)))
        clear hbw HFIN BA
        go_wp2
        go_ret3
        exact R.out
    · have hne : ¬ ids = [] := fun e => hi (by rw [e]; rfl)
      have hpos : 0 < ids.length := by omega
      have PB := hide (mpA (m := (⟨3, n, 0, ids, tx⟩ : Mg)) (show isKind 3 = true from by decide) (cov_i rfl (by show 0 < ids.length; omega)))
      have R := hide (HEX.out W 2 (PB.out) (by decide) HB.out)
      clear HFIN
      go_wp2_with fail
      refine (NM.out _).mono ?_
      rintro e w1 ⟨rfl, hw1⟩
      rw [hw1]
      clear hw1
      go_wp2_with fail
      refine (UN.out _).mono ?_
      rintro e w1 ⟨rfl, hw1⟩
      rw [hw1]
      clear hw1
      go_wp2_with fail
      refine (UC.out _).mono ?_
      rintro e w1 ⟨rfl, hw1⟩
      rw [hw1]
      clear hw1
      go_wp2_with fail
      refine (UI.out _).mono ?_
      rintro e w1 ⟨rfl, hw1⟩
      rw [hw1]
      clear hw1
      go_wp2
      go_ret3
      exact R.out
  · have hc' : (code == 0) = false := beq_eq_false_iff_ne.2 hc
    have PB := hide (mpA (m := (⟨3, n, code, ids, tx⟩ : Mg)) (show isKind 3 = true from by decide) (cov_c rfl hc))
    have R := hide (HEX.out W 2 (PB.out) (by decide) HB.out)
    clear HFIN
    go_wp2_with fail
    refine (NM.out _).mono ?_
    rintro e w1 ⟨rfl, hw1⟩
    rw [hw1]
    clear hw1
    go_wp2_with fail
    refine (UN.out _).mono ?_
    rintro e w1 ⟨rfl, hw1⟩
    rw [hw1]
    clear hw1
    go_wp2_with fail
    refine (UC.out _).mono ?_
    rintro e w1 ⟨rfl, hw1⟩
    rw [hw1]
    clear hw1
    go_wp2
    go_ret3
    exact R.out
set_option maxRecDepth 100000 in
set_option maxHeartbeats 8000000 in
theorem rmput_k4 (n code : Int) (ids : List (List Int)) (tx : Tr) (d iv ov : Value) (w : World) (h : MsgAt w d iv ov (⟨4, n, code, ids, tx⟩ : Mg)) (hok : MgOk (⟨4, n, code, ids, tx⟩ : Mg)) (hil : ids.length ≤ 100) :
    Calls Tryd.prog 22 #[.agg #[.int .i64 4, .int .u64 n, .int .u32 code, d, .int .u32 tx.ver, iv, ov]] w (MputDone w (⟨4, n, code, ids, tx⟩ : Mg)) := by
  obtain ⟨-, ⟨n0, n1⟩, ⟨co0, co1⟩, hids, htx⟩ := hok
  have hids : ∀ x ∈ ids, IdOk x := hids
  have htx : TrOk tx := htx
  simp only at n0 n1 co0 co1
  have NM : Hid (∀ w, Calls Tryd.prog 48 #[.int .i64 4] w fun e w' => e = .returned (.string ⟨#[112, 111, 110, 103]⟩) ∧ w' = w) := hide (fun w => rname_kind w 4 (by decide))
  have UN : Hid (∀ w, Calls Tryd.prog 49 #[.int .i64 4] w fun e w' => e = .returned (.bool true) ∧ w' = w) := hide (fun w => rusesN_kind w 4 (by decide))
  have UC : Hid (∀ w, Calls Tryd.prog 50 #[.int .i64 4] w fun e w' => e = .returned (.bool false) ∧ w' = w) := hide (fun w => rusesCode_kind w 4 (by decide))
  have UI : Hid (∀ w, Calls Tryd.prog 51 #[.int .i64 4] w fun e w' => e = .returned (.bool false) ∧ w' = w) := hide (fun w => rusesIds_kind w 4 (by decide))
  have CT : Hid (∀ w, Calls Tryd.prog 55 #[.int .i64 4] w fun e w' => e = .returned (.bool false) ∧ w' = w) := hide (fun w => rcounted_kind w 4 (by decide))
  have UT : Hid (∀ w, Calls Tryd.prog 52 #[.int .i64 4] w fun e w' => e = .returned (.bool false) ∧ w' = w) := hide (fun w => rusesTx_kind w 4 (by decide))
  have HEX : Hid (∀ (wr : World) (E : Int), mpE (⟨4, n, code, ids, tx⟩ : Mg) = E → E ≠ 0 → Below w.heap.size w wr → MputDone w (⟨4, n, code, ids, tx⟩ : Mg) (.returned (.tuple #[.string ⟨#[]⟩, .slice none 0 0, .int .i64 E])) wr) := hide (rmput_bad w (⟨4, n, code, ids, tx⟩ : Mg))
  have HSC : Hid ((shp 4).cmd = ⟨#[112, 111, 110, 103]⟩) := hide rfl
  have HIDS := hide hids
  have HTX := hide htx
  obtain ⟨sa, sc, ia, ic, oa, oc, rfl, rfl, rfl⟩ := h.form
  simp only at h
  have BA := hide (fun w (h : TxAt w (.slice ia tx.ins.length ic) (.slice oa tx.outs.length oc) tx) => rbare_any tx _ _ w h)
  have hnew := below_new w (.cells #[.int .i64 4, .int .u64 n, .int .u32 code, .slice sa ids.length sc, .int .u32 tx.ver, .slice ia tx.ins.length ic, .slice oa tx.outs.length oc] 51)
  have HT := hide (h.on hnew)
  have HB := hide hnew
  have HX := hide (MBox.new w (.int .i64 4) (.int .u64 n) (.int .u32 code) (.slice sa ids.length sc) (.int .u32 tx.ver) (.slice ia tx.ins.length ic) (.slice oa tx.outs.length oc) 51)
  have HFIN : Hid (∀ (wr : World) (v : Value) (l : List Int), mpE (⟨4, n, code, ids, tx⟩ : Mg) = 0 → mpC (⟨4, n, code, ids, tx⟩ : Mg) = ⟨#[112, 111, 110, 103]⟩ → mpB (⟨4, n, code, ids, tx⟩ : Mg) = l → Bytes wr v l → Below w.heap.size w wr → MputDone w (⟨4, n, code, ids, tx⟩ : Mg) (.returned (.tuple #[.string ⟨#[112, 111, 110, 103]⟩, v, .int .i64 0])) wr) := hide (rmput_good w (⟨4, n, code, ids, tx⟩ : Mg) ⟨#[112, 111, 110, 103]⟩)
  clear hnew h hids htx
  go_enter Tryd.func22, Tryd.ntmps22
  go_upto_region 1 with fail
  generalize w.alloc (.cells #[.int .i64 4, .int .u64 n, .int .u32 code, .slice sa ids.length sc, .int .u32 tx.ver, .slice ia tx.ins.length ic, .slice oa tx.outs.length oc] 51) = W at *
  obtain ⟨p0, p1, p2, p3, p4, p5, p6⟩ := HX.out
  by_cases hc : code = 0
  · subst hc
    by_cases hi : ids.length = 0
    · have HI0 := hide hi
      by_cases hbt : bareB tx = true
      · rw [hbt] at BA
        have HCV : Hid (coversB (shp 4) (⟨4, n, 0, ids, tx⟩ : Mg) = true) := hide ((coversB_iff (shp 4) (⟨4, n, 0, ids, tx⟩ : Mg)).2 ⟨fun _ => List.length_eq_zero_iff.1 HI0.out, fun _ => rfl, fun h => absurd h (by decide), fun _ => (bareB_iff tx).1 hbt⟩)
        go_wp2_with fail
        refine (NM.out _).mono ?_
        rintro e w1 ⟨rfl, hw1⟩
        rw [hw1]
        clear hw1
        go_wp2_with fail
        refine (UN.out _).mono ?_
        rintro e w1 ⟨rfl, hw1⟩
        rw [hw1]
        clear hw1
        go_wp2_with fail
        refine (UC.out _).mono ?_
        rintro e w1 ⟨rfl, hw1⟩
        rw [hw1]
        clear hw1
        go_wp2_with fail
        refine (UI.out _).mono ?_
        rintro e w1 ⟨rfl, hw1⟩
        rw [hw1]
        clear hw1
        go_wp2_with fail
        refine (UT.out _).mono ?_
        rintro e w1 ⟨rfl, hw1⟩
        rw [hw1]
        clear hw1
        go_wp2_with fail
        refine (BA.out _ HT.out.2).mono ?_
        rintro e wB ⟨rfl, hbw⟩
        have HBW := hide hbw
        clear hbw BA
        clear p0 p1 p2 p3 p4 p5 p6
        obtain ⟨p0, p1, p2, p3, p4, p5, p6⟩ := HX.out.on HBW.out
        have HPM := hide (mp0 (m := (⟨4, n, 0, ids, tx⟩ : Mg)) (show isKind 4 = true from by decide) HCV.out (fun h => absurd h (show ¬ 0 < (shp 4).maxIds from by decide)) (by show ¬ 0 < ids.length; rw [HI0.out]; decide) (show ¬ (0 : Int) < 0 from by decide))
        go_wp2_with fail
        refine (UI.out _).mono ?_
        rintro e w1 ⟨rfl, hw1⟩
        rw [hw1]
        clear hw1
        have HO := hide (Own.nil wB W.heap.size)
        go_wp2_with fail
        refine (UN.out _).mono ?_
        rintro e w1 ⟨rfl, hw1⟩
        rw [hw1]
        clear hw1
        have NU8 := hide (fun wx => rnum8_any n 8 wx (Or.inr rfl) n0 (by simpa using n1))
        go_wp2_with fail
        refine (NU8.out _).mono ?_
        rintro e wc1 ⟨vc1, rfl, hownn, hbn⟩
        have HO := hide (HO.out.on hbn)
        have HBY := hide hownn.bytes
        have HBW := hide (HBW.out.trans (hbn.mono HBW.out.size))
        clear hownn hbn
        clear p0 p1 p2 p3 p4 p5 p6
        obtain ⟨p0, p1, p2, p3, p4, p5, p6⟩ := HX.out.on HBW.out
        go_wp2_with (at_builtin; refine wp_append_by rfl _ _ rfl W.heap.size _ _ rfl HO.out _ (put 8 n) rfl HBY.out ?c1 ?c2 ?_)
        case c1 => simp [put_length]
        case c2 => exact HBW.out.size
        intro va1 wa1 hown hg
        have HBW := hide (HBW.out.trans (HO.out.grew hg HBW.out.size))
        have HO := hide hown
        clear hown hg HBY
        clear p0 p1 p2 p3 p4 p5 p6
        obtain ⟨p0, p1, p2, p3, p4, p5, p6⟩ := HX.out.on HBW.out
        go_wp2_with fail
        refine (CT.out _).mono ?_
        rintro e w1 ⟨rfl, hw1⟩
        rw [hw1]
        clear hw1
        obtain ⟨pre, hpre⟩ : ∃ p : List Int, p = [] ++ put 8 n := ⟨_, rfl⟩
        have HPRE := hide hpre
        have HPL : Hid (pre.length ≤ 12) := hide (by rw [hpre]; simp [put_length])
        have HS : Hid (Putting W idL pre ids va1 (.int .i64 0) wa1) := hide ⟨0, by omega, rfl, by rw [hpre]; simpa using HO.out, HBW.out⟩
        clear HO HBW hpre
        go_wp2_with fail
        clear p0 p1 p2 p3 p4 p5 p6
        go_loopw [7, 117] (fun v i wr => Putting W idL pre ids v i wr) (fun _ i _ => ids.length - (intOf i).toNat)
        case atStart => exact HS.out
        case round =>
          clear HS
          obtain ⟨k, hk, rfl, hown, hB⟩ := hrel
          have HBW := hide hB
          have HO := hide hown
          have HLEN : Hid ((pre ++ (ids.take k).flatMap idL).length ≤ 4000) := hide (by
            have h1 := flat_len (f := idL) (m := 32) (ids.take k) (fun x hx => by show x.length ≤ 32; rw [(HIDS.out x (List.mem_of_mem_take hx)).1]; exact Nat.le_refl _)
            have h2 : (ids.take k).length ≤ 100 := by simp; omega
            have h3 := HPL.out
            have h4 : ((ids.take k).flatMap idL).length ≤ (ids.take k).length * 32 := h1
            rw [List.length_append]
            omega)
          by_cases hlt : k < ids.length
          · exact absurd hlt (by have := HI0.out; omega)
          · have hk2 : (ids.length : Int) ≤ (k : Int) := by omega
            have htk : ids.take k = ids := List.take_of_length_le (by omega)
            rw [htk] at HO HLEN
            obtain ⟨p0, p1, p2, p3, p4, p5, p6⟩ := HX.out.on hB
            clear hown hB htk
            have HFL : Hid (ids.flatMap idL = ids.flatten) := hide (by show ids.flatMap (fun x => x) = ids.flatten; simp)
            go_wp2_with fail
            refine (UT.out _).mono ?_
            rintro e w1 ⟨rfl, hw1⟩
            rw [hw1]
            clear hw1
            have hml : mbL (shp 4) (⟨4, n, 0, ids, tx⟩ : Mg) = pre ++ ids.flatMap idL := by show ([] : List Int) ++ (ids.flatten ++ (put 0 0 ++ put 8 n)) = _; rw [HPRE.out, List.length_eq_zero_iff.1 HI0.out]; simp [put]
            have hm0 : mbE (shp 4) (⟨4, n, 0, ids, tx⟩ : Mg) = 0 := rfl
            have R := hide (HFIN.out wr u7 (pre ++ ids.flatMap idL) (HPM.out.1.trans hm0) ((HPM.out.2 hm0).1.trans HSC.out) ((HPM.out.2 hm0).2.trans hml) HO.out.bytes (HB.out.trans (HBW.out.mono HB.out.size)))
            obtain ⟨fa, fc, hvf, -, -⟩ := HO.out.bytes.form
            obtain ⟨nn, hnn⟩ : ∃ nn, nn = (pre ++ ids.flatMap idL).length := ⟨_, rfl⟩
            rw [← hnn] at hvf
            clear hnn HO
            subst hvf
            clear hml hm0 HPM HFIN HEX HFL
            go_wp2_with fail
            refine (NM.out _).mono ?_
            rintro e w7 ⟨rfl, hw7⟩
            rw [hw7]
            clear hw7
            go_wp2
            go_ret3
            exact R.out
      · have hbt : bareB tx = false := by simpa using hbt
        rw [hbt] at BA
        have PB := hide (mpA (m := (⟨4, n, 0, ids, tx⟩ : Mg)) (show isKind 4 = true from by decide) (cov_t rfl hbt))
        go_wp2_with fail
        refine (NM.out _).mono ?_
        rintro e w1 ⟨rfl, hw1⟩
        rw [hw1]
        clear hw1
        go_wp2_with fail
        refine (UN.out _).mono ?_
        rintro e w1 ⟨rfl, hw1⟩
        rw [hw1]
        clear hw1
        go_wp2_with fail
        refine (UC.out _).mono ?_
        rintro e w1 ⟨rfl, hw1⟩
        rw [hw1]
        clear hw1
        go_wp2_with fail
        refine (UI.out _).mono ?_
        rintro e w1 ⟨rfl, hw1⟩
        rw [hw1]
        clear hw1
        go_wp2_with fail
        refine (UT.out _).mono ?_
        rintro e w1 ⟨rfl, hw1⟩
        rw [hw1]
        clear hw1
        go_wp2_with fail
        refine (BA.out _ HT.out.2).mono ?_
        rintro e wB ⟨rfl, hbw⟩
        have R := hide (HEX.out wB 2 PB.out (by decide) (HB.out.trans (hbw.mono HB.out.size)))
        clear hbw HFIN BA
        go_wp2
        go_ret3
        exact R.out
    · have hne : ¬ ids = [] := fun e => hi (by rw [e]; rfl)
      have hpos : 0 < ids.length := by omega
      have PB := hide (mpA (m := (⟨4, n, 0, ids, tx⟩ : Mg)) (show isKind 4 = true from by decide) (cov_i rfl (by show 0 < ids.length; omega)))
      have R := hide (HEX.out W 2 (PB.out) (by decide) HB.out)
      clear HFIN
      go_wp2_with fail
      refine (NM.out _).mono ?_
      rintro e w1 ⟨rfl, hw1⟩
      rw [hw1]
      clear hw1
      go_wp2_with fail
      refine (UN.out _).mono ?_
      rintro e w1 ⟨rfl, hw1⟩
      rw [hw1]
      clear hw1
      go_wp2_with fail
      refine (UC.out _).mono ?_
      rintro e w1 ⟨rfl, hw1⟩
      rw [hw1]
      clear hw1
      go_wp2_with fail
      refine (UI.out _).mono ?_
      rintro e w1 ⟨rfl, hw1⟩
      rw [hw1]
      clear hw1
      go_wp2
      go_ret3
      exact R.out
  · have hc' : (code == 0) = false := beq_eq_false_iff_ne.2 hc
    have PB := hide (mpA (m := (⟨4, n, code, ids, tx⟩ : Mg)) (show isKind 4 = true from by decide) (cov_c rfl hc))
    have R := hide (HEX.out W 2 (PB.out) (by decide) HB.out)
    clear HFIN
    go_wp2_with fail
    refine (NM.out _).mono ?_
    rintro e w1 ⟨rfl, hw1⟩
    rw [hw1]
    clear hw1
    go_wp2_with fail
    refine (UN.out _).mono ?_
    rintro e w1 ⟨rfl, hw1⟩
    rw [hw1]
    clear hw1
    go_wp2_with fail
    refine (UC.out _).mono ?_
    rintro e w1 ⟨rfl, hw1⟩
    rw [hw1]
    clear hw1
    go_wp2
    go_ret3
    exact R.out

end Go.Proofs.YtjmifgdjmaelfaaDoor

/-
  What the document's Put of messages answers, kinds 8, 9.
-/
namespace Go.Proofs.YtjmifgdjmaelfaaDoor
open Go.RowKit

set_option maxRecDepth 100000 in
set_option maxHeartbeats 8000000 in
theorem rmput_k8 (n code : Int) (ids : List (List Int)) (tx : Tr) (d iv ov : Value) (w : World) (h : MsgAt w d iv ov (⟨8, n, code, ids, tx⟩ : Mg)) (hok : MgOk (⟨8, n, code, ids, tx⟩ : Mg)) (hil : ids.length ≤ 100) :
    Calls Tryd.prog 22 #[.agg #[.int .i64 8, .int .u64 n, .int .u32 code, d, .int .u32 tx.ver, iv, ov]] w (MputDone w (⟨8, n, code, ids, tx⟩ : Mg)) := by
  obtain ⟨-, ⟨n0, n1⟩, ⟨co0, co1⟩, hids, htx⟩ := hok
  have hids : ∀ x ∈ ids, IdOk x := hids
  have htx : TrOk tx := htx
  simp only at n0 n1 co0 co1
  have NM : Hid (∀ w, Calls Tryd.prog 48 #[.int .i64 8] w fun e w' => e = .returned (.string ⟨#[116, 120]⟩) ∧ w' = w) := hide (fun w => rname_kind w 8 (by decide))
  have UN : Hid (∀ w, Calls Tryd.prog 49 #[.int .i64 8] w fun e w' => e = .returned (.bool false) ∧ w' = w) := hide (fun w => rusesN_kind w 8 (by decide))
  have UC : Hid (∀ w, Calls Tryd.prog 50 #[.int .i64 8] w fun e w' => e = .returned (.bool false) ∧ w' = w) := hide (fun w => rusesCode_kind w 8 (by decide))
  have UI : Hid (∀ w, Calls Tryd.prog 51 #[.int .i64 8] w fun e w' => e = .returned (.bool false) ∧ w' = w) := hide (fun w => rusesIds_kind w 8 (by decide))
  have CT : Hid (∀ w, Calls Tryd.prog 55 #[.int .i64 8] w fun e w' => e = .returned (.bool false) ∧ w' = w) := hide (fun w => rcounted_kind w 8 (by decide))
  have UT : Hid (∀ w, Calls Tryd.prog 52 #[.int .i64 8] w fun e w' => e = .returned (.bool true) ∧ w' = w) := hide (fun w => rusesTx_kind w 8 (by decide))
  have HEX : Hid (∀ (wr : World) (E : Int), mpE (⟨8, n, code, ids, tx⟩ : Mg) = E → E ≠ 0 → Below w.heap.size w wr → MputDone w (⟨8, n, code, ids, tx⟩ : Mg) (.returned (.tuple #[.string ⟨#[]⟩, .slice none 0 0, .int .i64 E])) wr) := hide (rmput_bad w (⟨8, n, code, ids, tx⟩ : Mg))
  have HSC : Hid ((shp 8).cmd = ⟨#[116, 120]⟩) := hide rfl
  have HIDS := hide hids
  have HTX := hide htx
  obtain ⟨sa, sc, ia, ic, oa, oc, rfl, rfl, rfl⟩ := h.form
  simp only at h
  have BA := hide (fun w (h : TxAt w (.slice ia tx.ins.length ic) (.slice oa tx.outs.length oc) tx) => rbare_any tx _ _ w h)
  have hnew := below_new w (.cells #[.int .i64 8, .int .u64 n, .int .u32 code, .slice sa ids.length sc, .int .u32 tx.ver, .slice ia tx.ins.length ic, .slice oa tx.outs.length oc] 51)
  have HT := hide (h.on hnew)
  have HB := hide hnew
  have HX := hide (MBox.new w (.int .i64 8) (.int .u64 n) (.int .u32 code) (.slice sa ids.length sc) (.int .u32 tx.ver) (.slice ia tx.ins.length ic) (.slice oa tx.outs.length oc) 51)
  have HFIN : Hid (∀ (wr : World) (v : Value) (l : List Int), mpE (⟨8, n, code, ids, tx⟩ : Mg) = 0 → mpC (⟨8, n, code, ids, tx⟩ : Mg) = ⟨#[116, 120]⟩ → mpB (⟨8, n, code, ids, tx⟩ : Mg) = l → Bytes wr v l → Below w.heap.size w wr → MputDone w (⟨8, n, code, ids, tx⟩ : Mg) (.returned (.tuple #[.string ⟨#[116, 120]⟩, v, .int .i64 0])) wr) := hide (rmput_good w (⟨8, n, code, ids, tx⟩ : Mg) ⟨#[116, 120]⟩)
  clear hnew h hids htx
  go_enter Tryd.func22, Tryd.ntmps22
  go_upto_region 1 with fail
  generalize w.alloc (.cells #[.int .i64 8, .int .u64 n, .int .u32 code, .slice sa ids.length sc, .int .u32 tx.ver, .slice ia tx.ins.length ic, .slice oa tx.outs.length oc] 51) = W at *
  obtain ⟨p0, p1, p2, p3, p4, p5, p6⟩ := HX.out
  by_cases hn : n = 0
  · subst hn
    by_cases hc : code = 0
    · subst hc
      by_cases hi : ids.length = 0
      · have HI0 := hide hi
        have HCV : Hid (coversB (shp 8) (⟨8, 0, 0, ids, tx⟩ : Mg) = true) := hide ((coversB_iff (shp 8) (⟨8, 0, 0, ids, tx⟩ : Mg)).2 ⟨fun _ => List.length_eq_zero_iff.1 HI0.out, fun _ => rfl, fun _ => rfl, fun h => absurd h (by decide)⟩)
        go_wp2_with fail
        refine (NM.out _).mono ?_
        rintro e w1 ⟨rfl, hw1⟩
        rw [hw1]
        clear hw1
        go_wp2_with fail
        refine (UN.out _).mono ?_
        rintro e w1 ⟨rfl, hw1⟩
        rw [hw1]
        clear hw1
        go_wp2_with fail
        refine (UC.out _).mono ?_
        rintro e w1 ⟨rfl, hw1⟩
        rw [hw1]
        clear hw1
        go_wp2_with fail
        refine (UI.out _).mono ?_
        rintro e w1 ⟨rfl, hw1⟩
        rw [hw1]
        clear hw1
        go_wp2_with fail
        refine (UT.out _).mono ?_
        rintro e w1 ⟨rfl, hw1⟩
        rw [hw1]
        clear hw1
        have HBW := hide (Below.refl W.heap.size W)
        clear BA
        have HPM := hide (mp0 (m := (⟨8, 0, 0, ids, tx⟩ : Mg)) (show isKind 8 = true from by decide) HCV.out (fun h => absurd h (show ¬ 0 < (shp 8).maxIds from by decide)) (by show ¬ 0 < ids.length; rw [HI0.out]; decide) (show ¬ (0 : Int) < 0 from by decide))
        go_wp2_with fail
        refine (UI.out _).mono ?_
        rintro e w1 ⟨rfl, hw1⟩
        rw [hw1]
        clear hw1
        have HO := hide (Own.nil W W.heap.size)
        go_wp2_with fail
        refine (UN.out _).mono ?_
        rintro e w1 ⟨rfl, hw1⟩
        rw [hw1]
        clear hw1
        go_wp2_with fail
        refine (CT.out _).mono ?_
        rintro e w1 ⟨rfl, hw1⟩
        rw [hw1]
        clear hw1
        obtain ⟨pre, hpre⟩ : ∃ p : List Int, p = [] := ⟨_, rfl⟩
        have HPRE := hide hpre
        have HPL : Hid (pre.length ≤ 12) := hide (by rw [hpre]; simp)
        have HS : Hid (Putting W idL pre ids (.slice none 0 0) (.int .i64 0) W) := hide ⟨0, by omega, rfl, by rw [hpre]; simpa using HO.out, HBW.out⟩
        clear HO HBW hpre
        go_wp2_with fail
        clear p0 p1 p2 p3 p4 p5 p6
        go_loopw [7, 117] (fun v i wr => Putting W idL pre ids v i wr) (fun _ i _ => ids.length - (intOf i).toNat)
        case atStart => exact HS.out
        case round =>
          clear HS
          obtain ⟨k, hk, rfl, hown, hB⟩ := hrel
          have HBW := hide hB
          have HO := hide hown
          have HLEN : Hid ((pre ++ (ids.take k).flatMap idL).length ≤ 4000) := hide (by
            have h1 := flat_len (f := idL) (m := 32) (ids.take k) (fun x hx => by show x.length ≤ 32; rw [(HIDS.out x (List.mem_of_mem_take hx)).1]; exact Nat.le_refl _)
            have h2 : (ids.take k).length ≤ 100 := by simp; omega
            have h3 := HPL.out
            have h4 : ((ids.take k).flatMap idL).length ≤ (ids.take k).length * 32 := h1
            rw [List.length_append]
            omega)
          by_cases hlt : k < ids.length
          · exact absurd hlt (by have := HI0.out; omega)
          · have hk2 : (ids.length : Int) ≤ (k : Int) := by omega
            have htk : ids.take k = ids := List.take_of_length_le (by omega)
            rw [htk] at HO HLEN
            obtain ⟨p0, p1, p2, p3, p4, p5, p6⟩ := HX.out.on hB
            clear hown hB htk
            have HFL : Hid (ids.flatMap idL = ids.flatten) := hide (by show ids.flatMap (fun x => x) = ids.flatten; simp)
            go_wp2_with fail
            refine (UT.out _).mono ?_
            rintro e w1 ⟨rfl, hw1⟩
            rw [hw1]
            clear hw1
            have hb7 := HBW.out
            have PT := hide (fun wx (h : TxAt wx (.slice ia tx.ins.length ic) (.slice oa tx.outs.length oc) tx) => rtput_any tx _ _ wx h.1 h.2 HTX.out)
            have HLE : Hid ((ptL tx).length ≤ 2000) := hide (by
              cases hf : formB tx with
              | true => rw [(ptL_form hf).1]; exact txB_le tx HTX.out hf
              | false => rw [(ptL_long hf).1]; exact Nat.zero_le _)
            have HBAD : Hid (ptE tx ≠ 0 → mpE (⟨8, 0, 0, ids, tx⟩ : Mg) = ptE tx) := hide (fun _ => HPM.out.1)
            have HGD : Hid (ptE tx = 0 → mpE (⟨8, 0, 0, ids, tx⟩ : Mg) = 0 ∧ mpC (⟨8, 0, 0, ids, tx⟩ : Mg) = (shp 8).cmd ∧ mpB (⟨8, 0, 0, ids, tx⟩ : Mg) = ptL tx) := hide (fun h => ⟨HPM.out.1.trans h, HPM.out.2 h⟩)
            have hcm := HSC.out
            clear hb7 HPM
            generalize ptL tx = B at *
            generalize ptE tx = ee at *
            go_wp2_with fail
            refine (PT.out _ (HT.out.2.on HBW.out)).mono ?_
            rintro e wt ⟨vt, rfl, hownt, hbt⟩
            have HO := hide (HO.out.on hbt)
            have HBY := hide hownt.bytes
            have HBW := hide (HBW.out.trans (hbt.mono HBW.out.size))
            clear hownt hbt PT
            by_cases he : ee = 0
            · subst he
              obtain ⟨g1, g2, g3⟩ := HGD.out rfl
              have G1 := hide g1
              have G2 := hide g2
              have G3 := hide g3
              clear g1 g2 g3 HGD HBAD
              go_wp2_with (at_builtin; refine wp_append_by rfl _ _ rfl W.heap.size _ _ rfl HO.out _ B rfl HBY.out ?c1 ?c2 ?_)
              case c1 => have h1 := HLE.out; have h2 := HLEN.out; omega
              case c2 => exact HBW.out.size
              intro v6 w6 hown6 hg6
              have HBW := hide (HBW.out.trans (HO.out.grew hg6 HBW.out.size))
              have hl : pre ++ (ids.flatMap idL ++ B) = B := by
                have e1 := HPRE.out
                have e2 : ids = [] := List.length_eq_zero_iff.1 HI0.out
                rw [e1, e2]
                rfl
              have R := hide (HFIN.out w6 v6 B G1.out (G2.out.trans hcm) G3.out (by rw [← hl]; exact hown6.bytes) (HB.out.trans (HBW.out.mono HB.out.size)))
              obtain ⟨fa, fc, hvf, -, -⟩ := hown6.bytes.form
              obtain ⟨nn, hnn⟩ : ∃ nn, nn = (pre ++ (ids.flatMap idL ++ B)).length := ⟨_, rfl⟩
              (try simp only [List.append_assoc] at hvf hnn)
              rw [← hnn] at hvf
              subst hvf
              clear hown6 hg6 hl HFIN HBY HO hnn
              go_wp2_with fail
              refine (NM.out _).mono ?_
              rintro e w7 ⟨rfl, hw7⟩
              rw [hw7]
              clear hw7
              go_wp2
              go_ret3
              exact R.out
            · have R := hide (HEX.out wt ee (HBAD.out he) he (HB.out.trans (HBW.out.mono HB.out.size)))
              clear HFIN HGD HBAD HEX
              obtain ⟨ta, tc, rfl, -, -⟩ := HBY.out.form
              go_wp2
              go_ret3
              exact R.out
      · have hne : ¬ ids = [] := fun e => hi (by rw [e]; rfl)
        have hpos : 0 < ids.length := by omega
        have PB := hide (mpA (m := (⟨8, 0, 0, ids, tx⟩ : Mg)) (show isKind 8 = true from by decide) (cov_i rfl (by show 0 < ids.length; omega)))
        have R := hide (HEX.out W 2 (PB.out) (by decide) HB.out)
        clear HFIN
        go_wp2_with fail
        refine (NM.out _).mono ?_
        rintro e w1 ⟨rfl, hw1⟩
        rw [hw1]
        clear hw1
        go_wp2_with fail
        refine (UN.out _).mono ?_
        rintro e w1 ⟨rfl, hw1⟩
        rw [hw1]
        clear hw1
        go_wp2_with fail
        refine (UC.out _).mono ?_
        rintro e w1 ⟨rfl, hw1⟩
        rw [hw1]
        clear hw1
        go_wp2_with fail
        refine (UI.out _).mono ?_
        rintro e w1 ⟨rfl, hw1⟩
        rw [hw1]
        clear hw1
        go_wp2
        go_ret3
        exact R.out
    · have hc' : (code == 0) = false := beq_eq_false_iff_ne.2 hc
      have PB := hide (mpA (m := (⟨8, 0, code, ids, tx⟩ : Mg)) (show isKind 8 = true from by decide) (cov_c rfl hc))
      have R := hide (HEX.out W 2 (PB.out) (by decide) HB.out)
      clear HFIN
      go_wp2_with fail
      refine (NM.out _).mono ?_
      rintro e w1 ⟨rfl, hw1⟩
      rw [hw1]
      clear hw1
      go_wp2_with fail
      refine (UN.out _).mono ?_
      rintro e w1 ⟨rfl, hw1⟩
      rw [hw1]
      clear hw1
      go_wp2_with fail
      refine (UC.out _).mono ?_
      rintro e w1 ⟨rfl, hw1⟩
      rw [hw1]
      clear hw1
      go_wp2
      go_ret3
      exact R.out
  · have hn' : (n == 0) = false := beq_eq_false_iff_ne.2 hn
    have PB := hide (mpA (m := (⟨8, n, code, ids, tx⟩ : Mg)) (show isKind 8 = true from by decide) (cov_n rfl hn))
    have R := hide (HEX.out W 2 (PB.out) (by decide) HB.out)
    clear HFIN
    go_wp2_with fail
    refine (NM.out _).mono ?_
    rintro e w1 ⟨rfl, hw1⟩
    rw [hw1]
    clear hw1
    go_wp2_with fail
    refine (UN.out _).mono ?_
    rintro e w1 ⟨rfl, hw1⟩
    rw [hw1]
    clear hw1
    go_wp2
    go_ret3
    exact R.out
set_option maxRecDepth 100000 in
set_option maxHeartbeats 8000000 in
theorem rmput_k9 (n code : Int) (ids : List (List Int)) (tx : Tr) (d iv ov : Value) (w : World) (h : MsgAt w d iv ov (⟨9, n, code, ids, tx⟩ : Mg)) (hok : MgOk (⟨9, n, code, ids, tx⟩ : Mg)) (hil : ids.length ≤ 100) :
    Calls Tryd.prog 22 #[.agg #[.int .i64 9, .int .u64 n, .int .u32 code, d, .int .u32 tx.ver, iv, ov]] w (MputDone w (⟨9, n, code, ids, tx⟩ : Mg)) := by
  obtain ⟨-, ⟨n0, n1⟩, ⟨co0, co1⟩, hids, htx⟩ := hok
  have hids : ∀ x ∈ ids, IdOk x := hids
  have htx : TrOk tx := htx
  simp only at n0 n1 co0 co1
  have NM : Hid (∀ w, Calls Tryd.prog 48 #[.int .i64 9] w fun e w' => e = .returned (.string ⟨#[115, 116, 101, 109, 116, 120]⟩) ∧ w' = w) := hide (fun w => rname_kind w 9 (by decide))
  have UN : Hid (∀ w, Calls Tryd.prog 49 #[.int .i64 9] w fun e w' => e = .returned (.bool false) ∧ w' = w) := hide (fun w => rusesN_kind w 9 (by decide))
  have UC : Hid (∀ w, Calls Tryd.prog 50 #[.int .i64 9] w fun e w' => e = .returned (.bool false) ∧ w' = w) := hide (fun w => rusesCode_kind w 9 (by decide))
  have UI : Hid (∀ w, Calls Tryd.prog 51 #[.int .i64 9] w fun e w' => e = .returned (.bool false) ∧ w' = w) := hide (fun w => rusesIds_kind w 9 (by decide))
  have CT : Hid (∀ w, Calls Tryd.prog 55 #[.int .i64 9] w fun e w' => e = .returned (.bool false) ∧ w' = w) := hide (fun w => rcounted_kind w 9 (by decide))
  have UT : Hid (∀ w, Calls Tryd.prog 52 #[.int .i64 9] w fun e w' => e = .returned (.bool true) ∧ w' = w) := hide (fun w => rusesTx_kind w 9 (by decide))
  have HEX : Hid (∀ (wr : World) (E : Int), mpE (⟨9, n, code, ids, tx⟩ : Mg) = E → E ≠ 0 → Below w.heap.size w wr → MputDone w (⟨9, n, code, ids, tx⟩ : Mg) (.returned (.tuple #[.string ⟨#[]⟩, .slice none 0 0, .int .i64 E])) wr) := hide (rmput_bad w (⟨9, n, code, ids, tx⟩ : Mg))
  have HSC : Hid ((shp 9).cmd = ⟨#[115, 116, 101, 109, 116, 120]⟩) := hide rfl
  have HIDS := hide hids
  have HTX := hide htx
  obtain ⟨sa, sc, ia, ic, oa, oc, rfl, rfl, rfl⟩ := h.form
  simp only at h
  have BA := hide (fun w (h : TxAt w (.slice ia tx.ins.length ic) (.slice oa tx.outs.length oc) tx) => rbare_any tx _ _ w h)
  have hnew := below_new w (.cells #[.int .i64 9, .int .u64 n, .int .u32 code, .slice sa ids.length sc, .int .u32 tx.ver, .slice ia tx.ins.length ic, .slice oa tx.outs.length oc] 51)
  have HT := hide (h.on hnew)
  have HB := hide hnew
  have HX := hide (MBox.new w (.int .i64 9) (.int .u64 n) (.int .u32 code) (.slice sa ids.length sc) (.int .u32 tx.ver) (.slice ia tx.ins.length ic) (.slice oa tx.outs.length oc) 51)
  have HFIN : Hid (∀ (wr : World) (v : Value) (l : List Int), mpE (⟨9, n, code, ids, tx⟩ : Mg) = 0 → mpC (⟨9, n, code, ids, tx⟩ : Mg) = ⟨#[115, 116, 101, 109, 116, 120]⟩ → mpB (⟨9, n, code, ids, tx⟩ : Mg) = l → Bytes wr v l → Below w.heap.size w wr → MputDone w (⟨9, n, code, ids, tx⟩ : Mg) (.returned (.tuple #[.string ⟨#[115, 116, 101, 109, 116, 120]⟩, v, .int .i64 0])) wr) := hide (rmput_good w (⟨9, n, code, ids, tx⟩ : Mg) ⟨#[115, 116, 101, 109, 116, 120]⟩)
  clear hnew h hids htx
  go_enter Tryd.func22, Tryd.ntmps22
  go_upto_region 1 with fail
  generalize w.alloc (.cells #[.int .i64 9, .int .u64 n, .int .u32 code, .slice sa ids.length sc, .int .u32 tx.ver, .slice ia tx.ins.length ic, .slice oa tx.outs.length oc] 51) = W at *
  obtain ⟨p0, p1, p2, p3, p4, p5, p6⟩ := HX.out
  by_cases hn : n = 0
  · subst hn
    by_cases hc : code = 0
    · subst hc
      by_cases hi : ids.length = 0
      · have HI0 := hide hi
        have HCV : Hid (coversB (shp 9) (⟨9, 0, 0, ids, tx⟩ : Mg) = true) := hide ((coversB_iff (shp 9) (⟨9, 0, 0, ids, tx⟩ : Mg)).2 ⟨fun _ => List.length_eq_zero_iff.1 HI0.out, fun _ => rfl, fun _ => rfl, fun h => absurd h (by decide)⟩)
        go_wp2_with fail
        refine (NM.out _).mono ?_
        rintro e w1 ⟨rfl, hw1⟩
        rw [hw1]
        clear hw1
        go_wp2_with fail
        refine (UN.out _).mono ?_
        rintro e w1 ⟨rfl, hw1⟩
        rw [hw1]
        clear hw1
        go_wp2_with fail
        refine (UC.out _).mono ?_
        rintro e w1 ⟨rfl, hw1⟩
        rw [hw1]
        clear hw1
        go_wp2_with fail
        refine (UI.out _).mono ?_
        rintro e w1 ⟨rfl, hw1⟩
        rw [hw1]
        clear hw1
        go_wp2_with fail
        refine (UT.out _).mono ?_
        rintro e w1 ⟨rfl, hw1⟩
        rw [hw1]
        clear hw1
        have HBW := hide (Below.refl W.heap.size W)
        clear BA
        have HPM := hide (mp0 (m := (⟨9, 0, 0, ids, tx⟩ : Mg)) (show isKind 9 = true from by decide) HCV.out (fun h => absurd h (show ¬ 0 < (shp 9).maxIds from by decide)) (by show ¬ 0 < ids.length; rw [HI0.out]; decide) (show ¬ (0 : Int) < 0 from by decide))
        go_wp2_with fail
        refine (UI.out _).mono ?_
        rintro e w1 ⟨rfl, hw1⟩
        rw [hw1]
        clear hw1
        have HO := hide (Own.nil W W.heap.size)
        go_wp2_with fail
        refine (UN.out _).mono ?_
        rintro e w1 ⟨rfl, hw1⟩
        rw [hw1]
        clear hw1
        go_wp2_with fail
        refine (CT.out _).mono ?_
        rintro e w1 ⟨rfl, hw1⟩
        rw [hw1]
        clear hw1
        obtain ⟨pre, hpre⟩ : ∃ p : List Int, p = [] := ⟨_, rfl⟩
        have HPRE := hide hpre
        have HPL : Hid (pre.length ≤ 12) := hide (by rw [hpre]; simp)
        have HS : Hid (Putting W idL pre ids (.slice none 0 0) (.int .i64 0) W) := hide ⟨0, by omega, rfl, by rw [hpre]; simpa using HO.out, HBW.out⟩
        clear HO HBW hpre
        go_wp2_with fail
        clear p0 p1 p2 p3 p4 p5 p6
        go_loopw [7, 117] (fun v i wr => Putting W idL pre ids v i wr) (fun _ i _ => ids.length - (intOf i).toNat)
        case atStart => exact HS.out
        case round =>
          clear HS
          obtain ⟨k, hk, rfl, hown, hB⟩ := hrel
          have HBW := hide hB
          have HO := hide hown
          have HLEN : Hid ((pre ++ (ids.take k).flatMap idL).length ≤ 4000) := hide (by
            have h1 := flat_len (f := idL) (m := 32) (ids.take k) (fun x hx => by show x.length ≤ 32; rw [(HIDS.out x (List.mem_of_mem_take hx)).1]; exact Nat.le_refl _)
            have h2 : (ids.take k).length ≤ 100 := by simp; omega
            have h3 := HPL.out
            have h4 : ((ids.take k).flatMap idL).length ≤ (ids.take k).length * 32 := h1
            rw [List.length_append]
            omega)
          by_cases hlt : k < ids.length
          · exact absurd hlt (by have := HI0.out; omega)
          · have hk2 : (ids.length : Int) ≤ (k : Int) := by omega
            have htk : ids.take k = ids := List.take_of_length_le (by omega)
            rw [htk] at HO HLEN
            obtain ⟨p0, p1, p2, p3, p4, p5, p6⟩ := HX.out.on hB
            clear hown hB htk
            have HFL : Hid (ids.flatMap idL = ids.flatten) := hide (by show ids.flatMap (fun x => x) = ids.flatten; simp)
            go_wp2_with fail
            refine (UT.out _).mono ?_
            rintro e w1 ⟨rfl, hw1⟩
            rw [hw1]
            clear hw1
            have hb7 := HBW.out
            have PT := hide (fun wx (h : TxAt wx (.slice ia tx.ins.length ic) (.slice oa tx.outs.length oc) tx) => rtput_any tx _ _ wx h.1 h.2 HTX.out)
            have HLE : Hid ((ptL tx).length ≤ 2000) := hide (by
              cases hf : formB tx with
              | true => rw [(ptL_form hf).1]; exact txB_le tx HTX.out hf
              | false => rw [(ptL_long hf).1]; exact Nat.zero_le _)
            have HBAD : Hid (ptE tx ≠ 0 → mpE (⟨9, 0, 0, ids, tx⟩ : Mg) = ptE tx) := hide (fun _ => HPM.out.1)
            have HGD : Hid (ptE tx = 0 → mpE (⟨9, 0, 0, ids, tx⟩ : Mg) = 0 ∧ mpC (⟨9, 0, 0, ids, tx⟩ : Mg) = (shp 9).cmd ∧ mpB (⟨9, 0, 0, ids, tx⟩ : Mg) = ptL tx) := hide (fun h => ⟨HPM.out.1.trans h, HPM.out.2 h⟩)
            have hcm := HSC.out
            clear hb7 HPM
            generalize ptL tx = B at *
            generalize ptE tx = ee at *
            go_wp2_with fail
            refine (PT.out _ (HT.out.2.on HBW.out)).mono ?_
            rintro e wt ⟨vt, rfl, hownt, hbt⟩
            have HO := hide (HO.out.on hbt)
            have HBY := hide hownt.bytes
            have HBW := hide (HBW.out.trans (hbt.mono HBW.out.size))
            clear hownt hbt PT
            by_cases he : ee = 0
            · subst he
              obtain ⟨g1, g2, g3⟩ := HGD.out rfl
              have G1 := hide g1
              have G2 := hide g2
              have G3 := hide g3
              clear g1 g2 g3 HGD HBAD
              go_wp2_with (at_builtin; refine wp_append_by rfl _ _ rfl W.heap.size _ _ rfl HO.out _ B rfl HBY.out ?c1 ?c2 ?_)
              case c1 => have h1 := HLE.out; have h2 := HLEN.out; omega
              case c2 => exact HBW.out.size
              intro v6 w6 hown6 hg6
              have HBW := hide (HBW.out.trans (HO.out.grew hg6 HBW.out.size))
              have hl : pre ++ (ids.flatMap idL ++ B) = B := by
                have e1 := HPRE.out
                have e2 : ids = [] := List.length_eq_zero_iff.1 HI0.out
                rw [e1, e2]
                rfl
              have R := hide (HFIN.out w6 v6 B G1.out (G2.out.trans hcm) G3.out (by rw [← hl]; exact hown6.bytes) (HB.out.trans (HBW.out.mono HB.out.size)))
              obtain ⟨fa, fc, hvf, -, -⟩ := hown6.bytes.form
              obtain ⟨nn, hnn⟩ : ∃ nn, nn = (pre ++ (ids.flatMap idL ++ B)).length := ⟨_, rfl⟩
              (try simp only [List.append_assoc] at hvf hnn)
              rw [← hnn] at hvf
              subst hvf
              clear hown6 hg6 hl HFIN HBY HO hnn
              go_wp2_with fail
              refine (NM.out _).mono ?_
              rintro e w7 ⟨rfl, hw7⟩
              rw [hw7]
              clear hw7
              go_wp2
              go_ret3
              exact R.out
            · have R := hide (HEX.out wt ee (HBAD.out he) he (HB.out.trans (HBW.out.mono HB.out.size)))
              clear HFIN HGD HBAD HEX
              obtain ⟨ta, tc, rfl, -, -⟩ := HBY.out.form
              go_wp2
              go_ret3
              exact R.out
      · have hne : ¬ ids = [] := fun e => hi (by rw [e]; rfl)
        have hpos : 0 < ids.length := by omega
        have PB := hide (mpA (m := (⟨9, 0, 0, ids, tx⟩ : Mg)) (show isKind 9 = true from by decide) (cov_i rfl (by show 0 < ids.length; omega)))
        have R := hide (HEX.out W 2 (PB.out) (by decide) HB.out)
        clear HFIN
        go_wp2_with fail
        refine (NM.out _).mono ?_
        rintro e w1 ⟨rfl, hw1⟩
        rw [hw1]
        clear hw1
        go_wp2_with fail
        refine (UN.out _).mono ?_
        rintro e w1 ⟨rfl, hw1⟩
        rw [hw1]
        clear hw1
        go_wp2_with fail
        refine (UC.out _).mono ?_
        rintro e w1 ⟨rfl, hw1⟩
        rw [hw1]
        clear hw1
        go_wp2_with fail
        refine (UI.out _).mono ?_
        rintro e w1 ⟨rfl, hw1⟩
        rw [hw1]
        clear hw1
        go_wp2
        go_ret3
        exact R.out
    · have hc' : (code == 0) = false := beq_eq_false_iff_ne.2 hc
      have PB := hide (mpA (m := (⟨9, 0, code, ids, tx⟩ : Mg)) (show isKind 9 = true from by decide) (cov_c rfl hc))
      have R := hide (HEX.out W 2 (PB.out) (by decide) HB.out)
      clear HFIN
      go_wp2_with fail
      refine (NM.out _).mono ?_
      rintro e w1 ⟨rfl, hw1⟩
      rw [hw1]
      clear hw1
      go_wp2_with fail
      refine (UN.out _).mono ?_
      rintro e w1 ⟨rfl, hw1⟩
      rw [hw1]
      clear hw1
      go_wp2_with fail
      refine (UC.out _).mono ?_
      rintro e w1 ⟨rfl, hw1⟩
      rw [hw1]
      clear hw1
      go_wp2
      go_ret3
      exact R.out
  · have hn' : (n == 0) = false := beq_eq_false_iff_ne.2 hn
    have PB := hide (mpA (m := (⟨9, n, code, ids, tx⟩ : Mg)) (show isKind 9 = true from by decide) (cov_n rfl hn))
    have R := hide (HEX.out W 2 (PB.out) (by decide) HB.out)
    clear HFIN
    go_wp2_with fail
    refine (NM.out _).mono ?_
    rintro e w1 ⟨rfl, hw1⟩
    rw [hw1]
    clear hw1
    go_wp2_with fail
    refine (UN.out _).mono ?_
    rintro e w1 ⟨rfl, hw1⟩
    rw [hw1]
    clear hw1
    go_wp2
    go_ret3
    exact R.out

end Go.Proofs.YtjmifgdjmaelfaaDoor

/-
  What the document's Put of messages answers, kinds 10, 11.
-/
namespace Go.Proofs.YtjmifgdjmaelfaaDoor
open Go.RowKit

set_option maxRecDepth 100000 in
set_option maxHeartbeats 8000000 in
theorem rmput_k10 (n code : Int) (ids : List (List Int)) (tx : Tr) (d iv ov : Value) (w : World) (h : MsgAt w d iv ov (⟨10, n, code, ids, tx⟩ : Mg)) (hok : MgOk (⟨10, n, code, ids, tx⟩ : Mg)) (hil : ids.length ≤ 100) :
    Calls Tryd.prog 22 #[.agg #[.int .i64 10, .int .u64 n, .int .u32 code, d, .int .u32 tx.ver, iv, ov]] w (MputDone w (⟨10, n, code, ids, tx⟩ : Mg)) := by
  obtain ⟨-, ⟨n0, n1⟩, ⟨co0, co1⟩, hids, htx⟩ := hok
  have hids : ∀ x ∈ ids, IdOk x := hids
  have htx : TrOk tx := htx
  simp only at n0 n1 co0 co1
  have NM : Hid (∀ w, Calls Tryd.prog 48 #[.int .i64 10] w fun e w' => e = .returned (.string ⟨#[114, 101, 106, 101, 99, 116]⟩) ∧ w' = w) := hide (fun w => rname_kind w 10 (by decide))
  have UN : Hid (∀ w, Calls Tryd.prog 49 #[.int .i64 10] w fun e w' => e = .returned (.bool false) ∧ w' = w) := hide (fun w => rusesN_kind w 10 (by decide))
  have UC : Hid (∀ w, Calls Tryd.prog 50 #[.int .i64 10] w fun e w' => e = .returned (.bool true) ∧ w' = w) := hide (fun w => rusesCode_kind w 10 (by decide))
  have UI : Hid (∀ w, Calls Tryd.prog 51 #[.int .i64 10] w fun e w' => e = .returned (.bool true) ∧ w' = w) := hide (fun w => rusesIds_kind w 10 (by decide))
  have CT : Hid (∀ w, Calls Tryd.prog 55 #[.int .i64 10] w fun e w' => e = .returned (.bool false) ∧ w' = w) := hide (fun w => rcounted_kind w 10 (by decide))
  have UT : Hid (∀ w, Calls Tryd.prog 52 #[.int .i64 10] w fun e w' => e = .returned (.bool false) ∧ w' = w) := hide (fun w => rusesTx_kind w 10 (by decide))
  have HEX : Hid (∀ (wr : World) (E : Int), mpE (⟨10, n, code, ids, tx⟩ : Mg) = E → E ≠ 0 → Below w.heap.size w wr → MputDone w (⟨10, n, code, ids, tx⟩ : Mg) (.returned (.tuple #[.string ⟨#[]⟩, .slice none 0 0, .int .i64 E])) wr) := hide (rmput_bad w (⟨10, n, code, ids, tx⟩ : Mg))
  have HSC : Hid ((shp 10).cmd = ⟨#[114, 101, 106, 101, 99, 116]⟩) := hide rfl
  have HIDS := hide hids
  have HTX := hide htx
  obtain ⟨sa, sc, ia, ic, oa, oc, rfl, rfl, rfl⟩ := h.form
  simp only at h
  have BA := hide (fun w (h : TxAt w (.slice ia tx.ins.length ic) (.slice oa tx.outs.length oc) tx) => rbare_any tx _ _ w h)
  have hnew := below_new w (.cells #[.int .i64 10, .int .u64 n, .int .u32 code, .slice sa ids.length sc, .int .u32 tx.ver, .slice ia tx.ins.length ic, .slice oa tx.outs.length oc] 51)
  have HT := hide (h.on hnew)
  have HB := hide hnew
  have HX := hide (MBox.new w (.int .i64 10) (.int .u64 n) (.int .u32 code) (.slice sa ids.length sc) (.int .u32 tx.ver) (.slice ia tx.ins.length ic) (.slice oa tx.outs.length oc) 51)
  have HFIN : Hid (∀ (wr : World) (v : Value) (l : List Int), mpE (⟨10, n, code, ids, tx⟩ : Mg) = 0 → mpC (⟨10, n, code, ids, tx⟩ : Mg) = ⟨#[114, 101, 106, 101, 99, 116]⟩ → mpB (⟨10, n, code, ids, tx⟩ : Mg) = l → Bytes wr v l → Below w.heap.size w wr → MputDone w (⟨10, n, code, ids, tx⟩ : Mg) (.returned (.tuple #[.string ⟨#[114, 101, 106, 101, 99, 116]⟩, v, .int .i64 0])) wr) := hide (rmput_good w (⟨10, n, code, ids, tx⟩ : Mg) ⟨#[114, 101, 106, 101, 99, 116]⟩)
  clear hnew h hids htx
  go_enter Tryd.func22, Tryd.ntmps22
  go_upto_region 1 with fail
  generalize w.alloc (.cells #[.int .i64 10, .int .u64 n, .int .u32 code, .slice sa ids.length sc, .int .u32 tx.ver, .slice ia tx.ins.length ic, .slice oa tx.outs.length oc] 51) = W at *
  obtain ⟨p0, p1, p2, p3, p4, p5, p6⟩ := HX.out
  by_cases hn : n = 0
  · subst hn
    by_cases hbt : bareB tx = true
    · rw [hbt] at BA
      have HCV : Hid (coversB (shp 10) (⟨10, 0, code, ids, tx⟩ : Mg) = true) := hide ((coversB_iff (shp 10) (⟨10, 0, code, ids, tx⟩ : Mg)).2 ⟨fun h => absurd h (by decide), fun h => absurd h (by decide), fun _ => rfl, fun _ => (bareB_iff tx).1 hbt⟩)
      go_wp2_with fail
      refine (NM.out _).mono ?_
      rintro e w1 ⟨rfl, hw1⟩
      rw [hw1]
      clear hw1
      go_wp2_with fail
      refine (UN.out _).mono ?_
      rintro e w1 ⟨rfl, hw1⟩
      rw [hw1]
      clear hw1
      go_wp2_with fail
      refine (UC.out _).mono ?_
      rintro e w1 ⟨rfl, hw1⟩
      rw [hw1]
      clear hw1
      go_wp2_with fail
      refine (UI.out _).mono ?_
      rintro e w1 ⟨rfl, hw1⟩
      rw [hw1]
      clear hw1
      go_wp2_with fail
      refine (UT.out _).mono ?_
      rintro e w1 ⟨rfl, hw1⟩
      rw [hw1]
      clear hw1
      go_wp2_with fail
      refine (BA.out _ HT.out.2).mono ?_
      rintro e wB ⟨rfl, hbw⟩
      have HBW := hide hbw
      clear hbw BA
      clear p0 p1 p2 p3 p4 p5 p6
      obtain ⟨p0, p1, p2, p3, p4, p5, p6⟩ := HX.out.on HBW.out
      by_cases h0 : ids.length = 0
      · have HI0 := hide h0
        have R := hide (HEX.out wB 9 (mp9 (m := (⟨10, 0, code, ids, tx⟩ : Mg)) (show isKind 10 = true from by decide) HCV.out (show 0 < (shp 10).maxIds from by decide) HI0.out) (by decide) (HB.out.trans (HBW.out.mono HB.out.size)))
        clear HFIN
        go_wp2_with fail
        refine (UI.out _).mono ?_
        rintro e w1 ⟨rfl, hw1⟩
        rw [hw1]
        clear hw1
        go_wp2
        go_ret3
        exact R.out
      · have hne : ¬ ids = [] := fun e => h0 (by rw [e]; rfl)
        have hpos : 0 < ids.length := by omega
        have eI0 : ¬ (ids.length : Int) = 0 := by omega
        have eI0' : ((ids.length : Int) == 0) = false := beq_eq_false_iff_ne.2 eI0
        by_cases hmx : 1 < ids.length
        · have eI1 : (1 : Int) < (ids.length : Int) := by omega
          have R := hide (HEX.out wB 5 (mp5 (m := (⟨10, 0, code, ids, tx⟩ : Mg)) (show isKind 10 = true from by decide) HCV.out hmx) (by decide) (HB.out.trans (HBW.out.mono HB.out.size)))
          clear HFIN
          go_wp2_with fail
          refine (UI.out _).mono ?_
          rintro e w1 ⟨rfl, hw1⟩
          rw [hw1]
          clear hw1
          go_wp2
          go_ret3
          exact R.out
        · have eI1 : ¬ (1 : Int) < (ids.length : Int) := by omega
          by_cases hcc : 255 < code
          · have eC : (255 : Int) < code := hcc
            have R := hide (HEX.out wB 3 (mp3 (m := (⟨10, 0, code, ids, tx⟩ : Mg)) (show isKind 10 = true from by decide) HCV.out (fun _ => by show 0 < ids.length; omega) hmx hcc) (by decide) (HB.out.trans (HBW.out.mono HB.out.size)))
            clear HFIN
            go_wp2_with fail
            refine (UI.out _).mono ?_
            rintro e w1 ⟨rfl, hw1⟩
            rw [hw1]
            clear hw1
            go_wp2
            go_ret3
            exact R.out
          · have eC : ¬ (255 : Int) < code := hcc
            have HPM := hide (mp0 (m := (⟨10, 0, code, ids, tx⟩ : Mg)) (show isKind 10 = true from by decide) HCV.out (fun _ => by show 0 < ids.length; omega) hmx hcc)
            go_wp2_with fail
            refine (UI.out _).mono ?_
            rintro e w1 ⟨rfl, hw1⟩
            rw [hw1]
            clear hw1
            have HO := hide (Own.nil wB W.heap.size)
            go_wp2_with fail
            refine (UN.out _).mono ?_
            rintro e w1 ⟨rfl, hw1⟩
            rw [hw1]
            clear hw1
            go_wp2_with fail
            refine (CT.out _).mono ?_
            rintro e w1 ⟨rfl, hw1⟩
            rw [hw1]
            clear hw1
            obtain ⟨pre, hpre⟩ : ∃ p : List Int, p = [] := ⟨_, rfl⟩
            have HPRE := hide hpre
            have HPL : Hid (pre.length ≤ 12) := hide (by rw [hpre]; simp)
            have HS : Hid (Putting W idL pre ids (.slice none 0 0) (.int .i64 0) wB) := hide ⟨0, by omega, rfl, by rw [hpre]; simpa using HO.out, HBW.out⟩
            clear HO HBW hpre
            go_wp2_with fail
            clear p0 p1 p2 p3 p4 p5 p6
            go_loopw [7, 117] (fun v i wr => Putting W idL pre ids v i wr) (fun _ i _ => ids.length - (intOf i).toNat)
            case atStart => exact HS.out
            case round =>
              clear HS
              obtain ⟨k, hk, rfl, hown, hB⟩ := hrel
              have HBW := hide hB
              have HO := hide hown
              have HLEN : Hid ((pre ++ (ids.take k).flatMap idL).length ≤ 4000) := hide (by
                have h1 := flat_len (f := idL) (m := 32) (ids.take k) (fun x hx => by show x.length ≤ 32; rw [(HIDS.out x (List.mem_of_mem_take hx)).1]; exact Nat.le_refl _)
                have h2 : (ids.take k).length ≤ 100 := by simp; omega
                have h3 := HPL.out
                have h4 : ((ids.take k).flatMap idL).length ≤ (ids.take k).length * 32 := h1
                rw [List.length_append]
                omega)
              by_cases hlt : k < ids.length
              · obtain ⟨x, hx⟩ : ∃ x, ids[k]? = some x := ⟨_, List.getElem?_eq_getElem hlt⟩
                obtain ⟨b, off, rfl, hr⟩ := IdsAt.get (HT.out.1.on hB) hx
                have hxl := (HIDS.out x (List.mem_of_getElem? hx)).1
                have HR := hide hr
                have HN : Hid ((Tryd.prog.info? 36).map (·.size) = some (vals .u8 x).length) := hide (by rw [vals_length, hxl]; exact info_hash)
                have HTH : Hid ((wr.alloc (.cells #[.int .u8 0, .int .u8 0, .int .u8 0, .int .u8 0, .int .u8 0, .int .u8 0, .int .u8 0, .int .u8 0, .int .u8 0, .int .u8 0, .int .u8 0, .int .u8 0, .int .u8 0, .int .u8 0, .int .u8 0, .int .u8 0, .int .u8 0, .int .u8 0, .int .u8 0, .int .u8 0, .int .u8 0, .int .u8 0, .int .u8 0, .int .u8 0, .int .u8 0, .int .u8 0, .int .u8 0, .int .u8 0, .int .u8 0, .int .u8 0, .int .u8 0, .int .u8 0] 36)).there wr.heap.size 0 (vals .u8 x).length) := hide (by rw [vals_length, hxl]; exact there_new wr _ _)
                have H1 := hide (vals_cell .u8 x)
                have hk1 : (k : Int) < (ids.length : Int) := by omega
                have HXE := hide hx
                have HXL := hide hxl
                clear hr hx hxl hown hB
                go_upto_region 23 with (first | (refine wpList_load_mid rfl 36 (.tmp 119) rfl b (off + k * 32) rfl (vals .u8 x) _ HR.out Tryd.underlying36 rfl HN.out ?_) | (refine wp_store_row rfl 36 (.tmp 9) (.tmp 120) rfl wr.heap.size 0 (vals .u8 x) rfl rfl HTH.out HN.out H1.out ?_))
                have HA : Hid (Arr ((wr.alloc (.cells #[.int .u8 0, .int .u8 0, .int .u8 0, .int .u8 0, .int .u8 0, .int .u8 0, .int .u8 0, .int .u8 0, .int .u8 0, .int .u8 0, .int .u8 0, .int .u8 0, .int .u8 0, .int .u8 0, .int .u8 0, .int .u8 0, .int .u8 0, .int .u8 0, .int .u8 0, .int .u8 0, .int .u8 0, .int .u8 0, .int .u8 0, .int .u8 0, .int .u8 0, .int .u8 0, .int .u8 0, .int .u8 0, .int .u8 0, .int .u8 0, .int .u8 0, .int .u8 0] 36)).setCells wr.heap.size 0 (vals .u8 x)) wr.heap.size 0 .u8 x) := hide (Arr.put (by have := HTH.out; rwa [vals_length] at this))
                have hB2 : Below wr.heap.size wr ((wr.alloc (.cells #[.int .u8 0, .int .u8 0, .int .u8 0, .int .u8 0, .int .u8 0, .int .u8 0, .int .u8 0, .int .u8 0, .int .u8 0, .int .u8 0, .int .u8 0, .int .u8 0, .int .u8 0, .int .u8 0, .int .u8 0, .int .u8 0, .int .u8 0, .int .u8 0, .int .u8 0, .int .u8 0, .int .u8 0, .int .u8 0, .int .u8 0, .int .u8 0, .int .u8 0, .int .u8 0, .int .u8 0, .int .u8 0, .int .u8 0, .int .u8 0, .int .u8 0, .int .u8 0] 36)).setCells wr.heap.size 0 (vals .u8 x)) := below_sets (Nat.le_refl _) _ _ _ ((Below.refl _ _).alloc (Nat.le_refl _) _)
                generalize (wr.alloc (.cells #[.int .u8 0, .int .u8 0, .int .u8 0, .int .u8 0, .int .u8 0, .int .u8 0, .int .u8 0, .int .u8 0, .int .u8 0, .int .u8 0, .int .u8 0, .int .u8 0, .int .u8 0, .int .u8 0, .int .u8 0, .int .u8 0, .int .u8 0, .int .u8 0, .int .u8 0, .int .u8 0, .int .u8 0, .int .u8 0, .int .u8 0, .int .u8 0, .int .u8 0, .int .u8 0, .int .u8 0, .int .u8 0, .int .u8 0, .int .u8 0, .int .u8 0, .int .u8 0] 36)).setCells wr.heap.size 0 (vals .u8 x) = W2 at *
                have HOW := hide (HO.out.on hB2)
                have HBW2 : Hid (Below W.heap.size W W2) := hide (HBW.out.trans (hB2.mono HBW.out.size))
                clear hB2 HR HN H1 HTH HO
                generalize wr.heap.size = gh at *
                go_wp2_with (at_builtin; refine wp_append_by rfl _ _ rfl W.heap.size _ _ rfl HOW.out _ x rfl (HA.out.asBytes 32 HXL.out (by omega)) ?c1 ?c2 ?_)
                case c1 => have h1 := HXL.out; have h2 := HLEN.out; simp only [List.length_append] at *; omega
                case c2 => exact HBW2.out.size
                intro v4 w4 hown4 hg4
                have hb4 := HBW2.out.trans (HOW.out.grew hg4 HBW2.out.size)
                have R : Hid (Putting W idL pre ids v4 (.int .i64 ((k + 1 : Nat) : Int)) w4) := hide ⟨k + 1, by omega, rfl, by
                  have h4 := hown4
                  (try simp only [List.append_assoc] at h4)
                  rw [take_flat HXE.out]
                  exact h4, hb4⟩
                clear hown4 hg4 hb4 HOW HBW2 HA
                go_wp2
                go_roundw
                case rel => first | exact R.out | ((repeat apply Exists.intro); exact ⟨R.out, rfl⟩)
                case measure => simp [intOf]; omega
              · have hk2 : (ids.length : Int) ≤ (k : Int) := by omega
                have htk : ids.take k = ids := List.take_of_length_le (by omega)
                rw [htk] at HO HLEN
                obtain ⟨p0, p1, p2, p3, p4, p5, p6⟩ := HX.out.on hB
                clear hown hB htk
                have HFL : Hid (ids.flatMap idL = ids.flatten) := hide (by show ids.flatMap (fun x => x) = ids.flatten; simp)
                have hw8 : IntKind.u8.wrap code = code := by simp [IntKind.wrap, IntKind.bits, IntKind.signed]; omega
                have HONE : Hid (∀ wx : World, Bytes (wx.alloc (.cells #[.int .u8 code] 5)) (.slice (some ⟨wx.heap.size, 0, none⟩) 1 1) [code]) := hide (fun wx => Bytes.one wx code)
                have hb5 := below_new wr (.cells #[.int .u8 code] 5)
                have HO5 := hide (HO.out.on hb5)
                have HB5 := hide (HBW.out.trans (hb5.mono HBW.out.size))
                clear hb5 HO HBW
                go_wp2_with (at_builtin; refine wp_append_by rfl _ _ rfl W.heap.size _ _ rfl HO5.out _ [code] rfl (HONE.out wr) ?c1 ?c2 ?_)
                case c1 => have h2 := HLEN.out; simp only [List.length_append, List.length_cons, List.length_nil] at *; omega
                case c2 => exact HB5.out.size
                intro v6 w6 hown6 hg6
                have HBW := hide (HB5.out.trans (HO5.out.grew hg6 HB5.out.size))
                have HO : Hid (Own w6 W.heap.size v6 (pre ++ (ids.flatMap idL ++ [code]))) := hide (by (have h6 := hown6); (try simp only [List.append_assoc] at h6); exact h6)
                clear hown6 hg6 HB5 HO5
                go_wp2_with fail
                refine (UT.out _).mono ?_
                rintro e w1 ⟨rfl, hw1⟩
                rw [hw1]
                clear hw1
                have hml : mbL (shp 10) (⟨10, 0, code, ids, tx⟩ : Mg) = pre ++ (ids.flatMap idL ++ [code]) := by show ([] : List Int) ++ (ids.flatten ++ (put 1 code ++ put 0 0)) = _; rw [HPRE.out, HFL.out]; simp [put]; omega
                have hm0 : mbE (shp 10) (⟨10, 0, code, ids, tx⟩ : Mg) = 0 := rfl
                have R := hide (HFIN.out w6 v6 (pre ++ (ids.flatMap idL ++ [code])) (HPM.out.1.trans hm0) ((HPM.out.2 hm0).1.trans HSC.out) ((HPM.out.2 hm0).2.trans hml) HO.out.bytes (HB.out.trans (HBW.out.mono HB.out.size)))
                obtain ⟨fa, fc, hvf, -, -⟩ := HO.out.bytes.form
                obtain ⟨nn, hnn⟩ : ∃ nn, nn = (pre ++ (ids.flatMap idL ++ [code])).length := ⟨_, rfl⟩
                rw [← hnn] at hvf
                clear hnn HO
                subst hvf
                clear hml hm0 HPM HFIN HEX HFL
                go_wp2_with fail
                refine (NM.out _).mono ?_
                rintro e w7 ⟨rfl, hw7⟩
                rw [hw7]
                clear hw7
                go_wp2
                go_ret3
                exact R.out
    · have hbt : bareB tx = false := by simpa using hbt
      rw [hbt] at BA
      have PB := hide (mpA (m := (⟨10, 0, code, ids, tx⟩ : Mg)) (show isKind 10 = true from by decide) (cov_t rfl hbt))
      go_wp2_with fail
      refine (NM.out _).mono ?_
      rintro e w1 ⟨rfl, hw1⟩
      rw [hw1]
      clear hw1
      go_wp2_with fail
      refine (UN.out _).mono ?_
      rintro e w1 ⟨rfl, hw1⟩
      rw [hw1]
      clear hw1
      go_wp2_with fail
      refine (UC.out _).mono ?_
      rintro e w1 ⟨rfl, hw1⟩
      rw [hw1]
      clear hw1
      go_wp2_with fail
      refine (UI.out _).mono ?_
      rintro e w1 ⟨rfl, hw1⟩
      rw [hw1]
      clear hw1
      go_wp2_with fail
      refine (UT.out _).mono ?_
      rintro e w1 ⟨rfl, hw1⟩
      rw [hw1]
      clear hw1
      go_wp2_with fail
      refine (BA.out _ HT.out.2).mono ?_
      rintro e wB ⟨rfl, hbw⟩
      have R := hide (HEX.out wB 2 PB.out (by decide) (HB.out.trans (hbw.mono HB.out.size)))
      clear hbw HFIN BA
      go_wp2
      go_ret3
      exact R.out
  · have hn' : (n == 0) = false := beq_eq_false_iff_ne.2 hn
    have PB := hide (mpA (m := (⟨10, n, code, ids, tx⟩ : Mg)) (show isKind 10 = true from by decide) (cov_n rfl hn))
    have R := hide (HEX.out W 2 (PB.out) (by decide) HB.out)
    clear HFIN
    go_wp2_with fail
    refine (NM.out _).mono ?_
    rintro e w1 ⟨rfl, hw1⟩
    rw [hw1]
    clear hw1
    go_wp2_with fail
    refine (UN.out _).mono ?_
    rintro e w1 ⟨rfl, hw1⟩
    rw [hw1]
    clear hw1
    go_wp2
    go_ret3
    exact R.out
set_option maxRecDepth 100000 in
set_option maxHeartbeats 8000000 in
theorem rmput_k11 (n code : Int) (ids : List (List Int)) (tx : Tr) (d iv ov : Value) (w : World) (h : MsgAt w d iv ov (⟨11, n, code, ids, tx⟩ : Mg)) (hok : MgOk (⟨11, n, code, ids, tx⟩ : Mg)) (hil : ids.length ≤ 100) :
    Calls Tryd.prog 22 #[.agg #[.int .i64 11, .int .u64 n, .int .u32 code, d, .int .u32 tx.ver, iv, ov]] w (MputDone w (⟨11, n, code, ids, tx⟩ : Mg)) := by
  obtain ⟨-, ⟨n0, n1⟩, ⟨co0, co1⟩, hids, htx⟩ := hok
  have hids : ∀ x ∈ ids, IdOk x := hids
  have htx : TrOk tx := htx
  simp only at n0 n1 co0 co1
  have NM : Hid (∀ w, Calls Tryd.prog 48 #[.int .i64 11] w fun e w' => e = .returned (.string ⟨#[115, 101, 110, 100, 115, 116, 101, 109]⟩) ∧ w' = w) := hide (fun w => rname_kind w 11 (by decide))
  have UN : Hid (∀ w, Calls Tryd.prog 49 #[.int .i64 11] w fun e w' => e = .returned (.bool false) ∧ w' = w) := hide (fun w => rusesN_kind w 11 (by decide))
  have UC : Hid (∀ w, Calls Tryd.prog 50 #[.int .i64 11] w fun e w' => e = .returned (.bool true) ∧ w' = w) := hide (fun w => rusesCode_kind w 11 (by decide))
  have UI : Hid (∀ w, Calls Tryd.prog 51 #[.int .i64 11] w fun e w' => e = .returned (.bool false) ∧ w' = w) := hide (fun w => rusesIds_kind w 11 (by decide))
  have CT : Hid (∀ w, Calls Tryd.prog 55 #[.int .i64 11] w fun e w' => e = .returned (.bool false) ∧ w' = w) := hide (fun w => rcounted_kind w 11 (by decide))
  have UT : Hid (∀ w, Calls Tryd.prog 52 #[.int .i64 11] w fun e w' => e = .returned (.bool false) ∧ w' = w) := hide (fun w => rusesTx_kind w 11 (by decide))
  have HEX : Hid (∀ (wr : World) (E : Int), mpE (⟨11, n, code, ids, tx⟩ : Mg) = E → E ≠ 0 → Below w.heap.size w wr → MputDone w (⟨11, n, code, ids, tx⟩ : Mg) (.returned (.tuple #[.string ⟨#[]⟩, .slice none 0 0, .int .i64 E])) wr) := hide (rmput_bad w (⟨11, n, code, ids, tx⟩ : Mg))
  have HSC : Hid ((shp 11).cmd = ⟨#[115, 101, 110, 100, 115, 116, 101, 109]⟩) := hide rfl
  have HIDS := hide hids
  have HTX := hide htx
  obtain ⟨sa, sc, ia, ic, oa, oc, rfl, rfl, rfl⟩ := h.form
  simp only at h
  have BA := hide (fun w (h : TxAt w (.slice ia tx.ins.length ic) (.slice oa tx.outs.length oc) tx) => rbare_any tx _ _ w h)
  have hnew := below_new w (.cells #[.int .i64 11, .int .u64 n, .int .u32 code, .slice sa ids.length sc, .int .u32 tx.ver, .slice ia tx.ins.length ic, .slice oa tx.outs.length oc] 51)
  have HT := hide (h.on hnew)
  have HB := hide hnew
  have HX := hide (MBox.new w (.int .i64 11) (.int .u64 n) (.int .u32 code) (.slice sa ids.length sc) (.int .u32 tx.ver) (.slice ia tx.ins.length ic) (.slice oa tx.outs.length oc) 51)
  have HFIN : Hid (∀ (wr : World) (v : Value) (l : List Int), mpE (⟨11, n, code, ids, tx⟩ : Mg) = 0 → mpC (⟨11, n, code, ids, tx⟩ : Mg) = ⟨#[115, 101, 110, 100, 115, 116, 101, 109]⟩ → mpB (⟨11, n, code, ids, tx⟩ : Mg) = l → Bytes wr v l → Below w.heap.size w wr → MputDone w (⟨11, n, code, ids, tx⟩ : Mg) (.returned (.tuple #[.string ⟨#[115, 101, 110, 100, 115, 116, 101, 109]⟩, v, .int .i64 0])) wr) := hide (rmput_good w (⟨11, n, code, ids, tx⟩ : Mg) ⟨#[115, 101, 110, 100, 115, 116, 101, 109]⟩)
  clear hnew h hids htx
  go_enter Tryd.func22, Tryd.ntmps22
  go_upto_region 1 with fail
  generalize w.alloc (.cells #[.int .i64 11, .int .u64 n, .int .u32 code, .slice sa ids.length sc, .int .u32 tx.ver, .slice ia tx.ins.length ic, .slice oa tx.outs.length oc] 51) = W at *
  obtain ⟨p0, p1, p2, p3, p4, p5, p6⟩ := HX.out
  by_cases hn : n = 0
  · subst hn
    by_cases hi : ids.length = 0
    · have HI0 := hide hi
      by_cases hbt : bareB tx = true
      · rw [hbt] at BA
        have HCV : Hid (coversB (shp 11) (⟨11, 0, code, ids, tx⟩ : Mg) = true) := hide ((coversB_iff (shp 11) (⟨11, 0, code, ids, tx⟩ : Mg)).2 ⟨fun _ => List.length_eq_zero_iff.1 HI0.out, fun h => absurd h (by decide), fun _ => rfl, fun _ => (bareB_iff tx).1 hbt⟩)
        go_wp2_with fail
        refine (NM.out _).mono ?_
        rintro e w1 ⟨rfl, hw1⟩
        rw [hw1]
        clear hw1
        go_wp2_with fail
        refine (UN.out _).mono ?_
        rintro e w1 ⟨rfl, hw1⟩
        rw [hw1]
        clear hw1
        go_wp2_with fail
        refine (UC.out _).mono ?_
        rintro e w1 ⟨rfl, hw1⟩
        rw [hw1]
        clear hw1
        go_wp2_with fail
        refine (UI.out _).mono ?_
        rintro e w1 ⟨rfl, hw1⟩
        rw [hw1]
        clear hw1
        go_wp2_with fail
        refine (UT.out _).mono ?_
        rintro e w1 ⟨rfl, hw1⟩
        rw [hw1]
        clear hw1
        go_wp2_with fail
        refine (BA.out _ HT.out.2).mono ?_
        rintro e wB ⟨rfl, hbw⟩
        have HBW := hide hbw
        clear hbw BA
        clear p0 p1 p2 p3 p4 p5 p6
        obtain ⟨p0, p1, p2, p3, p4, p5, p6⟩ := HX.out.on HBW.out
        by_cases hcc : 1 < code
        · have eC : (1 : Int) < code := hcc
          have R := hide (HEX.out wB 3 (mp3 (m := (⟨11, 0, code, ids, tx⟩ : Mg)) (show isKind 11 = true from by decide) HCV.out (fun h => absurd h (show ¬ 0 < (shp 11).maxIds from by decide)) (by show ¬ 0 < ids.length; rw [HI0.out]; decide) hcc) (by decide) (HB.out.trans (HBW.out.mono HB.out.size)))
          clear HFIN
          go_wp2_with fail
          refine (UI.out _).mono ?_
          rintro e w1 ⟨rfl, hw1⟩
          rw [hw1]
          clear hw1
          go_wp2
          go_ret3
          exact R.out
        · have eC : ¬ (1 : Int) < code := hcc
          have HPM := hide (mp0 (m := (⟨11, 0, code, ids, tx⟩ : Mg)) (show isKind 11 = true from by decide) HCV.out (fun h => absurd h (show ¬ 0 < (shp 11).maxIds from by decide)) (by show ¬ 0 < ids.length; rw [HI0.out]; decide) hcc)
          go_wp2_with fail
          refine (UI.out _).mono ?_
          rintro e w1 ⟨rfl, hw1⟩
          rw [hw1]
          clear hw1
          have HO := hide (Own.nil wB W.heap.size)
          go_wp2_with fail
          refine (UN.out _).mono ?_
          rintro e w1 ⟨rfl, hw1⟩
          rw [hw1]
          clear hw1
          go_wp2_with fail
          refine (CT.out _).mono ?_
          rintro e w1 ⟨rfl, hw1⟩
          rw [hw1]
          clear hw1
          obtain ⟨pre, hpre⟩ : ∃ p : List Int, p = [] := ⟨_, rfl⟩
          have HPRE := hide hpre
          have HPL : Hid (pre.length ≤ 12) := hide (by rw [hpre]; simp)
          have HS : Hid (Putting W idL pre ids (.slice none 0 0) (.int .i64 0) wB) := hide ⟨0, by omega, rfl, by rw [hpre]; simpa using HO.out, HBW.out⟩
          clear HO HBW hpre
          go_wp2_with fail
          clear p0 p1 p2 p3 p4 p5 p6
          go_loopw [7, 117] (fun v i wr => Putting W idL pre ids v i wr) (fun _ i _ => ids.length - (intOf i).toNat)
          case atStart => exact HS.out
          case round =>
            clear HS
            obtain ⟨k, hk, rfl, hown, hB⟩ := hrel
            have HBW := hide hB
            have HO := hide hown
            have HLEN : Hid ((pre ++ (ids.take k).flatMap idL).length ≤ 4000) := hide (by
              have h1 := flat_len (f := idL) (m := 32) (ids.take k) (fun x hx => by show x.length ≤ 32; rw [(HIDS.out x (List.mem_of_mem_take hx)).1]; exact Nat.le_refl _)
              have h2 : (ids.take k).length ≤ 100 := by simp; omega
              have h3 := HPL.out
              have h4 : ((ids.take k).flatMap idL).length ≤ (ids.take k).length * 32 := h1
              rw [List.length_append]
              omega)
            by_cases hlt : k < ids.length
            · exact absurd hlt (by have := HI0.out; omega)
            · have hk2 : (ids.length : Int) ≤ (k : Int) := by omega
              have htk : ids.take k = ids := List.take_of_length_le (by omega)
              rw [htk] at HO HLEN
              obtain ⟨p0, p1, p2, p3, p4, p5, p6⟩ := HX.out.on hB
              clear hown hB htk
              have HFL : Hid (ids.flatMap idL = ids.flatten) := hide (by show ids.flatMap (fun x => x) = ids.flatten; simp)
              have hw8 : IntKind.u8.wrap code = code := by simp [IntKind.wrap, IntKind.bits, IntKind.signed]; omega
              have HONE : Hid (∀ wx : World, Bytes (wx.alloc (.cells #[.int .u8 code] 5)) (.slice (some ⟨wx.heap.size, 0, none⟩) 1 1) [code]) := hide (fun wx => Bytes.one wx code)
              have hb5 := below_new wr (.cells #[.int .u8 code] 5)
              have HO5 := hide (HO.out.on hb5)
              have HB5 := hide (HBW.out.trans (hb5.mono HBW.out.size))
              clear hb5 HO HBW
              go_wp2_with (at_builtin; refine wp_append_by rfl _ _ rfl W.heap.size _ _ rfl HO5.out _ [code] rfl (HONE.out wr) ?c1 ?c2 ?_)
              case c1 => have h2 := HLEN.out; simp only [List.length_append, List.length_cons, List.length_nil] at *; omega
              case c2 => exact HB5.out.size
              intro v6 w6 hown6 hg6
              have HBW := hide (HB5.out.trans (HO5.out.grew hg6 HB5.out.size))
              have HO : Hid (Own w6 W.heap.size v6 (pre ++ (ids.flatMap idL ++ [code]))) := hide (by (have h6 := hown6); (try simp only [List.append_assoc] at h6); exact h6)
              clear hown6 hg6 HB5 HO5
              go_wp2_with fail
              refine (UT.out _).mono ?_
              rintro e w1 ⟨rfl, hw1⟩
              rw [hw1]
              clear hw1
              have hml : mbL (shp 11) (⟨11, 0, code, ids, tx⟩ : Mg) = pre ++ (ids.flatMap idL ++ [code]) := by show ([] : List Int) ++ (ids.flatten ++ (put 1 code ++ put 0 0)) = _; rw [HPRE.out, HFL.out]; simp [put]; omega
              have hm0 : mbE (shp 11) (⟨11, 0, code, ids, tx⟩ : Mg) = 0 := rfl
              have R := hide (HFIN.out w6 v6 (pre ++ (ids.flatMap idL ++ [code])) (HPM.out.1.trans hm0) ((HPM.out.2 hm0).1.trans HSC.out) ((HPM.out.2 hm0).2.trans hml) HO.out.bytes (HB.out.trans (HBW.out.mono HB.out.size)))
              obtain ⟨fa, fc, hvf, -, -⟩ := HO.out.bytes.form
              obtain ⟨nn, hnn⟩ : ∃ nn, nn = (pre ++ (ids.flatMap idL ++ [code])).length := ⟨_, rfl⟩
              rw [← hnn] at hvf
              clear hnn HO
              subst hvf
              clear hml hm0 HPM HFIN HEX HFL
              go_wp2_with fail
              refine (NM.out _).mono ?_
              rintro e w7 ⟨rfl, hw7⟩
              rw [hw7]
              clear hw7
              go_wp2
              go_ret3
              exact R.out
      · have hbt : bareB tx = false := by simpa using hbt
        rw [hbt] at BA
        have PB := hide (mpA (m := (⟨11, 0, code, ids, tx⟩ : Mg)) (show isKind 11 = true from by decide) (cov_t rfl hbt))
        go_wp2_with fail
        refine (NM.out _).mono ?_
        rintro e w1 ⟨rfl, hw1⟩
        rw [hw1]
        clear hw1
        go_wp2_with fail
        refine (UN.out _).mono ?_
        rintro e w1 ⟨rfl, hw1⟩
        rw [hw1]
        clear hw1
        go_wp2_with fail
        refine (UC.out _).mono ?_
        rintro e w1 ⟨rfl, hw1⟩
        rw [hw1]
        clear hw1
        go_wp2_with fail
        refine (UI.out _).mono ?_
        rintro e w1 ⟨rfl, hw1⟩
        rw [hw1]
        clear hw1
        go_wp2_with fail
        refine (UT.out _).mono ?_
        rintro e w1 ⟨rfl, hw1⟩
        rw [hw1]
        clear hw1
        go_wp2_with fail
        refine (BA.out _ HT.out.2).mono ?_
        rintro e wB ⟨rfl, hbw⟩
        have R := hide (HEX.out wB 2 PB.out (by decide) (HB.out.trans (hbw.mono HB.out.size)))
        clear hbw HFIN BA
        go_wp2
        go_ret3
        exact R.out
    · have hne : ¬ ids = [] := fun e => hi (by rw [e]; rfl)
      have hpos : 0 < ids.length := by omega
      have PB := hide (mpA (m := (⟨11, 0, code, ids, tx⟩ : Mg)) (show isKind 11 = true from by decide) (cov_i rfl (by show 0 < ids.length; omega)))
      have R := hide (HEX.out W 2 (PB.out) (by decide) HB.out)
      clear HFIN
      go_wp2_with fail
      refine (NM.out _).mono ?_
      rintro e w1 ⟨rfl, hw1⟩
      rw [hw1]
      clear hw1
      go_wp2_with fail
      refine (UN.out _).mono ?_
      rintro e w1 ⟨rfl, hw1⟩
      rw [hw1]
      clear hw1
      go_wp2_with fail
      refine (UC.out _).mono ?_
      rintro e w1 ⟨rfl, hw1⟩
      rw [hw1]
      clear hw1
      go_wp2_with fail
      refine (UI.out _).mono ?_
      rintro e w1 ⟨rfl, hw1⟩
      rw [hw1]
      clear hw1
      go_wp2
      go_ret3
      exact R.out
  · have hn' : (n == 0) = false := beq_eq_false_iff_ne.2 hn
    have PB := hide (mpA (m := (⟨11, n, code, ids, tx⟩ : Mg)) (show isKind 11 = true from by decide) (cov_n rfl hn))
    have R := hide (HEX.out W 2 (PB.out) (by decide) HB.out)
    clear HFIN
    go_wp2_with fail
    refine (NM.out _).mono ?_
    rintro e w1 ⟨rfl, hw1⟩
    rw [hw1]
    clear hw1
    go_wp2_with fail
    refine (UN.out _).mono ?_
    rintro e w1 ⟨rfl, hw1⟩
    rw [hw1]
    clear hw1
    go_wp2
    go_ret3
    exact R.out

end Go.Proofs.YtjmifgdjmaelfaaDoor
