/-
  What the document's Put of messages answers, kinds 5, 6, 7.
-/
import Derived.Test.YtjmifgdjmaelfaaDoorRfW
namespace Go.Proofs.YtjmifgdjmaelfaaDoor
open Go.RowKit

set_option maxRecDepth 100000 in
set_option maxHeartbeats 8000000 in
theorem rmput_k5 (n code : Int) (ids : List (List Int)) (tx : Tr) (d iv ov : Value) (w : World) (h : MsgAt w d iv ov (⟨5, n, code, ids, tx⟩ : Mg)) (hok : MgOk (⟨5, n, code, ids, tx⟩ : Mg)) (hil : ids.length ≤ 100) :
    Calls Tryd.prog 22 #[.agg #[.int .i64 5, .int .u64 n, .int .u32 code, d, .int .u32 tx.ver, iv, ov]] w (MputDone w (⟨5, n, code, ids, tx⟩ : Mg)) := by
  obtain ⟨-, ⟨n0, n1⟩, ⟨co0, co1⟩, hids, htx⟩ := hok
  have hids : ∀ x ∈ ids, IdOk x := hids
  have htx : TrOk tx := htx
  simp only at n0 n1 co0 co1
  have NM : Hid (∀ w, Calls Tryd.prog 48 #[.int .i64 5] w fun e w' => e = .returned (.string ⟨#[105, 110, 118]⟩) ∧ w' = w) := hide (fun w => rname_kind w 5 (by decide))
  have UN : Hid (∀ w, Calls Tryd.prog 49 #[.int .i64 5] w fun e w' => e = .returned (.bool false) ∧ w' = w) := hide (fun w => rusesN_kind w 5 (by decide))
  have UC : Hid (∀ w, Calls Tryd.prog 50 #[.int .i64 5] w fun e w' => e = .returned (.bool false) ∧ w' = w) := hide (fun w => rusesCode_kind w 5 (by decide))
  have UI : Hid (∀ w, Calls Tryd.prog 51 #[.int .i64 5] w fun e w' => e = .returned (.bool true) ∧ w' = w) := hide (fun w => rusesIds_kind w 5 (by decide))
  have CT : Hid (∀ w, Calls Tryd.prog 55 #[.int .i64 5] w fun e w' => e = .returned (.bool true) ∧ w' = w) := hide (fun w => rcounted_kind w 5 (by decide))
  have UT : Hid (∀ w, Calls Tryd.prog 52 #[.int .i64 5] w fun e w' => e = .returned (.bool false) ∧ w' = w) := hide (fun w => rusesTx_kind w 5 (by decide))
  have HEX : Hid (∀ (wr : World) (E : Int), mpE (⟨5, n, code, ids, tx⟩ : Mg) = E → E ≠ 0 → Below w.heap.size w wr → MputDone w (⟨5, n, code, ids, tx⟩ : Mg) (.returned (.tuple #[.string ⟨#[]⟩, .slice none 0 0, .int .i64 E])) wr) := hide (rmput_bad w (⟨5, n, code, ids, tx⟩ : Mg))
  have HSC : Hid ((shp 5).cmd = ⟨#[105, 110, 118]⟩) := hide rfl
  have HIDS := hide hids
  have HTX := hide htx
  obtain ⟨sa, sc, ia, ic, oa, oc, rfl, rfl, rfl⟩ := h.form
  simp only at h
  have BA := hide (fun w (h : TxAt w (.slice ia tx.ins.length ic) (.slice oa tx.outs.length oc) tx) => rbare_any tx _ _ w h)
  have hnew := below_new w (.cells #[.int .i64 5, .int .u64 n, .int .u32 code, .slice sa ids.length sc, .int .u32 tx.ver, .slice ia tx.ins.length ic, .slice oa tx.outs.length oc] 51)
  have HT := hide (h.on hnew)
  have HB := hide hnew
  have HX := hide (MBox.new w (.int .i64 5) (.int .u64 n) (.int .u32 code) (.slice sa ids.length sc) (.int .u32 tx.ver) (.slice ia tx.ins.length ic) (.slice oa tx.outs.length oc) 51)
  have HFIN : Hid (∀ (wr : World) (v : Value) (l : List Int), mpE (⟨5, n, code, ids, tx⟩ : Mg) = 0 → mpC (⟨5, n, code, ids, tx⟩ : Mg) = ⟨#[105, 110, 118]⟩ → mpB (⟨5, n, code, ids, tx⟩ : Mg) = l → Bytes wr v l → Below w.heap.size w wr → MputDone w (⟨5, n, code, ids, tx⟩ : Mg) (.returned (.tuple #[.string ⟨#[105, 110, 118]⟩, v, .int .i64 0])) wr) := hide (rmput_good w (⟨5, n, code, ids, tx⟩ : Mg) ⟨#[105, 110, 118]⟩)
  clear hnew h hids htx
  go_enter Tryd.func22, Tryd.ntmps22
  go_upto_region 1 with fail
  generalize w.alloc (.cells #[.int .i64 5, .int .u64 n, .int .u32 code, .slice sa ids.length sc, .int .u32 tx.ver, .slice ia tx.ins.length ic, .slice oa tx.outs.length oc] 51) = W at *
  obtain ⟨p0, p1, p2, p3, p4, p5, p6⟩ := HX.out
  by_cases hn : n = 0
  · subst hn
    by_cases hc : code = 0
    · subst hc
      by_cases hbt : bareB tx = true
      · rw [hbt] at BA
        have HCV : Hid (coversB (shp 5) (⟨5, 0, 0, ids, tx⟩ : Mg) = true) := hide ((coversB_iff (shp 5) (⟨5, 0, 0, ids, tx⟩ : Mg)).2 ⟨fun h => absurd h (by decide), fun _ => rfl, fun _ => rfl, fun _ => (bareB_iff tx).1 hbt⟩)
        go_wp2_with fail
        refine (NM.out _).mono ?_
        rintro e w1 ⟨rfl, hw1⟩
        rw [hw1]
        clear hw1
        go_wp2_with fail
        refine (UN.out _).mono ?_
        rintro e w1 ⟨rfl, hw1⟩
        rw [hw1]
        clear hw1
        go_wp2_with fail
        refine (UC.out _).mono ?_
        rintro e w1 ⟨rfl, hw1⟩
        rw [hw1]
        clear hw1
        go_wp2_with fail
        refine (UI.out _).mono ?_
        rintro e w1 ⟨rfl, hw1⟩
        rw [hw1]
        clear hw1
        go_wp2_with fail
        refine (UT.out _).mono ?_
        rintro e w1 ⟨rfl, hw1⟩
        rw [hw1]
        clear hw1
        go_wp2_with fail
        refine (BA.out _ HT.out.2).mono ?_
        rintro e wB ⟨rfl, hbw⟩
        have HBW := hide hbw
        clear hbw BA
        clear p0 p1 p2 p3 p4 p5 p6
        obtain ⟨p0, p1, p2, p3, p4, p5, p6⟩ := HX.out.on HBW.out
        by_cases h0 : ids.length = 0
        · have HI0 := hide h0
          have R := hide (HEX.out wB 9 (mp9 (m := (⟨5, 0, 0, ids, tx⟩ : Mg)) (show isKind 5 = true from by decide) HCV.out (show 0 < (shp 5).maxIds from by decide) HI0.out) (by decide) (HB.out.trans (HBW.out.mono HB.out.size)))
          clear HFIN
          go_wp2_with fail
          refine (UI.out _).mono ?_
          rintro e w1 ⟨rfl, hw1⟩
          rw [hw1]
          clear hw1
          go_wp2
          go_ret3
          exact R.out
        · have hne : ¬ ids = [] := fun e => h0 (by rw [e]; rfl)
          have hpos : 0 < ids.length := by omega
          have eI0 : ¬ (ids.length : Int) = 0 := by omega
          have eI0' : ((ids.length : Int) == 0) = false := beq_eq_false_iff_ne.2 eI0
          by_cases hmx : 32 < ids.length
          · have eI1 : (32 : Int) < (ids.length : Int) := by omega
            have R := hide (HEX.out wB 5 (mp5 (m := (⟨5, 0, 0, ids, tx⟩ : Mg)) (show isKind 5 = true from by decide) HCV.out hmx) (by decide) (HB.out.trans (HBW.out.mono HB.out.size)))
            clear HFIN
            go_wp2_with fail
            refine (UI.out _).mono ?_
            rintro e w1 ⟨rfl, hw1⟩
            rw [hw1]
            clear hw1
            go_wp2
            go_ret3
            exact R.out
          · have eI1 : ¬ (32 : Int) < (ids.length : Int) := by omega
            have HPM := hide (mp0 (m := (⟨5, 0, 0, ids, tx⟩ : Mg)) (show isKind 5 = true from by decide) HCV.out (fun _ => by show 0 < ids.length; omega) hmx (show ¬ (0 : Int) < 0 from by decide))
            go_wp2_with fail
            refine (UI.out _).mono ?_
            rintro e w1 ⟨rfl, hw1⟩
            rw [hw1]
            clear hw1
            have HO := hide (Own.nil wB W.heap.size)
            go_wp2_with fail
            refine (UN.out _).mono ?_
            rintro e w1 ⟨rfl, hw1⟩
            rw [hw1]
            clear hw1
            go_wp2_with fail
            refine (CT.out _).mono ?_
            rintro e w1 ⟨rfl, hw1⟩
            rw [hw1]
            clear hw1
            have VA := hide (fun wx => rvar_any wx (ids.length : Int) ⟨by omega, by omega⟩)
            have hwl : IntKind.u64.wrap (ids.length : Int) = ids.length := by simp [IntKind.wrap, IntKind.bits, IntKind.signed]; omega
            go_wp2_with fail
            refine (VA.out _).mono ?_
            rintro e wc1 ⟨vc1, rfl, hownn, hbn⟩
            have HO := hide (HO.out.on hbn)
            have HBY := hide hownn.bytes
            have HBW := hide (HBW.out.trans (hbn.mono HBW.out.size))
            clear hownn hbn
            clear p0 p1 p2 p3 p4 p5 p6
            obtain ⟨p0, p1, p2, p3, p4, p5, p6⟩ := HX.out.on HBW.out
            go_wp2_with (at_builtin; refine wp_append_by rfl _ _ rfl W.heap.size _ _ rfl HO.out _ (var (ids.length : Int)) rfl HBY.out ?c1 ?c2 ?_)
            case c1 => (have := var9 (ids.length : Int); simp; omega)
            case c2 => exact HBW.out.size
            intro va1 wa1 hown hg
            have HBW := hide (HBW.out.trans (HO.out.grew hg HBW.out.size))
            have HO := hide hown
            clear hown hg HBY
            clear p0 p1 p2 p3 p4 p5 p6
            obtain ⟨p0, p1, p2, p3, p4, p5, p6⟩ := HX.out.on HBW.out
            obtain ⟨pre, hpre⟩ : ∃ p : List Int, p = [] ++ var (ids.length : Int) := ⟨_, rfl⟩
            have HPRE := hide hpre
            have HPL : Hid (pre.length ≤ 12) := hide (by rw [hpre]; have := var9 (ids.length : Int); simp; omega)
            have HS : Hid (Putting W idL pre ids va1 (.int .i64 0) wa1) := hide ⟨0, by omega, rfl, by rw [hpre]; simpa using HO.out, HBW.out⟩
            clear HO HBW hpre
            go_wp2_with fail
            clear p0 p1 p2 p3 p4 p5 p6
            go_loopw [7, 117] (fun v i wr => Putting W idL pre ids v i wr) (fun _ i _ => ids.length - (intOf i).toNat)
            case atStart => exact HS.out
            case round =>
              clear HS
              obtain ⟨k, hk, rfl, hown, hB⟩ := hrel
              have HBW := hide hB
              have HO := hide hown
              have HLEN : Hid ((pre ++ (ids.take k).flatMap idL).length ≤ 4000) := hide (by
                have h1 := flat_len (f := idL) (m := 32) (ids.take k) (fun x hx => by show x.length ≤ 32; rw [(HIDS.out x (List.mem_of_mem_take hx)).1]; exact Nat.le_refl _)
                have h2 : (ids.take k).length ≤ 100 := by simp; omega
                have h3 := HPL.out
                have h4 : ((ids.take k).flatMap idL).length ≤ (ids.take k).length * 32 := h1
                rw [List.length_append]
                omega)
              by_cases hlt : k < ids.length
              · obtain ⟨x, hx⟩ : ∃ x, ids[k]? = some x := ⟨_, List.getElem?_eq_getElem hlt⟩
                obtain ⟨b, off, rfl, hr⟩ := IdsAt.get (HT.out.1.on hB) hx
                have hxl := (HIDS.out x (List.mem_of_getElem? hx)).1
                have HR := hide hr
                have HN : Hid ((Tryd.prog.info? 36).map (·.size) = some (vals .u8 x).length) := hide (by rw [vals_length, hxl]; exact info_hash)
                have HTH : Hid ((wr.alloc (.cells #[.int .u8 0, .int .u8 0, .int .u8 0, .int .u8 0, .int .u8 0, .int .u8 0, .int .u8 0, .int .u8 0, .int .u8 0, .int .u8 0, .int .u8 0, .int .u8 0, .int .u8 0, .int .u8 0, .int .u8 0, .int .u8 0, .int .u8 0, .int .u8 0, .int .u8 0, .int .u8 0, .int .u8 0, .int .u8 0, .int .u8 0, .int .u8 0, .int .u8 0, .int .u8 0, .int .u8 0, .int .u8 0, .int .u8 0, .int .u8 0, .int .u8 0, .int .u8 0] 36)).there wr.heap.size 0 (vals .u8 x).length) := hide (by rw [vals_length, hxl]; exact there_new wr _ _)
                have H1 := hide (vals_cell .u8 x)
                have hk1 : (k : Int) < (ids.length : Int) := by omega
                have HXE := hide hx
                have HXL := hide hxl
                clear hr hx hxl hown hB
                go_upto_region 23 with (first | (refine wpList_load_mid rfl 36 (.tmp 119) rfl b (off + k * 32) rfl (vals .u8 x) _ HR.out Tryd.underlying36 rfl HN.out ?_) | (refine wp_store_row rfl 36 (.tmp 9) (.tmp 120) rfl wr.heap.size 0 (vals .u8 x) rfl rfl HTH.out HN.out H1.out ?_))
                have HA : Hid (Arr ((wr.alloc (.cells #[.int .u8 0, .int .u8 0, .int .u8 0, .int .u8 0, .int .u8 0, .int .u8 0, .int .u8 0, .int .u8 0, .int .u8 0, .int .u8 0, .int .u8 0, .int .u8 0, .int .u8 0, .int .u8 0, .int .u8 0, .int .u8 0, .int .u8 0, .int .u8 0, .int .u8 0, .int .u8 0, .int .u8 0, .int .u8 0, .int .u8 0, .int .u8 0, .int .u8 0, .int .u8 0, .int .u8 0, .int .u8 0, .int .u8 0, .int .u8 0, .int .u8 0, .int .u8 0] 36)).setCells wr.heap.size 0 (vals .u8 x)) wr.heap.size 0 .u8 x) := hide (Arr.put (by have := HTH.out; rwa [vals_length] at this))
                have hB2 : Below wr.heap.size wr ((wr.alloc (.cells #[.int .u8 0, .int .u8 0, .int .u8 0, .int .u8 0, .int .u8 0, .int .u8 0, .int .u8 0, .int .u8 0, .int .u8 0, .int .u8 0, .int .u8 0, .int .u8 0, .int .u8 0, .int .u8 0, .int .u8 0, .int .u8 0, .int .u8 0, .int .u8 0, .int .u8 0, .int .u8 0, .int .u8 0, .int .u8 0, .int .u8 0, .int .u8 0, .int .u8 0, .int .u8 0, .int .u8 0, .int .u8 0, .int .u8 0, .int .u8 0, .int .u8 0, .int .u8 0] 36)).setCells wr.heap.size 0 (vals .u8 x)) := below_sets (Nat.le_refl _) _ _ _ ((Below.refl _ _).alloc (Nat.le_refl _) _)
                generalize (wr.alloc (.cells #[.int .u8 0, .int .u8 0, .int .u8 0, .int .u8 0, .int .u8 0, .int .u8 0, .int .u8 0, .int .u8 0, .int .u8 0, .int .u8 0, .int .u8 0, .int .u8 0, .int .u8 0, .int .u8 0, .int .u8 0, .int .u8 0, .int .u8 0, .int .u8 0, .int .u8 0, .int .u8 0, .int .u8 0, .int .u8 0, .int .u8 0, .int .u8 0, .int .u8 0, .int .u8 0, .int .u8 0, .int .u8 0, .int .u8 0, .int .u8 0, .int .u8 0, .int .u8 0] 36)).setCells wr.heap.size 0 (vals .u8 x) = W2 at *
                have HOW := hide (HO.out.on hB2)
                have HBW2 : Hid (Below W.heap.size W W2) := hide (HBW.out.trans (hB2.mono HBW.out.size))
                clear hB2 HR HN H1 HTH HO
                generalize wr.heap.size = gh at *
                go_wp2_with (at_builtin; refine wp_append_by rfl _ _ rfl W.heap.size _ _ rfl HOW.out _ x rfl (HA.out.asBytes 32 HXL.out (by omega)) ?c1 ?c2 ?_)
                case c1 => have h1 := HXL.out; have h2 := HLEN.out; simp only [List.length_append] at *; omega
                case c2 => exact HBW2.out.size
                intro v4 w4 hown4 hg4
                have hb4 := HBW2.out.trans (HOW.out.grew hg4 HBW2.out.size)
                have R : Hid (Putting W idL pre ids v4 (.int .i64 ((k + 1 : Nat) : Int)) w4) := hide ⟨k + 1, by omega, rfl, by
                  have h4 := hown4
                  (try simp only [List.append_assoc] at h4)
                  rw [take_flat HXE.out]
                  exact h4, hb4⟩
                clear hown4 hg4 hb4 HOW HBW2 HA
                go_wp2
                go_roundw
                case rel => first | exact R.out | ((repeat apply Exists.intro); exact ⟨R.out, rfl⟩)
                case measure => simp [intOf]; omega
              · have hk2 : (ids.length : Int) ≤ (k : Int) := by omega
                have htk : ids.take k = ids := List.take_of_length_le (by omega)
                rw [htk] at HO HLEN
                obtain ⟨p0, p1, p2, p3, p4, p5, p6⟩ := HX.out.on hB
                clear hown hB htk
                have HFL : Hid (ids.flatMap idL = ids.flatten) := hide (by show ids.flatMap (fun x => x) = ids.flatten; simp)
                go_wp2_with fail
                refine (UT.out _).mono ?_
                rintro e w1 ⟨rfl, hw1⟩
                rw [hw1]
                clear hw1
                have hml : mbL (shp 5) (⟨5, 0, 0, ids, tx⟩ : Mg) = pre ++ ids.flatMap idL := by show var (ids.length : Int) ++ (ids.flatten ++ (put 0 0 ++ put 0 0)) = _; rw [HPRE.out, HFL.out]; simp [put]
                have hm0 : mbE (shp 5) (⟨5, 0, 0, ids, tx⟩ : Mg) = 0 := rfl
                have R := hide (HFIN.out wr u7 (pre ++ ids.flatMap idL) (HPM.out.1.trans hm0) ((HPM.out.2 hm0).1.trans HSC.out) ((HPM.out.2 hm0).2.trans hml) HO.out.bytes (HB.out.trans (HBW.out.mono HB.out.size)))
                obtain ⟨fa, fc, hvf, -, -⟩ := HO.out.bytes.form
                obtain ⟨nn, hnn⟩ : ∃ nn, nn = (pre ++ ids.flatMap idL).length := ⟨_, rfl⟩
                rw [← hnn] at hvf
                clear hnn HO
                subst hvf
                clear hml hm0 HPM HFIN HEX HFL
                go_wp2_with fail
                refine (NM.out _).mono ?_
                rintro e w7 ⟨rfl, hw7⟩
                rw [hw7]
                clear hw7
                go_wp2
                go_ret3
                exact R.out
      · have hbt : bareB tx = false := by simpa using hbt
        rw [hbt] at BA
        have PB := hide (mpA (m := (⟨5, 0, 0, ids, tx⟩ : Mg)) (show isKind 5 = true from by decide) (cov_t rfl hbt))
        go_wp2_with fail
        refine (NM.out _).mono ?_
        rintro e w1 ⟨rfl, hw1⟩
        rw [hw1]
        clear hw1
        go_wp2_with fail
        refine (UN.out _).mono ?_
        rintro e w1 ⟨rfl, hw1⟩
        rw [hw1]
        clear hw1
        go_wp2_with fail
        refine (UC.out _).mono ?_
        rintro e w1 ⟨rfl, hw1⟩
        rw [hw1]
        clear hw1
        go_wp2_with fail
        refine (UI.out _).mono ?_
        rintro e w1 ⟨rfl, hw1⟩
        rw [hw1]
        clear hw1
        go_wp2_with fail
        refine (UT.out _).mono ?_
        rintro e w1 ⟨rfl, hw1⟩
        rw [hw1]
        clear hw1
        go_wp2_with fail
        refine (BA.out _ HT.out.2).mono ?_
        rintro e wB ⟨rfl, hbw⟩
        have R := hide (HEX.out wB 2 PB.out (by decide) (HB.out.trans (hbw.mono HB.out.size)))
        clear hbw HFIN BA
        go_wp2
        go_ret3
        exact R.out
    · have hc' : (code == 0) = false := beq_eq_false_iff_ne.2 hc
      have PB := hide (mpA (m := (⟨5, 0, code, ids, tx⟩ : Mg)) (show isKind 5 = true from by decide) (cov_c rfl hc))
      have R := hide (HEX.out W 2 (PB.out) (by decide) HB.out)
      clear HFIN
      go_wp2_with fail
      refine (NM.out _).mono ?_
      rintro e w1 ⟨rfl, hw1⟩
      rw [hw1]
      clear hw1
      go_wp2_with fail
      refine (UN.out _).mono ?_
      rintro e w1 ⟨rfl, hw1⟩
      rw [hw1]
      clear hw1
      go_wp2_with fail
      refine (UC.out _).mono ?_
      rintro e w1 ⟨rfl, hw1⟩
      rw [hw1]
      clear hw1
      go_wp2
      go_ret3
      exact R.out
  · have hn' : (n == 0) = false := beq_eq_false_iff_ne.2 hn
    have PB := hide (mpA (m := (⟨5, n, code, ids, tx⟩ : Mg)) (show isKind 5 = true from by decide) (cov_n rfl hn))
    have R := hide (HEX.out W 2 (PB.out) (by decide) HB.out)
    clear HFIN
    go_wp2_with fail
    refine (NM.out _).mono ?_
    rintro e w1 ⟨rfl, hw1⟩
    rw [hw1]
    clear hw1
    go_wp2_with fail
    refine (UN.out _).mono ?_
    rintro e w1 ⟨rfl, hw1⟩
    rw [hw1]
    clear hw1
    go_wp2
    go_ret3
    exact R.out
set_option maxRecDepth 100000 in
set_option maxHeartbeats 8000000 in
theorem rmput_k6 (n code : Int) (ids : List (List Int)) (tx : Tr) (d iv ov : Value) (w : World) (h : MsgAt w d iv ov (⟨6, n, code, ids, tx⟩ : Mg)) (hok : MgOk (⟨6, n, code, ids, tx⟩ : Mg)) (hil : ids.length ≤ 100) :
    Calls Tryd.prog 22 #[.agg #[.int .i64 6, .int .u64 n, .int .u32 code, d, .int .u32 tx.ver, iv, ov]] w (MputDone w (⟨6, n, code, ids, tx⟩ : Mg)) := by
  obtain ⟨-, ⟨n0, n1⟩, ⟨co0, co1⟩, hids, htx⟩ := hok
  have hids : ∀ x ∈ ids, IdOk x := hids
  have htx : TrOk tx := htx
  simp only at n0 n1 co0 co1
  have NM : Hid (∀ w, Calls Tryd.prog 48 #[.int .i64 6] w fun e w' => e = .returned (.string ⟨#[103, 101, 116, 100, 97, 116, 97]⟩) ∧ w' = w) := hide (fun w => rname_kind w 6 (by decide))
  have UN : Hid (∀ w, Calls Tryd.prog 49 #[.int .i64 6] w fun e w' => e = .returned (.bool false) ∧ w' = w) := hide (fun w => rusesN_kind w 6 (by decide))
  have UC : Hid (∀ w, Calls Tryd.prog 50 #[.int .i64 6] w fun e w' => e = .returned (.bool false) ∧ w' = w) := hide (fun w => rusesCode_kind w 6 (by decide))
  have UI : Hid (∀ w, Calls Tryd.prog 51 #[.int .i64 6] w fun e w' => e = .returned (.bool true) ∧ w' = w) := hide (fun w => rusesIds_kind w 6 (by decide))
  have CT : Hid (∀ w, Calls Tryd.prog 55 #[.int .i64 6] w fun e w' => e = .returned (.bool true) ∧ w' = w) := hide (fun w => rcounted_kind w 6 (by decide))
  have UT : Hid (∀ w, Calls Tryd.prog 52 #[.int .i64 6] w fun e w' => e = .returned (.bool false) ∧ w' = w) := hide (fun w => rusesTx_kind w 6 (by decide))
  have HEX : Hid (∀ (wr : World) (E : Int), mpE (⟨6, n, code, ids, tx⟩ : Mg) = E → E ≠ 0 → Below w.heap.size w wr → MputDone w (⟨6, n, code, ids, tx⟩ : Mg) (.returned (.tuple #[.string ⟨#[]⟩, .slice none 0 0, .int .i64 E])) wr) := hide (rmput_bad w (⟨6, n, code, ids, tx⟩ : Mg))
  have HSC : Hid ((shp 6).cmd = ⟨#[103, 101, 116, 100, 97, 116, 97]⟩) := hide rfl
  have HIDS := hide hids
  have HTX := hide htx
  obtain ⟨sa, sc, ia, ic, oa, oc, rfl, rfl, rfl⟩ := h.form
  simp only at h
  have BA := hide (fun w (h : TxAt w (.slice ia tx.ins.length ic) (.slice oa tx.outs.length oc) tx) => rbare_any tx _ _ w h)
  have hnew := below_new w (.cells #[.int .i64 6, .int .u64 n, .int .u32 code, .slice sa ids.length sc, .int .u32 tx.ver, .slice ia tx.ins.length ic, .slice oa tx.outs.length oc] 51)
  have HT := hide (h.on hnew)
  have HB := hide hnew
  have HX := hide (MBox.new w (.int .i64 6) (.int .u64 n) (.int .u32 code) (.slice sa ids.length sc) (.int .u32 tx.ver) (.slice ia tx.ins.length ic) (.slice oa tx.outs.length oc) 51)
  have HFIN : Hid (∀ (wr : World) (v : Value) (l : List Int), mpE (⟨6, n, code, ids, tx⟩ : Mg) = 0 → mpC (⟨6, n, code, ids, tx⟩ : Mg) = ⟨#[103, 101, 116, 100, 97, 116, 97]⟩ → mpB (⟨6, n, code, ids, tx⟩ : Mg) = l → Bytes wr v l → Below w.heap.size w wr → MputDone w (⟨6, n, code, ids, tx⟩ : Mg) (.returned (.tuple #[.string ⟨#[103, 101, 116, 100, 97, 116, 97]⟩, v, .int .i64 0])) wr) := hide (rmput_good w (⟨6, n, code, ids, tx⟩ : Mg) ⟨#[103, 101, 116, 100, 97, 116, 97]⟩)
  clear hnew h hids htx
  go_enter Tryd.func22, Tryd.ntmps22
  go_upto_region 1 with fail
  generalize w.alloc (.cells #[.int .i64 6, .int .u64 n, .int .u32 code, .slice sa ids.length sc, .int .u32 tx.ver, .slice ia tx.ins.length ic, .slice oa tx.outs.length oc] 51) = W at *
  obtain ⟨p0, p1, p2, p3, p4, p5, p6⟩ := HX.out
  by_cases hn : n = 0
  · subst hn
    by_cases hc : code = 0
    · subst hc
      by_cases hbt : bareB tx = true
      · rw [hbt] at BA
        have HCV : Hid (coversB (shp 6) (⟨6, 0, 0, ids, tx⟩ : Mg) = true) := hide ((coversB_iff (shp 6) (⟨6, 0, 0, ids, tx⟩ : Mg)).2 ⟨fun h => absurd h (by decide), fun _ => rfl, fun _ => rfl, fun _ => (bareB_iff tx).1 hbt⟩)
        go_wp2_with fail
        refine (NM.out _).mono ?_
        rintro e w1 ⟨rfl, hw1⟩
        rw [hw1]
        clear hw1
        go_wp2_with fail
        refine (UN.out _).mono ?_
        rintro e w1 ⟨rfl, hw1⟩
        rw [hw1]
        clear hw1
        go_wp2_with fail
        refine (UC.out _).mono ?_
        rintro e w1 ⟨rfl, hw1⟩
        rw [hw1]
        clear hw1
        go_wp2_with fail
        refine (UI.out _).mono ?_
        rintro e w1 ⟨rfl, hw1⟩
        rw [hw1]
        clear hw1
        go_wp2_with fail
        refine (UT.out _).mono ?_
        rintro e w1 ⟨rfl, hw1⟩
        rw [hw1]
        clear hw1
        go_wp2_with fail
        refine (BA.out _ HT.out.2).mono ?_
        rintro e wB ⟨rfl, hbw⟩
        have HBW := hide hbw
        clear hbw BA
        clear p0 p1 p2 p3 p4 p5 p6
        obtain ⟨p0, p1, p2, p3, p4, p5, p6⟩ := HX.out.on HBW.out
        by_cases h0 : ids.length = 0
        · have HI0 := hide h0
          have R := hide (HEX.out wB 9 (mp9 (m := (⟨6, 0, 0, ids, tx⟩ : Mg)) (show isKind 6 = true from by decide) HCV.out (show 0 < (shp 6).maxIds from by decide) HI0.out) (by decide) (HB.out.trans (HBW.out.mono HB.out.size)))
          clear HFIN
          go_wp2_with fail
          refine (UI.out _).mono ?_
          rintro e w1 ⟨rfl, hw1⟩
          rw [hw1]
          clear hw1
          go_wp2
          go_ret3
          exact R.out
        · have hne : ¬ ids = [] := fun e => h0 (by rw [e]; rfl)
          have hpos : 0 < ids.length := by omega
          have eI0 : ¬ (ids.length : Int) = 0 := by omega
          have eI0' : ((ids.length : Int) == 0) = false := beq_eq_false_iff_ne.2 eI0
          by_cases hmx : 32 < ids.length
          · have eI1 : (32 : Int) < (ids.length : Int) := by omega
            have R := hide (HEX.out wB 5 (mp5 (m := (⟨6, 0, 0, ids, tx⟩ : Mg)) (show isKind 6 = true from by decide) HCV.out hmx) (by decide) (HB.out.trans (HBW.out.mono HB.out.size)))
            clear HFIN
            go_wp2_with fail
            refine (UI.out _).mono ?_
            rintro e w1 ⟨rfl, hw1⟩
            rw [hw1]
            clear hw1
            go_wp2
            go_ret3
            exact R.out
          · have eI1 : ¬ (32 : Int) < (ids.length : Int) := by omega
            have HPM := hide (mp0 (m := (⟨6, 0, 0, ids, tx⟩ : Mg)) (show isKind 6 = true from by decide) HCV.out (fun _ => by show 0 < ids.length; omega) hmx (show ¬ (0 : Int) < 0 from by decide))
            go_wp2_with fail
            refine (UI.out _).mono ?_
            rintro e w1 ⟨rfl, hw1⟩
            rw [hw1]
            clear hw1
            have HO := hide (Own.nil wB W.heap.size)
            go_wp2_with fail
            refine (UN.out _).mono ?_
            rintro e w1 ⟨rfl, hw1⟩
            rw [hw1]
            clear hw1
            go_wp2_with fail
            refine (CT.out _).mono ?_
            rintro e w1 ⟨rfl, hw1⟩
            rw [hw1]
            clear hw1
            have VA := hide (fun wx => rvar_any wx (ids.length : Int) ⟨by omega, by omega⟩)
            have hwl : IntKind.u64.wrap (ids.length : Int) = ids.length := by simp [IntKind.wrap, IntKind.bits, IntKind.signed]; omega
            go_wp2_with fail
            refine (VA.out _).mono ?_
            rintro e wc1 ⟨vc1, rfl, hownn, hbn⟩
            have HO := hide (HO.out.on hbn)
            have HBY := hide hownn.bytes
            have HBW := hide (HBW.out.trans (hbn.mono HBW.out.size))
            clear hownn hbn
            clear p0 p1 p2 p3 p4 p5 p6
            obtain ⟨p0, p1, p2, p3, p4, p5, p6⟩ := HX.out.on HBW.out
            go_wp2_with (at_builtin; refine wp_append_by rfl _ _ rfl W.heap.size _ _ rfl HO.out _ (var (ids.length : Int)) rfl HBY.out ?c1 ?c2 ?_)
            case c1 => (have := var9 (ids.length : Int); simp; omega)
            case c2 => exact HBW.out.size
            intro va1 wa1 hown hg
            have HBW := hide (HBW.out.trans (HO.out.grew hg HBW.out.size))
            have HO := hide hown
            clear hown hg HBY
            clear p0 p1 p2 p3 p4 p5 p6
            obtain ⟨p0, p1, p2, p3, p4, p5, p6⟩ := HX.out.on HBW.out
            obtain ⟨pre, hpre⟩ : ∃ p : List Int, p = [] ++ var (ids.length : Int) := ⟨_, rfl⟩
            have HPRE := hide hpre
            have HPL : Hid (pre.length ≤ 12) := hide (by rw [hpre]; have := var9 (ids.length : Int); simp; omega)
            have HS : Hid (Putting W idL pre ids va1 (.int .i64 0) wa1) := hide ⟨0, by omega, rfl, by rw [hpre]; simpa using HO.out, HBW.out⟩
            clear HO HBW hpre
            go_wp2_with fail
            clear p0 p1 p2 p3 p4 p5 p6
            go_loopw [7, 117] (fun v i wr => Putting W idL pre ids v i wr) (fun _ i _ => ids.length - (intOf i).toNat)
            case atStart => exact HS.out
            case round =>
              clear HS
              obtain ⟨k, hk, rfl, hown, hB⟩ := hrel
              have HBW := hide hB
              have HO := hide hown
              have HLEN : Hid ((pre ++ (ids.take k).flatMap idL).length ≤ 4000) := hide (by
                have h1 := flat_len (f := idL) (m := 32) (ids.take k) (fun x hx => by show x.length ≤ 32; rw [(HIDS.out x (List.mem_of_mem_take hx)).1]; exact Nat.le_refl _)
                have h2 : (ids.take k).length ≤ 100 := by simp; omega
                have h3 := HPL.out
                have h4 : ((ids.take k).flatMap idL).length ≤ (ids.take k).length * 32 := h1
                rw [List.length_append]
                omega)
              by_cases hlt : k < ids.length
              · obtain ⟨x, hx⟩ : ∃ x, ids[k]? = some x := ⟨_, List.getElem?_eq_getElem hlt⟩
                obtain ⟨b, off, rfl, hr⟩ := IdsAt.get (HT.out.1.on hB) hx
                have hxl := (HIDS.out x (List.mem_of_getElem? hx)).1
                have HR := hide hr
                have HN : Hid ((Tryd.prog.info? 36).map (·.size) = some (vals .u8 x).length) := hide (by rw [vals_length, hxl]; exact info_hash)
                have HTH : Hid ((wr.alloc (.cells #[.int .u8 0, .int .u8 0, .int .u8 0, .int .u8 0, .int .u8 0, .int .u8 0, .int .u8 0, .int .u8 0, .int .u8 0, .int .u8 0, .int .u8 0, .int .u8 0, .int .u8 0, .int .u8 0, .int .u8 0, .int .u8 0, .int .u8 0, .int .u8 0, .int .u8 0, .int .u8 0, .int .u8 0, .int .u8 0, .int .u8 0, .int .u8 0, .int .u8 0, .int .u8 0, .int .u8 0, .int .u8 0, .int .u8 0, .int .u8 0, .int .u8 0, .int .u8 0] 36)).there wr.heap.size 0 (vals .u8 x).length) := hide (by rw [vals_length, hxl]; exact there_new wr _ _)
                have H1 := hide (vals_cell .u8 x)
                have hk1 : (k : Int) < (ids.length : Int) := by omega
                have HXE := hide hx
                have HXL := hide hxl
                clear hr hx hxl hown hB
                go_upto_region 23 with (first | (refine wpList_load_mid rfl 36 (.tmp 119) rfl b (off + k * 32) rfl (vals .u8 x) _ HR.out Tryd.underlying36 rfl HN.out ?_) | (refine wp_store_row rfl 36 (.tmp 9) (.tmp 120) rfl wr.heap.size 0 (vals .u8 x) rfl rfl HTH.out HN.out H1.out ?_))
                have HA : Hid (Arr ((wr.alloc (.cells #[.int .u8 0, .int .u8 0, .int .u8 0, .int .u8 0, .int .u8 0, .int .u8 0, .int .u8 0, .int .u8 0, .int .u8 0, .int .u8 0, .int .u8 0, .int .u8 0, .int .u8 0, .int .u8 0, .int .u8 0, .int .u8 0, .int .u8 0, .int .u8 0, .int .u8 0, .int .u8 0, .int .u8 0, .int .u8 0, .int .u8 0, .int .u8 0, .int .u8 0, .int .u8 0, .int .u8 0, .int .u8 0, .int .u8 0, .int .u8 0, .int .u8 0, .int .u8 0] 36)).setCells wr.heap.size 0 (vals .u8 x)) wr.heap.size 0 .u8 x) := hide (Arr.put (by have := HTH.out; rwa [vals_length] at this))
                have hB2 : Below wr.heap.size wr ((wr.alloc (.cells #[.int .u8 0, .int .u8 0, .int .u8 0, .int .u8 0, .int .u8 0, .int .u8 0, .int .u8 0, .int .u8 0, .int .u8 0, .int .u8 0, .int .u8 0, .int .u8 0, .int .u8 0, .int .u8 0, .int .u8 0, .int .u8 0, .int .u8 0, .int .u8 0, .int .u8 0, .int .u8 0, .int .u8 0, .int .u8 0, .int .u8 0, .int .u8 0, .int .u8 0, .int .u8 0, .int .u8 0, .int .u8 0, .int .u8 0, .int .u8 0, .int .u8 0, .int .u8 0] 36)).setCells wr.heap.size 0 (vals .u8 x)) := below_sets (Nat.le_refl _) _ _ _ ((Below.refl _ _).alloc (Nat.le_refl _) _)
                generalize (wr.alloc (.cells #[.int .u8 0, .int .u8 0, .int .u8 0, .int .u8 0, .int .u8 0, .int .u8 0, .int .u8 0, .int .u8 0, .int .u8 0, .int .u8 0, .int .u8 0, .int .u8 0, .int .u8 0, .int .u8 0, .int .u8 0, .int .u8 0, .int .u8 0, .int .u8 0, .int .u8 0, .int .u8 0, .int .u8 0, .int .u8 0, .int .u8 0, .int .u8 0, .int .u8 0, .int .u8 0, .int .u8 0, .int .u8 0, .int .u8 0, .int .u8 0, .int .u8 0, .int .u8 0] 36)).setCells wr.heap.size 0 (vals .u8 x) = W2 at *
                have HOW := hide (HO.out.on hB2)
                have HBW2 : Hid (Below W.heap.size W W2) := hide (HBW.out.trans (hB2.mono HBW.out.size))
                clear hB2 HR HN H1 HTH HO
                generalize wr.heap.size = gh at *
                go_wp2_with (at_builtin; refine wp_append_by rfl _ _ rfl W.heap.size _ _ rfl HOW.out _ x rfl (HA.out.asBytes 32 HXL.out (by omega)) ?c1 ?c2 ?_)
                case c1 => have h1 := HXL.out; have h2 := HLEN.out; simp only [List.length_append] at *; omega
                case c2 => exact HBW2.out.size
                intro v4 w4 hown4 hg4
                have hb4 := HBW2.out.trans (HOW.out.grew hg4 HBW2.out.size)
                have R : Hid (Putting W idL pre ids v4 (.int .i64 ((k + 1 : Nat) : Int)) w4) := hide ⟨k + 1, by omega, rfl, by
                  have h4 := hown4
                  (try simp only [List.append_assoc] at h4)
                  rw [take_flat HXE.out]
                  exact h4, hb4⟩
                clear hown4 hg4 hb4 HOW HBW2 HA
                go_wp2
                go_roundw
                case rel => first | exact R.out | ((repeat apply Exists.intro); exact ⟨R.out, rfl⟩)
                case measure => simp [intOf]; omega
              · have hk2 : (ids.length : Int) ≤ (k : Int) := by omega
                have htk : ids.take k = ids := List.take_of_length_le (by omega)
                rw [htk] at HO HLEN
                obtain ⟨p0, p1, p2, p3, p4, p5, p6⟩ := HX.out.on hB
                clear hown hB htk
                have HFL : Hid (ids.flatMap idL = ids.flatten) := hide (by show ids.flatMap (fun x => x) = ids.flatten; simp)
                go_wp2_with fail
                refine (UT.out _).mono ?_
                rintro e w1 ⟨rfl, hw1⟩
                rw [hw1]
                clear hw1
                have hml : mbL (shp 6) (⟨6, 0, 0, ids, tx⟩ : Mg) = pre ++ ids.flatMap idL := by show var (ids.length : Int) ++ (ids.flatten ++ (put 0 0 ++ put 0 0)) = _; rw [HPRE.out, HFL.out]; simp [put]
                have hm0 : mbE (shp 6) (⟨6, 0, 0, ids, tx⟩ : Mg) = 0 := rfl
                have R := hide (HFIN.out wr u7 (pre ++ ids.flatMap idL) (HPM.out.1.trans hm0) ((HPM.out.2 hm0).1.trans HSC.out) ((HPM.out.2 hm0).2.trans hml) HO.out.bytes (HB.out.trans (HBW.out.mono HB.out.size)))
                obtain ⟨fa, fc, hvf, -, -⟩ := HO.out.bytes.form
                obtain ⟨nn, hnn⟩ : ∃ nn, nn = (pre ++ ids.flatMap idL).length := ⟨_, rfl⟩
                rw [← hnn] at hvf
                clear hnn HO
                subst hvf
                clear hml hm0 HPM HFIN HEX HFL
                go_wp2_with fail
                refine (NM.out _).mono ?_
                rintro e w7 ⟨rfl, hw7⟩
                rw [hw7]
                clear hw7
                go_wp2
                go_ret3
                exact R.out
      · have hbt : bareB tx = false := by simpa using hbt
        rw [hbt] at BA
        have PB := hide (mpA (m := (⟨6, 0, 0, ids, tx⟩ : Mg)) (show isKind 6 = true from by decide) (cov_t rfl hbt))
        go_wp2_with fail
        refine (NM.out _).mono ?_
        rintro e w1 ⟨rfl, hw1⟩
        rw [hw1]
        clear hw1
        go_wp2_with fail
        refine (UN.out _).mono ?_
        rintro e w1 ⟨rfl, hw1⟩
        rw [hw1]
        clear hw1
        go_wp2_with fail
        refine (UC.out _).mono ?_
        rintro e w1 ⟨rfl, hw1⟩
        rw [hw1]
        clear hw1
        go_wp2_with fail
        refine (UI.out _).mono ?_
        rintro e w1 ⟨rfl, hw1⟩
        rw [hw1]
        clear hw1
        go_wp2_with fail
        refine (UT.out _).mono ?_
        rintro e w1 ⟨rfl, hw1⟩
        rw [hw1]
        clear hw1
        go_wp2_with fail
        refine (BA.out _ HT.out.2).mono ?_
        rintro e wB ⟨rfl, hbw⟩
        have R := hide (HEX.out wB 2 PB.out (by decide) (HB.out.trans (hbw.mono HB.out.size)))
        clear hbw HFIN BA
        go_wp2
        go_ret3
        exact R.out
    · have hc' : (code == 0) = false := beq_eq_false_iff_ne.2 hc
      have PB := hide (mpA (m := (⟨6, 0, code, ids, tx⟩ : Mg)) (show isKind 6 = true from by decide) (cov_c rfl hc))
      have R := hide (HEX.out W 2 (PB.out) (by decide) HB.out)
      clear HFIN
      go_wp2_with fail
      refine (NM.out _).mono ?_
      rintro e w1 ⟨rfl, hw1⟩
      rw [hw1]
      clear hw1
      go_wp2_with fail
      refine (UN.out _).mono ?_
      rintro e w1 ⟨rfl, hw1⟩
      rw [hw1]
      clear hw1
      go_wp2_with fail
      refine (UC.out _).mono ?_
      rintro e w1 ⟨rfl, hw1⟩
      rw [hw1]
      clear hw1
      go_wp2
      go_ret3
      exact R.out
  · have hn' : (n == 0) = false := beq_eq_false_iff_ne.2 hn
    have PB := hide (mpA (m := (⟨6, n, code, ids, tx⟩ : Mg)) (show isKind 6 = true from by decide) (cov_n rfl hn))
    have R := hide (HEX.out W 2 (PB.out) (by decide) HB.out)
    clear HFIN
    go_wp2_with fail
    refine (NM.out _).mono ?_
    rintro e w1 ⟨rfl, hw1⟩
    rw [hw1]
    clear hw1
    go_wp2_with fail
    refine (UN.out _).mono ?_
    rintro e w1 ⟨rfl, hw1⟩
    rw [hw1]
    clear hw1
    go_wp2
    go_ret3
    exact R.out
set_option maxRecDepth 100000 in
set_option maxHeartbeats 8000000 in
theorem rmput_k7 (n code : Int) (ids : List (List Int)) (tx : Tr) (d iv ov : Value) (w : World) (h : MsgAt w d iv ov (⟨7, n, code, ids, tx⟩ : Mg)) (hok : MgOk (⟨7, n, code, ids, tx⟩ : Mg)) (hil : ids.length ≤ 100) :
    Calls Tryd.prog 22 #[.agg #[.int .i64 7, .int .u64 n, .int .u32 code, d, .int .u32 tx.ver, iv, ov]] w (MputDone w (⟨7, n, code, ids, tx⟩ : Mg)) := by
  obtain ⟨-, ⟨n0, n1⟩, ⟨co0, co1⟩, hids, htx⟩ := hok
  have hids : ∀ x ∈ ids, IdOk x := hids
  have htx : TrOk tx := htx
  simp only at n0 n1 co0 co1
  have NM : Hid (∀ w, Calls Tryd.prog 48 #[.int .i64 7] w fun e w' => e = .returned (.string ⟨#[110, 111, 116, 102, 111, 117, 110, 100]⟩) ∧ w' = w) := hide (fun w => rname_kind w 7 (by decide))
  have UN : Hid (∀ w, Calls Tryd.prog 49 #[.int .i64 7] w fun e w' => e = .returned (.bool false) ∧ w' = w) := hide (fun w => rusesN_kind w 7 (by decide))
  have UC : Hid (∀ w, Calls Tryd.prog 50 #[.int .i64 7] w fun e w' => e = .returned (.bool false) ∧ w' = w) := hide (fun w => rusesCode_kind w 7 (by decide))
  have UI : Hid (∀ w, Calls Tryd.prog 51 #[.int .i64 7] w fun e w' => e = .returned (.bool true) ∧ w' = w) := hide (fun w => rusesIds_kind w 7 (by decide))
  have CT : Hid (∀ w, Calls Tryd.prog 55 #[.int .i64 7] w fun e w' => e = .returned (.bool true) ∧ w' = w) := hide (fun w => rcounted_kind w 7 (by decide))
  have UT : Hid (∀ w, Calls Tryd.prog 52 #[.int .i64 7] w fun e w' => e = .returned (.bool false) ∧ w' = w) := hide (fun w => rusesTx_kind w 7 (by decide))
  have HEX : Hid (∀ (wr : World) (E : Int), mpE (⟨7, n, code, ids, tx⟩ : Mg) = E → E ≠ 0 → Below w.heap.size w wr → MputDone w (⟨7, n, code, ids, tx⟩ : Mg) (.returned (.tuple #[.string ⟨#[]⟩, .slice none 0 0, .int .i64 E])) wr) := hide (rmput_bad w (⟨7, n, code, ids, tx⟩ : Mg))
  have HSC : Hid ((shp 7).cmd = ⟨#[110, 111, 116, 102, 111, 117, 110, 100]⟩) := hide rfl
  have HIDS := hide hids
  have HTX := hide htx
  obtain ⟨sa, sc, ia, ic, oa, oc, rfl, rfl, rfl⟩ := h.form
  simp only at h
  have BA := hide (fun w (h : TxAt w (.slice ia tx.ins.length ic) (.slice oa tx.outs.length oc) tx) => rbare_any tx _ _ w h)
  have hnew := below_new w (.cells #[.int .i64 7, .int .u64 n, .int .u32 code, .slice sa ids.length sc, .int .u32 tx.ver, .slice ia tx.ins.length ic, .slice oa tx.outs.length oc] 51)
  have HT := hide (h.on hnew)
  have HB := hide hnew
  have HX := hide (MBox.new w (.int .i64 7) (.int .u64 n) (.int .u32 code) (.slice sa ids.length sc) (.int .u32 tx.ver) (.slice ia tx.ins.length ic) (.slice oa tx.outs.length oc) 51)
  have HFIN : Hid (∀ (wr : World) (v : Value) (l : List Int), mpE (⟨7, n, code, ids, tx⟩ : Mg) = 0 → mpC (⟨7, n, code, ids, tx⟩ : Mg) = ⟨#[110, 111, 116, 102, 111, 117, 110, 100]⟩ → mpB (⟨7, n, code, ids, tx⟩ : Mg) = l → Bytes wr v l → Below w.heap.size w wr → MputDone w (⟨7, n, code, ids, tx⟩ : Mg) (.returned (.tuple #[.string ⟨#[110, 111, 116, 102, 111, 117, 110, 100]⟩, v, .int .i64 0])) wr) := hide (rmput_good w (⟨7, n, code, ids, tx⟩ : Mg) ⟨#[110, 111, 116, 102, 111, 117, 110, 100]⟩)
  clear hnew h hids htx
  go_enter Tryd.func22, Tryd.ntmps22
  go_upto_region 1 with fail
  generalize w.alloc (.cells #[.int .i64 7, .int .u64 n, .int .u32 code, .slice sa ids.length sc, .int .u32 tx.ver, .slice ia tx.ins.length ic, .slice oa tx.outs.length oc] 51) = W at *
  obtain ⟨p0, p1, p2, p3, p4, p5, p6⟩ := HX.out
  by_cases hn : n = 0
  · subst hn
    by_cases hc : code = 0
    · subst hc
      by_cases hbt : bareB tx = true
      · rw [hbt] at BA
        have HCV : Hid (coversB (shp 7) (⟨7, 0, 0, ids, tx⟩ : Mg) = true) := hide ((coversB_iff (shp 7) (⟨7, 0, 0, ids, tx⟩ : Mg)).2 ⟨fun h => absurd h (by decide), fun _ => rfl, fun _ => rfl, fun _ => (bareB_iff tx).1 hbt⟩)
        go_wp2_with fail
        refine (NM.out _).mono ?_
        rintro e w1 ⟨rfl, hw1⟩
        rw [hw1]
        clear hw1
        go_wp2_with fail
        refine (UN.out _).mono ?_
        rintro e w1 ⟨rfl, hw1⟩
        rw [hw1]
        clear hw1
        go_wp2_with fail
        refine (UC.out _).mono ?_
        rintro e w1 ⟨rfl, hw1⟩
        rw [hw1]
        clear hw1
        go_wp2_with fail
        refine (UI.out _).mono ?_
        rintro e w1 ⟨rfl, hw1⟩
        rw [hw1]
        clear hw1
        go_wp2_with fail
        refine (UT.out _).mono ?_
        rintro e w1 ⟨rfl, hw1⟩
        rw [hw1]
        clear hw1
        go_wp2_with fail
        refine (BA.out _ HT.out.2).mono ?_
        rintro e wB ⟨rfl, hbw⟩
        have HBW := hide hbw
        clear hbw BA
        clear p0 p1 p2 p3 p4 p5 p6
        obtain ⟨p0, p1, p2, p3, p4, p5, p6⟩ := HX.out.on HBW.out
        by_cases h0 : ids.length = 0
        · have HI0 := hide h0
          have R := hide (HEX.out wB 9 (mp9 (m := (⟨7, 0, 0, ids, tx⟩ : Mg)) (show isKind 7 = true from by decide) HCV.out (show 0 < (shp 7).maxIds from by decide) HI0.out) (by decide) (HB.out.trans (HBW.out.mono HB.out.size)))
          clear HFIN
          go_wp2_with fail
          refine (UI.out _).mono ?_
          rintro e w1 ⟨rfl, hw1⟩
          rw [hw1]
          clear hw1
          go_wp2
          go_ret3
          exact R.out
        · have hne : ¬ ids = [] := fun e => h0 (by rw [e]; rfl)
          have hpos : 0 < ids.length := by omega
          have eI0 : ¬ (ids.length : Int) = 0 := by omega
          have eI0' : ((ids.length : Int) == 0) = false := beq_eq_false_iff_ne.2 eI0
          by_cases hmx : 32 < ids.length
          · have eI1 : (32 : Int) < (ids.length : Int) := by omega
            have R := hide (HEX.out wB 5 (mp5 (m := (⟨7, 0, 0, ids, tx⟩ : Mg)) (show isKind 7 = true from by decide) HCV.out hmx) (by decide) (HB.out.trans (HBW.out.mono HB.out.size)))
            clear HFIN
            go_wp2_with fail
            refine (UI.out _).mono ?_
            rintro e w1 ⟨rfl, hw1⟩
            rw [hw1]
            clear hw1
            go_wp2
            go_ret3
            exact R.out
          · have eI1 : ¬ (32 : Int) < (ids.length : Int) := by omega
            have HPM := hide (mp0 (m := (⟨7, 0, 0, ids, tx⟩ : Mg)) (show isKind 7 = true from by decide) HCV.out (fun _ => by show 0 < ids.length; omega) hmx (show ¬ (0 : Int) < 0 from by decide))
            go_wp2_with fail
            refine (UI.out _).mono ?_
            rintro e w1 ⟨rfl, hw1⟩
            rw [hw1]
            clear hw1
            have HO := hide (Own.nil wB W.heap.size)
            go_wp2_with fail
            refine (UN.out _).mono ?_
            rintro e w1 ⟨rfl, hw1⟩
            rw [hw1]
            clear hw1
            go_wp2_with fail
            refine (CT.out _).mono ?_
            rintro e w1 ⟨rfl, hw1⟩
            rw [hw1]
            clear hw1
            have VA := hide (fun wx => rvar_any wx (ids.length : Int) ⟨by omega, by omega⟩)
            have hwl : IntKind.u64.wrap (ids.length : Int) = ids.length := by simp [IntKind.wrap, IntKind.bits, IntKind.signed]; omega
            go_wp2_with fail
            refine (VA.out _).mono ?_
            rintro e wc1 ⟨vc1, rfl, hownn, hbn⟩
            have HO := hide (HO.out.on hbn)
            have HBY := hide hownn.bytes
            have HBW := hide (HBW.out.trans (hbn.mono HBW.out.size))
            clear hownn hbn
            clear p0 p1 p2 p3 p4 p5 p6
            obtain ⟨p0, p1, p2, p3, p4, p5, p6⟩ := HX.out.on HBW.out
            go_wp2_with (at_builtin; refine wp_append_by rfl _ _ rfl W.heap.size _ _ rfl HO.out _ (var (ids.length : Int)) rfl HBY.out ?c1 ?c2 ?_)
            case c1 => (have := var9 (ids.length : Int); simp; omega)
            case c2 => exact HBW.out.size
            intro va1 wa1 hown hg
            have HBW := hide (HBW.out.trans (HO.out.grew hg HBW.out.size))
            have HO := hide hown
            clear hown hg HBY
            clear p0 p1 p2 p3 p4 p5 p6
            obtain ⟨p0, p1, p2, p3, p4, p5, p6⟩ := HX.out.on HBW.out
            obtain ⟨pre, hpre⟩ : ∃ p : List Int, p = [] ++ var (ids.length : Int) := ⟨_, rfl⟩
            have HPRE := hide hpre
            have HPL : Hid (pre.length ≤ 12) := hide (by rw [hpre]; have := var9 (ids.length : Int); simp; omega)
            have HS : Hid (Putting W idL pre ids va1 (.int .i64 0) wa1) := hide ⟨0, by omega, rfl, by rw [hpre]; simpa using HO.out, HBW.out⟩
            clear HO HBW hpre
            go_wp2_with fail
            clear p0 p1 p2 p3 p4 p5 p6
            go_loopw [7, 117] (fun v i wr => Putting W idL pre ids v i wr) (fun _ i _ => ids.length - (intOf i).toNat)
            case atStart => exact HS.out
            case round =>
              clear HS
              obtain ⟨k, hk, rfl, hown, hB⟩ := hrel
              have HBW := hide hB
              have HO := hide hown
              have HLEN : Hid ((pre ++ (ids.take k).flatMap idL).length ≤ 4000) := hide (by
                have h1 := flat_len (f := idL) (m := 32) (ids.take k) (fun x hx => by show x.length ≤ 32; rw [(HIDS.out x (List.mem_of_mem_take hx)).1]; exact Nat.le_refl _)
                have h2 : (ids.take k).length ≤ 100 := by simp; omega
                have h3 := HPL.out
                have h4 : ((ids.take k).flatMap idL).length ≤ (ids.take k).length * 32 := h1
                rw [List.length_append]
                omega)
              by_cases hlt : k < ids.length
              · obtain ⟨x, hx⟩ : ∃ x, ids[k]? = some x := ⟨_, List.getElem?_eq_getElem hlt⟩
                obtain ⟨b, off, rfl, hr⟩ := IdsAt.get (HT.out.1.on hB) hx
                have hxl := (HIDS.out x (List.mem_of_getElem? hx)).1
                have HR := hide hr
                have HN : Hid ((Tryd.prog.info? 36).map (·.size) = some (vals .u8 x).length) := hide (by rw [vals_length, hxl]; exact info_hash)
                have HTH : Hid ((wr.alloc (.cells #[.int .u8 0, .int .u8 0, .int .u8 0, .int .u8 0, .int .u8 0, .int .u8 0, .int .u8 0, .int .u8 0, .int .u8 0, .int .u8 0, .int .u8 0, .int .u8 0, .int .u8 0, .int .u8 0, .int .u8 0, .int .u8 0, .int .u8 0, .int .u8 0, .int .u8 0, .int .u8 0, .int .u8 0, .int .u8 0, .int .u8 0, .int .u8 0, .int .u8 0, .int .u8 0, .int .u8 0, .int .u8 0, .int .u8 0, .int .u8 0, .int .u8 0, .int .u8 0] 36)).there wr.heap.size 0 (vals .u8 x).length) := hide (by rw [vals_length, hxl]; exact there_new wr _ _)
                have H1 := hide (vals_cell .u8 x)
                have hk1 : (k : Int) < (ids.length : Int) := by omega
                have HXE := hide hx
                have HXL := hide hxl
                clear hr hx hxl hown hB
                go_upto_region 23 with (first | (refine wpList_load_mid rfl 36 (.tmp 119) rfl b (off + k * 32) rfl (vals .u8 x) _ HR.out Tryd.underlying36 rfl HN.out ?_) | (refine wp_store_row rfl 36 (.tmp 9) (.tmp 120) rfl wr.heap.size 0 (vals .u8 x) rfl rfl HTH.out HN.out H1.out ?_))
                have HA : Hid (Arr ((wr.alloc (.cells #[.int .u8 0, .int .u8 0, .int .u8 0, .int .u8 0, .int .u8 0, .int .u8 0, .int .u8 0, .int .u8 0, .int .u8 0, .int .u8 0, .int .u8 0, .int .u8 0, .int .u8 0, .int .u8 0, .int .u8 0, .int .u8 0, .int .u8 0, .int .u8 0, .int .u8 0, .int .u8 0, .int .u8 0, .int .u8 0, .int .u8 0, .int .u8 0, .int .u8 0, .int .u8 0, .int .u8 0, .int .u8 0, .int .u8 0, .int .u8 0, .int .u8 0, .int .u8 0] 36)).setCells wr.heap.size 0 (vals .u8 x)) wr.heap.size 0 .u8 x) := hide (Arr.put (by have := HTH.out; rwa [vals_length] at this))
                have hB2 : Below wr.heap.size wr ((wr.alloc (.cells #[.int .u8 0, .int .u8 0, .int .u8 0, .int .u8 0, .int .u8 0, .int .u8 0, .int .u8 0, .int .u8 0, .int .u8 0, .int .u8 0, .int .u8 0, .int .u8 0, .int .u8 0, .int .u8 0, .int .u8 0, .int .u8 0, .int .u8 0, .int .u8 0, .int .u8 0, .int .u8 0, .int .u8 0, .int .u8 0, .int .u8 0, .int .u8 0, .int .u8 0, .int .u8 0, .int .u8 0, .int .u8 0, .int .u8 0, .int .u8 0, .int .u8 0, .int .u8 0] 36)).setCells wr.heap.size 0 (vals .u8 x)) := below_sets (Nat.le_refl _) _ _ _ ((Below.refl _ _).alloc (Nat.le_refl _) _)
                generalize (wr.alloc (.cells #[.int .u8 0, .int .u8 0, .int .u8 0, .int .u8 0, .int .u8 0, .int .u8 0, .int .u8 0, .int .u8 0, .int .u8 0, .int .u8 0, .int .u8 0, .int .u8 0, .int .u8 0, .int .u8 0, .int .u8 0, .int .u8 0, .int .u8 0, .int .u8 0, .int .u8 0, .int .u8 0, .int .u8 0, .int .u8 0, .int .u8 0, .int .u8 0, .int .u8 0, .int .u8 0, .int .u8 0, .int .u8 0, .int .u8 0, .int .u8 0, .int .u8 0, .int .u8 0] 36)).setCells wr.heap.size 0 (vals .u8 x) = W2 at *
                have HOW := hide (HO.out.on hB2)
                have HBW2 : Hid (Below W.heap.size W W2) := hide (HBW.out.trans (hB2.mono HBW.out.size))
                clear hB2 HR HN H1 HTH HO
                generalize wr.heap.size = gh at *
                go_wp2_with (at_builtin; refine wp_append_by rfl _ _ rfl W.heap.size _ _ rfl HOW.out _ x rfl (HA.out.asBytes 32 HXL.out (by omega)) ?c1 ?c2 ?_)
                case c1 => have h1 := HXL.out; have h2 := HLEN.out; simp only [List.length_append] at *; omega
                case c2 => exact HBW2.out.size
                intro v4 w4 hown4 hg4
                have hb4 := HBW2.out.trans (HOW.out.grew hg4 HBW2.out.size)
                have R : Hid (Putting W idL pre ids v4 (.int .i64 ((k + 1 : Nat) : Int)) w4) := hide ⟨k + 1, by omega, rfl, by
                  have h4 := hown4
                  (try simp only [List.append_assoc] at h4)
                  rw [take_flat HXE.out]
                  exact h4, hb4⟩
                clear hown4 hg4 hb4 HOW HBW2 HA
                go_wp2
                go_roundw
                case rel => first | exact R.out | ((repeat apply Exists.intro); exact ⟨R.out, rfl⟩)
                case measure => simp [intOf]; omega
              · have hk2 : (ids.length : Int) ≤ (k : Int) := by omega
                have htk : ids.take k = ids := List.take_of_length_le (by omega)
                rw [htk] at HO HLEN
                obtain ⟨p0, p1, p2, p3, p4, p5, p6⟩ := HX.out.on hB
                clear hown hB htk
                have HFL : Hid (ids.flatMap idL = ids.flatten) := hide (by show ids.flatMap (fun x => x) = ids.flatten; simp)
                go_wp2_with fail
                refine (UT.out _).mono ?_
                rintro e w1 ⟨rfl, hw1⟩
                rw [hw1]
                clear hw1
                have hml : mbL (shp 7) (⟨7, 0, 0, ids, tx⟩ : Mg) = pre ++ ids.flatMap idL := by show var (ids.length : Int) ++ (ids.flatten ++ (put 0 0 ++ put 0 0)) = _; rw [HPRE.out, HFL.out]; simp [put]
                have hm0 : mbE (shp 7) (⟨7, 0, 0, ids, tx⟩ : Mg) = 0 := rfl
                have R := hide (HFIN.out wr u7 (pre ++ ids.flatMap idL) (HPM.out.1.trans hm0) ((HPM.out.2 hm0).1.trans HSC.out) ((HPM.out.2 hm0).2.trans hml) HO.out.bytes (HB.out.trans (HBW.out.mono HB.out.size)))
                obtain ⟨fa, fc, hvf, -, -⟩ := HO.out.bytes.form
                obtain ⟨nn, hnn⟩ : ∃ nn, nn = (pre ++ ids.flatMap idL).length := ⟨_, rfl⟩
                rw [← hnn] at hvf
                clear hnn HO
                subst hvf
                clear hml hm0 HPM HFIN HEX HFL
                go_wp2_with fail
                refine (NM.out _).mono ?_
                rintro e w7 ⟨rfl, hw7⟩
                rw [hw7]
                clear hw7
                go_wp2
                go_ret3
                exact R.out
      · have hbt : bareB tx = false := by simpa using hbt
        rw [hbt] at BA
        have PB := hide (mpA (m := (⟨7, 0, 0, ids, tx⟩ : Mg)) (show isKind 7 = true from by decide) (cov_t rfl hbt))
        go_wp2_with fail
        refine (NM.out _).mono ?_
        rintro e w1 ⟨rfl, hw1⟩
        rw [hw1]
        clear hw1
        go_wp2_with fail
        refine (UN.out _).mono ?_
        rintro e w1 ⟨rfl, hw1⟩
        rw [hw1]
        clear hw1
        go_wp2_with fail
        refine (UC.out _).mono ?_
        rintro e w1 ⟨rfl, hw1⟩
        rw [hw1]
        clear hw1
        go_wp2_with fail
        refine (UI.out _).mono ?_
        rintro e w1 ⟨rfl, hw1⟩
        rw [hw1]
        clear hw1
        go_wp2_with fail
        refine (UT.out _).mono ?_
        rintro e w1 ⟨rfl, hw1⟩
        rw [hw1]
        clear hw1
        go_wp2_with fail
        refine (BA.out _ HT.out.2).mono ?_
        rintro e wB ⟨rfl, hbw⟩
        have R := hide (HEX.out wB 2 PB.out (by decide) (HB.out.trans (hbw.mono HB.out.size)))
        clear hbw HFIN BA
        go_wp2
        go_ret3
        exact R.out
    · have hc' : (code == 0) = false := beq_eq_false_iff_ne.2 hc
      have PB := hide (mpA (m := (⟨7, 0, code, ids, tx⟩ : Mg)) (show isKind 7 = true from by decide) (cov_c rfl hc))
      have R := hide (HEX.out W 2 (PB.out) (by decide) HB.out)
      clear HFIN
      go_wp2_with fail
      refine (NM.out _).mono ?_
      rintro e w1 ⟨rfl, hw1⟩
      rw [hw1]
      clear hw1
      go_wp2_with fail
      refine (UN.out _).mono ?_
      rintro e w1 ⟨rfl, hw1⟩
      rw [hw1]
      clear hw1
      go_wp2_with fail
      refine (UC.out _).mono ?_
      rintro e w1 ⟨rfl, hw1⟩
      rw [hw1]
      clear hw1
      go_wp2
      go_ret3
      exact R.out
  · have hn' : (n == 0) = false := beq_eq_false_iff_ne.2 hn
    have PB := hide (mpA (m := (⟨7, n, code, ids, tx⟩ : Mg)) (show isKind 7 = true from by decide) (cov_n rfl hn))
    have R := hide (HEX.out W 2 (PB.out) (by decide) HB.out)
    clear HFIN
    go_wp2_with fail
    refine (NM.out _).mono ?_
    rintro e w1 ⟨rfl, hw1⟩
    rw [hw1]
    clear hw1
    go_wp2_with fail
    refine (UN.out _).mono ?_
    rintro e w1 ⟨rfl, hw1⟩
    rw [hw1]
    clear hw1
    go_wp2
    go_ret3
    exact R.out

end Go.Proofs.YtjmifgdjmaelfaaDoor
