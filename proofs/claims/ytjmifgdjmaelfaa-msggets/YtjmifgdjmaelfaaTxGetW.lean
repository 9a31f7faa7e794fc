/-
  What the document's Get of a transaction answers at this program: the walk.
-/
import Derived.Test.YtjmifgdjmaelfaaTxGetD
namespace Go.Proofs.Ytjmifgdjmaelfaa
open Go.RowKit

theorem rget_wide (l : List Int) (v : Value) (w : World) (hv : Bytes w v l) (hl : AllB l) (hw : wideB l.length = true) :
    Calls Try.prog 23 #[v] w fun e w' => e = .returned (.tuple #[.int .u64 (num l), .int .i64 0]) ∧ w' = w := by
  have := rget_any l v w hv hl
  unfold getX getE at this
  rw [if_pos hw, if_pos hw] at this
  exact this

set_option maxRecDepth 100000 in
set_option maxHeartbeats 4000000 in
theorem rget7_any (l : List Int) (v : Value) (w : World) (hv : Bytes w v l) (hb : AllB l) (hl : l.length ≤ 900000) :
    Calls Try.prog 8 #[v] w (GetDone w l) := by
  obtain ⟨W1, hW1⟩ : ∃ W1, W1 = w.alloc (.cells #[.int .u32 0, .slice none 0 0, .slice none 0 0] 28) := ⟨_, rfl⟩
  obtain ⟨W2, hW2⟩ : ∃ W2, W2 = W1.alloc (.cells #[.int .u32 0, .slice none 0 0, .slice none 0 0] 28) := ⟨_, rfl⟩
  have s1 : W1.heap.size = w.heap.size + 1 := by rw [hW1]; exact alloc_size _ _
  have b1 : Below w.heap.size w W1 := by rw [hW1]; exact (Below.refl _ _).alloc (Nat.le_refl _) _
  have b2 : Below W1.heap.size W1 W2 := by rw [hW2]; exact (Below.refl _ _).alloc (Nat.le_refl _) _
  have t1 : W1.there w.heap.size 0 3 := by rw [hW1]; exact tx_there w
  have t2 : W2.there w.heap.size 0 3 := there_on t1 b2
  have x2 : TxBox W2 (w.heap.size + 1) 0 (.slice none 0 0) (.slice none 0 0) := by
    rw [← s1, hW2]
    have hn := range_new W1 [.int .u32 0, .slice none 0 0, .slice none 0 0] 28
    have n0 := hn 0 _ rfl
    have n1 := hn 1 _ rfl
    have n2 := hn 2 _ rfl
    simp only [Nat.add_zero, Nat.zero_add] at n0 n1 n2
    exact ⟨n0, n1, n2, tx_there W1⟩
  have s2 : W2.heap.size = w.heap.size + 2 := by rw [hW2, alloc_size, s1]
  have E1 := hide hW1
  have E2 := hide hW2
  have b3 := below_on b1 b2
  clear hW1 hW2 s1 t1 b1 b2
  by_cases h4 : l.length < 4
  · obtain ⟨a, cap, rfl, hc1, hc2⟩ := hv.form
    have R := hide (dget_bad l w W2 4 (gt_short h4) (by decide) b3)
    have HT := hide t2
    have e1 : (l.length : Int) < 4 := by omega
    clear h4 hb hl hv t2 x2 s2 b3
    go_enter Try.func8, Try.ntmps8
    go_upto_region 2 with fail
    rw [← E1.out, ← E2.out]
    clear E1 E2
    go_wp2_with (refine wp_store_row rfl 28 (.tmp 2) (.tmp 22) rfl w.heap.size 0 [.int .u32 0, .slice none 0 0, .slice none 0 0] rfl rfl HT.out info_tx zero_one ?_)
    exact ret_row_tmp2 2 3 4 28 rfl w.heap.size 0 rfl [.int .u32 0, .slice none 0 0, .slice none 0 0] (World.rangeAt_setCells_same _ _ _ _ HT.out) _ Try.underlying28 rfl info_tx _ _ rfl rfl rfl R.out
  · have h4' : 4 ≤ l.length := by omega
    obtain ⟨b, off, cap, rfl, hc1, hc2, -⟩ := hv.lies (by omega)
    obtain ⟨ha, hrun0, hb0⟩ := head_of (some ⟨b, off, none⟩) l.length cap 4 .i64 h4' hc1
    have HR0 := hide hrun0
    have HVB : Hid (∀ wx, Below w.heap.size w wx → Bytes wx (.slice (some ⟨b, off, none⟩) l.length cap) l) := hide (fun wx h => hv.below h)
    have G0 : Hid (Calls Try.prog 23 #[.slice ha 4 cap] W2 fun e w' => e = .returned (.tuple #[.int .u64 (num (l.take 4)), .int .i64 0]) ∧ w' = W2) := hide (rget_wide (l.take 4) _ W2 (hb0 _ _ (HVB.out _ b3)) (hb.take 4) (by rw [List.length_take, Nat.min_eq_left h4']; rfl))
    have C0 : Hid (∀ wx, Below w.heap.size w wx → Calls Try.prog 24 #[.slice (some ⟨b, off, none⟩) l.length cap, .int .i64 4, .int .u64 8] wx (CountAt wx l 4 8)) := hide (fun wx h => rcount7_any l _ wx (HVB.out wx h) hb hl 4 h4' 8 (by omega))
    unfold CountAt at C0
    have HX : 0 ≤ num (l.take 4) ∧ num (l.take 4) < 4294967296 := num_u32 (hb.take 4) (by simp; omega)
    have c1 := countS_all (n := 8) (s := (l.drop 4, 0)) (hb.drop 4)
    have F1 := hide (gt_e1 h4')
    have F2 := hide (fun k hk => gt_e2 h4' (k := k) hk)
    have F3 := hide (gt_e3 h4')
    have F4 := hide (fun k hk => gt_e4 h4' (k := k) hk)
    have F5 := hide (gt_count h4')
    have FA := hide (insS_all (s := (countS 8 (l.drop 4, 0)).2) c1.1)
    have HCL : Hid ((countS 8 (l.drop 4, 0)).1 ≤ 8) := hide c1.2.1
    generalize countS 8 (l.drop 4, 0) = C at *
    obtain ⟨cc, sc⟩ := C
    simp only at *
    generalize num (l.take 4) = X at *
    have hwr : IntKind.u32.wrap X = X := by simp [IntKind.wrap, IntKind.bits, IntKind.signed]; omega
    have HX2 := hide x2
    have HT2 := hide t2
    have S2 := hide s2
    have HB := hide b3
    have HBB := hide hb
    have HLL := hide hl
    have e4 : ¬ (l.length : Int) < 4 := by omega
    clear x2 t2 s2 b3 hv hb HX c1 hrun0 hb0 h4 h4'
    go_enter Try.func8, Try.ntmps8
    go_upto_region 2 with fail
    rw [← E1.out, ← E2.out]
    clear E1 E2
    generalize hg : w.heap.size = g at *
    have HG := hide hg
    clear hg
    go_wp2_with (refine wp_upto rfl (.tmp 24) (.const (.int .i64 4)) rfl _ _ _ rfl rfl HR0.out ?_)
    refine G0.out.mono ?_
    rintro e w0 ⟨rfl, hw0⟩
    rw [hw0]
    clear hw0 G0 HR0
    have c0 := HX2.out.1
    have f0 := there_free0 HX2.out.2.2.2 0 (by omega)
    have HR3 : Hid (DReads g w X [] (W2.setCell ⟨g + 1, 0, none⟩ (.int .u32 X))) := hide ⟨below_set HB.out (by show g ≤ g + 1; omega) _, by rw [size_setCell, S2.out]; exact Nat.le_refl _, there_setC HT2.out _ _, _, HX2.out.ver X, InsOwn.nil _ _⟩
    clear HX2 HT2 S2 HB
    go_upto_region 6 with fail
    clear c0 f0
    generalize W2.setCell ⟨g + 1, 0, none⟩ (.int .u32 X) = W3 at *
    go_wp2_with fail
    refine (C0.out _ HR3.out.bel).mono ?_
    rintro e w4 ⟨nx, rfl, hb4, hok4⟩
    have HR4 := hide (HR3.out.on hb4)
    obtain ⟨sq, ce⟩ := sc
    simp only at *
    clear hb4 HR3 C0
    by_cases hce : ce = 0
    · subst hce
      obtain ⟨hn1, hn2, hn3⟩ := hok4 rfl
      have HS : Hid (DIns g w X l cc (sq, 0) (.int .i64 nx) (.int .i64 0) w4) := hide ⟨0, nx, Nat.zero_le _, rfl, rfl, hn2, hn3, HR4.out⟩
      generalize hsc : (sq, (0 : Int)) = sc at *
      clear hok4 hn1 hn2 hn3 hsc HR4
      go_wp2_with fail
      go_loopw [9, 43] (fun a i wr => DIns g w X l cc sc a i wr) (fun _ i _ => cc - (intOf i).toNat)
      case atStart => exact HS.out
      case round =>
        clear HS
        obtain ⟨k, n, hk, rfl, rfl, hn, hs, hR⟩ := hrel
        have HR := hide hR
        clear hR
        by_cases hlt : k < cc
        · have hk1 : (k : Int) < (cc : Int) := by omega
          have hk8 : k < 8 := by have := HCL.out; omega
          by_cases h36 : l.length - n < 36
          · have hE : gtE l = 4 := by
              have h1 : (insS (k + 1) sc).2.2 = 4 := by
                show (inS (insS k sc).2).2.2 = 4
                rw [hs]
                exact in_short (by rw [List.length_drop]; exact h36)
              rw [F2.out (k + 1) hlt (by rw [h1]; decide), h1]
            have R := dget_bad l w wr 4 hE (by decide) (by rw [HG.out]; exact HR.out.bel)
            rw [HG.out] at R
            have R := hide R
            have e36 : (l.length : Int) - (n : Int) < 36 := by omega
            clear hE F1 F2 F3 F4 F5
            go_wp2_with (refine wp_store_row rfl 28 (.tmp 2) (.tmp 50) rfl g 0 [.int .u32 0, .slice none 0 0, .slice none 0 0] rfl rfl HR.out.res info_tx zero_one ?_)
            exact ret_row_tmp2 2 3 4 28 rfl g 0 rfl [.int .u32 0, .slice none 0 0, .slice none 0 0] (World.rangeAt_setCells_same _ _ _ _ HR.out.res) _ Try.underlying28 rfl info_tx _ _ rfl rfl rfl R.out
          · have hle : n + 36 ≤ l.length := by omega
            have e36 : ¬ (l.length : Int) - (n : Int) < 36 := by omega
            obtain ⟨o1, q1, hrun1, hb1⟩ := cut7 b off l.length cap (n + 32) 4 ((n : Int) + 32) ((n : Int) + 36) (by omega) (by omega) (by omega) hc1
            obtain ⟨o2, q2, hrun2, hb2⟩ := cut7 b off l.length cap n 32 (n : Int) ((n : Int) + 32) rfl (by omega) (by omega) hc1
            have hv0 := HVB.out wr HR.out.bel
            have len1 : ((l.drop (n + 32)).take 4).length = 4 := by simp; omega
            have len2 : ((l.drop n).take 32).length = 32 := by simp; omega
            have G1 := hide (rget_wide _ _ wr (hb1 _ _ hv0) ((HBB.out.drop _).take _) (by rw [len1]; rfl))
            have H1 := hide (rhash7_any _ _ wr (hb2 _ _ hv0) len2)
            have C1 : Hid (∀ wx, Below g w wx → Calls Try.prog 24 #[.slice (some ⟨b, off, none⟩) l.length cap, .int .i64 ((n : Int) + 36), .int .u64 64] wx (CountAt wx l (n + 36) 64)) := hide (fun wx h => rcount7_any l _ wx (HVB.out wx h) HBB.out HLL.out (n + 36) hle 64 (by omega))
            unfold CountAt at C1
            have hNX : 0 ≤ num ((l.drop (n + 32)).take 4) ∧ num ((l.drop (n + 32)).take 4) < 4294967296 := num_u32 ((HBB.out.drop _).take _) (by rw [len1]; exact Nat.le_refl _)
            have HIN : Hid (inS (insS k sc).2 = (⟨(l.drop n).take 32, num ((l.drop (n + 32)).take 4), (takeS (countS 64 (l.drop (n + 36), 0)).1 (countS 64 (l.drop (n + 36), 0)).2).1⟩, (takeS (countS 64 (l.drop (n + 36), 0)).1 (countS 64 (l.drop (n + 36), 0)).2).2)) := hide (by
              rw [hs, in_full (by rw [List.length_drop]; omega), List.drop_drop, List.drop_drop])
            have HDL : Hid ((countS 64 (l.drop (n + 36), 0)).1 ≤ 64) := hide (countS_all (n := 64) (s := (l.drop (n + 36), 0)) (HBB.out.drop _)).2.1
            have HTX := hide len2
            have HR1 := hide hrun1
            have HR2 := hide hrun2
            generalize countS 64 (l.drop (n + 36), 0) = D at *
            obtain ⟨dd, dq, de⟩ := D
            generalize (l.drop n).take 32 = tx at *
            generalize num ((l.drop (n + 32)).take 4) = NX at *
            simp only at *
            have hwn : IntKind.u32.wrap NX = NX := by simp [IntKind.wrap, IntKind.bits, IntKind.signed]; omega
            clear hrun1 hrun2 hb1 hb2 hv0 len1 len2 hNX h36
            go_wp2_with (refine wp_mid rfl (.tmp 52) (.tmp 54) (.tmp 56) rfl _ _ _ _ rfl rfl rfl HR1.out ?_)
            refine G1.out.mono ?_
            rintro e w' ⟨rfl, hw'⟩
            rw [hw']
            clear hw' G1 HR1
            go_wp2_with (refine wp_mid rfl (.tmp 61) (.tmp 62) (.tmp 64) rfl _ _ _ _ rfl rfl rfl HR2.out ?_)
            refine H1.out.mono ?_
            rintro e w5 ⟨rfl, hb5⟩
            have HR5 := hide (HR.out.on hb5)
            clear hb5 H1 HR2 HR
            have hlv : (vals .u8 tx).length = 32 := by rw [vals_length, HTX.out]
            have hbuilt := pt_built tx NX HTX.out
            have hsz := pt_size tx HTX.out
            have HLP : Hid ((Try.prog.info? 46).map (·.size) = some (ptC tx NX).length) := hide (by rw [ptC_length _ HTX.out]; exact info_pt)
            have HTP : Hid ((w5.alloc (.cells #[.int .u8 0, .int .u8 0, .int .u8 0, .int .u8 0, .int .u8 0, .int .u8 0, .int .u8 0, .int .u8 0, .int .u8 0, .int .u8 0, .int .u8 0, .int .u8 0, .int .u8 0, .int .u8 0, .int .u8 0, .int .u8 0, .int .u8 0, .int .u8 0, .int .u8 0, .int .u8 0, .int .u8 0, .int .u8 0, .int .u8 0, .int .u8 0, .int .u8 0, .int .u8 0, .int .u8 0, .int .u8 0, .int .u8 0, .int .u8 0, .int .u8 0, .int .u8 0, .int .u32 0] 46)).there w5.heap.size 0 (ptC tx NX).length) := hide (by rw [ptC_length _ HTX.out]; exact pt_there w5)
            go_upto_region 15 with (refine wp_store_row rfl 46 (.tmp 13) (.tmp 69) rfl w5.heap.size 0 (ptC tx NX) rfl rfl HTP.out HLP.out (ptC_one _ _) ?_)
            have hW : ((w5.alloc (.cells #[.int .u8 0, .int .u8 0, .int .u8 0, .int .u8 0, .int .u8 0, .int .u8 0, .int .u8 0, .int .u8 0, .int .u8 0, .int .u8 0, .int .u8 0, .int .u8 0, .int .u8 0, .int .u8 0, .int .u8 0, .int .u8 0, .int .u8 0, .int .u8 0, .int .u8 0, .int .u8 0, .int .u8 0, .int .u8 0, .int .u8 0, .int .u8 0, .int .u8 0, .int .u8 0, .int .u8 0, .int .u8 0, .int .u8 0, .int .u8 0, .int .u8 0, .int .u8 0, .int .u32 0] 46)).setCells w5.heap.size 0 (ptC tx NX)).rangeAt w5.heap.size 0 (ptC tx NX) := World.rangeAt_setCells_same _ _ _ _ HTP.out
            have hB6 : Below w5.heap.size w5 ((w5.alloc (.cells #[.int .u8 0, .int .u8 0, .int .u8 0, .int .u8 0, .int .u8 0, .int .u8 0, .int .u8 0, .int .u8 0, .int .u8 0, .int .u8 0, .int .u8 0, .int .u8 0, .int .u8 0, .int .u8 0, .int .u8 0, .int .u8 0, .int .u8 0, .int .u8 0, .int .u8 0, .int .u8 0, .int .u8 0, .int .u8 0, .int .u8 0, .int .u8 0, .int .u8 0, .int .u8 0, .int .u8 0, .int .u8 0, .int .u8 0, .int .u8 0, .int .u8 0, .int .u8 0, .int .u32 0] 46)).setCells w5.heap.size 0 (ptC tx NX)) := below_sets (Nat.le_refl _) _ _ _ ((Below.refl _ _).alloc (Nat.le_refl _) _)
            generalize (w5.alloc (.cells #[.int .u8 0, .int .u8 0, .int .u8 0, .int .u8 0, .int .u8 0, .int .u8 0, .int .u8 0, .int .u8 0, .int .u8 0, .int .u8 0, .int .u8 0, .int .u8 0, .int .u8 0, .int .u8 0, .int .u8 0, .int .u8 0, .int .u8 0, .int .u8 0, .int .u8 0, .int .u8 0, .int .u8 0, .int .u8 0, .int .u8 0, .int .u8 0, .int .u8 0, .int .u8 0, .int .u8 0, .int .u8 0, .int .u8 0, .int .u8 0, .int .u8 0, .int .u8 0, .int .u32 0] 46)).setCells w5.heap.size 0 (ptC tx NX) = W6 at *
            have HP6 := hide hW
            have HR6 := hide (HR5.out.on hB6)
            have HGP : Hid (g + 2 ≤ w5.heap.size) := hide HR5.out.size
            have HAP5 : Hid (∀ iv, W6.cell? ⟨g + 1, 1, none⟩ = some iv → iv.ownBlock ≠ some w5.heap.size) := hide (fun iv h e => by
              obtain ⟨iv0, h1, h2⟩ := HR5.out.box
              rw [hB6.cell (show g + 1 < w5.heap.size from Nat.lt_of_lt_of_le (Nat.lt_succ_self _) HR5.out.size), h1.2.1] at h
              cases h
              obtain ⟨D, -, h3, -⟩ := h2
              have := h3.lt _ e
              omega)
            clear hW hB6 HTP hlv hbuilt hsz HR5
            generalize w5.heap.size = gp at *
            go_wp2_with fail
            refine (C1.out _ HR6.out.bel).mono ?_
            rintro e w7 ⟨nx2, rfl, hb7, hok7⟩
            have HR7 := hide (HR6.out.on hb7)
            have HAP : Hid (∀ iv, w7.cell? ⟨g + 1, 1, none⟩ = some iv → iv.ownBlock ≠ some gp) := hide (fun iv h => HAP5.out iv (by
              rw [hb7.cell (show g + 1 < W6.heap.size from Nat.lt_of_lt_of_le (Nat.lt_succ_self _) HR6.out.size)] at h
              exact h))
            have HP7 := hide (range_on HP6.out hb7)
            clear hb7 HR6 HP6 C1 HAP5
            by_cases hde : de = 0
            · subst hde
              obtain ⟨hm1, hm2, hm3⟩ := hok7 rfl
              obtain rfl : dq = l.drop nx2 := by simpa using hm3
              clear hok7 hm3
              by_cases hsz : l.length - nx2 < dd
              · have hE : gtE l = 4 := by
                  have h1 : (insS (k + 1) sc).2.2 = 4 := by
                    show (inS (insS k sc).2).2.2 = 4
                    rw [HIN.out, takeS_short (by rw [List.length_drop]; exact hsz)]
                  rw [F2.out (k + 1) hlt (by rw [h1]; decide), h1]
                have R := dget_bad l w w7 4 hE (by decide) (by rw [HG.out]; exact HR7.out.bel)
                rw [HG.out] at R
                have R := hide R
                have e7 : (l.length : Int) - (nx2 : Int) < (dd : Int) := by omega
                clear hE F1 F2 F3 F4 F5 HIN
                go_wp2_with (refine wp_store_row rfl 28 (.tmp 2) (.tmp 88) rfl g 0 [.int .u32 0, .slice none 0 0, .slice none 0 0] rfl rfl HR7.out.res info_tx zero_one ?_)
                exact ret_row_tmp2 2 3 4 28 rfl g 0 rfl [.int .u32 0, .slice none 0 0, .slice none 0 0] (World.rangeAt_setCells_same _ _ _ _ HR7.out.res) _ Try.underlying28 rfl info_tx _ _ rfl rfl rfl R.out
              · have e7 : ¬ (l.length : Int) - (nx2 : Int) < (dd : Int) := by omega
                have hkl : ((l.drop nx2).take dd).length = dd := by simp; omega
                obtain ⟨off3, h3, e3⟩ : ∃ off3, (if cap = nx2 then (some ⟨b, off, none⟩ : Option Addr) else some ⟨b, off + nx2, none⟩) = some ⟨b, off3, none⟩ ∧ (if cap = nx2 then (some ⟨b, off, none⟩ : Option Addr) else (some ⟨b, off, none⟩ : Option Addr).map (·.add nx2)) = some ⟨b, off3, none⟩ := by
                  by_cases hc : cap = nx2
                  · exact ⟨off, if_pos hc, if_pos hc⟩
                  · refine ⟨off + nx2, if_neg hc, ?_⟩
                    rw [if_neg hc, Option.map_some, Addr.add_mid]
                have hvk : Bytes w7 (.slice (some ⟨b, off3, none⟩) dd (cap - nx2)) ((l.drop nx2).take dd) := by
                  have := ((HVB.out w7 HR7.out.bel).drop nx2 (by omega)).take dd (by omega)
                  rw [e3] at this
                  exact this
                clear e3
                have hin : inS (insS k sc).2 = (⟨tx, NX, (l.drop nx2).take dd⟩, (l.drop (nx2 + dd), 0)) := by
                  rw [HIN.out, takeS_full (by rw [List.length_drop]; omega), List.drop_drop]
                have HIN2 := hide hin
                generalize (l.drop nx2).take dd = key at *
                have hL : (insS k sc).1.length ≤ 8 := by have := (FA.out k).1; have := HCL.out; omega
                obtain ⟨iv, v9, w9, v11, w11, ⟨ia, im, ic, rfl⟩, ⟨ka, kn, kc, rfl⟩, ⟨va, vn, vc, rfl⟩, c0, c8, c9, c10, c11, f11, r0, r8, r9, r10, r11, r12, hrun9, hrun11, hR12⟩ := dins_round HR7.out hL gp ⟨tx, NX, key⟩ HP7.out HTX.out HGP.out b off3 (cap - nx2) dd hkl hvk HDL.out HAP.out
                simp only at r0 r8 r9 r10 r11 r12
                have R : Hid (DIns g w X l cc sc (.int .i64 ((nx2 : Int) + (dd : Int))) (.int .i64 ((k + 1 : Nat) : Int)) (w11.setCell ⟨g + 1, 1, none⟩ (.slice va vn vc))) := hide ⟨k + 1, nx2 + dd, hlt, rfl, rfl, by omega, by show (inS (insS k sc).2).2 = _; rw [HIN2.out], by show DReads g w X ((insS k sc).1 ++ [(inS (insS k sc).2).1]) _; rw [HIN2.out]; exact hR12⟩
                have hlp : (ptC tx NX).length = 33 := ptC_length _ HTX.out
                have hs1 := in_size NX HTX.out
                have hs2 := in_built ⟨tx, NX, key⟩ (.slice ka kn kc) HTX.out
                simp only at hs2
                have hlen : (inC (⟨tx, NX, key⟩, .slice ka kn kc)).length = 34 := inC_length HTX.out
                have hone := fold_whole (inC (⟨tx, NX, key⟩, .slice ka kn kc)) #[.int .u8 0, .int .u8 0, .int .u8 0, .int .u8 0, .int .u8 0, .int .u8 0, .int .u8 0, .int .u8 0, .int .u8 0, .int .u8 0, .int .u8 0, .int .u8 0, .int .u8 0, .int .u8 0, .int .u8 0, .int .u8 0, .int .u8 0, .int .u8 0, .int .u8 0, .int .u8 0, .int .u8 0, .int .u8 0, .int .u8 0, .int .u8 0, .int .u8 0, .int .u8 0, .int .u8 0, .int .u8 0, .int .u8 0, .int .u8 0, .int .u8 0, .int .u8 0, .int .u32 0, .slice none 0 0] hlen.symm
                have hwd : IntKind.i64.wrap ((nx2 : Int) + (dd : Int)) = (nx2 : Int) + (dd : Int) := by have := HDL.out; simp [IntKind.wrap, IntKind.bits, IntKind.signed]; omega
                have htd : ((nx2 : Int) + (dd : Int)).toNat = nx2 + dd := by omega
                have hz : (0 : Int) ≤ (nx2 : Int) + (dd : Int) := by omega
                have hmx : (nx2 : Int) ≤ max ((nx2 : Int) + (dd : Int)) 0 := by omega
                have hcd : (nx2 : Int) + (dd : Int) ≤ (cap : Int) := by omega
                clear hkl hvk hin hL hR12 hsz HIN HIN2 HR7 HP7
                go_upto_region 20 with fail
                refine wp_region_held_drew (S := fun wx => wx.rangeAt gp 0 (ptC tx NX)) (by kernel_rfl) r0 (fun hHeld => ?_)
                refine wpAnyH_take (i := 0) (oi := { dst := some 89, op := Op.fieldAddr 28 (Operand.tmp 5) 1, type := 0, pos := "ref.go:94", after := #[], guard := none }) (v := .pointer (some ⟨g + 1, 1, none⟩)) rfl (by kernel_rfl) (by kernel_rfl) (by kernel_rfl) (fun _ _ _ h => h) (Or.inl ⟨by rfl, fun w _ => by go_simp⟩) (by assumption) ?_
                simp only [Act.put, List.setIfInBounds_toArray, List.set_cons_zero, List.set_cons_succ]
                refine wpAnyH_take (i := 2) (oi := { dst := some 91, op := Op.load 46 (Operand.tmp 13), type := 46, pos := "ref.go:94", after := #[], guard := none }) (v := .agg (ptC tx NX).toArray) rfl (by kernel_rfl) (by kernel_rfl) (by kernel_rfl) (fun _ _ _ h => h) (yieldsIf_load_mid (by rfl) 46 (.tmp 13) rfl gp 0 rfl (ptC tx NX) _ (fun w h => h) Try.underlying46 rfl HLP.out) (by assumption) ?_
                simp only [Act.put, List.setIfInBounds_toArray, List.set_cons_zero, List.set_cons_succ]
                refine wpAnyH_take (i := 4) (oi := { dst := some 93, op := Op.move (Operand.tmp 0), type := 22, pos := "ref.go:94", after := #[], guard := none }) (v := .slice (some ⟨b, off, none⟩) l.length cap) rfl (by kernel_rfl) (by kernel_rfl) (by kernel_rfl) (fun _ _ _ h => h) (Or.inl ⟨by rfl, fun w _ => by go_simp⟩) (by assumption) ?_
                simp only [Act.put, List.setIfInBounds_toArray, List.set_cons_zero, List.set_cons_succ]
                refine wpAnyH_take (i := 5) (oi := { dst := some 94, op := Op.move (Operand.tmp 15), type := 3, pos := "ref.go:94", after := #[], guard := none }) (v := .int .i64 nx2) rfl (by kernel_rfl) (by kernel_rfl) (by kernel_rfl) (fun _ _ _ h => h) (Or.inl ⟨by rfl, fun w _ => by go_simp⟩) (by assumption) ?_
                simp only [Act.put, List.setIfInBounds_toArray, List.set_cons_zero, List.set_cons_succ]
                refine wpAnyH_take (i := 6) (oi := { dst := some 95, op := Op.move (Operand.tmp 15), type := 3, pos := "ref.go:94", after := #[], guard := none }) (v := .int .i64 nx2) rfl (by kernel_rfl) (by kernel_rfl) (by kernel_rfl) (fun _ _ _ h => h) (Or.inl ⟨by rfl, fun w _ => by go_simp⟩) (by assumption) ?_
                simp only [Act.put, List.setIfInBounds_toArray, List.set_cons_zero, List.set_cons_succ]
                refine wpAnyH_take (i := 7) (oi := { dst := some 96, op := Op.move (Operand.tmp 14), type := 3, pos := "ref.go:94", after := #[], guard := none }) (v := .int .i64 dd) rfl (by kernel_rfl) (by kernel_rfl) (by kernel_rfl) (fun _ _ _ h => h) (Or.inl ⟨by rfl, fun w _ => by go_simp⟩) (by assumption) ?_
                simp only [Act.put, List.setIfInBounds_toArray, List.set_cons_zero, List.set_cons_succ]
                refine wpAnyH_take (i := 8) (oi := { dst := some 97, op := Op.binOp BinOp.add 3 (Operand.tmp 95) (Operand.tmp 96) 3, type := 3, pos := "ref.go:94", after := #[{ on := 6, ground := Ground.data }, { on := 7, ground := Ground.data }], guard := none }) (v := .int .i64 ((nx2 : Int) + (dd : Int))) rfl (by kernel_rfl) (by kernel_rfl) (by kernel_rfl) (fun _ _ _ h => h) (Or.inl ⟨by rfl, fun w _ => by go_simp⟩) (by assumption) ?_
                simp only [Act.put, List.setIfInBounds_toArray, List.set_cons_zero, List.set_cons_succ]
                refine wpAnyH_take (i := 9) (oi := { dst := some 98, op := Op.slice 22 (Operand.tmp 93) (some (Operand.tmp 94)) (some (Operand.tmp 97)) none, type := 22, pos := "ref.go:94", after := #[{ on := 4, ground := Ground.data }, { on := 5, ground := Ground.data }, { on := 8, ground := Ground.data }], guard := none }) (v := .slice (some ⟨b, off3, none⟩) dd (cap - nx2)) rfl (by kernel_rfl) (by kernel_rfl) (by kernel_rfl) (fun _ _ _ h => h) (Or.inl ⟨by rfl, fun w _ => by go_simp⟩) (by assumption) ?_
                simp only [Act.put, List.setIfInBounds_toArray, List.set_cons_zero, List.set_cons_succ]
                refine wpAnyH_ready (rs := [1, 3]) (by kernel_rfl) (by simp) (AllReadyH.cons (o := { dst := some 90, op := Op.load 25 (Operand.tmp 89), type := 25, pos := "ref.go:94", after := #[{ on := 0, ground := Ground.data }], guard := none }) rfl (fun K hK => ?_) (AllReadyH.cons (o := { dst := some 92, op := Op.buildSlice 22 0 #[], type := 22, pos := "ref.go:94", after := #[], guard := none }) rfl (fun K hK => ?_) AllReadyH.nil))
                · go_simp
                  refine hK.out _ _ ?_ (fun hHeld => ?_)
                  · first | exact hHeld | exact r8 | exact r9 | exact r10 | exact r11 | exact r12
                  clear hK K
                  try simp only [Act.put, List.setIfInBounds_toArray, List.set_cons_zero, List.set_cons_succ]
                  refine wpAnyH_ready (rs := [3]) (by kernel_rfl) (by simp) (AllReadyH.cons (o := { dst := some 92, op := Op.buildSlice 22 0 #[], type := 22, pos := "ref.go:94", after := #[], guard := none }) rfl (fun K hK => ?_) AllReadyH.nil)
                  go_simp
                  refine hK.out _ _ ?_ (fun hHeld => ?_)
                  · first | exact hHeld | exact r8 | exact r9 | exact r10 | exact r11 | exact r12
                  clear hK K
                  try simp only [Act.put, List.setIfInBounds_toArray, List.set_cons_zero, List.set_cons_succ]
                  refine wpAnyH_ready (rs := [10]) (by kernel_rfl) (by simp) (AllReadyH.cons (o := { dst := some 99, op := Op.call { callee := Callee.builtin Builtin.append, args := #[Operand.tmp 92, Operand.tmp 98], argTypes := #[22, 22] }, type := 22, pos := "ref.go:94", after := #[{ on := 3, ground := Ground.data }, { on := 9, ground := Ground.data }], guard := none }) rfl (fun K hK => ?_) AllReadyH.nil)
                  refine step_app rfl (.tmp 92) (.tmp 98) 22 rfl rfl rfl hrun9 ?_
                  refine hK.out _ _ ?_ (fun hHeld => ?_)
                  · first | exact hHeld | exact r8 | exact r9 | exact r10 | exact r11 | exact r12
                  clear hK K
                  try simp only [Act.put, List.setIfInBounds_toArray, List.set_cons_zero, List.set_cons_succ]
                  refine wpAnyH_take (i := 11) (oi := { dst := some 100, op := Op.build 48 #[(0, Operand.tmp 91), (1, Operand.tmp 99)], type := 48, pos := "ref.go:94", after := #[{ on := 2, ground := Ground.data }, { on := 10, ground := Ground.data }], guard := none }) (v := .agg (inC (⟨tx, NX, key⟩, .slice ka kn kc)).toArray) rfl (by kernel_rfl) (by kernel_rfl) (by kernel_rfl) (fun _ _ _ h => h) (Or.inl ⟨by rfl, fun w _ => by go_simp⟩) (by assumption) ?_
                  simp only [Act.put, List.setIfInBounds_toArray, List.set_cons_zero, List.set_cons_succ]
                  refine wpAnyH_ready (rs := [12]) (by kernel_rfl) (by simp) (AllReadyH.cons (o := { dst := some 101, op := Op.buildSlice 25 1 #[(0, Operand.tmp 100)], type := 25, pos := "ref.go:94", after := #[{ on := 11, ground := Ground.data }], guard := none }) rfl (fun K hK => ?_) AllReadyH.nil)
                  go_simp
                  refine hK.out _ _ ?_ (fun hHeld => ?_)
                  · first | exact hHeld | exact r8 | exact r9 | exact r10 | exact r11 | exact r12
                  clear hK K
                  try simp only [Act.put, List.setIfInBounds_toArray, List.set_cons_zero, List.set_cons_succ]
                  refine wpAnyH_ready (rs := [13]) (by kernel_rfl) (by simp) (AllReadyH.cons (o := { dst := some 102, op := Op.call { callee := Callee.builtin Builtin.append, args := #[Operand.tmp 90, Operand.tmp 101], argTypes := #[25, 25] }, type := 25, pos := "ref.go:94", after := #[{ on := 1, ground := Ground.data }, { on := 12, ground := Ground.data }, { on := 10, ground := Ground.chain }], guard := none }) rfl (fun K hK => ?_) AllReadyH.nil)
                  refine step_app rfl (.tmp 90) (.tmp 101) 25 rfl rfl rfl hrun11 ?_
                  refine hK.out _ _ ?_ (fun hHeld => ?_)
                  · first | exact hHeld | exact r8 | exact r9 | exact r10 | exact r11 | exact r12
                  clear hK K
                  try simp only [Act.put, List.setIfInBounds_toArray, List.set_cons_zero, List.set_cons_succ]
                  refine wpAnyH_take (i := 14) (oi := { dst := some 103, op := Op.fieldAddr 28 (Operand.tmp 5) 1, type := 0, pos := "ref.go:94", after := #[{ on := 0, ground := Ground.phase }, { on := 1, ground := Ground.phase }, { on := 2, ground := Ground.phase }, { on := 3, ground := Ground.phase }, { on := 4, ground := Ground.phase }, { on := 5, ground := Ground.phase }, { on := 6, ground := Ground.phase }, { on := 7, ground := Ground.phase }, { on := 8, ground := Ground.phase }, { on := 9, ground := Ground.phase }, { on := 10, ground := Ground.phase }, { on := 11, ground := Ground.phase }, { on := 12, ground := Ground.phase }, { on := 13, ground := Ground.phase }], guard := none }) (v := .pointer (some ⟨g + 1, 1, none⟩)) rfl (by kernel_rfl) (by kernel_rfl) (by kernel_rfl) (fun _ _ _ h => h) (Or.inl ⟨by rfl, fun w _ => by go_simp⟩) (by assumption) ?_
                  simp only [Act.put, List.setIfInBounds_toArray, List.set_cons_zero, List.set_cons_succ]
                  refine wpAnyH_ready (rs := [15]) (by kernel_rfl) (by simp) (AllReadyH.cons (o := { dst := none, op := Op.store 25 (Operand.tmp 103) (Operand.tmp 102), type := 0, pos := "ref.go:94", after := #[{ on := 14, ground := Ground.data }, { on := 13, ground := Ground.data }, { on := 13, ground := Ground.chain }, { on := 0, ground := Ground.phase }, { on := 1, ground := Ground.phase }, { on := 2, ground := Ground.phase }, { on := 3, ground := Ground.phase }, { on := 4, ground := Ground.phase }, { on := 5, ground := Ground.phase }, { on := 6, ground := Ground.phase }, { on := 7, ground := Ground.phase }, { on := 8, ground := Ground.phase }, { on := 9, ground := Ground.phase }, { on := 10, ground := Ground.phase }, { on := 11, ground := Ground.phase }, { on := 12, ground := Ground.phase }, { on := 13, ground := Ground.phase }], guard := none }) rfl (fun K hK => ?_) AllReadyH.nil)
                  go_simp
                  refine hK.out _ _ ?_ (fun hHeld => ?_)
                  · first | exact hHeld | exact r8 | exact r9 | exact r10 | exact r11 | exact r12
                  clear hK K
                  try simp only [Act.put, List.setIfInBounds_toArray, List.set_cons_zero, List.set_cons_succ]
                  refine wpAnyH_done (by kernel_rfl) ?_ _
                  clear hHeld c0 c8 c9 c10 c11 f11 r0 r8 r9 r10 r11 r12 hrun9 hrun11 hs1 hs2 hone hlen hlp
                  go_wp2
                  go_roundw
                  case rel => first | exact R.out | ((repeat apply Exists.intro); exact ⟨R.out, rfl⟩)
                  case measure => simp [intOf]; omega
                · go_simp
                  refine hK.out _ _ ?_ (fun hHeld => ?_)
                  · first | exact hHeld | exact r8 | exact r9 | exact r10 | exact r11 | exact r12
                  clear hK K
                  try simp only [Act.put, List.setIfInBounds_toArray, List.set_cons_zero, List.set_cons_succ]
                  refine wpAnyH_ready (rs := [1, 10]) (by kernel_rfl) (by simp) (AllReadyH.cons (o := { dst := some 90, op := Op.load 25 (Operand.tmp 89), type := 25, pos := "ref.go:94", after := #[{ on := 0, ground := Ground.data }], guard := none }) rfl (fun K hK => ?_) (AllReadyH.cons (o := { dst := some 99, op := Op.call { callee := Callee.builtin Builtin.append, args := #[Operand.tmp 92, Operand.tmp 98], argTypes := #[22, 22] }, type := 22, pos := "ref.go:94", after := #[{ on := 3, ground := Ground.data }, { on := 9, ground := Ground.data }], guard := none }) rfl (fun K hK => ?_) AllReadyH.nil))
                  · go_simp
                    refine hK.out _ _ ?_ (fun hHeld => ?_)
                    · first | exact hHeld | exact r8 | exact r9 | exact r10 | exact r11 | exact r12
                    clear hK K
                    try simp only [Act.put, List.setIfInBounds_toArray, List.set_cons_zero, List.set_cons_succ]
                    refine wpAnyH_ready (rs := [10]) (by kernel_rfl) (by simp) (AllReadyH.cons (o := { dst := some 99, op := Op.call { callee := Callee.builtin Builtin.append, args := #[Operand.tmp 92, Operand.tmp 98], argTypes := #[22, 22] }, type := 22, pos := "ref.go:94", after := #[{ on := 3, ground := Ground.data }, { on := 9, ground := Ground.data }], guard := none }) rfl (fun K hK => ?_) AllReadyH.nil)
                    refine step_app rfl (.tmp 92) (.tmp 98) 22 rfl rfl rfl hrun9 ?_
                    refine hK.out _ _ ?_ (fun hHeld => ?_)
                    · first | exact hHeld | exact r8 | exact r9 | exact r10 | exact r11 | exact r12
                    clear hK K
                    try simp only [Act.put, List.setIfInBounds_toArray, List.set_cons_zero, List.set_cons_succ]
                    refine wpAnyH_take (i := 11) (oi := { dst := some 100, op := Op.build 48 #[(0, Operand.tmp 91), (1, Operand.tmp 99)], type := 48, pos := "ref.go:94", after := #[{ on := 2, ground := Ground.data }, { on := 10, ground := Ground.data }], guard := none }) (v := .agg (inC (⟨tx, NX, key⟩, .slice ka kn kc)).toArray) rfl (by kernel_rfl) (by kernel_rfl) (by kernel_rfl) (fun _ _ _ h => h) (Or.inl ⟨by rfl, fun w _ => by go_simp⟩) (by assumption) ?_
                    simp only [Act.put, List.setIfInBounds_toArray, List.set_cons_zero, List.set_cons_succ]
                    refine wpAnyH_ready (rs := [12]) (by kernel_rfl) (by simp) (AllReadyH.cons (o := { dst := some 101, op := Op.buildSlice 25 1 #[(0, Operand.tmp 100)], type := 25, pos := "ref.go:94", after := #[{ on := 11, ground := Ground.data }], guard := none }) rfl (fun K hK => ?_) AllReadyH.nil)
                    go_simp
                    refine hK.out _ _ ?_ (fun hHeld => ?_)
                    · first | exact hHeld | exact r8 | exact r9 | exact r10 | exact r11 | exact r12
                    clear hK K
                    try simp only [Act.put, List.setIfInBounds_toArray, List.set_cons_zero, List.set_cons_succ]
                    refine wpAnyH_ready (rs := [13]) (by kernel_rfl) (by simp) (AllReadyH.cons (o := { dst := some 102, op := Op.call { callee := Callee.builtin Builtin.append, args := #[Operand.tmp 90, Operand.tmp 101], argTypes := #[25, 25] }, type := 25, pos := "ref.go:94", after := #[{ on := 1, ground := Ground.data }, { on := 12, ground := Ground.data }, { on := 10, ground := Ground.chain }], guard := none }) rfl (fun K hK => ?_) AllReadyH.nil)
                    refine step_app rfl (.tmp 90) (.tmp 101) 25 rfl rfl rfl hrun11 ?_
                    refine hK.out _ _ ?_ (fun hHeld => ?_)
                    · first | exact hHeld | exact r8 | exact r9 | exact r10 | exact r11 | exact r12
                    clear hK K
                    try simp only [Act.put, List.setIfInBounds_toArray, List.set_cons_zero, List.set_cons_succ]
                    refine wpAnyH_take (i := 14) (oi := { dst := some 103, op := Op.fieldAddr 28 (Operand.tmp 5) 1, type := 0, pos := "ref.go:94", after := #[{ on := 0, ground := Ground.phase }, { on := 1, ground := Ground.phase }, { on := 2, ground := Ground.phase }, { on := 3, ground := Ground.phase }, { on := 4, ground := Ground.phase }, { on := 5, ground := Ground.phase }, { on := 6, ground := Ground.phase }, { on := 7, ground := Ground.phase }, { on := 8, ground := Ground.phase }, { on := 9, ground := Ground.phase }, { on := 10, ground := Ground.phase }, { on := 11, ground := Ground.phase }, { on := 12, ground := Ground.phase }, { on := 13, ground := Ground.phase }], guard := none }) (v := .pointer (some ⟨g + 1, 1, none⟩)) rfl (by kernel_rfl) (by kernel_rfl) (by kernel_rfl) (fun _ _ _ h => h) (Or.inl ⟨by rfl, fun w _ => by go_simp⟩) (by assumption) ?_
                    simp only [Act.put, List.setIfInBounds_toArray, List.set_cons_zero, List.set_cons_succ]
                    refine wpAnyH_ready (rs := [15]) (by kernel_rfl) (by simp) (AllReadyH.cons (o := { dst := none, op := Op.store 25 (Operand.tmp 103) (Operand.tmp 102), type := 0, pos := "ref.go:94", after := #[{ on := 14, ground := Ground.data }, { on := 13, ground := Ground.data }, { on := 13, ground := Ground.chain }, { on := 0, ground := Ground.phase }, { on := 1, ground := Ground.phase }, { on := 2, ground := Ground.phase }, { on := 3, ground := Ground.phase }, { on := 4, ground := Ground.phase }, { on := 5, ground := Ground.phase }, { on := 6, ground := Ground.phase }, { on := 7, ground := Ground.phase }, { on := 8, ground := Ground.phase }, { on := 9, ground := Ground.phase }, { on := 10, ground := Ground.phase }, { on := 11, ground := Ground.phase }, { on := 12, ground := Ground.phase }, { on := 13, ground := Ground.phase }], guard := none }) rfl (fun K hK => ?_) AllReadyH.nil)
                    go_simp
                    refine hK.out _ _ ?_ (fun hHeld => ?_)
                    · first | exact hHeld | exact r8 | exact r9 | exact r10 | exact r11 | exact r12
                    clear hK K
                    try simp only [Act.put, List.setIfInBounds_toArray, List.set_cons_zero, List.set_cons_succ]
                    refine wpAnyH_done (by kernel_rfl) ?_ _
                    clear hHeld c0 c8 c9 c10 c11 f11 r0 r8 r9 r10 r11 r12 hrun9 hrun11 hs1 hs2 hone hlen hlp
                    go_wp2
                    go_roundw
                    case rel => first | exact R.out | ((repeat apply Exists.intro); exact ⟨R.out, rfl⟩)
                    case measure => simp [intOf]; omega
                  · refine step_app rfl (.tmp 92) (.tmp 98) 22 rfl rfl rfl hrun9 ?_
                    refine hK.out _ _ ?_ (fun hHeld => ?_)
                    · first | exact hHeld | exact r8 | exact r9 | exact r10 | exact r11 | exact r12
                    clear hK K
                    try simp only [Act.put, List.setIfInBounds_toArray, List.set_cons_zero, List.set_cons_succ]
                    refine wpAnyH_take (i := 11) (oi := { dst := some 100, op := Op.build 48 #[(0, Operand.tmp 91), (1, Operand.tmp 99)], type := 48, pos := "ref.go:94", after := #[{ on := 2, ground := Ground.data }, { on := 10, ground := Ground.data }], guard := none }) (v := .agg (inC (⟨tx, NX, key⟩, .slice ka kn kc)).toArray) rfl (by kernel_rfl) (by kernel_rfl) (by kernel_rfl) (fun _ _ _ h => h) (Or.inl ⟨by rfl, fun w _ => by go_simp⟩) (by assumption) ?_
                    simp only [Act.put, List.setIfInBounds_toArray, List.set_cons_zero, List.set_cons_succ]
                    refine wpAnyH_ready (rs := [1, 12]) (by kernel_rfl) (by simp) (AllReadyH.cons (o := { dst := some 90, op := Op.load 25 (Operand.tmp 89), type := 25, pos := "ref.go:94", after := #[{ on := 0, ground := Ground.data }], guard := none }) rfl (fun K hK => ?_) (AllReadyH.cons (o := { dst := some 101, op := Op.buildSlice 25 1 #[(0, Operand.tmp 100)], type := 25, pos := "ref.go:94", after := #[{ on := 11, ground := Ground.data }], guard := none }) rfl (fun K hK => ?_) AllReadyH.nil))
                    · go_simp
                      refine hK.out _ _ ?_ (fun hHeld => ?_)
                      · first | exact hHeld | exact r8 | exact r9 | exact r10 | exact r11 | exact r12
                      clear hK K
                      try simp only [Act.put, List.setIfInBounds_toArray, List.set_cons_zero, List.set_cons_succ]
                      refine wpAnyH_ready (rs := [12]) (by kernel_rfl) (by simp) (AllReadyH.cons (o := { dst := some 101, op := Op.buildSlice 25 1 #[(0, Operand.tmp 100)], type := 25, pos := "ref.go:94", after := #[{ on := 11, ground := Ground.data }], guard := none }) rfl (fun K hK => ?_) AllReadyH.nil)
                      go_simp
                      refine hK.out _ _ ?_ (fun hHeld => ?_)
                      · first | exact hHeld | exact r8 | exact r9 | exact r10 | exact r11 | exact r12
                      clear hK K
                      try simp only [Act.put, List.setIfInBounds_toArray, List.set_cons_zero, List.set_cons_succ]
                      refine wpAnyH_ready (rs := [13]) (by kernel_rfl) (by simp) (AllReadyH.cons (o := { dst := some 102, op := Op.call { callee := Callee.builtin Builtin.append, args := #[Operand.tmp 90, Operand.tmp 101], argTypes := #[25, 25] }, type := 25, pos := "ref.go:94", after := #[{ on := 1, ground := Ground.data }, { on := 12, ground := Ground.data }, { on := 10, ground := Ground.chain }], guard := none }) rfl (fun K hK => ?_) AllReadyH.nil)
                      refine step_app rfl (.tmp 90) (.tmp 101) 25 rfl rfl rfl hrun11 ?_
                      refine hK.out _ _ ?_ (fun hHeld => ?_)
                      · first | exact hHeld | exact r8 | exact r9 | exact r10 | exact r11 | exact r12
                      clear hK K
                      try simp only [Act.put, List.setIfInBounds_toArray, List.set_cons_zero, List.set_cons_succ]
                      refine wpAnyH_take (i := 14) (oi := { dst := some 103, op := Op.fieldAddr 28 (Operand.tmp 5) 1, type := 0, pos := "ref.go:94", after := #[{ on := 0, ground := Ground.phase }, { on := 1, ground := Ground.phase }, { on := 2, ground := Ground.phase }, { on := 3, ground := Ground.phase }, { on := 4, ground := Ground.phase }, { on := 5, ground := Ground.phase }, { on := 6, ground := Ground.phase }, { on := 7, ground := Ground.phase }, { on := 8, ground := Ground.phase }, { on := 9, ground := Ground.phase }, { on := 10, ground := Ground.phase }, { on := 11, ground := Ground.phase }, { on := 12, ground := Ground.phase }, { on := 13, ground := Ground.phase }], guard := none }) (v := .pointer (some ⟨g + 1, 1, none⟩)) rfl (by kernel_rfl) (by kernel_rfl) (by kernel_rfl) (fun _ _ _ h => h) (Or.inl ⟨by rfl, fun w _ => by go_simp⟩) (by assumption) ?_
                      simp only [Act.put, List.setIfInBounds_toArray, List.set_cons_zero, List.set_cons_succ]
                      refine wpAnyH_ready (rs := [15]) (by kernel_rfl) (by simp) (AllReadyH.cons (o := { dst := none, op := Op.store 25 (Operand.tmp 103) (Operand.tmp 102), type := 0, pos := "ref.go:94", after := #[{ on := 14, ground := Ground.data }, { on := 13, ground := Ground.data }, { on := 13, ground := Ground.chain }, { on := 0, ground := Ground.phase }, { on := 1, ground := Ground.phase }, { on := 2, ground := Ground.phase }, { on := 3, ground := Ground.phase }, { on := 4, ground := Ground.phase }, { on := 5, ground := Ground.phase }, { on := 6, ground := Ground.phase }, { on := 7, ground := Ground.phase }, { on := 8, ground := Ground.phase }, { on := 9, ground := Ground.phase }, { on := 10, ground := Ground.phase }, { on := 11, ground := Ground.phase }, { on := 12, ground := Ground.phase }, { on := 13, ground := Ground.phase }], guard := none }) rfl (fun K hK => ?_) AllReadyH.nil)
                      go_simp
                      refine hK.out _ _ ?_ (fun hHeld => ?_)
                      · first | exact hHeld | exact r8 | exact r9 | exact r10 | exact r11 | exact r12
                      clear hK K
                      try simp only [Act.put, List.setIfInBounds_toArray, List.set_cons_zero, List.set_cons_succ]
                      refine wpAnyH_done (by kernel_rfl) ?_ _
                      clear hHeld c0 c8 c9 c10 c11 f11 r0 r8 r9 r10 r11 r12 hrun9 hrun11 hs1 hs2 hone hlen hlp
                      go_wp2
                      go_roundw
                      case rel => first | exact R.out | ((repeat apply Exists.intro); exact ⟨R.out, rfl⟩)
                      case measure => simp [intOf]; omega
                    · go_simp
                      refine hK.out _ _ ?_ (fun hHeld => ?_)
                      · first | exact hHeld | exact r8 | exact r9 | exact r10 | exact r11 | exact r12
                      clear hK K
                      try simp only [Act.put, List.setIfInBounds_toArray, List.set_cons_zero, List.set_cons_succ]
                      refine wpAnyH_ready (rs := [1]) (by kernel_rfl) (by simp) (AllReadyH.cons (o := { dst := some 90, op := Op.load 25 (Operand.tmp 89), type := 25, pos := "ref.go:94", after := #[{ on := 0, ground := Ground.data }], guard := none }) rfl (fun K hK => ?_) AllReadyH.nil)
                      go_simp
                      refine hK.out _ _ ?_ (fun hHeld => ?_)
                      · first | exact hHeld | exact r8 | exact r9 | exact r10 | exact r11 | exact r12
                      clear hK K
                      try simp only [Act.put, List.setIfInBounds_toArray, List.set_cons_zero, List.set_cons_succ]
                      refine wpAnyH_ready (rs := [13]) (by kernel_rfl) (by simp) (AllReadyH.cons (o := { dst := some 102, op := Op.call { callee := Callee.builtin Builtin.append, args := #[Operand.tmp 90, Operand.tmp 101], argTypes := #[25, 25] }, type := 25, pos := "ref.go:94", after := #[{ on := 1, ground := Ground.data }, { on := 12, ground := Ground.data }, { on := 10, ground := Ground.chain }], guard := none }) rfl (fun K hK => ?_) AllReadyH.nil)
                      refine step_app rfl (.tmp 90) (.tmp 101) 25 rfl rfl rfl hrun11 ?_
                      refine hK.out _ _ ?_ (fun hHeld => ?_)
                      · first | exact hHeld | exact r8 | exact r9 | exact r10 | exact r11 | exact r12
                      clear hK K
                      try simp only [Act.put, List.setIfInBounds_toArray, List.set_cons_zero, List.set_cons_succ]
                      refine wpAnyH_take (i := 14) (oi := { dst := some 103, op := Op.fieldAddr 28 (Operand.tmp 5) 1, type := 0, pos := "ref.go:94", after := #[{ on := 0, ground := Ground.phase }, { on := 1, ground := Ground.phase }, { on := 2, ground := Ground.phase }, { on := 3, ground := Ground.phase }, { on := 4, ground := Ground.phase }, { on := 5, ground := Ground.phase }, { on := 6, ground := Ground.phase }, { on := 7, ground := Ground.phase }, { on := 8, ground := Ground.phase }, { on := 9, ground := Ground.phase }, { on := 10, ground := Ground.phase }, { on := 11, ground := Ground.phase }, { on := 12, ground := Ground.phase }, { on := 13, ground := Ground.phase }], guard := none }) (v := .pointer (some ⟨g + 1, 1, none⟩)) rfl (by kernel_rfl) (by kernel_rfl) (by kernel_rfl) (fun _ _ _ h => h) (Or.inl ⟨by rfl, fun w _ => by go_simp⟩) (by assumption) ?_
                      simp only [Act.put, List.setIfInBounds_toArray, List.set_cons_zero, List.set_cons_succ]
                      refine wpAnyH_ready (rs := [15]) (by kernel_rfl) (by simp) (AllReadyH.cons (o := { dst := none, op := Op.store 25 (Operand.tmp 103) (Operand.tmp 102), type := 0, pos := "ref.go:94", after := #[{ on := 14, ground := Ground.data }, { on := 13, ground := Ground.data }, { on := 13, ground := Ground.chain }, { on := 0, ground := Ground.phase }, { on := 1, ground := Ground.phase }, { on := 2, ground := Ground.phase }, { on := 3, ground := Ground.phase }, { on := 4, ground := Ground.phase }, { on := 5, ground := Ground.phase }, { on := 6, ground := Ground.phase }, { on := 7, ground := Ground.phase }, { on := 8, ground := Ground.phase }, { on := 9, ground := Ground.phase }, { on := 10, ground := Ground.phase }, { on := 11, ground := Ground.phase }, { on := 12, ground := Ground.phase }, { on := 13, ground := Ground.phase }], guard := none }) rfl (fun K hK => ?_) AllReadyH.nil)
                      go_simp
                      refine hK.out _ _ ?_ (fun hHeld => ?_)
                      · first | exact hHeld | exact r8 | exact r9 | exact r10 | exact r11 | exact r12
                      clear hK K
                      try simp only [Act.put, List.setIfInBounds_toArray, List.set_cons_zero, List.set_cons_succ]
                      refine wpAnyH_done (by kernel_rfl) ?_ _
                      clear hHeld c0 c8 c9 c10 c11 f11 r0 r8 r9 r10 r11 r12 hrun9 hrun11 hs1 hs2 hone hlen hlp
                      go_wp2
                      go_roundw
                      case rel => first | exact R.out | ((repeat apply Exists.intro); exact ⟨R.out, rfl⟩)
                      case measure => simp [intOf]; omega
            · have hE : gtE l = de := by
                have h1 : (insS (k + 1) sc).2.2 = de := by
                  show (inS (insS k sc).2).2.2 = de
                  rw [HIN.out, takeS_err hde]
                rw [F2.out (k + 1) hlt (by rw [h1]; exact hde), h1]
              have R := dget_bad l w w7 de hE hde (by rw [HG.out]; exact HR7.out.bel)
              rw [HG.out] at R
              have R := hide R
              clear hE F1 F2 F3 F4 F5 HIN hok7
              go_wp2_with (refine wp_store_row rfl 28 (.tmp 2) (.tmp 80) rfl g 0 [.int .u32 0, .slice none 0 0, .slice none 0 0] rfl rfl HR7.out.res info_tx zero_one ?_)
              exact ret_row_tmp2 2 3 4 28 rfl g 0 rfl [.int .u32 0, .slice none 0 0, .slice none 0 0] (World.rangeAt_setCells_same _ _ _ _ HR7.out.res) _ Try.underlying28 rfl info_tx _ _ rfl rfl rfl R.out
        · have hk2 : (cc : Int) ≤ (k : Int) := by omega
          obtain rfl : k = cc := by omega
          have C2 := hide (rcount7_any l _ wr (HVB.out wr HR.out.bel) HBB.out HLL.out n hn 8 (by omega))
          unfold CountAt at C2
          rw [show ((8 : Nat) : Int) = 8 from rfl] at C2
          rw [hs] at F3 F4 F5
          have c1 := countS_all (n := 8) (s := (l.drop n, 0)) (HBB.out.drop n)
          have FO := hide (outsS_all (s := (countS 8 (l.drop n, 0)).2) c1.1)
          have HDL : Hid ((countS 8 (l.drop n, 0)).1 ≤ 8) := hide c1.2.1
          generalize countS 8 (l.drop n, 0) = D at *
          obtain ⟨dd, dq, de⟩ := D
          simp only at *
          clear c1 hs F2 FA
          generalize (insS k sc).1 = L at *
          go_wp2_with fail
          refine C2.out.mono ?_
          rintro e w5 ⟨nx2, rfl, hb5, hok5⟩
          have HR5 := hide (HR.out.on hb5).turn
          clear hb5 HR C2
          by_cases hde : de = 0
          · subst hde
            obtain ⟨hm1, hm2, hm3⟩ := hok5 rfl
            obtain rfl : dq = l.drop nx2 := by simpa using hm3
            have HSO : Hid (DOuts g w5.heap.size w X L l dd (l.drop nx2, 0) (.int .i64 nx2) (.int .i64 0) w5) := hide ⟨0, nx2, Nat.zero_le _, rfl, rfl, hm2, rfl, HR5.out⟩
            generalize w5.heap.size = B at *
            generalize (l.drop nx2, (0 : Int)) = sd at *
            clear hok5 hm1 hm2 hm3 HR5
            go_wp2_with fail
            go_loopw [9, 120] (fun a i wr => DOuts g B w X L l dd sd a i wr) (fun _ i _ => dd - (intOf i).toNat)
            case atStart => exact HSO.out
            case round =>
              clear HSO
              obtain ⟨m, n, hm, rfl, rfl, hn, hs, hR⟩ := hrel
              have HR := hide hR
              clear hR
              by_cases hlt : m < dd
              · have hk1 : (m : Int) < (dd : Int) := by omega
                have hk8 : m < 8 := by have := HDL.out; omega
                by_cases h40 : l.length - n < 40
                · have hE : gtE l = 4 := by
                    have h1 : (outsS (m + 1) sd).2.2 = 4 := by
                      show (outS (outsS m sd).2).2.2 = 4
                      rw [hs]
                      exact out_short (by rw [List.length_drop]; exact h40)
                    rw [F4.out (m + 1) hlt (by rw [h1]; decide), h1]
                  have R := dget_bad l w wr 4 hE (by decide) (by rw [HG.out]; exact HR.out.bel)
                  rw [HG.out] at R
                  have R := hide R
                  have e40 : (l.length : Int) - (n : Int) < 40 := by omega
                  clear hE F1 F3 F4 F5
                  go_wp2_with (refine wp_store_row rfl 28 (.tmp 2) (.tmp 127) rfl g 0 [.int .u32 0, .slice none 0 0, .slice none 0 0] rfl rfl HR.out.res info_tx zero_one ?_)
                  exact ret_row_tmp2 2 3 4 28 rfl g 0 rfl [.int .u32 0, .slice none 0 0, .slice none 0 0] (World.rangeAt_setCells_same _ _ _ _ HR.out.res) _ Try.underlying28 rfl info_tx _ _ rfl rfl rfl R.out
                · have hle : n + 40 ≤ l.length := by omega
                  have e40 : ¬ (l.length : Int) - (n : Int) < 40 := by omega
                  obtain ⟨o1, q1, hrun1, hb1⟩ := cut7 b off l.length cap n 8 (n : Int) ((n : Int) + 8) rfl (by omega) (by omega) hc1
                  have hv0 := HVB.out wr HR.out.bel
                  have len1 : ((l.drop n).take 8).length = 8 := by simp; omega
                  have len2 : ((l.drop (n + 8)).take 32).length = 32 := by simp; omega
                  have G1 := hide (rget_wide _ _ wr (hb1 _ _ hv0) ((HBB.out.drop _).take _) (by rw [len1]; rfl))
                  have hv1 := (hv0.drew.drop (n + 8) (by omega)).take 32 (by omega)
                  rw [if_neg (by omega : ¬ cap = n + 8)] at hv1
                  have hv1 : Bytes wr.drew (.slice (some ⟨b, off + (n + 8), none⟩) 32 (cap - (n + 8))) ((l.drop (n + 8)).take 32) := by simpa [Addr.add] using hv1
                  have H1 := rhash7_any _ _ wr.drew hv1 len2
                  have HOUT : Hid (outS (outsS m sd).2 = (⟨num ((l.drop n).take 8), (l.drop (n + 8)).take 32⟩, (l.drop (n + 40), 0))) := hide (by
                    rw [hs, out_full (by rw [List.length_drop]; omega), List.drop_drop, List.drop_drop])
                  have hM : (outsS m sd).1.length ≤ 8 := by have := (FO.out m).1; have := HDL.out; omega
                  have HTX := hide len2
                  have HR1 := hide hrun1
                  generalize (l.drop (n + 8)).take 32 = tx at *
                  generalize num ((l.drop n).take 8) = NX at *
                  have HRd := HR.out.on (Below.refl wr.heap.size wr).drew
                  obtain ⟨ov, ⟨oa, om, oc, rfl⟩, hovc⟩ : ∃ ov, (∃ a n c, ov = Value.slice a n c) ∧ wr.drew.cell? ⟨g + 1, 2, none⟩ = some ov := HRd.box.elim fun iv h => h.elim fun ov h => ⟨ov, h.2.2.row.form.elim fun a h => h.elim fun c h => ⟨a, _, c, h.1⟩, h.1.2.2.1⟩
                  have CA : Hid (Calls Try.prog 25 #[.slice (some ⟨b, off + (n + 8), none⟩) 32 (cap - (n + 8))] wr.drew fun e w3 => e = .returned (.agg (vals .u8 tx).toArray) ∧ w3.cell? ⟨g + 1, 2, none⟩ = some (.slice oa om oc) ∧
                    (w3.alloc (.cells (outC ⟨NX, tx⟩).toArray 42)).cell? ⟨g + 1, 2, none⟩ = some (.slice oa om oc) ∧ ∃ v4 w4, (Builtin.append_ #[26, 26] 26 #[.slice oa om oc, .slice (some ⟨w3.heap.size, 0, none⟩) 1 1]).run Try.prog (w3.alloc (.cells (outC ⟨NX, tx⟩).toArray 42)) = .ok v4 w4 ∧
                    w4.cell? ⟨g + 1, 2, none⟩ = some (.slice oa om oc) ∧ w4.frozen? ⟨g + 1, 2, none⟩ = false ∧ (∃ a n c, v4 = Value.slice a n c) ∧ DReadsO g B w X L ((outsS m sd).1 ++ [⟨NX, tx⟩]) (w4.setCell ⟨g + 1, 2, none⟩ v4)) := hide (H1.mono (by
                      rintro e w3 ⟨rfl, hb3⟩
                      obtain ⟨ov', v4, w4, -, h2, h3, h4, h5, h6, h7, h8, h9⟩ := douts_round HRd hb3 hM ⟨NX, tx⟩ len2
                      rw [hovc] at h3
                      cases h3
                      exact ⟨rfl, h4, h5, v4, w4, h8, h6, h7, h2, h9⟩))
                  have HLI : Hid ((outC ⟨NX, tx⟩).length = 33) := hide (outC_length len2)
                  have HONE := hide (fold_whole (outC ⟨NX, tx⟩) #[.int .u64 0, .int .u8 0, .int .u8 0, .int .u8 0, .int .u8 0, .int .u8 0, .int .u8 0, .int .u8 0, .int .u8 0, .int .u8 0, .int .u8 0, .int .u8 0, .int .u8 0, .int .u8 0, .int .u8 0, .int .u8 0, .int .u8 0, .int .u8 0, .int .u8 0, .int .u8 0, .int .u8 0, .int .u8 0, .int .u8 0, .int .u8 0, .int .u8 0, .int .u8 0, .int .u8 0, .int .u8 0, .int .u8 0, .int .u8 0, .int .u8 0, .int .u8 0, .int .u8 0] HLI.out.symm)
                  have hlv : (vals .u8 tx).length = 32 := by rw [vals_length, len2]
                  have hbuilt := out_built ⟨NX, tx⟩ len2
                  simp only at hbuilt
                  have hw8 : IntKind.i64.wrap ((n : Int) + 8) = (n : Int) + 8 := by simp [IntKind.wrap, IntKind.bits, IntKind.signed]; omega
                  have hw40 : IntKind.i64.wrap ((n : Int) + 40) = (n : Int) + 40 := by simp [IntKind.wrap, IntKind.bits, IntKind.signed]; omega
                  have ht8 : ((n : Int) + 8).toNat = n + 8 := by omega
                  have ht40 : ((n : Int) + 40).toNat = n + 40 := by omega
                  have hcn : ¬ cap = n + 8 := by omega
                  have hz8 : (0 : Int) ≤ (n : Int) + 8 := by omega
                  have hz40 : (0 : Int) ≤ (n : Int) + 40 := by omega
                  have hm8 : (n : Int) + 8 ≤ max ((n : Int) + 40) 0 := by omega
                  have hc40 : (n : Int) + 40 ≤ (cap : Int) := by omega
                  have hs32 : n + 40 - (n + 8) = 32 := by omega
                  clear hrun1 hb1 hv0 hv1 len1 len2 H1 h40
                  go_wp2_with (refine wp_mid rfl (.tmp 129) (.tmp 130) (.tmp 132) rfl _ _ _ _ rfl rfl rfl HR1.out ?_)
                  refine G1.out.mono ?_
                  rintro e w' ⟨rfl, hw'⟩
                  rw [hw']
                  clear hw' G1 HR1
                  go_upto_region 31 with fail
                  have hnm : (Try.f25.name == "runtime.NumGoroutine") = false := by kernel_rfl
                  have hbd : Try.f25.body.isNone = false := by kernel_rfl
                  go_region_law (first
                    | (refine step_go (vs := #[.slice (some ⟨b, off + (n + 8), none⟩) 32 (cap - (n + 8))]) rfl 25 _ Try.func25 hnm hbd _ _ rfl (by simp [Act.eval, Act.put]) ?_; (with_reducible refine CA.out.mono ?_); rintro e w3 ⟨rfl, c3, c3', v4, w4, hrun, c4, f4, ⟨va, vn, vc, rfl⟩, hR4⟩; refine ⟨_, rfl, ?_⟩; have hone := HONE.out; have hlen := HLI.out)
                    | (refine step_app rfl (.tmp 138) (.tmp 148) 26 rfl rfl rfl hrun ?_))
                  all_goals
                    have R : Hid (DOuts g B w X L l dd sd (.int .i64 ((n : Int) + 40)) (.int .i64 ((m + 1 : Nat) : Int)) (w4.setCell ⟨g + 1, 2, none⟩ (.slice va vn vc))) := hide ⟨m + 1, n + 40, hlt, rfl, rfl, hle, by show (outS (outsS m sd).2).2 = _; rw [HOUT.out], by show DReadsO g B w X L ((outsS m sd).1 ++ [(outS (outsS m sd).2).1]) _; rw [HOUT.out]; exact hR4⟩
                    clear hR4 c3 c3' c4 f4 hrun hone hlen CA HONE HLI hlv hbuilt hovc HOUT
                    go_wp2
                    go_roundw
                    case rel => first | exact R.out | ((repeat apply Exists.intro); exact ⟨R.out, rfl⟩)
                    case measure => simp [intOf]; omega
              · have hk2 : (dd : Int) ≤ (m : Int) := by omega
                obtain rfl : m = dd := by omega
                rw [hs] at F5
                obtain ⟨g1, g2, g3⟩ := gt_of F5.out hn
                have G1 := hide g1
                have G2 := hide g2
                have G3 := hide g3
                obtain ⟨iv, ov, d1, d2, d3, d4⟩ := HR.out.done
                have HTT : Hid (wr.there g 0 [Value.int .u32 X, iv, ov].length) := hide HR.out.res
                have D1 := hide d1
                have D2 := hide d2
                have D3 := hide d3
                have D4 := hide d4
                clear d1 d2 d3 d4 g1 g2 g3 F1 F3 F4 F5 HR
                go_wp2_with (first | (refine wpList_load_mid rfl 28 (.tmp 5) rfl (g + 1) 0 rfl [.int .u32 X, iv, ov] _ D1.out Try.underlying28 rfl info_tx ?_) | (refine wp_store_row rfl 28 (.tmp 2) (.tmp 154) rfl g 0 [.int .u32 X, iv, ov] rfl rfl HTT.out info_tx D2.out ?_))
                refine ret_row_tmp2 2 3 4 28 rfl g 0 rfl [.int .u32 X, iv, ov] (World.rangeAt_setCells_same _ _ _ _ HTT.out) _ Try.underlying28 rfl info_tx _ _ rfl rfl rfl ⟨iv, ov, ?_, ?_, ?_⟩
                · rw [G1.out, G2.out, G3.out]
                  rfl
                · rw [HG.out]; exact D3.out
                · rw [HG.out, G2.out]; exact D4.out
          · have R := dget_bad l w w5 de (F3.out hde) hde (by rw [HG.out]; exact HR5.out.bel)
            rw [HG.out] at R
            have R := hide R
            clear F1 F3 F4 F5 hok5
            go_wp2_with (refine wp_store_row rfl 28 (.tmp 2) (.tmp 117) rfl g 0 [.int .u32 0, .slice none 0 0, .slice none 0 0] rfl rfl HR5.out.res info_tx zero_one ?_)
            exact ret_row_tmp2 2 3 4 28 rfl g 0 rfl [.int .u32 0, .slice none 0 0, .slice none 0 0] (World.rangeAt_setCells_same _ _ _ _ HR5.out.res) _ Try.underlying28 rfl info_tx _ _ rfl rfl rfl R.out
    · have R := dget_bad l w w4 ce (F1.out hce) hce (by rw [HG.out]; exact HR4.out.bel)
      rw [HG.out] at R
      have R := hide R
      clear F1 F2 F3 F4 F5 FA
      go_wp2_with (refine wp_store_row rfl 28 (.tmp 2) (.tmp 40) rfl g 0 [.int .u32 0, .slice none 0 0, .slice none 0 0] rfl rfl HR4.out.res info_tx zero_one ?_)
      exact ret_row_tmp2 2 3 4 28 rfl g 0 rfl [.int .u32 0, .slice none 0 0, .slice none 0 0] (World.rangeAt_setCells_same _ _ _ _ HR4.out.res) _ Try.underlying28 rfl info_tx _ _ rfl rfl rfl R.out

end Go.Proofs.Ytjmifgdjmaelfaa
