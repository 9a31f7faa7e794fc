/-
  FlowBack: of whatever messages and cuts: their frames, one behind the other, and cut anywhere, all come out, in order, and then nothing waits: the call returns true, and the arguments read as before.
-/
import Derived.Test.YtnjbjgjhomfndaaDoorFrLaw
import Derived.Test.YtnjbjgjhomfndaaDoorFlPieceK
import Derived.Test.YtnjbjgjhomfndaaDoorFlRowDo
import Derived.Test.YtnjbjgjhomfndaaDoorShorts
namespace Go.Proofs.YtnjbjgjhomfndaaDoor
open Go.ChangeShapes Go.WideShapes Go.ChangeAt Go.RowKit

/-- As Piecing, its slots in another order. -/
def Backing (w0 : World) (p : Nat) (b : List Int) (n : Nat) (rv gv i : Value) (wr : World) : Prop := Piecing w0 p b n gv rv i wr

set_option maxRecDepth 100000 in
set_option maxHeartbeats 2000000 in
theorem flowBack_walk {w : World} (hk : Ks w) (v : Value) (M : List (ByteArray × List Int)) (hM : ∀ m ∈ M, MsgOk m) (hv : Msgs w v M) (cv : Value) (cl : List Int) (hcl : ∀ z ∈ cl, 0 ≤ z ∧ z < 65536) (hcv : Shorts w cv cl) :
    Calls Tryd.prog 5 #[v, cv] w fun e w' => e = .returned (.bool true) ∧ Below w.heap.size w w' := by
  have HK := hide hk
  have HV := hide hv
  have HCV := hide hcv
  have HMM := hide hM
  have HCL := hide hcl
  have A := hide (alive_any w hk)
  have NW := hide new_any
  obtain ⟨a, cap, rfl, hc1, hc2, -⟩ := hv
  obtain ⟨ca, ccap, rfl, hd1, hd2, -⟩ := hcv
  clear hk hM hcl
  by_cases h1 : 20 < M.length
  · have h1I : (20 : Int) < (M.length : Int) := by omega
    go_enter Tryd.func5, Tryd.ntmps5
    go_wp2_with fail
    refine A.out.mono ?_
    rintro e w1 ⟨rfl, hbel1⟩
    have HB1 := hide hbel1
    clear hbel1
    go_wp2
    go_ret
    exact ⟨rfl, HB1.out⟩
  by_cases h2 : 300 < cl.length
  · have h1I : ¬ (20 : Int) < (M.length : Int) := by omega
    have h2I : (300 : Int) < (cl.length : Int) := by omega
    go_enter Tryd.func5, Tryd.ntmps5
    go_wp2_with fail
    refine A.out.mono ?_
    rintro e w1 ⟨rfl, hbel1⟩
    have HB1 := hide hbel1
    clear hbel1
    go_wp2
    go_ret
    exact ⟨rfl, HB1.out⟩
  have h1I : ¬ (20 : Int) < (M.length : Int) := by omega
  have h2I : ¬ (300 : Int) < (cl.length : Int) := by omega
  have RW := hide (fun wx (h : Below w.heap.size w wx) => row_any M (.slice a M.length cap) wx (HV.out.below h) HMM.out (HK.out.on h) (by omega))
  have HBY := hide (rowB_byte HMM.out)
  have hRw := runs_row M runs_nil
  rw [List.append_nil, List.append_nil] at hRw
  have HRW := hide hRw
  have hbu := rowB_upto M
  have hb4 : (rowB M).length ≤ 41440 := by omega
  clear hRw hbu
  unfold RowDone at RW
  generalize hbb : rowB M = b at *
  clear hbb
  go_enter Tryd.func5, Tryd.ntmps5
  go_wp2_with fail
  refine A.out.mono ?_
  rintro e w1 ⟨rfl, hbel1⟩
  have HB1 := hide hbel1
  clear hbel1 A
  go_wp2_with fail
  refine (RW.out _ HB1.out).mono ?_
  rintro e w2 ⟨bv, wv, rfl, hO2, hI2, hb2⟩
  have HB2 := hide (below_on HB1.out hb2)
  have HI2 := hide (hI2.low HB1.out.size)
  have HO2 := hide hO2
  obtain ⟨ba, bc, rfl, -, -⟩ := hO2.bytes.form
  obtain ⟨wa, wc, rfl, -, -⟩ := hI2.length
  clear hO2 hI2 hb2 HB1
  go_wp2_with fail
  refine (NW.out _).mono ?_
  rintro e w4 ⟨rfl, hG4, hs4, hb24⟩
  obtain ⟨pg, hpg⟩ : ∃ pg, pg = w2.heap.size := ⟨_, rfl⟩
  rw [← hpg] at hG4 ⊢
  have HB24 := hide hb24
  have HB4 := hide (below_on HB2.out hb24)
  have HP4 : Hid (w.heap.size ≤ pg ∧ pg = w2.heap.size ∧ pg < w4.heap.size) := hide ⟨by rw [hpg]; exact HB2.out.size, hpg, hG4.lt.1⟩
  have HKS : Hid (Keeps (off pg pg) w4 Ks) := hide (HK.out.old HB4.out fun g hg => by have := HP4.out; exact ⟨by omega, by omega⟩)
  have HS : Hid (Backing w4 pg b cl.length (.slice ba b.length bc) (.slice none 0 0) (.int .i64 0) w4) := hide ⟨0, pg, [], b, [], false, [], by omega, rfl, rfl, HO2.out.bytes.old hb24 (fun g hg => ⟨by omega, by omega⟩), hG4, runs_nil, Items.nil _ _ _, Besides.refl _ _ _, Or.inl rfl⟩
  clear hG4 hs4 hb24 hpg HB2 NW RW HO2
  go_wp2_with fail
  go_loopw [5, 8, 30] (fun rv gv i wr => Backing w4 pg b cl.length rv gv i wr) (fun _ _ i _ => cl.length - (intOf i).toNat)
  case atStart => exact HS.out
  case round =>
    clear HS
    obtain ⟨k, q, x, y, r, d, L, hk, rfl, hP⟩ := hrel
    obtain ⟨ra, rc, rfl, hr1, hr2⟩ := hP.2.1.self.form
    obtain ⟨ga, gc, rfl, -, -⟩ := hP.2.2.2.2.1.length
    have hBs : Besides pg pg w4 wr := hP.2.2.2.2.2.1
    have hBw : Below w.heap.size w wr := HB4.out.trans (hBs.ground (by have := HP4.out; omega) (by have := HP4.out; omega) HB4.out.size)
    have HBW := hide hBw
    have hks : Keeps (off pg q) wr Ks := HKS.out.besides hBs (by have := hP.2.2.2.2.2.2; omega)
    have hrl := wait_upto hP.2.2.1
    by_cases hlt : k < cl.length
    · obtain ⟨c0, coff, cc0, e, -, -, hc⟩ : ∃ b off cap : Nat, Value.slice ca cl.length ccap = .slice (some ⟨b, off, none⟩) cl.length cap ∧ cl.length ≤ cap ∧ cap ≤ 9223372036854775807 ∧ ∀ i, i < cl.length → w.cell? ⟨b, off + i, none⟩ = some (.int .u16 (cl.getD i 0)) := by
        obtain ⟨a, cap, h1, h2, h3, h5⟩ := HCV.out
        obtain ⟨b, off, rfl, hc⟩ := h5 (by omega)
        exact ⟨b, off, cap, h1, h2, h3, hc⟩
      simp only [Value.slice.injEq, true_and] at e
      obtain ⟨rfl, rfl⟩ := e
      have hcell : wr.cell? ⟨c0, coff + k, none⟩ = some (.int .u16 (cl.getD k 0)) := (hBw.cell (p := ⟨c0, coff + k, none⟩) (World.block_lt_of_cell? _ _ (hc k hlt))).trans (hc k hlt)
      obtain ⟨hz0, hz1⟩ : 0 ≤ cl.getD k 0 ∧ cl.getD k 0 < 65536 := HCL.out _ (by simp [List.getD, hlt])
      have hk1 : (k : Int) < (cl.length : Int) := by omega
      generalize cl.getD k 0 = z at *
      obtain ⟨kk, hkk⟩ : ∃ kk, kk = min z.toNat y.length := ⟨_, rfl⟩
      have hmin : (if (y.length : Int) < z then (y.length : Int) else z) = (kk : Int) := by
        split <;> omega
      have hkl : kk ≤ y.length := by omega
      have hyy : y = y.take kk ++ y.drop kk := (List.take_append_drop kk y).symm
      have hyb : ∀ z ∈ y, Byte z := fun z hz => HBY.out z (by rw [hP.1]; simp [hz])
      have hxb : ∀ z ∈ x, Byte z := fun z hz => HBY.out z (by rw [hP.1]; simp [hz])
      obtain ⟨L2, s, d2, hR⟩ := fruns_any d r (y.take kk) (hP.2.2.2.1.byte hxb) (fun z hz => hyb z (List.mem_of_mem_take hz)) hP.2.2.1.dead.1
      obtain ⟨hfew, -, -, hrb, hyl⟩ := hP.few HBY.out hyy hR
      obtain ⟨a5, hrun5, hhead5⟩ := head_of ra y.length rc kk .i64 hkl hr1
      obtain ⟨a6, c6, hrun6, htail6⟩ := tail_of ra y.length rc kk .i64 hkl
      have HRUN5 := hide hrun5
      have HRUN6 := hide hrun6
      have HT6 : Hid (Keeps (off pg pg) w4 fun w => Bytes w (.slice a6 (y.length - kk) c6) (y.drop kk)) := hide (hP.2.1.map fun w h => htail6 w _ h)
      have FE := hide (feed_any wr pg q r d (.slice a5 kk rc) (y.take kk) L2 s d2 hP.2.2.1 hrb (fun z hz => hyb z (List.mem_of_mem_take hz)) ((hP.2.1.besides hBs (by have := hP.2.2.2.2.2.2; omega)).map fun w h => hhead5 w _ h) hks hR (by simp; omega))
      have HPC := hide hP
      have HALL := hide (And.intro hxb (And.intro hyy (And.intro hR (And.intro hfew hBs.size))))
      have hklI : (kk : Int) ≤ (y.length : Int) := by omega
      clear hP hBs hBw hks hc hyb hxb hyy hR hfew hrb hrun5 hhead5 hrun6 htail6 hkk
      go_wp2_with (refine wp_upto rfl (.tmp 41) (.tmp 42) rfl _ _ _ rfl rfl HRUN5.out ?_)
      refine FE.out.mono ?_
      rintro e w5 ⟨v5, q5, rfl, hF5, hBs5, hq5, hI5⟩
      have HI5 := hide (HPC.out.items HP4.out.2.2 hBs5 hq5)
      have HJ5 := hide hI5
      have HM5 := hide (And.intro hF5 (And.intro hBs5 hq5))
      clear hF5 hBs5 hq5 hI5 FE
      go_wp2_with (at_builtin; refine wp_append_all rfl (.tmp 39) (.tmp 44) rfl w4.heap.size (fun g => g < w4.heap.size ∨ g = q5) _ L rfl HI5.out _ _ _ L2 rfl HJ5.out ?c1 ?c2 ?c3 ?c4 ?_)
      case c1 => exact fun g _ hg => HPC.out.apart g q5 hg
      case c2 => have := HALL.out.2.2.2.1; omega
      case c3 => exact Nat.le_trans HALL.out.2.2.2.2 HM5.out.2.1.size
      case c4 =>
        intro g hg
        have h1 := HM5.out.1.lt.2
        have h2 := HALL.out.2.2.2.2
        have h3 := HM5.out.2.1.size
        omega
      intro v6 w6 hI6 hg6
      have R : Hid (Backing w4 pg b cl.length (.slice a6 (y.length - kk) c6) v6 (.int .i64 ((k + 1 : Nat) : Int)) w6) := hide
        ⟨k + 1, q5, _, _, _, _, _, by omega, rfl, HPC.out.next HP4.out.2.2 HALL.out.1 HALL.out.2.1 HALL.out.2.2.1 HM5.out.1 HM5.out.2.1 HM5.out.2.2 hI6 hg6 HT6.out⟩
      clear hI6 hg6
      go_wp2_with (refine wp_from rfl (.tmp 46) (.tmp 47) rfl _ _ _ rfl rfl HRUN6.out ?_)
      go_roundw
      case rel => first | exact R.out | ((repeat apply Exists.intro); exact ⟨R.out, rfl⟩)
      case measure => simp [intOf]; omega
    · have hk2 : (cl.length : Int) ≤ (k : Int) := by omega
      have hyb : ∀ z ∈ y, Byte z := fun z hz => HBY.out z (by rw [hP.1]; simp [hz])
      have hxb : ∀ z ∈ x, Byte z := fun z hz => HBY.out z (by rw [hP.1]; simp [hz])
      have hyy : y = y ++ [] := by simp
      obtain ⟨L2, s, d2, hR⟩ := fruns_any d r y (hP.2.2.2.1.byte hxb) hyb hP.2.2.1.dead.1
      obtain ⟨hfew, -, -, hrb, hyl⟩ := hP.few HBY.out hyy hR
      have FE := hide (feed_any wr pg q r d (.slice ra y.length rc) y L2 s d2 hP.2.2.1 hrb hyb (hP.2.1.besides hBs (by have := hP.2.2.2.2.2.2; omega)) hks hR (by omega))
      have HPC := hide hP
      have HALL := hide (And.intro hxb (And.intro hyy (And.intro hR (And.intro hfew hBs.size))))
      clear hP hBs hBw hks hyb hxb hyy hR hfew hrb
      go_wp2_with fail
      refine FE.out.mono ?_
      rintro e w5 ⟨v5, q5, rfl, hF5, hBs5, hq5, hI5⟩
      have HI5 := hide (HPC.out.items HP4.out.2.2 hBs5 hq5)
      have HJ5 := hide hI5
      have HM5 := hide (And.intro hF5 (And.intro hBs5 hq5))
      clear hF5 hBs5 hq5 hI5 FE
      go_wp2_with (at_builtin; refine wp_append_all rfl (.tmp 50) (.tmp 53) rfl w4.heap.size (fun g => g < w4.heap.size ∨ g = q5) _ L rfl HI5.out _ _ _ L2 rfl HJ5.out ?c1 ?c2 ?c3 ?c4 ?_)
      case c1 => exact fun g _ hg => HPC.out.apart g q5 hg
      case c2 => have := HALL.out.2.2.2.1; omega
      case c3 => exact Nat.le_trans HALL.out.2.2.2.2 HM5.out.2.1.size
      case c4 =>
        intro g hg
        have h1 := HM5.out.1.lt.2
        have h2 := HALL.out.2.2.2.2
        have h3 := HM5.out.2.1.size
        omega
      intro v6 w6 hI6 hg6
      have hN := HPC.out.next (rv' := .slice none 0 0) HP4.out.2.2 HALL.out.1 HALL.out.2.1 HALL.out.2.2.1 HM5.out.1 HM5.out.2.1 HM5.out.2.2 hI6 hg6 (fun w' _ => Bytes.nil w')
      obtain ⟨e6, -, hF6, hR6, hI6', hB6, -⟩ := hN
      rw [List.append_nil] at e6
      rw [← e6] at hR6
      obtain ⟨eL, es, ed⟩ := HRW.out.one hR6
      rw [← es, ← ed] at hF6
      rw [← eL] at hI6'
      have h4 := HP4.out
      have hW6 : Items w6 w.heap.size (fun g => (Value.slice ba b.length bc).ownBlock = some g) (.slice wa (rowI M).length wc) (rowI M) := HI2.out.move (Nat.le_trans (by omega) hB6.size) (fun g hg _ => (hB6.block g (by omega) (by omega) (by omega)).trans (HB24.out.block g hg)) (fun _ _ h => h)
      have SM := hide (same6_any (rowI M) v6 (.slice wa (rowI M).length wc) w6 hI6'.read hW6.read)
      have HG6 := hide hF6
      have HBZ : Hid (Below w.heap.size w w6) := hide (HB4.out.trans (hB6.ground (by omega) (by omega) HB4.out.size))
      clear e6 hF6 hR6 hI6' hB6 eL es ed h4 hW6 hI6 hg6 HPC HALL HI5 HJ5 HM5 HKS HP4
      go_wp2_with fail
      refine SM.out.mono ?_
      rintro e w7 ⟨rfl, hb7⟩
      have WG := hide (fwaits_any (HG6.out.on hb7))
      have DG := hide (fdead_any (HG6.out.on hb7))
      have HB7 := hide (below_on HBZ.out hb7)
      clear hb7 HG6 HBZ SM
      go_wp2_with fail
      refine WG.out.mono ?_
      rintro e wz ⟨rfl, hz⟩
      rw [hz]
      clear hz wz
      go_wp2_with fail
      refine DG.out.mono ?_
      rintro e wz ⟨rfl, hz⟩
      rw [hz]
      clear hz wz
      go_wp2
      go_ret
      exact ⟨rfl, HB7.out⟩

set_option maxRecDepth 100000 in
theorem flowBack_lifted (os : Os) (started : os.Started) (H : Type) (enc : TypeId × Value → H) :
    ReturnsInHanded {} Tryd.checked os 5 .any (fun w args => (Rows.flowBackSpec.pre enc Tryd.prog Tryd.f5 [] false w args ∧ laidMetH Tryd.prog laid3 w) ∧ sizedMet enc Tryd.prog Tryd.f5 (OpenSpec.ofChange Rows.flowBackSpec) false w args)
      (Rows.flowBackSpec.post enc Tryd.prog Tryd.f5 false true false false) := by
  refine returnsInHanded_of_change_and (C := Tryd.checked) (X := fun w _ => laidMetH Tryd.prog laid3 w) (fun _ _ _ hh h => h.of_heap hh) own started (by kernel_rfl) Tryd.func5
    (ChangeSpec.witness_shaped (enc := enc) (C := Tryd.checked) (os := os) (X := fun w _ => laidMetH Tryd.prog laid3 w) false (World.laidAll Tryd.prog os laid3) #[.slice none 0 0, .slice none 0 0] 8 (World.laidAll_os _ _ _) (World.shaped_of_ZipB (by kernel_rfl) (by kernel_rfl)) (by kernel_rfl) (by kernel_rfl) (by kernel_rfl) (laid_met os _)) ?_
  intro W base args ds gs before hval0 hW _ _ hL _
  have hval : ∀ (j : Nat) t v, Tryd.f5.params[j]? = some t → args[j]? = some v → Value.okWide Tryd.prog W .any base t v := hval0
  have hW' := hW
  obtain ⟨p, q, hA0, hV, rfl, hfz, hnd⟩ := hW
  have hA : DataW.TrodAll enc Tryd.prog W 0 (fun _ => true) true Tryd.f5.params.toList args.toList ds p := hA0
  rw [Tryd.params5] at hA hval
  obtain ⟨v0, vs0, d0, ds0, p0, q0, hargs, rfl, rfl, h0, r0⟩ := trodAll_cons hA
  obtain ⟨v1, vs1, d1, ds1, p1, q1, rfl, rfl, rfl, h1, r1⟩ := trodAll_cons r0
  obtain ⟨rfl, rfl, rfl⟩ := trodAll_nil r1
  obtain rfl : args = #[v0, v1] := by cases args; simp_all
  obtain ⟨rfl, rfl⟩ := trodVars_none hV
  obtain ⟨b0, len0, cap0, rfl⟩ := okWide_slice Tryd.underlying38 (hval 0 38 v0 rfl rfl)
  have k0 := h0
  have lt0 : ∀ x ∈ p0, x.block < W.heap.size := by obtain ⟨m, hm⟩ := k0; exact DataW.trod_lt m _ _ _ hm
  obtain ⟨l0, s0, w0⟩ : ∃ M, Msgs W (.slice b0 len0 cap0) M ∧ ∀ x ∈ M, MsgOk x := by
    obtain ⟨fuel, hf⟩ := h0
    rcases Go.Deep.open_slice_pairs Tryd.underlying38 Tryd.underlying43 (by kernel_rfl) rfl rfl (by kernel_rfl) (by kernel_rfl) hf with ⟨hcs, _⟩ | ⟨a, len, cap, m, n, V0, V1, D0, D1, P0, P1, hcs, _, hl, hm, hmm, _, hx⟩
    · simp [Value.cells] at hcs
      obtain ⟨rfl, rfl, rfl⟩ := hcs
      exact ⟨[], Msgs.nil _, by simp⟩
    · simp [Value.cells] at hcs
      obtain ⟨rfl, rfl, rfl⟩ := hcs
      exact msgs_row hl hm (by rw [hmm]; split <;> omega) fun i hi => ⟨(hx i hi).1, (hx i hi).2.1, msg_cells Tryd.underlying9 Tryd.underlying28 Tryd.underlying5 (by kernel_rfl) (fun _ => rfl) (hx i hi).2.2.1 (hx i hi).2.2.2⟩
  obtain ⟨b1, len1, cap1, rfl⟩ := okWide_slice Tryd.underlying35 (hval 1 35 v1 rfl rfl)
  have k1 := h1
  have lt1 : ∀ x ∈ p1, x.block < W.heap.size := by obtain ⟨m, hm⟩ := k1; exact DataW.trod_lt m _ _ _ hm
  obtain ⟨l1, s1, w1⟩ : ∃ l, Shorts W (.slice b1 len1 cap1) l ∧ ∀ z ∈ l, 0 ≤ z ∧ z < 65536 := by
    obtain ⟨fuel, hf⟩ := h1
    rcases open_ints Tryd.underlying35 Tryd.underlying36 (by kernel_rfl) hf with ⟨hcs, _⟩ | ⟨x, l, c, zs, hcs, _, hl, hm, hz, _, hcell, hwz⟩
    · simp [Value.cells] at hcs
      obtain ⟨rfl, rfl, rfl⟩ := hcs
      exact ⟨[], Shorts.nil _, by simp⟩
    · simp [Value.cells] at hcs
      obtain ⟨rfl, rfl, rfl⟩ := hcs
      exact shorts_row hl hm (by simpa using hz) hcell hwz
  clear hA0 hval0
  refine (flowBack_walk (w := W) (ks_of_laid hL) _ l0 w0 s0 _ l1 w1 s1).mono fun e W' ⟨he, bel⟩ => ?_
  subst he
  exact ⟨_, rfl, _, _, _, [], _, [], hW', trodAll_mk1 (shut_bool Tryd.underlying4 _), (trodAll_cons_mk (Below.trod laidOut (by kernel_rfl) (of_decide_eq_true (by kernel_rfl)) k0 bel lt0) (trodAll_cons_mk (Below.trod laidOut (by kernel_rfl) (of_decide_eq_true (by kernel_rfl)) k1 bel lt1) trodAll_mk0)), rfl, bel.frame _, fun h => by cases h⟩

theorem flowBack_holds : Rows.FlowBackSaid :=
  OpenClaim.holds_of_wide 5 Tryd.f5 rfl rfl rfl rfl rfl rfl rfl ⟨rfl, rfl, rfl, rfl, rfl⟩ rfl rfl rfl rfl rfl (by kernel_rfl) Tryd.func5 (by kernel_rfl)
    (of_decide_eq_true (by kernel_rfl)) (by unfold Func.isWrapper; first | (rw [if_pos (by decide +kernel)]; kernel_rfl) | (rw [if_neg (by decide +kernel)]; exact ⟨rfl, rfl⟩))
    (fun os started H enc _ => flowBack_lifted os started H enc)
#print axioms flowBack_holds
theorem flowBack_card : Rows.FlowBackCardSaid :=
  Claim7.holds_tied_plain_at .later [] [.data, .data, .pinned] true (true, "8364c1d0cfa2ab96fb62bcc5beefd4505f8925a4338fe93582091888f38a8326") false
    flowBack_holds (fun _ h => by cases h) (by kernel_rfl) (fun _ h => by cases h) flowBack_row_tie rfl ⟨rfl, rfl⟩ (by kernel_rfl) rfl
    (fun f fn hf hfn => by
      obtain rfl : f = 5 := Option.some.inj ((show Tryd.prog.funcNamed "pappus/pappuslaw06.FlowBack" = some 5 by kernel_rfl).symm.trans hf) |>.symm
      obtain rfl : fn = Tryd.f5 := (Option.some.inj (Tryd.func5.symm.trans hfn)).symm
      exact ⟨by kernel_rfl, fun j t ht => by
        rw [Tryd.params5] at ht
        have hm : t ∈ [38, 35] := by simpa using Array.mem_of_getElem? ht
        have hall : ([38, 35].all fun u => !Tryd.prog.wantsStandIn u) = true := by kernel_rfl
        exact (show Tryd.prog.wantsStandIn t = false by simpa using List.all_eq_true.1 hall t hm)⟩)
    (by kernel_rfl)
#print axioms flowBack_card
end Go.Proofs.YtnjbjgjhomfndaaDoor
