/-
  FlowPieces: of whatever bytes and cuts: in whatever pieces the bytes come, the items are the same, and what waits, and whether it is dead: the call returns true, and the arguments read as before.
-/
import Derived.Test.YtnjbjgjhomfndaaDoorFrLaw
import Derived.Test.YtnjbjgjhomfndaaDoorFlPiece
import Derived.Test.YtnjbjgjhomfndaaDoorShorts
namespace Go.Proofs.YtnjbjgjhomfndaaDoor
open Go.ChangeShapes Go.WideShapes Go.ChangeAt Go.RowKit

/-- What holds at the head of a round. -/
def Piecing (w0 : World) (p : Nat) (b : List Int) (n : Nat) (gv rv i : Value) (wr : World) : Prop :=
  ∃ (k q : Nat) (x y r : List Int) (d : Bool) (L : List It), k ≤ n ∧ i = .int .i64 k ∧ Pieced w0 p b gv rv wr q x y r d L
theorem wait_upto {w : World} {p q : Nat} {r : List Int} {d : Bool} (h : Flw w p q r d) : r.length < 2072 := by
  cases d with
  | true => rw [h.dead.1 rfl]; simp
  | false => exact geE4_upto (h.dead.2 rfl)
/-- The bounds that a piece keeps. -/
theorem Pieced.few {w0 wr : World} {p : Nat} {b : List Int} {gv rv : Value} {q : Nat} {x y r s z t : List Int} {d d' : Bool} {L L2 : List It} (h : Pieced w0 p b gv rv wr q x y r d L) (hb : ∀ z ∈ b, Byte z) (hy : y = z ++ t) (hR : FRuns d r z L2 s d') : L.length + L2.length ≤ b.length ∧ (∀ z ∈ x, Byte z) ∧ (∀ z ∈ y, Byte z) ∧ (∀ z ∈ r, Byte z) ∧ y.length ≤ b.length := by
  obtain ⟨e, -, -, hRx, -⟩ := h
  have hxb : ∀ z ∈ x, Byte z := fun z hz => hb z (by rw [e]; simp [hz])
  have hyb : ∀ z ∈ y, Byte z := fun z hz => hb z (by rw [e]; simp [hz])
  have hj := (FRuns.join hRx hxb hR).count (fun u hu => by
    rcases List.mem_append.1 hu with h | h
    · exact hxb u h
    · exact hyb u (by rw [hy]; simp [h]))
  have el := congrArg List.length e
  have yl := congrArg List.length hy
  simp only [List.length_append] at hj el yl
  exact ⟨by omega, hxb, hyb, hRx.byte hxb, by omega⟩

set_option maxRecDepth 100000 in
set_option maxHeartbeats 2000000 in
theorem flowPieces_walk {w : World} (hk : Ks w) (v : Value) (b : List Int) (hb : ∀ z ∈ b, Byte z) (hv : Bytes w v b) (cv : Value) (cl : List Int) (hcl : ∀ z ∈ cl, 0 ≤ z ∧ z < 65536) (hcv : Shorts w cv cl) :
    Calls Tryd.prog 4 #[v, cv] w fun e w' => e = .returned (.bool true) ∧ Below w.heap.size w w' := by
  have HK := hide hk
  have HV := hide hv
  have HCV := hide hcv
  have HBY := hide hb
  have HCL := hide hcl
  have A := hide (alive_any w hk)
  have NW := hide new_any
  obtain ⟨a, cap, rfl, hc1, hc2⟩ := hv.form
  obtain ⟨ca, ccap, rfl, hd1, hd2, -⟩ := hcv
  clear hv hk hb hcl
  by_cases h1 : 20000 < b.length
  · have h1I : (20000 : Int) < (b.length : Int) := by omega
    go_enter Tryd.func4, Tryd.ntmps4
    go_wp2_with fail
    refine A.out.mono ?_
    rintro e w1 ⟨rfl, hbel1⟩
    have HB1 := hide hbel1
    clear hbel1
    go_wp2
    go_ret
    exact ⟨rfl, HB1.out⟩
  by_cases h2 : 300 < cl.length
  · have h1I : ¬ (20000 : Int) < (b.length : Int) := by omega
    have h2I : (300 : Int) < (cl.length : Int) := by omega
    go_enter Tryd.func4, Tryd.ntmps4
    go_wp2_with fail
    refine A.out.mono ?_
    rintro e w1 ⟨rfl, hbel1⟩
    have HB1 := hide hbel1
    clear hbel1
    go_wp2
    go_ret
    exact ⟨rfl, HB1.out⟩
  have h1I : ¬ (20000 : Int) < (b.length : Int) := by omega
  have h2I : ¬ (300 : Int) < (cl.length : Int) := by omega
  obtain ⟨Lw, sw, dw, hRw⟩ := runs_any b HBY.out
  have HRW := hide hRw
  clear hRw
  go_enter Tryd.func4, Tryd.ntmps4
  go_wp2_with fail
  refine A.out.mono ?_
  rintro e w1 ⟨rfl, hbel1⟩
  have HB1 := hide hbel1
  clear hbel1 A
  go_wp2_with fail
  refine (NW.out _).mono ?_
  rintro e w2 ⟨rfl, hF2, hs2, hb2⟩
  have HF2 := hide hF2
  have HS2 := hide hs2
  have HB2 := hide (below_on HB1.out hb2)
  clear hF2 hs2 hb2
  go_wp2_with fail
  refine (NW.out _).mono ?_
  rintro e w3 ⟨rfl, hG3, hs3, hb3⟩
  obtain ⟨p, hp⟩ : ∃ p, p = w1.heap.size := ⟨_, rfl⟩
  obtain ⟨pg, hpg⟩ : ∃ pg, pg = w2.heap.size := ⟨_, rfl⟩
  have hF3 := HF2.out.on hb3
  have HB3 := hide (below_on HB2.out hb3)
  have HP : Hid (w.heap.size ≤ p ∧ pg = p + 1 ∧ w3.heap.size = p + 2) := hide ⟨by rw [hp]; exact HB1.out.size, by rw [hpg, HS2.out, hp], by rw [hs3, HS2.out, hp]⟩
  rw [← hp] at hF3 ⊢
  rw [← hpg] at hG3 ⊢
  have HG3 := hide hG3
  have FE := hide (feed_any w3 p p [] false _ b Lw sw dw hF3 (by simp) HBY.out (HV.out.old HB3.out fun g hg => ⟨by have := HP.out; omega, by have := HP.out; omega⟩) (HK.out.old HB3.out fun g hg => ⟨by have := HP.out; omega, by have := HP.out; omega⟩) (Or.inl ⟨rfl, HRW.out⟩) (by simp; omega))
  clear hF3 hG3 hs3 hb3 hp hpg HF2 HS2 HB2 HB1 NW
  go_wp2_with fail
  refine FE.out.mono ?_
  rintro e w4 ⟨v4, q4, rfl, hF4, hBs4, hq4, hI4⟩
  have hpp := HP.out
  have HF4 := hide hF4
  have HI4 := hide hI4
  have HB4 : Hid (Below w.heap.size w w4) := hide (HB3.out.trans (hBs4.ground hpp.1 hpp.1 (by omega)))
  have hG4 : Flw w4 pg pg [] false := HG3.out.beside hBs4 (by omega) (by omega) (by omega) (by omega)
  have HP4 : Hid (w.heap.size ≤ p ∧ pg = p + 1 ∧ pg < w4.heap.size ∧ q4 ≠ pg ∧ pg < w3.heap.size) := hide ⟨hpp.1, hpp.2.1, hG4.lt.1, by omega, by omega⟩
  have HKS : Hid (Keeps (off pg pg) w4 Ks) := hide (HK.out.old HB4.out fun g hg => ⟨by omega, by omega⟩)
  have HS : Hid (Piecing w4 pg b cl.length (.slice none 0 0) (.slice a b.length cap) (.int .i64 0) w4) := hide ⟨0, pg, [], b, [], false, [], by omega, rfl, rfl, HV.out.old HB4.out (fun g hg => ⟨by omega, by omega⟩), hG4, runs_nil, Items.nil _ _ _, Besides.refl _ _ _, Or.inl rfl⟩
  obtain ⟨a4, c4, rfl, -, -⟩ := hI4.length
  clear hF4 hBs4 hq4 hI4 hpp hG4 HG3 HB3 HP FE
  go_wp2_with fail
  go_loopw [8, 9, 31] (fun gv rv i wr => Piecing w4 pg b cl.length gv rv i wr) (fun _ _ i _ => cl.length - (intOf i).toNat)
  case atStart => exact HS.out
  case round =>
    clear HS
    obtain ⟨k, q, x, y, r, d, L, hk, rfl, hP⟩ := hrel
    obtain ⟨ra, rc, rfl, hr1, hr2⟩ := hP.2.1.self.form
    obtain ⟨ga, gc, rfl, -, -⟩ := hP.2.2.2.2.1.length
    have hBs : Besides pg pg w4 wr := hP.2.2.2.2.2.1
    have hBw : Below w.heap.size w wr := HB4.out.trans (hBs.ground (by have := HP4.out; omega) (by have := HP4.out; omega) HB4.out.size)
    have HBW := hide hBw
    have hks : Keeps (off pg q) wr Ks := HKS.out.besides hBs (by have := hP.2.2.2.2.2.2; omega)
    have hrl := wait_upto hP.2.2.1
    by_cases hlt : k < cl.length
    · obtain ⟨c0, coff, cc0, e, -, -, hc⟩ : ∃ b off cap : Nat, Value.slice ca cl.length ccap = .slice (some ⟨b, off, none⟩) cl.length cap ∧ cl.length ≤ cap ∧ cap ≤ 9223372036854775807 ∧ ∀ i, i < cl.length → w.cell? ⟨b, off + i, none⟩ = some (.int .u16 (cl.getD i 0)) := by
        obtain ⟨a, cap, h1, h2, h3, h5⟩ := HCV.out
        obtain ⟨b, off, rfl, hc⟩ := h5 (by omega)
        exact ⟨b, off, cap, h1, h2, h3, hc⟩
      simp only [Value.slice.injEq, true_and] at e
      obtain ⟨rfl, rfl⟩ := e
      have hcell : wr.cell? ⟨c0, coff + k, none⟩ = some (.int .u16 (cl.getD k 0)) := (hBw.cell (p := ⟨c0, coff + k, none⟩) (World.block_lt_of_cell? _ _ (hc k hlt))).trans (hc k hlt)
      obtain ⟨hz0, hz1⟩ : 0 ≤ cl.getD k 0 ∧ cl.getD k 0 < 65536 := HCL.out _ (by simp [List.getD, hlt])
      have hk1 : (k : Int) < (cl.length : Int) := by omega
      generalize cl.getD k 0 = z at *
      obtain ⟨kk, hkk⟩ : ∃ kk, kk = min z.toNat y.length := ⟨_, rfl⟩
      have hmin : (if (y.length : Int) < z then (y.length : Int) else z) = (kk : Int) := by
        split <;> omega
      have hkl : kk ≤ y.length := by omega
      have hyy : y = y.take kk ++ y.drop kk := (List.take_append_drop kk y).symm
      have hyb : ∀ z ∈ y, Byte z := fun z hz => HBY.out z (by rw [hP.1]; simp [hz])
      have hxb : ∀ z ∈ x, Byte z := fun z hz => HBY.out z (by rw [hP.1]; simp [hz])
      obtain ⟨L2, s, d2, hR⟩ := fruns_any d r (y.take kk) (hP.2.2.2.1.byte hxb) (fun z hz => hyb z (List.mem_of_mem_take hz)) hP.2.2.1.dead.1
      obtain ⟨hfew, -, -, hrb, hyl⟩ := hP.few HBY.out hyy hR
      obtain ⟨a5, hrun5, hhead5⟩ := head_of ra y.length rc kk .i64 hkl hr1
      obtain ⟨a6, c6, hrun6, htail6⟩ := tail_of ra y.length rc kk .i64 hkl
      have HRUN5 := hide hrun5
      have HRUN6 := hide hrun6
      have HT6 : Hid (Keeps (off pg pg) w4 fun w => Bytes w (.slice a6 (y.length - kk) c6) (y.drop kk)) := hide (hP.2.1.map fun w h => htail6 w _ h)
      have FE := hide (feed_any wr pg q r d (.slice a5 kk rc) (y.take kk) L2 s d2 hP.2.2.1 hrb (fun z hz => hyb z (List.mem_of_mem_take hz)) ((hP.2.1.besides hBs (by have := hP.2.2.2.2.2.2; omega)).map fun w h => hhead5 w _ h) hks hR (by simp; omega))
      have HPC := hide hP
      have HALL := hide (And.intro hxb (And.intro hyy (And.intro hR (And.intro hfew hBs.size))))
      have hklI : (kk : Int) ≤ (y.length : Int) := by omega
      clear hP hBs hBw hks hc hyb hxb hyy hR hfew hrb hrun5 hhead5 hrun6 htail6 hkk
      go_wp2_with (refine wp_upto rfl (.tmp 42) (.tmp 43) rfl _ _ _ rfl rfl HRUN5.out ?_)
      refine FE.out.mono ?_
      rintro e w5 ⟨v5, q5, rfl, hF5, hBs5, hq5, hI5⟩
      have HI5 := hide (HPC.out.items HP4.out.2.2.1 hBs5 hq5)
      have HJ5 := hide hI5
      have HM5 := hide (And.intro hF5 (And.intro hBs5 hq5))
      clear hF5 hBs5 hq5 hI5 FE
      go_wp2_with (at_builtin; refine wp_append_all rfl (.tmp 40) (.tmp 45) rfl w4.heap.size (fun g => g < w4.heap.size ∨ g = q5) _ L rfl HI5.out _ _ _ L2 rfl HJ5.out ?c1 ?c2 ?c3 ?c4 ?_)
      case c1 => exact fun g _ hg => HPC.out.apart g q5 hg
      case c2 => have := HALL.out.2.2.2.1; omega
      case c3 => exact Nat.le_trans HALL.out.2.2.2.2 HM5.out.2.1.size
      case c4 =>
        intro g hg
        have h1 := HM5.out.1.lt.2
        have h2 := HALL.out.2.2.2.2
        have h3 := HM5.out.2.1.size
        omega
      intro v6 w6 hI6 hg6
      have R : Hid (Piecing w4 pg b cl.length v6 (.slice a6 (y.length - kk) c6) (.int .i64 ((k + 1 : Nat) : Int)) w6) := hide
        ⟨k + 1, q5, _, _, _, _, _, by omega, rfl, HPC.out.next HP4.out.2.2.1 HALL.out.1 HALL.out.2.1 HALL.out.2.2.1 HM5.out.1 HM5.out.2.1 HM5.out.2.2 hI6 hg6 HT6.out⟩
      clear hI6 hg6
      go_wp2_with (refine wp_from rfl (.tmp 47) (.tmp 48) rfl _ _ _ rfl rfl HRUN6.out ?_)
      go_roundw
      case rel => first | exact R.out | ((repeat apply Exists.intro); exact ⟨R.out, rfl⟩)
      case measure => simp [intOf]; omega
    · have hk2 : (cl.length : Int) ≤ (k : Int) := by omega
      have hyb : ∀ z ∈ y, Byte z := fun z hz => HBY.out z (by rw [hP.1]; simp [hz])
      have hxb : ∀ z ∈ x, Byte z := fun z hz => HBY.out z (by rw [hP.1]; simp [hz])
      have hyy : y = y ++ [] := by simp
      obtain ⟨L2, s, d2, hR⟩ := fruns_any d r y (hP.2.2.2.1.byte hxb) hyb hP.2.2.1.dead.1
      obtain ⟨hfew, -, -, hrb, hyl⟩ := hP.few HBY.out hyy hR
      have FE := hide (feed_any wr pg q r d (.slice ra y.length rc) y L2 s d2 hP.2.2.1 hrb hyb (hP.2.1.besides hBs (by have := hP.2.2.2.2.2.2; omega)) hks hR (by omega))
      have HPC := hide hP
      have HALL := hide (And.intro hxb (And.intro hyy (And.intro hR (And.intro hfew hBs.size))))
      clear hP hBs hBw hks hyb hxb hyy hR hfew hrb
      go_wp2_with fail
      refine FE.out.mono ?_
      rintro e w5 ⟨v5, q5, rfl, hF5, hBs5, hq5, hI5⟩
      have HI5 := hide (HPC.out.items HP4.out.2.2.1 hBs5 hq5)
      have HJ5 := hide hI5
      have HM5 := hide (And.intro hF5 (And.intro hBs5 hq5))
      clear hF5 hBs5 hq5 hI5 FE
      go_wp2_with (at_builtin; refine wp_append_all rfl (.tmp 51) (.tmp 54) rfl w4.heap.size (fun g => g < w4.heap.size ∨ g = q5) _ L rfl HI5.out _ _ _ L2 rfl HJ5.out ?c1 ?c2 ?c3 ?c4 ?_)
      case c1 => exact fun g _ hg => HPC.out.apart g q5 hg
      case c2 => have := HALL.out.2.2.2.1; omega
      case c3 => exact Nat.le_trans HALL.out.2.2.2.2 HM5.out.2.1.size
      case c4 =>
        intro g hg
        have h1 := HM5.out.1.lt.2
        have h2 := HALL.out.2.2.2.2
        have h3 := HM5.out.2.1.size
        omega
      intro v6 w6 hI6 hg6
      have hN := HPC.out.next (rv' := .slice none 0 0) HP4.out.2.2.1 HALL.out.1 HALL.out.2.1 HALL.out.2.2.1 HM5.out.1 HM5.out.2.1 HM5.out.2.2 hI6 hg6 (fun w' _ => Bytes.nil w')
      obtain ⟨e6, -, hF6, hR6, hI6', hB6, -⟩ := hN
      rw [List.append_nil] at e6
      rw [← e6] at hR6
      obtain ⟨eL, es, ed⟩ := HRW.out.one hR6
      rw [← es, ← ed] at hF6
      rw [← eL] at hI6'
      have h4 := HP4.out
      have hF6f : Flw w6 p q4 sw dw := HF4.out.beside hB6 (by omega) (by omega) (by omega) (by omega)
      have hW6 : Items w6 w3.heap.size (fun g => g < w3.heap.size ∨ g = q4) (.slice a4 Lw.length c4) Lw := HI4.out.move hB6.size (fun g hg ha => by
        have h1 : ¬ g < w3.heap.size := fun h => ha (Or.inl h)
        exact hB6.block g hg (by omega) (by omega)) (fun _ _ h => h)
      have SM := hide (same6_any Lw v6 (.slice a4 Lw.length c4) w6 hI6'.read hW6.read)
      have HF6 := hide hF6f
      have HG6 := hide hF6
      have HBZ : Hid (Below w.heap.size w w6) := hide (HB4.out.trans (hB6.ground (by omega) (by omega) HB4.out.size))
      clear e6 hF6 hR6 hI6' hB6 eL es ed h4 hF6f hW6 hI6 hg6 HPC HALL HI5 HJ5 HM5 HI4 HF4 HKS HP4
      go_wp2_with fail
      refine SM.out.mono ?_
      rintro e w7 ⟨rfl, hb7⟩
      have WF := hide (fwaits_any (HF6.out.on hb7))
      have WG := hide (fwaits_any (HG6.out.on hb7))
      have DF := hide (fdead_any (HF6.out.on hb7))
      have DG := hide (fdead_any (HG6.out.on hb7))
      have HB7 := hide (below_on HBZ.out hb7)
      clear hb7 HF6 HG6 HBZ SM
      go_wp2_with fail
      refine WF.out.mono ?_
      rintro e wz ⟨rfl, hz⟩
      rw [hz]
      clear hz wz
      go_wp2_with fail
      refine WG.out.mono ?_
      rintro e wz ⟨rfl, hz⟩
      rw [hz]
      clear hz wz
      go_wp2_with fail
      refine DF.out.mono ?_
      rintro e wz ⟨rfl, hz⟩
      rw [hz]
      clear hz wz
      go_wp2_with fail
      refine DG.out.mono ?_
      rintro e wz ⟨rfl, hz⟩
      rw [hz]
      clear hz wz
      go_wp2
      go_ret
      exact ⟨by simp, HB7.out⟩

set_option maxRecDepth 100000 in
theorem flowPieces_lifted (os : Os) (started : os.Started) (H : Type) (enc : TypeId × Value → H) :
    ReturnsInHanded {} Tryd.checked os 4 .any (fun w args => (Rows.flowPiecesSpec.pre enc Tryd.prog Tryd.f4 [] false w args ∧ laidMetH Tryd.prog laid3 w) ∧ sizedMet enc Tryd.prog Tryd.f4 (OpenSpec.ofChange Rows.flowPiecesSpec) false w args)
      (Rows.flowPiecesSpec.post enc Tryd.prog Tryd.f4 false true false false) := by
  refine returnsInHanded_of_change_and (C := Tryd.checked) (X := fun w _ => laidMetH Tryd.prog laid3 w) (fun _ _ _ hh h => h.of_heap hh) own started (by kernel_rfl) Tryd.func4
    (ChangeSpec.witness_shaped (enc := enc) (C := Tryd.checked) (os := os) (X := fun w _ => laidMetH Tryd.prog laid3 w) false (World.laidAll Tryd.prog os laid3) #[.slice none 0 0, .slice none 0 0] 8 (World.laidAll_os _ _ _) (World.shaped_of_ZipB (by kernel_rfl) (by kernel_rfl)) (by kernel_rfl) (by kernel_rfl) (by kernel_rfl) (laid_met os _)) ?_
  intro W base args ds gs before hval0 hW _ _ hL _
  have hval : ∀ (j : Nat) t v, Tryd.f4.params[j]? = some t → args[j]? = some v → Value.okWide Tryd.prog W .any base t v := hval0
  have hW' := hW
  obtain ⟨p, q, hA0, hV, rfl, hfz, hnd⟩ := hW
  have hA : DataW.TrodAll enc Tryd.prog W 0 (fun _ => true) true Tryd.f4.params.toList args.toList ds p := hA0
  rw [Tryd.params4] at hA hval
  obtain ⟨v0, vs0, d0, ds0, p0, q0, hargs, rfl, rfl, h0, r0⟩ := trodAll_cons hA
  obtain ⟨v1, vs1, d1, ds1, p1, q1, rfl, rfl, rfl, h1, r1⟩ := trodAll_cons r0
  obtain ⟨rfl, rfl, rfl⟩ := trodAll_nil r1
  obtain rfl : args = #[v0, v1] := by cases args; simp_all
  obtain ⟨rfl, rfl⟩ := trodVars_none hV
  obtain ⟨b0, len0, cap0, rfl⟩ := okWide_slice Tryd.underlying28 (hval 0 28 v0 rfl rfl)
  have k0 := h0
  have lt0 : ∀ x ∈ p0, x.block < W.heap.size := by obtain ⟨m, hm⟩ := k0; exact DataW.trod_lt m _ _ _ hm
  obtain ⟨l0, s0, w0⟩ : ∃ l, Bytes W (.slice b0 len0 cap0) l ∧ ∀ z ∈ l, Byte z := by
    obtain ⟨fuel, hf⟩ := h0
    rcases open_ints Tryd.underlying28 Tryd.underlying5 (by kernel_rfl) hf with ⟨hcs, _⟩ | ⟨x, l, c, zs, hcs, _, hl, hm, hz, _, hcell, hwz⟩
    · simp [Value.cells] at hcs
      obtain ⟨rfl, rfl, rfl⟩ := hcs
      exact ⟨[], Bytes.nil _, by simp⟩
    · simp [Value.cells] at hcs
      obtain ⟨rfl, rfl, rfl⟩ := hcs
      exact bytes_row hl hm (by simpa using hz) hcell hwz
  obtain ⟨b1, len1, cap1, rfl⟩ := okWide_slice Tryd.underlying35 (hval 1 35 v1 rfl rfl)
  have k1 := h1
  have lt1 : ∀ x ∈ p1, x.block < W.heap.size := by obtain ⟨m, hm⟩ := k1; exact DataW.trod_lt m _ _ _ hm
  obtain ⟨l1, s1, w1⟩ : ∃ l, Shorts W (.slice b1 len1 cap1) l ∧ ∀ z ∈ l, 0 ≤ z ∧ z < 65536 := by
    obtain ⟨fuel, hf⟩ := h1
    rcases open_ints Tryd.underlying35 Tryd.underlying36 (by kernel_rfl) hf with ⟨hcs, _⟩ | ⟨x, l, c, zs, hcs, _, hl, hm, hz, _, hcell, hwz⟩
    · simp [Value.cells] at hcs
      obtain ⟨rfl, rfl, rfl⟩ := hcs
      exact ⟨[], Shorts.nil _, by simp⟩
    · simp [Value.cells] at hcs
      obtain ⟨rfl, rfl, rfl⟩ := hcs
      exact shorts_row hl hm (by simpa using hz) hcell hwz
  clear hA0 hval0
  refine (flowPieces_walk (w := W) (ks_of_laid hL) _ l0 w0 s0 _ l1 w1 s1).mono fun e W' ⟨he, bel⟩ => ?_
  subst he
  exact ⟨_, rfl, _, _, _, [], _, [], hW', trodAll_mk1 (shut_bool Tryd.underlying4 _), (trodAll_cons_mk (Below.trod laidOut (by kernel_rfl) (of_decide_eq_true (by kernel_rfl)) k0 bel lt0) (trodAll_cons_mk (Below.trod laidOut (by kernel_rfl) (of_decide_eq_true (by kernel_rfl)) k1 bel lt1) trodAll_mk0)), rfl, bel.frame _, fun h => by cases h⟩

theorem flowPieces_holds : Rows.FlowPiecesSaid :=
  OpenClaim.holds_of_wide 4 Tryd.f4 rfl rfl rfl rfl rfl rfl rfl ⟨rfl, rfl, rfl, rfl, rfl⟩ rfl rfl rfl rfl rfl (by kernel_rfl) Tryd.func4 (by kernel_rfl)
    (of_decide_eq_true (by kernel_rfl)) (by unfold Func.isWrapper; first | (rw [if_pos (by decide +kernel)]; kernel_rfl) | (rw [if_neg (by decide +kernel)]; exact ⟨rfl, rfl⟩))
    (fun os started H enc _ => flowPieces_lifted os started H enc)
#print axioms flowPieces_holds
theorem flowPieces_card : Rows.FlowPiecesCardSaid :=
  Claim7.holds_tied_plain_at .later [] [.data, .data, .pinned] true (true, "8364c1d0cfa2ab96fb62bcc5beefd4505f8925a4338fe93582091888f38a8326") false
    flowPieces_holds (fun _ h => by cases h) (by kernel_rfl) (fun _ h => by cases h) flowPieces_row_tie rfl ⟨rfl, rfl⟩ (by kernel_rfl) rfl
    (fun f fn hf hfn => by
      obtain rfl : f = 4 := Option.some.inj ((show Tryd.prog.funcNamed "pappus/pappuslaw06.FlowPieces" = some 4 by kernel_rfl).symm.trans hf) |>.symm
      obtain rfl : fn = Tryd.f4 := (Option.some.inj (Tryd.func4.symm.trans hfn)).symm
      exact ⟨by kernel_rfl, fun j t ht => by
        rw [Tryd.params4] at ht
        have hm : t ∈ [28, 35] := by simpa using Array.mem_of_getElem? ht
        have hall : ([28, 35].all fun u => !Tryd.prog.wantsStandIn u) = true := by kernel_rfl
        exact (show Tryd.prog.wantsStandIn t = false by simpa using List.all_eq_true.1 hall t hm)⟩)
    (by kernel_rfl)
#print axioms flowPieces_card
end Go.Proofs.YtnjbjgjhomfndaaDoor
