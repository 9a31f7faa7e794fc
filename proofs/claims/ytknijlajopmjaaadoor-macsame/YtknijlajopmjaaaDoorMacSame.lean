/-
  MacSame: of whatever bytes, they are the same as they are, and aren't with a bit turned, one fewer, or one more, and two are the same just if the document says so: the call returns true, and the arguments read as before.
-/
import Derived.Test.YtknijlajopmjaaaDoorMacAlive
import Derived.Test.YtknijlajopmjaaaDoorShaLaw
import Derived.Test.YtknijlajopmjaaaDoorShaRows
import Derived.Test.YtknijlajopmjaaaDoorSame
import Derived.Test.YtknijlajopmjaaaDoorKeep
namespace Go.Proofs.YtknijlajopmjaaaDoor
open Go.ChangeShapes Go.WideShapes Go.ChangeAt Go.RowKit

theorem u16_wf {x : Int} (h : (Lit.int .u16 x).wf = true) : 0 ≤ x ∧ x < 65536 := by
  simp [Lit.wf, IntKind.min, IntKind.max, IntKind.signed, IntKind.bits] at h
  exact ⟨by omega, by omega⟩
theorem u16_of_wf {x : Int} (h : (Lit.int .u16 x).wf = true) : 0 ≤ x ∧ x < 65536 := u16_wf h
theorem bit_turned : ∀ j : Nat, j < 8 → ∀ n : Nat, n < 256 → bits .xor .u8 (n : Int) (2 ^ j) ≠ (n : Int) := by decide +kernel
theorem byte_turned {z : Int} (h : Byte z) (j : Nat) (hj : j < 8) : bits .xor .u8 z (2 ^ j) ≠ z := by
  obtain ⟨h0, h1⟩ := h
  have := bit_turned j hj z.toNat (by omega)
  rwa [Int.toNat_of_nonneg h0] at this
theorem set_ne {l : List Int} {i : Nat} (hi : i < l.length) {x : Int} (hx : x ≠ l.getD i 0) : ¬ l = l.set i x := by
  intro e
  have := congrArg (fun m => m.getD i 0) e
  simp [List.getD, hi] at this hx
  exact hx this.symm
set_option maxRecDepth 100000 in
set_option maxHeartbeats 1000000 in
theorem macSame_walk {w : World} (hk : Ks w) (v : Value) (l : List Int) (hl : ∀ z ∈ l, Byte z) (hv : Bytes w v l) (u : Value) (m : List Int) (hm : ∀ z ∈ m, Byte z) (hu : Bytes w u m) (t : Int) (ht : 0 ≤ t ∧ t < 65536) :
    Calls Tryd.prog 7 #[v, u, .int .u16 t] w fun e w' => e = .returned (.bool true) ∧ Below w.heap.size w w' := by
  have A := hide (malive_any _ hk)
  have HV := hide hv
  have HU := hide hu
  have HL := hide hl
  have HM := hide hm
  obtain ⟨a, cap, rfl, hc1, hc2⟩ := hv.form
  obtain ⟨ua, ucap, rfl, hd1, hd2⟩ := hu.form
  clear hk hv hu hl hm
  by_cases h1 : 10000 < l.length
  · have hb : (10000 : Int) < (l.length : Int) := by omega
    clear h1
    go_enter Tryd.func7, Tryd.ntmps7
    go_wp2_with fail
    refine A.out.mono ?_
    rintro e w1 ⟨rfl, hbel1⟩
    have HB1 := hide hbel1
    clear hbel1
    go_wp2
    go_ret
    exact ⟨rfl, HB1.out⟩
  by_cases h2 : 10000 < m.length
  · have hb : (10000 : Int) < (m.length : Int) := by omega
    have hb' : (l.length : Int) ≤ 10000 := by omega
    clear h2 h1
    go_enter Tryd.func7, Tryd.ntmps7
    go_wp2_with fail
    refine A.out.mono ?_
    rintro e w1 ⟨rfl, hbel1⟩
    have HB1 := hide hbel1
    clear hbel1
    go_wp2
    go_ret
    exact ⟨rfl, HB1.out⟩
  have b1 : (l.length : Int) ≤ 10000 := by omega
  have b2 : (m.length : Int) ≤ 10000 := by omega
  have HS : Hid (l.length ≤ 10000) := hide (by omega)
  clear h1 h2
  go_enter Tryd.func7, Tryd.ntmps7
  go_wp2_with fail
  refine A.out.mono ?_
  rintro e w1 ⟨rfl, hbel1⟩
  have HB1 := hide hbel1
  have HV1 := hide (HV.out.below hbel1)
  have HU1 := hide (HU.out.below hbel1)
  have HO := hide (Own.made w1 w1.heap.size (Nat.le_refl _))
  have HWA := hide (HV1.out.alloc (.cells #[] 5))
  clear hbel1 A
  go_wp2_with (refine wp_append rfl (.tmp 18) (.tmp 19) rfl w1.heap.size _ [] rfl HO.out _ l rfl HWA.out (by have := HS.out; simp; omega) (by rw [alloc_size]; omega) ?_)
  intro v2 w2 ho2 hb2
  have hO2 : Own w2 w1.heap.size v2 l := by simpa using ho2
  have hB2 : Below w1.heap.size w1 w2 := ((Below.refl _ _).alloc (Nat.le_refl _) _).trans hb2
  have HO2 := hide hO2
  have HB2 := hide hB2
  have HV2 := hide (HV1.out.below hB2)
  have HU2 := hide (HU1.out.below hB2)
  have E1 := msame_any l l _ _ w2 HV2.out hO2.bytes HL.out HL.out
  rw [decide_eq_true (rfl : l = l)] at E1
  have E1 := hide E1
  obtain ⟨a2, cap2, rfl, -, -⟩ := hO2.bytes.form
  clear ho2 hb2 hO2 hB2 HO HWA HV1 HU1
  have HBZ : Hid (Bytes (w2.alloc (.cells #[.int .u8 0] 5)) (.slice (some ⟨w2.heap.size, 0, none⟩) 1 1) [0]) := hide (Bytes.one w2 0)
  have HO3 := hide (HO2.out.alloc (.cells #[.int .u8 0] 5))
  have HSZ2 := hide HB2.out.size
  go_wp2_with fail
  refine E1.out.mono ?_
  rintro e w3 ⟨rfl, rfl⟩
  clear E1
  go_wp2_with (refine wp_append_keep (by rfl) (.tmp 27) (.tmp 28) rfl w1.heap.size _ l rfl HO3.out _ [0] rfl HBZ.out (by simp) (by have := HS.out; simp; omega) (by rw [alloc_size]; have := HSZ2.out; omega) ?_)
  intro v4 w4 ho4 hk4 hb4
  have hB4 : Below w1.heap.size w1 w4 := (HB2.out.alloc HB2.out.size _).trans hb4
  have HB4 := hide hB4
  have HV4 := hide ((HV.out.below HB1.out).below hB4)
  have HU4 := hide ((HU.out.below HB1.out).below hB4)
  have HK4 := hide hk4
  have hlen4 : (l ++ [0]).length = l.length + 1 := by simp
  have E2 := msame_any l (l ++ [0]) _ _ w4 HV4.out ho4.bytes HL.out (by intro z hz; rcases List.mem_append.1 hz with h | h; exact HL.out z h; simp at h; subst h; exact ⟨by decide, by decide⟩)
  rw [decide_eq_false (show ¬ l = l ++ [0] from fun e => by have := congrArg List.length e; simp at this)] at E2
  have E3 := msame_any l m _ _ w4 HV4.out HU4.out HL.out HM.out
  have E4 := same_any l m _ _ w4 HV4.out HU4.out
  have hf4 := ho4.bytes.form
  rw [hlen4] at hf4
  obtain ⟨a4, cap4, rfl, -, -⟩ := hf4
  have E2 := hide E2
  have E3 := hide E3
  have E4 := hide E4
  clear ho4 hk4 hb4 hB4 hlen4 HBZ HO3 HO2 HB2
  generalize decide (l = m) = d at *
  go_wp2_with fail
  refine E2.out.mono ?_
  rintro e w5 ⟨rfl, rfl⟩
  clear E2
  go_wp2_with fail
  refine E3.out.mono ?_
  rintro e w6 ⟨rfl, rfl⟩
  clear E3
  go_wp2_with fail
  refine E4.out.mono ?_
  rintro e w7 ⟨rfl, n7, h7⟩
  have hB67 : Below w6.heap.size w6 w7 := by rw [h7]; exact ⟨rfl, rfl, rfl, Nat.le_refl _, fun _ _ => rfl⟩
  have hB7 : Below w.heap.size w w7 := below_on (below_on HB1.out HB4.out) hB67
  have HB7 := hide hB7
  have HV7 := hide (HV.out.below hB7)
  have HH7 := hide h7
  clear E4 h7
  by_cases h0 : l.length = 0
  · have h0' : ((l.length : Int) == 0) = true := by simp [h0]
    clear h0
    go_wp2
    go_ret
    exact ⟨rfl, HB7.out⟩
  · have hp : 0 < l.length := by omega
    have h0' : ((l.length : Int) == 0) = false := by rw [beq_eq_false_iff_ne]; omega
    obtain ⟨b, hbb, hbl, ⟨a', cap', e, hr1, hr2, hr3⟩, hA6⟩ := Rowed.of HK4.out (by
      obtain ⟨_, ⟨-, h00⟩ | ⟨g, cp, cur, -, hbg, hg, -⟩⟩ := HK4.out
      · omega
      · have := (Array.getElem?_eq_some_iff.1 hg).1
        omega)
    simp only [Value.slice.injEq, true_and] at e
    obtain ⟨rfl, rfl⟩ := e
    obtain rfl := hr3 hp
    have hA7 := hA6.on hB67
    obtain ⟨i, hi⟩ : ∃ i : Nat, t / 8 % (l.length : Int) = (i : Int) := ⟨(t / 8 % (l.length : Int)).toNat, (Int.toNat_of_nonneg (Int.emod_nonneg _ (by omega))).symm⟩
    have hil : i < l.length := by have := Int.emod_lt_of_pos (t / 8) (show (0 : Int) < (l.length : Int) by omega); omega
    obtain ⟨j, hj⟩ : ∃ j : Nat, t % 8 = (j : Int) := ⟨(t % 8).toNat, by omega⟩
    have hj8 : j < 8 := by omega
    have c0 := hA7.cell0 i hil
    have c1 := hA7.free0 i hil
    have hz : Byte (l.getD i 0) := HL.out _ (by simp [List.getD, hil])
    have hY : (2 : Int) ^ j % 256 = 2 ^ j := by
      rcases (show j = 0 ∨ j = 1 ∨ j = 2 ∨ j = 3 ∨ j = 4 ∨ j = 5 ∨ j = 6 ∨ j = 7 by omega) with rfl | rfl | rfl | rfl | rfl | rfl | rfl | rfl <;> decide
    have hx := byte_turned hz j hj8
    rw [← hY] at hx
    have hil' : (i : Int) < (l.length : Int) := by omega
    obtain ⟨q, hq⟩ : ∃ q : Int, t / 8 = q := ⟨_, rfl⟩
    have hq0 : 0 ≤ q := by omega
    have hq8 : q < 8192 := by omega
    have hq1 : IntKind.u16.wrap (t.tdiv 8) = q := by rw [Int.tdiv_eq_ediv_of_nonneg (by omega), hq]; simp [IntKind.wrap, IntKind.bits, IntKind.signed]; omega
    rw [hq] at hi
    have hq2 : q.tmod (l.length : Int) = (i : Int) := by rw [Int.tmod_eq_emod_of_nonneg hq0, hi]
    have hj1 : IntKind.u16.wrap (t.tmod 8) = (j : Int) := by rw [Int.tmod_eq_emod_of_nonneg (by omega), hj]; simp [IntKind.wrap, IntKind.bits, IntKind.signed]; omega
    clear hq
    have h1w : w.heap.size ≤ w1.heap.size := HB1.out.size
    have HBB : Hid (w.heap.size ≤ b) := hide (by omega)
    have HA7 := hide hA7
    obtain ⟨X, hX⟩ : ∃ X, X = bits .xor .u8 (l.getD i 0) ((2 : Int) ^ j % 256) := ⟨_, rfl⟩
    rw [← hX] at hx
    have hXb : Byte X := by rw [hX]; exact byte_of_wf (wf_bits _ _ _ _)
    have hBs : Below w.heap.size w (w7.setCell ⟨b, i, none⟩ (.int .u8 X)) := HB7.out.setCell HBB.out _
    have HBs := hide hBs
    have hVs := HV.out.below hBs
    have hcs : Bytes (w7.setCell ⟨b, i, none⟩ (.int .u8 X)) (.slice (some ⟨b, 0, none⟩) l.length cap2) (l.set i X) := (hA7.set0 i hil X).bytesAt (by simp) hr1 hr2
    have E5 := msame_any l (l.set i X) _ _ _ hVs hcs HL.out (fun y hy => by rcases List.mem_or_eq_of_mem_set hy with h | h; exact HL.out y h; subst h; exact hXb)
    rw [decide_eq_false (set_ne hil hx)] at E5
    obtain ⟨a1, c1', t1, t2⟩ := tail_of a l.length cap 1 .i64 hp
    have E6 := msame_any (l.drop 1) l _ _ _ (t2 _ l hVs) hVs (fun y hy => HL.out y (List.mem_of_mem_drop hy)) HL.out
    rw [decide_eq_false (show ¬ l.drop 1 = l from fun e => by have := congrArg List.length e; simp at this; omega)] at E6
    have E5 := hide E5
    have E6 := hide E6
    have T1 : Hid (∀ w, (Instr.slice 22 (.slice a l.length cap) (some (.int .i64 1)) none none).run Tryd.prog w = .ok (.slice a1 (l.length - 1) c1') w) := hide t1
    clear hA6 hA7 hB67 hB7 HK4 hx hr1 hr2 hr3 hbb hbl h0 hBs hVs hcs t1 t2 hXb hz hil hj8 hY
    generalize l.getD i 0 = z at *
    have HXX := hide hX
    clear hX
    go_wp2_with fail
    rw [← HXX.out]
    generalize w7.setCell ⟨b, i, none⟩ (.int .u8 X) = W8 at *
    refine E5.out.mono ?_
    rintro e w9 ⟨rfl, rfl⟩
    go_wp2_with (refine wp_from_g (by rfl) (.tmp 63) (.const (.int .i64 1)) rfl _ _ _ rfl rfl T1.out ?_)
    refine E6.out.mono ?_
    rintro e w10 ⟨rfl, rfl⟩
    go_wp2
    go_ret
    exact ⟨rfl, HBs.out⟩

set_option maxRecDepth 100000 in
theorem macSame_lifted (os : Os) (started : os.Started) (H : Type) (enc : TypeId × Value → H) :
    ReturnsInHanded {} Tryd.checked os 7 .any (fun w args => (Rows.macSameSpec.pre enc Tryd.prog Tryd.f7 [] false w args ∧ laidMetH Tryd.prog laid1 w) ∧ sizedMet enc Tryd.prog Tryd.f7 (OpenSpec.ofChange Rows.macSameSpec) false w args)
      (Rows.macSameSpec.post enc Tryd.prog Tryd.f7 false true false false) := by
  refine returnsInHanded_of_change_and (C := Tryd.checked) (X := fun w _ => laidMetH Tryd.prog laid1 w) (fun _ _ _ hh h => h.of_heap hh) own started (by kernel_rfl) Tryd.func7
    (ChangeSpec.witness_shaped (enc := enc) (C := Tryd.checked) (os := os) (X := fun w _ => laidMetH Tryd.prog laid1 w) false (World.doorLaid Tryd.prog 14 os) #[.slice none 0 0, .slice none 0 0, .int .u16 0] 8 rfl (World.shaped_of_RefB (by kernel_rfl) (by kernel_rfl)) (by kernel_rfl) (by kernel_rfl) (by kernel_rfl) (door_met os _)) ?_
  intro W base args ds gs before hval0 hW _ _ hL _
  have hval : ∀ (j : Nat) t v, Tryd.f7.params[j]? = some t → args[j]? = some v → Value.okWide Tryd.prog W .any base t v := hval0
  have hW' := hW
  obtain ⟨p, q, hA0, hV, rfl, hfz, hnd⟩ := hW
  have hA : DataW.TrodAll enc Tryd.prog W 0 (fun _ => true) true Tryd.f7.params.toList args.toList ds p := hA0
  rw [Tryd.params7] at hA hval
  obtain ⟨v0, vs0, d0, ds0, p0, q0, hargs, rfl, rfl, h0, r0⟩ := trodAll_cons hA
  obtain ⟨v1, vs1, d1, ds1, p1, q1, rfl, rfl, rfl, h1, r1⟩ := trodAll_cons r0
  obtain ⟨v2, vs2, d2, ds2, p2, q2, rfl, rfl, rfl, h2, r2⟩ := trodAll_cons r1
  obtain ⟨rfl, rfl, rfl⟩ := trodAll_nil r2
  obtain rfl : args = #[v0, v1, v2] := by cases args; simp_all
  obtain ⟨rfl, rfl⟩ := trodVars_none hV
  obtain ⟨b0, len0, cap0, rfl⟩ := okWide_slice Tryd.underlying22 (hval 0 22 v0 rfl rfl)
  have k0 := h0
  have lt0 : ∀ x ∈ p0, x.block < W.heap.size := by obtain ⟨m, hm⟩ := k0; exact DataW.trod_lt m _ _ _ hm
  obtain ⟨l0, s0, w0⟩ : ∃ l, Bytes W (.slice b0 len0 cap0) l ∧ ∀ z ∈ l, Byte z := by
    obtain ⟨fuel, hf⟩ := h0
    rcases open_ints Tryd.underlying22 Tryd.underlying5 (by kernel_rfl) hf with ⟨hcs, _⟩ | ⟨x, l, c, zs, hcs, _, hl, hm, hz, _, hcell, hwz⟩
    · simp [Value.cells] at hcs
      obtain ⟨rfl, rfl, rfl⟩ := hcs
      exact ⟨[], Bytes.nil _, by simp⟩
    · simp [Value.cells] at hcs
      obtain ⟨rfl, rfl, rfl⟩ := hcs
      exact bytes_row hl hm (by simpa using hz) hcell hwz
  obtain ⟨b1, len1, cap1, rfl⟩ := okWide_slice Tryd.underlying22 (hval 1 22 v1 rfl rfl)
  have k1 := h1
  have lt1 : ∀ x ∈ p1, x.block < W.heap.size := by obtain ⟨m, hm⟩ := k1; exact DataW.trod_lt m _ _ _ hm
  obtain ⟨l1, s1, w1⟩ : ∃ l, Bytes W (.slice b1 len1 cap1) l ∧ ∀ z ∈ l, Byte z := by
    obtain ⟨fuel, hf⟩ := h1
    rcases open_ints Tryd.underlying22 Tryd.underlying5 (by kernel_rfl) hf with ⟨hcs, _⟩ | ⟨x, l, c, zs, hcs, _, hl, hm, hz, _, hcell, hwz⟩
    · simp [Value.cells] at hcs
      obtain ⟨rfl, rfl, rfl⟩ := hcs
      exact ⟨[], Bytes.nil _, by simp⟩
    · simp [Value.cells] at hcs
      obtain ⟨rfl, rfl, rfl⟩ := hcs
      exact bytes_row hl hm (by simpa using hz) hcell hwz
  obtain ⟨a2, rfl, rfl, rfl, w2⟩ := open_int Tryd.underlying44 (hval 2 44 v2 rfl rfl) h2
  clear hA0 hval0
  refine (macSame_walk (w := W) (ks_of_laid hL) _ l0 w0 s0 _ l1 w1 s1 a2 (u16_of_wf w2)).mono fun e W' ⟨he, bel⟩ => ?_
  subst he
  exact ⟨_, rfl, _, _, _, [], _, [], hW', trodAll_mk1 (shut_bool Tryd.underlying4 _), (trodAll_cons_mk (Below.trod laidOut (by kernel_rfl) (of_decide_eq_true (by kernel_rfl)) k0 bel lt0) (trodAll_cons_mk (Below.trod laidOut (by kernel_rfl) (of_decide_eq_true (by kernel_rfl)) k1 bel lt1) (trodAll_cons_mk (shut_int Tryd.underlying44 w2) trodAll_mk0))), rfl, bel.frame _, fun h => by cases h⟩

theorem macSame_holds : Rows.MacSameSaid :=
  OpenClaim.holds_of_wide 7 Tryd.f7 rfl rfl rfl rfl rfl rfl rfl ⟨rfl, rfl, rfl, rfl, rfl⟩ rfl rfl rfl rfl rfl (by kernel_rfl) Tryd.func7 (by kernel_rfl)
    (of_decide_eq_true (by kernel_rfl)) (by unfold Func.isWrapper; first | (rw [if_pos (by decide +kernel)]; kernel_rfl) | (rw [if_neg (by decide +kernel)]; exact ⟨rfl, rfl⟩))
    (fun os started H enc _ => macSame_lifted os started H enc)
#print axioms macSame_holds
theorem macSame_card : Rows.MacSameCardSaid :=
  Claim7.holds_tied_plain_at .later [] [.data] true (true, "173da7fa971a5d4b19b9988b9cc45fa2aa5c8cacbb2b37105ebacdc430575515") false
    macSame_holds (fun _ h => by cases h) (by kernel_rfl) (fun _ h => by cases h) macSame_row_tie rfl ⟨rfl, rfl⟩ (by kernel_rfl) rfl
    (fun f fn hf hfn => by
      obtain rfl : f = 7 := Option.some.inj ((show Tryd.prog.funcNamed "pappus/pappuslaw04.MacSame" = some 7 by kernel_rfl).symm.trans hf) |>.symm
      obtain rfl : fn = Tryd.f7 := (Option.some.inj (Tryd.func7.symm.trans hfn)).symm
      exact ⟨by kernel_rfl, fun j t ht => by
        rw [Tryd.params7] at ht
        have hm : t ∈ [22, 22, 44] := by simpa using Array.mem_of_getElem? ht
        have hall : ([22, 22, 44].all fun u => !Tryd.prog.wantsStandIn u) = true := by kernel_rfl
        exact (show Tryd.prog.wantsStandIn t = false by simpa using List.all_eq_true.1 hall t hm)⟩)
    (by kernel_rfl)
#print axioms macSame_card
end Go.Proofs.YtknijlajopmjaaaDoor
