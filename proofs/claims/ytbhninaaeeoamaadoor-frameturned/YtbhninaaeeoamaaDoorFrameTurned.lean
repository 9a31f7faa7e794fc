/-
  FrameTurned: of whatever command, body and place, a frame with one bit turned: in its magic it is none; in its sum, or in its body where the checks differ, its sum is wrong: the call returns true, and the arguments read as before.
-/
import Derived.Test.YtbhninaaeeoamaaDoorFrLaw
import Derived.Test.YtbhninaaeeoamaaDoorFrAlive
import Derived.Test.YtbhninaaeeoamaaDoorFrTurn
import Derived.Test.YtbhninaaeeoamaaDoorRefSha
import Derived.Test.YtbhninaaeeoamaaDoorKitA
namespace Go.Proofs.YtbhninaaeeoamaaDoor
open Go.ChangeShapes Go.WideShapes Go.ChangeAt Go.RowKit

set_option maxRecDepth 100000 in
set_option maxHeartbeats 1000000 in
theorem frameTurned_walk {w : World} (hk : Ks w) (s : ByteArray) (hs : s.size ≤ 9223372036854775807) (v : Value) (l : List Int) (hb : ∀ z ∈ l, Byte z) (hv : Bytes w v l) (t : Int) (ht : 0 ≤ t ∧ t < 65536) :
    Calls Tryd.prog 8 #[.string s, v, .int .u16 t] w fun e w' => e = .returned (.bool true) ∧ Below w.heap.size w w' := by
  have HK := hide hk
  have HV := hide hv
  have A := hide (alive_any w hk)
  have P := hide (fun wx (h : Bytes wx v l) (k : Ks wx) => fput_any wx s v l h k hs)
  obtain ⟨t0, t1⟩ := ht
  rcases fp_cases (strL s) l with ⟨hn, hE⟩ | ⟨hn, hl, hE⟩ | ⟨hn, hl, hE, hL⟩
  case inr.inr =>
    unfold FPutDone at P
    rw [hE, hL] at P
    have hfl := frameL_length hn l
    have HFB := hide (frameL_byte hn hb)
    have RC := hide (fun wx p m (h : Bytes wx p m) (j : m.length ≤ 5000) => rcheck_any wx p m h j)
    change Hid (∀ wx p m, Bytes wx p m → m.length ≤ 5000 → Calls Tryd.prog 19 #[p] wx fun e w' => e = .returned (.int .u32 (chk m)) ∧ Below wx.heap.size wx w') at RC
    -- the place, the bit
    obtain ⟨i, hi⟩ : ∃ i : Nat, t / 8 % ((frameL (strL s) l).length : Int) = (i : Int) := ⟨(t / 8 % ((frameL (strL s) l).length : Int)).toNat, (Int.toNat_of_nonneg (Int.emod_nonneg _ (by omega))).symm⟩
    have hil : i < (frameL (strL s) l).length := by have := Int.emod_lt_of_pos (t / 8) (show (0 : Int) < ((frameL (strL s) l).length : Int) by omega); omega
    obtain ⟨j, hj⟩ : ∃ j : Nat, t % 8 = (j : Int) := ⟨(t % 8).toNat, by omega⟩
    have hj8 : j < 8 := by omega
    have hz : Byte ((frameL (strL s) l).getD i 0) := HFB.out _ (by simp [List.getD, hil])
    have hY : (2 : Int) ^ j % 256 = 2 ^ j := by
      rcases (show j = 0 ∨ j = 1 ∨ j = 2 ∨ j = 3 ∨ j = 4 ∨ j = 5 ∨ j = 6 ∨ j = 7 by omega) with rfl | rfl | rfl | rfl | rfl | rfl | rfl | rfl <;> decide
    have hx := byte_turned hz j hj8
    rw [← hY] at hx
    obtain ⟨q, hq⟩ : ∃ q : Int, t / 8 = q := ⟨_, rfl⟩
    have hq0 : 0 ≤ q := by omega
    have hq8 : q < 8192 := by omega
    have hq1 : IntKind.u16.wrap (t.tdiv 8) = q := by rw [Int.tdiv_eq_ediv_of_nonneg (by omega), hq]; simp [IntKind.wrap, IntKind.bits, IntKind.signed]; omega
    rw [hq] at hi
    have hq2 : q.tmod ((frameL (strL s) l).length : Int) = (i : Int) := by rw [Int.tmod_eq_emod_of_nonneg hq0, hi]
    have hj1 : IntKind.u16.wrap (t.tmod 8) = (j : Int) := by rw [Int.tmod_eq_emod_of_nonneg (by omega), hj]; simp [IntKind.wrap, IntKind.bits, IntKind.signed]; omega
    clear hq
    obtain ⟨X, hX⟩ : ∃ X, X = bits .xor .u8 ((frameL (strL s) l).getD i 0) ((2 : Int) ^ j % 256) := ⟨_, rfl⟩
    rw [← hX] at hx
    have hXb : Byte X := by rw [hX]; exact byte_of_wf (wf_bits _ _ _ _)
    have G := hide (fun wx p (h : Bytes wx p ((frameL (strL s) l).set i X)) (k : Ks wx) => fget_any wx p _ h (fun z hz => by
      rcases List.mem_or_eq_of_mem_set hz with h | h
      · exact HFB.out z h
      · subst h; exact hXb) k)
    unfold GetDone at G
    have T1 := hide (fun h4 : i < 4 => turned_magic hn hl (X := X) h4 hx)
    have T2 := hide (fun (h20 : 20 ≤ i) (h24 : i < 24) => turned_sum hn hl h20 h24 hXb hx)
    have T3 := hide (fun h24 : 24 ≤ i => turned_body hn hl (X := X) h24)
    have HFL := hide hfl
    have hF1 : 0 < (frameL (strL s) l).length := by omega
    have hF2 : (frameL (strL s) l).length ≤ 2072 := by omega
    have hF0 : (((frameL (strL s) l).length : Int) == 0) = false := beq_eq_false_iff_ne.2 (by omega)
    have hil' : (i : Int) < ((frameL (strL s) l).length : Int) := by omega
    have HH := hide (headL_length (c := strL s) (named_all hn).2.1 l.length (chk l))
    obtain ⟨a, cap, rfl, hc1, hc2⟩ := hv.form
    clear hv hk hn hE hL hb hfl hz hY hj8 hx hXb HFB
    generalize hFF : frameL (strL s) l = F at *
    clear hFF
    obtain ⟨z0, hz0⟩ : ∃ z, F.getD i 0 = z := ⟨_, rfl⟩
    rw [hz0] at hX
    have HZ0 := hide hz0
    clear hz0
    have HX := hide hX
    clear hX
    go_enter Tryd.func8, Tryd.ntmps8
    go_wp2_with fail
    refine A.out.mono ?_
    rintro e w1 ⟨rfl, hbel1⟩
    have HB1 := hide hbel1
    clear hbel1
    go_wp2_with fail
    refine (P.out _ (HV.out.below HB1.out) (HK.out.on HB1.out)).mono ?_
    rintro e w2 ⟨v2, rfl, hm2, -, hbel2⟩
    have hm2 := hm2 trivial
    have HB2 := hide (below_on HB1.out hbel2)
    obtain ⟨b2, cap2, rfl, hq3, hq4, hq5, hA⟩ := hm2
    have HQ5 : Hid (w.heap.size ≤ b2) := hide (by have := HB1.out.size; omega)
    have c0 := hA.cell0 i hil
    have c1 := hA.free0 i hil
    rw [HZ0.out] at c0
    have hBs : Below w.heap.size w (w2.setCell ⟨b2, i, none⟩ (.int .u8 X)) := HB2.out.setCell HQ5.out _
    have hVs : Bytes (w2.setCell ⟨b2, i, none⟩ (.int .u8 X)) (.slice (some ⟨b2, 0, none⟩) F.length cap2) (F.set i X) := by
      have := hA.set0 i hil X
      exact ⟨_, _, by rw [List.length_set], by rw [List.length_set]; exact hq3, hq4, by simp, fun _ => ⟨b2, 0, rfl, fun k hk => this.cell k hk⟩⟩
    have HBs := hide hBs
    have HVs := hide hVs
    clear hA hBs hVs hbel2 hil
    go_wp2_with fail
    rw [← HX.out]
    generalize w2.setCell ⟨b2, i, none⟩ (.int .u8 X) = W3 at *
    refine (G.out _ _ HVs.out (HK.out.on HBs.out)).mono ?_
    rintro e w4 ⟨v4, rfl, hown4, hbel4⟩
    have HB4 := hide (below_on HBs.out hbel4)
    have HV4 := hide (HVs.out.below hbel4)
    clear hown4 hbel4 c0 c1
    rcases (show i < 4 ∨ (4 ≤ i ∧ i < 20) ∨ (20 ≤ i ∧ i < 24) ∨ 24 ≤ i by omega) with h4 | ⟨h4, h20⟩ | ⟨h20, h24⟩ | h24
    · have e1 := T1.out h4
      have e2 := (get_none (Or.inr (Or.inr e1))).2.2
      rw [e1, e2]
      go_wp2
      go_ret
      exact ⟨rfl, HB4.out⟩
    · generalize geN (F.set i X) = gn at *
      generalize geE (F.set i X) = ge at *
      generalize geC (F.set i X) = gc at *
      go_wp2
      go_ret
      exact ⟨rfl, HB4.out⟩
    · have e1 := T2.out h20 h24
      rw [e1.1, e1.2]
      have hlen : ((24 : Int) + (l.length : Int)) = (F.length : Int) := by have := HFL.out; omega
      rw [hlen]
      clear e1 hlen
      go_wp2
      go_ret
      exact ⟨rfl, HB4.out⟩
    · obtain ⟨e1, e2, e3⟩ := T3.out h24
      have hlen : ((24 : Int) + (l.length : Int)) = (F.length : Int) := by have := HFL.out; omega
      rw [e2, e3, hlen]
      have H1 := hide e1
      clear e2 e3 hlen e1
      by_cases hck : chk (l.set (i - 24) X) = chk l
      · rw [if_pos hck]
        have HCK := hide hck
        clear hck
        have hm : ((F.set i X).drop 24).take (F.length - 24) = l.set (i - 24) X := by
          rw [H1.out, ← HH.out, List.drop_left]
          exact List.take_of_length_le (by have := HFL.out; rw [List.length_set, HH.out]; omega)
        have hbd := HV4.out.mid 24 F.length (by omega) (by omega) (by omega) (F.length - 24) (cap2 - 24) rfl rfl
        rw [hm, Nat.zero_add] at hbd
        have RC1 := hide (RC.out _ _ _ hbd (by rw [List.length_set]; omega))
        rw [HCK.out] at RC1
        have RC2 := hide (fun wx (p : Value) (h : Bytes wx p l) => RC.out wx p l h (by omega))
        clear hm hbd
        generalize chk l = ck at *
        go_wp2_with fail
        refine RC1.out.mono ?_
        rintro e w5 ⟨rfl, hbel5⟩
        have HB5 := hide (below_on HB4.out hbel5)
        clear hbel5
        go_wp2_with fail
        refine (RC2.out _ _ (HV.out.below HB5.out)).mono ?_
        rintro e w6 ⟨rfl, hbel6⟩
        have HB6 := hide (below_on HB5.out hbel6)
        clear hbel6
        go_wp2
        go_ret
        exact ⟨rfl, HB6.out⟩
      · rw [if_neg hck]
        clear hck
        go_wp2
        go_ret
        exact ⟨rfl, HB4.out⟩
  all_goals
    unfold FPutDone at P
    rw [hE] at P
    obtain ⟨a, cap, rfl, hc1, hc2⟩ := hv.form
    clear hv hk
    go_enter Tryd.func8, Tryd.ntmps8
    go_wp2_with fail
    refine A.out.mono ?_
    rintro e w1 ⟨rfl, hbel1⟩
    have HB1 := hide hbel1
    clear hbel1
    go_wp2_with fail
    refine (P.out _ (HV.out.below HB1.out) (HK.out.on HB1.out)).mono ?_
    rintro e w2 ⟨v2, rfl, -, hnil, hbel2⟩
    obtain rfl := hnil (by decide)
    have HB2 := hide (below_on HB1.out hbel2)
    clear hbel2 hnil
    go_wp2
    go_ret
    exact ⟨rfl, HB2.out⟩

set_option maxRecDepth 100000 in
theorem frameTurned_lifted (os : Os) (started : os.Started) (H : Type) (enc : TypeId × Value → H) :
    ReturnsInHanded {} Tryd.checked os 8 .any (fun w args => (Rows.frameTurnedSpec.pre enc Tryd.prog Tryd.f8 [] false w args ∧ laidMetH Tryd.prog laid3 w) ∧ sizedMet enc Tryd.prog Tryd.f8 (OpenSpec.ofChange Rows.frameTurnedSpec) false w args)
      (Rows.frameTurnedSpec.post enc Tryd.prog Tryd.f8 false true false false) := by
  refine returnsInHanded_of_change_and (C := Tryd.checked) (X := fun w _ => laidMetH Tryd.prog laid3 w) (fun _ _ _ hh h => h.of_heap hh) own started (by kernel_rfl) Tryd.func8
    (ChangeSpec.witness_shaped (enc := enc) (C := Tryd.checked) (os := os) (X := fun w _ => laidMetH Tryd.prog laid3 w) false (World.laidAll Tryd.prog os laid3) #[.string ⟨#[]⟩, .slice none 0 0, .int .u16 0] 8 (World.laidAll_os _ _ _) (World.shaped_of_ZipB (by kernel_rfl) (by kernel_rfl)) (by kernel_rfl) (by kernel_rfl) (by kernel_rfl) (laid_met os _)) ?_
  intro W base args ds gs before hval0 hW _ _ hL _
  have hval : ∀ (j : Nat) t v, Tryd.f8.params[j]? = some t → args[j]? = some v → Value.okWide Tryd.prog W .any base t v := hval0
  have hW' := hW
  obtain ⟨p, q, hA0, hV, rfl, hfz, hnd⟩ := hW
  have hA : DataW.TrodAll enc Tryd.prog W 0 (fun _ => true) true Tryd.f8.params.toList args.toList ds p := hA0
  rw [Tryd.params8] at hA hval
  obtain ⟨v0, vs0, d0, ds0, p0, q0, hargs, rfl, rfl, h0, r0⟩ := trodAll_cons hA
  obtain ⟨v1, vs1, d1, ds1, p1, q1, rfl, rfl, rfl, h1, r1⟩ := trodAll_cons r0
  obtain ⟨v2, vs2, d2, ds2, p2, q2, rfl, rfl, rfl, h2, r2⟩ := trodAll_cons r1
  obtain ⟨rfl, rfl, rfl⟩ := trodAll_nil r2
  obtain rfl : args = #[v0, v1, v2] := by cases args; simp_all
  obtain ⟨rfl, rfl⟩ := trodVars_none hV
  obtain ⟨a0, rfl, rfl, rfl, w0⟩ := Go.ChangeMaps.open_string Tryd.underlying9 (hval 0 9 v0 rfl rfl) h0
  obtain ⟨b1, len1, cap1, rfl⟩ := okWide_slice Tryd.underlying22 (hval 1 22 v1 rfl rfl)
  have k1 := h1
  have lt1 : ∀ x ∈ p1, x.block < W.heap.size := by obtain ⟨m, hm⟩ := k1; exact DataW.trod_lt m _ _ _ hm
  obtain ⟨l1, s1, w1⟩ : ∃ l, Bytes W (.slice b1 len1 cap1) l ∧ ∀ z ∈ l, Byte z := by
    obtain ⟨fuel, hf⟩ := h1
    rcases open_ints Tryd.underlying22 Tryd.underlying5 (by kernel_rfl) hf with ⟨hcs, _⟩ | ⟨x, l, c, zs, hcs, _, hl, hm, hz, _, hcell, hwz⟩
    · simp [Value.cells] at hcs
      obtain ⟨rfl, rfl, rfl⟩ := hcs
      exact ⟨[], Bytes.nil _, by simp⟩
    · simp [Value.cells] at hcs
      obtain ⟨rfl, rfl, rfl⟩ := hcs
      exact bytes_row hl hm (by simpa using hz) hcell hwz
  obtain ⟨a2, rfl, rfl, rfl, w2⟩ := open_int Tryd.underlying42 (hval 2 42 v2 rfl rfl) h2
  clear hA0 hval0
  refine (frameTurned_walk (w := W) (ks_of_laid hL) a0 (by simpa [maxLen] using w0) _ l1 w1 s1 a2 (short_of_wf w2)).mono fun e W' ⟨he, bel⟩ => ?_
  subst he
  exact ⟨_, rfl, _, _, _, [], _, [], hW', trodAll_mk1 (shut_bool Tryd.underlying4 _), (trodAll_cons_mk (Go.ChangeMaps.shut_string Tryd.underlying9 w0) (trodAll_cons_mk (Below.trod laidOut (by kernel_rfl) (of_decide_eq_true (by kernel_rfl)) k1 bel lt1) (trodAll_cons_mk (shut_int Tryd.underlying42 w2) trodAll_mk0))), rfl, bel.frame _, fun h => by cases h⟩

theorem frameTurned_holds : Rows.FrameTurnedSaid :=
  OpenClaim.holds_of_wide 8 Tryd.f8 rfl rfl rfl rfl rfl rfl rfl ⟨rfl, rfl, rfl, rfl, rfl⟩ rfl rfl rfl rfl rfl (by kernel_rfl) Tryd.func8 (by kernel_rfl)
    (of_decide_eq_true (by kernel_rfl)) (by unfold Func.isWrapper; first | (rw [if_pos (by decide +kernel)]; kernel_rfl) | (rw [if_neg (by decide +kernel)]; exact ⟨rfl, rfl⟩))
    (fun os started H enc _ => frameTurned_lifted os started H enc)
#print axioms frameTurned_holds
theorem frameTurned_card : Rows.FrameTurnedCardSaid :=
  Claim7.holds_tied_plain_at .later [] [.data, .data, .pinned] true (true, "6107f5c5cbfecb7da09f0bfa5865959cc8d3ed81655700bd4575338502a8de1b") false
    frameTurned_holds (fun _ h => by cases h) (by kernel_rfl) (fun _ h => by cases h) frameTurned_row_tie rfl ⟨rfl, rfl⟩ (by kernel_rfl) rfl
    (fun f fn hf hfn => by
      obtain rfl : f = 8 := Option.some.inj ((show Tryd.prog.funcNamed "pappus/pappuslaw05.FrameTurned" = some 8 by kernel_rfl).symm.trans hf) |>.symm
      obtain rfl : fn = Tryd.f8 := (Option.some.inj (Tryd.func8.symm.trans hfn)).symm
      exact ⟨by kernel_rfl, fun j t ht => by
        rw [Tryd.params8] at ht
        have hm : t ∈ [9, 22, 42] := by simpa using Array.mem_of_getElem? ht
        have hall : ([9, 22, 42].all fun u => !Tryd.prog.wantsStandIn u) = true := by kernel_rfl
        exact (show Tryd.prog.wantsStandIn t = false by simpa using List.all_eq_true.1 hall t hm)⟩)
    (by kernel_rfl)
#print axioms frameTurned_card
end Go.Proofs.YtbhninaaeeoamaaDoor
