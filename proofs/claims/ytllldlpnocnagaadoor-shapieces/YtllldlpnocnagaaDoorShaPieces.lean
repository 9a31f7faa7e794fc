/-
  ShaPieces: in whatever pieces bytes are written to a hasher, its sum and its count are one: the call returns true, and what came in reads as before.
-/
import Derived.Test.YtllldlpnocnagaaDoorShaSteps
namespace Go.Proofs.YtllldlpnocnagaaDoor
open Go.ChangeShapes Go.WideShapes Go.ChangeAt Go.RowKit

/-- What holds at the head of a round: done is written, the rest is left. -/
def Cutting (w : World) (g : Nat) (l : List Int) (n : Nat) (r i : Value) (wr : World) : Prop :=
  ∃ (k j : Nat), k ≤ n ∧ j ≤ l.length ∧ i = .int .i64 k ∧ Bytes w r (l.drop j) ∧ Hashes wr g (l.take j) ∧ Below w.heap.size w wr ∧ g < wr.heap.size

set_option maxRecDepth 100000 in
set_option maxHeartbeats 2000000 in
theorem shaPieces_walk {w : World} (hk : Ks w) (v : Value) (l : List Int) (_ : ∀ z ∈ l, Byte z) (hv : Bytes w v l) (v' : Value) (l' : List Int) (hl' : ∀ z ∈ l', Byte z) (hv' : Bytes w v' l') :
    Calls Tryd.prog 5 #[v, v'] w fun e w' => e = .returned (.bool true) ∧ Below w.heap.size w w' := by
  have HK := hide hk
  have HV := hide hv
  have HV' := hide hv'
  have HL' := hide hl'
  have hk0 := hk.lt
  have A := hide (alive_any w hk)
  obtain ⟨a, cap, rfl, hc1, hc2⟩ := hv.form
  obtain ⟨a', cap', rfl, hc1', hc2'⟩ := hv'.form
  clear hk hv hv' hl'
  by_cases hbig : 4000 < l.length
  · have hb : decide ((4000 : Int) < (l.length : Int)) = true := decide_eq_true (by omega)
    clear hbig
    go_enter Tryd.func5, Tryd.ntmps5
    go_wp2_with fail
    refine A.out.mono ?_
    rintro e w1 ⟨rfl, hbel1⟩
    have HB1 := hide hbel1
    clear hbel1
    go_wp2
    go_ret
    exact ⟨rfl, HB1.out⟩
  by_cases hbig' : 200 < l'.length
  · have hb : decide ((4000 : Int) < (l.length : Int)) = false := decide_eq_false (by omega)
    have hb' : decide ((200 : Int) < (l'.length : Int)) = true := decide_eq_true (by omega)
    clear hbig hbig'
    go_enter Tryd.func5, Tryd.ntmps5
    go_wp2_with fail
    refine A.out.mono ?_
    rintro e w1 ⟨rfl, hbel1⟩
    have HB1 := hide hbel1
    clear hbel1
    go_wp2
    go_ret
    exact ⟨rfl, HB1.out⟩
  have hb : decide ((4000 : Int) < (l.length : Int)) = false := decide_eq_false (by omega)
  have hb' : decide ((200 : Int) < (l'.length : Int)) = false := decide_eq_false (by omega)
  have HN : Hid (l.length ≤ 4000 ∧ l'.length ≤ 200) := hide ⟨by omega, by omega⟩
  clear hbig hbig'
  have HL1 := hide (digest_length l)
  go_enter Tryd.func5, Tryd.ntmps5
  go_wp2_with fail
  refine A.out.mono ?_
  rintro e w1 ⟨rfl, hbel1⟩
  have HB1 := hide hbel1
  clear hbel1 A
  go_wp2_with fail
  refine (new_any w1).mono ?_
  rintro e w2 ⟨rfl, h2, hbel2⟩
  have HB2 := hide (below_on HB1.out hbel2)
  have HH2 := hide h2
  have HG : Hid (w.heap.size ≤ w1.heap.size) := hide HB1.out.size
  have HG0 : Hid (w1.heap.size ≠ 0) := hide (by have := HG.out; omega)
  clear h2 hbel2
  generalize w1.heap.size = g at *
  have HS : Hid (Cutting w g l l'.length (.slice a l.length cap) (.int .i64 0) w2) := hide ⟨0, 0, by omega, by omega, rfl, HV.out, HH2.out, HB2.out, HH2.out.lt⟩
  clear HB1 HB2 HH2
  go_wp2
  go_loopw [6, 26] (fun r i wr => Cutting w g l l'.length r i wr) (fun _ i _ => l'.length - (intOf i).toNat)
  case atStart => exact HS.out
  case round =>
    clear HS
    obtain ⟨k, j, hkn, hj, rfl, hr, hH, hB, hg⟩ := hrel
    obtain ⟨ar, capr, rfl, hr1, hr2⟩ := hr.form
    by_cases hlt : k < l'.length
    · obtain ⟨b0, off, cap0, e0, h01, h02, hcell⟩ := HV'.out.lies (by omega)
      have ck := (hB.cell (p := ⟨b0, off + k, none⟩) (World.block_lt_of_cell? _ _ (hcell k hlt))).trans (hcell k hlt)
      have hz : Byte (l'.getD k 0) := HL'.out _ (by simp [List.getD, hlt])
      simp only [Value.slice.injEq, true_and] at e0
      obtain ⟨rfl, rfl⟩ := e0
      generalize hcz : l'.getD k 0 = z at *
      obtain ⟨c, rfl⟩ : ∃ c : Nat, z = c := ⟨z.toNat, by have := hz.1; omega⟩
      obtain ⟨q, hq⟩ : ∃ q, q = min c (l.drop j).length := ⟨_, rfl⟩
      have hqn : q ≤ (l.drop j).length := by omega
      obtain ⟨ah, hh1, hh2⟩ := head_of ar (l.drop j).length capr q .i64 hqn hr1
      obtain ⟨at1, ct1, ht1, ht2⟩ := tail_of ar (l.drop j).length capr q .i64 hqn
      have HH1 := hide hh1
      have HT1 := hide ht1
      have WR := hide (write_one wr g (l.take j) (.slice ah q capr) ((l.drop j).take q) hH (Src.old (hh2 w _ hr) hB HG.out) (HK.out.on hB) HG0.out (by have := HN.out; simp; omega))
      have HB := hide hB
      have HR2 := hide (ht2 w _ hr)
      have hmin : (if (l.drop j).length < c then (((l.drop j).length : Nat) : Int) else (c : Int)) = (q : Int) := by split <;> omega
      have hc256 : (c : Int) < 256 := hz.2
      have hjl : (l.drop j).length = l.length - j := by simp
      have HJ : Hid (j + q ≤ l.length) := hide (by omega)
      clear hH hB hr hh1 hh2 ht1 ht2 hcell hz hcz hq hjl
      generalize (l.drop j).length = n at *
      go_wp2_with (first | (refine wp_upto rfl (.tmp 36) (.tmp 37) rfl _ _ _ rfl rfl HH1.out ?_) | (go_at_call 21; refine WR.out.mono ?_; rintro e w3 ⟨rfl, h3, o3⟩) | (refine wp_from rfl (.tmp 42) (.tmp 43) rfl _ _ _ rfl rfl HT1.out ?_))
      have R : Hid (Cutting w g l l'.length (.slice at1 (n - q) ct1) (.int .i64 ((k + 1 : Nat) : Int)) w3) := by
        refine hide ⟨k + 1, j + q, by omega, HJ.out, rfl, ?_, ?_, HB.out.trans (o3.ground HG.out), h3.lt⟩
        · have := HR2.out
          rwa [List.drop_drop] at this
        · rw [List.take_add]
          exact h3
      clear h3 o3
      go_roundw
      case rel => first | exact R.out | ((repeat apply Exists.intro); exact ⟨R.out, rfl⟩)
      case measure => simp [intOf]; omega
    · have WR := hide (write_two wr g (l.take j) (.slice none 0 0) _ [] (l.drop j) hH (fun _ _ => Bytes.nil _) (Src.old hr hB HG.out) (HK.out.on hB) HG0.out (by have := HN.out; simp; omega))
      rw [List.nil_append, List.take_append_drop] at WR
      have HB := hide hB
      clear hH hB hr
      generalize (l.drop j).length = n at *
      go_wp2_with fail
      refine WR.out.mono ?_
      rintro e w3 ⟨rfl, h3, o3⟩
      have HB3 := hide (HB.out.trans (o3.ground HG.out))
      have HH3 := hide h3
      clear h3 o3 WR
      go_wp2_with fail
      refine (hsum_any w3 g l HH3.out (HK.out.on HB3.out) (by have := HN.out; omega)).mono ?_
      rintro e w4 ⟨rfl, hbel4⟩
      have HB4 := hide (below_on HB3.out hbel4)
      have HH4 := hide (HH3.out.on hbel4)
      have KP := hide (hash_kept w4 (digest l) HL1.out)
      clear hbel4
      go_wp2_with (refine wp_store_arr rfl 28 (.tmp 10) (.tmp 54) rfl _ 0 .u8 (digest l) rfl rfl 32 (hash_there _) info_h HL1.out ?_)
      generalize (w4.alloc (.cells #[.int .u8 0, .int .u8 0, .int .u8 0, .int .u8 0, .int .u8 0, .int .u8 0, .int .u8 0, .int .u8 0, .int .u8 0, .int .u8 0, .int .u8 0, .int .u8 0, .int .u8 0, .int .u8 0, .int .u8 0, .int .u8 0, .int .u8 0, .int .u8 0, .int .u8 0, .int .u8 0, .int .u8 0, .int .u8 0, .int .u8 0, .int .u8 0, .int .u8 0, .int .u8 0, .int .u8 0, .int .u8 0, .int .u8 0, .int .u8 0, .int .u8 0, .int .u8 0] 28)).setCells w4.heap.size 0 (vals .u8 (digest l)) = W at *
      have HBW := hide (below_on HB4.out KP.out.1)
      have HHW := hide (HH4.out.on KP.out.1)
      have HX := hide KP.out.2
      have HKW := hide (HK.out.on HBW.out)
      have HVW := hide (HV.out.below HBW.out)
      clear KP
      generalize w4.heap.size = g10 at *
      have S1 := hide (sum_drew W _ l HVW.out HKW.out (by have := HN.out; omega))
      have LE := hide (fun wx (h : Below W.heap.size W wx) => len_any wx g l (HHW.out.on h))
      generalize digest l = D1 at *
      have EQ1 := fun wx => eql_hash D1 HL1.out wx
      have hu28 := Tryd.underlying28
      have hi28 : (Tryd.prog.info? 28).map (·.size) = some (vals .u8 D1).length := by rw [vals_length, HL1.out]; exact info_h
      have HC : Hid (∀ wx, Below W.heap.size W wx → wx.rangeAt g10 0 (vals .u8 D1)) := hide (fun wx hx => (HX.out.on hx).1)
      have hcv : IntKind.u64.wrap ((l.length : Nat) : Int) = (l.length : Int) := by have := HN.out; simp [IntKind.wrap, IntKind.bits, IntKind.signed]; omega
      clear HB HB3 HH3 HB4 HH4 HX
      go_region_held3 (fun wx => wx.rangeAt g10 0 (vals .u8 D1))
        (((with_reducible refine HC.out _ ?_); (repeat (with_reducible first | exact hb6 | exact Below.refl _ _ | refine Below.drew ?_ | refine below_alloc ?_ _ | fail))))
        (first
          | (go_at_call 12; refine S1.out.mono ?_; rintro e wa ⟨rfl, hb6⟩)
          | (go_at_call 23; refine (LE.out _ hb6).mono ?_; rintro e wb ⟨rfl, rfl⟩))
      go_wp2
      go_ret
      exact ⟨rfl, below_on HBW.out hb6⟩

set_option maxRecDepth 100000 in
theorem shaPieces_lifted (os : Os) (started : os.Started) (H : Type) (enc : TypeId × Value → H) :
    ReturnsInHanded {} Tryd.checked os 5 .any (fun w args => (Rows.shaPiecesSpec.pre enc Tryd.prog Tryd.f5 [] false w args ∧ laidMetH Tryd.prog laid1 w) ∧ sizedMet enc Tryd.prog Tryd.f5 (OpenSpec.ofChange Rows.shaPiecesSpec) false w args)
      (Rows.shaPiecesSpec.post enc Tryd.prog Tryd.f5 false true false false) := by
  refine returnsInHanded_of_change_and (C := Tryd.checked) (X := fun w _ => laidMetH Tryd.prog laid1 w) (fun _ _ _ hh h => h.of_heap hh) own started (by kernel_rfl) Tryd.func5
    (ChangeSpec.witness_shaped (enc := enc) (C := Tryd.checked) (os := os) (X := fun w _ => laidMetH Tryd.prog laid1 w) false (World.doorLaid Tryd.prog 14 os) #[.slice none 0 0, .slice none 0 0] 8 rfl (World.shaped_of_RefB (by kernel_rfl) (by kernel_rfl)) (by kernel_rfl) (by kernel_rfl) (by kernel_rfl) (door_met os _)) ?_
  intro W base args ds gs before hval0 hW _ _ hL _
  have hval : ∀ (j : Nat) t v, Tryd.f5.params[j]? = some t → args[j]? = some v → Value.okWide Tryd.prog W .any base t v := hval0
  have hW' := hW
  obtain ⟨p, q, hA0, hV, rfl, hfz, hnd⟩ := hW
  have hA : DataW.TrodAll enc Tryd.prog W 0 (fun _ => true) true Tryd.f5.params.toList args.toList ds p := hA0
  rw [Tryd.params5] at hA hval
  obtain ⟨v0, vs0, d0, ds0, p0, q0, hargs, rfl, rfl, h0, r0⟩ := trodAll_cons hA
  obtain ⟨v1, vs1, d1, ds1, p1, q1, rfl, rfl, rfl, h1, r1⟩ := trodAll_cons r0
  obtain ⟨rfl, rfl, rfl⟩ := trodAll_nil r1
  obtain rfl : args = #[v0, v1] := by cases args; simp_all
  obtain ⟨rfl, rfl⟩ := trodVars_none hV
  obtain ⟨b0, len0, cap0, rfl⟩ := okWide_slice Tryd.underlying25 (hval 0 25 v0 rfl rfl)
  have k0 := h0
  have lt0 : ∀ x ∈ p0, x.block < W.heap.size := by obtain ⟨m, hm⟩ := k0; exact DataW.trod_lt m _ _ _ hm
  obtain ⟨l0, s0, w0⟩ : ∃ l, Bytes W (.slice b0 len0 cap0) l ∧ ∀ z ∈ l, Byte z := by
    obtain ⟨fuel, hf⟩ := h0
    rcases open_ints Tryd.underlying25 Tryd.underlying5 (by kernel_rfl) hf with ⟨hcs, _⟩ | ⟨x, l, c, zs, hcs, _, hl, hm, hz, _, hcell, hwz⟩
    · simp [Value.cells] at hcs
      obtain ⟨rfl, rfl, rfl⟩ := hcs
      exact ⟨[], Bytes.nil _, by simp⟩
    · simp [Value.cells] at hcs
      obtain ⟨rfl, rfl, rfl⟩ := hcs
      exact bytes_row hl hm (by simpa using hz) hcell hwz
  obtain ⟨b1, len1, cap1, rfl⟩ := okWide_slice Tryd.underlying25 (hval 1 25 v1 rfl rfl)
  have k1 := h1
  have lt1 : ∀ x ∈ p1, x.block < W.heap.size := by obtain ⟨m, hm⟩ := k1; exact DataW.trod_lt m _ _ _ hm
  obtain ⟨l1, s1, w1⟩ : ∃ l, Bytes W (.slice b1 len1 cap1) l ∧ ∀ z ∈ l, Byte z := by
    obtain ⟨fuel, hf⟩ := h1
    rcases open_ints Tryd.underlying25 Tryd.underlying5 (by kernel_rfl) hf with ⟨hcs, _⟩ | ⟨x, l, c, zs, hcs, _, hl, hm, hz, _, hcell, hwz⟩
    · simp [Value.cells] at hcs
      obtain ⟨rfl, rfl, rfl⟩ := hcs
      exact ⟨[], Bytes.nil _, by simp⟩
    · simp [Value.cells] at hcs
      obtain ⟨rfl, rfl, rfl⟩ := hcs
      exact bytes_row hl hm (by simpa using hz) hcell hwz
  clear hA0 hval0
  refine (shaPieces_walk (w := W) (ks_of_laid hL) _ l0 w0 s0 _ l1 w1 s1).mono fun e W' ⟨he, bel⟩ => ?_
  subst he
  exact ⟨_, rfl, _, _, _, [], _, [], hW', trodAll_mk1 (shut_bool Tryd.underlying4 _), (trodAll_cons_mk (Below.trod laidOut (by kernel_rfl) (of_decide_eq_true (by kernel_rfl)) k0 bel lt0) (trodAll_cons_mk (Below.trod laidOut (by kernel_rfl) (of_decide_eq_true (by kernel_rfl)) k1 bel lt1) trodAll_mk0)), rfl, bel.frame _, fun h => by cases h⟩

theorem shaPieces_holds : Rows.ShaPiecesSaid :=
  OpenClaim.holds_of_wide 5 Tryd.f5 rfl rfl rfl rfl rfl rfl rfl ⟨rfl, rfl, rfl, rfl, rfl⟩ rfl rfl rfl rfl rfl (by kernel_rfl) Tryd.func5 (by kernel_rfl)
    (of_decide_eq_true (by kernel_rfl)) (by unfold Func.isWrapper; first | (rw [if_pos (by decide +kernel)]; kernel_rfl) | (rw [if_neg (by decide +kernel)]; exact ⟨rfl, rfl⟩))
    (fun os started H enc _ => shaPieces_lifted os started H enc)
#print axioms shaPieces_holds
theorem shaPieces_card : Rows.ShaPiecesCardSaid :=
  Claim7.holds_tied_plain_at .later [] [.data] true (true, "34bf6f512d100cf8a2d92042fc1f1bd857a1573d03b0dbff5ca3c1d95d8d5be7") false
    shaPieces_holds (fun _ h => by cases h) (by kernel_rfl) (fun _ h => by cases h) shaPieces_row_tie rfl ⟨rfl, rfl⟩ (by kernel_rfl) rfl
    (fun f fn hf hfn => by
      obtain rfl : f = 5 := Option.some.inj ((show Tryd.prog.funcNamed "pappus/pappuslaw03.ShaPieces" = some 5 by kernel_rfl).symm.trans hf) |>.symm
      obtain rfl : fn = Tryd.f5 := (Option.some.inj (Tryd.func5.symm.trans hfn)).symm
      exact ⟨by kernel_rfl, fun j t ht => by
        rw [Tryd.params5] at ht
        have hm : t ∈ [25, 25] := by simpa using Array.mem_of_getElem? ht
        have hall : ([25, 25].all fun u => !Tryd.prog.wantsStandIn u) = true := by kernel_rfl
        exact (show Tryd.prog.wantsStandIn t = false by simpa using List.all_eq_true.1 hall t hm)⟩)
    (by kernel_rfl)
#print axioms shaPieces_card
end Go.Proofs.YtllldlpnocnagaaDoor
