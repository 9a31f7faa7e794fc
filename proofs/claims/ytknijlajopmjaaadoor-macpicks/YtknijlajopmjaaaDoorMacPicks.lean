/-
  MacPicks: of whatever hash and number, what is picked is below the number, of one it is that one, of two the lowest bit says which; a number below 1 is refused: the call returns true, and the arguments read as before.
-/
import Derived.Test.YtknijlajopmjaaaDoorMacAlive
import Derived.Test.YtknijlajopmjaaaDoorShaLaw
import Derived.Test.YtknijlajopmjaaaDoorCame
namespace Go.Proofs.YtknijlajopmjaaaDoor
open Go.ChangeShapes Go.WideShapes Go.ChangeAt Go.RowKit

theorem u16_of_wf {x : Int} (h : (Lit.int .u16 x).wf = true) : 0 ≤ x ∧ x < 65536 := by
  simp [Lit.wf, IntKind.min, IntKind.max, IntKind.signed, IntKind.bits] at h
  exact ⟨by omega, by omega⟩
theorem low_bit : ∀ n : Nat, n < 256 → bits .and .u8 (n : Int) 1 = (n : Int) % 2 := by decide +kernel
theorem low_byte {z : Int} (h : Byte z) : bits .and .u8 z 1 = z % 2 := by
  obtain ⟨h0, h1⟩ := h
  have := low_bit z.toNat (by omega)
  rwa [Int.toNat_of_nonneg h0] at this
theorem num_low (h : List Int) (hl : h.length = 32) : num (h.take 8) % 2 = h.getD 0 0 % 2 := by
  cases h with
  | nil => simp at hl
  | cons z l =>
    simp only [List.take_succ_cons, num, List.getD_cons_zero]
    omega
set_option maxRecDepth 100000 in
set_option maxHeartbeats 1000000 in
theorem macPicks_walk {w : World} (hk : Ks w) (h : List Int) (hl : h.length = 32) (hb : ∀ z ∈ h, Byte z) (n : Int) (hn : -9223372036854775808 ≤ n ∧ n ≤ 9223372036854775807) :
    Calls Tryd.prog 8 #[.agg (vals .u8 h).toArray, .int .i64 n] w fun e w' => e = .returned (.bool true) ∧ Below w.heap.size w w' := by
  have hB0 := (Below.refl w.heap.size w).alloc (Nat.le_refl _) (.cells (vals .u8 h).toArray 27)
  have HA0 := hide (Arr.new w .u8 h 27)
  have A := hide (malive_any _ (hk.on hB0))
  have HB0 := hide hB0
  have P0 := hide (fun wx => pick_any h n wx hl hb hn)
  have P1 := hide (fun wx => pick_any h 1 wx hl hb (by decide))
  have P2 := hide (fun wx => pick_any h 2 wx hl hb (by decide))
  have HL := hide hl
  have e1 : pickX h 1 = 0 := by simp [pickX]
  have e2 : pickE 1 = 0 := by decide
  have e3 : pickE 2 = 0 := by decide
  have hz : Byte (h.getD 0 0) := hb _ (by simp [List.getD, hl])
  have e4 : bits .and .u8 (h.getD 0 0) 1 = pickX h 2 := by
    rw [low_byte hz]
    simp only [pickX]
    rw [if_neg (by decide), num_low h hl]
  have e5 : 0 ≤ pickX h 2 ∧ pickX h 2 < 2 := by
    rw [← e4, low_byte hz]
    omega
  rw [e1, e2] at P1
  rw [e3] at P2
  by_cases h1 : n < 1
  · have q1 : pickX h n = 0 := by rw [pickX, if_pos h1]
    have q2 : pickE n = 2 := by rw [pickE, if_pos h1]
    rw [q1, q2] at P0
    clear q1 q2 e1 e2 e3 e4 e5 hz hk hB0 hl hb P1 P2
    go_enter Tryd.func8, Tryd.ntmps8
    go_wp2_with fail
    refine A.out.mono ?_
    rintro e w1 ⟨rfl, hbel1⟩
    have HB1 := hide (below_on HB0.out hbel1)
    have HA1 := hide (HA0.out.on hbel1)
    clear hbel1 A
    go_wp2_with (refine wp_load_arr rfl 27 (.tmp 2) rfl _ 0 rfl .u8 h HA1.out _ Tryd.underlying27 rfl 32 info_h HL.out ?_)
    refine (P0.out w1).mono ?_
    rintro e w2 ⟨rfl, hbel2⟩
    have HB2 := hide (below_on HB1.out hbel2)
    clear hbel2
    go_wp2
    go_ret
    exact ⟨rfl, HB2.out⟩
  · have q1 : 0 ≤ pickX h n ∧ pickX h n < n := by
      rw [pickX, if_neg h1]
      exact ⟨Int.emod_nonneg _ (by omega), Int.emod_lt_of_pos _ (by omega)⟩
    have q2 : pickE n = 0 := by rw [pickE, if_neg h1]
    rw [q2] at P0
    have h1' : 1 ≤ n := by omega
    clear q2 e1 e2 e3 hz hk hB0 hl hb h1
    generalize pickX h n = X at *
    generalize pickX h 2 = Z at *
    obtain ⟨q10, q11⟩ := q1
    obtain ⟨e50, e51⟩ := e5
    go_enter Tryd.func8, Tryd.ntmps8
    go_wp2_with fail
    refine A.out.mono ?_
    rintro e w1 ⟨rfl, hbel1⟩
    have HB1 := hide (below_on HB0.out hbel1)
    have HA1 := hide (HA0.out.on hbel1)
    clear hbel1 A
    go_wp2_with (refine wp_load_arr rfl 27 (.tmp 2) rfl _ 0 rfl .u8 h HA1.out _ Tryd.underlying27 rfl 32 info_h HL.out ?_)
    refine (P0.out w1).mono ?_
    rintro e w2 ⟨rfl, hbel2⟩
    have HB2 := hide (below_on HB1.out hbel2)
    have HA2 := hide (HA1.out.on hbel2)
    clear hbel2 P0 HA1
    go_wp2_with (refine wp_load_arr rfl 27 (.tmp 2) rfl _ 0 rfl .u8 h HA2.out _ Tryd.underlying27 rfl 32 info_h HL.out ?_)
    refine (P1.out w2).mono ?_
    rintro e w3 ⟨rfl, hbel3⟩
    have HB3 := hide (below_on HB2.out hbel3)
    have HA3 := hide (HA2.out.on hbel3)
    clear hbel3 P1 HA2
    go_wp2_with (refine wp_load_arr rfl 27 (.tmp 2) rfl _ 0 rfl .u8 h HA3.out _ Tryd.underlying27 rfl 32 info_h HL.out ?_)
    refine (P2.out w3).mono ?_
    rintro e w4 ⟨rfl, hbel4⟩
    have HB4 := hide (below_on HB3.out hbel4)
    have c0 := (HA3.out.on hbel4).cell0 0 (by rw [HL.out]; omega)
    clear hbel4 P2 HA3
    generalize h.getD 0 0 = z at *
    go_wp2
    go_ret
    exact ⟨rfl, HB4.out⟩

set_option maxRecDepth 100000 in
theorem macPicks_lifted (os : Os) (started : os.Started) (H : Type) (enc : TypeId × Value → H) :
    ReturnsInHanded {} Tryd.checked os 8 .any (fun w args => (Rows.macPicksSpec.pre enc Tryd.prog Tryd.f8 [] false w args ∧ laidMetH Tryd.prog laid1 w) ∧ sizedMet enc Tryd.prog Tryd.f8 (OpenSpec.ofChange Rows.macPicksSpec) false w args)
      (Rows.macPicksSpec.post enc Tryd.prog Tryd.f8 false true false false) := by
  refine returnsInHanded_of_change_and (C := Tryd.checked) (X := fun w _ => laidMetH Tryd.prog laid1 w) (fun _ _ _ hh h => h.of_heap hh) own started (by kernel_rfl) Tryd.func8
    (ChangeSpec.witness_shaped (enc := enc) (C := Tryd.checked) (os := os) (X := fun w _ => laidMetH Tryd.prog laid1 w) false (World.doorLaid Tryd.prog 14 os) #[.agg #[.int .u8 0, .int .u8 0, .int .u8 0, .int .u8 0, .int .u8 0, .int .u8 0, .int .u8 0, .int .u8 0, .int .u8 0, .int .u8 0, .int .u8 0, .int .u8 0, .int .u8 0, .int .u8 0, .int .u8 0, .int .u8 0, .int .u8 0, .int .u8 0, .int .u8 0, .int .u8 0, .int .u8 0, .int .u8 0, .int .u8 0, .int .u8 0, .int .u8 0, .int .u8 0, .int .u8 0, .int .u8 0, .int .u8 0, .int .u8 0, .int .u8 0, .int .u8 0], .int .i64 0] 8 rfl (World.shaped_of_RefB (by kernel_rfl) (by kernel_rfl)) (by kernel_rfl) (by kernel_rfl) (by kernel_rfl) (door_met os _)) ?_
  intro W base args ds gs before hval0 hW _ _ hL _
  have hval : ∀ (j : Nat) t v, Tryd.f8.params[j]? = some t → args[j]? = some v → Value.okWide Tryd.prog W .any base t v := hval0
  have hW' := hW
  obtain ⟨p, q, hA0, hV, rfl, hfz, hnd⟩ := hW
  have hA : DataW.TrodAll enc Tryd.prog W 0 (fun _ => true) true Tryd.f8.params.toList args.toList ds p := hA0
  rw [Tryd.params8] at hA hval
  obtain ⟨v0, vs0, d0, ds0, p0, q0, hargs, rfl, rfl, h0, r0⟩ := trodAll_cons hA
  obtain ⟨v1, vs1, d1, ds1, p1, q1, rfl, rfl, rfl, h1, r1⟩ := trodAll_cons r0
  obtain ⟨rfl, rfl, rfl⟩ := trodAll_nil r1
  obtain rfl : args = #[v0, v1] := by cases args; simp_all
  obtain ⟨rfl, rfl⟩ := trodVars_none hV
  have k0 := h0
  have lt0 : ∀ x ∈ p0, x.block < W.heap.size := by obtain ⟨m, hm⟩ := k0; exact DataW.trod_lt m _ _ _ hm
  obtain ⟨l0, rfl, n0, w0⟩ := arr_came (k := .u8) (n := 32) Tryd.underlying27 Tryd.underlying5 (by kernel_rfl) (by kernel_rfl) (hval 0 27 v0 rfl rfl) h0
  obtain ⟨a1, rfl, rfl, rfl, w1⟩ := open_int Tryd.underlying3 (hval 1 3 v1 rfl rfl) h1
  clear hA0 hval0
  refine (macPicks_walk (w := W) (ks_of_laid hL) l0 n0 (fun z hz => byte_of_wf (w0 z hz)) a1 (int_of_wf w1)).mono fun e W' ⟨he, bel⟩ => ?_
  subst he
  exact ⟨_, rfl, _, _, _, [], _, [], hW', trodAll_mk1 (shut_bool Tryd.underlying4 _), (trodAll_cons_mk (Below.trod laidOut (by kernel_rfl) (of_decide_eq_true (by kernel_rfl)) k0 bel lt0) (trodAll_cons_mk (shut_int Tryd.underlying3 w1) trodAll_mk0)), rfl, bel.frame _, fun h => by cases h⟩

theorem macPicks_holds : Rows.MacPicksSaid :=
  OpenClaim.holds_of_wide 8 Tryd.f8 rfl rfl rfl rfl rfl rfl rfl ⟨rfl, rfl, rfl, rfl, rfl⟩ rfl rfl rfl rfl rfl (by kernel_rfl) Tryd.func8 (by kernel_rfl)
    (of_decide_eq_true (by kernel_rfl)) (by unfold Func.isWrapper; first | (rw [if_pos (by decide +kernel)]; kernel_rfl) | (rw [if_neg (by decide +kernel)]; exact ⟨rfl, rfl⟩))
    (fun os started H enc _ => macPicks_lifted os started H enc)
#print axioms macPicks_holds
theorem macPicks_card : Rows.MacPicksCardSaid :=
  Claim7.holds_tied_plain_at .later [] [.data] true (true, "173da7fa971a5d4b19b9988b9cc45fa2aa5c8cacbb2b37105ebacdc430575515") false
    macPicks_holds (fun _ h => by cases h) (by kernel_rfl) (fun _ h => by cases h) macPicks_row_tie rfl ⟨rfl, rfl⟩ (by kernel_rfl) rfl
    (fun f fn hf hfn => by
      obtain rfl : f = 8 := Option.some.inj ((show Tryd.prog.funcNamed "pappus/pappuslaw04.MacPicks" = some 8 by kernel_rfl).symm.trans hf) |>.symm
      obtain rfl : fn = Tryd.f8 := (Option.some.inj (Tryd.func8.symm.trans hfn)).symm
      exact ⟨by kernel_rfl, fun j t ht => by
        rw [Tryd.params8] at ht
        have hm : t ∈ [27, 3] := by simpa using Array.mem_of_getElem? ht
        have hall : ([27, 3].all fun u => !Tryd.prog.wantsStandIn u) = true := by kernel_rfl
        exact (show Tryd.prog.wantsStandIn t = false by simpa using List.all_eq_true.1 hall t hm)⟩)
    (by kernel_rfl)
#print axioms macPicks_card
end Go.Proofs.YtknijlajopmjaaaDoor
