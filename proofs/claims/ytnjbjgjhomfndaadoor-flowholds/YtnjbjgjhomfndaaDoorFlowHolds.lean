/-
  FlowHolds: of whatever pieces: fewer bytes than the greatest frame has ever wait, and where nothing is told all wait: the call returns true, and the argument reads as before.
-/
import Derived.Test.YtnjbjgjhomfndaaDoorFrLaw
import Derived.Test.YtnjbjgjhomfndaaDoorFlAlive
import Derived.Test.YtnjbjgjhomfndaaDoorFlGreat
namespace Go.Proofs.YtnjbjgjhomfndaaDoor
open Go.ChangeShapes Go.WideShapes Go.ChangeAt Go.RowKit

/-- What holds at the head of a round. -/
def Holding (w : World) (L : List (List Int)) (p : Nat) (i : Value) (wr : World) : Prop :=
  ∃ (k q : Nat) (r : List Int) (d : Bool), k ≤ L.length ∧ i = .int .i64 k ∧ Flw wr p q r d ∧ (∀ z ∈ r, Byte z) ∧ w.heap.size ≤ q ∧ Below w.heap.size w wr
theorem part_upto {L : List (List Int)} {k : Nat} (h : k < L.length) : (L.getD k []).length ≤ L.flatten.length := by
  have := flat_more L k h
  omega

set_option maxRecDepth 100000 in
set_option maxHeartbeats 1000000 in
theorem flowHolds_walk {w : World} (hk : Ks w) (v : Value) (L : List (List Int)) (hb : ∀ p ∈ L, ∀ z ∈ p, Byte z) (hv : Parts w v L) :
    Calls Tryd.prog 8 #[v] w fun e w' => e = .returned (.bool true) ∧ Below w.heap.size w w' := by
  have HK := hide hk
  have HV := hide hv
  have HBY := hide hb
  have A := hide (alive_any w hk)
  have G := hide (fun wx (h : Parts wx v L) => great_any L v wx h)
  have NW := hide new_any
  obtain ⟨a, cap, rfl, hc1, hc2⟩ := hv.form
  clear hv hk hb
  go_enter Tryd.func8, Tryd.ntmps8
  go_wp2_with fail
  refine A.out.mono ?_
  rintro e w1 ⟨rfl, hbel1⟩
  have HB1 := hide hbel1
  clear hbel1
  go_wp2_with fail
  refine (G.out _ (HV.out.below HB1.out)).mono ?_
  rintro e w2 ⟨g, rfl, hw2, hfew⟩
  rw [hw2]
  clear hw2 w2
  cases g with
  | true =>
    clear hfew
    go_wp2
    go_ret
    exact ⟨rfl, HB1.out⟩
  | false =>
    have HFEW := hide (hfew rfl)
    clear hfew A G
    go_wp2_with fail
    refine (NW.out _).mono ?_
    rintro e w2 ⟨rfl, hF2, hs2, hb2⟩
    obtain ⟨p, hp⟩ : ∃ p, p = w1.heap.size := ⟨_, rfl⟩
    rw [← hp] at hF2 ⊢
    have HP : Hid (w.heap.size ≤ p) := hide (by rw [hp]; exact HB1.out.size)
    have HS : Hid (Holding w L p (.int .i64 0) w2) := hide ⟨0, p, [], false, by omega, rfl, hF2, by simp, HP.out, below_on HB1.out hb2⟩
    clear hF2 hs2 hb2 hp HB1 NW
    go_wp2_with fail
    go_loopw [16] (fun i wr => Holding w L p i wr) (fun i _ => L.length - (intOf i).toNat)
    case atStart => exact HS.out
    case round =>
      clear HS
      obtain ⟨k, q, r, d, hk, rfl, hf, hr, hq, hB⟩ := hrel
      have HB := hide hB
      by_cases hlt : k < L.length
      · obtain ⟨b0, off0, cap', e, -, -, hc⟩ := HV.out.lies (by omega)
        simp only [Value.slice.injEq, true_and] at e
        obtain ⟨rfl, rfl⟩ := e
        obtain ⟨pv, hpv, hbv⟩ := hc k hlt
        have hcell : wr.cell? ⟨b0, off0 + k, none⟩ = some pv := (hB.cell (p := ⟨b0, off0 + k, none⟩) (World.block_lt_of_cell? _ _ hpv)).trans hpv
        have hbb : ∀ z ∈ L.getD k [], Byte z := fun z hz => HBY.out _ (by simp [List.getD, hlt]) z hz
        have hbl : (L.getD k []).length ≤ 20000 := Nat.le_trans (part_upto hlt) HFEW.out.2
        have hrl : r.length < 2072 := by
          cases d with
          | true => rw [hf.dead.1 rfl]; simp
          | false => exact geE4_upto (hf.dead.2 rfl)
        have hk1 : (k : Int) < (L.length : Int) := by omega
        generalize L.getD k [] = b at *
        obtain ⟨L1, s, d', hR⟩ := fruns_any d r b hr hbb hf.dead.1
        have hsl : s.length < 2072 := by
          cases hd' : d' with
          | true => rw [hR.wait.2 hd']; simp
          | false => exact geE4_upto (hR.wait.1 hd')
        have hsI : (s.length : Int) < 2072 := by omega
        have FE := hide (feed_any wr p q r d pv b L1 s d' hf hr hbb (hbv.old hB fun g hg => ⟨by have := HP.out; omega, by omega⟩) (HK.out.old hB fun g hg => ⟨by have := HP.out; omega, by omega⟩) hR (by omega))
        have WF := hide (fwaits_any hf)
        have DF := hide (fdead_any hf)
        have HSB := hide (hR.byte hr hbb)
        have HSZ := hide hB.size
        have HQ := hide hq
        have HLT := hide hf.lt
        have hcase : (d = true ∧ L1 = [] ∧ s = [] ∧ d' = true) ∨ (d = false ∧ L1 = [] ∧ s.length = r.length + b.length) ∨ (d = false ∧ 0 < L1.length) := by
          rcases hR with ⟨rfl, hR⟩ | ⟨rfl, -, rfl, rfl, rfl⟩
          · cases L1 with
            | nil =>
              right; left
              have := hR.none.1
              exact ⟨rfl, rfl, by rw [this, List.length_append]⟩
            | cons x L1 => right; right; exact ⟨rfl, by simp⟩
          · exact Or.inl ⟨rfl, rfl, rfl, rfl⟩
        obtain ⟨pa, pc, rfl, hp1, hp2⟩ := hbv.form
        clear hf hr hq hB hc hpv hbb hR hbv
        go_wp2_with fail
        refine WF.out.mono ?_
        rintro e wz ⟨rfl, hz⟩
        rw [hz]
        clear hz wz
        go_wp2_with fail
        refine DF.out.mono ?_
        rintro e wz ⟨rfl, hz⟩
        rw [hz]
        clear hz wz
        go_wp2_with fail
        refine FE.out.mono ?_
        rintro e w3 ⟨v3, q3, rfl, hf3, hbs3, hq3, hI3⟩
        obtain ⟨ia, ic, rfl, -, -⟩ := hI3.length
        have WF3 := hide (fwaits_any hf3)
        have DF3 := hide (fdead_any hf3)
        have hpp := HP.out
        have hqq := HQ.out
        have hss := HSZ.out
        have hb3 : Below w.heap.size w w3 := HB.out.trans (hbs3.ground hpp hqq hss)
        have R : Hid (Holding w L p (.int .i64 ((k + 1 : Nat) : Int)) w3) := hide ⟨k + 1, q3, s, d', by omega, rfl, hf3, HSB.out, by omega, hb3⟩
        clear hf3 hbs3 hq3 hI3 hpp hqq hss hb3 FE WF DF
        go_wp2_with fail
        refine WF3.out.mono ?_
        rintro e wz ⟨rfl, hz⟩
        rw [hz]
        clear hz wz
        have hs0 : ¬ ((s.length : Int) < 0) := by omega
        go_wp2_with fail
        refine WF3.out.mono ?_
        rintro e wz ⟨rfl, hz⟩
        rw [hz]
        clear hz wz
        rcases hcase with ⟨rfl, rfl, rfl, rfl⟩ | ⟨rfl, rfl, hsr⟩ | ⟨rfl, hpos⟩
        · go_wp2_with fail
          refine DF3.out.mono ?_
          rintro e wz ⟨rfl, hz⟩
          rw [hz]
          clear hz wz
          go_wp2
          go_roundw
          case rel => first | exact R.out | ((repeat apply Exists.intro); exact ⟨R.out, rfl⟩)
          case measure => simp [intOf]; omega
        · have hsrI : ((s.length : Int) != (r.length : Int) + (b.length : Int)) = false := by
            rw [show (s.length : Int) = (r.length : Int) + (b.length : Int) by omega]
            simp
          clear hsr
          have hrI : (r.length : Int) < 2072 := by omega
          have hbI : (b.length : Int) ≤ 20000 := by omega
          go_wp2_with fail
          refine WF3.out.mono ?_
          rintro e wz ⟨rfl, hz⟩
          rw [hz]
          clear hz wz
          go_wp2
          go_roundw
          case rel => first | exact R.out | ((repeat apply Exists.intro); exact ⟨R.out, rfl⟩)
          case measure => simp [intOf]; omega
        · have hpI : (0 : Int) < (L1.length : Int) := by omega
          have hpb : ((L1.length : Int) == 0) = false := beq_eq_false_iff_ne.2 (by omega)
          go_wp2
          go_roundw
          case rel => first | exact R.out | ((repeat apply Exists.intro); exact ⟨R.out, rfl⟩)
          case measure => simp [intOf]; omega
      · have hk2 : (L.length : Int) ≤ (k : Int) := by omega
        clear hf hr hq hB
        go_wp2
        go_ret
        exact ⟨rfl, HB.out⟩

set_option maxRecDepth 100000 in
theorem flowHolds_lifted (os : Os) (started : os.Started) (H : Type) (enc : TypeId × Value → H) :
    ReturnsInHanded {} Tryd.checked os 8 .any (fun w args => (Rows.flowHoldsSpec.pre enc Tryd.prog Tryd.f8 [] false w args ∧ laidMetH Tryd.prog laid3 w) ∧ sizedMet enc Tryd.prog Tryd.f8 (OpenSpec.ofChange Rows.flowHoldsSpec) false w args)
      (Rows.flowHoldsSpec.post enc Tryd.prog Tryd.f8 false true false false) := by
  refine returnsInHanded_of_change_and (C := Tryd.checked) (X := fun w _ => laidMetH Tryd.prog laid3 w) (fun _ _ _ hh h => h.of_heap hh) own started (by kernel_rfl) Tryd.func8
    (ChangeSpec.witness_shaped (enc := enc) (C := Tryd.checked) (os := os) (X := fun w _ => laidMetH Tryd.prog laid3 w) false (World.laidAll Tryd.prog os laid3) #[.slice none 0 0] 8 (World.laidAll_os _ _ _) (World.shaped_of_ZipB (by kernel_rfl) (by kernel_rfl)) (by kernel_rfl) (by kernel_rfl) (by kernel_rfl) (laid_met os _)) ?_
  intro W base args ds gs before hval0 hW _ _ hL _
  have hval : ∀ (j : Nat) t v, Tryd.f8.params[j]? = some t → args[j]? = some v → Value.okWide Tryd.prog W .any base t v := hval0
  have hW' := hW
  obtain ⟨p, q, hA0, hV, rfl, hfz, hnd⟩ := hW
  have hA : DataW.TrodAll enc Tryd.prog W 0 (fun _ => true) true Tryd.f8.params.toList args.toList ds p := hA0
  rw [Tryd.params8] at hA hval
  obtain ⟨v0, vs0, d0, ds0, p0, q0, hargs, rfl, rfl, h0, r0⟩ := trodAll_cons hA
  obtain ⟨rfl, rfl, rfl⟩ := trodAll_nil r0
  obtain rfl : args = #[v0] := by cases args; simp_all
  obtain ⟨rfl, rfl⟩ := trodVars_none hV
  obtain ⟨b0, len0, cap0, rfl⟩ := okWide_slice Tryd.underlying22 (hval 0 22 v0 rfl rfl)
  have k0 := h0
  have lt0 : ∀ x ∈ p0, x.block < W.heap.size := by obtain ⟨m, hm⟩ := k0; exact DataW.trod_lt m _ _ _ hm
  obtain ⟨l0, s0, w0⟩ : ∃ l, Parts W (.slice b0 len0 cap0) l ∧ ∀ p ∈ l, ∀ z ∈ p, Byte z := by
    obtain ⟨fuel, hf⟩ := h0
    rcases Go.Deep.open_int_rows Tryd.underlying22 Tryd.underlying28 Tryd.underlying5 (by kernel_rfl) (by kernel_rfl) hf with ⟨hcs, _⟩ | ⟨a, len, cap, A, L, C, Z, hcs, _, hl, hm, _, hrows⟩
    · simp [Value.cells] at hcs
      obtain ⟨rfl, rfl, rfl⟩ := hcs
      exact ⟨[], Parts.none _, by simp⟩
    · simp [Value.cells] at hcs
      obtain ⟨rfl, rfl, rfl⟩ := hcs
      exact parts_row hl hm hrows
  clear hA0 hval0
  refine (flowHolds_walk (w := W) (ks_of_laid hL) _ l0 w0 s0).mono fun e W' ⟨he, bel⟩ => ?_
  subst he
  exact ⟨_, rfl, _, _, _, [], _, [], hW', trodAll_mk1 (shut_bool Tryd.underlying4 _), (trodAll_cons_mk (Below.trod laidOut (by kernel_rfl) (of_decide_eq_true (by kernel_rfl)) k0 bel lt0) trodAll_mk0), rfl, bel.frame _, fun h => by cases h⟩

theorem flowHolds_holds : Rows.FlowHoldsSaid :=
  OpenClaim.holds_of_wide 8 Tryd.f8 rfl rfl rfl rfl rfl rfl rfl ⟨rfl, rfl, rfl, rfl, rfl⟩ rfl rfl rfl rfl rfl (by kernel_rfl) Tryd.func8 (by kernel_rfl)
    (of_decide_eq_true (by kernel_rfl)) (by unfold Func.isWrapper; first | (rw [if_pos (by decide +kernel)]; kernel_rfl) | (rw [if_neg (by decide +kernel)]; exact ⟨rfl, rfl⟩))
    (fun os started H enc _ => flowHolds_lifted os started H enc)
#print axioms flowHolds_holds
theorem flowHolds_card : Rows.FlowHoldsCardSaid :=
  Claim7.holds_tied_plain_at .later [] [.data, .data, .pinned] true (true, "8364c1d0cfa2ab96fb62bcc5beefd4505f8925a4338fe93582091888f38a8326") false
    flowHolds_holds (fun _ h => by cases h) (by kernel_rfl) (fun _ h => by cases h) flowHolds_row_tie rfl ⟨rfl, rfl⟩ (by kernel_rfl) rfl
    (fun f fn hf hfn => by
      obtain rfl : f = 8 := Option.some.inj ((show Tryd.prog.funcNamed "pappus/pappuslaw06.FlowHolds" = some 8 by kernel_rfl).symm.trans hf) |>.symm
      obtain rfl : fn = Tryd.f8 := (Option.some.inj (Tryd.func8.symm.trans hfn)).symm
      exact ⟨by kernel_rfl, fun j t ht => by
        rw [Tryd.params8] at ht
        have hm : t ∈ [22] := by simpa using Array.mem_of_getElem? ht
        have hall : ([22].all fun u => !Tryd.prog.wantsStandIn u) = true := by kernel_rfl
        exact (show Tryd.prog.wantsStandIn t = false by simpa using List.all_eq_true.1 hall t hm)⟩)
    (by kernel_rfl)
#print axioms flowHolds_card
end Go.Proofs.YtnjbjgjhomfndaaDoor
