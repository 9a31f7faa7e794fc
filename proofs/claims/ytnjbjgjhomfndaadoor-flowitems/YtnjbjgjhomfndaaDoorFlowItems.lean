/-
  FlowItems: of whatever pieces what each tells, what waits and whether it is dead are the document's: the call returns true, and the argument reads as before.
-/
import Derived.Test.YtnjbjgjhomfndaaDoorFrLaw
import Derived.Test.YtnjbjgjhomfndaaDoorFlGreat
import Derived.Test.YtnjbjgjhomfndaaDoorRefFeed06
import Derived.Deep.RegionWith
namespace Go.Proofs.YtnjbjgjhomfndaaDoor
open Go.ChangeShapes Go.WideShapes Go.ChangeAt Go.RowKit

/-- The program's flow and the document's: they have the same bytes, and are dead alike. -/
def Twin (w : World) (p m q : Nat) (r : List Int) (d : Bool) (rv : Value) (wr : World) : Prop :=
  Flw wr p q r d ∧ RCells wr m rv d ∧ Keeps (fun g => g ≠ m ∧ g ≠ p ∧ g ≠ q) wr (fun w => Bytes w rv r) ∧ w.heap.size ≤ q ∧ q ≠ m ∧ Below w.heap.size w wr
theorem Twin.on {w wr w' : World} {p m q : Nat} {r : List Int} {d : Bool} {rv : Value} (h : Twin w p m q r d rv wr) (hb : Below wr.heap.size wr w') : Twin w p m q r d rv w' := by
  obtain ⟨h1, h2, h3, h4, h5, h6⟩ := h
  exact ⟨h1.on hb, h2.on hb, h3.below hb, h4, h5, h6.trans (hb.mono h6.size)⟩
/-- What holds at the head of a round. -/
def Iteming (w : World) (L : List (List Int)) (p m : Nat) (i : Value) (wr : World) : Prop :=
  ∃ (k q : Nat) (r : List Int) (d : Bool) (rv : Value), k ≤ L.length ∧ i = .int .i64 k ∧ Twin w p m q r d rv wr ∧ (∀ z ∈ r, Byte z)
/-- Both are fed. -/
theorem twin_first {w wr w3 : World} {p m q q3 : Nat} {r s : List Int} {d d' : Bool} {rv v3 : Value} {L1 : List It} {pv : Value} {b : List Int} (h : Twin w p m q r d rv wr) (hr : ∀ z ∈ r, Byte z) (hbb : ∀ z ∈ b, Byte z) (hbv : Bytes w pv b) (hR : FRuns d r b L1 s d') (hp : w.heap.size ≤ p) (hpm : m ≠ p) (hmw : w.heap.size ≤ m) (hlen : r.length + b.length ≤ 900000)
    (hf3 : Flw w3 p q3 s d') (hB3 : Besides p q wr w3) (hq3 : q3 = q ∨ q3 = p ∨ wr.heap.size ≤ q3) (hI3 : Items w3 wr.heap.size (fun g => g < wr.heap.size ∨ g = q3) v3 L1) :
    Calls Tryd.prog 14 #[.pointer (some ⟨m, 0, none⟩), pv] w3 fun e w4 => ∃ v4 rv4, e = .returned v4 ∧ Twin w p m q3 s d' rv4 w4 ∧ ItemsAt w4 v3 L1 ∧ ItemsAt w4 v4 L1 := by
  obtain ⟨h1, h2, h3, h4, h5, h6⟩ := h
  have hml := h2.lt
  have hsz := h6.size
  have hb3 : Below w.heap.size w w3 := h6.trans (hB3.ground hp h4 hsz)
  have hRC3 : RCells w3 m rv d := h2.heap (hB3.block m hml hpm (fun e => h5 e.symm))
  have hRK3 : Keeps (fun g => g ≠ m) w3 fun w => Bytes w rv r := (h3.step hB3.size fun g hg hp => hB3.block g hg hp.2.1 hp.2.2).weak fun _ _ h => h.1
  refine (rfeed_any w3 m r d pv b L1 s d' ⟨rv, hRC3, hRK3⟩ hr hbb (hbv.old hb3 fun g hg => by omega) hR hlen).mono ?_
  rintro e w4 ⟨v4, rv4, rfl, hC4, hK4, hB4, hI4⟩
  have hq3w := hf3.lt
  refine ⟨v4, rv4, rfl, ⟨hf3.beside hB4 hpm.symm hpm.symm (by omega) (by omega), hC4, hK4.weak (fun g _ hg => ⟨?_, ?_, ?_⟩), by omega, by omega, hb3.trans (hB4.ground hmw hmw hb3.size)⟩, ?_, hI4.read⟩
  · have := hRC3.lt
    omega
  · omega
  · omega
  · exact (hI3.move hB4.size (fun g hg ha => by
      have h1 : ¬ g < wr.heap.size := fun h => ha (Or.inl h)
      exact hB4.block g hg (by omega) (by omega)) (fun _ _ h => h)).read
theorem piece_upto {L : List (List Int)} {k : Nat} (h : k < L.length) : (L.getD k []).length ≤ L.flatten.length := by
  have := flat_more L k h
  omega
theorem waits_few {w : World} {p q : Nat} {r : List Int} {d : Bool} (h : Flw w p q r d) : r.length < 2072 := by
  cases d with
  | true => rw [h.dead.1 rfl]; simp
  | false => exact geE4_upto (h.dead.2 rfl)

set_option maxRecDepth 100000 in
set_option maxHeartbeats 20000000 in
theorem flowItems_walk {w : World} (hk : Ks w) (v : Value) (L : List (List Int)) (hb : ∀ p ∈ L, ∀ z ∈ p, Byte z) (hv : Parts w v L) :
    Calls Tryd.prog 3 #[v] w fun e w' => e = .returned (.bool true) ∧ Below w.heap.size w w' := by
  have HK := hide hk
  have HV := hide hv
  have HBY := hide hb
  have A := hide (alive_any w hk)
  have G := hide (fun wx (h : Parts wx v L) => great_any L v wx h)
  have NW := hide new_any
  obtain ⟨a, cap, rfl, hc1, hc2⟩ := hv.form
  clear hv hk hb
  go_enter Tryd.func3, Tryd.ntmps3
  go_wp2_with fail
  refine A.out.mono ?_
  rintro e w1 ⟨rfl, hbel1⟩
  have HB1 := hide hbel1
  clear hbel1
  go_wp2_with fail
  refine (G.out _ (HV.out.below HB1.out)).mono ?_
  rintro e w2 ⟨g, rfl, hw2, hfew⟩
  rw [hw2]
  clear hw2 w2
  cases g with
  | true =>
    clear hfew
    go_wp2
    go_ret
    exact ⟨rfl, HB1.out⟩
  | false =>
    have HFEW := hide (hfew rfl)
    clear hfew A G
    go_wp2_with fail
    refine (NW.out _).mono ?_
    rintro e w2 ⟨rfl, hF2, hs2, hb2⟩
    obtain ⟨p, hp⟩ : ∃ p, p = w1.heap.size := ⟨_, rfl⟩
    obtain ⟨m, hm⟩ : ∃ m, m = w2.heap.size := ⟨_, rfl⟩
    rw [← hp] at hF2 ⊢
    have HP : Hid (w.heap.size ≤ p ∧ m = p + 1) := hide ⟨by rw [hp]; exact HB1.out.size, by omega⟩
    have hal : Below w2.heap.size w2 (w2.alloc (.cells #[.slice none 0 0, .bool false] 30)) := (Below.refl _ _).alloc (Nat.le_refl _) _
    have hrn := range_new w2 [.slice none 0 0, .bool false] 30
    have htn := there_new w2 #[.slice none 0 0, .bool false] 30
    have hRC : RCells (w2.alloc (.cells #[.slice none 0 0, .bool false] 30)) m (.slice none 0 0) false := by
      rw [hm]
      exact ⟨hrn 0 _ rfl, hrn 1 _ rfl, (htn 0 (by simp)).2, (htn 1 (by simp)).2⟩
    have HS : Hid (Iteming w L p m (.int .i64 0) (w2.alloc (.cells #[.slice none 0 0, .bool false] 30))) := hide ⟨0, p, [], false, _, by omega, rfl, ⟨hF2.on hal, hRC, fun w' _ => Bytes.nil w', HP.out.1, by have := HP.out; omega, below_on HB1.out (below_on hb2 hal)⟩, by simp⟩
    have HM := hide hm
    clear hF2 hs2 hb2 hp HB1 NW hal hrn htn hRC hm
    go_wp2_with fail
    rw [← HM.out]
    go_loopw [16] (fun i wr => Iteming w L p m i wr) (fun i _ => L.length - (intOf i).toNat)
    case atStart => exact HS.out
    case round =>
      clear HS
      obtain ⟨k, q, r, d, rv, hk, rfl, hT, hr⟩ := hrel
      have HB := hide hT.2.2.2.2.2
      by_cases hlt : k < L.length
      · obtain ⟨b0, off0, cap', e, -, -, hc⟩ := HV.out.lies (by omega)
        simp only [Value.slice.injEq, true_and] at e
        obtain ⟨rfl, rfl⟩ := e
        obtain ⟨pv, hpv, hbv⟩ := hc k hlt
        have hcell : wr.cell? ⟨b0, off0 + k, none⟩ = some pv := (HB.out.cell (p := ⟨b0, off0 + k, none⟩) (World.block_lt_of_cell? _ _ hpv)).trans hpv
        have hbb : ∀ z ∈ L.getD k [], Byte z := fun z hz => HBY.out _ (by simp [List.getD, hlt]) z hz
        have hbl : (L.getD k []).length ≤ 20000 := Nat.le_trans (piece_upto hlt) HFEW.out.2
        have hrl := waits_few hT.1
        have hk1 : (k : Int) < (L.length : Int) := by omega
        generalize L.getD k [] = b at *
        obtain ⟨L1, s, d', hR⟩ := fruns_any d r b hr hbb hT.1.dead.1
        have hpp := HP.out
        have hTd := hT.on (Below.refl wr.heap.size wr).drew
        have hq := hTd.2.2.2.1
        have FE := hide (feed_any wr.drew p q r d pv b L1 s d' hTd.1 hr hbb (hbv.old hTd.2.2.2.2.2 fun g hg => ⟨by omega, by omega⟩) (HK.out.old hTd.2.2.2.2.2 fun g hg => ⟨by omega, by omega⟩) hR (by omega))
        have HSB := hide (hR.byte hr hbb)
        have MF := hide (fun w3 q3 v3 (hf3 : Flw w3 p q3 s d') (hB3 : Besides p q wr.drew w3) (hq3 : q3 = q ∨ q3 = p ∨ wr.drew.heap.size ≤ q3) (hI3 : Items w3 wr.drew.heap.size (fun g => g < wr.drew.heap.size ∨ g = q3) v3 L1) => twin_first hTd hr hbb hbv hR hpp.1 (by omega) (by omega) (by omega) hf3 hB3 hq3 hI3)
        have SM := hide (fun wx v u (h : ItemsAt wx v L1) (h' : ItemsAt wx u L1) => same6_any L1 v u wx h h')
        obtain ⟨pa, pc, rfl, hp1, hp2⟩ := hbv.form
        clear hr hc hpv hbb hR hbv hT hTd hq hpp
        go_upto_region 10 with fail
        go_region_with (first
          | (go_at_call 13; (with_reducible refine FE.out.mono ?_); rintro e w3 ⟨v3, q3, rfl, hf3, hbs3, hq3, hI3⟩)
          | (go_at_call 14; (with_reducible refine (MF.out _ _ _ hf3 hbs3 hq3 hI3).mono ?_); rintro e w4 ⟨v4, rv4, rfl, hT4, hi3, hi4⟩)
          | (go_at_call 12; (with_reducible refine (SM.out _ _ _ hi3 hi4).mono ?_); rintro e w5 ⟨rfl, hb5⟩; have hT5 := hT4.on hb5; obtain ⟨xa, xc, rfl, -, -⟩ := hT5.2.2.1.self.form; have k0 := hT5.2.1.1; have k1 := hT5.2.1.2.1; have hF5 := hT5.1)
          | (go_at_call 15; (with_reducible refine (fwaits_any hF5).mono ?_); rintro e w6 ⟨rfl, hw6⟩; rw [hw6]; clear hw6 w6)
          | (go_at_call 16; (with_reducible refine (fdead_any hF5).mono ?_); rintro e w6 ⟨rfl, hw6⟩; rw [hw6]; clear hw6 w6))
        all_goals
          have R : Hid (Iteming w L p m (.int .i64 ((k + 1 : Nat) : Int)) w5) := hide ⟨k + 1, q3, s, d', _, by omega, rfl, hT5, HSB.out⟩
          clear hT5 hT4 hf3 hbs3 hq3 hI3 hi3 hi4 hb5 k0 k1 hF5 FE MF SM
          go_wp2
          go_roundw
          case rel => first | exact R.out | ((repeat apply Exists.intro); exact ⟨R.out, rfl⟩)
          case measure => simp [intOf]; omega
      · have hk2 : (L.length : Int) ≤ (k : Int) := by omega
        clear hT hr
        go_wp2
        go_ret
        exact ⟨rfl, HB.out⟩

set_option maxRecDepth 100000 in
theorem flowItems_lifted (os : Os) (started : os.Started) (H : Type) (enc : TypeId × Value → H) :
    ReturnsInHanded {} Tryd.checked os 3 .any (fun w args => (Rows.flowItemsSpec.pre enc Tryd.prog Tryd.f3 [] false w args ∧ laidMetH Tryd.prog laid3 w) ∧ sizedMet enc Tryd.prog Tryd.f3 (OpenSpec.ofChange Rows.flowItemsSpec) false w args)
      (Rows.flowItemsSpec.post enc Tryd.prog Tryd.f3 false true false false) := by
  refine returnsInHanded_of_change_and (C := Tryd.checked) (X := fun w _ => laidMetH Tryd.prog laid3 w) (fun _ _ _ hh h => h.of_heap hh) own started (by kernel_rfl) Tryd.func3
    (ChangeSpec.witness_shaped (enc := enc) (C := Tryd.checked) (os := os) (X := fun w _ => laidMetH Tryd.prog laid3 w) false (World.laidAll Tryd.prog os laid3) #[.slice none 0 0] 8 (World.laidAll_os _ _ _) (World.shaped_of_ZipB (by kernel_rfl) (by kernel_rfl)) (by kernel_rfl) (by kernel_rfl) (by kernel_rfl) (laid_met os _)) ?_
  intro W base args ds gs before hval0 hW _ _ hL _
  have hval : ∀ (j : Nat) t v, Tryd.f3.params[j]? = some t → args[j]? = some v → Value.okWide Tryd.prog W .any base t v := hval0
  have hW' := hW
  obtain ⟨p, q, hA0, hV, rfl, hfz, hnd⟩ := hW
  have hA : DataW.TrodAll enc Tryd.prog W 0 (fun _ => true) true Tryd.f3.params.toList args.toList ds p := hA0
  rw [Tryd.params3] at hA hval
  obtain ⟨v0, vs0, d0, ds0, p0, q0, hargs, rfl, rfl, h0, r0⟩ := trodAll_cons hA
  obtain ⟨rfl, rfl, rfl⟩ := trodAll_nil r0
  obtain rfl : args = #[v0] := by cases args; simp_all
  obtain ⟨rfl, rfl⟩ := trodVars_none hV
  obtain ⟨b0, len0, cap0, rfl⟩ := okWide_slice Tryd.underlying22 (hval 0 22 v0 rfl rfl)
  have k0 := h0
  have lt0 : ∀ x ∈ p0, x.block < W.heap.size := by obtain ⟨m, hm⟩ := k0; exact DataW.trod_lt m _ _ _ hm
  obtain ⟨l0, s0, w0⟩ : ∃ l, Parts W (.slice b0 len0 cap0) l ∧ ∀ p ∈ l, ∀ z ∈ p, Byte z := by
    obtain ⟨fuel, hf⟩ := h0
    rcases Go.Deep.open_int_rows Tryd.underlying22 Tryd.underlying28 Tryd.underlying5 (by kernel_rfl) (by kernel_rfl) hf with ⟨hcs, _⟩ | ⟨a, len, cap, A, L, C, Z, hcs, _, hl, hm, _, hrows⟩
    · simp [Value.cells] at hcs
      obtain ⟨rfl, rfl, rfl⟩ := hcs
      exact ⟨[], Parts.none _, by simp⟩
    · simp [Value.cells] at hcs
      obtain ⟨rfl, rfl, rfl⟩ := hcs
      exact parts_row hl hm hrows
  clear hA0 hval0
  refine (flowItems_walk (w := W) (ks_of_laid hL) _ l0 w0 s0).mono fun e W' ⟨he, bel⟩ => ?_
  subst he
  exact ⟨_, rfl, _, _, _, [], _, [], hW', trodAll_mk1 (shut_bool Tryd.underlying4 _), (trodAll_cons_mk (Below.trod laidOut (by kernel_rfl) (of_decide_eq_true (by kernel_rfl)) k0 bel lt0) trodAll_mk0), rfl, bel.frame _, fun h => by cases h⟩

theorem flowItems_holds : Rows.FlowItemsSaid :=
  OpenClaim.holds_of_wide 3 Tryd.f3 rfl rfl rfl rfl rfl rfl rfl ⟨rfl, rfl, rfl, rfl, rfl⟩ rfl rfl rfl rfl rfl (by kernel_rfl) Tryd.func3 (by kernel_rfl)
    (of_decide_eq_true (by kernel_rfl)) (by unfold Func.isWrapper; first | (rw [if_pos (by decide +kernel)]; kernel_rfl) | (rw [if_neg (by decide +kernel)]; exact ⟨rfl, rfl⟩))
    (fun os started H enc _ => flowItems_lifted os started H enc)
#print axioms flowItems_holds
theorem flowItems_card : Rows.FlowItemsCardSaid :=
  Claim7.holds_tied_plain_at .later [] [.data, .data, .pinned] true (true, "8364c1d0cfa2ab96fb62bcc5beefd4505f8925a4338fe93582091888f38a8326") false
    flowItems_holds (fun _ h => by cases h) (by kernel_rfl) (fun _ h => by cases h) flowItems_row_tie rfl ⟨rfl, rfl⟩ (by kernel_rfl) rfl
    (fun f fn hf hfn => by
      obtain rfl : f = 3 := Option.some.inj ((show Tryd.prog.funcNamed "pappus/pappuslaw06.FlowItems" = some 3 by kernel_rfl).symm.trans hf) |>.symm
      obtain rfl : fn = Tryd.f3 := (Option.some.inj (Tryd.func3.symm.trans hfn)).symm
      exact ⟨by kernel_rfl, fun j t ht => by
        rw [Tryd.params3] at ht
        have hm : t ∈ [22] := by simpa using Array.mem_of_getElem? ht
        have hall : ([22].all fun u => !Tryd.prog.wantsStandIn u) = true := by kernel_rfl
        exact (show Tryd.prog.wantsStandIn t = false by simpa using List.all_eq_true.1 hall t hm)⟩)
    (by kernel_rfl)
#print axioms flowItems_card
end Go.Proofs.YtnjbjgjhomfndaaDoor
