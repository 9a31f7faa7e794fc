/-
  Proved: for all weights the law FeeOrders answers true, and its argument reads as it did. Condition: the table of the sum's constants stands, as the card says.
-/
import Derived.Test.YtbeegcpmpgdbnaaDoorRefOrd10
import Derived.Test.YtbeegcpmpgdbnaaDoorFeeCame
import Derived.Test.YtbeegcpmpgdbnaaDoorShaLaw
namespace Go.Proofs.YtbeegcpmpgdbnaaDoor
open Go.ChangeShapes Go.WideShapes Go.ChangeAt Go.RowKit

def Comparing (w : World) (n : Nat) (i : Value) (wr : World) : Prop := ∃ k : Nat, k ≤ n ∧ i = .int .i64 k ∧ Below w.heap.size w wr

set_option maxRecDepth 100000 in
set_option maxHeartbeats 8000000 in
theorem feeOrders_walk {w : World} (hk : Ks w) (v : Value) (L : List Wt) (hok : ∀ x ∈ L, WtOk x) (h : RowAt w 2 v (L.map wtC)) :
    Calls Tryd.prog 4 #[v] w fun e w' => e = .returned (.bool true) ∧ Below w.heap.size w w' := by
  have mixed : Tryd.prog.follows .mixedOrders = true := by kernel_rfl
  have aE := Tryd.isAgg53
  have zE := Tryd.sizeOf53
  have aF := Tryd.isAgg55
  have zF := Tryd.sizeOf55
  have AL := hide (alive10_any w hk)
  have hf := h.form
  rw [List.length_map] at hf
  obtain ⟨a, cap, rfl, -, -⟩ := hf
  have H0 := hide h
  have HOK := hide hok
  clear h hok hk
  go_enter Tryd.func4, Tryd.ntmps4
  go_wp2_with fail
  refine AL.out.mono ?_
  rintro e w1 ⟨rfl, hb1⟩
  have HB1 := hide hb1
  have H1 := hide (H0.out.on hb1)
  clear hb1 H0 AL
  by_cases hlen : L.length ≤ 60
  case neg =>
    have hl : (60 : Int) < (L.length : Int) := by omega
    go_wp2
    go_ret
    exact ⟨rfl, HB1.out⟩
  have hl : ¬ (60 : Int) < (L.length : Int) := by omega
  have WG := hide (weights_any L (by omega) _ w1 H1.out)
  go_wp2_with fail
  refine WG.out.mono ?_
  rintro e w2 ⟨v2, rfl, hb2, hrow2⟩
  have hf2 := hrow2.row.form
  rw [List.length_map] at hf2
  obtain ⟨a2, c2, rfl, -, -⟩ := hf2
  have HW2 := hide hrow2.row
  have H2 := hide (H1.out.on hb2)
  have HB2 := hide (below_on HB1.out hb2)
  have OG := hide (order10_any L HOK.out (by omega) _ w2 HW2.out)
  clear hb2 hrow2 HB1 H1 WG
  go_wp2_with fail
  refine OG.out.mono ?_
  rintro e w3 ⟨v3, P, rfl, hP, hb3, hrow3⟩
  have hpl := hP.1
  have hf3 := hrow3.row.form
  rw [show (plC P).length = L.length by simp [plC, hpl]] at hf3
  obtain ⟨a3, c3, rfl, -, -⟩ := hf3
  have HP := hide hP
  have HPL := hide hpl
  have HR3 := hide hrow3.row
  have HW3 := hide (HW2.out.on hb3)
  have H3 := hide (H2.out.on hb3)
  have HB3 := hide (below_on HB2.out hb3)
  have RG := hide (rorder10_any L HOK.out (by omega) _ w3 H3.out)
  clear hb3 hrow3 HB2 HW2 H2 OG hP hpl
  go_wp2_with fail
  refine RG.out.mono ?_
  rintro e w4 ⟨v4, Q, rfl, hQ, hb4, hrow4⟩
  obtain rfl := ordd_unique HP.out hQ
  have hf4 := hrow4.row.form
  rw [show (plC P).length = L.length by simp [plC, HPL.out]] at hf4
  obtain ⟨a4, c4, rfl, -, -⟩ := hf4
  have HQ4 := hide hrow4.row
  have HR4 := hide (HR3.out.on hb4)
  have HW4 := hide (HW3.out.on hb4)
  have H4 := hide (H3.out.on hb4)
  have HB4 := hide (below_on HB3.out hb4)
  have CW := hide (worst_any L HOK.out (by omega) _ w4 HW4.out)
  clear hb4 hrow4 HB3 HW3 H3 HR3 RG hQ
  go_wp2_with fail
  refine CW.out.mono ?_
  rintro e w5 ⟨rfl, hb5⟩
  have HQ5 := hide (HQ4.out.on hb5)
  have HR5 := hide (HR4.out.on hb5)
  have HW5 := hide (HW4.out.on hb5)
  have H5 := hide (H4.out.on hb5)
  have HB5 := hide (below_on HB4.out hb5)
  have CR := hide (rworst_any L HOK.out (by omega) _ w5 H5.out)
  clear hb5 HB4 HW4 H4 HR4 HQ4 CW
  go_wp2_with fail
  refine CR.out.mono ?_
  rintro e w6 ⟨rfl, hb6⟩
  have HQ6 := hide (HQ5.out.on hb6)
  have HR6 := hide (HR5.out.on hb6)
  have HW6 := hide (HW5.out.on hb6)
  have H6 := hide (H5.out.on hb6)
  have HB6 := hide (below_on HB5.out hb6)
  clear hb6 HB5 HW5 H5 HR5 HQ5 CR
  generalize worstK L L.length = wk at *
  have HS : Hid (Comparing w6 L.length (.int .i64 0) w6) := hide ⟨0, Nat.zero_le _, rfl, Below.refl _ _⟩
  go_wp2
  go_loopw [33] (fun i wr => Comparing w6 L.length i wr) (fun i _ => L.length - (intOf i).toNat)
  case atStart => exact HS.out
  case round =>
    clear HS
    obtain ⟨k, hk, rfl, hB⟩ := hrel
    have HB := hide hB
    by_cases hlt : k < L.length
    · obtain ⟨x, hx⟩ : ∃ x, P[k]? = some x := ⟨_, List.getElem?_eq_getElem (by rw [HPL.out]; exact hlt)⟩
      obtain ⟨bp, op, rfl, p0⟩ := place_cell (HR6.out.on hB) hx
      obtain ⟨bq, oq, rfl, q0⟩ := place_cell (HQ6.out.on hB) hx
      have hk1 : (k : Int) < (L.length : Int) := by omega
      have R : Hid (∀ n os, Comparing w6 L.length (.int .i64 ((k + 1 : Nat) : Int)) (Sort.grow (wr.drewN n) os)) := hide (fun n os => ⟨k + 1, by omega, rfl, below_on HB.out (below_grow (Below.refl _ _) n os)⟩)
      have f0 := fun n os => Go.cell_grown (World.block_lt_of_cell? _ _ p0) p0 n os
      have g0 := fun n os => Go.cell_grown (World.block_lt_of_cell? _ _ q0) q0 n os
      clear hB hx p0 q0
      go_wp2_with fail
      quiet_grown_cheap (fail)
      have RR := hide (R.out nq osq)
      clear R f0 g0
      generalize Sort.grow (wr.drewN nq) osq = W3 at *
      go_wp2
      go_roundw
      case rel => first | exact RR.out | ((repeat apply Exists.intro); exact ⟨RR.out, rfl⟩)
      case measure => simp [intOf]; omega
    · have hk2 : (L.length : Int) ≤ (k : Int) := by omega
      have HB7 := hide (below_on HB6.out hB)
      have HW7 := hide (HW6.out.on hB)
      have H7 := hide (H6.out.on hB)
      clear hB HB HB6 HW6 H6 HR6 HQ6
      have HS2 : Hid (Comparing wr L.length (.int .i64 0) wr) := hide ⟨0, Nat.zero_le _, rfl, Below.refl _ _⟩
      go_wp2
      generalize wr = w7 at *
      go_loopw [48] (fun i wr => Comparing w7 L.length i wr) (fun i _ => L.length - (intOf i).toNat)
      case atStart => exact HS2.out
      case round =>
        clear HS2
        obtain ⟨i, hi, rfl, hB⟩ := hrel
        have HB := hide hB
        by_cases hlt : i < L.length
        · obtain ⟨x0, hx0⟩ : ∃ y, L[0]? = some y := ⟨_, List.getElem?_eq_getElem (by omega)⟩
          obtain ⟨xi, hxi⟩ : ∃ y, L[i]? = some y := ⟨_, List.getElem?_eq_getElem hlt⟩
          obtain ⟨bw, ow, e5, hr0⟩ := (HW7.out.on hB).get (k := 0) (c := wtC x0) (by rw [List.getElem?_map, hx0]; rfl)
          subst e5
          obtain ⟨bw', ow', e7, hri⟩ := (HW7.out.on hB).get (k := i) (c := wtC xi) (by rw [List.getElem?_map, hxi]; rfl)
          cases e7
          obtain ⟨bl, ol, e8, hs0⟩ := (H7.out.on hB).get (k := 0) (c := wtC x0) (by rw [List.getElem?_map, hx0]; rfl)
          subst e8
          obtain ⟨bl', ol', e9, hsi⟩ := (H7.out.on hB).get (k := i) (c := wtC xi) (by rw [List.getElem?_map, hxi]; rfl)
          cases e9
          have C1 := hide (fun w => less_any x0 xi (HOK.out x0 (List.mem_of_getElem? hx0)) (HOK.out xi (List.mem_of_getElem? hxi)) w)
          have C2 := hide (fun w => rless_any x0 xi (HOK.out x0 (List.mem_of_getElem? hx0)) (HOK.out xi (List.mem_of_getElem? hxi)) w)
          generalize lessW x0 xi = bb at C1 C2
          have hi1 : (i : Int) < (L.length : Int) := by omega
          have hl0 : (0 : Int) < (L.length : Int) := by omega
          have f0 := fun n os => range_grown hr0 n os 0 _ rfl
          have f1 := fun n os => range_grown hr0 n os 1 _ rfl
          have g0 := fun n os => range_grown hri n os 0 _ rfl
          have g1 := fun n os => range_grown hri n os 1 _ rfl
          have m0 := fun n os => range_grown hs0 n os 0 _ rfl
          have m1 := fun n os => range_grown hs0 n os 1 _ rfl
          have n0 := fun n os => range_grown hsi n os 0 _ rfl
          have n1 := fun n os => range_grown hsi n os 1 _ rfl
          simp only [Nat.add_zero, Nat.zero_mul] at f0 f1 g0 g1 m0 m1 n0 n1
          have R : Hid (∀ n os, Comparing w7 L.length (.int .i64 ((i + 1 : Nat) : Int)) (Sort.grow (wr.drewN n) os)) := hide (fun n os => ⟨i + 1, by omega, rfl, below_on HB.out (below_grow (Below.refl _ _) n os)⟩)
          clear hr0 hri hs0 hsi hx0 hxi hB
          go_wp2_with fail
          quiet_grown_cheap (first | (go_at_call 22; first | (refine Calls.grown_of (C1.out _)) | fail) | (go_at_call 23; first | (refine Calls.grown_of (C2.out _)) | fail))
          have RR := hide (R.out nq osq)
          clear R f0 f1 g0 g1 m0 m1 n0 n1 C1 C2
          generalize Sort.grow (wr.drewN nq) osq = W3 at *
          go_wp2
          go_roundw
          case rel => first | exact RR.out | ((repeat apply Exists.intro); exact ⟨RR.out, rfl⟩)
          case measure => simp [intOf]; omega
        · have hi2 : (L.length : Int) ≤ (i : Int) := by omega
          have HB8 := hide (below_on HB7.out hB)
          clear hB HB
          go_wp2
          go_ret
          exact ⟨rfl, HB8.out⟩

set_option maxRecDepth 100000 in
theorem feeOrders_lifted (os : Os) (started : os.Started) (H : Type) (enc : TypeId × Value → H) :
    ReturnsInHanded {} Tryd.checked os 4 .any (fun w args => (Rows.feeOrdersSpec.pre enc Tryd.prog Tryd.f4 [] false w args ∧ laidMetH Tryd.prog laid1 w) ∧ sizedMet enc Tryd.prog Tryd.f4 (OpenSpec.ofChange Rows.feeOrdersSpec) false w args)
      (Rows.feeOrdersSpec.post enc Tryd.prog Tryd.f4 false true false false) := by
  refine returnsInHanded_of_change_and (C := Tryd.checked) (X := fun w _ => laidMetH Tryd.prog laid1 w) (fun _ _ _ hh h => h.of_heap hh) own started (by kernel_rfl) Tryd.func4
    (ChangeSpec.witness_shaped (enc := enc) (C := Tryd.checked) (os := os) (X := fun w _ => laidMetH Tryd.prog laid1 w) false (World.doorLaid Tryd.prog 14 os) #[.slice none 0 0] 8 rfl (World.shaped_of_RefB (by kernel_rfl) (by kernel_rfl)) (by kernel_rfl) (by kernel_rfl) (by kernel_rfl) (door_met os _)) ?_
  intro W base args ds gs before hval0 hW _ _ hL _
  have hval : ∀ (j : Nat) t v, Tryd.f4.params[j]? = some t → args[j]? = some v → Value.okWide Tryd.prog W .any base t v := hval0
  have hW' := hW
  obtain ⟨p, q, hA0, hV, rfl, hfz, hnd⟩ := hW
  have hA : DataW.TrodAll enc Tryd.prog W 0 (fun _ => true) true Tryd.f4.params.toList args.toList ds p := hA0
  rw [Tryd.params4] at hA hval
  obtain ⟨v0, vs0, d0, ds0, p0, q0, hargs, rfl, rfl, h0, r0⟩ := trodAll_cons hA
  obtain ⟨rfl, rfl, rfl⟩ := trodAll_nil r0
  obtain rfl : args = #[v0] := by cases args; simp_all
  obtain ⟨rfl, rfl⟩ := trodVars_none hV
  have k0 := h0
  have lt0 : ∀ x ∈ p0, x.block < W.heap.size := by obtain ⟨m, hm⟩ := k0; exact DataW.trod_lt m _ _ _ hm
  obtain ⟨l0, s0, w0⟩ := wts_arg (hval 0 43 v0 rfl rfl) h0
  clear hA0 hval0
  refine (feeOrders_walk (w := W) (ks_of_laid hL) _ l0 w0 s0).mono fun e W' ⟨he, bel⟩ => ?_
  subst he
  exact ⟨_, rfl, _, _, _, [], _, [], hW', trodAll_mk1 (shut_bool Tryd.underlying4 _), (trodAll_cons_mk (Below.trod laidOut (by kernel_rfl) (of_decide_eq_true (by kernel_rfl)) k0 bel lt0) trodAll_mk0), rfl, bel.frame _, fun h => by cases h⟩

theorem feeOrders_holds : Rows.FeeOrdersSaid :=
  OpenClaim.holds_of_wide 4 Tryd.f4 rfl rfl rfl rfl rfl rfl rfl ⟨rfl, rfl, rfl, rfl, rfl⟩ rfl rfl rfl rfl rfl (by kernel_rfl) Tryd.func4 (by kernel_rfl)
    (of_decide_eq_true (by kernel_rfl)) (by unfold Func.isWrapper; first | (rw [if_pos (by decide +kernel)]; kernel_rfl) | (rw [if_neg (by decide +kernel)]; exact ⟨rfl, rfl⟩))
    (fun os started H enc _ => feeOrders_lifted os started H enc)
#print axioms feeOrders_holds
theorem feeOrders_card : Rows.FeeOrdersCardSaid :=
  Claim7.holds_tied_plain_at .later [] [.data] true (true, "85baf81c6edc530ebc6a8ace781ae8a87f889e51b0c1991837a95916fbd68c89") false
    feeOrders_holds (fun _ h => by cases h) (by kernel_rfl) (fun _ h => by cases h) feeOrders_row_tie rfl ⟨rfl, rfl⟩ (by kernel_rfl) rfl
    (fun f fn hf hfn => by
      obtain rfl : f = 4 := Option.some.inj ((show Tryd.prog.funcNamed "pappus/pappuslaw10.FeeOrders" = some 4 by kernel_rfl).symm.trans hf) |>.symm
      obtain rfl : fn = Tryd.f4 := (Option.some.inj (Tryd.func4.symm.trans hfn)).symm
      exact ⟨by kernel_rfl, fun j t ht => by
        rw [Tryd.params4] at ht
        have hm : t ∈ [43] := by simpa using Array.mem_of_getElem? ht
        have hall : ([43].all fun u => !Tryd.prog.wantsStandIn u) = true := by kernel_rfl
        exact (show Tryd.prog.wantsStandIn t = false by simpa using List.all_eq_true.1 hall t hm)⟩)
    (by kernel_rfl)
#print axioms feeOrders_card
end Go.Proofs.YtbeegcpmpgdbnaaDoor
