/-
  Proved: for all weights the law FeeSorted answers true, and its argument reads as it did. Condition: the table of the sum's constants stands, as the card says.
-/
import Derived.Test.YtbeegcpmpgdbnaaDoorFeeSoP
import Derived.BigQuiet
import Derived.Test.YtbeegcpmpgdbnaaDoorFeeCame
import Derived.Test.YtbeegcpmpgdbnaaDoorShaLaw
namespace Go.Proofs.YtbeegcpmpgdbnaaDoor
open Go.ChangeShapes Go.WideShapes Go.ChangeAt Go.RowKit

/-- A region that only reads, whose callees lay blocks, walked by the cheap step where that goes. -/
macro "quiet_grown_hid " "(" tac:tactic ")" : tactic => `(tactic|
  (refine wp_region_quiet_grown (by assumption) (by kernel_rfl) ?_
   repeat (first | go_big_quiet_skip | go_big_quiet_step ($tac:tactic) | quiet_step ($tac:tactic))
   refine wpQuiet_nil ?_
   intro _ hw'
   obtain ⟨⟨$(Lean.mkIdent `nq):ident, $(Lean.mkIdent `osq):ident⟩, hw''⟩ := hw'
   subst hw''))

/-- Which places were met. -/
def Met (w : World) (q : Nat) (S : List Nat) : Prop := ∀ x, x < 100 → w.cell? ⟨q, x, none⟩ = some (.bool (decide (x ∈ S))) ∧ w.frozen? ⟨q, x, none⟩ = false
theorem Met.new (w : World) : Met (w.alloc (.cells Tryd.zeroCells66 66)) w.heap.size [] := by
  intro x hx
  have e : Tryd.zeroCells66 = (List.replicate 100 (Value.bool false)).toArray := rfl
  have h := range_new w (List.replicate 100 (Value.bool false)) 66 x (.bool false) (by rw [List.getElem?_replicate, if_pos hx])
  have h2 := (there_new w (List.replicate 100 (Value.bool false)).toArray 66 x (by simpa using hx)).2
  rw [Nat.zero_add] at h h2
  rw [e]
  exact ⟨by simpa using h, h2⟩
theorem Met.on {w w' : World} {q : Nat} {S : List Nat} (h : Met w q S) (hb : Below w.heap.size w w') : Met w' q S := by
  intro x hx
  obtain ⟨h1, h2⟩ := h x hx
  have hq := World.block_lt_of_cell? _ _ h1
  exact ⟨(World.cell?_of_block (w := w) (a := ⟨q, x, none⟩) (hb.block q hq)).trans h1, (World.frozen?_of_block (w := w) (a := ⟨q, x, none⟩) (hb.block q hq)).trans h2⟩
theorem Met.more {w : World} {q : Nat} {S : List Nat} (h : Met w q S) {x : Nat} (hx : x < 100) : Met (w.setCell ⟨q, x, none⟩ (.bool true)) q (S ++ [x]) := by
  intro y hy
  refine ⟨?_, by rw [World.frozen?_setCell]; exact (h y hy).2⟩
  by_cases e : y = x
  · subst e
    rw [World.cell?_setCell_same _ _ _ (h y hy).1]
    simp
  · rw [World.cell?_setCell_other _ _ _ _ (by intro e'; simp only [Addr.mk.injEq] at e'; omega), (h y hy).1]
    simp [e]
def Meeting (w : World) (P : List Nat) (q : Nat) (i : Value) (wr : World) : Prop := ∃ k : Nat, k ≤ P.length ∧ i = .int .i64 k ∧ Below w.heap.size w wr ∧ Met wr q (P.take k)
def Looking (w : World) (n : Nat) (i : Value) (wr : World) : Prop := ∃ k : Nat, k ≤ n ∧ i = .int .i64 k ∧ Below w.heap.size w wr

set_option maxRecDepth 100000 in
set_option maxHeartbeats 8000000 in
theorem feeSorted_walk {w : World} (hk : Ks w) (v : Value) (L : List Wt) (hok : ∀ x ∈ L, WtOk x) (h : RowAt w 2 v (L.map wtC)) :
    Calls Tryd.prog 8 #[v] w fun e w' => e = .returned (.bool true) ∧ Below w.heap.size w w' := by
  have mixed : Tryd.prog.follows .mixedOrders = true := by kernel_rfl
  have aE := Tryd.isAgg53
  have zE := Tryd.sizeOf53
  have AL := hide (alive10_any w hk)
  have hf := h.form
  rw [List.length_map] at hf
  obtain ⟨a, cap, rfl, -, -⟩ := hf
  have H0 := hide h
  have HOK := hide hok
  clear h hok hk
  go_enter Tryd.func8, Tryd.ntmps8
  go_wp2_with fail
  refine AL.out.mono ?_
  rintro e w1 ⟨rfl, hb1⟩
  have HB1 := hide hb1
  have H1 := hide (H0.out.on hb1)
  clear hb1 H0 AL
  by_cases hlen : L.length ≤ 100
  case neg =>
    have hl : (100 : Int) < (L.length : Int) := by omega
    go_wp2
    go_ret
    exact ⟨rfl, HB1.out⟩
  have hl : ¬ (100 : Int) < (L.length : Int) := by omega
  have WG := hide (weights_any L (by omega) _ w1 H1.out)
  go_wp2_with fail
  refine WG.out.mono ?_
  rintro e w2 ⟨v2, rfl, hb2, hrow2⟩
  have hf2 := hrow2.row.form
  rw [List.length_map] at hf2
  obtain ⟨a2, c2, rfl, -, -⟩ := hf2
  have HW2 := hide hrow2.row
  have HB2 := hide (below_on HB1.out hb2)
  have OG := hide (order10_any L HOK.out (by omega) _ w2 HW2.out)
  clear hb2 hrow2 HB1 H1 WG
  go_wp2_with fail
  refine OG.out.mono ?_
  rintro e w3 ⟨v3, P, rfl, hP, hb3, hrow3⟩
  have hpl := hP.1
  have hf3 := hrow3.row.form
  rw [show (plC P).length = L.length by simp [plC, hpl]] at hf3
  obtain ⟨a3, c3, rfl, -, -⟩ := hf3
  have HP := hide hP
  have HPL := hide hpl
  have HR3 := hide hrow3.row
  have HW3 := hide (HW2.out.on hb3)
  have HB3 := hide (below_on HB2.out hb3)
  clear hb3 hrow3 HB2 HW2 OG hP hpl
  have HS : Hid (Meeting w3 P w3.heap.size (.int .i64 0) (w3.alloc (.cells Tryd.zeroCells66 66))) := hide ⟨0, Nat.zero_le _, rfl, below_new _ _, Met.new w3⟩
  go_wp2
  generalize w3.alloc (.cells Tryd.zeroCells66 66) = w4 at *
  generalize hq : w3.heap.size = q at *
  have HQ := hide hq
  clear hq
  go_loopw [26] (fun i wr => Meeting w3 P q i wr) (fun i _ => L.length - (intOf i).toNat)
  case atStart => exact HS.out
  case round =>
    clear HS
    obtain ⟨k, hk, rfl, hB, hmet⟩ := hrel
    rw [HPL.out] at hk
    have HB := hide hB
    have HMET := hide hmet
    by_cases hlt : k < L.length
    · obtain ⟨x, hx⟩ : ∃ x, P[k]? = some x := ⟨_, List.getElem?_eq_getElem (by rw [HPL.out]; exact hlt)⟩
      have hxl := HP.out.at hx
      obtain ⟨bp, op, rfl, hpc⟩ := place_cell (HR3.out.on hB) hx
      have hk1 : (k : Int) < (L.length : Int) := by omega
      have hx0 : ¬ (x : Int) < 0 := by omega
      have hx1 : ¬ (L.length : Int) ≤ (x : Int) := by omega
      have hx1' : (x : Int) < (L.length : Int) := by omega
      have hx2 : (x : Int) < 100 := by omega
      obtain ⟨m0, mf⟩ := HMET.out x (by omega)
      have hnot : decide (x ∈ P.take k) = false := decide_eq_false (fun hin => by
        obtain ⟨j, hj1, hj2⟩ := List.getElem_of_mem hin
        have hjk : j < k := by simp only [List.length_take] at hj1; omega
        have hj3 : P[j]? = some x := by
          rw [List.getElem_take] at hj2
          rw [List.getElem?_eq_some_iff]
          exact ⟨_, hj2⟩
        exact HP.out.fresh hjk hj3 hx rfl)
      rw [hnot] at m0
      have hM2 := HMET.out.more (x := x) (by omega)
      have htk : P.take (k + 1) = P.take k ++ [x] := by
        obtain ⟨e1, e2⟩ := List.getElem?_eq_some_iff.1 hx
        rw [List.take_succ_eq_append_getElem e1, e2]
      rw [← htk] at hM2
      have HM2 := hide hM2
      have hB2 : Below w3.heap.size w3 (wr.setCell ⟨q, x, none⟩ (.bool true)) := HB.out.setCell (by rw [HQ.out]; exact Nat.le_refl _) _
      have HB2 := hide hB2
      have HX := hide hx
      clear hM2 htk hnot hB hmet hB2 hx
      go_upto_region 16 with fail
      generalize wr.setCell ⟨q, x, none⟩ (.bool true) = W2 at *
      obtain ⟨wx, hwx⟩ : ∃ y, L[x]? = some y := ⟨_, List.getElem?_eq_getElem hxl⟩
      obtain ⟨bw, ow, e5, hrx⟩ := (HW3.out.on HB2.out).get (k := x) (c := wtC wx) (by rw [List.getElem?_map, hwx]; rfl)
      subst e5
      have hpc2 := ((HR3.out.on HB2.out))
      obtain ⟨bp', op', e6, hpk⟩ := place_cell hpc2 HX.out
      cases e6
      clear hpc m0 mf hpc2 HMET HB
      rcases Nat.eq_zero_or_pos k with h0 | h0
      · subst h0
        have R : Hid (∀ n os, Meeting w3 P q (.int .i64 ((0 + 1 : Nat) : Int)) (Sort.grow (W2.drewN n) os)) := hide (fun n os => ⟨1, by rw [HPL.out]; omega, rfl, below_on HB2.out (below_grow (Below.refl _ _) n os), HM2.out.on (below_grow (Below.refl _ _) n os)⟩)
        clear hrx hpk
        quiet_grown_hid (first | (go_at_call 22; fail))
        have RR := hide (R.out nq osq)
        clear R
        generalize Sort.grow (W2.drewN nq) osq = W3 at *
        go_wp2
        go_roundw
        case rel => first | exact RR.out | ((repeat apply Exists.intro); exact ⟨RR.out, rfl⟩)
        case measure => simp [intOf]; omega
      · obtain ⟨kp, rfl⟩ : ∃ kp, k = kp + 1 := ⟨k - 1, by omega⟩
        obtain ⟨y, hy⟩ : ∃ y, P[kp]? = some y := ⟨_, List.getElem?_eq_getElem (by rw [HPL.out]; omega)⟩
        have hyl := HP.out.at hy
        have hbef := HP.out.step hy HX.out
        obtain ⟨wy, hwy⟩ : ∃ z, L[y]? = some z := ⟨_, List.getElem?_eq_getElem hyl⟩
        obtain ⟨bw', ow', e7, hry⟩ := (HW3.out.on HB2.out).get (k := y) (c := wtC wy) (by rw [List.getElem?_map, hwy]; rfl)
        cases e7
        obtain ⟨bp', op', e8, hpy⟩ := place_cell (HR3.out.on HB2.out) hy
        cases e8
        have ex : L.getD x default = wx := by rw [List.getD, hwx]; rfl
        have ey : L.getD y default = wy := by rw [List.getD, hwy]; rfl
        unfold before at hbef
        rw [ex, ey] at hbef
        have CYX := hide (fun w => less_any wy wx (HOK.out wy (List.mem_of_getElem? hwy)) (HOK.out wx (List.mem_of_getElem? hwx)) w)
        have CXY := hide (fun w => less_any wx wy (HOK.out wx (List.mem_of_getElem? hwx)) (HOK.out wy (List.mem_of_getElem? hwy)) w)
        have hyx : lessW wy wx = false := by
          rcases hbef with hb | ⟨hb, -⟩
          · exact lessW_one hb
          · exact hb
        rw [hyx] at CYX
        have hkp : (kp : Int) < (L.length : Int) := by omega
        have hk0 : (0 : Int) < (kp : Int) + 1 := by omega
        have hwr : IntKind.i64.wrap (kp : Int) = (kp : Int) := by simp [IntKind.wrap, IntKind.bits, IntKind.signed]; omega
        have hkn : ¬ (kp : Int) < 0 := by omega
        have hkd : decide ((kp : Int) + 1 > 0) = true := decide_eq_true (by omega)
        have hy1 : (y : Int) < (L.length : Int) := by omega
        have f0 := fun n os => range_grown hrx n os 0 _ rfl
        have f1 := fun n os => range_grown hrx n os 1 _ rfl
        have g0 := fun n os => range_grown hry n os 0 _ rfl
        have g1 := fun n os => range_grown hry n os 1 _ rfl
        simp only [Nat.add_zero] at f0 f1 g0 g1
        have p0 := fun n os => Go.cell_grown (World.block_lt_of_cell? _ _ hpy) hpy n os
        have R : Hid (∀ n os, Meeting w3 P q (.int .i64 ((kp + 1 + 1 : Nat) : Int)) (Sort.grow (W2.drewN n) os)) := hide (fun n os => ⟨kp + 1 + 1, by rw [HPL.out]; omega, rfl, below_on HB2.out (below_grow (Below.refl _ _) n os), HM2.out.on (below_grow (Below.refl _ _) n os)⟩)
        clear hrx hry hpy hpk ex ey hwx hwy hyx
        cases hl2 : lessW wx wy with
        | true =>
          rw [hl2] at CXY
          clear hbef hl2
          quiet_grown_hid (first | (go_at_call 22; first | (refine Calls.grown_of (CYX.out _)) | (refine Calls.grown_of (CXY.out _))))
          have RR := hide (R.out nq osq)
          clear R f0 f1 g0 g1 p0 CYX CXY
          generalize Sort.grow (W2.drewN nq) osq = W3 at *
          go_wp2
          go_roundw
          case rel => first | exact RR.out | ((repeat apply Exists.intro); exact ⟨RR.out, rfl⟩)
          case measure => simp [intOf]; omega
        | false =>
          rw [hl2] at CXY hbef
          have hyx2 : y < x := by
            rcases hbef with hb | ⟨-, hb⟩
            · cases hb
            · exact hb
          have hyx3 : ¬ (x : Int) < (y : Int) := by omega
          have hyx4 : decide ((y : Int) > (x : Int)) = false := decide_eq_false (by omega)
          clear hbef hl2
          quiet_grown_hid (first | (go_at_call 22; first | (refine Calls.grown_of (CYX.out _)) | (refine Calls.grown_of (CXY.out _))))
          have RR := hide (R.out nq osq)
          clear R f0 f1 g0 g1 p0 CYX CXY
          generalize Sort.grow (W2.drewN nq) osq = W3 at *
          go_wp2
          go_roundw
          case rel => first | exact RR.out | ((repeat apply Exists.intro); exact ⟨RR.out, rfl⟩)
          case measure => simp [intOf]; omega
    · have hk2 : (L.length : Int) ≤ (k : Int) := by omega
      have hk3 : ¬ k < L.length := hlt
      have HB5 := hide (below_on HB3.out hB)
      have HW5 := hide (HW3.out.on hB)
      have CW := hide (worst_any L HOK.out (by omega) _ wr HW5.out)
      clear hB hmet HB HMET
      go_wp2_with fail
      refine CW.out.mono ?_
      rintro e w6 ⟨rfl, hb6⟩
      have HB6 := hide (below_on HB5.out hb6)
      have HW6 := hide (HW5.out.on hb6)
      clear hb6 HB5 HW5 CW
      by_cases h0 : L.length = 0
      · have hw0 : worstK L L.length = -1 := by rw [h0]; rfl
        rw [hw0]
        have h0' : ((L.length : Int) == 0) = true := by rw [beq_iff_eq]; omega
        have h0'' : (L.length : Int) = 0 := by omega
        go_wp2
        go_ret
        exact ⟨by first | rfl | simp, HB6.out⟩
      · obtain ⟨j, hj, hjl, hs1, hs2⟩ := worstK_spec L L.length (Nat.le_refl _) (by omega)
        rw [hj]
        have h0' : ((L.length : Int) == 0) = false := by rw [beq_eq_false_iff_ne]; omega
        have h0'' : ¬ (L.length : Int) = 0 := by omega
        have hj0 : ¬ (j : Int) < 0 := by omega
        have hj1 : ¬ (L.length : Int) ≤ (j : Int) := by omega
        have hj1' : (j : Int) < (L.length : Int) := by omega
        have hj2 : ¬ L.length ≤ j := by omega
        have HS1 := hide hs1
        have HS2 := hide hs2
        have HSS : Hid (Looking w6 L.length (.int .i64 0) w6) := hide ⟨0, Nat.zero_le _, rfl, Below.refl _ _⟩
        clear hs1 hs2 hj
        go_wp2
        go_loopw [106] (fun i wr => Looking w6 L.length i wr) (fun i _ => L.length - (intOf i).toNat)
        case atStart => exact HSS.out
        case round =>
          clear HSS
          obtain ⟨i, hi, rfl, hB⟩ := hrel
          have HB := hide hB
          by_cases hlt : i < L.length
          · obtain ⟨wi, hwi⟩ : ∃ y, L[i]? = some y := ⟨_, List.getElem?_eq_getElem hlt⟩
            obtain ⟨wj, hwj⟩ : ∃ y, L[j]? = some y := ⟨_, List.getElem?_eq_getElem hjl⟩
            obtain ⟨bw, ow, e5, hri⟩ := (HW6.out.on hB).get (k := i) (c := wtC wi) (by rw [List.getElem?_map, hwi]; rfl)
            subst e5
            obtain ⟨bw', ow', e7, hrj⟩ := (HW6.out.on hB).get (k := j) (c := wtC wj) (by rw [List.getElem?_map, hwj]; rfl)
            cases e7
            have ei : L.getD i default = wi := by rw [List.getD, hwi]; rfl
            have ej : L.getD j default = wj := by rw [List.getD, hwj]; rfl
            have CIJ := hide (fun w => less_any wi wj (HOK.out wi (List.mem_of_getElem? hwi)) (HOK.out wj (List.mem_of_getElem? hwj)) w)
            have CJI := hide (fun w => less_any wj wi (HOK.out wj (List.mem_of_getElem? hwj)) (HOK.out wi (List.mem_of_getElem? hwi)) w)
            have hij := HS1.out i hlt
            rw [ei, ej] at hij
            rw [hij] at CIJ
            have hi1 : (i : Int) < (L.length : Int) := by omega
            have f0 := fun n os => range_grown hri n os 0 _ rfl
            have f1 := fun n os => range_grown hri n os 1 _ rfl
            have g0 := fun n os => range_grown hrj n os 0 _ rfl
            have g1 := fun n os => range_grown hrj n os 1 _ rfl
            simp only [Nat.add_zero] at f0 f1 g0 g1
            have R : Hid (∀ n os, Looking w6 L.length (.int .i64 ((i + 1 : Nat) : Int)) (Sort.grow (wr.drewN n) os)) := hide (fun n os => ⟨i + 1, by omega, rfl, below_on HB.out (below_grow (Below.refl _ _) n os)⟩)
            by_cases hlij : i < j
            · skip
              have hji := HS2.out i hlij
              rw [ei, ej] at hji
              rw [hji] at CJI
              have hd1 : (i : Int) < (j : Int) := by omega
              have hd2 : decide ((i : Int) < (j : Int)) = true := decide_eq_true hd1
              clear hri hrj ei ej hwi hwj hij hji hB
              go_wp2_with fail
              quiet_grown_hid (first | (go_at_call 22; first | (refine Calls.grown_of (CIJ.out _)) | (refine Calls.grown_of (CJI.out _))))
              have RR := hide (R.out nq osq)
              clear R f0 f1 g0 g1 CIJ CJI
              generalize Sort.grow (wr.drewN nq) osq = W3 at *
              go_wp2
              go_roundw
              case rel => first | exact RR.out | ((repeat apply Exists.intro); exact ⟨RR.out, rfl⟩)
              case measure => simp [intOf]; omega
            · have hd1 : ¬ (i : Int) < (j : Int) := by omega
              have hd2 : decide ((i : Int) < (j : Int)) = false := decide_eq_false hd1
              clear hri hrj ei ej hwi hwj hij hB
              go_wp2_with fail
              quiet_grown_hid (first | (go_at_call 22; first | (refine Calls.grown_of (CIJ.out _)) | (refine Calls.grown_of (CJI.out _))))
              have RR := hide (R.out nq osq)
              clear R f0 f1 g0 g1 CIJ CJI
              generalize Sort.grow (wr.drewN nq) osq = W3 at *
              go_wp2
              go_roundw
              case rel => first | exact RR.out | ((repeat apply Exists.intro); exact ⟨RR.out, rfl⟩)
              case measure => simp [intOf]; omega
          · have hi2 : (L.length : Int) ≤ (i : Int) := by omega
            have HB7 := hide (below_on HB6.out hB)
            clear hB HB
            go_wp2
            go_ret
            exact ⟨rfl, HB7.out⟩

set_option maxRecDepth 100000 in
theorem feeSorted_lifted (os : Os) (started : os.Started) (H : Type) (enc : TypeId × Value → H) :
    ReturnsInHanded {} Tryd.checked os 8 .any (fun w args => (Rows.feeSortedSpec.pre enc Tryd.prog Tryd.f8 [] false w args ∧ laidMetH Tryd.prog laid1 w) ∧ sizedMet enc Tryd.prog Tryd.f8 (OpenSpec.ofChange Rows.feeSortedSpec) false w args)
      (Rows.feeSortedSpec.post enc Tryd.prog Tryd.f8 false true false false) := by
  refine returnsInHanded_of_change_and (C := Tryd.checked) (X := fun w _ => laidMetH Tryd.prog laid1 w) (fun _ _ _ hh h => h.of_heap hh) own started (by kernel_rfl) Tryd.func8
    (ChangeSpec.witness_shaped (enc := enc) (C := Tryd.checked) (os := os) (X := fun w _ => laidMetH Tryd.prog laid1 w) false (World.doorLaid Tryd.prog 14 os) #[.slice none 0 0] 8 rfl (World.shaped_of_RefB (by kernel_rfl) (by kernel_rfl)) (by kernel_rfl) (by kernel_rfl) (by kernel_rfl) (door_met os _)) ?_
  intro W base args ds gs before hval0 hW _ _ hL _
  have hval : ∀ (j : Nat) t v, Tryd.f8.params[j]? = some t → args[j]? = some v → Value.okWide Tryd.prog W .any base t v := hval0
  have hW' := hW
  obtain ⟨p, q, hA0, hV, rfl, hfz, hnd⟩ := hW
  have hA : DataW.TrodAll enc Tryd.prog W 0 (fun _ => true) true Tryd.f8.params.toList args.toList ds p := hA0
  rw [Tryd.params8] at hA hval
  obtain ⟨v0, vs0, d0, ds0, p0, q0, hargs, rfl, rfl, h0, r0⟩ := trodAll_cons hA
  obtain ⟨rfl, rfl, rfl⟩ := trodAll_nil r0
  obtain rfl : args = #[v0] := by cases args; simp_all
  obtain ⟨rfl, rfl⟩ := trodVars_none hV
  have k0 := h0
  have lt0 : ∀ x ∈ p0, x.block < W.heap.size := by obtain ⟨m, hm⟩ := k0; exact DataW.trod_lt m _ _ _ hm
  obtain ⟨l0, s0, w0⟩ := wts_arg (hval 0 43 v0 rfl rfl) h0
  clear hA0 hval0
  refine (feeSorted_walk (w := W) (ks_of_laid hL) _ l0 w0 s0).mono fun e W' ⟨he, bel⟩ => ?_
  subst he
  exact ⟨_, rfl, _, _, _, [], _, [], hW', trodAll_mk1 (shut_bool Tryd.underlying4 _), (trodAll_cons_mk (Below.trod laidOut (by kernel_rfl) (of_decide_eq_true (by kernel_rfl)) k0 bel lt0) trodAll_mk0), rfl, bel.frame _, fun h => by cases h⟩

theorem feeSorted_holds : Rows.FeeSortedSaid :=
  OpenClaim.holds_of_wide 8 Tryd.f8 rfl rfl rfl rfl rfl rfl rfl ⟨rfl, rfl, rfl, rfl, rfl⟩ rfl rfl rfl rfl rfl (by kernel_rfl) Tryd.func8 (by kernel_rfl)
    (of_decide_eq_true (by kernel_rfl)) (by unfold Func.isWrapper; first | (rw [if_pos (by decide +kernel)]; kernel_rfl) | (rw [if_neg (by decide +kernel)]; exact ⟨rfl, rfl⟩))
    (fun os started H enc _ => feeSorted_lifted os started H enc)
#print axioms feeSorted_holds
theorem feeSorted_card : Rows.FeeSortedCardSaid :=
  Claim7.holds_tied_plain_at .later [] [.data] true (true, "85baf81c6edc530ebc6a8ace781ae8a87f889e51b0c1991837a95916fbd68c89") false
    feeSorted_holds (fun _ h => by cases h) (by kernel_rfl) (fun _ h => by cases h) feeSorted_row_tie rfl ⟨rfl, rfl⟩ (by kernel_rfl) rfl
    (fun f fn hf hfn => by
      obtain rfl : f = 8 := Option.some.inj ((show Tryd.prog.funcNamed "pappus/pappuslaw10.FeeSorted" = some 8 by kernel_rfl).symm.trans hf) |>.symm
      obtain rfl : fn = Tryd.f8 := (Option.some.inj (Tryd.func8.symm.trans hfn)).symm
      exact ⟨by kernel_rfl, fun j t ht => by
        rw [Tryd.params8] at ht
        have hm : t ∈ [43] := by simpa using Array.mem_of_getElem? ht
        have hall : ([43].all fun u => !Tryd.prog.wantsStandIn u) = true := by kernel_rfl
        exact (show Tryd.prog.wantsStandIn t = false by simpa using List.all_eq_true.1 hall t hm)⟩)
    (by kernel_rfl)
#print axioms feeSorted_card
end Go.Proofs.YtbeegcpmpgdbnaaDoor
