/-
  Proved: for every slice of numbers of the type uint64 the law CalcOrders answers true, and its argument reads as it did. No condition.
-/
import Derived.Test.YtggekibapfhcdabLaw
namespace Go.Proofs.Ytggekibapfhcdab
open Go.ChangeShapes Go.WideShapes Go.ChangeAt Go.RowKit

theorem infoU : (Try.prog.info? 24).map (fun i => (i.zero, i.size, i.bytes)) = some (some (.int .u64 0), 1, 8) := by kernel_rfl

theorem tot_reverse (l : List Int) : tot l.reverse = tot l := by
  induction l with
  | nil => rfl
  | cons x l ih => rw [List.reverse_cons, tot_append, ih]; simp only [tot]; omega
theorem back_snoc (l : List Int) (k j : Nat) (h : j + k + 1 = l.length) : l.reverse.take (k + 1) = l.reverse.take k ++ [l.getD j 0] := by
  rw [List.take_succ_eq_append_getElem (by simp; omega)]
  congr 1
  have h1 : l.length - 1 - k = j := by omega
  simp [List.getElem_reverse, h1, List.getD, show j < l.length by omega]

/-- What has been gathered. -/
def gathered (l : List Int) (k : Nat) : List Value := (l.reverse.take k).map (Value.int .u64)
/-- What has been gathered is a row of the call's own. -/
def Backed (w : World) (l : List Int) (v i : Value) (wr : World) : Prop :=
  ∃ k : Nat, k ≤ l.length ∧ i = .int .i64 k ∧ wr.ownsRow w.heap.size 24 1 v k (gathered l k) ∧ Below w.heap.size w wr
theorem slice_own {w : World} {base n : Nat} {v : Value} {L : List Int} (h : w.ownsRow base 24 1 v n (L.map (Value.int .u64))) (hn : n ≤ 10000) : Slice w v L := by
  obtain ⟨hlen, h⟩ := h
  have hl : L.length = n := by simpa using hlen
  rcases h with ⟨rfl, h0⟩ | ⟨g, cap, cur, rfl, hb, hg, hc, hm, hs, ht⟩
  · exact Or.inl ⟨none, 0, rfl, List.length_eq_zero_iff.1 (by omega)⟩
  · refine Or.inr ⟨g, 0, cap, by rw [hl], fun i hi => ?_, by omega⟩
    have hown : w.ownsRow base 24 1 (.slice (some ⟨g, 0, none⟩) n cap) n (L.map (Value.int .u64)) := ⟨hlen, Or.inr ⟨g, cap, cur, rfl, hb, hg, hc, hm, hs, ht⟩⟩
    rw [Nat.zero_add, hown.cellAt i (by omega)]
    simp [List.getD, hi]
theorem backed_next {w wr w1 : World} {l : List Int} {v v' : Value} {k j : Nat} {o : Obj} (hj : j + k + 1 = l.length)
    (hown : wr.ownsRow w.heap.size 24 1 v k (gathered l k)) (hb : Below w.heap.size w wr)
    (hown' : w1.ownsRow w.heap.size 24 1 v' (k + 1) (gathered l k ++ [.int .u64 (l.getD j 0)])) (hgrow : (wr.alloc o).grownBy w1 v.ownBlock) :
    Backed w l v' (.int .i64 ((k + 1 : Nat) : Int)) w1 := by
  refine ⟨k + 1, by omega, rfl, ?_, (hb.alloc hb.size o).grown hgrow (by simp; have := hb.size; omega) (fun j hj => (hown.lt j hj).1)⟩
  have e : gathered l (k + 1) = gathered l k ++ [.int .u64 (l.getD j 0)] := by
    unfold gathered
    rw [back_snoc l k j hj, List.map_append]
    rfl
  rw [e]
  exact hown'

set_option maxHeartbeats 4000000 in
theorem orders_slice (l : List Int) (b off cap : Nat) (w : World) (hl : ∀ z ∈ l, Word z) (hc : Bears w b off l) (hn : l.length ≤ 10000) (hpos : 0 < l.length) :
    Calls Try.prog 3 #[.slice (some ⟨b, off, none⟩) l.length cap] w fun e w' => e = .returned (.bool true) ∧ Below w.heap.size w w' := by
  obtain ⟨i0, hi, hz0, hz1, hz2⟩ := info_parts infoU
  have hbw : b < w.heap.size := World.block_lt_of_cell? _ _ (hc 0 hpos)
  have HV := hide (show Slice w (.slice (some ⟨b, off, none⟩) l.length cap) l from Or.inr ⟨b, off, cap, rfl, hc, by omega⟩)
  have HC := hide hc
  have hlr : ∀ z ∈ l.reverse, Word z := fun z hz => hl z (by simpa using hz)
  have C1 := hide (fun w hv => sum_any l (.slice (some ⟨b, off, none⟩) l.length cap) w hl hv)
  have C2 := hide (fun v w hv => sum_any l.reverse v w hlr hv)
  have C3 := hide (fun w hv => later_any 0 l (.slice (some ⟨b, off, none⟩) l.length cap) w ⟨by omega, by omega⟩ hl hv)
  have C4 := hide (fun v w hv => later_any 0 l.reverse v w ⟨by omega, by omega⟩ hlr hv)
  have e1 : sumV l.reverse = sumV l := by unfold sumV; rw [tot_reverse]
  have e2 : sumE l.reverse = sumE l := by unfold sumE; rw [tot_reverse]
  have e3 : laterV 0 l.reverse = laterV 0 l := by unfold laterV; rw [tot_reverse]
  rw [e1, e2] at C2
  rw [e3] at C4
  have hway : (sumE l = 0 ∧ laterV 0 l = sumV l) ∨ (sumE l = 3 ∧ sumV l = 0 ∧ laterV 0 l = 18446744073709551615) := by
    by_cases h : tot l < 18446744073709551616
    · obtain ⟨h1, h2⟩ := sum_fit h
      exact Or.inl ⟨h2, by rw [laterV_fits (by omega), h1]; omega⟩
    · obtain ⟨h1, h2⟩ := sum_not (l := l) (by omega)
      exact Or.inr ⟨h2, h1, laterV_over (by omega)⟩
  generalize sumV l = s at *
  generalize sumE l = x at *
  generalize laterV 0 l = y at *
  have HW := hide hway
  clear e1 e2 e3 hl hlr hc hway
  have hn1 : ¬ (10000 : Int) < (l.length : Int) := by omega
  go_enter Try.func3, Try.ntmps3
  go_wp2_with fail
  refine (alive_any _).mono ?_
  rintro e w1 ⟨rfl, hbel⟩
  have HB := hide hbel
  have hbw1 : b < w1.heap.size := Nat.lt_of_lt_of_le hbw hbel.size
  clear hbel
  go_wp2_with fail
  go_loopw [3, 17] (fun v i wr => Backed w1 l v i wr) (fun _ i _ => l.length - (intOf i).toNat)
  case atStart => exact ⟨0, Nat.zero_le _, rfl, World.ownsRow_nil _ _ _ _, Below.refl _ _⟩
  case round =>
    obtain ⟨k, hk, rfl, hown, hnx⟩ := hrel
    by_cases hlt : k < l.length
    · obtain ⟨j, hj⟩ : ∃ j, j + k + 1 = l.length := ⟨l.length - 1 - k, by omega⟩
      have HJ := hide hj
      have hji : (l.length : Int) - 1 - (k : Int) = (j : Int) := by omega
      have hjl : j < l.length := by omega
      have hcell : wr.cell? ⟨b, off + j, none⟩ = some (.int .u64 (l.getD j 0)) := (hnx.cell (p := ⟨b, off + j, none⟩) hbw1).trans ((HB.out.cell (p := ⟨b, off + j, none⟩) hbw).trans (HC.out j hjl))
      clear hj
      generalize hz : l.getD j 0 = z at *
      have HZ := hide hz
      have HO := hide hown
      have HX := hide hnx
      clear hz
      go_wp2_with (at_builtin; refine wpList_append_own _ rfl _ _ 22 rfl w1.heap.size 24 i0 (.int .u64 0) 1 8 Try.underlying22 hi hz0 hz1 hz2 rfl (by decide) _ _ _ rfl (HO.out.alloc _) ⟨wr.heap.size, 0, none⟩ 1 1 [.int .u64 z] rfl rfl ?c1 ?c2 ?c3 ?c4 ?c5 ?_)
      case c1 =>
        intro j u hj
        match j, hj with
        | 0, hj => simp at hj; subst hj; simp [Addr.add]
      case c2 => intro u hu; simp at hu; subst hu; rfl
      case c3 => unfold maxLen; omega
      case c4 => omega
      case c5 => have := HX.out.size; simp; omega
      intro v' w2 hown' hgrow _
      rw [← HZ.out] at hown'
      have R := hide (backed_next HJ.out HO.out HX.out hown' hgrow)
      clear hown' hgrow hown hnx hcell
      go_wp2
      go_roundw
      case rel => exact R.out
      case measure => simp [intOf]; omega
    · obtain rfl : k = l.length := by omega
      have HVr := hide (HV.out.below (HB.out.trans (hnx.mono HB.out.size)))
      unfold gathered at hown
      rw [List.take_of_length_le (by simp)] at hown
      have HVb := hide (slice_own hown hn)
      have HE := hide (HB.out.trans (hnx.mono HB.out.size))
      clear hown hnx hlt hk
      rcases HW.out with ⟨q1, q2⟩ | ⟨q1, q2, q3⟩
      · subst q1 q2
        go_wp2_with fail
        refine (C1.out _ HVr.out).mono ?_
        rintro e w' ⟨rfl, rfl⟩
        go_wp2_with fail
        refine (C2.out _ _ HVb.out).mono ?_
        rintro e w' ⟨rfl, rfl⟩
        go_wp2_with fail
        refine (C3.out _ HVr.out).mono ?_
        rintro e w' ⟨rfl, rfl⟩
        go_wp2_with fail
        refine (C4.out _ _ HVb.out).mono ?_
        rintro e w' ⟨rfl, rfl⟩
        go_wp2
        go_ret
        exact ⟨rfl, HE.out⟩
      · subst q1 q2 q3
        go_wp2_with fail
        refine (C1.out _ HVr.out).mono ?_
        rintro e w' ⟨rfl, rfl⟩
        go_wp2_with fail
        refine (C2.out _ _ HVb.out).mono ?_
        rintro e w' ⟨rfl, rfl⟩
        go_wp2_with fail
        refine (C3.out _ HVr.out).mono ?_
        rintro e w' ⟨rfl, rfl⟩
        go_wp2_with fail
        refine (C4.out _ _ HVb.out).mono ?_
        rintro e w' ⟨rfl, rfl⟩
        go_wp2
        go_ret
        exact ⟨rfl, HE.out⟩

set_option maxHeartbeats 1000000 in
theorem orders_many (a : Option Addr) (n cap : Nat) (w : World) (hn : 10000 < n) :
    Calls Try.prog 3 #[.slice a n cap] w fun e w' => e = .returned (.bool true) ∧ Below w.heap.size w w' := by
  have hn1 : (10000 : Int) < (n : Int) := by omega
  go_enter Try.func3, Try.ntmps3
  go_wp2_with fail
  refine (alive_any _).mono ?_
  rintro e w1 ⟨rfl, hbel⟩
  have HB := hide hbel
  clear hbel
  go_wp2
  go_ret
  exact ⟨rfl, HB.out⟩
set_option maxHeartbeats 1000000 in
theorem orders_none (a : Option Addr) (cap : Nat) (w : World) :
    Calls Try.prog 3 #[.slice a 0 cap] w fun e w' => e = .returned (.bool true) ∧ Below w.heap.size w w' := by
  have C1 := hide (fun w => sum_fits [] (.slice a 0 cap) w (by simp) (Or.inl ⟨a, cap, rfl, rfl⟩) (by simp [tot]))
  have C2 := hide (fun w => sum_fits [] (.slice none 0 0) w (by simp) (Or.inl ⟨none, 0, rfl, rfl⟩) (by simp [tot]))
  have C3 := hide (fun w => later_any 0 [] (.slice a 0 cap) w ⟨by omega, by omega⟩ (by simp) (Or.inl ⟨a, cap, rfl, rfl⟩))
  have C4 := hide (fun w => later_any 0 [] (.slice none 0 0) w ⟨by omega, by omega⟩ (by simp) (Or.inl ⟨none, 0, rfl, rfl⟩))
  have e1 : tot [] = 0 := rfl
  have e2 : laterV 0 [] = 0 := rfl
  rw [e1] at C1 C2
  rw [e2] at C3 C4
  clear e1 e2
  go_enter Try.func3, Try.ntmps3
  go_wp2_with fail
  refine (alive_any _).mono ?_
  rintro e w1 ⟨rfl, hbel⟩
  have HB := hide hbel
  clear hbel
  go_wp2_with fail
  go_loop [3, 17] (fun v i => v = .slice none 0 0 ∧ i = .int .i64 0) (fun _ _ => 0)
  case atStart => exact ⟨rfl, rfl⟩
  case round =>
    obtain ⟨rfl, rfl⟩ := hrel
    go_wp2_with fail
    refine (C1.out _).mono ?_
    rintro e w' ⟨rfl, rfl⟩
    go_wp2_with fail
    refine (C2.out _).mono ?_
    rintro e w' ⟨rfl, rfl⟩
    go_wp2_with fail
    refine (C3.out _).mono ?_
    rintro e w' ⟨rfl, rfl⟩
    go_wp2_with fail
    refine (C4.out _).mono ?_
    rintro e w' ⟨rfl, rfl⟩
    go_wp2
    go_ret
    exact ⟨rfl, HB.out⟩
theorem orders_law (w : World) (v : Value) (l : List Int) (hl : ∀ z ∈ l, Word z) (hv : Slice w v l) :
    Calls Try.prog 3 #[v] w fun e w' => e = .returned (.bool true) ∧ Below w.heap.size w w' := by
  by_cases hn : 10000 < l.length
  · obtain ⟨a, cap, rfl⟩ := hv.form
    exact orders_many a _ cap w hn
  · rcases Nat.eq_zero_or_pos l.length with h0 | h0
    · obtain ⟨a, cap, rfl⟩ := hv.form
      rw [h0]
      exact orders_none a cap w
    · rcases hv with ⟨a, cap, rfl, rfl⟩ | ⟨b, off, cap, rfl, hc, hlen⟩
      · simp at h0
      · exact orders_slice l b off cap w hl hc (by omega) h0

set_option maxRecDepth 100000 in
theorem calcOrders_lifted (os : Os) (started : os.Started) (H : Type) (enc : TypeId × Value → H) :
    ReturnsInHanded {} Try.checked os 3 .any (Rows.calcOrdersSpec.pre6 enc Try.prog Try.f3 Rows.calcOrdersRow.domain false) (Rows.calcOrdersSpec.post enc Try.prog Try.f3 false true false false) := by
  refine returnsInHanded_of_change (C := Try.checked) own started (by kernel_rfl) Try.func3
    (ChangeSpec.witness6 (enc := enc) (C := Try.checked) false ⟨#[], #[.slice none 0 0], []⟩ 8 (by kernel_rfl) (by kernel_rfl) (by kernel_rfl) (by kernel_rfl)) ?_
  intro W base args ds gs before hval0 hW hcnd _
  have hval : ∀ (j : Nat) t v, Try.f3.params[j]? = some t → args[j]? = some v → Value.okWide Try.prog W .any base t v := hval0
  have hW' := hW
  obtain ⟨p, q, hA0, hV, rfl, hfz, hnd⟩ := hW
  have hA : DataW.TrodAll enc Try.prog W 0 (fun _ => true) true Try.f3.params.toList args.toList ds p := hA0
  rw [Try.params3] at hA hval
  obtain ⟨v0, vs0, d0, ds0, p0, q0, hargs, rfl, rfl, h0, r0⟩ := trodAll_cons hA
  obtain ⟨rfl, rfl, rfl⟩ := trodAll_nil r0
  obtain rfl : args = #[v0] := by cases args; simp_all
  obtain ⟨rfl, rfl⟩ := trodVars_none hV
  obtain ⟨b0, len0, cap0, rfl⟩ := okWide_slice Try.underlying22 (hval 0 22 v0 rfl rfl)
  have k0 := h0
  have lt0 : ∀ x ∈ p0, x.block < W.heap.size := by obtain ⟨m, hm⟩ := k0; exact DataW.trod_lt m _ _ _ hm
  obtain ⟨l0, s0, w0⟩ : ∃ l, Slice W (.slice b0 len0 cap0) l ∧ ∀ z ∈ l, Word z := by
    obtain ⟨fuel, hf⟩ := h0
    rcases open_ints Try.underlying22 Try.underlying24 (by kernel_rfl) hf with ⟨hcs, _⟩ | ⟨x, l, c, zs, hcs, _, hl, hm, hz, _, hcell, hwz⟩
    · simp [Value.cells] at hcs
      obtain ⟨rfl, rfl, rfl⟩ := hcs
      exact ⟨[], Or.inl ⟨none, 0, rfl, rfl⟩, by simp⟩
    · simp [Value.cells] at hcs
      obtain ⟨rfl, rfl, rfl⟩ := hcs
      exact slice_row hl hm (by simpa using hz) hcell hwz
  clear hA0 hval0
  refine (orders_law (w := W) _ l0 w0 s0).mono fun e W' ⟨he, bel⟩ => ?_
  subst he
  exact ⟨_, rfl, _, _, _, [], _, [], hW', trodAll_mk1 (shut_bool Try.underlying4 _), (trodAll_cons_mk (Below.trod laidOut (by kernel_rfl) (of_decide_eq_true (by kernel_rfl)) k0 bel lt0) trodAll_mk0), rfl, bel.frame _, fun h => by cases h⟩

theorem calcOrders_holds : Rows.CalcOrdersSaid :=
  OpenClaim.holds_of_wide 3 Try.f3 rfl rfl rfl rfl rfl rfl rfl ⟨rfl, rfl, rfl, rfl, rfl⟩ rfl rfl rfl rfl rfl (by kernel_rfl) Try.func3 (by kernel_rfl)
    (of_decide_eq_true (by kernel_rfl)) (by unfold Func.isWrapper; first | (rw [if_pos (by decide +kernel)]; kernel_rfl) | (rw [if_neg (by decide +kernel)]; exact ⟨rfl, rfl⟩))
    (fun os started H enc _ => calcOrders_lifted os started H enc)
#print axioms calcOrders_holds
end Go.Proofs.Ytggekibapfhcdab
