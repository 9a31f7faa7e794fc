import Derived.Test.YtbeegcpmpgdbnaaDoorFeeA
import Derived.Test.YtbeegcpmpgdbnaaDoorRowAdd
import Derived.Test.YtbeegcpmpgdbnaaDoorTxStep
import Derived.Test.YtbeegcpmpgdbnaaDoorTxR
/-
  What fee.Order answers at this program, whatever the weights: the places, in order.
-/
namespace Go.Proofs.YtbeegcpmpgdbnaaDoor
open Go.RowKit Go.Shelf Go.Lib

theorem infoInt : (Tryd.prog.info? 3).map (fun i => (i.zero, i.size, i.bytes)) = some (some (.int .i64 0), 1, 8) := by kernel_rfl
/-- So far these places stand there. -/
def Placing (w : World) (n : Nat) (v i : Value) (wr : World) : Prop := ∃ k : Nat, k ≤ n ∧ i = .int .i64 k ∧ Below w.heap.size w wr ∧ RowOwn wr w.heap.size 3 1 v (plC (List.range k))

set_option maxRecDepth 100000 in
set_option maxHeartbeats 1000000 in
theorem order10_any (L : List Wt) (hok : ∀ x ∈ L, WtOk x) (hn : L.length ≤ 1000) (v : Value) (w : World) (h : RowAt w 2 v (L.map wtC)) :
    Calls Tryd.prog 18 #[v] w fun e w' => ∃ v' P, e = .returned v' ∧ Ordd L P ∧ Below w.heap.size w w' ∧ RowOwn w' w.heap.size 3 1 v' (plC P) := by
  have hf := h.form
  rw [List.length_map] at hf
  obtain ⟨a, cap, rfl, hc1, hc2⟩ := hf
  have hnew := below_new w (.cells #[.slice a L.length cap] 44)
  have HI := hide (h.on hnew)
  have HB0 := hide hnew
  have hbx := range_new w [.slice a L.length cap] 44 0 _ rfl
  simp only [Nat.zero_add] at hbx
  have HL := hide hok
  clear h hok hnew
  go_enter Tryd.func18, Tryd.ntmps18
  go_upto_region 1 with fail
  change (w.alloc (.cells #[.slice a L.length cap] 44)).cell? _ = _ at hbx
  generalize w.alloc (.cells #[.slice a L.length cap] 44) = W0 at *
  generalize hb : w.heap.size = B at *
  have HBB := hide hb
  clear hb
  have HX := hide hbx
  have HS : Hid (Placing W0 L.length (.slice none 0 0) (.int .i64 0) W0) := hide ⟨0, Nat.zero_le _, rfl, Below.refl _ _, RowOwn.nil _ _ _ _⟩
  go_wp2
  clear hbx
  go_loopw [3, 7] (fun v i wr => Placing W0 L.length v i wr) (fun _ i _ => L.length - (intOf i).toNat)
  case atStart => exact HS.out
  case round =>
    clear HS
    obtain ⟨k, hk, rfl, hB, hown⟩ := hrel
    have HB := hide hB
    have HOWN := hide hown
    by_cases hlt : k < L.length
    · have hk1 : (k : Int) < (L.length : Int) := by omega
      have hbn := below_new wr (.cells #[.int .i64 (k : Int)] 3)
      have HNEW := hide (range_new wr [.int .i64 (k : Int)] 3)
      have HOWN3 := hide (HOWN.out.move (w1 := wr.alloc (.cells #[.int .i64 (k : Int)] 3)) fun g _ hl => hbn.block g hl)
      have HB4 := hide (HB.out.alloc HB.out.size (.cells #[.int .i64 (k : Int)] 3))
      have hw4 : W0.heap.size ≤ (wr.alloc (.cells #[.int .i64 (k : Int)] 3)).heap.size := HB4.out.size
      obtain ⟨v4, w4, hrun, hrow5, hgr, hwh⟩ := run_append_row (wr.alloc (.cells #[.int .i64 (k : Int)] 3)) 46 3 46 _ 1 8 Tryd.underlying46 infoInt rfl (by omega) (by omega) W0.heap.size u3 (plC (List.range k)) HOWN3.out wr.heap.size [.int .i64 (k : Int)] HNEW.out ⟨rfl, fun y hy => by rw [List.mem_singleton.1 hy]; rfl⟩ (by simp [plC]; omega) hw4
      have hlt5 := HOWN3.out.lt
      have R1 : Hid (Below W0.heap.size W0 w4) := hide (HB4.out.grown hgr hw4 fun j hj => (hlt5 j hj).1)
      have R : Hid (Placing W0 L.length v4 (.int .i64 ((k + 1 : Nat) : Int)) w4) := hide ⟨k + 1, by omega, rfl, R1.out, by
        have e : plC (List.range (k + 1)) = plC (List.range k) ++ [[.int .i64 (k : Int)]] := by
          rw [List.range_succ]
          simp [plC]
        rw [e]
        exact hrow5⟩
      clear hbn hrow5 hgr hwh hw4 hlt5 R1 hB hown HB HOWN HB4 HNEW HOWN3
      go_wp2_with (at_builtin; refine wp_app rfl (.tmp 10) (.tmp 12) 46 rfl (v1 := u3) (v2 := .slice (some ⟨wr.heap.size, 0, none⟩) 1 1) (v := v4) (w' := w4) rfl rfl ?_ ?_; exact hrun)
      go_roundw
      case rel => first | exact R.out | ((repeat apply Exists.intro); exact ⟨R.out, rfl⟩)
      case measure => simp [intOf]; omega
    · have hk2 : (L.length : Int) ≤ (k : Int) := by omega
      have hkn : k = L.length := by omega
      subst hkn
      have C := places_sorted L HL.out (by omega) W0 wr W0.heap.size B a cap HX.out HI.out hB (Nat.le_refl _) u3 hown
      have hlt5 := hown.lt
      clear hown HOWN HX
      go_wp2_with fail
      refine C.mono ?_
      rintro e w2 ⟨rfl, P, h1, h2, h3⟩
      have hb0 : Below w.heap.size w W0 := by
        rw [HBB.out]
        exact HB0.out
      have R : Hid (Ordd L P ∧ Below w.heap.size w w2 ∧ RowOwn w2 w.heap.size 3 1 u3 (plC P)) := hide ⟨h1, below_on hb0 (hB.grown h3 hB.size fun j hj => (hlt5 j hj).1), h2.low hb0.size⟩
      clear h1 h2 h3 hlt5 C hB HB hb0
      go_wp2
      go_ret
      exact ⟨_, P, rfl, R.out⟩

end Go.Proofs.YtbeegcpmpgdbnaaDoor

/-
  What fee.Worst answers at this program, whatever the weights.
-/
namespace Go.Proofs.YtbeegcpmpgdbnaaDoor
open Go.RowKit Go.Shelf Go.Lib Go.Sort

/-- The worst of the first k. -/
def worstK (L : List Wt) : Nat → Int
  | 0 => -1
  | k + 1 => if worstK L k < 0 then (k : Int) else if lessW (L.getD k default) (L.getD (worstK L k).toNat default) = true then (k : Int) else worstK L k
theorem worstK_range (L : List Wt) : ∀ k, -1 ≤ worstK L k ∧ worstK L k < (k : Int)
  | 0 => by unfold worstK; omega
  | k + 1 => by
    have := worstK_range L k
    unfold worstK
    split
    · omega
    · split <;> omega
def Worsting (w : World) (L : List Wt) (m i : Value) (wr : World) : Prop := ∃ k : Nat, k ≤ L.length ∧ i = .int .i64 k ∧ m = .int .i64 (worstK L k) ∧ Below w.heap.size w wr
theorem info_wt : (Tryd.prog.info? 53).map (·.size) = some 2 := by kernel_rfl
theorem below_grow {w0 w : World} (h : Below w0.heap.size w0 w) (n : Nat) (os : Array Obj) : Below w0.heap.size w0 (grow (w.drewN n) os) := by
  refine ⟨h.os, h.tape, h.output, ?_, fun j hj => ?_⟩
  · rw [size_grow]
    exact Nat.le_trans h.size (Nat.le_add_right _ _)
  · rw [heap_grow_old _ _ (by show j < w.heap.size; have := h.size; omega)]
    exact h.block j hj

set_option maxRecDepth 100000 in
set_option maxHeartbeats 1000000 in
theorem worst_any (L : List Wt) (hok : ∀ x ∈ L, WtOk x) (_hn : L.length ≤ 1000000) (v : Value) (w : World) (h : RowAt w 2 v (L.map wtC)) :
    Calls Tryd.prog 20 #[v] w fun e w' => e = .returned (.int .i64 (worstK L L.length)) ∧ Below w.heap.size w w' := by
  have mixed : Tryd.prog.follows .mixedOrders = true := by kernel_rfl
  have aE := Tryd.isAgg53
  have zE := Tryd.sizeOf53
  have hf := h.form
  rw [List.length_map] at hf
  obtain ⟨a, cap, rfl, hc1, hc2⟩ := hf
  have HI := hide h
  have HL := hide hok
  have HS : Hid (Worsting w L (.int .i64 (-1)) (.int .i64 0) w) := hide ⟨0, Nat.zero_le _, rfl, rfl, Below.refl _ _⟩
  clear h hok
  go_enter Tryd.func20, Tryd.ntmps20
  go_wp2
  go_loopw [3, 8] (fun m i wr => Worsting w L m i wr) (fun _ i _ => L.length - (intOf i).toNat)
  case atStart => exact HS.out
  case round =>
    clear HS
    obtain ⟨k, hk, rfl, rfl, hB⟩ := hrel
    by_cases hlt : k < L.length
    · obtain ⟨x, hx⟩ : ∃ x, L[k]? = some x := ⟨_, List.getElem?_eq_getElem hlt⟩
      obtain ⟨b, off, rfl, hr⟩ := (HI.out.on hB).get (k := k) (c := wtC x) (by rw [List.getElem?_map, hx]; rfl)
      have hk1 : (k : Int) < (L.length : Int) := by omega
      have HXR := hide hr
      have HB := hide hB
      have HX := hide hx
      have H1 : Hid (∀ u ∈ wtC x, u.oneCell' = true) := hide (by
        intro u hu
        simp only [wtC, List.mem_cons, List.not_mem_nil, or_false] at hu
        rcases hu with rfl | rfl <;> rfl)
      have HT : Hid (∀ w : World, (w.alloc (.cells #[.int .u64 0, .int .i64 0] 53)).there w.heap.size 0 (wtC x).length) := hide (fun w => there_new w _ _)
      clear hr hB hx
      go_upto_region 5 with (first | (refine wpList_load_mid rfl 53 (.tmp 11) rfl b (off + k * 2) rfl (wtC x) _ HXR.out Tryd.underlying53 rfl info_wt ?_) | (refine wp_store_row rfl 53 (.tmp 5) (.tmp 12) rfl wr.heap.size 0 (wtC x) rfl rfl (HT.out wr) info_wt H1.out ?_))
      have hW : ((wr.alloc (.cells #[.int .u64 0, .int .i64 0] 53)).setCells wr.heap.size 0 (wtC x)).rangeAt wr.heap.size 0 (wtC x) := World.rangeAt_setCells_same _ _ _ _ (HT.out wr)
      have hB2 : Below wr.heap.size wr ((wr.alloc (.cells #[.int .u64 0, .int .i64 0] 53)).setCells wr.heap.size 0 (wtC x)) := below_sets (Nat.le_refl _) _ _ _ ((Below.refl _ _).alloc (Nat.le_refl _) _)
      generalize (wr.alloc (.cells #[.int .u64 0, .int .i64 0] 53)).setCells wr.heap.size 0 (wtC x) = W2 at *
      have HB2 := hide (below_on HB.out hB2)
      have fx := fun n os => range_grown hW n os 0 _ rfl
      have fx1 := fun n os => range_grown hW n os 1 _ rfl
      simp only [Nat.zero_add, Nat.add_zero] at fx fx1
      clear hW hB2 HXR H1 HT HB
      generalize wr.heap.size = gb at *
      obtain ⟨r, hr⟩ : ∃ r, r = worstK L k := ⟨_, rfl⟩
      have hrr := worstK_range L k
      rw [← hr] at hrr
      have HR := hide hr
      rw [← hr]
      clear hr
      by_cases h0 : r < 0
      · have hd : decide (r < 0) = true := decide_eq_true h0
        have HE : Hid (worstK L (k + 1) = (k : Int)) := hide (by
          unfold worstK
          rw [← HR.out, if_pos h0])
        go_wp2_with fail
        go_quiet_grown (first | (go_at_call 22; fail))
        have R : Hid (Worsting w L (.int .i64 (k : Int)) (.int .i64 ((k + 1 : Nat) : Int)) (grow (W2.drewN nq) osq)) := hide ⟨k + 1, by omega, rfl, by rw [HE.out], below_grow HB2.out _ _⟩
        clear fx fx1
        generalize grow (W2.drewN nq) osq = W3 at *
        go_wp2
        go_roundw
        case rel => first | exact R.out | ((repeat apply Exists.intro); exact ⟨R.out, rfl⟩)
        case measure => simp [intOf]; omega
      · have hd : decide (r < 0) = false := decide_eq_false h0
        obtain ⟨j, rfl⟩ : ∃ j : Nat, r = (j : Int) := ⟨r.toNat, by omega⟩
        obtain ⟨y, hy⟩ : ∃ y, L[j]? = some y := ⟨_, List.getElem?_eq_getElem (by omega)⟩
        obtain ⟨b', off', e', hry⟩ := (HI.out.on HB2.out).get (k := j) (c := wtC y) (by rw [List.getElem?_map, hy]; rfl)
        cases e'
        have fy := fun n os => range_grown hry n os 0 _ rfl
        have fy1 := fun n os => range_grown hry n os 1 _ rfl
        simp only [Nat.add_zero] at fy fy1
        have hj1 : (j : Int) < (L.length : Int) := by omega
        have C := hide (fun w => less_any x y (HL.out x (List.mem_of_getElem? HX.out)) (HL.out y (List.mem_of_getElem? hy)) w)
        have ex : L.getD k default = x := by rw [List.getD, HX.out]; rfl
        have ey : L.getD j default = y := by rw [List.getD, hy]; rfl
        have HE : Hid (worstK L (k + 1) = if lessW x y = true then (k : Int) else (j : Int)) := hide (by
          unfold worstK
          rw [← HR.out, if_neg h0, Int.toNat_natCast, ex, ey])
        clear hry hy ex ey HX
        cases hl : lessW x y with
        | true =>
          rw [hl] at C HE
          have HE2 : Hid (worstK L (k + 1) = (k : Int)) := hide (by rw [HE.out, if_pos rfl])
          clear hl HE
          go_wp2_with fail
          go_quiet_grown (first | (go_at_call 22; refine Calls.grown_of (C.out _)))
          have R : Hid (Worsting w L (.int .i64 (k : Int)) (.int .i64 ((k + 1 : Nat) : Int)) (grow (W2.drewN nq) osq)) := hide ⟨k + 1, by omega, rfl, by rw [HE2.out], below_grow HB2.out _ _⟩
          clear fx fx1 fy fy1
          generalize grow (W2.drewN nq) osq = W3 at *
          go_wp2
          go_roundw
          case rel => first | exact R.out | ((repeat apply Exists.intro); exact ⟨R.out, rfl⟩)
          case measure => simp [intOf]; omega
        | false =>
          rw [hl] at C HE
          have HE2 : Hid (worstK L (k + 1) = (j : Int)) := hide (by rw [HE.out, if_neg (by decide)])
          clear hl HE
          go_wp2_with fail
          go_quiet_grown (first | (go_at_call 22; refine Calls.grown_of (C.out _)))
          have R : Hid (Worsting w L (.int .i64 (j : Int)) (.int .i64 ((k + 1 : Nat) : Int)) (grow (W2.drewN nq) osq)) := hide ⟨k + 1, by omega, rfl, by rw [HE2.out], below_grow HB2.out _ _⟩
          clear fx fx1 fy fy1
          generalize grow (W2.drewN nq) osq = W3 at *
          go_wp2
          go_roundw
          case rel => first | exact R.out | ((repeat apply Exists.intro); exact ⟨R.out, rfl⟩)
          case measure => simp [intOf]; omega
    · have hk2 : (L.length : Int) ≤ (k : Int) := by omega
      obtain rfl : k = L.length := by omega
      have R := hide hB
      clear hB
      generalize hw : worstK L L.length = r at *
      have HQ := hide hw
      clear hw
      go_wp2
      go_ret
      exact ⟨by rw [HQ.out]; first | done | rfl, R.out⟩

end Go.Proofs.YtbeegcpmpgdbnaaDoor
