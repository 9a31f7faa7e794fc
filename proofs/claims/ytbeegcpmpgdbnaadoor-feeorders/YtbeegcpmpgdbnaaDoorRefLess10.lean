/-
  What pappusref10.Less answers at this program, whatever the weights.
-/
import Derived.Test.YtbeegcpmpgdbnaaDoorFeeA
import Derived.Test.YtbeegcpmpgdbnaaDoorRefCmp
import Derived.BigQuiet
namespace Go.Proofs.YtbeegcpmpgdbnaaDoor
open Go.RowKit Go.Sort

/-- A region that only reads, whose callees lay blocks, walked by the cheap step where that goes. -/
macro "quiet_grown_cheap " "(" tac:tactic ")" : tactic => `(tactic|
  (refine wp_region_quiet_grown (by assumption) (by kernel_rfl) ?_
   repeat (first | go_big_quiet_skip | go_big_quiet_step ($tac:tactic) | quiet_step ($tac:tactic))
   refine wpQuiet_nil ?_
   intro _ hw'
   obtain ⟨⟨$(Lean.mkIdent `nq):ident, $(Lean.mkIdent `osq):ident⟩, hw''⟩ := hw'
   subst hw''))

theorem grow_more {w w' : World} (h : ∃ os, w' = grow w os) (o : Obj) : ∃ os, w'.alloc o = grow w os := by
  obtain ⟨os, rfl⟩ := h
  exact ⟨os ++ #[o], by rw [alloc_eq_grow, grow_grow]⟩
theorem six_grow {w w' : World} (h : Six w w') : ∃ os, w' = grow w os := by
  obtain ⟨o1, o2, o3, o4, o5, o6, rfl⟩ := h
  exact grow_more (grow_more (grow_more (grow_more (grow_more ⟨_, alloc_eq_grow _ _⟩ _) _) _) _) _
theorem rcmpW_any (x y : Wt) (hx : WtOk x) (hy : WtOk y) (w : World) :
    Calls Tryd.prog 38 #[.int .u64 x.fee, .int .u64 (wsz y), .int .u64 y.fee, .int .u64 (wsz x)] w fun e w' => e = .returned (.int .i64 (cmpW x y)) ∧ ∃ os, w' = grow w os := by
  have a1 := hx.1
  have a2 := hy.1
  have a3 := wsz_word hx
  have a4 := wsz_word hy
  unfold Word at a1 a2 a3 a4
  have h := rcmp_any x.fee.toNat (wsz y).toNat y.fee.toNat (wsz x).toNat (by omega) (by omega) (by omega) (by omega) w
  rw [Int.toNat_of_nonneg a1.1, Int.toNat_of_nonneg a2.1, Int.toNat_of_nonneg a3.1, Int.toNat_of_nonneg a4.1] at h
  exact h.mono fun _ _ h => ⟨h.1, six_grow h.2⟩

set_option maxRecDepth 100000 in
set_option maxHeartbeats 1000000 in
theorem rless_any (x y : Wt) (hx : WtOk x) (hy : WtOk y) (w : World) :
    Calls Tryd.prog 23 #[.agg #[.int .u64 x.fee, .int .i64 x.size], .agg #[.int .u64 y.fee, .int .i64 y.size]] w fun e w' => e = .returned (.bool (lessW x y)) ∧ ∃ q os, w' = grow (w.drewN q) os := by
  have aE := Tryd.isAgg55
  have zE := Tryd.sizeOf55
  have hb2 := below_new (w.alloc (.cells (wtC x).toArray 55)) (.cells (wtC y).toArray 55)
  have hrx := range_on (range_new w (wtC x) 55) hb2
  have hry := range_new (w.alloc (.cells (wtC x).toArray 55)) (wtC y) 55
  rw [alloc_size] at hry
  have HW : Hid (∀ os', ∃ q os, grow ((w.alloc (.cells #[.int .u64 x.fee, .int .i64 x.size] 55)).alloc (.cells #[.int .u64 y.fee, .int .i64 y.size] 55)) os' = grow (w.drewN q) os) := hide (fun os' => ⟨0, _, by
    rw [alloc_eq_grow, alloc_eq_grow, grow_grow, grow_grow]
    rfl⟩)
  have CM := hide (fun w => rcmpW_any x y hx hy w)
  have HL : Hid (decide (cmpW x y < 0) = lessW x y) := hide rfl
  have wx := wsz_word hx
  have wy := wsz_word hy
  have e0 : max x.size 1 = wsz x := rfl
  have e1 : max y.size 1 = wsz y := rfl
  have u0 : IntKind.u64.wrap (wsz x) = wsz x := by
    unfold Word at wx
    rw [IntKind.wrap_u64]
    omega
  have u1 : IntKind.u64.wrap (wsz y) = wsz y := by
    unfold Word at wy
    rw [IntKind.wrap_u64]
    omega
  change World.rangeAt (((w.alloc (.cells #[.int .u64 x.fee, .int .i64 x.size] 55)).alloc (.cells #[.int .u64 y.fee, .int .i64 y.size] 55))) _ _ _ at hrx hry
  clear hb2 hx hy wx wy
  generalize wsz x = sx at *
  generalize wsz y = sy at *
  generalize cmpW x y = r at *
  generalize lessW x y = l at *
  go_enter Tryd.func23, Tryd.ntmps23
  go_upto_region 1 with fail
  generalize (w.alloc (.cells #[.int .u64 x.fee, .int .i64 x.size] 55)).alloc (.cells #[.int .u64 y.fee, .int .i64 y.size] 55) = W at *
  generalize hg : w.heap.size = g at *
  clear hg
  have fx := hrx 0 _ rfl
  have fy := hry 0 _ rfl
  have fx1 := hrx 1 _ rfl
  have fy1 := hry 1 _ rfl
  simp only [Nat.zero_add, Nat.add_zero] at fx fy fx1 fy1
  clear hrx hry
  go_wp2_with fail
  refine (CM.out _).mono ?_
  rintro e w' ⟨rfl, os, rfl⟩
  have H := hide (HW.out os)
  have hl := HL.out
  clear CM HW
  go_wp2
  go_ret
  exact ⟨by first | rfl | (rw [← HL.out]), H.out⟩

end Go.Proofs.YtbeegcpmpgdbnaaDoor
