/-
  Proved: for every four numbers of the type uint64 the law CalcParts answers true, and its argument reads as it did. No condition.
-/
import Derived.Test.YtggekibapfhcdaaLaw
import Derived.Test.YtggekibapfhcdaaRefPart
import Derived.Test.YtggekibapfhcdaaRefCmp
import Derived.Deep.RegionHeld3
namespace Go.Proofs.Ytggekibapfhcdaa
open Go.ChangeShapes Go.WideShapes Go.ChangeAt Go.RowKit

/-- Four cells of one block. -/
def Cells4 (w : World) (n : Nat) (a b c d : Value) : Prop := w.cell? ⟨n, 0, none⟩ = some a ∧ w.cell? ⟨n, 1, none⟩ = some b ∧ w.cell? ⟨n, 2, none⟩ = some c ∧ w.cell? ⟨n, 3, none⟩ = some d
theorem Cells4.below {w w' : World} {n : Nat} {a b c d : Value} (h : Cells4 w n a b c d) (hb : Below w.heap.size w w') : Cells4 w' n a b c d := by
  obtain ⟨h0, h1, h2, h3⟩ := h
  exact ⟨(hb.cell (World.block_lt_of_cell? _ _ h0)).trans h0, (hb.cell (World.block_lt_of_cell? _ _ h1)).trans h1, (hb.cell (World.block_lt_of_cell? _ _ h2)).trans h2, (hb.cell (World.block_lt_of_cell? _ _ h3)).trans h3⟩
theorem below_trans {w w1 w2 : World} (h : Below w.heap.size w w1) (h' : Below w1.heap.size w1 w2) : Below w.heap.size w w2 := h.trans (h'.mono h.size)

theorem Cells4.more {w : World} {n : Nat} {a b c d : Value} (h : Cells4 w n a b c d) (o : Obj) : Cells4 (w.alloc o) n a b c d :=
  h.below ((Below.refl _ _).alloc (Nat.le_refl _) _)
theorem six_keep {w : World} {n : Nat} {a b c d : Value} {o1 o2 o3 o4 o5 o6 : Obj} (h : Cells4 w n a b c d) :
    Cells4 ((((((w.alloc o1).alloc o2).alloc o3).alloc o4).alloc o5).alloc o6).drew n a b c d :=
  ((((((h.more o1).more o2).more o3).more o4).more o5).more o6)

set_option maxHeartbeats 4000000 in
theorem parts_nat (a b c d : Nat) (ha : a < 18446744073709551616) (hb : b < 18446744073709551616) (hc : c < 18446744073709551616) (hd : d < 18446744073709551616) (w : World) :
    Calls Try.prog 4 #[.agg #[.int .u64 a, .int .u64 b, .int .u64 c, .int .u64 d]] w fun e w' => e = .returned (.bool true) ∧ Below w.heap.size w w' := by
  have P1 := hide (fun w => part_all a b c ha hb hc w)
  have P2 := hide (fun w => rpart_all a b c ha hb hc w)
  have N1 := hide (fun w => need_all a d ha hd w)
  have N2 := hide (fun w => rneed_all a d ha hd w)
  have C1 := hide (fun w => cmp_any a b c d ⟨by omega, by omega⟩ ⟨by omega, by omega⟩ ⟨by omega, by omega⟩ ⟨by omega, by omega⟩ w)
  have C2 := hide (fun w => rcmp_any a b c d ha hb hc hd w)
  generalize ((partV a b c : Nat) : Int) = pv at *
  generalize partE a b c = pe at *
  generalize ((needV a d : Nat) : Int) = nv at *
  generalize needE a d = ne at *
  generalize cmpI ((a : Int) * b) ((c : Int) * d) = k at *
  clear ha hb hc hd
  go_enter Try.func4, Try.ntmps4
  go_wp2_with fail
  refine (alive_any _).mono ?_
  rintro e w1 ⟨rfl, hbel⟩
  have HC := hide (show Cells4 w1 w.heap.size _ _ _ _ from box_four hbel)
  have HB := hide (((Below.refl w.heap.size w).alloc (Nat.le_refl _) _).trans (hbel.mono (by simp)))
  clear hbel
  obtain ⟨g0, g1, g2, g3⟩ := HC.out
  go_wp2_with fail
  refine (P1.out _).mono ?_
  rintro e w2 ⟨rfl, hbel⟩
  have HC2 := hide (HC.out.below hbel)
  have HB2 := hide (below_trans HB.out hbel)
  clear hbel g0 g1 g2 g3
  obtain ⟨g0, g1, g2, g3⟩ := HC2.out
  go_wp2_with fail
  refine (P2.out _).mono ?_
  rintro e w3 ⟨rfl, hbel⟩
  have HC3 := hide (HC2.out.below hbel)
  have HB3 := hide (below_trans HB2.out hbel)
  clear hbel g0 g1 g2 g3
  obtain ⟨g0, g1, g2, g3⟩ := HC3.out
  go_wp2_with fail
  refine (N1.out _).mono ?_
  rintro e w4 ⟨rfl, hbel⟩
  have HC4 := hide (HC3.out.below hbel)
  have HB4 := hide (below_trans HB3.out hbel)
  clear hbel g0 g1 g2 g3
  obtain ⟨g0, g1, g2, g3⟩ := HC4.out
  go_wp2_with fail
  refine (N2.out _).mono ?_
  rintro e w5 ⟨rfl, hbel⟩
  have HC5 := hide (HC4.out.below hbel)
  have HB5 := hide (below_trans HB4.out hbel)
  clear hbel g0 g1 g2 g3
  obtain ⟨g0, g1, g2, g3⟩ := HC5.out
  go_wp2_with fail
  go_region_held3 (fun w' => w'.cell? ⟨w.heap.size, 0, none⟩ = some (.int .u64 a) ∧ w'.cell? ⟨w.heap.size, 1, none⟩ = some (.int .u64 b) ∧ w'.cell? ⟨w.heap.size, 2, none⟩ = some (.int .u64 c) ∧ w'.cell? ⟨w.heap.size, 3, none⟩ = some (.int .u64 d)) (first | (go_keep; done) | exact six_keep ⟨g0, g1, g2, g3⟩)
    (first
      | (go_at_call 18; refine (C1.out _).mono ?_; rintro e w' ⟨rfl, rfl⟩)
      | (go_at_call 19; refine (C2.out _).mono ?_; rintro e w' ⟨rfl, o1, o2, o3, o4, o5, o6, rfl⟩))
  all_goals
    go_wp2
    go_ret
    have hz := HB5.out.size
    refine ⟨rfl, ?_⟩
    repeat (first | exact HB5.out | refine Below.drew ?_ | refine Below.alloc ?_ (by first | exact hz | (simp; omega)) _)

theorem parts_law (a b c d : Int) (ha : Word a) (hb : Word b) (hc : Word c) (hd : Word d) (w : World) :
    Calls Try.prog 4 #[.agg #[.int .u64 a, .int .u64 b, .int .u64 c, .int .u64 d]] w fun e w' => e = .returned (.bool true) ∧ Below w.heap.size w w' := by
  obtain ⟨ha0, ha1⟩ := ha
  obtain ⟨hb0, hb1⟩ := hb
  obtain ⟨hc0, hc1⟩ := hc
  obtain ⟨hd0, hd1⟩ := hd
  obtain ⟨a, rfl⟩ := Int.eq_ofNat_of_zero_le ha0
  obtain ⟨b, rfl⟩ := Int.eq_ofNat_of_zero_le hb0
  obtain ⟨c, rfl⟩ := Int.eq_ofNat_of_zero_le hc0
  obtain ⟨d, rfl⟩ := Int.eq_ofNat_of_zero_le hd0
  exact parts_nat a b c d (by omega) (by omega) (by omega) (by omega) w

set_option maxRecDepth 100000 in
theorem calcParts_lifted (os : Os) (started : os.Started) (H : Type) (enc : TypeId × Value → H) :
    ReturnsInHanded {} Try.checked os 4 .any (Rows.calcPartsSpec.pre6 enc Try.prog Try.f4 Rows.calcPartsRow.domain false) (Rows.calcPartsSpec.post enc Try.prog Try.f4 false true false false) := by
  refine returnsInHanded_of_change (C := Try.checked) own started (by kernel_rfl) Try.func4
    (ChangeSpec.witness6 (enc := enc) (C := Try.checked) false ⟨#[], #[.agg #[.int .u64 0, .int .u64 0, .int .u64 0, .int .u64 0]], []⟩ 8 (by kernel_rfl) (by kernel_rfl) (by kernel_rfl) (by kernel_rfl)) ?_
  intro W base args ds gs before hval0 hW hcnd _
  have hval : ∀ (j : Nat) t v, Try.f4.params[j]? = some t → args[j]? = some v → Value.okWide Try.prog W .any base t v := hval0
  have hW' := hW
  obtain ⟨p, q, hA0, hV, rfl, hfz, hnd⟩ := hW
  have hA : DataW.TrodAll enc Try.prog W 0 (fun _ => true) true Try.f4.params.toList args.toList ds p := hA0
  rw [Try.params4] at hA hval
  obtain ⟨v0, vs0, d0, ds0, p0, q0, hargs, rfl, rfl, h0, r0⟩ := trodAll_cons hA
  obtain ⟨rfl, rfl, rfl⟩ := trodAll_nil r0
  obtain rfl : args = #[v0] := by cases args; simp_all
  obtain ⟨rfl, rfl⟩ := trodVars_none hV
  have k0 := h0
  have lt0 : ∀ x ∈ p0, x.block < W.heap.size := by obtain ⟨m, hm⟩ := k0; exact DataW.trod_lt m _ _ _ hm
  obtain ⟨c0, c1, c2, c3, y0, y1, y2, y3, n, rfl, _, _, t0, t1, t2, t3⟩ := Joins.open_agg4 Try.underlying33 (by kernel_rfl) (by kernel_rfl) (hval 0 33 v0 rfl rfl) h0
  obtain ⟨x0, e0, _, wx0⟩ := DataW.trod_int Try.underlying22 t0
  obtain ⟨x1, e1, _, wx1⟩ := DataW.trod_int Try.underlying22 t1
  obtain ⟨x2, e2, _, wx2⟩ := DataW.trod_int Try.underlying22 t2
  obtain ⟨x3, e3, _, wx3⟩ := DataW.trod_int Try.underlying22 t3
  simp at e0 e1 e2 e3
  subst e0 e1 e2 e3
  clear hA0 hval0
  refine (parts_law (w := W) x0 x1 x2 x3 (word_of_wf wx0) (word_of_wf wx1) (word_of_wf wx2) (word_of_wf wx3)).mono fun e W' ⟨he, bel⟩ => ?_
  subst he
  exact ⟨_, rfl, _, _, _, [], _, [], hW', trodAll_mk1 (shut_bool Try.underlying4 _), (trodAll_cons_mk (Below.trod laidOut (by kernel_rfl) (of_decide_eq_true (by kernel_rfl)) k0 bel lt0) trodAll_mk0), rfl, bel.frame _, fun h => by cases h⟩

theorem calcParts_holds : Rows.CalcPartsSaid :=
  OpenClaim.holds_of_wide 4 Try.f4 rfl rfl rfl rfl rfl rfl rfl ⟨rfl, rfl, rfl, rfl, rfl⟩ rfl rfl rfl rfl rfl (by kernel_rfl) Try.func4 (by kernel_rfl)
    (of_decide_eq_true (by kernel_rfl)) (by unfold Func.isWrapper; first | (rw [if_pos (by decide +kernel)]; kernel_rfl) | (rw [if_neg (by decide +kernel)]; exact ⟨rfl, rfl⟩))
    (fun os started H enc _ => calcParts_lifted os started H enc)
#print axioms calcParts_holds
end Go.Proofs.Ytggekibapfhcdaa
