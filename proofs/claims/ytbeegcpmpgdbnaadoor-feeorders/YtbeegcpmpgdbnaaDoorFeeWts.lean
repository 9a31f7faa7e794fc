/-
  What pappuslaw10.Weights answers at this program: the weights, one by one.
-/
import Derived.Test.YtbeegcpmpgdbnaaDoorFeeA
import Derived.Test.YtbeegcpmpgdbnaaDoorStepB
import Derived.Test.YtbeegcpmpgdbnaaDoorTxR
namespace Go.Proofs.YtbeegcpmpgdbnaaDoor
open Go.RowKit

theorem infoWt : (Tryd.prog.info? 53).map (fun i => (i.zero, i.size, i.bytes)) = some (some (.agg #[.int .u64 0, .int .i64 0]), 2, 16) := by kernel_rfl
theorem info_rw : (Tryd.prog.info? 55).map (·.size) = some 2 := by kernel_rfl
theorem wtC_one (x : Wt) : ∀ u ∈ wtC x, u.oneCell' = true := by
  intro u hu
  simp only [wtC, List.mem_cons, List.not_mem_nil, or_false] at hu
  rcases hu with rfl | rfl <;> rfl
def Weighing (w : World) (L : List Wt) (v i : Value) (wr : World) : Prop := ∃ k : Nat, k ≤ L.length ∧ i = .int .i64 k ∧ Below w.heap.size w wr ∧ RowOwn wr w.heap.size 53 2 v ((L.take k).map wtC)

set_option maxRecDepth 100000 in
set_option maxHeartbeats 1000000 in
theorem weights_any (L : List Wt) (hn : L.length ≤ 1000) (v : Value) (w : World) (h : RowAt w 2 v (L.map wtC)) :
    Calls Tryd.prog 17 #[v] w fun e w' => ∃ v', e = .returned v' ∧ Below w.heap.size w w' ∧ RowOwn w' w.heap.size 53 2 v' (L.map wtC) := by
  have hf := h.form
  rw [List.length_map] at hf
  obtain ⟨a, cap, rfl, hc1, hc2⟩ := hf
  have HI := hide h
  have HS : Hid (Weighing w L (.slice none 0 0) (.int .i64 0) w) := hide ⟨0, Nat.zero_le _, rfl, Below.refl _ _, RowOwn.nil _ _ _ _⟩
  clear h
  go_enter Tryd.func17, Tryd.ntmps17
  go_wp2
  go_loopw [3, 8] (fun v i wr => Weighing w L v i wr) (fun _ i _ => L.length - (intOf i).toNat)
  case atStart => exact HS.out
  case round =>
    clear HS
    obtain ⟨k, hk, rfl, hB, hown⟩ := hrel
    have HB := hide hB
    have HOWN := hide hown
    by_cases hlt : k < L.length
    · obtain ⟨x, hx⟩ : ∃ x, L[k]? = some x := ⟨_, List.getElem?_eq_getElem hlt⟩
      obtain ⟨b, off, rfl, hr⟩ := (HI.out.on hB).get (k := k) (c := wtC x) (by rw [List.getElem?_map, hx]; rfl)
      have hk1 : (k : Int) < (L.length : Int) := by omega
      have HXR := hide hr
      have HX := hide hx
      have H1 : Hid (∀ u ∈ wtC x, u.oneCell' = true) := hide (wtC_one x)
      have HT : Hid (∀ w : World, (w.alloc (.cells #[.int .u64 0, .int .i64 0] 55)).there w.heap.size 0 (wtC x).length) := hide (fun w => there_new w _ _)
      clear hr hx hB hown
      go_upto_region 5 with (first | (refine wpList_load_mid rfl 55 (.tmp 10) rfl b (off + k * 2) rfl (wtC x) _ HXR.out Tryd.underlying55 rfl info_rw ?_) | (refine wp_store_row rfl 55 (.tmp 5) (.tmp 11) rfl wr.heap.size 0 (wtC x) rfl rfl (HT.out wr) info_rw H1.out ?_))
      have hW : ((wr.alloc (.cells #[.int .u64 0, .int .i64 0] 55)).setCells wr.heap.size 0 (wtC x)).rangeAt wr.heap.size 0 (wtC x) := World.rangeAt_setCells_same _ _ _ _ (HT.out wr)
      have hB2 : Below wr.heap.size wr ((wr.alloc (.cells #[.int .u64 0, .int .i64 0] 55)).setCells wr.heap.size 0 (wtC x)) := below_sets (Nat.le_refl _) _ _ _ ((Below.refl _ _).alloc (Nat.le_refl _) _)
      have c0 := hW 0 _ rfl
      have c1 := hW 1 _ rfl
      simp only [Nat.add_zero, Nat.zero_add] at c0 c1
      generalize (wr.alloc (.cells #[.int .u64 0, .int .i64 0] 55)).setCells wr.heap.size 0 (wtC x) = W2 at *
      have HB2 := hide (below_on HB.out hB2)
      have HOWN2 := hide (HOWN.out.move (w1 := W2) fun g _ hl => hB2.block g hl)
      clear hW hB2 HXR H1 HT HB HOWN
      generalize wr.heap.size = gb at *
      simp only [Act.put]
      have hbn := below_new W2 (.cells (wtC x).toArray 53)
      have HOWN3 := hide (HOWN2.out.move (w1 := W2.alloc (.cells (wtC x).toArray 53)) fun g _ hl => hbn.block g hl)
      have HB4 := hide (HB2.out.alloc HB2.out.size (.cells (wtC x).toArray 53))
      have hw4 : w.heap.size ≤ (W2.alloc (.cells (wtC x).toArray 53)).heap.size := HB4.out.size
      obtain ⟨v4, w4, hrun, hrow5, hgr, -⟩ := run_append_row (W2.alloc (.cells (wtC x).toArray 53)) 44 53 44 _ 2 16 Tryd.underlying44 infoWt rfl (by omega) (by omega) w.heap.size u3 ((L.take k).map wtC) HOWN3.out W2.heap.size (wtC x) (range_new W2 (wtC x) 53) ⟨rfl, wtC_one x⟩ (by simp; omega) hw4
      have hlt5 := HOWN3.out.lt
      have R1 : Hid (Below w.heap.size w w4) := hide (HB4.out.grown hgr hw4 fun j hj => (hlt5 j hj).1)
      have R : Hid (Weighing w L v4 (.int .i64 ((k + 1 : Nat) : Int)) w4) := hide ⟨k + 1, by omega, rfl, R1.out, by
        obtain ⟨e1, e2⟩ := List.getElem?_eq_some_iff.1 HX.out
        have e : (L.take (k + 1)).map wtC = (L.take k).map wtC ++ [wtC x] := by
          rw [List.take_succ_eq_append_getElem e1, e2, List.map_append]
          rfl
        rw [e]
        exact hrow5⟩
      change (Builtin.append_ #[44, 44] 44 #[u3, .slice (some ⟨W2.heap.size, 0, none⟩) 1 1]).run Tryd.prog (W2.alloc (.cells #[.int .u64 x.fee, .int .i64 x.size] 53)) = .ok v4 w4 at hrun
      clear hbn hrow5 hgr hw4 hlt5 R1 HOWN2 HOWN3 HB4
      go_wp2_with (at_builtin; refine wp_app rfl (.tmp 12) (.tmp 18) 44 rfl (v1 := u3) (v2 := .slice (some ⟨W2.heap.size, 0, none⟩) 1 1) (v := v4) (w' := w4) rfl rfl ?_ ?_; exact hrun)
      go_roundw
      case rel => first | exact R.out | ((repeat apply Exists.intro); exact ⟨R.out, rfl⟩)
      case measure => simp [intOf]; omega
    · have hk2 : (L.length : Int) ≤ (k : Int) := by omega
      have htk : L.take k = L := List.take_of_length_le (by omega)
      rw [htk] at hown
      have R := hide (And.intro hB hown)
      clear hB hown htk HB HOWN
      go_wp2
      go_ret
      exact ⟨_, rfl, R.out⟩

end Go.Proofs.YtbeegcpmpgdbnaaDoor
