/-
  What pappuslaw08.alive answers at this program: true.
-/
import Derived.Test.YtjmifgdjmaelfaaDoorMgX
import Derived.Test.YtjmifgdjmaelfaaDoorSame
namespace Go.Proofs.YtjmifgdjmaelfaaDoor
open Go.RowKit

theorem noMg_ok : MgOk noMg := ⟨⟨by decide, by decide⟩, ⟨by decide, by decide⟩, ⟨by decide, by decide⟩, fun _ h => (by cases h), noTr_ok⟩
def liveA : Mg := ⟨11, 0, 1, [], noTr⟩
def liveB : Mg := ⟨2, 1, 0, [], noTr⟩
theorem liveA_ok : MgOk liveA := ⟨⟨by decide, by decide⟩, ⟨by decide, by decide⟩, ⟨by decide, by decide⟩, fun _ h => (by cases h), noTr_ok⟩
theorem liveB_ok : MgOk liveB := ⟨⟨by decide, by decide⟩, ⟨by decide, by decide⟩, ⟨by decide, by decide⟩, fun _ h => (by cases h), noTr_ok⟩
theorem liveA_put : mpE liveA = 0 ∧ mpB liveA = [1] := by decide
theorem liveA_cmd : mpC liveA = ⟨#[115, 101, 110, 100, 115, 116, 101, 109]⟩ := if_pos liveA_put.1
theorem liveB_put : mpE liveB = 2 ∧ mpB liveB = [] := by decide
theorem live_inv : mgE ⟨#[105, 110, 118]⟩ [0] = 9 := by decide
theorem live_verack : mgE ⟨#[118, 101, 114, 97, 99, 107]⟩ [1] = 5 := by decide
theorem live_pong : mgE ⟨#[112, 111, 110, 103]⟩ [7, 0, 0, 0, 0, 0, 0, 1] = 0 := by decide
theorem live_pongM : mgM ⟨#[112, 111, 110, 103]⟩ [7, 0, 0, 0, 0, 0, 0, 1] = ⟨4, 72057594037927943, 0, [], noTr⟩ := by
  have h := mg_fixed (k := 4) (by decide) (by decide) (by decide) [7, 0, 0, 0, 0, 0, 0, 1]
  rw [if_pos (by decide)] at h
  exact h.2
theorem live_byte (l : List Int) (h : l.all (fun z => decide (0 ≤ z) && decide (z < 256)) = true) : AllB l := fun z hz => by
  have := List.all_eq_true.1 h z hz
  simp only [Bool.and_eq_true, decide_eq_true_eq] at this
  exact this
set_option maxRecDepth 100000 in
set_option maxHeartbeats 2000000 in
theorem alive8_any (w : World) : Calls Tryd.prog 19 #[] w fun e w' => e = .returned (.bool true) ∧ Below w.heap.size w w' := by
  have P1 := hide (fun w => mput_is liveA (.slice none 0 0) (.slice none 0 0) (.slice none 0 0) w ⟨IdsAt.nil w, TxAt.none w⟩ liveA_ok _ _ _ liveA_cmd liveA_put.2 liveA_put.1)
  have P2 := hide (fun w => mput_is liveB (.slice none 0 0) (.slice none 0 0) (.slice none 0 0) w ⟨IdsAt.nil w, TxAt.none w⟩ liveB_ok ⟨#[]⟩ _ _ (if_neg (by rw [liveB_put.1]; decide)) liveB_put.2 liveB_put.1)
  have G1 := hide (fun w => mget_bad ⟨#[105, 110, 118]⟩ [0] (.slice (some ⟨w.heap.size, 0, none⟩) 1 1) (w.alloc (.cells #[.int .u8 0] 5)) (Bytes.one w 0) (live_byte _ (by decide)) (by decide) 9 live_inv (by decide))
  have G2 := hide (fun w => mget_bad ⟨#[118, 101, 114, 97, 99, 107]⟩ [1] (.slice (some ⟨w.heap.size, 0, none⟩) 1 1) (w.alloc (.cells #[.int .u8 1] 5)) (Bytes.one w 1) (live_byte _ (by decide)) (by decide) 5 live_verack (by decide))
  have G3 := hide (fun w => mget_good ⟨#[112, 111, 110, 103]⟩ [7, 0, 0, 0, 0, 0, 0, 1] (.slice (some ⟨w.heap.size, 0, none⟩) 8 8) (w.alloc (.cells #[.int .u8 7, .int .u8 0, .int .u8 0, .int .u8 0, .int .u8 0, .int .u8 0, .int .u8 0, .int .u8 1] 5)) (Bytes.made w _ [7, 0, 0, 0, 0, 0, 0, 1] 8 rfl (by omega) rfl) (live_byte _ (by decide)) (by decide) _ live_pong live_pongM)
  dsimp only [List.length_nil] at G3
  have SB := hide (fun w v (h : Bytes w v [1]) => same_any [1] [1] v (.slice (some ⟨w.heap.size, 0, none⟩) 1 1) (w.alloc (.cells #[.int .u8 1] 5)) (h.alloc _) (Bytes.one w 1))
  rw [decide_eq_true rfl] at SB
  have hn : noTr.ver = 0 ∧ noTr.ins.length = 0 ∧ noTr.outs.length = 0 := ⟨rfl, rfl, rfl⟩
  rw [hn.1, hn.2.1, hn.2.2] at G3
  clear hn
  go_enter Tryd.func19, Tryd.ntmps19
  go_wp2_with fail
  refine (P1.out _).mono ?_
  rintro e w1 ⟨a1, c1, rfl, hown1, hb1⟩
  have HO1 := hide hown1.bytes
  have HB1 := hide hb1
  clear hown1 hb1 P1
  go_wp2_with fail
  refine (G1.out _).mono ?_
  rintro e w2 ⟨sa2, sc2, ia2, ic2, oa2, oc2, rfl, hb2⟩
  have hbt := below_new w2 (.cells #[.int .i64 0, .int .u64 0, .int .u32 0, .slice sa2 0 sc2, .int .u32 0, .slice ia2 0 ic2, .slice oa2 0 oc2] 51)
  have HO2 := hide ((HO1.out.below (box1 hb2)).below hbt)
  have HB2 := hide (below_on (below_on HB1.out (box1 hb2)) hbt)
  clear hb2 G1 HO1 HB1 hbt
  go_upto_region 3 with fail
  generalize w2.alloc (.cells #[.int .i64 0, .int .u64 0, .int .u32 0, .slice sa2 0 sc2, .int .u32 0, .slice ia2 0 ic2, .slice oa2 0 oc2] 51) = W2 at *
  generalize w2.heap.size = g2 at *
  go_wp2_with fail
  refine (G2.out _).mono ?_
  rintro e w3 ⟨sa3, sc3, ia3, ic3, oa3, oc3, rfl, hb3⟩
  have hbt := below_new w3 (.cells #[.int .i64 0, .int .u64 0, .int .u32 0, .slice sa3 0 sc3, .int .u32 0, .slice ia3 0 ic3, .slice oa3 0 oc3] 51)
  have HO3 := hide ((HO2.out.below (box1 hb3)).below hbt)
  have HB3 := hide (below_on (below_on HB2.out (box1 hb3)) hbt)
  clear hb3 G2 HO2 HB2 hbt
  go_upto_region 4 with fail
  generalize w3.alloc (.cells #[.int .i64 0, .int .u64 0, .int .u32 0, .slice sa3 0 sc3, .int .u32 0, .slice ia3 0 ic3, .slice oa3 0 oc3] 51) = W3 at *
  generalize w3.heap.size = g3 at *
  go_wp2_with fail
  refine (P2.out _).mono ?_
  rintro e w4 ⟨a4, c4, rfl, hown4, hb4⟩
  have HO4 := hide (HO3.out.below hb4)
  have HB4 := hide (below_on HB3.out hb4)
  clear hown4 hb4 P2 HO3 HB3
  go_wp2_with fail
  refine (G3.out _).mono ?_
  rintro e w5 ⟨sa5, sc5, ia5, ic5, oa5, oc5, rfl, hb5, -⟩
  have hbt := below_new w5 (.cells #[.int .i64 4, .int .u64 72057594037927943, .int .u32 0, .slice sa5 0 sc5, .int .u32 0, .slice ia5 0 ic5, .slice oa5 0 oc5] 51)
  have HX5 := hide (MBox.new w5 (.int .i64 4) (.int .u64 72057594037927943) (.int .u32 0) (.slice sa5 0 sc5) (.int .u32 0) (.slice ia5 0 ic5) (.slice oa5 0 oc5) 51)
  have HO5 := hide ((HO4.out.below (box1 hb5)).below hbt)
  have HB5 := hide (below_on (below_on HB4.out (box1 hb5)) hbt)
  clear hb5 G3 HO4 HB4 hbt
  go_upto_region 6 with fail
  generalize w5.alloc (.cells #[.int .i64 4, .int .u64 72057594037927943, .int .u32 0, .slice sa5 0 sc5, .int .u32 0, .slice ia5 0 ic5, .slice oa5 0 oc5] 51) = W5 at *
  generalize w5.heap.size = g5 at *
  obtain ⟨p0, p1, p2, p3, p4, p5, p6⟩ := HX5.out
  go_wp2_with fail
  refine (SB.out _ _ HO5.out).mono ?_
  rintro e w6 ⟨rfl, n6, rfl⟩
  have hb6 : Below W5.heap.size W5 ((W5.alloc (.cells #[.int .u8 1] 5)).drewN n6) := below_drewN ((Below.refl _ _).alloc (Nat.le_refl _) _) n6
  clear p0 p1 p2 p3 p4 p5 p6
  obtain ⟨p0, p1, p2, p3, p4, p5, p6⟩ := HX5.out.on hb6
  have R := hide (below_on HB5.out hb6)
  clear hb6 SB HO5 HB5 HX5
  generalize (W5.alloc (.cells #[.int .u8 1] 5)).drewN n6 = W6 at *
  go_wp2
  go_ret
  exact ⟨rfl, R.out⟩

end Go.Proofs.YtjmifgdjmaelfaaDoor
