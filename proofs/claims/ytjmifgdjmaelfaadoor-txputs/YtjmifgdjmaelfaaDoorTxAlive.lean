/-
  What pappuslaw07.alive answers at this program: true.
-/
import Derived.Test.YtjmifgdjmaelfaaDoorTxSize
import Derived.Test.YtjmifgdjmaelfaaDoorTxBox
import Derived.Test.YtjmifgdjmaelfaaDoorRefSame07
namespace Go.Proofs.YtjmifgdjmaelfaaDoor
open Go.RowKit

/-- A transaction without inputs, or without outputs. -/
theorem tcheck_none (t : Tr) (iv ov : Value) (w : World) (h : TxAt w iv ov t) (hl : ∀ x ∈ t.ins, x.tx.length = 32) (hf : formB t = true) (h0 : t.ins = []) :
    Calls Tryd.prog 34 #[.agg #[.int .u32 t.ver, iv, ov]] w fun e w' => e = .returned (.int .i64 9) ∧ Below w.heap.size w w' := by
  have hbel : Below w.heap.size w (w.alloc (.cells #[.int .u32 t.ver, iv, ov] 26)) := (Below.refl _ _).alloc (Nat.le_refl _) _
  have F := hide (formed_any t iv ov _ (h.1.on hbel) (h.2.on hbel) hl)
  rw [hf] at F
  have HB := hide hbel
  obtain ⟨a, cap, rfl, hc1, hc2⟩ := h.1.form
  obtain ⟨a', cap', rfl, hd1, hd2⟩ := h.2.form
  have hn := range_new w [.int .u32 t.ver, .slice a t.ins.length cap, .slice a' t.outs.length cap'] 26
  have n0 := hn 0 _ rfl
  have n1 := hn 1 _ rfl
  have n2 := hn 2 _ rfl
  simp only [Nat.add_zero, Nat.zero_add, h0] at n0 n1 n2
  obtain ⟨ver, ins, outs⟩ := t
  simp only at *
  subst h0
  simp only [List.length_nil] at *
  clear h hl hf hbel hn
  go_enter Tryd.func34, Tryd.ntmps34
  go_upto_region 1 with fail
  generalize w.alloc (.cells #[.int .u32 ver, .slice a 0 cap, .slice a' outs.length cap'] 26) = W0 at *
  go_wp2_with fail
  refine F.out.mono ?_
  rintro e w1 ⟨rfl, hb1⟩
  have m1 := (hb1.cell (World.block_lt_of_cell? _ _ n1)).trans n1
  have R := hide (HB.out.trans (hb1.mono HB.out.size))
  clear hb1 n0 n1 n2
  go_wp2
  go_ret
  exact ⟨rfl, R.out⟩

/-- The second transaction. -/
def liveT : Tr := ⟨0, [⟨List.replicate 32 0, 0, [5]⟩], [⟨7, List.replicate 32 0⟩]⟩
theorem liveT_ok : TrOk liveT := by
  have hz : AllB (List.replicate 32 0) := fun z hz => by
    have := (List.mem_replicate.1 hz).2
    subst this
    exact ⟨by omega, by omega⟩
  refine ⟨⟨by decide, by decide⟩, fun x hx => ?_, fun x hx => ?_⟩
  · obtain rfl := List.mem_singleton.1 hx
    exact ⟨by simp, hz, ⟨by decide, by decide⟩, fun z hz => by obtain rfl := List.mem_singleton.1 hz; exact ⟨by omega, by omega⟩⟩
  · obtain rfl := List.mem_singleton.1 hx
    exact ⟨⟨by decide, by decide⟩, by simp, hz⟩
theorem liveT_form : formB liveT = true := by decide
theorem oneT : ptL ⟨1, [], []⟩ = [1, 0, 0, 0, 0, 0] ∧ ptE ⟨1, [], []⟩ = 0 := by decide
theorem nineT : gtE [1, 0, 0, 0, 9] = 5 ∧ gtN [1, 0, 0, 0, 9] = 0 := by decide
theorem nineT3 : gtT [1, 0, 0, 0, 9] = noTr := if_neg (by rw [nineT.1]; decide)
theorem liveT_len : ptL liveT = txB liveT ∧ ptE liveT = 0 ∧ (ptL liveT).length = 84 := by decide
theorem liveT_whole : whE (txB liveT) = 0 ∧ whT (txB liveT) = liveT := by
  obtain ⟨h1, h2, h3⟩ := get_put liveT liveT_ok liveT_form []
  rw [List.append_nil] at h1 h2 h3
  have e : whE (txB liveT) = 0 := by
    unfold whE
    rw [if_neg (by simp [h1]), h3, if_neg (by omega)]
  refine ⟨e, ?_⟩
  unfold whT
  rw [if_pos e, h2]

/-- Its rows, as alive builds them. -/
theorem liveT_at (w : World) : TxAt ((((w.alloc (.cells #[.int .u8 5] 5)).alloc (.cells #[.int .u8 0, .int .u8 0, .int .u8 0, .int .u8 0, .int .u8 0, .int .u8 0, .int .u8 0, .int .u8 0, .int .u8 0, .int .u8 0, .int .u8 0, .int .u8 0, .int .u8 0, .int .u8 0, .int .u8 0, .int .u8 0, .int .u8 0, .int .u8 0, .int .u8 0, .int .u8 0, .int .u8 0, .int .u8 0, .int .u8 0, .int .u8 0, .int .u8 0, .int .u8 0, .int .u8 0, .int .u8 0, .int .u8 0, .int .u8 0, .int .u8 0, .int .u8 0, .int .u32 0, .slice (some ⟨w.heap.size, 0, none⟩) 1 1] 64)).alloc (.cells #[.int .u64 7, .int .u8 0, .int .u8 0, .int .u8 0, .int .u8 0, .int .u8 0, .int .u8 0, .int .u8 0, .int .u8 0, .int .u8 0, .int .u8 0, .int .u8 0, .int .u8 0, .int .u8 0, .int .u8 0, .int .u8 0, .int .u8 0, .int .u8 0, .int .u8 0, .int .u8 0, .int .u8 0, .int .u8 0, .int .u8 0, .int .u8 0, .int .u8 0, .int .u8 0, .int .u8 0, .int .u8 0, .int .u8 0, .int .u8 0, .int .u8 0, .int .u8 0, .int .u8 0] 66)).alloc (.cells #[.int .u32 0, .slice (some ⟨w.heap.size + 1, 0, none⟩) 1 1, .slice (some ⟨w.heap.size + 2, 0, none⟩) 1 1] 26))
    (.slice (some ⟨w.heap.size + 1, 0, none⟩) 1 1) (.slice (some ⟨w.heap.size + 2, 0, none⟩) 1 1) liveT := by
  have hb : ∀ (w : World) o, Below w.heap.size w (w.alloc o) := fun w o => (Below.refl _ _).alloc (Nat.le_refl _) _
  have k1 := Bytes.one w 5
  have r1 := range_new (w.alloc (.cells #[.int .u8 5] 5)) (inC (⟨List.replicate 32 0, 0, [5]⟩, .slice (some ⟨w.heap.size, 0, none⟩) 1 1)) 64
  have r2 := range_new ((w.alloc (.cells #[.int .u8 5] 5)).alloc (.cells #[.int .u8 0, .int .u8 0, .int .u8 0, .int .u8 0, .int .u8 0, .int .u8 0, .int .u8 0, .int .u8 0, .int .u8 0, .int .u8 0, .int .u8 0, .int .u8 0, .int .u8 0, .int .u8 0, .int .u8 0, .int .u8 0, .int .u8 0, .int .u8 0, .int .u8 0, .int .u8 0, .int .u8 0, .int .u8 0, .int .u8 0, .int .u8 0, .int .u8 0, .int .u8 0, .int .u8 0, .int .u8 0, .int .u8 0, .int .u8 0, .int .u8 0, .int .u8 0, .int .u32 0, .slice (some ⟨w.heap.size, 0, none⟩) 1 1] 64)) (outC ⟨7, List.replicate 32 0⟩) 66
  rw [alloc_size] at r1
  rw [alloc_size, alloc_size] at r2
  refine ⟨⟨[(⟨List.replicate 32 0, 0, [5]⟩, .slice (some ⟨w.heap.size, 0, none⟩) 1 1)], rfl, ⟨_, 1, rfl, by simp, by omega, by simp, fun _ => ⟨_, 0, rfl, fun i c hi => ?_⟩⟩, fun x hx => ?_⟩, ⟨_, 1, rfl, Nat.le_refl 1, by omega, by simp, fun _ => ⟨_, 0, rfl, fun i c hi => ?_⟩⟩⟩
  · rcases i with _ | i
    · simp only [List.map_cons, List.map_nil, List.getElem?_cons_zero, Option.some.injEq] at hi
      subst hi
      exact range_on (range_on r1 (hb _ _)) (hb _ _)
    · simp at hi
  · obtain rfl := List.mem_singleton.1 hx
    exact ((k1.below (hb _ _)).below (hb _ _)).below (hb _ _)
  · rcases i with _ | i
    · simp only [liveT, List.map_cons, List.map_nil, List.getElem?_cons_zero, Option.some.injEq] at hi
      subst hi
      exact range_on r2 (hb _ _)
    · simp [liveT] at hi

set_option maxRecDepth 100000 in
set_option maxHeartbeats 4000000 in
theorem alive_any (w : World) : Calls Tryd.prog 6 #[] w fun e w' => e = .returned (.bool true) ∧ Below w.heap.size w w' := by
  have P1 := hide (fun w => tput_any ⟨1, [], []⟩ (.slice none 0 0) (.slice none 0 0) w (InsAt.nil w) (OutsAt.nil w) ⟨⟨by decide, by decide⟩, fun _ h => (by cases h), fun _ h => by cases h⟩)
  rw [oneT.1, oneT.2] at P1
  have G1 := hide (fun w => tget_any [1, 0, 0, 0, 9] (.slice (some ⟨w.heap.size, 0, none⟩) 5 5) (w.alloc (.cells #[.int .u8 1, .int .u8 0, .int .u8 0, .int .u8 0, .int .u8 9] 5)) (Bytes.made w _ [1, 0, 0, 0, 9] 5 rfl (by omega) rfl) (by intro z hz; simp at hz; rcases hz with rfl | rfl | rfl <;> exact ⟨by omega, by omega⟩) (by simp))
  unfold GetDone at G1
  rw [nineT.1, nineT.2, nineT3] at G1
  have P2 := hide (fun iv ov w (h : TxAt w iv ov liveT) => tput_any liveT iv ov w h.1 h.2 liveT_ok)
  rw [liveT_len.2.1] at P2
  have Z2 := hide (fun iv ov w (h : TxAt w iv ov liveT) => tsize_any liveT iv ov w h.1 h.2 liveT_ok)
  rw [liveT_len.2.1, liveT_len.2.2] at Z2
  have W2 := hide (fun v w (h : Bytes w v (txB liveT)) => twhole_any (txB liveT) v w h (txB_all liveT_ok) (by have := liveT_len.2.2; rw [liveT_len.1] at this; omega))
  unfold WholeDone at W2
  rw [liveT_whole.1, liveT_whole.2] at W2
  have SM := hide (fun iv ov iv' ov' w h h' => rsame_eq liveT iv ov iv' ov' w h h' liveT_ok)
  have LA := hide liveT_at
  have CN := hide (fun w => tcheck_none ⟨0, [], []⟩ (.slice none 0 0) (.slice none 0 0) w (TxAt.none w) (fun _ h => by cases h) (by decide) rfl)
  have SB := hide (fun w v (h : Bytes w v [1, 0, 0, 0, 0, 0]) => same_any [1, 0, 0, 0, 0, 0] [1, 0, 0, 0, 0, 0] v (.slice (some ⟨w.heap.size, 0, none⟩) 6 6) (w.alloc (.cells #[.int .u8 1, .int .u8 0, .int .u8 0, .int .u8 0, .int .u8 0, .int .u8 0] 5)) (h.alloc _) (Bytes.made w _ [1, 0, 0, 0, 0, 0] 6 rfl (by omega) rfl))
  rw [liveT_len.1] at P2
  rw [show ((84 : Nat) : Int) = 84 from rfl] at Z2
  rw [decide_eq_true rfl] at SB
  have hver : liveT.ver = 0 := rfl
  rw [hver] at P2 Z2 W2 SM
  generalize hLT : liveT = T at *
  generalize txB T = tb at *
  have HB0 := hide (Below.refl w.heap.size w)
  go_enter Tryd.func6, Tryd.ntmps6
  go_wp2_with fail
  refine (P1.out _).mono ?_
  rintro e w1 ⟨v1, rfl, hown1, hb1⟩
  have HO1 := hide hown1.bytes
  have HB1 := hide hb1
  clear hown1 hb1 P1
  go_wp2_with fail
  refine (G1.out _).mono ?_
  rintro e w2 ⟨iv2, ov2, rfl, hb2, hk2⟩
  obtain ⟨ia2, ic2, rfl, -, -⟩ := hk2.self.1.form
  obtain ⟨oa2, oc2, rfl, -, -⟩ := hk2.self.2.form
  have hbt : Below w2.heap.size w2 (w2.alloc (.cells #[.int .u32 noTr.ver, .slice ia2 noTr.ins.length ic2, .slice oa2 noTr.outs.length oc2] 26)) := (Below.refl _ _).alloc (Nat.le_refl _) _
  have HO2 := hide ((HO1.out.below (box1 hb2)).below hbt)
  have HB2 := hide (below_on (below_on HB1.out (box1 hb2)) hbt)
  clear hb2 hk2 G1 HO1 HB1 hbt
  go_upto_region 3 with fail
  generalize w2.alloc (.cells #[.int .u32 noTr.ver, .slice ia2 noTr.ins.length ic2, .slice oa2 noTr.outs.length oc2] 26) = V at *
  generalize w2.heap.size = g2 at *
  go_upto_region 4 with fail
  have LT := LA.out V
  have hr := range_new (((V.alloc (.cells #[.int .u8 5] 5)).alloc (.cells #[.int .u8 0, .int .u8 0, .int .u8 0, .int .u8 0, .int .u8 0, .int .u8 0, .int .u8 0, .int .u8 0, .int .u8 0, .int .u8 0, .int .u8 0, .int .u8 0, .int .u8 0, .int .u8 0, .int .u8 0, .int .u8 0, .int .u8 0, .int .u8 0, .int .u8 0, .int .u8 0, .int .u8 0, .int .u8 0, .int .u8 0, .int .u8 0, .int .u8 0, .int .u8 0, .int .u8 0, .int .u8 0, .int .u8 0, .int .u8 0, .int .u8 0, .int .u8 0, .int .u32 0, .slice (some ⟨V.heap.size, 0, none⟩) 1 1] 64)).alloc (.cells #[.int .u64 7, .int .u8 0, .int .u8 0, .int .u8 0, .int .u8 0, .int .u8 0, .int .u8 0, .int .u8 0, .int .u8 0, .int .u8 0, .int .u8 0, .int .u8 0, .int .u8 0, .int .u8 0, .int .u8 0, .int .u8 0, .int .u8 0, .int .u8 0, .int .u8 0, .int .u8 0, .int .u8 0, .int .u8 0, .int .u8 0, .int .u8 0, .int .u8 0, .int .u8 0, .int .u8 0, .int .u8 0, .int .u8 0, .int .u8 0, .int .u8 0, .int .u8 0, .int .u8 0] 66)) [.int .u32 0, .slice (some ⟨V.heap.size + 1, 0, none⟩) 1 1, .slice (some ⟨V.heap.size + 2, 0, none⟩) 1 1] 26
  rw [alloc_size, alloc_size, alloc_size, show V.heap.size + 1 + 1 + 1 = V.heap.size + 3 from rfl] at hr
  have n0 := hr 0 _ rfl
  have n1 := hr 1 _ rfl
  have n2 := hr 2 _ rfl
  have hb : ∀ (w : World) o, Below w.heap.size w (w.alloc o) := fun w o => (Below.refl _ _).alloc (Nat.le_refl _) _
  have HO3 := hide ((((HO2.out.below (hb _ (.cells #[.int .u8 5] 5))).below (hb _ (.cells #[.int .u8 0, .int .u8 0, .int .u8 0, .int .u8 0, .int .u8 0, .int .u8 0, .int .u8 0, .int .u8 0, .int .u8 0, .int .u8 0, .int .u8 0, .int .u8 0, .int .u8 0, .int .u8 0, .int .u8 0, .int .u8 0, .int .u8 0, .int .u8 0, .int .u8 0, .int .u8 0, .int .u8 0, .int .u8 0, .int .u8 0, .int .u8 0, .int .u8 0, .int .u8 0, .int .u8 0, .int .u8 0, .int .u8 0, .int .u8 0, .int .u8 0, .int .u8 0, .int .u32 0, .slice (some ⟨V.heap.size, 0, none⟩) 1 1] 64))).below (hb _ (.cells #[.int .u64 7, .int .u8 0, .int .u8 0, .int .u8 0, .int .u8 0, .int .u8 0, .int .u8 0, .int .u8 0, .int .u8 0, .int .u8 0, .int .u8 0, .int .u8 0, .int .u8 0, .int .u8 0, .int .u8 0, .int .u8 0, .int .u8 0, .int .u8 0, .int .u8 0, .int .u8 0, .int .u8 0, .int .u8 0, .int .u8 0, .int .u8 0, .int .u8 0, .int .u8 0, .int .u8 0, .int .u8 0, .int .u8 0, .int .u8 0, .int .u8 0, .int .u8 0, .int .u8 0] 66))).below (hb _ (.cells #[.int .u32 0, .slice (some ⟨V.heap.size + 1, 0, none⟩) 1 1, .slice (some ⟨V.heap.size + 2, 0, none⟩) 1 1] 26)))
  have HB3 := hide (below_on (below_on (below_on (below_on HB2.out (hb _ (.cells #[.int .u8 5] 5))) (hb _ (.cells #[.int .u8 0, .int .u8 0, .int .u8 0, .int .u8 0, .int .u8 0, .int .u8 0, .int .u8 0, .int .u8 0, .int .u8 0, .int .u8 0, .int .u8 0, .int .u8 0, .int .u8 0, .int .u8 0, .int .u8 0, .int .u8 0, .int .u8 0, .int .u8 0, .int .u8 0, .int .u8 0, .int .u8 0, .int .u8 0, .int .u8 0, .int .u8 0, .int .u8 0, .int .u8 0, .int .u8 0, .int .u8 0, .int .u8 0, .int .u8 0, .int .u8 0, .int .u8 0, .int .u32 0, .slice (some ⟨V.heap.size, 0, none⟩) 1 1] 64))) (hb _ (.cells #[.int .u64 7, .int .u8 0, .int .u8 0, .int .u8 0, .int .u8 0, .int .u8 0, .int .u8 0, .int .u8 0, .int .u8 0, .int .u8 0, .int .u8 0, .int .u8 0, .int .u8 0, .int .u8 0, .int .u8 0, .int .u8 0, .int .u8 0, .int .u8 0, .int .u8 0, .int .u8 0, .int .u8 0, .int .u8 0, .int .u8 0, .int .u8 0, .int .u8 0, .int .u8 0, .int .u8 0, .int .u8 0, .int .u8 0, .int .u8 0, .int .u8 0, .int .u8 0, .int .u8 0] 66))) (hb _ (.cells #[.int .u32 0, .slice (some ⟨V.heap.size + 1, 0, none⟩) 1 1, .slice (some ⟨V.heap.size + 2, 0, none⟩) 1 1] 26)))
  simp only [Nat.zero_add, Nat.add_zero] at n0 n1 n2
  rw [show V.heap.size + 1 + 1 = V.heap.size + 2 from rfl, show V.heap.size + 2 + 1 = V.heap.size + 3 from rfl]
  clear hr hb HO2 HB2 LA
  generalize (((V.alloc (.cells #[.int .u8 5] 5)).alloc (.cells #[.int .u8 0, .int .u8 0, .int .u8 0, .int .u8 0, .int .u8 0, .int .u8 0, .int .u8 0, .int .u8 0, .int .u8 0, .int .u8 0, .int .u8 0, .int .u8 0, .int .u8 0, .int .u8 0, .int .u8 0, .int .u8 0, .int .u8 0, .int .u8 0, .int .u8 0, .int .u8 0, .int .u8 0, .int .u8 0, .int .u8 0, .int .u8 0, .int .u8 0, .int .u8 0, .int .u8 0, .int .u8 0, .int .u8 0, .int .u8 0, .int .u8 0, .int .u8 0, .int .u32 0, .slice (some ⟨V.heap.size, 0, none⟩) 1 1] 64)).alloc (.cells #[.int .u64 7, .int .u8 0, .int .u8 0, .int .u8 0, .int .u8 0, .int .u8 0, .int .u8 0, .int .u8 0, .int .u8 0, .int .u8 0, .int .u8 0, .int .u8 0, .int .u8 0, .int .u8 0, .int .u8 0, .int .u8 0, .int .u8 0, .int .u8 0, .int .u8 0, .int .u8 0, .int .u8 0, .int .u8 0, .int .u8 0, .int .u8 0, .int .u8 0, .int .u8 0, .int .u8 0, .int .u8 0, .int .u8 0, .int .u8 0, .int .u8 0, .int .u8 0, .int .u8 0] 66)).alloc (.cells #[.int .u32 0, .slice (some ⟨V.heap.size + 1, 0, none⟩) 1 1, .slice (some ⟨V.heap.size + 2, 0, none⟩) 1 1] 26) = W at *
  generalize hiv : Value.slice (some ⟨V.heap.size + 1, 0, none⟩) 1 1 = iv at *
  generalize hov : Value.slice (some ⟨V.heap.size + 2, 0, none⟩) 1 1 = ov at *
  generalize V.heap.size = g at *
  have HIV := hide hiv
  have HOV := hide hov
  have HLT := hide LT
  clear hiv hov hLT LT
  go_wp2_with fail
  refine (P2.out _ _ _ HLT.out).mono ?_
  rintro e w3 ⟨v3, rfl, hown3, hb3⟩
  have m0 := (hb3.cell (World.block_lt_of_cell? _ _ n0)).trans n0
  have m1 := (hb3.cell (World.block_lt_of_cell? _ _ n1)).trans n1
  have m2 := (hb3.cell (World.block_lt_of_cell? _ _ n2)).trans n2
  have HO4 := hide (HO3.out.below hb3)
  have HB4 := hide (below_on HB3.out hb3)
  have HT4 := hide (HLT.out.on hb3)
  have HC4 := hide hown3.bytes
  clear hown3 hb3 n0 n1 n2 HO3 HB3 HLT P2
  go_wp2_with fail
  refine (W2.out _ _ HC4.out).mono ?_
  rintro e w4 ⟨iv4, ov4, rfl, hb4, hk4⟩
  obtain ⟨ia4, ic4, rfl, -, -⟩ := hk4.self.1.form
  obtain ⟨oa4, oc4, rfl, -, -⟩ := hk4.self.2.form
  have hbt : Below w4.heap.size w4 (w4.alloc (.cells #[.int .u32 0, .slice ia4 T.ins.length ic4, .slice oa4 T.outs.length oc4] 26)) := (Below.refl _ _).alloc (Nat.le_refl _) _
  have hr := range_new w4 [.int .u32 0, .slice ia4 T.ins.length ic4, .slice oa4 T.outs.length oc4] 26
  have q0 := hr 0 _ rfl
  have q1 := hr 1 _ rfl
  have q2 := hr 2 _ rfl
  simp only [Nat.zero_add, Nat.add_zero] at q0 q1 q2
  have hb5 := below_on hb4 hbt
  have n0 := (hb5.cell (World.block_lt_of_cell? _ _ m0)).trans m0
  have n1 := (hb5.cell (World.block_lt_of_cell? _ _ m1)).trans m1
  have n2 := (hb5.cell (World.block_lt_of_cell? _ _ m2)).trans m2
  have HO5 := hide (HO4.out.below hb5)
  have HB5 := hide (below_on HB4.out hb5)
  have HT5 := hide (HT4.out.on hb5)
  have HU5 := hide (TxAt.on hk4.self hbt)
  clear hb4 hk4 hbt hr hb5 m0 m1 m2 HO4 HB4 HT4 HC4 W2
  go_upto_region 6 with fail
  generalize w4.alloc (.cells #[.int .u32 0, .slice ia4 T.ins.length ic4, .slice oa4 T.outs.length oc4] 26) = W4 at *
  generalize w4.heap.size = g4 at *
  go_wp2_with fail
  refine (Z2.out _ _ _ HT5.out).mono ?_
  rintro e w5 ⟨rfl, hb5⟩
  have m0 := (hb5.cell (World.block_lt_of_cell? _ _ n0)).trans n0
  have m1 := (hb5.cell (World.block_lt_of_cell? _ _ n1)).trans n1
  have m2 := (hb5.cell (World.block_lt_of_cell? _ _ n2)).trans n2
  have r0 := (hb5.cell (World.block_lt_of_cell? _ _ q0)).trans q0
  have r1 := (hb5.cell (World.block_lt_of_cell? _ _ q1)).trans q1
  have r2 := (hb5.cell (World.block_lt_of_cell? _ _ q2)).trans q2
  have HO6 := hide (HO5.out.below hb5)
  have HB6 := hide (below_on HB5.out hb5)
  have HT6 := hide (HT5.out.on hb5)
  have HU6 := hide (HU5.out.on hb5)
  clear hb5 n0 n1 n2 q0 q1 q2 HO5 HB5 HT5 HU5 Z2
  go_wp2_with fail
  refine (SB.out _ _ HO6.out).mono ?_
  rintro e w6 ⟨rfl, n6, rfl⟩
  have hb6 : Below w5.heap.size w5 ((w5.alloc (.cells #[.int .u8 1, .int .u8 0, .int .u8 0, .int .u8 0, .int .u8 0, .int .u8 0] 5)).drewN n6) := below_drewN ((Below.refl _ _).alloc (Nat.le_refl _) _) n6
  have n0 := (hb6.cell (World.block_lt_of_cell? _ _ m0)).trans m0
  have n1 := (hb6.cell (World.block_lt_of_cell? _ _ m1)).trans m1
  have n2 := (hb6.cell (World.block_lt_of_cell? _ _ m2)).trans m2
  have q0 := (hb6.cell (World.block_lt_of_cell? _ _ r0)).trans r0
  have q1 := (hb6.cell (World.block_lt_of_cell? _ _ r1)).trans r1
  have q2 := (hb6.cell (World.block_lt_of_cell? _ _ r2)).trans r2
  have HB7 := hide (below_on HB6.out hb6)
  have HT7 := hide (HT6.out.on hb6)
  have HU7 := hide (HU6.out.on hb6)
  clear hb6 m0 m1 m2 r0 r1 r2 HO6 HB6 HT6 HU6 SB
  generalize (w5.alloc (.cells #[.int .u8 1, .int .u8 0, .int .u8 0, .int .u8 0, .int .u8 0, .int .u8 0] 5)).drewN n6 = W6 at *
  go_wp2_with fail
  refine (SM.out _ _ _ _ _ HT7.out HU7.out).mono ?_
  rintro e w7 ⟨rfl, hb7⟩
  have HB8 := hide (below_on HB7.out hb7)
  clear hb7 n0 n1 n2 q0 q1 q2 HB7 HT7 HU7 SM
  go_wp2_with fail
  refine (CN.out _).mono ?_
  rintro e w8 ⟨rfl, hb8⟩
  have R := hide (below_on HB8.out hb8)
  clear hb8 HB8 CN
  go_wp2
  go_ret
  exact ⟨rfl, R.out⟩

end Go.Proofs.YtjmifgdjmaelfaaDoor
