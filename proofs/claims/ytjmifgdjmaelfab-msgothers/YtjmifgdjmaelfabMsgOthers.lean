/-
  Proved: for every message and every number of the type int the law MsgOthers answers true, and its arguments read as they did. No condition.
-/
import Derived.Test.YtjmifgdjmaelfabMgLawK
namespace Go.Proofs.Ytjmifgdjmaelfab
open Go.ChangeShapes Go.WideShapes Go.ChangeAt Go.RowKit

/-- The message with an id where its kind uses none, or with a number. -/
def strayI (m : Mg) : Mg := ⟨m.kind, m.n, m.code, [1 :: List.replicate 31 0], m.tx⟩
def strayN (m : Mg) : Mg := ⟨m.kind, 1, m.code, m.ids, m.tx⟩
def turnK (m : Mg) (o : Int) : Mg := ⟨o, m.n, m.code, m.ids, m.tx⟩
theorem strayI_ok {m : Mg} (h : MgOk m) : MgOk (strayI m) := ⟨h.1, h.2.1, h.2.2.1, fun x hx => by
  obtain rfl := List.mem_singleton.1 hx
  refine ⟨by simp, fun z hz => ?_⟩
  rcases List.mem_cons.1 hz with rfl | q
  · exact ⟨by omega, by omega⟩
  · obtain ⟨-, rfl⟩ := List.mem_replicate.1 q
    exact ⟨by omega, by omega⟩, h.2.2.2.2⟩
theorem strayN_ok {m : Mg} (h : MgOk m) : MgOk (strayN m) := ⟨h.1, ⟨by show (0 : Int) ≤ 1; decide, by show (1 : Int) < _; decide⟩, h.2.2.1, h.2.2.2.1, h.2.2.2.2⟩
theorem turnK_ok {m : Mg} (h : MgOk m) {o : Int} (ho : -9223372036854775808 ≤ o ∧ o ≤ 9223372036854775807) : MgOk (turnK m o) := ⟨⟨ho.1, by show o < _; omega⟩, h.2.1, h.2.2.1, h.2.2.2.1, h.2.2.2.2⟩
theorem chk_two {s : Shp} {m : Mg} (h : coversB s m = false) : chkE s m = 2 := if_pos h
theorem strayI_put (m : Mg) (hk : m.kind = 1 ∨ m.kind = 3 ∨ m.kind = 4) : mpE (strayI m) = 2 := by
  have h1 : isKind m.kind = true := by rcases hk with e | e | e <;> rw [e] <;> decide
  have h0 : (shp m.kind).maxIds = 0 := by rcases hk with e | e | e <;> rw [e] <;> decide
  have hc : coversB (shp m.kind) (strayI m) = false := by
    cases hq : coversB (shp m.kind) (strayI m) with
    | false => rfl
    | true => exact absurd (((coversB_iff _ _).1 hq).1 h0) (by simp [strayI])
  unfold mpE
  rw [if_neg (by show ¬ isKind m.kind = false; rw [h1]; decide), if_pos (by show chkE (shp m.kind) _ ≠ 0; rw [chk_two hc]; decide)]
  exact chk_two hc
theorem strayN_put (m : Mg) (h1 : isKind m.kind = true) (hk : ¬ (m.kind = 1 ∨ m.kind = 3 ∨ m.kind = 4)) : mpE (strayN m) = 2 := by
  have h0 : (shp m.kind).nLen = 0 := by
    generalize m.kind = k at *
    rcases kinds h1 with rfl | rfl | rfl | rfl | rfl | rfl | rfl | rfl | rfl | rfl | rfl <;> first | rfl | (exact absurd hk (by decide))
  have hc : coversB (shp m.kind) (strayN m) = false := by
    cases hq : coversB (shp m.kind) (strayN m) with
    | false => rfl
    | true => exact absurd (((coversB_iff _ _).1 hq).2.2.1 h0) (by show ¬ (1 : Int) = 0; decide)
  unfold mpE
  rw [if_neg (by show ¬ isKind m.kind = false; rw [h1]; decide), if_pos (by show chkE (shp m.kind) _ ≠ 0; rw [chk_two hc]; decide)]
  exact chk_two hc
theorem turnK_put (m : Mg) (o : Int) (h : mpE m = 0) (ho : o ≠ m.kind) : mpE (turnK m o) ≠ 0 ∨ (mpE (turnK m o) = 0 ∧ strL (mpC (turnK m o)) ≠ strL (mpC m)) := by
  by_cases h2 : mpE (turnK m o) = 0
  · refine Or.inr ⟨h2, fun e => ho ?_⟩
    obtain ⟨k1, c1, -⟩ := mp_body h
    obtain ⟨k2, c2, -⟩ := mp_body h2
    have e' := strL_inj e
    rw [c1, c2] at e'
    have := congrArg kindOf e'
    rw [kindOf_cmd k1, kindOf_cmd k2] at this
    exact this
  · exact Or.inl h2
theorem MBox.s1 {w : World} {q : Nat} {x0 x1 x2 x3 x4 x5 x6 : Value} (h : MBox w q x0 x1 x2 x3 x4 x5 x6) (z : Value) : MBox (w.setCell ⟨q, 1, none⟩ z) q x0 z x2 x3 x4 x5 x6 := by
  obtain ⟨n0, n1, n2, n3, n4, n5, n6⟩ := h
  exact ⟨by rw [World.cell?_setCell_other _ _ _ _ (by simp)]; exact n0, World.cell?_setCell_same _ _ _ n1, by rw [World.cell?_setCell_other _ _ _ _ (by simp)]; exact n2, by rw [World.cell?_setCell_other _ _ _ _ (by simp)]; exact n3, by rw [World.cell?_setCell_other _ _ _ _ (by simp)]; exact n4, by rw [World.cell?_setCell_other _ _ _ _ (by simp)]; exact n5, by rw [World.cell?_setCell_other _ _ _ _ (by simp)]; exact n6⟩
theorem zero_hash (w : World) : IdsAt (w.alloc (.cells #[.int .u8 1, .int .u8 0, .int .u8 0, .int .u8 0, .int .u8 0, .int .u8 0, .int .u8 0, .int .u8 0, .int .u8 0, .int .u8 0, .int .u8 0, .int .u8 0, .int .u8 0, .int .u8 0, .int .u8 0, .int .u8 0, .int .u8 0, .int .u8 0, .int .u8 0, .int .u8 0, .int .u8 0, .int .u8 0, .int .u8 0, .int .u8 0, .int .u8 0, .int .u8 0, .int .u8 0, .int .u8 0, .int .u8 0, .int .u8 0, .int .u8 0, .int .u8 0] 44)) (.slice (some ⟨w.heap.size, 0, none⟩) 1 1) [1 :: List.replicate 31 0] := by
  have hr := range_new w (vals .u8 (1 :: List.replicate 31 0)) 44
  refine ⟨_, 1, rfl, Nat.le_refl 1, by omega, by simp, fun _ => ⟨w.heap.size, 0, rfl, fun i c hi => ?_⟩⟩
  rcases i with _ | i
  · simp only [List.map_cons, List.map_nil, List.getElem?_cons_zero, Option.some.injEq] at hi
    subst hi
    exact hr
  · simp at hi
set_option maxRecDepth 100000 in
set_option maxHeartbeats 1000000 in
theorem others8_great {w : World} (m : Mg) (d iv ov : Value) (h : MsgAt w d iv ov m) (hok : MgOk m) (o : Int) (hg : greatM m = true) :
    Calls Try.prog 5 #[.agg #[.int .i64 m.kind, .int .u64 m.n, .int .u32 m.code, d, .int .u32 m.tx.ver, iv, ov], .int .i64 o] w fun e w' => e = .returned (.bool true) ∧ Below w.heap.size w w' := by
  have hnew := below_new w (.cells #[.int .i64 m.kind, .int .u64 m.n, .int .u32 m.code, d, .int .u32 m.tx.ver, iv, ov] 30)
  have HT0 := hide (h.on hnew)
  have HB0 := hide hnew
  have HX0 := hide (MBox.new w (.int .i64 m.kind) (.int .u64 m.n) (.int .u32 m.code) d (.int .u32 m.tx.ver) iv ov 30)
  have GR := hide (fun w (h : MsgAt w d iv ov m) => great8_any m d iv ov w h hok)
  have AL := hide alive8_any
  rw [hg] at GR
  obtain ⟨sa, sc, ia, ic, oa, oc, rfl, rfl, rfl⟩ := h.form
  clear hnew h hok hg
  go_enter Try.func5, Try.ntmps5
  go_upto_region 1 with fail
  generalize w.alloc (.cells #[.int .i64 m.kind, .int .u64 m.n, .int .u32 m.code, .slice sa m.ids.length sc, .int .u32 m.tx.ver, .slice ia m.tx.ins.length ic, .slice oa m.tx.outs.length oc] 30) = W0 at *
  generalize hg : w.heap.size = g at *
  have HG := hide hg
  clear hg
  have HBG : Hid (g ≤ W0.heap.size) := hide (by have := HB0.out.size; have := HG.out; omega)
  go_wp2_with fail
  refine (AL.out _).mono ?_
  rintro e w1 ⟨rfl, hb1⟩
  have HB1 := hide (HB0.out.trans (hb1.mono HBG.out))
  have HBG1 : Hid (g ≤ w1.heap.size) := hide (Nat.le_trans HBG.out hb1.size)
  have HT1 := hide (HT0.out.on hb1)
  have HX1 := hide (HX0.out.on hb1)
  obtain ⟨p0, p1, p2, p3, p4, p5, p6⟩ := HX1.out
  clear hb1 HB0 HT0 HX0 AL HBG
  go_wp2_with fail
  refine (GR.out _ HT1.out).mono ?_
  rintro e w2 ⟨rfl, hb2⟩
  have HB2 := hide (HB1.out.trans (hb2.mono HBG1.out))
  have HBG2 : Hid (g ≤ w2.heap.size) := hide (Nat.le_trans HBG1.out hb2.size)
  have HT2 := hide (HT1.out.on hb2)
  have HX2 := hide (HX1.out.on hb2)
  clear p0 p1 p2 p3 p4 p5 p6
  obtain ⟨p0, p1, p2, p3, p4, p5, p6⟩ := HX2.out
  clear hb2 HB1 HT1 HX1 GR HBG1
  clear HT2 HX2 p0 p1 p2 p3 p4 p5 p6
  go_wp2
  go_ret
  rw [HG.out]
  exact ⟨rfl, HB2.out⟩
set_option maxRecDepth 100000 in
set_option maxHeartbeats 1000000 in
theorem others8_bad {w : World} (m : Mg) (d iv ov : Value) (h : MsgAt w d iv ov m) (hok : MgOk m) (o : Int) (hg : greatM m = false) (hE : mpE m ≠ 0) :
    Calls Try.prog 5 #[.agg #[.int .i64 m.kind, .int .u64 m.n, .int .u32 m.code, d, .int .u32 m.tx.ver, iv, ov], .int .i64 o] w fun e w' => e = .returned (.bool true) ∧ Below w.heap.size w w' := by
  have hnew := below_new w (.cells #[.int .i64 m.kind, .int .u64 m.n, .int .u32 m.code, d, .int .u32 m.tx.ver, iv, ov] 30)
  have HT0 := hide (h.on hnew)
  have HB0 := hide hnew
  have HX0 := hide (MBox.new w (.int .i64 m.kind) (.int .u64 m.n) (.int .u32 m.code) d (.int .u32 m.tx.ver) iv ov 30)
  have GR := hide (fun w (h : MsgAt w d iv ov m) => great8_any m d iv ov w h hok)
  have AL := hide alive8_any
  rw [hg] at GR
  have PT := hide (fun w (h : MsgAt w d iv ov m) => mput_is m d iv ov w h hok _ _ (mpE m) (mp_bad hE).1 (mp_bad hE).2 rfl)
  have HK : Hid (isKind m.kind = false → mpE m = 2) := hide (fun h => if_pos h)
  have HKK : Hid (isKind m.kind = (decide (1 ≤ m.kind) && decide (m.kind ≤ 11))) := hide rfl
  obtain ⟨sa, sc, ia, ic, oa, oc, rfl, rfl, rfl⟩ := h.form
  generalize mpE m = E at *
  clear hnew h hok hg
  go_enter Try.func5, Try.ntmps5
  go_upto_region 1 with fail
  generalize w.alloc (.cells #[.int .i64 m.kind, .int .u64 m.n, .int .u32 m.code, .slice sa m.ids.length sc, .int .u32 m.tx.ver, .slice ia m.tx.ins.length ic, .slice oa m.tx.outs.length oc] 30) = W0 at *
  generalize hg : w.heap.size = g at *
  have HG := hide hg
  clear hg
  have HBG : Hid (g ≤ W0.heap.size) := hide (by have := HB0.out.size; have := HG.out; omega)
  go_wp2_with fail
  refine (AL.out _).mono ?_
  rintro e w1 ⟨rfl, hb1⟩
  have HB1 := hide (HB0.out.trans (hb1.mono HBG.out))
  have HBG1 : Hid (g ≤ w1.heap.size) := hide (Nat.le_trans HBG.out hb1.size)
  have HT1 := hide (HT0.out.on hb1)
  have HX1 := hide (HX0.out.on hb1)
  obtain ⟨p0, p1, p2, p3, p4, p5, p6⟩ := HX1.out
  clear hb1 HB0 HT0 HX0 AL HBG
  go_wp2_with fail
  refine (GR.out _ HT1.out).mono ?_
  rintro e w2 ⟨rfl, hb2⟩
  have HB2 := hide (HB1.out.trans (hb2.mono HBG1.out))
  have HBG2 : Hid (g ≤ w2.heap.size) := hide (Nat.le_trans HBG1.out hb2.size)
  have HT2 := hide (HT1.out.on hb2)
  have HX2 := hide (HX1.out.on hb2)
  clear p0 p1 p2 p3 p4 p5 p6
  obtain ⟨p0, p1, p2, p3, p4, p5, p6⟩ := HX2.out
  clear hb2 HB1 HT1 HX1 GR HBG1
  go_wp2_with fail
  refine (PT.out _ HT2.out).mono ?_
  rintro e w3 ⟨pa, pc, rfl, hown3, hb3⟩
  have HB3 := hide (HB2.out.trans (hb3.mono HBG2.out))
  have HBG3 : Hid (g ≤ w3.heap.size) := hide (Nat.le_trans HBG2.out hb3.size)
  have HX3 := hide (HX2.out.on hb3)
  have HT3 := hide (HT2.out.on hb3)
  have HC3 := hide hown3.bytes
  clear p0 p1 p2 p3 p4 p5 p6
  obtain ⟨p0, p1, p2, p3, p4, p5, p6⟩ := HX3.out
  clear hb3 hown3 HB2 HX2 HT2 HBG2 PT
  clear HC3 HX3 HT3 p1 p2 p3 p4 p5 p6
  by_cases h1 : m.kind < 1
  · have hE2 := HK.out (by rw [HKK.out, decide_eq_false (by omega)]; rfl)
    subst hE2
    clear HK HKK
    go_wp2
    go_ret
    rw [HG.out]
    exact ⟨rfl, HB3.out⟩
  · by_cases h2 : 11 < m.kind
    · have hE2 := HK.out (by rw [HKK.out, decide_eq_false (show ¬ m.kind ≤ 11 by omega), Bool.and_false])
      subst hE2
      clear HK HKK
      go_wp2
      go_ret
      rw [HG.out]
      exact ⟨rfl, HB3.out⟩
    · clear HK HKK
      go_wp2
      go_ret
      rw [HG.out]
      exact ⟨rfl, HB3.out⟩
set_option maxRecDepth 100000 in
set_option maxHeartbeats 2000000 in
theorem others8_some {w : World} (m : Mg) (d iv ov : Value) (h : MsgAt w d iv ov m) (hok : MgOk m) (o : Int) (ho : -9223372036854775808 ≤ o ∧ o ≤ 9223372036854775807) (hg : greatM m = false) (hE : mpE m = 0) :
    Calls Try.prog 5 #[.agg #[.int .i64 m.kind, .int .u64 m.n, .int .u32 m.code, d, .int .u32 m.tx.ver, iv, ov], .int .i64 o] w fun e w' => e = .returned (.bool true) ∧ Below w.heap.size w w' := by
  have hnew := below_new w (.cells #[.int .i64 m.kind, .int .u64 m.n, .int .u32 m.code, d, .int .u32 m.tx.ver, iv, ov] 30)
  have HT0 := hide (h.on hnew)
  have HB0 := hide hnew
  have HX0 := hide (MBox.new w (.int .i64 m.kind) (.int .u64 m.n) (.int .u32 m.code) d (.int .u32 m.tx.ver) iv ov 30)
  have GR := hide (fun w (h : MsgAt w d iv ov m) => great8_any m d iv ov w h hok)
  have AL := hide alive8_any
  rw [hg] at GR
  have PT := hide (fun w (h : MsgAt w d iv ov m) => mput_is m d iv ov w h hok _ _ 0 rfl rfl hE)
  have hkk := (mp_body hE).1
  have PI := hide (fun hk => strayI_put m hk)
  have PN := hide (fun hk => strayN_put m hkk hk)
  have OI := hide (strayI_ok hok)
  have ON := hide (strayN_ok hok)
  have OT := hide (turnK_ok hok ho)
  have QI := hide (fun hk w d' (h : MsgAt w d' iv ov (strayI m)) => mput_is (strayI m) d' iv ov w h OI.out _ _ 2 rfl rfl (PI.out hk))
  have QN := hide (fun hk w (h : MsgAt w d iv ov (strayN m)) => mput_is (strayN m) d iv ov w h ON.out _ _ 2 rfl rfl (PN.out hk))
  have QT := hide (fun w (h : MsgAt w d iv ov (turnK m o)) => mput_is (turnK m o) d iv ov w h OT.out _ _ _ rfl rfl rfl)
  have TK := hide (fun ho => turnK_put m o hE ho)
  have hk12 : ¬ m.kind < 1 ∧ ¬ 11 < m.kind := by
    have : 1 ≤ m.kind ∧ m.kind ≤ 11 := by simpa [isKind] using hkk
    omega
  obtain ⟨k1, k2⟩ := hk12
  obtain ⟨sa, sc, ia, ic, oa, oc, rfl, rfl, rfl⟩ := h.form
  clear hnew h hok hg hE hkk ho PI PN
  generalize mpC m = C at *
  generalize mpB m = B at *
  go_enter Try.func5, Try.ntmps5
  go_upto_region 1 with fail
  generalize w.alloc (.cells #[.int .i64 m.kind, .int .u64 m.n, .int .u32 m.code, .slice sa m.ids.length sc, .int .u32 m.tx.ver, .slice ia m.tx.ins.length ic, .slice oa m.tx.outs.length oc] 30) = W0 at *
  generalize hg : w.heap.size = g at *
  have HG := hide hg
  clear hg
  have HBG : Hid (g ≤ W0.heap.size) := hide (by have := HB0.out.size; have := HG.out; omega)
  go_wp2_with fail
  refine (AL.out _).mono ?_
  rintro e w1 ⟨rfl, hb1⟩
  have HB1 := hide (HB0.out.trans (hb1.mono HBG.out))
  have HBG1 : Hid (g ≤ w1.heap.size) := hide (Nat.le_trans HBG.out hb1.size)
  have HT1 := hide (HT0.out.on hb1)
  have HX1 := hide (HX0.out.on hb1)
  obtain ⟨p0, p1, p2, p3, p4, p5, p6⟩ := HX1.out
  clear hb1 HB0 HT0 HX0 AL HBG
  go_wp2_with fail
  refine (GR.out _ HT1.out).mono ?_
  rintro e w2 ⟨rfl, hb2⟩
  have HB2 := hide (HB1.out.trans (hb2.mono HBG1.out))
  have HBG2 : Hid (g ≤ w2.heap.size) := hide (Nat.le_trans HBG1.out hb2.size)
  have HT2 := hide (HT1.out.on hb2)
  have HX2 := hide (HX1.out.on hb2)
  clear p0 p1 p2 p3 p4 p5 p6
  obtain ⟨p0, p1, p2, p3, p4, p5, p6⟩ := HX2.out
  clear hb2 HB1 HT1 HX1 GR HBG1
  go_wp2_with fail
  refine (PT.out _ HT2.out).mono ?_
  rintro e w3 ⟨pa, pc, rfl, hown3, hb3⟩
  have HB3 := hide (HB2.out.trans (hb3.mono HBG2.out))
  have HBG3 : Hid (g ≤ w3.heap.size) := hide (Nat.le_trans HBG2.out hb3.size)
  have HX3 := hide (HX2.out.on hb3)
  have HT3 := hide (HT2.out.on hb3)
  have HC3 := hide hown3.bytes
  clear p0 p1 p2 p3 p4 p5 p6
  obtain ⟨p0, p1, p2, p3, p4, p5, p6⟩ := HX3.out
  clear hb3 hown3 HB2 HX2 HT2 HBG2 PT
  have hbn := below_new w3 (.cells #[.int .i64 m.kind, .int .u64 m.n, .int .u32 m.code, .slice sa m.ids.length sc, .int .u32 m.tx.ver, .slice ia m.tx.ins.length ic, .slice oa m.tx.outs.length oc] 30)
  have HY4 := hide (MBox.new w3 (.int .i64 m.kind) (.int .u64 m.n) (.int .u32 m.code) (.slice sa m.ids.length sc) (.int .u32 m.tx.ver) (.slice ia m.tx.ins.length ic) (.slice oa m.tx.outs.length oc) 30)
  have HYT4 : Hid ((w3.alloc (.cells #[.int .i64 m.kind, .int .u64 m.n, .int .u32 m.code, .slice sa m.ids.length sc, .int .u32 m.tx.ver, .slice ia m.tx.ins.length ic, .slice oa m.tx.outs.length oc] 30)).there w3.heap.size 0 7) := hide (there_new w3 _ _)
  have HX4 := hide (HX3.out.on hbn)
  have HT4 := hide (HT3.out.on hbn)
  have HB4 := hide (HB3.out.trans (hbn.mono HBG3.out))
  have HS4 : Hid ((w3.alloc (.cells #[.int .i64 m.kind, .int .u64 m.n, .int .u32 m.code, .slice sa m.ids.length sc, .int .u32 m.tx.ver, .slice ia m.tx.ins.length ic, .slice oa m.tx.outs.length oc] 30)).heap.size = w3.heap.size + 1) := hide (alloc_size _ _)
  have HLT : Hid (g < w3.heap.size) := hide (World.block_lt_of_cell? _ _ HX3.out.1)
  have KEEP : Hid (∀ W' : World, Below w3.heap.size w3 W' → MsgAt W' (.slice sa m.ids.length sc) (.slice ia m.tx.ins.length ic) (.slice oa m.tx.outs.length oc) m ∧ MBox W' g (.int .i64 m.kind) (.int .u64 m.n) (.int .u32 m.code) (.slice sa m.ids.length sc) (.int .u32 m.tx.ver) (.slice ia m.tx.ins.length ic) (.slice oa m.tx.outs.length oc) ∧ Below g w W') := hide (fun W' hb => ⟨HT3.out.on hb, HX3.out.on hb, HB3.out.trans (hb.mono HBG3.out)⟩)
  have HBN := hide hbn
  clear hbn HC3 HT3 HB3 HBG3 HX3 HB4 HT4
  go_upto_region 11 with fail
  generalize w3.alloc (.cells #[.int .i64 m.kind, .int .u64 m.n, .int .u32 m.code, .slice sa m.ids.length sc, .int .u32 m.tx.ver, .slice ia m.tx.ins.length ic, .slice oa m.tx.outs.length oc] 30) = W4 at *
  generalize w3.heap.size = q at *
  clear p0 p1 p2 p3 p4 p5 p6
  obtain ⟨p0, p1, p2, p3, p4, p5, p6⟩ := HX4.out
  obtain ⟨q0, q1, q2, q3, q4, q5, q6⟩ := HY4.out
  obtain ⟨-, -, -, -, -, -, -, -, f0, f1, f2, f3, f4, f5, f6⟩ := there7 HYT4.out
  by_cases hk : m.kind = 1 ∨ m.kind = 3 ∨ m.kind = 4
  · have Q := hide (QI.out hk)
    have hcases := hk
    have hbm := below_new W4 (.cells #[.int .u8 1, .int .u8 0, .int .u8 0, .int .u8 0, .int .u8 0, .int .u8 0, .int .u8 0, .int .u8 0, .int .u8 0, .int .u8 0, .int .u8 0, .int .u8 0, .int .u8 0, .int .u8 0, .int .u8 0, .int .u8 0, .int .u8 0, .int .u8 0, .int .u8 0, .int .u8 0, .int .u8 0, .int .u8 0, .int .u8 0, .int .u8 0, .int .u8 0, .int .u8 0, .int .u8 0, .int .u8 0, .int .u8 0, .int .u8 0, .int .u8 0, .int .u8 0] 44)
    have HI5 := hide (zero_hash W4)
    have HS5 := hide (alloc_size W4 (.cells #[.int .u8 1, .int .u8 0, .int .u8 0, .int .u8 0, .int .u8 0, .int .u8 0, .int .u8 0, .int .u8 0, .int .u8 0, .int .u8 0, .int .u8 0, .int .u8 0, .int .u8 0, .int .u8 0, .int .u8 0, .int .u8 0, .int .u8 0, .int .u8 0, .int .u8 0, .int .u8 0, .int .u8 0, .int .u8 0, .int .u8 0, .int .u8 0, .int .u8 0, .int .u8 0, .int .u8 0, .int .u8 0, .int .u8 0, .int .u8 0, .int .u8 0, .int .u8 0] 44))
    have HYT5 := hide (there_setC (there_on HYT4.out hbm) ⟨q, 3, none⟩ (.slice (some ⟨W4.heap.size, 0, none⟩) 1 1))
    have HQ5 := hide ((HY4.out.on hbm).s3 (.slice (some ⟨W4.heap.size, 0, none⟩) 1 1))
    have HB5 := hide (below_set (HBN.out.trans (hbm.mono (by rw [HS4.out]; omega))) (show q ≤ (⟨q, 3, none⟩ : Addr).block from Nat.le_refl q) (.slice (some ⟨W4.heap.size, 0, none⟩) 1 1))
    have HST : Hid (MsgAt ((W4.alloc (.cells #[.int .u8 1, .int .u8 0, .int .u8 0, .int .u8 0, .int .u8 0, .int .u8 0, .int .u8 0, .int .u8 0, .int .u8 0, .int .u8 0, .int .u8 0, .int .u8 0, .int .u8 0, .int .u8 0, .int .u8 0, .int .u8 0, .int .u8 0, .int .u8 0, .int .u8 0, .int .u8 0, .int .u8 0, .int .u8 0, .int .u8 0, .int .u8 0, .int .u8 0, .int .u8 0, .int .u8 0, .int .u8 0, .int .u8 0, .int .u8 0, .int .u8 0, .int .u8 0] 44)).setCell ⟨q, 3, none⟩ (.slice (some ⟨W4.heap.size, 0, none⟩) 1 1)) (.slice (some ⟨W4.heap.size, 0, none⟩) 1 1) (.slice ia m.tx.ins.length ic) (.slice oa m.tx.outs.length oc) (strayI m)) := hide ⟨RowAt.keeps (P := fun k => W4.heap.size ≤ k) HI5.out (fun k hk => by simp [Value.ownBlock] at hk; omega) _ fun k hk hp => (Besides.sets (p := q) (q := q) (w := W4.alloc (.cells #[.int .u8 1, .int .u8 0, .int .u8 0, .int .u8 0, .int .u8 0, .int .u8 0, .int .u8 0, .int .u8 0, .int .u8 0, .int .u8 0, .int .u8 0, .int .u8 0, .int .u8 0, .int .u8 0, .int .u8 0, .int .u8 0, .int .u8 0, .int .u8 0, .int .u8 0, .int .u8 0, .int .u8 0, .int .u8 0, .int .u8 0, .int .u8 0, .int .u8 0, .int .u8 0, .int .u8 0, .int .u8 0, .int .u8 0, .int .u8 0, .int .u8 0, .int .u8 0] 44)) (Or.inl rfl) [.slice (some ⟨W4.heap.size, 0, none⟩) 1 1] 3 _ (Besides.refl _ _ _)).block k hk (by have := HS4.out; omega) (by have := HS4.out; omega), (KEEP.out _ HB5.out).1.2⟩
    have HBQ5 : Hid (q ≤ ((W4.alloc (.cells #[.int .u8 1, .int .u8 0, .int .u8 0, .int .u8 0, .int .u8 0, .int .u8 0, .int .u8 0, .int .u8 0, .int .u8 0, .int .u8 0, .int .u8 0, .int .u8 0, .int .u8 0, .int .u8 0, .int .u8 0, .int .u8 0, .int .u8 0, .int .u8 0, .int .u8 0, .int .u8 0, .int .u8 0, .int .u8 0, .int .u8 0, .int .u8 0, .int .u8 0, .int .u8 0, .int .u8 0, .int .u8 0, .int .u8 0, .int .u8 0, .int .u8 0, .int .u8 0] 44)).setCell ⟨q, 3, none⟩ (.slice (some ⟨W4.heap.size, 0, none⟩) 1 1)).heap.size) := hide (by rw [size_setCell, HS5.out, HS4.out]; omega)
    have hways : ((m.kind == 1) = true) ∨ ((m.kind == 1) = false ∧ (m.kind == 3) = true) ∨ ((m.kind == 1) = false ∧ (m.kind == 3) = false ∧ (m.kind == 4) = true) := by
      rcases hcases with e | e | e <;> rw [e] <;> decide
    have k3 := (HY4.out.on hbm).2.2.2.1
    have g3 : (W4.alloc (.cells #[.int .u8 1, .int .u8 0, .int .u8 0, .int .u8 0, .int .u8 0, .int .u8 0, .int .u8 0, .int .u8 0, .int .u8 0, .int .u8 0, .int .u8 0, .int .u8 0, .int .u8 0, .int .u8 0, .int .u8 0, .int .u8 0, .int .u8 0, .int .u8 0, .int .u8 0, .int .u8 0, .int .u8 0, .int .u8 0, .int .u8 0, .int .u8 0, .int .u8 0, .int .u8 0, .int .u8 0, .int .u8 0, .int .u8 0, .int .u8 0, .int .u8 0, .int .u8 0] 44)).frozen? ⟨q, 3, none⟩ = false := there_free0 (there_on HYT4.out hbm) 3 (by omega)
    have HST5 := HST
    clear QN QI hk hbm hcases HST
    rcases hways with e1 | ⟨e1, e3⟩ | ⟨e1, e3, e4⟩
    all_goals
      go_upto_region 17 with fail
      clear p0 p1 p2 p3 p4 p5 p6 q0 q1 q2 q3 q4 q5 q6 k3 g3 HY4 HYT4 HBN HX4 HS4 HI5 HS5
      generalize (W4.alloc (.cells #[.int .u8 1, .int .u8 0, .int .u8 0, .int .u8 0, .int .u8 0, .int .u8 0, .int .u8 0, .int .u8 0, .int .u8 0, .int .u8 0, .int .u8 0, .int .u8 0, .int .u8 0, .int .u8 0, .int .u8 0, .int .u8 0, .int .u8 0, .int .u8 0, .int .u8 0, .int .u8 0, .int .u8 0, .int .u8 0, .int .u8 0, .int .u8 0, .int .u8 0, .int .u8 0, .int .u8 0, .int .u8 0, .int .u8 0, .int .u8 0, .int .u8 0, .int .u8 0] 44)).setCell ⟨q, 3, none⟩ (.slice (some ⟨W4.heap.size, 0, none⟩) 1 1) = W5 at *
      generalize W4.heap.size = gh at *
      obtain ⟨p0, p1, p2, p3, p4, p5, p6⟩ := (KEEP.out _ HB5.out).2.1
      obtain ⟨q0, q1, q2, q3, q4, q5, q6⟩ := HQ5.out
      go_wp2_with fail
      refine (Q.out _ _ HST5.out).mono ?_
      rintro e w6 ⟨a6, c6, rfl, -, hb6⟩
      have HB6 := hide (HB5.out.trans (hb6.mono HBQ5.out))
      have HQ6 := hide (HQ5.out.on hb6)
      have ht6 := there_on HYT5.out hb6
      have HYT6 := hide ht6
      clear p0 p1 p2 p3 p4 p5 p6 q0 q1 q2 q3 q4 q5 q6 f0 f1 f2 f3 f4 f5 f6
      obtain ⟨p0, p1, p2, p3, p4, p5, p6⟩ := (KEEP.out _ HB6.out).2.1
      obtain ⟨q0, q1, q2, q3, q4, q5, q6⟩ := HQ6.out
      obtain ⟨-, -, -, -, -, -, -, -, f0, f1, f2, f3, f4, f5, f6⟩ := there7 ht6
      have hlt := HLT.out
      have HSET := hide (set7 w6 q)
      have HQ7 := hide (box_range (World.rangeAt_setCells_same w6 q 0 [.int .i64 m.kind, .int .u64 m.n, .int .u32 m.code, .slice sa m.ids.length sc, .int .u32 m.tx.ver, .slice ia m.tx.ins.length ic, .slice oa m.tx.outs.length oc] ht6))
      have HYT7 := hide (there_sets ht6 q 0 [.int .i64 m.kind, .int .u64 m.n, .int .u32 m.code, .slice sa m.ids.length sc, .int .u32 m.tx.ver, .slice ia m.tx.ins.length ic, .slice oa m.tx.outs.length oc])
      have HB7 := hide (below_sets (Nat.le_refl q) [.int .i64 m.kind, .int .u64 m.n, .int .u32 m.code, .slice sa m.ids.length sc, .int .u32 m.tx.ver, .slice ia m.tx.ins.length ic, .slice oa m.tx.outs.length oc] 0 w6 HB6.out)
      clear HB5 HQ5 HYT5 HBQ5 hb6 ht6 Q HQ6 hlt
      go_upto_region 19 with fail
      rw [HSET.out]
      clear HSET p0 p1 p2 p3 p4 p5 p6 q0 q1 q2 q3 q4 q5 q6 f0 f1 f2 f3 f4 f5 f6
      generalize w6.setCells q 0 [.int .i64 m.kind, .int .u64 m.n, .int .u32 m.code, .slice sa m.ids.length sc, .int .u32 m.tx.ver, .slice ia m.tx.ins.length ic, .slice oa m.tx.outs.length oc] = W7 at *
      obtain ⟨p0, p1, p2, p3, p4, p5, p6⟩ := (KEEP.out _ HB7.out).2.1
      obtain ⟨q0, q1, q2, q3, q4, q5, q6⟩ := HQ7.out
      obtain ⟨-, -, -, -, -, -, -, -, f0, f1, f2, f3, f4, f5, f6⟩ := there7 HYT7.out
      have HQ8 := hide (HQ7.out.s0 (.int .i64 o))
      have HB8 := hide (below_set HB7.out (show q ≤ (⟨q, 0, none⟩ : Addr).block from Nat.le_refl q) (.int .i64 o))
      clear HB6 HYT6 HB7 HQ7 HYT7
      go_upto_region 20 with fail
      clear p0 p1 p2 p3 p4 p5 p6 q0 q1 q2 q3 q4 q5 q6 f0 f1 f2 f3 f4 f5 f6
      generalize W7.setCell ⟨q, 0, none⟩ (.int .i64 o) = W8 at *
      obtain ⟨t8, x8, b8⟩ := KEEP.out _ HB8.out
      obtain ⟨p0, p1, p2, p3, p4, p5, p6⟩ := x8
      obtain ⟨q0, q1, q2, q3, q4, q5, q6⟩ := HQ8.out
      have HT8 := hide t8
      have HB9 := hide b8
      have HBG8 : Hid (g ≤ W8.heap.size) := hide (by have := b8.size; have := HG.out; omega)
      clear t8 b8 HQ8
      go_wp2_with fail
      refine (QT.out _ HT8.out).mono ?_
      rintro e w9 ⟨a9, c9, rfl, -, hb9⟩
      have p0' := cell_on p0 hb9
      have R := hide (HB9.out.trans (hb9.mono HBG8.out))
      clear p0 p1 p2 p3 p4 p5 p6 q0 q1 q2 q3 q4 q5 q6 HB8 HT8 HB9 HBG8 hb9 KEEP QT
      by_cases heq : o = m.kind
      · have heq' : (o == m.kind) = true := by simpa using heq
        clear TK
        generalize mpE (turnK m o) = E2 at *
        generalize mpC (turnK m o) = C2 at *
        generalize (mpB (turnK m o)).length = n2 at *
        go_wp2
        go_ret
        rw [HG.out]
        exact ⟨rfl, R.out⟩
      · have heq' : (o == m.kind) = false := by simpa using heq
        have hT := TK.out heq
        clear TK
        generalize mpE (turnK m o) = E2 at *
        generalize mpC (turnK m o) = C2 at *
        generalize (mpB (turnK m o)).length = n2 at *
        rcases hT with hne | ⟨h0, hcc⟩
        · have hne' : (E2 == 0) = false := by simpa using hne
          go_wp2
          go_ret
          rw [HG.out]
          exact ⟨rfl, R.out⟩
        · subst h0
          have hbeq := str_beq C2 C
          rw [decide_eq_false hcc] at hbeq
          clear hcc
          go_wp2
          go_ret
          rw [HG.out]
          exact ⟨rfl, R.out⟩
  · have e1 : ¬ m.kind = 1 := fun e => hk (Or.inl e)
    have e3 : ¬ m.kind = 3 := fun e => hk (Or.inr (Or.inl e))
    have e4 : ¬ m.kind = 4 := fun e => hk (Or.inr (Or.inr e))
    have Q := hide (QN.out hk)
    have HQ5 := hide (HY4.out.s1 (.int .u64 1))
    have HB5 := hide (below_set HBN.out (show q ≤ (⟨q, 1, none⟩ : Addr).block from Nat.le_refl q) (.int .u64 1))
    have HYT5 := hide (there_setC HYT4.out ⟨q, 1, none⟩ (.int .u64 1))
    have HBQ5 : Hid (q ≤ (W4.setCell ⟨q, 1, none⟩ (.int .u64 1)).heap.size) := hide (by rw [size_setCell, HS4.out]; omega)
    clear QN QI hk HY4 HYT4 HBN HX4 HS4
    go_upto_region 17 with fail
    clear p0 p1 p2 p3 p4 p5 p6 q0 q1 q2 q3 q4 q5 q6
    generalize W4.setCell ⟨q, 1, none⟩ (.int .u64 1) = W5 at *
    obtain ⟨p0, p1, p2, p3, p4, p5, p6⟩ := (KEEP.out _ HB5.out).2.1
    obtain ⟨q0, q1, q2, q3, q4, q5, q6⟩ := HQ5.out
    go_wp2_with fail
    refine (Q.out _ (KEEP.out _ HB5.out).1).mono ?_
    rintro e w6 ⟨a6, c6, rfl, -, hb6⟩
    have HB6 := hide (HB5.out.trans (hb6.mono HBQ5.out))
    have HQ6 := hide (HQ5.out.on hb6)
    have ht6 := there_on HYT5.out hb6
    have HYT6 := hide ht6
    clear p0 p1 p2 p3 p4 p5 p6 q0 q1 q2 q3 q4 q5 q6 f0 f1 f2 f3 f4 f5 f6
    obtain ⟨p0, p1, p2, p3, p4, p5, p6⟩ := (KEEP.out _ HB6.out).2.1
    obtain ⟨q0, q1, q2, q3, q4, q5, q6⟩ := HQ6.out
    obtain ⟨-, -, -, -, -, -, -, -, f0, f1, f2, f3, f4, f5, f6⟩ := there7 ht6
    have hlt := HLT.out
    have HSET := hide (set7 w6 q)
    have HQ7 := hide (box_range (World.rangeAt_setCells_same w6 q 0 [.int .i64 m.kind, .int .u64 m.n, .int .u32 m.code, .slice sa m.ids.length sc, .int .u32 m.tx.ver, .slice ia m.tx.ins.length ic, .slice oa m.tx.outs.length oc] ht6))
    have HYT7 := hide (there_sets ht6 q 0 [.int .i64 m.kind, .int .u64 m.n, .int .u32 m.code, .slice sa m.ids.length sc, .int .u32 m.tx.ver, .slice ia m.tx.ins.length ic, .slice oa m.tx.outs.length oc])
    have HB7 := hide (below_sets (Nat.le_refl q) [.int .i64 m.kind, .int .u64 m.n, .int .u32 m.code, .slice sa m.ids.length sc, .int .u32 m.tx.ver, .slice ia m.tx.ins.length ic, .slice oa m.tx.outs.length oc] 0 w6 HB6.out)
    clear HB5 HQ5 HYT5 HBQ5 hb6 ht6 Q HQ6 hlt
    go_upto_region 19 with fail
    rw [HSET.out]
    clear HSET p0 p1 p2 p3 p4 p5 p6 q0 q1 q2 q3 q4 q5 q6 f0 f1 f2 f3 f4 f5 f6
    generalize w6.setCells q 0 [.int .i64 m.kind, .int .u64 m.n, .int .u32 m.code, .slice sa m.ids.length sc, .int .u32 m.tx.ver, .slice ia m.tx.ins.length ic, .slice oa m.tx.outs.length oc] = W7 at *
    obtain ⟨p0, p1, p2, p3, p4, p5, p6⟩ := (KEEP.out _ HB7.out).2.1
    obtain ⟨q0, q1, q2, q3, q4, q5, q6⟩ := HQ7.out
    obtain ⟨-, -, -, -, -, -, -, -, f0, f1, f2, f3, f4, f5, f6⟩ := there7 HYT7.out
    have HQ8 := hide (HQ7.out.s0 (.int .i64 o))
    have HB8 := hide (below_set HB7.out (show q ≤ (⟨q, 0, none⟩ : Addr).block from Nat.le_refl q) (.int .i64 o))
    clear HB6 HYT6 HB7 HQ7 HYT7
    go_upto_region 20 with fail
    clear p0 p1 p2 p3 p4 p5 p6 q0 q1 q2 q3 q4 q5 q6 f0 f1 f2 f3 f4 f5 f6
    generalize W7.setCell ⟨q, 0, none⟩ (.int .i64 o) = W8 at *
    obtain ⟨t8, x8, b8⟩ := KEEP.out _ HB8.out
    obtain ⟨p0, p1, p2, p3, p4, p5, p6⟩ := x8
    obtain ⟨q0, q1, q2, q3, q4, q5, q6⟩ := HQ8.out
    have HT8 := hide t8
    have HB9 := hide b8
    have HBG8 : Hid (g ≤ W8.heap.size) := hide (by have := b8.size; have := HG.out; omega)
    clear t8 b8 HQ8
    go_wp2_with fail
    refine (QT.out _ HT8.out).mono ?_
    rintro e w9 ⟨a9, c9, rfl, -, hb9⟩
    have p0' := cell_on p0 hb9
    have R := hide (HB9.out.trans (hb9.mono HBG8.out))
    clear p0 p1 p2 p3 p4 p5 p6 q0 q1 q2 q3 q4 q5 q6 HB8 HT8 HB9 HBG8 hb9 KEEP QT
    by_cases heq : o = m.kind
    · have heq' : (o == m.kind) = true := by simpa using heq
      clear TK
      generalize mpE (turnK m o) = E2 at *
      generalize mpC (turnK m o) = C2 at *
      generalize (mpB (turnK m o)).length = n2 at *
      go_wp2
      go_ret
      rw [HG.out]
      exact ⟨rfl, R.out⟩
    · have heq' : (o == m.kind) = false := by simpa using heq
      have hT := TK.out heq
      clear TK
      generalize mpE (turnK m o) = E2 at *
      generalize mpC (turnK m o) = C2 at *
      generalize (mpB (turnK m o)).length = n2 at *
      rcases hT with hne | ⟨h0, hcc⟩
      · have hne' : (E2 == 0) = false := by simpa using hne
        go_wp2
        go_ret
        rw [HG.out]
        exact ⟨rfl, R.out⟩
      · subst h0
        have hbeq := str_beq C2 C
        rw [decide_eq_false hcc] at hbeq
        clear hcc
        go_wp2
        go_ret
        rw [HG.out]
        exact ⟨rfl, R.out⟩
theorem others8_law {w : World} (m : Mg) (d iv ov : Value) (h : MsgAt w d iv ov m) (hok : MgOk m) (o : Int) (ho : -9223372036854775808 ≤ o ∧ o ≤ 9223372036854775807) :
    Calls Try.prog 5 #[.agg #[.int .i64 m.kind, .int .u64 m.n, .int .u32 m.code, d, .int .u32 m.tx.ver, iv, ov], .int .i64 o] w fun e w' => e = .returned (.bool true) ∧ Below w.heap.size w w' := by
  cases hg : greatM m with
  | true => exact others8_great m d iv ov h hok o hg
  | false =>
    by_cases hE : mpE m = 0
    · exact others8_some m d iv ov h hok o ho hg hE
    · exact others8_bad m d iv ov h hok o hg hE

set_option maxRecDepth 100000 in
theorem msgOthers_lifted (os : Os) (started : os.Started) (H : Type) (enc : TypeId × Value → H) :
    ReturnsInHanded {} Try.checked os 5 .any (Rows.msgOthersSpec.pre6 enc Try.prog Try.f5 Rows.msgOthersRow.domain false) (Rows.msgOthersSpec.post enc Try.prog Try.f5 false true false false) := by
  refine returnsInHanded_of_change (C := Try.checked) own started (by kernel_rfl) Try.func5
    (ChangeSpec.witness6 (enc := enc) (C := Try.checked) false ⟨#[], #[.agg #[.int .i64 0, .int .u64 0, .int .u32 0, .slice none 0 0, .int .u32 0, .slice none 0 0, .slice none 0 0], .int .i64 0], []⟩ 8 (by kernel_rfl) (by kernel_rfl) (by kernel_rfl) (by kernel_rfl)) ?_
  intro W base args ds gs before hval0 hW hcnd _
  have hval : ∀ (j : Nat) t v, Try.f5.params[j]? = some t → args[j]? = some v → Value.okWide Try.prog W .any base t v := hval0
  have hW' := hW
  obtain ⟨p, q, hA0, hV, rfl, hfz, hnd⟩ := hW
  have hA : DataW.TrodAll enc Try.prog W 0 (fun _ => true) true Try.f5.params.toList args.toList ds p := hA0
  rw [Try.params5] at hA hval
  obtain ⟨v0, vs0, d0, ds0, p0, q0, hargs, rfl, rfl, h0, r0⟩ := trodAll_cons hA
  obtain ⟨v1, vs1, d1, ds1, p1, q1, rfl, rfl, rfl, h1, r1⟩ := trodAll_cons r0
  obtain ⟨rfl, rfl, rfl⟩ := trodAll_nil r1
  obtain rfl : args = #[v0, v1] := by cases args; simp_all
  obtain ⟨rfl, rfl⟩ := trodVars_none hV
  have k0 := h0
  have lt0 : ∀ x ∈ p0, x.block < W.heap.size := by obtain ⟨m, hm⟩ := k0; exact DataW.trod_lt m _ _ _ hm
  obtain ⟨t0, c0, a0, b0, rfl, s0, w0⟩ := msg_came (fun _ => rfl) (hval 0 30 v0 rfl rfl) h0
  obtain ⟨a1, rfl, rfl, rfl, w1⟩ := open_int Try.underlying3 (hval 1 3 v1 rfl rfl) h1
  clear hA0 hval0
  refine (others8_law (w := W) t0 _ _ _ s0 w0 a1 (int_of_wf w1)).mono fun e W' ⟨he, bel⟩ => ?_
  subst he
  exact ⟨_, rfl, _, _, _, [], _, [], hW', trodAll_mk1 (shut_bool Try.underlying4 _), (trodAll_cons_mk (Below.trod laidOut (by kernel_rfl) (of_decide_eq_true (by kernel_rfl)) k0 bel lt0) (trodAll_cons_mk (shut_int Try.underlying3 w1) trodAll_mk0)), rfl, bel.frame _, fun h => by cases h⟩

theorem msgOthers_holds : Rows.MsgOthersSaid :=
  OpenClaim.holds_of_wide 5 Try.f5 rfl rfl rfl rfl rfl rfl rfl ⟨rfl, rfl, rfl, rfl, rfl⟩ rfl rfl rfl rfl rfl (by kernel_rfl) Try.func5 (by kernel_rfl)
    (of_decide_eq_true (by kernel_rfl)) (by unfold Func.isWrapper; first | (rw [if_pos (by decide +kernel)]; kernel_rfl) | (rw [if_neg (by decide +kernel)]; exact ⟨rfl, rfl⟩))
    (fun os started H enc _ => msgOthers_lifted os started H enc)
#print axioms msgOthers_holds
end Go.Proofs.Ytjmifgdjmaelfab
