/-
  Proved: of every message the law MsgPuts answers true, and its argument reads as it did. Condition: the table of the sum's constants stands, as the card says.
-/
import Derived.Test.YtjmifgdjmaelfaaDoorLawM
import Derived.Test.YtjmifgdjmaelfaaDoorSame
import Derived.Test.YtjmifgdjmaelfaaDoorShaLaw
import Derived.Deep.RegionHeld3
namespace Go.Proofs.YtjmifgdjmaelfaaDoor
open Go.ChangeShapes Go.WideShapes Go.ChangeAt Go.RowKit

/-- A call of a Go function behind a guard that says yes, by its contract. -/
theorem step_goG {P : Program} {ops : Array Oper} {o : Oper} {a : Act} {w : World} {K : Act → World → Prop} {Q : Exit → Act → World → Prop} {E : Prop}
    (hw : Region.wanted o (yielded ops a.tmps) = true) (f : FuncId) (fn : Func) (hf : P.funcs[f]? = some fn) (hn : (fn.name == "runtime.NumGoroutine") = false) (hb : fn.body.isNone = false) (args : Array Operand) (tys : Array TypeId) (hop : o.op = Op.call { callee := .value (.func f), args := args, argTypes := tys })
    {vs : Array Value} (hvs : args.map a.eval = vs) (h : Calls P f vs w fun e w' => ∃ v, e = .returned v ∧ K (a.put o.dst v) w') :
    if Region.wanted o (yielded ops a.tmps) = true then Oper.wp P o a w K Q else E := by
  rw [if_pos hw]
  subst hvs
  have hn' : ¬ fn.name = "runtime.NumGoroutine" := by simpa using hn
  have hb' : ¬ fn.body = none := fun e => by simp [e] at hb
  unfold Oper.wp
  have hrun : (execOp a.eval o).run P w = .ok (.enter f (args.map a.eval)) w := by
    simp [execOp, hop, resolve, invoke, Act.eval, Deferred.ofValue, Result.andThen, callFunc, program, Sem.run, hf, hn', hb']
  rw [hrun, Oper.upon_enter]
  refine h.mono fun e w' hr => ?_
  obtain ⟨v, rfl, hk⟩ := hr
  exact hk
/-- The frame of a message, or nothing. -/
def frF (m : Mg) : List Int := if mpE m = 0 then frameL (strL (mpC m)) (mpB m) else []
theorem mframe_both (m : Mg) (d iv ov : Value) (w : World) (h : MsgAt w d iv ov m) (hok : MgOk m) (hk : Ks w) :
    Calls Tryd.prog 23 #[.agg #[.int .i64 m.kind, .int .u64 m.n, .int .u32 m.code, d, .int .u32 m.tx.ver, iv, ov]] w fun e w' => ∃ v, e = .returned (.tuple #[v, .int .i64 (mpE m)]) ∧ Bytes w' v (frF m) ∧ Below w.heap.size w w' := by
  unfold frF
  by_cases hE : mpE m = 0
  · rw [if_pos hE, hE]
    refine (mframe_good m d iv ov w h hok hk hE).mono ?_
    rintro e w' ⟨a, c, rfl, h1, h2⟩
    exact ⟨_, rfl, h1, h2⟩
  · rw [if_neg hE]
    refine (mframe_bad m d iv ov w h hok hE).mono ?_
    rintro e w' ⟨rfl, h2⟩
    exact ⟨_, rfl, Bytes.nil _, h2⟩
theorem rmframe_both (m : Mg) (d iv ov : Value) (w : World) (h : MsgAt w d iv ov m) (hok : MgOk m) (hil : m.ids.length ≤ 100) :
    Calls Tryd.prog 24 #[.agg #[.int .i64 m.kind, .int .u64 m.n, .int .u32 m.code, d, .int .u32 m.tx.ver, iv, ov]] w fun e w' => ∃ v, e = .returned (.tuple #[v, .int .i64 (mpE m)]) ∧ Bytes w' v (frF m) ∧ Below w.heap.size w w' := by
  unfold frF
  by_cases hE : mpE m = 0
  · rw [if_pos hE, hE]
    refine (rmframe_good m d iv ov w h hok hil hE).mono ?_
    rintro e w' ⟨a, c, rfl, h1, h2⟩
    exact ⟨_, rfl, h1, h2⟩
  · rw [if_neg hE]
    refine (rmframe_bad m d iv ov w h hok hil hE).mono ?_
    rintro e w' ⟨rfl, h2⟩
    exact ⟨_, rfl, Bytes.nil _, h2⟩
set_option maxRecDepth 100000 in
set_option maxHeartbeats 4000000 in
theorem puts8_law {w : World} (hk : Ks w) (m : Mg) (d iv ov : Value) (h : MsgAt w d iv ov m) (hok : MgOk m) :
    Calls Tryd.prog 4 #[.agg #[.int .i64 m.kind, .int .u64 m.n, .int .u32 m.code, d, .int .u32 m.tx.ver, iv, ov]] w fun e w' => e = .returned (.bool true) ∧ Below w.heap.size w w' := by
  have hnew := below_new w (.cells #[.int .i64 m.kind, .int .u64 m.n, .int .u32 m.code, d, .int .u32 m.tx.ver, iv, ov] 51)
  have HT0 := hide (h.on hnew)
  have HB0 := hide hnew
  have HK := hide hk
  have HX0 := hide (MBox.new w (.int .i64 m.kind) (.int .u64 m.n) (.int .u32 m.code) d (.int .u32 m.tx.ver) iv ov 51)
  have GR := hide (fun w (h : MsgAt w d iv ov m) => great8_any m d iv ov w h hok)
  have AL := hide alive8_any
  have P1 := hide (fun w (h : MsgAt w d iv ov m) => mput_is m d iv ov w h hok _ _ _ rfl rfl rfl)
  have HIL : Hid (greatM m = false → m.ids.length ≤ 100) := hide (fun e => by unfold greatM at e; simp at e; omega)
  have P2 : Hid (greatM m = false → ∀ w, MsgAt w d iv ov m → Calls Tryd.prog 22 #[.agg #[.int .i64 m.kind, .int .u64 m.n, .int .u32 m.code, d, .int .u32 m.tx.ver, iv, ov]] w fun e w' => ∃ v', e = .returned (.tuple #[.string (mpC m), v', .int .i64 (mpE m)]) ∧ Bytes w' v' (mpB m) ∧ Below w.heap.size w w') := hide (fun e w h => rmput_any m d iv ov w h hok (HIL.out e))
  have P3 := hide (fun w (h : MsgAt w d iv ov m) (k : Ks w) => mframe_both m d iv ov w h hok k)
  have P4 := hide (fun (e : greatM m = false) w (h : MsgAt w d iv ov m) => rmframe_both m d iv ov w h hok (HIL.out e))
  have SB := hide (fun w v v' (h : Bytes w v (mpB m)) (h' : Bytes w v' (mpB m)) => same_any (mpB m) (mpB m) v v' w h h')
  have SF := hide (fun w v v' (h : Bytes w v (frF m)) (h' : Bytes w v' (frF m)) => same_any (frF m) (frF m) v v' w h h')
  rw [decide_eq_true rfl] at SB SF
  have L1 := hide (fun w => tlane_any m.kind w)
  have L2 := hide (fun w => rlane_any m.kind w)
  obtain ⟨sa, sc, ia, ic, oa, oc, rfl, rfl, rfl⟩ := h.form
  clear hnew h hok hk HIL
  generalize mpB m = B at *
  generalize mpC m = C at *
  generalize mpE m = E at *
  generalize frF m = F at *
  generalize laneK m.kind = lk at *
  generalize greatM m = G at *
  go_enter Tryd.func4, Tryd.ntmps4
  go_upto_region 1 with fail
  generalize w.alloc (.cells #[.int .i64 m.kind, .int .u64 m.n, .int .u32 m.code, .slice sa m.ids.length sc, .int .u32 m.tx.ver, .slice ia m.tx.ins.length ic, .slice oa m.tx.outs.length oc] 51) = W0 at *
  generalize hg : w.heap.size = g at *
  have HG := hide hg
  clear hg
  have HBG : Hid (g ≤ W0.heap.size) := hide (by have := HB0.out.size; have := HG.out; omega)
  go_wp2_with fail
  refine (AL.out _).mono ?_
  rintro e w1 ⟨rfl, hb1⟩
  have HB1 := hide (HB0.out.trans (hb1.mono HBG.out))
  have HBG1 : Hid (g ≤ w1.heap.size) := hide (Nat.le_trans HBG.out hb1.size)
  have HT1 := hide (HT0.out.on hb1)
  have HX1 := hide (HX0.out.on hb1)
  obtain ⟨p0, p1, p2, p3, p4, p5, p6⟩ := HX1.out
  clear hb1 HB0 HT0 HX0 AL HBG
  go_wp2_with fail
  refine (GR.out _ HT1.out).mono ?_
  rintro e w2 ⟨rfl, hb2⟩
  have HB2 := hide (HB1.out.trans (hb2.mono HBG1.out))
  have HBG2 : Hid (g ≤ w2.heap.size) := hide (Nat.le_trans HBG1.out hb2.size)
  have HT2 := hide (HT1.out.on hb2)
  have HX2 := hide (HX1.out.on hb2)
  clear p0 p1 p2 p3 p4 p5 p6
  obtain ⟨p0, p1, p2, p3, p4, p5, p6⟩ := HX2.out
  clear hb2 HB1 HT1 HX1 GR HBG1
  cases G with
  | true =>
    clear HT2 HX2 p0 p1 p2 p3 p4 p5 p6 P1 P2 P3 P4 SB SF L1 L2
    go_wp2
    go_ret
    rw [HG.out]
    exact ⟨rfl, HB2.out⟩
  | false =>
    have Q2 := hide (P2.out rfl)
    have Q4 := hide (P4.out rfl)
    clear P2 P4
    go_wp2_with fail
    refine (P1.out _ HT2.out).mono ?_
    rintro e w3 ⟨pa, pc, rfl, hown3, hb3⟩
    have HB3 := hide (HB2.out.trans (hb3.mono HBG2.out))
    have HBG3 : Hid (g ≤ w3.heap.size) := hide (Nat.le_trans HBG2.out hb3.size)
    have HX3 := hide (HX2.out.on hb3)
    have HT3 := hide (HT2.out.on hb3)
    have HC3 := hide hown3.bytes
    clear p0 p1 p2 p3 p4 p5 p6
    obtain ⟨p0, p1, p2, p3, p4, p5, p6⟩ := HX3.out
    clear hb3 hown3 HB2 HX2 HT2 HBG2 P1
    go_wp2_with fail
    refine (Q2.out _ HT3.out).mono ?_
    rintro e w4 ⟨v4, rfl, hby4, hb4⟩
    obtain ⟨qa, qc, rfl, -, -⟩ := hby4.form
    have HB4 := hide (HB3.out.trans (hb4.mono HBG3.out))
    have HBG4 : Hid (g ≤ w4.heap.size) := hide (Nat.le_trans HBG3.out hb4.size)
    have HX4 := hide (HX3.out.on hb4)
    have HT4 := hide (HT3.out.on hb4)
    have HC4 := hide (HC3.out.below hb4)
    have HD4 := hide hby4
    clear p0 p1 p2 p3 p4 p5 p6
    obtain ⟨p0, p1, p2, p3, p4, p5, p6⟩ := HX4.out
    clear hb4 hby4 HB3 HX3 HT3 HBG3 HC3 Q2
    go_wp2_with fail
    refine (P3.out _ HT4.out (HK.out.on (by rw [HG.out]; exact HB4.out))).mono ?_
    rintro e w5 ⟨v5, rfl, hby5, hb5⟩
    obtain ⟨fa, fc, rfl, -, -⟩ := hby5.form
    have HB5 := hide (HB4.out.trans (hb5.mono HBG4.out))
    have HBG5 : Hid (g ≤ w5.heap.size) := hide (Nat.le_trans HBG4.out hb5.size)
    have HX5 := hide (HX4.out.on hb5)
    have HT5 := hide (HT4.out.on hb5)
    have HC5 := hide (HC4.out.below hb5)
    have HD5 := hide (HD4.out.below hb5)
    have HE5 := hide hby5
    clear p0 p1 p2 p3 p4 p5 p6
    obtain ⟨p0, p1, p2, p3, p4, p5, p6⟩ := HX5.out
    clear hb5 hby5 HB4 HX4 HT4 HBG4 HC4 HD4 P3 HK
    go_wp2_with fail
    refine (Q4.out _ HT5.out).mono ?_
    rintro e w6 ⟨v6, rfl, hby6, hb6⟩
    obtain ⟨ga, gc, rfl, -, -⟩ := hby6.form
    have HB6 := hide (HB5.out.trans (hb6.mono HBG5.out))
    have HX6 := hide (HX5.out.on hb6)
    have HC6 := hide (HC5.out.below hb6)
    have HD6 := hide (HD5.out.below hb6)
    have HE6 := hide (HE5.out.below hb6)
    have HF6 := hide hby6
    have HBG6 : Hid (g ≤ w6.heap.size) := hide (Nat.le_trans HBG5.out hb6.size)
    clear p0 p1 p2 p3 p4 p5 p6
    obtain ⟨p0, p1, p2, p3, p4, p5, p6⟩ := HX6.out
    clear hb6 hby6 HB5 HX5 HT5 HBG5 HC5 HD5 HE5 Q4 p1 p2 p3 p4 p5 p6
    have HCC : Hid (∀ wx, Below w6.heap.size w6 wx → Below w6.heap.size w6 wx ∧ wx.cell? ⟨g, 0, none⟩ = some (.int .i64 m.kind)) := hide (fun wx h => ⟨h, (HX6.out.on h).1⟩)
    go_upto_region 9 with fail
    refine wp_region_held_drew (S := fun wx => Below w6.heap.size w6 wx ∧ wx.cell? ⟨g, 0, none⟩ = some (.int .i64 m.kind)) (by kernel_rfl) (HCC.out _ (Below.refl _ _).drew) (fun hHeld => ?_)
    refine wpAnyH_take (i := 0) (oi := { dst := some 39, op := Op.move (Operand.tmp 3), type := 9, pos := "law.go:48", after := #[], guard := none }) (v := .string C) rfl (by kernel_rfl) (by kernel_rfl) (by kernel_rfl) (fun _ _ _ h => h) (Or.inl ⟨by rfl, fun w _ => by go_simp⟩) (by assumption) ?_
    simp only [Act.put, List.setIfInBounds_toArray, List.set_cons_zero, List.set_cons_succ]
    refine wpAnyH_take (i := 1) (oi := { dst := some 40, op := Op.move (Operand.tmp 6), type := 9, pos := "law.go:48", after := #[], guard := none }) (v := .string C) rfl (by kernel_rfl) (by kernel_rfl) (by kernel_rfl) (fun _ _ _ h => h) (Or.inl ⟨by rfl, fun w _ => by go_simp⟩) (by assumption) ?_
    simp only [Act.put, List.setIfInBounds_toArray, List.set_cons_zero, List.set_cons_succ]
    refine wpAnyH_take (i := 2) (oi := { dst := some 41, op := Op.binOp BinOp.eql 9 (Operand.tmp 39) (Operand.tmp 40) 9, type := 4, pos := "law.go:48", after := #[{ on := 0, ground := Ground.data }, { on := 1, ground := Ground.data }], guard := none }) (v := .bool true) rfl (by kernel_rfl) (by kernel_rfl) (by kernel_rfl) (fun _ _ _ h => h) (Or.inl ⟨by rfl, fun w _ => by go_simp⟩) (by assumption) ?_
    simp only [Act.put, List.setIfInBounds_toArray, List.set_cons_zero, List.set_cons_succ]
    refine wpAnyH_take (i := 3) (oi := { dst := some 42, op := Op.move (Operand.tmp 41), type := 4, pos := "law.go:48", after := #[{ on := 2, ground := Ground.data }], guard := none }) (v := .bool true) rfl (by kernel_rfl) (by kernel_rfl) (by kernel_rfl) (fun _ _ _ h => h) (Or.inl ⟨by rfl, fun w _ => by go_simp⟩) (by assumption) ?_
    simp only [Act.put, List.setIfInBounds_toArray, List.set_cons_zero, List.set_cons_succ]
    refine wpAnyH_take (i := 4) (oi := { dst := some 43, op := Op.move (Operand.tmp 4), type := 29, pos := "law.go:48", after := #[{ on := 3, ground := Ground.guard }], guard := some (3, true) }) (v := .slice pa B.length pc) rfl (by kernel_rfl) (by kernel_rfl) (by kernel_rfl) (fun _ _ _ h => h) (Or.inl ⟨by rfl, fun w _ => by go_simp⟩) (by assumption) ?_
    simp only [Act.put, List.setIfInBounds_toArray, List.set_cons_zero, List.set_cons_succ]
    refine wpAnyH_take (i := 5) (oi := { dst := some 44, op := Op.move (Operand.tmp 7), type := 29, pos := "law.go:48", after := #[{ on := 3, ground := Ground.guard }], guard := some (3, true) }) (v := .slice qa B.length qc) rfl (by kernel_rfl) (by kernel_rfl) (by kernel_rfl) (fun _ _ _ h => h) (Or.inl ⟨by rfl, fun w _ => by go_simp⟩) (by assumption) ?_
    simp only [Act.put, List.setIfInBounds_toArray, List.set_cons_zero, List.set_cons_succ]
    refine wpAnyH_ready (rs := [6]) (by kernel_rfl) (by simp) (AllReadyH.cons (o := { dst := some 45, op := Op.call { callee := Callee.value (Operand.func 17), args := #[Operand.tmp 43, Operand.tmp 44], argTypes := #[29, 29] }, type := 4, pos := "law.go:48", after := #[{ on := 4, ground := Ground.data }, { on := 5, ground := Ground.data }, { on := 3, ground := Ground.chain }, { on := 3, ground := Ground.guard }], guard := some (3, true) }) rfl (fun K hK => ?_) AllReadyH.nil)
    refine step_goG (vs := #[.slice pa B.length pc, .slice qa B.length qc]) (by rfl) 17 _ Tryd.func17 (by kernel_rfl) (by kernel_rfl) _ _ rfl (by first | rfl | (simp [Act.eval]; done) | (simp [Act.put]; done)) ?_
    refine (SB.out _ _ _ (HC6.out.below (Below.refl _ _).drew) (HD6.out.below (Below.refl _ _).drew)).mono ?_
    rintro e w7 ⟨rfl, nn, rfl⟩
    refine ⟨_, rfl, ?_⟩
    have hb7 : Below w6.heap.size w6 (w6.drew.drewN nn) := below_on (Below.refl _ _).drew (below_drewN (Below.refl _ _) _)
    generalize w6.drew.drewN nn = w7 at *
    refine hK.out _ _ ?_ (fun hHeld => ?_)
    · exact HCC.out _ hb7
    clear hK K
    try simp only [Act.put, List.setIfInBounds_toArray, List.set_cons_zero, List.set_cons_succ]
    refine wpAnyH_take (i := 7) (oi := { dst := some 46, op := Op.pick (Operand.tmp 42) (Operand.tmp 45) (Operand.const (Value.bool false)), type := 4, pos := "law.go:48", after := #[{ on := 3, ground := Ground.data }, { on := 6, ground := Ground.data }], guard := none }) (v := .bool true) rfl (by kernel_rfl) (by kernel_rfl) (by kernel_rfl) (fun _ _ _ h => h) (Or.inl ⟨by rfl, fun w _ => by go_simp⟩) (by assumption) ?_
    simp only [Act.put, List.setIfInBounds_toArray, List.set_cons_zero, List.set_cons_succ]
    refine wpAnyH_take (i := 8) (oi := { dst := some 47, op := Op.move (Operand.tmp 46), type := 4, pos := "law.go:48", after := #[{ on := 7, ground := Ground.data }, { on := 6, ground := Ground.chain }], guard := none }) (v := .bool true) rfl (by kernel_rfl) (by kernel_rfl) (by kernel_rfl) (fun _ _ _ h => h) (Or.inl ⟨by rfl, fun w _ => by go_simp⟩) (by assumption) ?_
    simp only [Act.put, List.setIfInBounds_toArray, List.set_cons_zero, List.set_cons_succ]
    refine wpAnyH_take (i := 9) (oi := { dst := some 48, op := Op.move (Operand.tmp 5), type := 30, pos := "law.go:48", after := #[{ on := 8, ground := Ground.guard }], guard := some (8, true) }) (v := .int .i64 E) rfl (by kernel_rfl) (by kernel_rfl) (by kernel_rfl) (fun _ _ _ h => h) (Or.inl ⟨by rfl, fun w _ => by go_simp⟩) (by assumption) ?_
    simp only [Act.put, List.setIfInBounds_toArray, List.set_cons_zero, List.set_cons_succ]
    refine wpAnyH_take (i := 10) (oi := { dst := some 49, op := Op.move (Operand.tmp 8), type := 30, pos := "law.go:48", after := #[{ on := 8, ground := Ground.guard }], guard := some (8, true) }) (v := .int .i64 E) rfl (by kernel_rfl) (by kernel_rfl) (by kernel_rfl) (fun _ _ _ h => h) (Or.inl ⟨by rfl, fun w _ => by go_simp⟩) (by assumption) ?_
    simp only [Act.put, List.setIfInBounds_toArray, List.set_cons_zero, List.set_cons_succ]
    refine wpAnyH_take (i := 11) (oi := { dst := some 50, op := Op.binOp BinOp.eql 30 (Operand.tmp 48) (Operand.tmp 49) 30, type := 4, pos := "law.go:48", after := #[{ on := 9, ground := Ground.data }, { on := 10, ground := Ground.data }, { on := 8, ground := Ground.guard }], guard := some (8, true) }) (v := .bool true) rfl (by kernel_rfl) (by kernel_rfl) (by kernel_rfl) (fun _ _ _ h => h) (Or.inl ⟨by rfl, fun w _ => by go_simp⟩) (by assumption) ?_
    simp only [Act.put, List.setIfInBounds_toArray, List.set_cons_zero, List.set_cons_succ]
    refine wpAnyH_take (i := 12) (oi := { dst := some 51, op := Op.pick (Operand.tmp 47) (Operand.tmp 50) (Operand.const (Value.bool false)), type := 4, pos := "law.go:48", after := #[{ on := 8, ground := Ground.data }, { on := 11, ground := Ground.data }], guard := none }) (v := .bool true) rfl (by kernel_rfl) (by kernel_rfl) (by kernel_rfl) (fun _ _ _ h => h) (Or.inl ⟨by rfl, fun w _ => by go_simp⟩) (by assumption) ?_
    simp only [Act.put, List.setIfInBounds_toArray, List.set_cons_zero, List.set_cons_succ]
    refine wpAnyH_take (i := 13) (oi := { dst := some 52, op := Op.move (Operand.tmp 51), type := 4, pos := "law.go:48", after := #[{ on := 12, ground := Ground.data }, { on := 8, ground := Ground.chain }], guard := none }) (v := .bool true) rfl (by kernel_rfl) (by kernel_rfl) (by kernel_rfl) (fun _ _ _ h => h) (Or.inl ⟨by rfl, fun w _ => by go_simp⟩) (by assumption) ?_
    simp only [Act.put, List.setIfInBounds_toArray, List.set_cons_zero, List.set_cons_succ]
    refine wpAnyH_take (i := 14) (oi := { dst := some 53, op := Op.move (Operand.tmp 9), type := 29, pos := "law.go:48", after := #[{ on := 13, ground := Ground.guard }], guard := some (13, true) }) (v := .slice fa F.length fc) rfl (by kernel_rfl) (by kernel_rfl) (by kernel_rfl) (fun _ _ _ h => h) (Or.inl ⟨by rfl, fun w _ => by go_simp⟩) (by assumption) ?_
    simp only [Act.put, List.setIfInBounds_toArray, List.set_cons_zero, List.set_cons_succ]
    refine wpAnyH_take (i := 15) (oi := { dst := some 54, op := Op.move (Operand.tmp 11), type := 29, pos := "law.go:48", after := #[{ on := 13, ground := Ground.guard }], guard := some (13, true) }) (v := .slice ga F.length gc) rfl (by kernel_rfl) (by kernel_rfl) (by kernel_rfl) (fun _ _ _ h => h) (Or.inl ⟨by rfl, fun w _ => by go_simp⟩) (by assumption) ?_
    simp only [Act.put, List.setIfInBounds_toArray, List.set_cons_zero, List.set_cons_succ]
    refine wpAnyH_ready (rs := [16]) (by kernel_rfl) (by simp) (AllReadyH.cons (o := { dst := some 55, op := Op.call { callee := Callee.value (Operand.func 17), args := #[Operand.tmp 53, Operand.tmp 54], argTypes := #[29, 29] }, type := 4, pos := "law.go:48", after := #[{ on := 14, ground := Ground.data }, { on := 15, ground := Ground.data }, { on := 13, ground := Ground.chain }, { on := 13, ground := Ground.guard }], guard := some (13, true) }) rfl (fun K hK => ?_) AllReadyH.nil)
    refine step_goG (vs := #[.slice fa F.length fc, .slice ga F.length gc]) (by rfl) 17 _ Tryd.func17 (by kernel_rfl) (by kernel_rfl) _ _ rfl (by first | rfl | (simp [Act.eval]; done) | (simp [Act.put]; done)) ?_
    refine (SF.out _ _ _ (HE6.out.below hb7) (HF6.out.below hb7)).mono ?_
    rintro e w8 ⟨rfl, nn, rfl⟩
    refine ⟨_, rfl, ?_⟩
    have hb8 : Below w6.heap.size w6 (w7.drewN nn) := below_on hb7 (below_drewN (Below.refl _ _) _)
    have R := hide (HB6.out.trans (hb8.mono HBG6.out))
    generalize w7.drewN nn = w8 at *
    refine hK.out _ _ ?_ (fun hHeld => ?_)
    · exact HCC.out _ hb8
    clear hK K
    try simp only [Act.put, List.setIfInBounds_toArray, List.set_cons_zero, List.set_cons_succ]
    refine wpAnyH_take (i := 17) (oi := { dst := some 56, op := Op.pick (Operand.tmp 52) (Operand.tmp 55) (Operand.const (Value.bool false)), type := 4, pos := "law.go:48", after := #[{ on := 13, ground := Ground.data }, { on := 16, ground := Ground.data }], guard := none }) (v := .bool true) rfl (by kernel_rfl) (by kernel_rfl) (by kernel_rfl) (fun _ _ _ h => h) (Or.inl ⟨by rfl, fun w _ => by go_simp⟩) (by assumption) ?_
    simp only [Act.put, List.setIfInBounds_toArray, List.set_cons_zero, List.set_cons_succ]
    refine wpAnyH_take (i := 18) (oi := { dst := some 57, op := Op.move (Operand.tmp 56), type := 4, pos := "law.go:48", after := #[{ on := 17, ground := Ground.data }, { on := 16, ground := Ground.chain }], guard := none }) (v := .bool true) rfl (by kernel_rfl) (by kernel_rfl) (by kernel_rfl) (fun _ _ _ h => h) (Or.inl ⟨by rfl, fun w _ => by go_simp⟩) (by assumption) ?_
    simp only [Act.put, List.setIfInBounds_toArray, List.set_cons_zero, List.set_cons_succ]
    refine wpAnyH_take (i := 19) (oi := { dst := some 58, op := Op.move (Operand.tmp 10), type := 30, pos := "law.go:48", after := #[{ on := 18, ground := Ground.guard }], guard := some (18, true) }) (v := .int .i64 E) rfl (by kernel_rfl) (by kernel_rfl) (by kernel_rfl) (fun _ _ _ h => h) (Or.inl ⟨by rfl, fun w _ => by go_simp⟩) (by assumption) ?_
    simp only [Act.put, List.setIfInBounds_toArray, List.set_cons_zero, List.set_cons_succ]
    refine wpAnyH_take (i := 20) (oi := { dst := some 59, op := Op.move (Operand.tmp 12), type := 30, pos := "law.go:48", after := #[{ on := 18, ground := Ground.guard }], guard := some (18, true) }) (v := .int .i64 E) rfl (by kernel_rfl) (by kernel_rfl) (by kernel_rfl) (fun _ _ _ h => h) (Or.inl ⟨by rfl, fun w _ => by go_simp⟩) (by assumption) ?_
    simp only [Act.put, List.setIfInBounds_toArray, List.set_cons_zero, List.set_cons_succ]
    refine wpAnyH_take (i := 21) (oi := { dst := some 60, op := Op.binOp BinOp.eql 30 (Operand.tmp 58) (Operand.tmp 59) 30, type := 4, pos := "law.go:48", after := #[{ on := 19, ground := Ground.data }, { on := 20, ground := Ground.data }, { on := 18, ground := Ground.guard }], guard := some (18, true) }) (v := .bool true) rfl (by kernel_rfl) (by kernel_rfl) (by kernel_rfl) (fun _ _ _ h => h) (Or.inl ⟨by rfl, fun w _ => by go_simp⟩) (by assumption) ?_
    simp only [Act.put, List.setIfInBounds_toArray, List.set_cons_zero, List.set_cons_succ]
    refine wpAnyH_take (i := 22) (oi := { dst := some 61, op := Op.pick (Operand.tmp 57) (Operand.tmp 60) (Operand.const (Value.bool false)), type := 4, pos := "law.go:48", after := #[{ on := 18, ground := Ground.data }, { on := 21, ground := Ground.data }], guard := none }) (v := .bool true) rfl (by kernel_rfl) (by kernel_rfl) (by kernel_rfl) (fun _ _ _ h => h) (Or.inl ⟨by rfl, fun w _ => by go_simp⟩) (by assumption) ?_
    simp only [Act.put, List.setIfInBounds_toArray, List.set_cons_zero, List.set_cons_succ]
    refine wpAnyH_take (i := 23) (oi := { dst := some 62, op := Op.move (Operand.tmp 61), type := 4, pos := "law.go:48", after := #[{ on := 22, ground := Ground.data }, { on := 18, ground := Ground.chain }], guard := none }) (v := .bool true) rfl (by kernel_rfl) (by kernel_rfl) (by kernel_rfl) (fun _ _ _ h => h) (Or.inl ⟨by rfl, fun w _ => by go_simp⟩) (by assumption) ?_
    simp only [Act.put, List.setIfInBounds_toArray, List.set_cons_zero, List.set_cons_succ]
    refine wpAnyH_take (i := 24) (oi := { dst := some 63, op := Op.fieldAddr 51 (Operand.tmp 1) 0, type := 0, pos := "law.go:48", after := #[{ on := 23, ground := Ground.guard }], guard := some (23, true) }) (v := .pointer (some ⟨g, 0, none⟩)) rfl (by kernel_rfl) (by kernel_rfl) (by kernel_rfl) (fun _ _ _ h => h) (Or.inl ⟨by rfl, fun w _ => by go_simp⟩) (by assumption) ?_
    simp only [Act.put, List.setIfInBounds_toArray, List.set_cons_zero, List.set_cons_succ]
    refine wpAnyH_take (i := 25) (oi := { dst := some 64, op := Op.load 3 (Operand.tmp 63), type := 3, pos := "law.go:48", after := #[{ on := 24, ground := Ground.data }, { on := 23, ground := Ground.guard }], guard := some (23, true) }) (v := .int .i64 m.kind) rfl (by kernel_rfl) (by kernel_rfl) (by kernel_rfl) (fun _ _ _ h => h) (Or.inl ⟨by rfl, fun wx h => by obtain ⟨-, h2⟩ := h; go_simp⟩) (by assumption) ?_
    simp only [Act.put, List.setIfInBounds_toArray, List.set_cons_zero, List.set_cons_succ]
    refine wpAnyH_take (i := 27) (oi := { dst := some 66, op := Op.fieldAddr 51 (Operand.tmp 1) 0, type := 0, pos := "law.go:48", after := #[{ on := 23, ground := Ground.guard }], guard := some (23, true) }) (v := .pointer (some ⟨g, 0, none⟩)) rfl (by kernel_rfl) (by kernel_rfl) (by kernel_rfl) (fun _ _ _ h => h) (Or.inl ⟨by rfl, fun w _ => by go_simp⟩) (by assumption) ?_
    simp only [Act.put, List.setIfInBounds_toArray, List.set_cons_zero, List.set_cons_succ]
    refine wpAnyH_take (i := 28) (oi := { dst := some 67, op := Op.load 3 (Operand.tmp 66), type := 3, pos := "law.go:48", after := #[{ on := 27, ground := Ground.data }, { on := 23, ground := Ground.guard }], guard := some (23, true) }) (v := .int .i64 m.kind) rfl (by kernel_rfl) (by kernel_rfl) (by kernel_rfl) (fun _ _ _ h => h) (Or.inl ⟨by rfl, fun wx h => by obtain ⟨-, h2⟩ := h; go_simp⟩) (by assumption) ?_
    simp only [Act.put, List.setIfInBounds_toArray, List.set_cons_zero, List.set_cons_succ]
    refine wpAnyH_ready (rs := [26]) (by kernel_rfl) (by simp) (AllReadyH.cons (o := { dst := some 65, op := Op.call { callee := Callee.value (Operand.func 25), args := #[Operand.tmp 64], argTypes := #[3] }, type := 3, pos := "law.go:48", after := #[{ on := 25, ground := Ground.data }, { on := 23, ground := Ground.chain }, { on := 23, ground := Ground.guard }], guard := some (23, true) }) rfl (fun K hK => ?_) AllReadyH.nil)
    refine step_goG (vs := #[.int .i64 m.kind]) (by rfl) 25 _ Tryd.func25 (by kernel_rfl) (by kernel_rfl) _ _ rfl (by first | rfl | (simp [Act.eval]; done) | (simp [Act.put]; done)) ?_
    refine (L1.out _).mono ?_
    rintro e w9 ⟨rfl, hw9⟩
    rw [hw9]
    clear hw9
    refine ⟨_, rfl, ?_⟩
    refine hK.out _ _ ?_ (fun hHeld => ?_)
    · exact HCC.out _ hb8
    clear hK K
    try simp only [Act.put, List.setIfInBounds_toArray, List.set_cons_zero, List.set_cons_succ]
    refine wpAnyH_ready (rs := [29]) (by kernel_rfl) (by simp) (AllReadyH.cons (o := { dst := some 68, op := Op.call { callee := Callee.value (Operand.func 26), args := #[Operand.tmp 67], argTypes := #[3] }, type := 3, pos := "law.go:48", after := #[{ on := 28, ground := Ground.data }, { on := 26, ground := Ground.chain }, { on := 23, ground := Ground.guard }], guard := some (23, true) }) rfl (fun K hK => ?_) AllReadyH.nil)
    refine step_goG (vs := #[.int .i64 m.kind]) (by rfl) 26 _ Tryd.func26 (by kernel_rfl) (by kernel_rfl) _ _ rfl (by first | rfl | (simp [Act.eval]; done) | (simp [Act.put]; done)) ?_
    refine (L2.out _).mono ?_
    rintro e w9 ⟨rfl, hw9⟩
    rw [hw9]
    clear hw9
    refine ⟨_, rfl, ?_⟩
    refine hK.out _ _ ?_ (fun hHeld => ?_)
    · exact HCC.out _ hb8
    clear hK K
    try simp only [Act.put, List.setIfInBounds_toArray, List.set_cons_zero, List.set_cons_succ]
    refine wpAnyH_take (i := 30) (oi := { dst := some 69, op := Op.binOp BinOp.eql 3 (Operand.tmp 65) (Operand.tmp 68) 3, type := 4, pos := "law.go:48", after := #[{ on := 26, ground := Ground.data }, { on := 29, ground := Ground.data }, { on := 23, ground := Ground.guard }], guard := some (23, true) }) (v := .bool true) rfl (by kernel_rfl) (by kernel_rfl) (by kernel_rfl) (fun _ _ _ h => h) (Or.inl ⟨by rfl, fun w _ => by go_simp⟩) (by assumption) ?_
    simp only [Act.put, List.setIfInBounds_toArray, List.set_cons_zero, List.set_cons_succ]
    refine wpAnyH_take (i := 31) (oi := { dst := some 70, op := Op.pick (Operand.tmp 62) (Operand.tmp 69) (Operand.const (Value.bool false)), type := 4, pos := "law.go:48", after := #[{ on := 23, ground := Ground.data }, { on := 30, ground := Ground.data }], guard := none }) (v := .bool true) rfl (by kernel_rfl) (by kernel_rfl) (by kernel_rfl) (fun _ _ _ h => h) (Or.inl ⟨by rfl, fun w _ => by go_simp⟩) (by assumption) ?_
    simp only [Act.put, List.setIfInBounds_toArray, List.set_cons_zero, List.set_cons_succ]
    refine wpAnyH_ready (rs := [32]) (by kernel_rfl) (by simp) (AllReadyH.cons (o := { dst := some 2, op := Op.assign (Operand.tmp 70), type := 4, pos := "law.go:48", after := #[{ on := 31, ground := Ground.data }, { on := 29, ground := Ground.chain }, { on := 0, ground := Ground.phase }, { on := 1, ground := Ground.phase }, { on := 2, ground := Ground.phase }, { on := 3, ground := Ground.phase }, { on := 4, ground := Ground.phase }, { on := 5, ground := Ground.phase }, { on := 6, ground := Ground.phase }, { on := 7, ground := Ground.phase }, { on := 8, ground := Ground.phase }, { on := 9, ground := Ground.phase }, { on := 10, ground := Ground.phase }, { on := 11, ground := Ground.phase }, { on := 12, ground := Ground.phase }, { on := 13, ground := Ground.phase }, { on := 14, ground := Ground.phase }, { on := 15, ground := Ground.phase }, { on := 16, ground := Ground.phase }, { on := 17, ground := Ground.phase }, { on := 18, ground := Ground.phase }, { on := 19, ground := Ground.phase }, { on := 20, ground := Ground.phase }, { on := 21, ground := Ground.phase }, { on := 22, ground := Ground.phase }, { on := 23, ground := Ground.phase }, { on := 24, ground := Ground.phase }, { on := 25, ground := Ground.phase }, { on := 26, ground := Ground.phase }, { on := 27, ground := Ground.phase }, { on := 28, ground := Ground.phase }, { on := 29, ground := Ground.phase }, { on := 30, ground := Ground.phase }, { on := 31, ground := Ground.phase }], guard := none }) rfl (fun K hK => ?_) AllReadyH.nil)
    go_simp
    refine hK.out _ _ ?_ (fun hHeld => ?_)
    · exact HCC.out _ hb8
    clear hK K
    try simp only [Act.put, List.setIfInBounds_toArray, List.set_cons_zero, List.set_cons_succ]
    refine wpAnyH_done (by kernel_rfl) ?_ _
    clear hHeld
    go_wp2
    go_ret
    rw [HG.out]
    exact ⟨rfl, R.out⟩

set_option maxRecDepth 100000 in
theorem msgPuts_lifted (os : Os) (started : os.Started) (H : Type) (enc : TypeId × Value → H) :
    ReturnsInHanded {} Tryd.checked os 4 .any (fun w args => (Rows.msgPutsSpec.pre enc Tryd.prog Tryd.f4 [] false w args ∧ laidMetH Tryd.prog laid1 w) ∧ sizedMet enc Tryd.prog Tryd.f4 (OpenSpec.ofChange Rows.msgPutsSpec) false w args)
      (Rows.msgPutsSpec.post enc Tryd.prog Tryd.f4 false true false false) := by
  refine returnsInHanded_of_change_and (C := Tryd.checked) (X := fun w _ => laidMetH Tryd.prog laid1 w) (fun _ _ _ hh h => h.of_heap hh) own started (by kernel_rfl) Tryd.func4
    (ChangeSpec.witness_shaped (enc := enc) (C := Tryd.checked) (os := os) (X := fun w _ => laidMetH Tryd.prog laid1 w) false (World.doorLaid Tryd.prog 14 os) #[.agg #[.int .i64 0, .int .u64 0, .int .u32 0, .slice none 0 0, .int .u32 0, .slice none 0 0, .slice none 0 0]] 8 rfl (World.shaped_of_RefB (by kernel_rfl) (by kernel_rfl)) (by kernel_rfl) (by kernel_rfl) (by kernel_rfl) (door_met os _)) ?_
  intro W base args ds gs before hval0 hW _ _ hL _
  have hval : ∀ (j : Nat) t v, Tryd.f4.params[j]? = some t → args[j]? = some v → Value.okWide Tryd.prog W .any base t v := hval0
  have hW' := hW
  obtain ⟨p, q, hA0, hV, rfl, hfz, hnd⟩ := hW
  have hA : DataW.TrodAll enc Tryd.prog W 0 (fun _ => true) true Tryd.f4.params.toList args.toList ds p := hA0
  rw [Tryd.params4] at hA hval
  obtain ⟨v0, vs0, d0, ds0, p0, q0, hargs, rfl, rfl, h0, r0⟩ := trodAll_cons hA
  obtain ⟨rfl, rfl, rfl⟩ := trodAll_nil r0
  obtain rfl : args = #[v0] := by cases args; simp_all
  obtain ⟨rfl, rfl⟩ := trodVars_none hV
  have k0 := h0
  have lt0 : ∀ x ∈ p0, x.block < W.heap.size := by obtain ⟨m, hm⟩ := k0; exact DataW.trod_lt m _ _ _ hm
  obtain ⟨t0, c0, a0, b0, rfl, s0, w0⟩ := msg_came (fun _ => rfl) (hval 0 51 v0 rfl rfl) h0
  clear hA0 hval0
  refine (puts8_law (w := W) (ks_of_laid hL) t0 _ _ _ s0 w0).mono fun e W' ⟨he, bel⟩ => ?_
  subst he
  exact ⟨_, rfl, _, _, _, [], _, [], hW', trodAll_mk1 (shut_bool Tryd.underlying4 _), (trodAll_cons_mk (Below.trod laidOut (by kernel_rfl) (of_decide_eq_true (by kernel_rfl)) k0 bel lt0) trodAll_mk0), rfl, bel.frame _, fun h => by cases h⟩

theorem msgPuts_holds : Rows.MsgPutsSaid :=
  OpenClaim.holds_of_wide 4 Tryd.f4 rfl rfl rfl rfl rfl rfl rfl ⟨rfl, rfl, rfl, rfl, rfl⟩ rfl rfl rfl rfl rfl (by kernel_rfl) Tryd.func4 (by kernel_rfl)
    (of_decide_eq_true (by kernel_rfl)) (by unfold Func.isWrapper; first | (rw [if_pos (by decide +kernel)]; kernel_rfl) | (rw [if_neg (by decide +kernel)]; exact ⟨rfl, rfl⟩))
    (fun os started H enc _ => msgPuts_lifted os started H enc)
#print axioms msgPuts_holds
theorem msgPuts_card : Rows.MsgPutsCardSaid :=
  Claim7.holds_tied_plain_at .later [] [.data] true (true, "63be98b54df91c1c028f7b4859c0b799133b80b53fe4d0969b7298db3922ae6f") false
    msgPuts_holds (fun _ h => by cases h) (by kernel_rfl) (fun _ h => by cases h) msgPuts_row_tie rfl ⟨rfl, rfl⟩ (by kernel_rfl) rfl
    (fun f fn hf hfn => by
      obtain rfl : f = 4 := Option.some.inj ((show Tryd.prog.funcNamed "pappus/pappuslaw08.MsgPuts" = some 4 by kernel_rfl).symm.trans hf) |>.symm
      obtain rfl : fn = Tryd.f4 := (Option.some.inj (Tryd.func4.symm.trans hfn)).symm
      exact ⟨by kernel_rfl, fun j t ht => by
        rw [Tryd.params4] at ht
        have hm : t ∈ [51] := by simpa using Array.mem_of_getElem? ht
        have hall : ([51].all fun u => !Tryd.prog.wantsStandIn u) = true := by kernel_rfl
        exact (show Tryd.prog.wantsStandIn t = false by simpa using List.all_eq_true.1 hall t hm)⟩)
    (by kernel_rfl)
#print axioms msgPuts_card
end Go.Proofs.YtjmifgdjmaelfaaDoor
