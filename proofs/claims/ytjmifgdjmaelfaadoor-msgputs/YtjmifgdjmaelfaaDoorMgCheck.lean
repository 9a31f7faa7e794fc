/-
  What a shape's covers and check answer at this program, whatever the message.
-/
import Derived.Test.YtjmifgdjmaelfaaDoorMgW
import Derived.Test.YtjmifgdjmaelfaaDoorTxSam
namespace Go.Proofs.YtjmifgdjmaelfaaDoor
open Go.RowKit

theorem noTr_ok : TrOk noTr := ⟨⟨by decide, by decide⟩, fun _ h => (by cases h), fun _ h => by cases h⟩
set_option maxRecDepth 100000 in
set_option maxHeartbeats 1000000 in
theorem covers_any (s : Shp) (m : Mg) (d iv ov : Value) (w : World) (h : MsgAt w d iv ov m) (hok : MgOk m) :
    Calls Tryd.prog 74 #[.agg #[.string s.cmd, .int .i64 s.maxIds, .int .i64 s.codeLen, .int .u32 s.maxCode, .int .i64 s.nLen, .bool s.hasTx], .agg #[.int .i64 m.kind, .int .u64 m.n, .int .u32 m.code, d, .int .u32 m.tx.ver, iv, ov]] w
      fun e w' => e = .returned (.bool (coversB s m)) ∧ Below w.heap.size w w' := by
  have b2 := below_on (below_new w (.cells #[.string s.cmd, .int .i64 s.maxIds, .int .i64 s.codeLen, .int .u32 s.maxCode, .int .i64 s.nLen, .bool s.hasTx] 82)) (below_new _ (.cells #[.int .i64 m.kind, .int .u64 m.n, .int .u32 m.code, d, .int .u32 m.tx.ver, iv, ov] 51))
  have HS := hide ((SBox.new w s 82).on (below_new _ (.cells #[.int .i64 m.kind, .int .u64 m.n, .int .u32 m.code, d, .int .u32 m.tx.ver, iv, ov] 51)))
  have hy := MBox.new (w.alloc (.cells #[.string s.cmd, .int .i64 s.maxIds, .int .i64 s.codeLen, .int .u32 s.maxCode, .int .i64 s.nLen, .bool s.hasTx] 82)) (.int .i64 m.kind) (.int .u64 m.n) (.int .u32 m.code) d (.int .u32 m.tx.ver) iv ov 51
  rw [alloc_size] at hy
  have HM := hide hy
  have HB := hide b2
  have HT := hide (h.on b2)
  have TS := hide (fun w (h : TxAt w iv ov m.tx) => tsame_any m.tx noTr iv ov (.slice none 0 0) (.slice none 0 0) w h (TxAt.none w) hok.2.2.2.2 noTr_ok (bareB m.tx) (bareB_iff _))
  obtain ⟨sa, sc, ia, ic, oa, oc, rfl, rfl, rfl⟩ := h.form
  have HC : Hid (coversB s m = (!(decide (s.maxIds = 0) && decide (0 < m.ids.length)) && !(decide (s.codeLen = 0) && decide (m.code ≠ 0)) && !(decide (s.nLen = 0) && decide (m.n ≠ 0)) && (s.hasTx || bareB m.tx))) := hide rfl
  clear b2 hy h hok
  go_enter Tryd.func74, Tryd.ntmps74
  go_upto_region 1 with fail
  generalize (w.alloc (.cells #[.string s.cmd, .int .i64 s.maxIds, .int .i64 s.codeLen, .int .u32 s.maxCode, .int .i64 s.nLen, .bool s.hasTx] 82)).alloc (.cells #[.int .i64 m.kind, .int .u64 m.n, .int .u32 m.code, .slice sa m.ids.length sc, .int .u32 m.tx.ver, .slice ia m.tx.ins.length ic, .slice oa m.tx.outs.length oc] 51) = W at *
  generalize hg : w.heap.size = g at *
  have HG := hide hg
  clear hg
  obtain ⟨p0, p1, p2, p3, p4, p5, p6⟩ := HM.out
  obtain ⟨q0, q1, q2, q3, q4, q5⟩ := HS.out
  obtain ⟨cmd, mi, cl, mc, nl, tx⟩ := s
  simp only at *
  generalize m.ids.length = il at *
  generalize m.code = c at *
  generalize m.n = n at *
  have arm : ∀ {B : Bool}, coversB ⟨cmd, mi, cl, mc, nl, tx⟩ m = B → Below g w W → (Ending.returned (.bool B) = Ending.returned (.bool (coversB ⟨cmd, mi, cl, mc, nl, tx⟩ m)) ∧ Below g w W) := fun h1 h2 => ⟨by rw [h1], h2⟩
  by_cases h1 : mi = 0 ∧ 0 < il
  · have HF : Hid (coversB ⟨cmd, mi, cl, mc, nl, tx⟩ m = false) := hide (by rw [HC.out, decide_eq_true h1.1, decide_eq_true h1.2]; rfl)
    have e1 : (mi : Int) = 0 := by omega
    have e2 : (0 : Int) < (il : Int) := by omega
    clear HC TS HT HM HS h1 arm
    go_wp2
    go_ret
    rw [HG.out]
    exact ⟨by rw [HF.out]; rfl, HB.out⟩
  · by_cases h2 : cl = 0 ∧ c ≠ 0
    · have HF : Hid (coversB ⟨cmd, mi, cl, mc, nl, tx⟩ m = false) := hide (by rw [HC.out, decide_eq_true h2.1, decide_eq_true h2.2]; simp)
      have e3 : (cl : Int) = 0 := by omega
      have e4 := h2.2
      clear HC TS HT HM HS h2 arm
      by_cases e1 : (mi : Int) = 0
      · have e2 : ¬ (0 : Int) < (il : Int) := by omega
        clear h1
        go_wp2
        go_ret
        rw [HG.out]
        exact ⟨by rw [HF.out]; rfl, HB.out⟩
      · clear h1
        go_wp2
        go_ret
        rw [HG.out]
        exact ⟨by rw [HF.out]; rfl, HB.out⟩
    · by_cases h3 : nl = 0 ∧ n ≠ 0
      · have HF : Hid (coversB ⟨cmd, mi, cl, mc, nl, tx⟩ m = false) := hide (by rw [HC.out, decide_eq_true h3.1, decide_eq_true h3.2]; simp)
        have e5 : (nl : Int) = 0 := by omega
        have e6 := h3.2
        have g1 : ((mi : Int) = 0 ∧ ¬ (0 : Int) < (il : Int)) ∨ ¬ (mi : Int) = 0 := by omega
        have g2 : ((cl : Int) = 0 ∧ c = 0) ∨ ¬ (cl : Int) = 0 := by omega
        clear HC TS HT HM HS h1 h2 h3 arm
        rcases g1 with ⟨a1, a2⟩ | a1 <;> rcases g2 with ⟨b1, b2⟩ | b1
        all_goals
          go_wp2
          go_ret
          rw [HG.out]
          exact ⟨by rw [HF.out]; rfl, HB.out⟩
      · have HF : Hid (coversB ⟨cmd, mi, cl, mc, nl, tx⟩ m = (tx || bareB m.tx)) := hide (by
          rw [HC.out]
          have k1 : (decide (mi = 0) && decide (0 < il)) = false := by simpa using h1
          have k2 : (decide (cl = 0) && decide (c ≠ 0)) = false := by simpa using h2
          have k3 : (decide (nl = 0) && decide (n ≠ 0)) = false := by simpa using h3
          rw [k1, k2, k3]
          rfl)
        have g1 : ((mi : Int) = 0 ∧ ¬ (0 : Int) < (il : Int)) ∨ ¬ (mi : Int) = 0 := by omega
        have g2 : ((cl : Int) = 0 ∧ c = 0) ∨ ¬ (cl : Int) = 0 := by omega
        have g3 : ((nl : Int) = 0 ∧ n = 0) ∨ ¬ (nl : Int) = 0 := by omega
        clear HC HM HS h1 h2 h3 arm
        cases tx with
        | true =>
          clear TS HT
          rcases g1 with ⟨a1, a2⟩ | a1 <;> rcases g2 with ⟨b1, b2⟩ | b1 <;> rcases g3 with ⟨c1, c2⟩ | c1
          all_goals
            go_wp2
            go_ret
            rw [HG.out]
            exact ⟨by rw [HF.out]; rfl, HB.out⟩
        | false =>
          rcases g1 with ⟨a1, a2⟩ | a1 <;> rcases g2 with ⟨b1, b2⟩ | b1 <;> rcases g3 with ⟨c1, c2⟩ | c1
          all_goals
            go_wp2_with fail
            refine (TS.out _ HT.out.2).mono ?_
            rintro e w1 ⟨rfl, hb1⟩
            have R := hide (HB.out.trans (hb1.mono (by have := HB.out.size; have := HG.out; omega)))
            clear hb1 TS HT p0 p1 p2 p3 p4 p5 p6 q0 q1 q2 q3 q4 q5 HB
            go_wp2
            go_ret
            rw [HG.out]
            exact ⟨by rw [HF.out]; rfl, R.out⟩
set_option maxRecDepth 100000 in
set_option maxHeartbeats 1000000 in
theorem check_any (s : Shp) (m : Mg) (d iv ov : Value) (w : World) (h : MsgAt w d iv ov m) (hok : MgOk m) :
    Calls Tryd.prog 46 #[.agg #[.string s.cmd, .int .i64 s.maxIds, .int .i64 s.codeLen, .int .u32 s.maxCode, .int .i64 s.nLen, .bool s.hasTx], .agg #[.int .i64 m.kind, .int .u64 m.n, .int .u32 m.code, d, .int .u32 m.tx.ver, iv, ov]] w
      fun e w' => e = .returned (.int .i64 (chkE s m)) ∧ Below w.heap.size w w' := by
  have b2 := below_on (below_new w (.cells #[.string s.cmd, .int .i64 s.maxIds, .int .i64 s.codeLen, .int .u32 s.maxCode, .int .i64 s.nLen, .bool s.hasTx] 82)) (below_new _ (.cells #[.int .i64 m.kind, .int .u64 m.n, .int .u32 m.code, d, .int .u32 m.tx.ver, iv, ov] 51))
  have HS := hide ((SBox.new w s 82).on (below_new _ (.cells #[.int .i64 m.kind, .int .u64 m.n, .int .u32 m.code, d, .int .u32 m.tx.ver, iv, ov] 51)))
  have hy := MBox.new (w.alloc (.cells #[.string s.cmd, .int .i64 s.maxIds, .int .i64 s.codeLen, .int .u32 s.maxCode, .int .i64 s.nLen, .bool s.hasTx] 82)) (.int .i64 m.kind) (.int .u64 m.n) (.int .u32 m.code) d (.int .u32 m.tx.ver) iv ov 51
  rw [alloc_size] at hy
  have HM := hide hy
  have HB := hide b2
  have HT := hide (h.on b2)
  have CV := hide (fun w (h : MsgAt w d iv ov m) => covers_any s m d iv ov w h hok)
  obtain ⟨sa, sc, ia, ic, oa, oc, rfl, rfl, rfl⟩ := h.form
  have HC : Hid (chkE s m = if coversB s m = false then 2 else if 0 < s.maxIds ∧ m.ids.length = 0 then 9 else if s.maxIds < m.ids.length then 5 else if s.maxCode < m.code then 3 else 0) := hide rfl
  clear b2 hy h hok
  generalize coversB s m = B at *
  go_enter Tryd.func46, Tryd.ntmps46
  go_upto_region 1 with fail
  generalize (w.alloc (.cells #[.string s.cmd, .int .i64 s.maxIds, .int .i64 s.codeLen, .int .u32 s.maxCode, .int .i64 s.nLen, .bool s.hasTx] 82)).alloc (.cells #[.int .i64 m.kind, .int .u64 m.n, .int .u32 m.code, .slice sa m.ids.length sc, .int .u32 m.tx.ver, .slice ia m.tx.ins.length ic, .slice oa m.tx.outs.length oc] 51) = W at *
  generalize hg : w.heap.size = g at *
  have HG := hide hg
  clear hg
  obtain ⟨p0, p1, p2, p3, p4, p5, p6⟩ := HM.out
  obtain ⟨q0, q1, q2, q3, q4, q5⟩ := HS.out
  go_wp2_with fail
  refine (CV.out _ HT.out).mono ?_
  rintro e w1 ⟨rfl, hb1⟩
  have R := hide (HB.out.trans (hb1.mono (by have := HB.out.size; have := HG.out; omega)))
  clear p0 p1 p2 p3 p4 p5 p6 q0 q1 q2 q3 q4 q5
  obtain ⟨p0, p1, p2, p3, p4, p5, p6⟩ := HM.out.on hb1
  obtain ⟨q0, q1, q2, q3, q4, q5⟩ := HS.out.on hb1
  clear hb1 CV HT HB HM HS
  generalize m.ids.length = il at *
  generalize m.code = c at *
  generalize s.maxIds = mi at *
  generalize s.maxCode = mc at *
  cases B with
  | false =>
    have HF : Hid (chkE s m = 2) := hide (by rw [HC.out, if_pos rfl])
    clear HC
    go_wp2
    go_ret
    rw [HG.out]
    exact ⟨by rw [HF.out]; rfl, R.out⟩
  | true =>
    by_cases h1 : 0 < mi ∧ il = 0
    · have HF : Hid (chkE s m = 9) := hide (by rw [HC.out, if_neg (by decide), if_pos h1])
      have e1 : (0 : Int) < (mi : Int) := by omega
      obtain rfl := h1.2
      clear HC h1
      go_wp2
      go_ret
      rw [HG.out]
      exact ⟨by rw [HF.out]; rfl, R.out⟩
    · have g1 : ((0 : Int) < (mi : Int) ∧ ¬ (il : Int) = 0) ∨ ¬ (0 : Int) < (mi : Int) := by omega
      by_cases h2 : mi < il
      · have HF : Hid (chkE s m = 5) := hide (by rw [HC.out, if_neg (by decide), if_neg h1, if_pos h2])
        have e2 : (mi : Int) < (il : Int) := by omega
        clear HC h1 h2
        rcases g1 with ⟨a1, a2⟩ | a1
        all_goals
          go_wp2
          go_ret
          rw [HG.out]
          exact ⟨by rw [HF.out]; rfl, R.out⟩
      · have e2 : ¬ (mi : Int) < (il : Int) := by omega
        by_cases h3 : mc < c
        · have HF : Hid (chkE s m = 3) := hide (by rw [HC.out, if_neg (by decide), if_neg h1, if_neg h2, if_pos h3])
          clear HC h1 h2
          rcases g1 with ⟨a1, a2⟩ | a1
          all_goals
            go_wp2
            go_ret
            rw [HG.out]
            exact ⟨by rw [HF.out]; rfl, R.out⟩
        · have HF : Hid (chkE s m = 0) := hide (by rw [HC.out, if_neg (by decide), if_neg h1, if_neg h2, if_neg h3])
          clear HC h1 h2
          rcases g1 with ⟨a1, a2⟩ | a1
          all_goals
            go_wp2
            go_ret
            rw [HG.out]
            exact ⟨by rw [HF.out]; rfl, R.out⟩

end Go.Proofs.YtjmifgdjmaelfaaDoor
