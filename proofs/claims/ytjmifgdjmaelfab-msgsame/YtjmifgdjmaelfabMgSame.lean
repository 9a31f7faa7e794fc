/-
  What msg.sameIds and Same answer at this program, of any two messages.
-/
import Derived.Test.YtjmifgdjmaelfabMgAt
import Derived.Test.YtjmifgdjmaelfabTxSam
namespace Go.Proofs.Ytjmifgdjmaelfab
open Go.RowKit

theorem hash_there (w : World) : (w.alloc (.cells #[.int .u8 0, .int .u8 0, .int .u8 0, .int .u8 0, .int .u8 0, .int .u8 0, .int .u8 0, .int .u8 0, .int .u8 0, .int .u8 0, .int .u8 0, .int .u8 0, .int .u8 0, .int .u8 0, .int .u8 0, .int .u8 0, .int .u8 0, .int .u8 0, .int .u8 0, .int .u8 0, .int .u8 0, .int .u8 0, .int .u8 0, .int .u8 0, .int .u8 0, .int .u8 0, .int .u8 0, .int .u8 0, .int .u8 0, .int .u8 0, .int .u8 0, .int .u8 0] 44)).there w.heap.size 0 32 := there_new w _ _
set_option maxRecDepth 100000 in
theorem eql_hash8 (xs ys : List Int) (hx : xs.length = 32) (hy : ys.length = 32) (w : World) : (Op.equalIn 10000 44 (.agg (vals .u8 xs).toArray) (.agg (vals .u8 ys).toArray)).run Try.prog w = .ok (decide (xs = ys)) w :=
  eql_arr w 44 5 32 .u8 Try.underlying44 Try.underlying5 (fun _ => rfl) xs ys hx hy
set_option maxRecDepth 100000 in
set_option maxHeartbeats 1000000 in
theorem sameIds_any (L M : List (List Int)) (v v' : Value) (w : World) (h : IdsAt w v L) (h' : IdsAt w v' M) (hL : ∀ x ∈ L, x.length = 32) (hM : ∀ x ∈ M, x.length = 32) (r : Bool) (hr : r = true ↔ L = M) :
    Calls Try.prog 24 #[v, v'] w fun e w' => e = .returned (.bool r) ∧ Below w.heap.size w w' := by
  have HI := hide h
  have HJ := hide h'
  have HL := hide hL
  have HM := hide hM
  have HR := hide (bool_of hr)
  obtain ⟨a, cap, rfl, hc1, hc2⟩ := h.form
  obtain ⟨a', cap', rfl, hd1, hd2⟩ := h'.form
  clear h h' hL hM hr
  by_cases hl : L.length = M.length
  · rw [hl] at hc1 HI ⊢
    have HS : Hid (Eqing w L M (.int .i64 0) w) := hide ⟨0, by omega, rfl, by simp, Below.refl _ _⟩
    have HLL := hide hl
    go_enter Try.func24, Try.ntmps24
    go_wp2
    go_loopw [14] (fun i wr => Eqing w L M i wr) (fun i _ => M.length - (intOf i).toNat)
    case atStart => exact HS.out
    case round =>
      clear HS
      obtain ⟨k, hk, rfl, heq, hB⟩ := hrel
      have HB := hide hB
      have HEQ := hide heq
      clear hB heq
      have hl := HLL.out
      by_cases hlt : k < M.length
      · obtain ⟨x, hx⟩ : ∃ x, L[k]? = some x := ⟨_, List.getElem?_eq_getElem (by omega)⟩
        obtain ⟨y, hy⟩ : ∃ y, M[k]? = some y := ⟨_, List.getElem?_eq_getElem hlt⟩
        obtain ⟨b, off, rfl, hr1⟩ := (HI.out.on HB.out).get hx
        obtain ⟨b', off', rfl, hr2⟩ := (HJ.out.on HB.out).get hy
        have hxl := HL.out x (List.mem_of_getElem? hx)
        have hyl := HM.out y (List.mem_of_getElem? hy)
        have HX := hide hr1
        have HN : Hid ((Try.prog.info? 44).map (·.size) = some (vals .u8 x).length) := hide (by rw [vals_length, hxl]; exact info_hash)
        have HN' : Hid ((Try.prog.info? 44).map (·.size) = some (vals .u8 y).length) := hide (by rw [vals_length, hyl]; exact info_hash)
        have H1 := hide (vals_cell .u8 x)
        have HT : Hid (∀ w : World, (w.alloc (.cells #[.int .u8 0, .int .u8 0, .int .u8 0, .int .u8 0, .int .u8 0, .int .u8 0, .int .u8 0, .int .u8 0, .int .u8 0, .int .u8 0, .int .u8 0, .int .u8 0, .int .u8 0, .int .u8 0, .int .u8 0, .int .u8 0, .int .u8 0, .int .u8 0, .int .u8 0, .int .u8 0, .int .u8 0, .int .u8 0, .int .u8 0, .int .u8 0, .int .u8 0, .int .u8 0, .int .u8 0, .int .u8 0, .int .u8 0, .int .u8 0, .int .u8 0, .int .u8 0] 44)).there w.heap.size 0 (vals .u8 x).length) := hide (fun w => by rw [vals_length, hxl]; exact hash_there w)
        clear hl
        have hk2 : (k : Int) < (M.length : Int) := by omega
        have EQ := hide (fun w => eql_hash8 x y hxl hyl w)
        have HY := hide hr2
        have HXK := hide hx
        have HYK := hide hy
        clear hr1 hr2 hx hy hxl hyl
        go_upto_region 6 with (first | (refine wpList_load_mid rfl 44 (.tmp 17) rfl b (off + k * 32) rfl (vals .u8 x) _ HX.out Try.underlying44 rfl HN.out ?_) | (refine wp_store_row rfl 44 (.tmp 6) (.tmp 18) rfl wr.heap.size 0 (vals .u8 x) rfl rfl (HT.out wr) HN.out H1.out ?_))
        have hW : ((wr.alloc (.cells #[.int .u8 0, .int .u8 0, .int .u8 0, .int .u8 0, .int .u8 0, .int .u8 0, .int .u8 0, .int .u8 0, .int .u8 0, .int .u8 0, .int .u8 0, .int .u8 0, .int .u8 0, .int .u8 0, .int .u8 0, .int .u8 0, .int .u8 0, .int .u8 0, .int .u8 0, .int .u8 0, .int .u8 0, .int .u8 0, .int .u8 0, .int .u8 0, .int .u8 0, .int .u8 0, .int .u8 0, .int .u8 0, .int .u8 0, .int .u8 0, .int .u8 0, .int .u8 0] 44)).setCells wr.heap.size 0 (vals .u8 x)).rangeAt wr.heap.size 0 (vals .u8 x) := World.rangeAt_setCells_same _ _ _ _ (HT.out wr)
        have hB2 : Below wr.heap.size wr ((wr.alloc (.cells #[.int .u8 0, .int .u8 0, .int .u8 0, .int .u8 0, .int .u8 0, .int .u8 0, .int .u8 0, .int .u8 0, .int .u8 0, .int .u8 0, .int .u8 0, .int .u8 0, .int .u8 0, .int .u8 0, .int .u8 0, .int .u8 0, .int .u8 0, .int .u8 0, .int .u8 0, .int .u8 0, .int .u8 0, .int .u8 0, .int .u8 0, .int .u8 0, .int .u8 0, .int .u8 0, .int .u8 0, .int .u8 0, .int .u8 0, .int .u8 0, .int .u8 0, .int .u8 0] 44)).setCells wr.heap.size 0 (vals .u8 x)) := below_sets (Nat.le_refl _) _ _ _ ((Below.refl _ _).alloc (Nat.le_refl _) _)
        generalize (wr.alloc (.cells #[.int .u8 0, .int .u8 0, .int .u8 0, .int .u8 0, .int .u8 0, .int .u8 0, .int .u8 0, .int .u8 0, .int .u8 0, .int .u8 0, .int .u8 0, .int .u8 0, .int .u8 0, .int .u8 0, .int .u8 0, .int .u8 0, .int .u8 0, .int .u8 0, .int .u8 0, .int .u8 0, .int .u8 0, .int .u8 0, .int .u8 0, .int .u8 0, .int .u8 0, .int .u8 0, .int .u8 0, .int .u8 0, .int .u8 0, .int .u8 0, .int .u8 0, .int .u8 0] 44)).setCells wr.heap.size 0 (vals .u8 x) = W2 at *
        have HY2 := hide (range_on HY.out hB2)
        have HX2 := hide hW
        have HB2 := hide (below_on HB.out hB2)
        clear hW hB2 HX HY H1 HT
        generalize wr.heap.size = g at *
        have hEQ : ∀ w, (Op.equalIn 10000 44 (.agg (vals .u8 x).toArray) (.agg (vals .u8 y).toArray)).run Try.prog w = .ok (decide (x = y)) w := EQ.out
        clear EQ
        generalize hXs : vals .u8 x = X at *
        generalize hYs : vals .u8 y = Y at *
        clear hXs hYs
        by_cases hxy : x = y
        · rw [decide_eq_true hxy] at hEQ
          simp only [Act.put]
          refine wp_region_quiet_lit (by kernel_rfl) (by kernel_rfl) ?_
          repeat (first
            | (go_big_quiet_want; refine quiet_load 44 (.tmp 6) rfl g 0 rfl X _ (range_drewN HX2.out) Try.underlying44 rfl HN.out ?_; go_simp; go_big_quiet_on)
            | (go_big_quiet_want; refine quiet_load 44 (.tmp 22) rfl b' (off' + k * 32) rfl Y _ (range_drewN HY2.out) Try.underlying44 rfl HN'.out ?_; go_simp; go_big_quiet_on)
            | (go_big_quiet_step (fail)))
          refine wpQuiet_nil ?_
          intro _ hw'
          obtain ⟨nq, hw''⟩ := hw'
          subst hw''
          have R : Hid (Eqing w L M (.int .i64 ((k + 1 : Nat) : Int)) (W2.drewN nq)) := hide ⟨k + 1, by omega, rfl, take_more HEQ.out HXK.out HYK.out hxy, HB2.out.trans ⟨rfl, rfl, rfl, Nat.le_refl _, fun _ _ => rfl⟩⟩
          clear HB2 hEQ HX2 HY2 HN HN' HXK HYK
          generalize W2.drewN nq = W3 at *
          go_wp2
          go_roundw
          case rel => first | exact R.out | ((repeat apply Exists.intro); exact ⟨R.out, rfl⟩)
          case measure => simp [intOf]; omega
        · rw [decide_eq_false hxy] at hEQ
          have HF : Hid (r = false) := hide (HR.out.2 (ne_at HXK.out HYK.out hxy))
          simp only [Act.put]
          refine wp_region_quiet_lit (by kernel_rfl) (by kernel_rfl) ?_
          repeat (first
            | (go_big_quiet_want; refine quiet_load 44 (.tmp 6) rfl g 0 rfl X _ (range_drewN HX2.out) Try.underlying44 rfl HN.out ?_; go_simp; go_big_quiet_on)
            | (go_big_quiet_want; refine quiet_load 44 (.tmp 22) rfl b' (off' + k * 32) rfl Y _ (range_drewN HY2.out) Try.underlying44 rfl HN'.out ?_; go_simp; go_big_quiet_on)
            | (go_big_quiet_step (fail)))
          refine wpQuiet_nil ?_
          intro _ hw'
          obtain ⟨nq, hw''⟩ := hw'
          subst hw''
          have R : Hid (Below w.heap.size w (W2.drewN nq)) := hide (HB2.out.trans ⟨rfl, rfl, rfl, Nat.le_refl _, fun _ _ => rfl⟩)
          clear HB2 hEQ HX2 HY2 HN HN' HXK HYK
          generalize W2.drewN nq = W3 at *
          go_wp2
          go_ret
          exact ⟨by rw [HF.out]; rfl, R.out⟩
      · have hk3 : (M.length : Int) ≤ (k : Int) := by omega
        have HE : Hid (r = true) := hide (HR.out.1 (by
          have h := HEQ.out
          rwa [List.take_of_length_le (by omega), List.take_of_length_le (by omega)] at h))
        clear HEQ HR hl
        go_wp2
        go_ret
        exact ⟨by rw [HE.out]; rfl, HB.out⟩
  · have el : ¬ (L.length : Int) = (M.length : Int) := by omega
    have el' : ((L.length : Int) == (M.length : Int)) = false := by simpa using el
    have HF : Hid (r = false) := hide (HR.out.2 fun e => hl (by rw [e]))
    clear HR
    go_enter Try.func24, Try.ntmps24
    go_wp2
    go_ret
    exact ⟨by rw [HF.out]; rfl, Below.refl _ _⟩

theorem mg_iff (a b : Mg) : a = b ↔ a.kind = b.kind ∧ a.n = b.n ∧ a.code = b.code ∧ a.ids = b.ids ∧ a.tx = b.tx := by
  constructor
  · rintro rfl
    exact ⟨rfl, rfl, rfl, rfl, rfl⟩
  · cases a
    cases b
    rintro ⟨h1, h2, h3, h4, h5⟩
    simp only at h1 h2 h3 h4 h5
    rw [h1, h2, h3, h4, h5]
set_option maxRecDepth 100000 in
set_option maxHeartbeats 1000000 in
theorem msame_any (a b : Mg) (d iv ov d' iv' ov' : Value) (w : World) (h : MsgAt w d iv ov a) (h' : MsgAt w d' iv' ov' b) (ha : MgOk a) (hb : MgOk b) (r : Bool) (hr : r = true ↔ a = b) :
    Calls Try.prog 13 #[.agg #[.int .i64 a.kind, .int .u64 a.n, .int .u32 a.code, d, .int .u32 a.tx.ver, iv, ov], .agg #[.int .i64 b.kind, .int .u64 b.n, .int .u32 b.code, d', .int .u32 b.tx.ver, iv', ov']] w fun e w' => e = .returned (.bool r) ∧ Below w.heap.size w w' := by
  have b2 := below_on (below_new w (.cells #[.int .i64 a.kind, .int .u64 a.n, .int .u32 a.code, d, .int .u32 a.tx.ver, iv, ov] 30)) (below_new _ (.cells #[.int .i64 b.kind, .int .u64 b.n, .int .u32 b.code, d', .int .u32 b.tx.ver, iv', ov'] 30))
  have HX := hide ((MBox.new w (.int .i64 a.kind) (.int .u64 a.n) (.int .u32 a.code) d (.int .u32 a.tx.ver) iv ov 30).on (below_new _ (.cells #[.int .i64 b.kind, .int .u64 b.n, .int .u32 b.code, d', .int .u32 b.tx.ver, iv', ov'] 30)))
  have hy := MBox.new (w.alloc (.cells #[.int .i64 a.kind, .int .u64 a.n, .int .u32 a.code, d, .int .u32 a.tx.ver, iv, ov] 30)) (.int .i64 b.kind) (.int .u64 b.n) (.int .u32 b.code) d' (.int .u32 b.tx.ver) iv' ov' 30
  rw [alloc_size] at hy
  have HY := hide hy
  have HB := hide b2
  have HT := hide (h.on b2)
  have HU := hide (h'.on b2)
  have EI := hide (fun w r h h' hr => sameIds_any a.ids b.ids d d' w h h' (fun x hx => (ha.2.2.2.1 x hx).1) (fun x hx => (hb.2.2.2.1 x hx).1) r hr)
  have EO := hide (fun w r h h' hr => tsame_any a.tx b.tx iv ov iv' ov' w h h' ha.2.2.2.2 hb.2.2.2.2 r hr)
  have HR : Hid ((a.kind = b.kind ∧ a.n = b.n ∧ a.code = b.code ∧ a.ids = b.ids ∧ a.tx = b.tx → r = true) ∧ (¬ (a.kind = b.kind ∧ a.n = b.n ∧ a.code = b.code ∧ a.ids = b.ids ∧ a.tx = b.tx) → r = false)) := hide (by
    exact bool_of (hr.trans (mg_iff a b)))
  obtain ⟨sa, sc, ia, ic, oa, oc, rfl, rfl, rfl⟩ := h.form
  obtain ⟨sa', sc', ia', ic', oa', oc', rfl, rfl, rfl⟩ := h'.form
  clear b2 hy h h' ha hb hr
  go_enter Try.func13, Try.ntmps13
  go_upto_region 1 with fail
  generalize (w.alloc (.cells #[.int .i64 a.kind, .int .u64 a.n, .int .u32 a.code, .slice sa a.ids.length sc, .int .u32 a.tx.ver, .slice ia a.tx.ins.length ic, .slice oa a.tx.outs.length oc] 30)).alloc (.cells #[.int .i64 b.kind, .int .u64 b.n, .int .u32 b.code, .slice sa' b.ids.length sc', .int .u32 b.tx.ver, .slice ia' b.tx.ins.length ic', .slice oa' b.tx.outs.length oc'] 30) = W at *
  generalize hg : w.heap.size = g at *
  have HG := hide hg
  clear hg
  obtain ⟨p0, p1, p2, p3, p4, p5, p6⟩ := HX.out
  obtain ⟨q0, q1, q2, q3, q4, q5, q6⟩ := HY.out
  generalize a.kind = k at *
  generalize b.kind = k' at *
  generalize a.n = n at *
  generalize b.n = n' at *
  generalize a.code = c at *
  generalize b.code = c' at *
  by_cases e1 : k = k'
  · subst e1
    by_cases e2 : n = n'
    · subst e2
      by_cases e3 : c = c'
      · subst e3
        have E1 := EI.out W
        by_cases e4 : a.ids = b.ids
        · have C1 := hide (E1 true HT.out.1 HU.out.1 (by simp [e4]))
          have HE4 := hide e4
          clear E1 e4 EI
          go_wp2_with fail
          refine C1.out.mono ?_
          rintro e w1 ⟨rfl, hb1⟩
          have HB1 := hide (HB.out.trans (hb1.mono (by have := HB.out.size; have := HG.out; omega)))
          have E3 := EO.out w1
          have t1 := HT.out.2.on hb1
          have u1 := HU.out.2.on hb1
          clear p0 p1 p2 p3 p4 p5 p6 q0 q1 q2 q3 q4 q5 q6
          obtain ⟨p0, p1, p2, p3, p4, p5, p6⟩ := HX.out.on hb1
          obtain ⟨q0, q1, q2, q3, q4, q5, q6⟩ := HY.out.on hb1
          by_cases e5 : a.tx = b.tx
          · have C2 := hide (E3 true t1 u1 (by simp [e5]))
            have HF : Hid (r = true) := hide (HR.out.1 ⟨by first | trivial | rfl, by first | trivial | rfl, by first | trivial | rfl, HE4.out, e5⟩)
            clear E3 e5 t1 u1 hb1 EO HT HU HX HY HB
            go_wp2_with fail
            refine C2.out.mono ?_
            rintro e w2 ⟨rfl, hb2⟩
            have R := hide (HB1.out.trans (hb2.mono (by have := HB1.out.size; have := HG.out; omega)))
            clear hb2 HB1 C1 C2
            go_wp2
            go_ret
            rw [HG.out]
            exact ⟨by rw [HF.out]; first | done | rfl, R.out⟩
          · have C2 := hide (E3 false t1 u1 (by simp [e5]))
            have HF : Hid (r = false) := hide (HR.out.2 fun h => e5 h.2.2.2.2)
            clear E3 e5 t1 u1 hb1 EO HT HU HX HY HB
            go_wp2_with fail
            refine C2.out.mono ?_
            rintro e w2 ⟨rfl, hb2⟩
            have R := hide (HB1.out.trans (hb2.mono (by have := HB1.out.size; have := HG.out; omega)))
            clear hb2 HB1 C1 C2
            go_wp2
            go_ret
            rw [HG.out]
            exact ⟨by rw [HF.out]; first | done | rfl, R.out⟩
        · have C1 := hide (E1 false HT.out.1 HU.out.1 (by simp [e4]))
          have HF : Hid (r = false) := hide (HR.out.2 fun h => e4 h.2.2.2.1)
          clear E1 e4 EI EO HT HU HX HY
          go_wp2_with fail
          refine C1.out.mono ?_
          rintro e w1 ⟨rfl, hb1⟩
          have R := hide (HB.out.trans (hb1.mono (by have := HB.out.size; have := HG.out; omega)))
          clear hb1 HB C1 p0 p1 p2 p3 p4 p5 p6 q0 q1 q2 q3 q4 q5 q6
          go_wp2
          go_ret
          rw [HG.out]
          exact ⟨by rw [HF.out]; first | done | rfl, R.out⟩
      · have HF : Hid (r = false) := hide (HR.out.2 fun h => e3 h.2.2.1)
        have e3' : (c == c') = false := by simpa using e3
        clear EI EO HT HU HX HY e3
        go_wp2
        go_ret
        rw [HG.out]
        exact ⟨by rw [HF.out]; first | done | rfl, HB.out⟩
    · have HF : Hid (r = false) := hide (HR.out.2 fun h => e2 h.2.1)
      have e2' : (n == n') = false := by simpa using e2
      clear EI EO HT HU HX HY e2
      go_wp2
      go_ret
      rw [HG.out]
      exact ⟨by rw [HF.out]; first | done | rfl, HB.out⟩
  · have HF : Hid (r = false) := hide (HR.out.2 fun h => e1 h.1)
    have e1' : (k == k') = false := by simpa using e1
    clear EI EO HT HU HX HY e1
    go_wp2
    go_ret
    rw [HG.out]
    exact ⟨by rw [HF.out]; first | done | rfl, HB.out⟩

end Go.Proofs.Ytjmifgdjmaelfab
