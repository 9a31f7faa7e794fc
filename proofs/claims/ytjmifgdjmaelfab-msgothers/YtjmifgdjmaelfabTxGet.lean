/-
  What tx.Get and Whole answer at this program, whatever the bytes.
-/
import Derived.Test.YtjmifgdjmaelfabTxRall
namespace Go.Proofs.Ytjmifgdjmaelfab
open Go.RowKit

/-- A row and two numbers that are a function's results. -/
theorem ret_row_tmp2 {P : Program} {fn : Func} {R : Ending → World → Prop} {a : Act} {w : World} (p q r : Tmp) (ty : TypeId) (hfn : fn.results = #[.cell p ty, .tmp q, .tmp r]) (b o : Nat) (hp : a.tmps.getD p undef = .pointer (some ⟨b, o, none⟩))
    (vs : List Value) (hA : w.rangeAt b o vs) (d : TypeDesc) (hu : P.underlying ty = some d) (hd : d.isRow = true) (hi : (P.info? ty).map (·.size) = some vs.length) (z y : Value) (hq : a.tmps.getD q undef = z) (hr : a.tmps.getD r undef = y)
    (hdf : a.defers = []) (hR : R (.returned (.tuple #[.agg vs.toArray, z, y])) w) : bodyPost P fn R .ret a w := by
  refine bodyPost_ret (v := .tuple #[.agg vs.toArray, z, y]) ?_ hdf hR
  have hp' : a.tmps[p]?.getD undef = .pointer (some ⟨b, o, none⟩) := by simpa using hp
  have hq' : a.tmps[q]?.getD undef = z := by simpa using hq
  have hr' : a.tmps[r]?.getD undef = y := by simpa using hr
  simp [results, hfn, hp', hq', hr', asAddr, run_loadVar_mid w b o ty vs d hA hu hd hi]
theorem range3 {w : World} {b : Nat} {x y z : Value} (h0 : w.cell? ⟨b, 0, none⟩ = some x) (h1 : w.cell? ⟨b, 1, none⟩ = some y) (h2 : w.cell? ⟨b, 2, none⟩ = some z) : w.rangeAt b 0 [x, y, z] := by
  intro j v hv
  rw [Nat.zero_add]
  rcases j with _ | _ | _ | j
  · simp only [List.getElem?_cons_zero, Option.some.injEq] at hv
    rw [← hv]; exact h0
  · simp only [List.getElem?_cons_succ, List.getElem?_cons_zero, Option.some.injEq] at hv
    rw [← hv]; exact h1
  · simp only [List.getElem?_cons_succ, List.getElem?_cons_zero, Option.some.injEq] at hv
    rw [← hv]; exact h2
  · simp at hv
/-- The transaction's rows. -/
def TxAt (w : World) (iv ov : Value) (t : Tr) : Prop := InsAt w iv t.ins ∧ OutsAt w ov t.outs
/-- What Get answers. -/
def GetDone (w : World) (l : List Int) (e : Ending) (w' : World) : Prop :=
  ∃ iv ov, e = .returned (.tuple #[.agg #[.int .u32 (gtT l).ver, iv, ov], .int .i64 (gtN l), .int .i64 (gtE l)]) ∧ Below w.heap.size w w' ∧ Keeps (fun k => w.heap.size ≤ k) w' fun w => TxAt w iv ov (gtT l)
theorem TxAt.none (w : World) : TxAt w (.slice none 0 0) (.slice none 0 0) noTr := ⟨InsAt.nil w, OutsAt.nil w⟩
theorem Rd.new (w : World) (v : Value) (l : List Int) (h : Bytes w v l) (hb : AllB l) (hl : l.length ≤ 900000) (t : TypeId) : Rd (w.alloc (.cells #[v, .int .i64 0] t)) w.heap.size (l, 0) := by
  have hn := range_new w [v, .int .i64 0] t
  have n0 := hn 0 _ rfl
  have n1 := hn 1 _ rfl
  simp only [Nat.add_zero, Nat.zero_add] at n0 n1
  exact ⟨v, n0, n1, there_new w _ t, h.old ((Below.refl _ _).alloc (Nat.le_refl _) _) (fun g hg => hg), hb, hl⟩

set_option maxRecDepth 100000 in
set_option maxHeartbeats 2000000 in
theorem tget_any (l : List Int) (v : Value) (w : World) (hv : Bytes w v l) (hb : AllB l) (hl : l.length ≤ 900000) :
    Calls Try.prog 30 #[v] w (GetDone w l) := by
  obtain ⟨W1, hW1⟩ : ∃ W1, W1 = w.alloc (.cells #[.int .u32 0, .slice none 0 0, .slice none 0 0] 28) := ⟨_, rfl⟩
  obtain ⟨W2, hW2⟩ : ∃ W2, W2 = W1.alloc (.cells #[v, .int .i64 0] 92) := ⟨_, rfl⟩
  have s1 : W1.heap.size = w.heap.size + 1 := by rw [hW1]; exact alloc_size _ _
  have b1 : Below w.heap.size w W1 := by rw [hW1]; exact (Below.refl _ _).alloc (Nat.le_refl _) _
  have b2 : Below W1.heap.size W1 W2 := by rw [hW2]; exact (Below.refl _ _).alloc (Nat.le_refl _) _
  have s2 : W2.heap.size = w.heap.size + 2 := by rw [hW2, alloc_size, s1]
  have t2 : W2.there w.heap.size 0 3 := there_on (by rw [hW1]; exact tx_there w) b2
  have r2 : Rd W2 (w.heap.size + 1) (l, 0) := by
    rw [← s1, hW2]
    exact Rd.new W1 v l (hv.below b1) hb hl _
  have T := hide (rtx_any W2 (w.heap.size + 1) (l, 0) r2)
  have BW := hide (below_on b1 b2)
  have TH := hide t2
  have S2 := hide s2
  have E1 := hide hW1
  have E2 := hide hW2
  have HE : Hid (gtE l = (txS (l, 0)).2.2 ∧ ((txS (l, 0)).2.2 = 0 → gtT l = (txS (l, 0)).1 ∧ gtN l = (l.length : Int) - ((txS (l, 0)).2.1.length : Int)) ∧ ((txS (l, 0)).2.2 ≠ 0 → gtT l = noTr ∧ gtN l = 0)) :=
    hide ⟨rfl, fun h => ⟨if_pos h, if_pos h⟩, fun h => ⟨if_neg h, if_neg h⟩⟩
  have HLS : Hid ((txS (l, 0)).2.1.length ≤ l.length) := hide (txS_all (s := (l, 0)) hb).2.2.2
  unfold TxDone at T
  generalize txS (l, 0) = A at *
  obtain ⟨tr, sr, er⟩ := A
  obtain ⟨a, cap, rfl, hc1, hc2⟩ := hv.form
  simp only at *
  clear hW1 hW2 s1 s2 b1 b2 t2 r2 hv hb
  go_enter Try.func30, Try.ntmps30
  go_upto_region 2 with fail
  rw [← E1.out, ← E2.out]
  clear E1 E2
  generalize hg : w.heap.size = g at *
  have HG := hide hg
  clear hg
  go_wp2_with fail
  refine T.out.mono ?_
  rintro e w3 ⟨iv, ov, rfl, hr3, hbs3, hk3⟩
  have l2 := S2.out
  obtain ⟨c0, c1, c2⟩ : (∃ u, w3.cell? ⟨g, 0, none⟩ = some u) ∧ (∃ u, w3.cell? ⟨g, 1, none⟩ = some u) ∧ ∃ u, w3.cell? ⟨g, 2, none⟩ = some u := by
    have ht := there_heap TH.out (hbs3.block g (by omega) (by omega) (by omega))
    have h0 := (ht 0 (by omega)).1
    have h1 := (ht 1 (by omega)).1
    have h2 := (ht 2 (by omega)).1
    simp only [Nat.zero_add] at h0 h1 h2
    exact ⟨Option.isSome_iff_exists.1 h0, Option.isSome_iff_exists.1 h1, Option.isSome_iff_exists.1 h2⟩
  have ht := there_heap TH.out (hbs3.block g (by omega) (by omega) (by omega))
  have f0 := there_free0 ht 0 (by omega)
  have f1 := there_free0 ht 1 (by omega)
  have f2 := there_free0 ht 2 (by omega)
  obtain ⟨u0, c0⟩ := c0
  obtain ⟨u1, c1⟩ := c1
  obtain ⟨u2, c2⟩ := c2
  obtain ⟨rv, d0, d1, -, dk, -, -⟩ := hr3
  obtain ⟨ra, rc, rfl, hrc1, hrc2⟩ := dk.self.form
  simp only at d0 d1 hrc1
  obtain ⟨ia, ic, rfl, hi1, hi2⟩ := hk3.self.1.form
  obtain ⟨oa, oc, rfl, ho1, ho2⟩ := hk3.self.2.form
  have hbel : Below w3.heap.size w3 (w3.alloc (.cells #[.int .u32 tr.ver, .slice ia tr.ins.length ic, .slice oa tr.outs.length oc] 28)) := (Below.refl _ _).alloc (Nat.le_refl _) _
  have hq := range_new w3 [.int .u32 tr.ver, .slice ia tr.ins.length ic, .slice oa tr.outs.length oc] 28
  have q0 := hq 0 _ rfl
  have q1 := hq 1 _ rfl
  have q2 := hq 2 _ rfl
  simp only [Nat.add_zero, Nat.zero_add] at q0 q1 q2
  have d0 := (hbel.cell (World.block_lt_of_cell? _ _ d0)).trans d0
  have d1 := (hbel.cell (World.block_lt_of_cell? _ _ d1)).trans d1
  have f0 := (hbel.frozen (World.block_lt_of_cell? _ _ c0)).trans f0
  have f1 := (hbel.frozen (World.block_lt_of_cell? _ _ c1)).trans f1
  have f2 := (hbel.frozen (World.block_lt_of_cell? _ _ c2)).trans f2
  have c0 := (hbel.cell (World.block_lt_of_cell? _ _ c0)).trans c0
  have c1 := (hbel.cell (World.block_lt_of_cell? _ _ c1)).trans c1
  have c2 := (hbel.cell (World.block_lt_of_cell? _ _ c2)).trans c2
  have HK : Hid (Keeps (fun k => g + 1 ≤ k) (w3.alloc (.cells #[.int .u32 tr.ver, .slice ia tr.ins.length ic, .slice oa tr.outs.length oc] 28)) (fun w => TxAt w (.slice ia tr.ins.length ic) (.slice oa tr.outs.length oc) tr)) := hide ((hk3.below hbel).weak fun k _ h => by omega)
  have HB : Hid (Below g w (w3.alloc (.cells #[.int .u32 tr.ver, .slice ia tr.ins.length ic, .slice oa tr.outs.length oc] 28))) := hide ((BW.out.trans (hbs3.ground (by omega) (by omega) (by omega))).alloc (by have := hbs3.size; omega) _)
  have hqg : w3.heap.size ≠ g := by have := hbs3.size; omega
  have hlt := HLS.out
  clear hk3 hbs3 ht dk T TH BW l2 hq hbel
  go_upto_region 3 with fail
  generalize w3.alloc (.cells #[.int .u32 tr.ver, .slice ia tr.ins.length ic, .slice oa tr.outs.length oc] 28) = W4 at *
  generalize w3.heap.size = q at *
  have HT4 : Hid (W4.there g 0 3) := hide fun j hj => by
    rw [Nat.zero_add]
    rcases (show j = 0 ∨ j = 1 ∨ j = 2 by omega) with rfl | rfl | rfl
    · exact ⟨by rw [c0]; rfl, f0⟩
    · exact ⟨by rw [c1]; rfl, f1⟩
    · exact ⟨by rw [c2]; rfl, f2⟩
  by_cases he : er = 0
  · subst he
    have hset : ∀ x y z : Value, ((W4.setCell ⟨g, 0, none⟩ x).setCell ⟨g, 1, none⟩ y).setCell ⟨g, 2, none⟩ z = W4.setCells g 0 [x, y, z] := fun _ _ _ => rfl
    have HSET := hide hset
    clear hset
    have R : Hid (∀ t : Tr, t = tr → GetDone w l (.returned (.tuple #[.agg #[.int .u32 t.ver, .slice ia tr.ins.length ic, .slice oa tr.outs.length oc], .int .i64 ((l.length : Int) - (sr.length : Int)), .int .i64 0])) (W4.setCells g 0 [.int .u32 tr.ver, .slice ia tr.ins.length ic, .slice oa tr.outs.length oc]).drew) := hide (by
      rintro t rfl
      obtain ⟨h1, h2, -⟩ := HE.out
      obtain ⟨h2, h3⟩ := h2 rfl
      refine ⟨_, _, by rw [h1, h2, h3], ?_, ?_⟩
      · rw [HG.out]
        exact (below_sets (Nat.le_refl g) _ 0 W4 HB.out).drew
      · rw [h2, HG.out]
        exact ((HK.out.step (w1 := (W4.setCells g 0 _).drew) (by show W4.heap.size ≤ (W4.setCells g 0 _).heap.size; rw [size_setCells]; exact Nat.le_refl _) fun k hk hp => (Besides.sets (p := g) (q := g) (w := W4) (Or.inl rfl) _ 0 W4 (Besides.refl _ _ _)).block k hk (by omega) (by omega)).weak fun k _ h => by omega))
    have HRG : Hid ((W4.setCells g 0 [.int .u32 tr.ver, .slice ia tr.ins.length ic, .slice oa tr.outs.length oc]).drew.rangeAt g 0 [.int .u32 tr.ver, .slice ia tr.ins.length ic, .slice oa tr.outs.length oc]) := hide (World.rangeAt_setCells_same _ _ _ _ HT4.out)
    clear HE HK HB HT4
    go_wp2_with fail
    go_region
    all_goals
      go_wp2_with fail
      rw [HSET.out]
      exact ret_row_tmp2 2 3 4 28 rfl g 0 rfl [.int .u32 tr.ver, .slice ia tr.ins.length ic, .slice oa tr.outs.length oc] HRG.out _ Try.underlying28 rfl info_tx _ _ rfl rfl rfl (R.out _ rfl)
  · have he' : (er == 0) = false := by simpa using he
    have hset : ∀ x y z : Value, ((W4.setCell ⟨g, 0, none⟩ x).setCell ⟨g, 1, none⟩ y).setCell ⟨g, 2, none⟩ z = W4.setCells g 0 [x, y, z] := fun _ _ _ => rfl
    have HSET := hide hset
    clear hset
    have R : Hid (GetDone w l (.returned (.tuple #[.agg #[.int .u32 0, .slice none 0 0, .slice none 0 0], .int .i64 0, .int .i64 er])) (W4.setCells g 0 [.int .u32 0, .slice none 0 0, .slice none 0 0]).drew) := hide (by
      obtain ⟨h1, -, h2⟩ := HE.out
      obtain ⟨h2, h3⟩ := h2 he
      refine ⟨.slice none 0 0, .slice none 0 0, by rw [h1, h2, h3]; rfl, ?_, ?_⟩
      · rw [HG.out]
        exact (below_sets (Nat.le_refl g) _ 0 W4 HB.out).drew
      · rw [h2]
        exact fun w' _ => TxAt.none w')
    have HRG : Hid ((W4.setCells g 0 [.int .u32 0, .slice none 0 0, .slice none 0 0]).drew.rangeAt g 0 [.int .u32 0, .slice none 0 0, .slice none 0 0]) := hide (World.rangeAt_setCells_same _ _ _ _ HT4.out)
    clear HE HK HB HT4 he
    go_wp2_with fail
    go_region
    all_goals
      go_wp2_with fail
      rw [HSET.out]
      exact ret_row_tmp2 2 3 4 28 rfl g 0 rfl [.int .u32 0, .slice none 0 0, .slice none 0 0] HRG.out _ Try.underlying28 rfl info_tx _ _ rfl rfl rfl R.out

end Go.Proofs.Ytjmifgdjmaelfab
