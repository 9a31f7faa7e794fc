import Derived.Test.YtjmifgdjmaelfaaDoorTxRdr
import Derived.Test.YtjmifgdjmaelfaaDoorTxStep
/-
  What the reader's tx answers at this program, whatever is left.
-/
namespace Go.Proofs.YtjmifgdjmaelfaaDoor
open Go.RowKit

/-- What tx answers. -/
def TxDone (w : World) (p : Nat) (s : RdS) (e : Ending) (w' : World) : Prop :=
  ∃ iv ov, e = .returned (.agg #[.int .u32 (txS s).1.ver, iv, ov]) ∧ Rd w' p (txS s).2 ∧ Besides p p w w' ∧ Keeps (fun k => w.heap.size ≤ k) w' fun w => InsAt w iv (txS s).1.ins ∧ OutsAt w ov (txS s).1.outs
theorem Reads.count {w : World} {p g : Nat} {ver : Int} {L : List TIn} {s s' : RdS} {wr w5 : World} (h : Reads w p g ver L s wr) (hp : p < g) (hr : Rd w5 p s') (hb : Besides p p wr w5) (hs : w5.heap.size = wr.heap.size) : Reads w p g ver L s' w5 := by
  obtain ⟨h1, h2, h3, h4, iv, h5, h6⟩ := h
  have hblk : ∀ k, k < wr.heap.size → k ≠ p → w5.heap[k]? = wr.heap[k]? := fun k hk hne => hb.block k hk hne hne
  exact ⟨hr, h2.trans hb, by omega, there_heap h4 (hblk g (by omega) (by omega)), iv, h5.heap (hblk (g + 1) (by omega) (by omega)), h6.move (by omega) fun k h1 h2 => hblk k h2 (by omega)⟩
theorem RowOwn.keeps {w : World} {base : Nat} {ty : TypeId} {s : Nat} {v : Value} {C : List (List Value)} (h : RowOwn w base ty s v C) : Keeps (fun k => base ≤ k) w fun w => RowAt w s v C := by
  intro w' hw
  exact (h.move (w1 := w') fun g hb hl => hw g hl hb).row
theorem txBox_range {w : World} {q : Nat} {ver : Int} {iv ov : Value} (h : TxBox w q ver iv ov) : w.rangeAt q 0 [.int .u32 ver, iv, ov] := by
  intro j v hv
  rw [Nat.zero_add]
  rcases j with _ | _ | _ | j
  · simp only [List.getElem?_cons_zero, Option.some.injEq] at hv
    rw [← hv]; exact h.1
  · simp only [List.getElem?_cons_succ, List.getElem?_cons_zero, Option.some.injEq] at hv
    rw [← hv]; exact h.2.1
  · simp only [List.getElem?_cons_succ, List.getElem?_cons_zero, Option.some.injEq] at hv
    rw [← hv]; exact h.2.2.1
  · simp at hv
/-- What is handed back. -/
theorem ReadsO.done {w : World} {p g B : Nat} {ver : Int} {L : List TIn} {M : List TOut} {s : RdS} {wr : World} (h : ReadsO w p g B ver L M s wr) (hg : w.heap.size = g) (hp : p < g) :
    ∃ iv ov, wr.rangeAt (g + 1) 0 [.int .u32 ver, iv, ov] ∧ (∀ u ∈ [Value.int .u32 ver, iv, ov], u.oneCell' = true) ∧ Rd (wr.setCells g 0 [.int .u32 ver, iv, ov]) p s ∧ Besides p p w (wr.setCells g 0 [.int .u32 ver, iv, ov]) ∧
      Keeps (fun k => g ≤ k) (wr.setCells g 0 [.int .u32 ver, iv, ov]) (fun w => InsAt w iv L ∧ OutsAt w ov M) := by
  obtain ⟨h1, h2, ⟨h3, h3'⟩, h4, iv, ov, h5, h6, h7⟩ := h
  have hi := h6.self.form
  have ho := h7.row.form
  have hk : ∀ vs : List Value, Keeps (fun k => g + 1 ≤ k) (wr.setCells g 0 vs) (fun w => InsAt w iv L ∧ OutsAt w ov M) := fun vs => by
    have hb : ∀ k, k < wr.heap.size → g + 1 ≤ k → (wr.setCells g 0 vs).heap[k]? = wr.heap[k]? := fun k hk h => (Besides.sets (p := g) (q := g) (w := wr) (Or.inl rfl) vs 0 wr (Besides.refl _ _ _)).block k hk (by omega) (by omega)
    have ka : Keeps (fun k => g + 1 ≤ k) wr (fun w => InsAt w iv L ∧ OutsAt w ov M) := fun w' hw => ⟨h6 w' fun k hk hp => hw k hk (by omega), h7.keeps w' fun k hk hp => hw k hk (by omega)⟩
    exact ka.step (by rw [size_setCells]; exact Nat.le_refl _) hb
  refine ⟨iv, ov, txBox_range h5, ?_, h1.boxes g 0 _ hp, sets_besides h2 _ _ _ (by omega), (hk _).weak fun k _ h => by omega⟩
  obtain ⟨a, c, rfl, -⟩ := hi
  obtain ⟨a', c', rfl, -⟩ := ho
  intro u hu
  simp only [List.mem_cons, List.not_mem_nil, or_false] at hu
  rcases hu with rfl | rfl | rfl <;> rfl

set_option maxRecDepth 100000 in
set_option maxHeartbeats 4000000 in
theorem rtx_any (w : World) (p : Nat) (s : RdS) (h : Rd w p s) :
    Calls Tryd.prog 65 #[.pointer (some ⟨p, 0, none⟩)] w (TxDone w p s) := by
  have hb : AllB s.1 := by obtain ⟨v, -, -, -, -, hb, -⟩ := h; exact hb
  have hplt := h.lt
  obtain ⟨W1, hW1⟩ : ∃ W1, W1 = w.alloc (.cells #[.int .u32 0, .slice none 0 0, .slice none 0 0] 26) := ⟨_, rfl⟩
  obtain ⟨W2, hW2⟩ : ∃ W2, W2 = W1.alloc (.cells #[.int .u32 0, .slice none 0 0, .slice none 0 0] 26) := ⟨_, rfl⟩
  have s1 : W1.heap.size = w.heap.size + 1 := by rw [hW1]; exact alloc_size _ _
  have b1 : Below w.heap.size w W1 := by rw [hW1]; exact (Below.refl _ _).alloc (Nat.le_refl _) _
  have b2 : Below W1.heap.size W1 W2 := by rw [hW2]; exact (Below.refl _ _).alloc (Nat.le_refl _) _
  have t1 : W1.there w.heap.size 0 3 := by rw [hW1]; exact tx_there w
  have t2 : W2.there w.heap.size 0 3 := there_on t1 b2
  have x2 : TxBox W2 (w.heap.size + 1) 0 (.slice none 0 0) (.slice none 0 0) := by
    rw [← s1, hW2]
    have hn := range_new W1 [.int .u32 0, .slice none 0 0, .slice none 0 0] 26
    have n0 := hn 0 _ rfl
    have n1 := hn 1 _ rfl
    have n2 := hn 2 _ rfl
    simp only [Nat.add_zero, Nat.zero_add] at n0 n1 n2
    exact ⟨n0, n1, n2, tx_there W1⟩
  have s2 : W2.heap.size = w.heap.size + 2 := by rw [hW2, alloc_size, s1]
  have hbs2 : Besides p p w W2 := .of_below (below_on b1 b2)
  have k2 := takeS_all (n := 4) hb
  have n1 : 0 ≤ (numS 4 s).1 ∧ (numS 4 s).1 < 4294967296 := num_u32 k2.1 k2.2.2.2
  have c1 := countS_all (n := 8) (s := (numS 4 s).2) k2.2.1
  have HNU := hide (rnum_any W2 p s 4 (h.on (below_on b1 b2)) (Or.inl rfl))
  have HCO := hide (fun wx h => rcount_any wx p (numS 4 s).2 8 h (by omega))
  have HI := hide (insS_all (s := (countS 8 (numS 4 s).2).2) c1.1)
  have HCL : Hid ((countS 8 (numS 4 s).2).1 ≤ 8) := hide c1.2.1
  have HEND : Hid (txS s = (⟨(numS 4 s).1, (insS (countS 8 (numS 4 s).2).1 (countS 8 (numS 4 s).2).2).1, (outsS (countS 8 (insS (countS 8 (numS 4 s).2).1 (countS 8 (numS 4 s).2).2).2).1 (countS 8 (insS (countS 8 (numS 4 s).2).1 (countS 8 (numS 4 s).2).2).2).2).1⟩,
    (outsS (countS 8 (insS (countS 8 (numS 4 s).2).1 (countS 8 (numS 4 s).2).2).2).1 (countS 8 (insS (countS 8 (numS 4 s).2).1 (countS 8 (numS 4 s).2).2).2).2).2)) := hide rfl
  unfold NumDone at HNU
  unfold CountDone at HCO
  rw [show ((4 : Nat) : Int) = 4 from rfl] at HNU
  rw [show ((8 : Nat) : Int) = 8 from rfl] at HCO
  generalize numS 4 s = A at *
  generalize countS 8 A.2 = C at *
  obtain ⟨vv, sa⟩ := A
  obtain ⟨cc, sc⟩ := C
  simp only at *
  have HX2 := hide x2
  have HT2 := hide t2
  have HBS2 := hide hbs2
  have E1 := hide hW1
  have E2 := hide hW2
  have HPL := hide hplt
  have S2 := hide s2
  have hwr : IntKind.u32.wrap vv = vv := by simp [IntKind.wrap, IntKind.bits, IntKind.signed]; omega
  clear hW1 hW2 t1 t2 x2 b1 b2 hb h hbs2 s1 s2 k2 hplt n1 c1
  go_enter Tryd.func65, Tryd.ntmps65
  go_upto_region 2 with fail
  rw [← E1.out, ← E2.out]
  clear E1 E2
  generalize hg : w.heap.size = g at *
  have HG := hide hg
  clear hg
  go_wp2_with fail
  refine HNU.out.mono ?_
  rintro e w3 ⟨rfl, hr3, hbs3, hs3⟩
  have l2 := S2.out
  have lp := HPL.out
  have hx3 := HX2.out.heap (hbs3.block (g + 1) (by omega) (by omega) (by omega))
  have ht3 := there_beside HT2.out hbs3 (by omega) (by omega)
  have c0 := hx3.1
  have f0 := there_free0 hx3.2.2.2 0 (by omega)
  have HR4 : Hid (Reads w p g vv [] sa (w3.setCell ⟨g + 1, 0, none⟩ (.int .u32 vv))) := hide ⟨hr3.box (g + 1) 0 _ (by omega), box_besides (HBS2.out.trans hbs3) _ _ _ (by rw [HG.out]; omega), by rw [size_setCell]; omega, there_setC ht3 _ _, _, hx3.ver vv, InsOwn.nil _ _⟩
  clear hr3 hbs3 hx3 ht3 hs3 l2 lp HNU HX2 HT2 HBS2
  go_upto_region 3 with fail
  generalize w3.setCell ⟨g + 1, 0, none⟩ (.int .u32 vv) = W4 at *
  clear c0 f0
  go_wp2_with fail
  refine (HCO.out _ HR4.out.rd).mono ?_
  rintro e w5 ⟨rfl, hr5, hbs5, hs5⟩
  have HS : Hid (ReadIns w p g vv cc sc (.int .i64 0) w5) := hide (by
    obtain ⟨h1, h2, h3, h4, iv, h5, h6⟩ := HR4.out
    have lp := HPL.out
    have hblk : ∀ k, k < W4.heap.size → k ≠ p → w5.heap[k]? = W4.heap[k]? := fun k hk hne => hbs5.block k hk hne hne
    exact ⟨0, Nat.zero_le _, rfl, hr5, h2.trans hbs5, by omega, there_heap h4 (hblk g (by omega) (by omega)), iv, h5.heap (hblk (g + 1) (by omega) (by omega)), h6.move (by omega) fun k h1 h2 => hblk k h2 (by omega)⟩)
  clear hr5 hbs5 hs5 HR4
  go_wp2_with fail
  go_loopw [10] (fun i wr => ReadIns w p g vv cc sc i wr) (fun i _ => cc - (intOf i).toNat)
  case atStart => exact HS.out
  case round =>
    clear HS
    obtain ⟨k, hk, rfl, hR⟩ := hrel
    have HRR := hide hR
    by_cases hlt : k < cc
    · obtain ⟨iv, ⟨ia, im, ic, rfl⟩, civ, hcall⟩ := rins_round w p g HG.out HPL.out vv (insS k sc).1 (insS k sc).2 wr hR (by have := (HI.out k).1; have := HCL.out; omega)
      have CA := hide hcall
      have HLI : Hid (∀ kv, (inC ((inS (insS k sc).2).1, kv)).length = 34) := hide (fun kv => inC_length (inS_all (HI.out k).2.2.1).1.1)
      have hk1 : (k : Int) < (cc : Int) := by omega
      have hk8 : k < 8 := by have := HCL.out; omega
      have civ' : wr.drew.cell? ⟨g + 1, 1, none⟩ = some (.slice ia im ic) := civ
      clear hR hcall
      have HONE := hide (fun kv => fold_whole (inC ((inS (insS k sc).2).1, kv)) #[.int .u8 0, .int .u8 0, .int .u8 0, .int .u8 0, .int .u8 0, .int .u8 0, .int .u8 0, .int .u8 0, .int .u8 0, .int .u8 0, .int .u8 0, .int .u8 0, .int .u8 0, .int .u8 0, .int .u8 0, .int .u8 0, .int .u8 0, .int .u8 0, .int .u8 0, .int .u8 0, .int .u8 0, .int .u8 0, .int .u8 0, .int .u8 0, .int .u8 0, .int .u8 0, .int .u8 0, .int .u8 0, .int .u8 0, .int .u8 0, .int .u8 0, .int .u8 0, .int .u32 0, .slice none 0 0] (HLI.out kv).symm)
      have hnm : (Tryd.f89.name == "runtime.NumGoroutine") = false := by kernel_rfl
      have hbd : Tryd.f89.body.isNone = false := by kernel_rfl
      go_wp2_with fail
      go_region_law (first
        | (refine step_go (vs := #[.pointer (some ⟨p, 0, none⟩)]) rfl 89 _ Tryd.func89 hnm hbd _ _ rfl (by simp [Act.eval, Act.put]) ?_; (with_reducible refine CA.out.mono ?_); rintro e w3 ⟨kv, rfl, c3, f3, c3', v4, w4, hrun, c4, f4, ⟨va, vn, vc, rfl⟩, hR4⟩; refine ⟨_, rfl, ?_⟩; have hone := HONE.out kv; have hlen := HLI.out kv)
        | (refine step_app rfl (.tmp 13) (.tmp 16) 23 rfl rfl rfl hrun ?_))
      all_goals
        have R : Hid (ReadIns w p g vv cc sc (.int .i64 ((k + 1 : Nat) : Int)) (w4.setCell ⟨g + 1, 1, none⟩ (.slice va vn vc))) := hide ⟨k + 1, by omega, rfl, hR4⟩
        clear hR4 c3 f3 c3' c4 f4 hrun hone hlen CA HONE HLI civ'
        go_wp2
        go_roundw
        case rel => first | exact R.out | ((repeat apply Exists.intro); exact ⟨R.out, rfl⟩)
        case measure => simp [intOf]; omega
    · have hk2 : (cc : Int) ≤ (k : Int) := by omega
      obtain rfl : k = cc := by omega
      have hI := HI.out k
      have c1 := countS_all (n := 8) (s := (insS k sc).2) hI.2.2.1
      have HCO2 := hide (rcount_any wr p (insS k sc).2 8 hR.rd (by omega))
      have HO := hide (outsS_all (s := (countS 8 (insS k sc).2).2) c1.1)
      have HCL2 : Hid ((countS 8 (insS k sc).2).1 ≤ 8) := hide c1.2.1
      unfold CountDone at HCO2
      rw [show ((8 : Nat) : Int) = 8 from rfl] at HCO2
      generalize countS 8 (insS k sc).2 = D at *
      obtain ⟨dd, sd⟩ := D
      simp only at *
      clear hR hI c1 HCO
      go_wp2_with fail
      refine HCO2.out.mono ?_
      rintro e w6 ⟨rfl, hr6, hbs6, hs6⟩
      have HSO : Hid (ReadOuts w p g w6.heap.size vv (insS k sc).1 dd sd (.int .i64 0) w6) := hide ⟨0, Nat.zero_le _, rfl, (HRR.out.count HPL.out hr6 hbs6 hs6).turn⟩
      generalize hB : w6.heap.size = B at *
      have HBB := hide hB
      clear hr6 hbs6 hs6 HRR HCO2 hB
      go_wp2_with fail
      go_loopw [22] (fun i wr => ReadOuts w p g B vv (insS k sc).1 dd sd i wr) (fun i _ => dd - (intOf i).toNat)
      case atStart => exact HSO.out
      case round =>
        clear HSO
        obtain ⟨m, hm, rfl, hR⟩ := hrel
        have HRR := hide hR
        by_cases hlt : m < dd
        · obtain ⟨ov, ⟨oa, om, oc, rfl⟩, cov, hcall⟩ := routs_round w p g B HG.out HPL.out vv (insS k sc).1 (outsS m sd).1 (outsS m sd).2 wr hR (by have := (HO.out m).1; have := HCL2.out; omega)
          have CA := hide hcall
          have HLI : Hid ((outC (outS (outsS m sd).2).1).length = 33) := hide (outC_length (outS_all (HO.out m).2.2.1).1.2.1)
          have hk1 : (m : Int) < (dd : Int) := by omega
          have hk8 : m < 8 := by have := HCL2.out; omega
          have cov' : wr.drew.cell? ⟨g + 1, 2, none⟩ = some (.slice oa om oc) := cov
          clear hR hcall
          have HONE := hide (fold_whole (outC (outS (outsS m sd).2).1) #[.int .u64 0, .int .u8 0, .int .u8 0, .int .u8 0, .int .u8 0, .int .u8 0, .int .u8 0, .int .u8 0, .int .u8 0, .int .u8 0, .int .u8 0, .int .u8 0, .int .u8 0, .int .u8 0, .int .u8 0, .int .u8 0, .int .u8 0, .int .u8 0, .int .u8 0, .int .u8 0, .int .u8 0, .int .u8 0, .int .u8 0, .int .u8 0, .int .u8 0, .int .u8 0, .int .u8 0, .int .u8 0, .int .u8 0, .int .u8 0, .int .u8 0, .int .u8 0, .int .u8 0] HLI.out.symm)
          have hnm : (Tryd.f90.name == "runtime.NumGoroutine") = false := by kernel_rfl
          have hbd : Tryd.f90.body.isNone = false := by kernel_rfl
          go_wp2_with fail
          go_region_law (first
            | (refine step_go (vs := #[.pointer (some ⟨p, 0, none⟩)]) rfl 90 _ Tryd.func90 hnm hbd _ _ rfl (by simp [Act.eval, Act.put]) ?_; (with_reducible refine CA.out.mono ?_); rintro e w3 ⟨rfl, c3, f3, c3', v4, w4, hrun, c4, f4, ⟨va, vn, vc, rfl⟩, hR4⟩; refine ⟨_, rfl, ?_⟩; have hone := HONE.out; have hlen := HLI.out)
            | (refine step_app rfl (.tmp 25) (.tmp 28) 24 rfl rfl rfl hrun ?_))
          all_goals
            have R : Hid (ReadOuts w p g B vv (insS k sc).1 dd sd (.int .i64 ((m + 1 : Nat) : Int)) (w4.setCell ⟨g + 1, 2, none⟩ (.slice va vn vc))) := hide ⟨m + 1, by omega, rfl, hR4⟩
            clear hR4 c3 f3 c3' c4 f4 hrun hone hlen CA HONE HLI cov'
            go_wp2
            go_roundw
            case rel => first | exact R.out | ((repeat apply Exists.intro); exact ⟨R.out, rfl⟩)
            case measure => simp [intOf]; omega
        · have hk2 : (dd : Int) ≤ (m : Int) := by omega
          obtain rfl : m = dd := by omega
          obtain ⟨iv, ov, d1, d2, d3, d4, d5⟩ := hR.done HG.out HPL.out
          have HTT : Hid (wr.there g 0 [Value.int .u32 vv, iv, ov].length) := hide hR.res
          have D1 := hide d1
          have D2 := hide d2
          have D3 := hide d3
          have D4 := hide d4
          have D5 := hide d5
          clear hR d1 d2 d3 d4 d5
          go_wp2_with (first | (refine wpList_load_mid rfl 26 (.tmp 3) rfl (g + 1) 0 rfl [.int .u32 vv, iv, ov] _ D1.out Tryd.underlying26 rfl info_tx ?_) | (refine wp_store_row rfl 26 (.tmp 2) (.tmp 32) rfl g 0 [.int .u32 vv, iv, ov] rfl rfl HTT.out info_tx D2.out ?_))
          refine ret_row 2 26 rfl g 0 rfl [.int .u32 vv, iv, ov] (World.rangeAt_setCells_same _ _ _ _ HTT.out) _ Tryd.underlying26 rfl info_tx rfl ⟨iv, ov, ?_, ?_, D4.out, ?_⟩
          · rw [HEND.out]
          · rw [HEND.out]; exact D3.out
          · rw [HEND.out, HG.out]; exact D5.out

end Go.Proofs.YtjmifgdjmaelfaaDoor

/-
  What tx.Get and Whole answer at this program, whatever the bytes.
-/
namespace Go.Proofs.YtjmifgdjmaelfaaDoor
open Go.RowKit

/-- A row and two numbers that are a function's results. -/
theorem ret_row_tmp2 {P : Program} {fn : Func} {R : Ending → World → Prop} {a : Act} {w : World} (p q r : Tmp) (ty : TypeId) (hfn : fn.results = #[.cell p ty, .tmp q, .tmp r]) (b o : Nat) (hp : a.tmps.getD p undef = .pointer (some ⟨b, o, none⟩))
    (vs : List Value) (hA : w.rangeAt b o vs) (d : TypeDesc) (hu : P.underlying ty = some d) (hd : d.isRow = true) (hi : (P.info? ty).map (·.size) = some vs.length) (z y : Value) (hq : a.tmps.getD q undef = z) (hr : a.tmps.getD r undef = y)
    (hdf : a.defers = []) (hR : R (.returned (.tuple #[.agg vs.toArray, z, y])) w) : bodyPost P fn R .ret a w := by
  refine bodyPost_ret (v := .tuple #[.agg vs.toArray, z, y]) ?_ hdf hR
  have hp' : a.tmps[p]?.getD undef = .pointer (some ⟨b, o, none⟩) := by simpa using hp
  have hq' : a.tmps[q]?.getD undef = z := by simpa using hq
  have hr' : a.tmps[r]?.getD undef = y := by simpa using hr
  simp [results, hfn, hp', hq', hr', asAddr, run_loadVar_mid w b o ty vs d hA hu hd hi]
theorem range3 {w : World} {b : Nat} {x y z : Value} (h0 : w.cell? ⟨b, 0, none⟩ = some x) (h1 : w.cell? ⟨b, 1, none⟩ = some y) (h2 : w.cell? ⟨b, 2, none⟩ = some z) : w.rangeAt b 0 [x, y, z] := by
  intro j v hv
  rw [Nat.zero_add]
  rcases j with _ | _ | _ | j
  · simp only [List.getElem?_cons_zero, Option.some.injEq] at hv
    rw [← hv]; exact h0
  · simp only [List.getElem?_cons_succ, List.getElem?_cons_zero, Option.some.injEq] at hv
    rw [← hv]; exact h1
  · simp only [List.getElem?_cons_succ, List.getElem?_cons_zero, Option.some.injEq] at hv
    rw [← hv]; exact h2
  · simp at hv
/-- The transaction's rows. -/
def TxAt (w : World) (iv ov : Value) (t : Tr) : Prop := InsAt w iv t.ins ∧ OutsAt w ov t.outs
/-- What Get answers. -/
def GetDone (w : World) (l : List Int) (e : Ending) (w' : World) : Prop :=
  ∃ iv ov, e = .returned (.tuple #[.agg #[.int .u32 (gtT l).ver, iv, ov], .int .i64 (gtN l), .int .i64 (gtE l)]) ∧ Below w.heap.size w w' ∧ Keeps (fun k => w.heap.size ≤ k) w' fun w => TxAt w iv ov (gtT l)
theorem TxAt.none (w : World) : TxAt w (.slice none 0 0) (.slice none 0 0) noTr := ⟨InsAt.nil w, OutsAt.nil w⟩
theorem Rd.new (w : World) (v : Value) (l : List Int) (h : Bytes w v l) (hb : AllB l) (hl : l.length ≤ 900000) (t : TypeId) : Rd (w.alloc (.cells #[v, .int .i64 0] t)) w.heap.size (l, 0) := by
  have hn := range_new w [v, .int .i64 0] t
  have n0 := hn 0 _ rfl
  have n1 := hn 1 _ rfl
  simp only [Nat.add_zero, Nat.zero_add] at n0 n1
  exact ⟨v, n0, n1, there_new w _ t, h.old ((Below.refl _ _).alloc (Nat.le_refl _) _) (fun g hg => hg), hb, hl⟩

set_option maxRecDepth 100000 in
set_option maxHeartbeats 2000000 in
theorem tget_any (l : List Int) (v : Value) (w : World) (hv : Bytes w v l) (hb : AllB l) (hl : l.length ≤ 900000) :
    Calls Tryd.prog 31 #[v] w (GetDone w l) := by
  obtain ⟨W1, hW1⟩ : ∃ W1, W1 = w.alloc (.cells #[.int .u32 0, .slice none 0 0, .slice none 0 0] 26) := ⟨_, rfl⟩
  obtain ⟨W2, hW2⟩ : ∃ W2, W2 = W1.alloc (.cells #[v, .int .i64 0] 95) := ⟨_, rfl⟩
  have s1 : W1.heap.size = w.heap.size + 1 := by rw [hW1]; exact alloc_size _ _
  have b1 : Below w.heap.size w W1 := by rw [hW1]; exact (Below.refl _ _).alloc (Nat.le_refl _) _
  have b2 : Below W1.heap.size W1 W2 := by rw [hW2]; exact (Below.refl _ _).alloc (Nat.le_refl _) _
  have s2 : W2.heap.size = w.heap.size + 2 := by rw [hW2, alloc_size, s1]
  have t2 : W2.there w.heap.size 0 3 := there_on (by rw [hW1]; exact tx_there w) b2
  have r2 : Rd W2 (w.heap.size + 1) (l, 0) := by
    rw [← s1, hW2]
    exact Rd.new W1 v l (hv.below b1) hb hl _
  have T := hide (rtx_any W2 (w.heap.size + 1) (l, 0) r2)
  have BW := hide (below_on b1 b2)
  have TH := hide t2
  have S2 := hide s2
  have E1 := hide hW1
  have E2 := hide hW2
  have HE : Hid (gtE l = (txS (l, 0)).2.2 ∧ ((txS (l, 0)).2.2 = 0 → gtT l = (txS (l, 0)).1 ∧ gtN l = (l.length : Int) - ((txS (l, 0)).2.1.length : Int)) ∧ ((txS (l, 0)).2.2 ≠ 0 → gtT l = noTr ∧ gtN l = 0)) :=
    hide ⟨rfl, fun h => ⟨if_pos h, if_pos h⟩, fun h => ⟨if_neg h, if_neg h⟩⟩
  have HLS : Hid ((txS (l, 0)).2.1.length ≤ l.length) := hide (txS_all (s := (l, 0)) hb).2.2.2
  unfold TxDone at T
  generalize txS (l, 0) = A at *
  obtain ⟨tr, sr, er⟩ := A
  obtain ⟨a, cap, rfl, hc1, hc2⟩ := hv.form
  simp only at *
  clear hW1 hW2 s1 s2 b1 b2 t2 r2 hv hb
  go_enter Tryd.func31, Tryd.ntmps31
  go_upto_region 2 with fail
  rw [← E1.out, ← E2.out]
  clear E1 E2
  generalize hg : w.heap.size = g at *
  have HG := hide hg
  clear hg
  go_wp2_with fail
  refine T.out.mono ?_
  rintro e w3 ⟨iv, ov, rfl, hr3, hbs3, hk3⟩
  have l2 := S2.out
  obtain ⟨c0, c1, c2⟩ : (∃ u, w3.cell? ⟨g, 0, none⟩ = some u) ∧ (∃ u, w3.cell? ⟨g, 1, none⟩ = some u) ∧ ∃ u, w3.cell? ⟨g, 2, none⟩ = some u := by
    have ht := there_heap TH.out (hbs3.block g (by omega) (by omega) (by omega))
    have h0 := (ht 0 (by omega)).1
    have h1 := (ht 1 (by omega)).1
    have h2 := (ht 2 (by omega)).1
    simp only [Nat.zero_add] at h0 h1 h2
    exact ⟨Option.isSome_iff_exists.1 h0, Option.isSome_iff_exists.1 h1, Option.isSome_iff_exists.1 h2⟩
  have ht := there_heap TH.out (hbs3.block g (by omega) (by omega) (by omega))
  have f0 := there_free0 ht 0 (by omega)
  have f1 := there_free0 ht 1 (by omega)
  have f2 := there_free0 ht 2 (by omega)
  obtain ⟨u0, c0⟩ := c0
  obtain ⟨u1, c1⟩ := c1
  obtain ⟨u2, c2⟩ := c2
  obtain ⟨rv, d0, d1, -, dk, -, -⟩ := hr3
  obtain ⟨ra, rc, rfl, hrc1, hrc2⟩ := dk.self.form
  simp only at d0 d1 hrc1
  obtain ⟨ia, ic, rfl, hi1, hi2⟩ := hk3.self.1.form
  obtain ⟨oa, oc, rfl, ho1, ho2⟩ := hk3.self.2.form
  have hbel : Below w3.heap.size w3 (w3.alloc (.cells #[.int .u32 tr.ver, .slice ia tr.ins.length ic, .slice oa tr.outs.length oc] 26)) := (Below.refl _ _).alloc (Nat.le_refl _) _
  have hq := range_new w3 [.int .u32 tr.ver, .slice ia tr.ins.length ic, .slice oa tr.outs.length oc] 26
  have q0 := hq 0 _ rfl
  have q1 := hq 1 _ rfl
  have q2 := hq 2 _ rfl
  simp only [Nat.add_zero, Nat.zero_add] at q0 q1 q2
  have d0 := (hbel.cell (World.block_lt_of_cell? _ _ d0)).trans d0
  have d1 := (hbel.cell (World.block_lt_of_cell? _ _ d1)).trans d1
  have f0 := (hbel.frozen (World.block_lt_of_cell? _ _ c0)).trans f0
  have f1 := (hbel.frozen (World.block_lt_of_cell? _ _ c1)).trans f1
  have f2 := (hbel.frozen (World.block_lt_of_cell? _ _ c2)).trans f2
  have c0 := (hbel.cell (World.block_lt_of_cell? _ _ c0)).trans c0
  have c1 := (hbel.cell (World.block_lt_of_cell? _ _ c1)).trans c1
  have c2 := (hbel.cell (World.block_lt_of_cell? _ _ c2)).trans c2
  have HK : Hid (Keeps (fun k => g + 1 ≤ k) (w3.alloc (.cells #[.int .u32 tr.ver, .slice ia tr.ins.length ic, .slice oa tr.outs.length oc] 26)) (fun w => TxAt w (.slice ia tr.ins.length ic) (.slice oa tr.outs.length oc) tr)) := hide ((hk3.below hbel).weak fun k _ h => by omega)
  have HB : Hid (Below g w (w3.alloc (.cells #[.int .u32 tr.ver, .slice ia tr.ins.length ic, .slice oa tr.outs.length oc] 26))) := hide ((BW.out.trans (hbs3.ground (by omega) (by omega) (by omega))).alloc (by have := hbs3.size; omega) _)
  have hqg : w3.heap.size ≠ g := by have := hbs3.size; omega
  have hlt := HLS.out
  clear hk3 hbs3 ht dk T TH BW l2 hq hbel
  go_upto_region 3 with fail
  generalize w3.alloc (.cells #[.int .u32 tr.ver, .slice ia tr.ins.length ic, .slice oa tr.outs.length oc] 26) = W4 at *
  generalize w3.heap.size = q at *
  have HT4 : Hid (W4.there g 0 3) := hide fun j hj => by
    rw [Nat.zero_add]
    rcases (show j = 0 ∨ j = 1 ∨ j = 2 by omega) with rfl | rfl | rfl
    · exact ⟨by rw [c0]; rfl, f0⟩
    · exact ⟨by rw [c1]; rfl, f1⟩
    · exact ⟨by rw [c2]; rfl, f2⟩
  by_cases he : er = 0
  · subst he
    have hset : ∀ x y z : Value, ((W4.setCell ⟨g, 0, none⟩ x).setCell ⟨g, 1, none⟩ y).setCell ⟨g, 2, none⟩ z = W4.setCells g 0 [x, y, z] := fun _ _ _ => rfl
    have HSET := hide hset
    clear hset
    have R : Hid (∀ t : Tr, t = tr → GetDone w l (.returned (.tuple #[.agg #[.int .u32 t.ver, .slice ia tr.ins.length ic, .slice oa tr.outs.length oc], .int .i64 ((l.length : Int) - (sr.length : Int)), .int .i64 0])) (W4.setCells g 0 [.int .u32 tr.ver, .slice ia tr.ins.length ic, .slice oa tr.outs.length oc]).drew) := hide (by
      rintro t rfl
      obtain ⟨h1, h2, -⟩ := HE.out
      obtain ⟨h2, h3⟩ := h2 rfl
      refine ⟨_, _, by rw [h1, h2, h3], ?_, ?_⟩
      · rw [HG.out]
        exact (below_sets (Nat.le_refl g) _ 0 W4 HB.out).drew
      · rw [h2, HG.out]
        exact ((HK.out.step (w1 := (W4.setCells g 0 _).drew) (by show W4.heap.size ≤ (W4.setCells g 0 _).heap.size; rw [size_setCells]; exact Nat.le_refl _) fun k hk hp => (Besides.sets (p := g) (q := g) (w := W4) (Or.inl rfl) _ 0 W4 (Besides.refl _ _ _)).block k hk (by omega) (by omega)).weak fun k _ h => by omega))
    have HRG : Hid ((W4.setCells g 0 [.int .u32 tr.ver, .slice ia tr.ins.length ic, .slice oa tr.outs.length oc]).drew.rangeAt g 0 [.int .u32 tr.ver, .slice ia tr.ins.length ic, .slice oa tr.outs.length oc]) := hide (World.rangeAt_setCells_same _ _ _ _ HT4.out)
    clear HE HK HB HT4
    go_wp2_with fail
    go_region
    all_goals
      go_wp2_with fail
      rw [HSET.out]
      exact ret_row_tmp2 2 3 4 26 rfl g 0 rfl [.int .u32 tr.ver, .slice ia tr.ins.length ic, .slice oa tr.outs.length oc] HRG.out _ Tryd.underlying26 rfl info_tx _ _ rfl rfl rfl (R.out _ rfl)
  · have he' : (er == 0) = false := by simpa using he
    have hset : ∀ x y z : Value, ((W4.setCell ⟨g, 0, none⟩ x).setCell ⟨g, 1, none⟩ y).setCell ⟨g, 2, none⟩ z = W4.setCells g 0 [x, y, z] := fun _ _ _ => rfl
    have HSET := hide hset
    clear hset
    have R : Hid (GetDone w l (.returned (.tuple #[.agg #[.int .u32 0, .slice none 0 0, .slice none 0 0], .int .i64 0, .int .i64 er])) (W4.setCells g 0 [.int .u32 0, .slice none 0 0, .slice none 0 0]).drew) := hide (by
      obtain ⟨h1, -, h2⟩ := HE.out
      obtain ⟨h2, h3⟩ := h2 he
      refine ⟨.slice none 0 0, .slice none 0 0, by rw [h1, h2, h3]; rfl, ?_, ?_⟩
      · rw [HG.out]
        exact (below_sets (Nat.le_refl g) _ 0 W4 HB.out).drew
      · rw [h2]
        exact fun w' _ => TxAt.none w')
    have HRG : Hid ((W4.setCells g 0 [.int .u32 0, .slice none 0 0, .slice none 0 0]).drew.rangeAt g 0 [.int .u32 0, .slice none 0 0, .slice none 0 0]) := hide (World.rangeAt_setCells_same _ _ _ _ HT4.out)
    clear HE HK HB HT4 he
    go_wp2_with fail
    go_region
    all_goals
      go_wp2_with fail
      rw [HSET.out]
      exact ret_row_tmp2 2 3 4 26 rfl g 0 rfl [.int .u32 0, .slice none 0 0, .slice none 0 0] HRG.out _ Tryd.underlying26 rfl info_tx _ _ rfl rfl rfl R.out

end Go.Proofs.YtjmifgdjmaelfaaDoor

/-
  What tx.Whole answers at this program, whatever the bytes.
-/
namespace Go.Proofs.YtjmifgdjmaelfaaDoor
open Go.RowKit

/-- What Whole answers. -/
def WholeDone (w : World) (l : List Int) (e : Ending) (w' : World) : Prop :=
  ∃ iv ov, e = .returned (.tuple #[.agg #[.int .u32 (whT l).ver, iv, ov], .int .i64 (whE l)]) ∧ Below w.heap.size w w' ∧ Keeps (fun k => w.heap.size ≤ k) w' fun w => TxAt w iv ov (whT l)
theorem set3 (w : World) (g : Nat) (x y z : Value) : ((w.setCell ⟨g, 0, none⟩ x).setCell ⟨g, 1, none⟩ y).setCell ⟨g, 2, none⟩ z = w.setCells g 0 [x, y, z] := rfl

set_option maxRecDepth 100000 in
set_option maxHeartbeats 2000000 in
theorem twhole_any (l : List Int) (v : Value) (w : World) (hv : Bytes w v l) (hb : AllB l) (hl : l.length ≤ 900000) :
    Calls Tryd.prog 32 #[v] w (WholeDone w l) := by
  have b1 : Below w.heap.size w (w.alloc (.cells #[.int .u32 0, .slice none 0 0, .slice none 0 0] 26)) := (Below.refl _ _).alloc (Nat.le_refl _) _
  have s1 : (w.alloc (.cells #[.int .u32 0, .slice none 0 0, .slice none 0 0] 26)).heap.size = w.heap.size + 1 := alloc_size _ _
  have t1 := tx_there w
  have G := hide (tget_any l v _ (hv.below b1) hb hl)
  have B1 := hide b1
  have S1 := hide s1
  have T1 := hide t1
  have HN : Hid (gtE l = 0 → gtN l ≤ l.length ∧ 0 ≤ gtN l) := hide fun h => by
    obtain ⟨n, h1, h2, -⟩ := get_ok hb h
    rw [h1]; omega
  have HE : Hid (whE l = (if gtE l ≠ 0 then gtE l else if gtN l < l.length then 5 else 0) ∧ whT l = if whE l = 0 then gtT l else noTr) := hide ⟨rfl, rfl⟩
  obtain ⟨a, cap, rfl, hc1, hc2⟩ := hv.form
  clear b1 s1 t1 hv hb
  unfold GetDone at G
  generalize gtT l = T at *
  generalize gtE l = E at *
  generalize gtN l = N at *
  go_enter Tryd.func32, Tryd.ntmps32
  go_upto_region 1 with fail
  generalize w.alloc (.cells #[.int .u32 0, .slice none 0 0, .slice none 0 0] 26) = W1 at *
  generalize hg : w.heap.size = g at *
  have HG := hide hg
  clear hg
  go_wp2_with fail
  refine G.out.mono ?_
  rintro e w3 ⟨iv, ov, rfl, hb3, hk3⟩
  have l1 := S1.out
  have t3 := there_on T1.out hb3
  obtain ⟨ia, ic, rfl, hi1, hi2⟩ := hk3.self.1.form
  obtain ⟨oa, oc, rfl, ho1, ho2⟩ := hk3.self.2.form
  have hbel : Below w3.heap.size w3 (w3.alloc (.cells #[.int .u32 T.ver, .slice ia T.ins.length ic, .slice oa T.outs.length oc] 26)) := (Below.refl _ _).alloc (Nat.le_refl _) _
  have hq := range_new w3 [.int .u32 T.ver, .slice ia T.ins.length ic, .slice oa T.outs.length oc] 26
  have q0 := hq 0 _ rfl
  have q1 := hq 1 _ rfl
  have q2 := hq 2 _ rfl
  simp only [Nat.add_zero, Nat.zero_add] at q0 q1 q2
  have t4 := there_on t3 hbel
  have HT4 := hide t4
  have f0 := there_free0 t4 0 (by omega)
  have f1 := there_free0 t4 1 (by omega)
  have f2 := there_free0 t4 2 (by omega)
  obtain ⟨u0, c0⟩ := Option.isSome_iff_exists.1 (t4 0 (by omega)).1
  obtain ⟨u1, c1⟩ := Option.isSome_iff_exists.1 (t4 1 (by omega)).1
  obtain ⟨u2, c2⟩ := Option.isSome_iff_exists.1 (t4 2 (by omega)).1
  simp only [Nat.zero_add] at c0 c1 c2
  have HK : Hid (Keeps (fun k => g + 1 ≤ k) (w3.alloc (.cells #[.int .u32 T.ver, .slice ia T.ins.length ic, .slice oa T.outs.length oc] 26)) (fun w => TxAt w (.slice ia T.ins.length ic) (.slice oa T.outs.length oc) T)) := hide ((hk3.below hbel).weak fun k _ h => by omega)
  have HB : Hid (Below g w (w3.alloc (.cells #[.int .u32 T.ver, .slice ia T.ins.length ic, .slice oa T.outs.length oc] 26))) := hide ((B1.out.trans (hb3.mono (by omega))).alloc (by have := hb3.size; omega) _)
  have hqg : w3.heap.size ≠ g := by have := hb3.size; omega
  clear hk3 hb3 t3 t4 G B1 S1 T1 l1 hq hbel
  go_upto_region 2 with fail
  generalize w3.alloc (.cells #[.int .u32 T.ver, .slice ia T.ins.length ic, .slice oa T.outs.length oc] 26) = W4 at *
  generalize w3.heap.size = q at *
  have HSET := hide (set3 W4 g)
  have H0 : Hid (whE l ≠ 0 → WholeDone w l (.returned (.tuple #[.agg #[.int .u32 0, .slice none 0 0, .slice none 0 0], .int .i64 (whE l)])) (W4.setCells g 0 [.int .u32 0, .slice none 0 0, .slice none 0 0])) := hide fun he => by
    have h2 := HE.out.2
    rw [if_neg he] at h2
    refine ⟨.slice none 0 0, .slice none 0 0, by rw [h2]; rfl, ?_, ?_⟩
    · rw [HG.out]
      exact below_sets (Nat.le_refl g) _ 0 W4 HB.out
    · rw [h2]
      exact fun w' _ => TxAt.none w'
  have HR0 : Hid ((W4.setCells g 0 [.int .u32 0, .slice none 0 0, .slice none 0 0]).rangeAt g 0 [.int .u32 0, .slice none 0 0, .slice none 0 0]) := hide (World.rangeAt_setCells_same _ _ _ _ HT4.out)
  by_cases he : E = 0
  · subst he
    by_cases hlt : N < (l.length : Int)
    · have e5 : whE l = 5 := by rw [HE.out.1, if_neg (by simp), if_pos hlt]
      have R := hide (H0.out (by rw [e5]; decide))
      rw [e5] at R
      have HN' := HN.out rfl
      clear HE HK HB HT4 H0 e5
      go_wp2_with fail
      rw [HSET.out]
      exact ret_row_tmp 2 3 26 rfl g 0 rfl [.int .u32 0, .slice none 0 0, .slice none 0 0] HR0.out _ Tryd.underlying26 rfl info_tx _ rfl rfl R.out
    · have e5 : whE l = 0 := by rw [HE.out.1, if_neg (by simp), if_neg hlt]
      have R : Hid (∀ t : Tr, t = T → WholeDone w l (.returned (.tuple #[.agg #[.int .u32 t.ver, .slice ia T.ins.length ic, .slice oa T.outs.length oc], .int .i64 0])) (W4.setCells g 0 [.int .u32 T.ver, .slice ia T.ins.length ic, .slice oa T.outs.length oc])) := hide (by
        rintro t rfl
        have h2 := HE.out.2
        rw [if_pos e5] at h2
        refine ⟨_, _, by rw [e5, h2], ?_, ?_⟩
        · rw [HG.out]
          exact below_sets (Nat.le_refl g) _ 0 W4 HB.out
        · rw [h2, HG.out]
          exact ((HK.out.step (w1 := W4.setCells g 0 _) (by rw [size_setCells]; exact Nat.le_refl _) fun k hk hp => (Besides.sets (p := g) (q := g) (w := W4) (Or.inl rfl) _ 0 W4 (Besides.refl _ _ _)).block k hk (by omega) (by omega)).weak fun k _ h => by omega))
      have HRG : Hid ((W4.setCells g 0 [.int .u32 T.ver, .slice ia T.ins.length ic, .slice oa T.outs.length oc]).rangeAt g 0 [.int .u32 T.ver, .slice ia T.ins.length ic, .slice oa T.outs.length oc]) := hide (World.rangeAt_setCells_same _ _ _ _ HT4.out)
      have HN' := HN.out rfl
      clear HE HK HB HT4 H0 HR0 e5
      go_wp2_with fail
      rw [HSET.out]
      exact ret_row_tmp 2 3 26 rfl g 0 rfl [.int .u32 T.ver, .slice ia T.ins.length ic, .slice oa T.outs.length oc] HRG.out _ Tryd.underlying26 rfl info_tx _ rfl rfl (R.out _ rfl)
  · have he' : (E == 0) = false := by simpa using he
    have e5 : whE l = E := by rw [HE.out.1, if_pos he]
    have R := hide (H0.out (by rw [e5]; exact he))
    rw [e5] at R
    clear HE HK HB HT4 H0 e5 he HN
    go_wp2_with fail
    rw [HSET.out]
    exact ret_row_tmp 2 3 26 rfl g 0 rfl [.int .u32 0, .slice none 0 0, .slice none 0 0] HR0.out _ Tryd.underlying26 rfl info_tx _ rfl rfl R.out

end Go.Proofs.YtjmifgdjmaelfaaDoor
