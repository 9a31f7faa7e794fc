/-
  For every list of coins and every coin the law CoinCopies returns true: a copy has the same coins, and what is done to either doesn't change the other one; no condition.
-/
import Derived.Test.YtkemdfikcmgaaaaCoAlive
import Derived.Test.YtkemdfikcmgaaaaCoTwo
import Derived.Test.YtkemdfikcmgaaaaCoCopy
import Derived.Test.YtkemdfikcmgaaaaCoCame
import Derived.Test.YtkemdfikcmgaaaaRefCoAts
namespace Go.Proofs.Ytkemdfikcmgaaaa
open Go.ChangeShapes Go.WideShapes Go.ChangeAt Go.RowKit

set_option maxRecDepth 100000 in
set_option maxHeartbeats 600000 in
theorem copies_long (w : World) (v : Value) (L : List Cn) (c : Cn) (hV : CnsAt w v L) (hlen : 300 < L.length) :
    Calls Try.prog 8 #[v, .agg (cnC c).toArray] w fun e w' => e = .returned (.bool true) ∧ Below w.heap.size w w' := by
  have hb0 := below_new w (.cells (cnC c).toArray 59)
  have CAL := hide (alive9_any (w.alloc (.cells (cnC c).toArray 59)))
  have HB0 := hide hb0
  obtain ⟨a, cap, rfl, hc1, hc2⟩ := hV.form
  have HML := hide (fun w' => many_yes L.length a cap w' hlen)
  clear hV hlen hb0
  go_enter Try.func8, Try.ntmps8
  go_upto_region 1 with fail
  generalize w.alloc (.cells (cnC c).toArray 59) = W0 at *
  go_wp2_with fail
  refine CAL.out.mono ?_
  rintro e w1 ⟨rfl, hb1⟩
  have HB1 := hide (below_on HB0.out hb1)
  clear hb1 CAL
  go_wp2_with fail
  refine (HML.out w1).mono ?_
  rintro e w2 ⟨rfl, rfl⟩
  go_wp2
  go_ret
  exact ⟨rfl, HB1.out⟩
set_option maxRecDepth 100000 in
set_option maxHeartbeats 600000 in
theorem copies_twice (w : World) (v : Value) (L : List Cn) (c : Cn) (hV : CnsAt w v L) (hok : ∀ c ∈ L, CnOk c) (hlen : L.length ≤ 300) (hN : ¬ (L.map Cn.pt).Nodup) :
    Calls Try.prog 8 #[v, .agg (cnC c).toArray] w fun e w' => e = .returned (.bool true) ∧ Below w.heap.size w w' := by
  have hb0 := below_new w (.cells (cnC c).toArray 59)
  have CAL := hide (alive9_any (w.alloc (.cells (cnC c).toArray 59)))
  have HB0 := hide hb0
  have HV := hide hV
  have HOK := hide hok
  have HN := hide hN
  have HLN : Hid (L.length ≤ 1000) := hide (by omega)
  obtain ⟨a, cap, rfl, hc1, hc2⟩ := hV.form
  have HML := hide (fun w' => many_no L.length a cap w' hlen)
  clear hV hlen hb0 hok hN
  go_enter Try.func8, Try.ntmps8
  go_upto_region 1 with fail
  generalize w.alloc (.cells (cnC c).toArray 59) = W0 at *
  go_wp2_with fail
  refine CAL.out.mono ?_
  rintro e w1 ⟨rfl, hb1⟩
  have HB1 := hide (below_on HB0.out hb1)
  have CN := hide (new_twice L _ w1 (HV.out.on HB1.out) HOK.out HLN.out HN.out)
  clear hb1 CAL
  go_wp2_with fail
  refine (HML.out w1).mono ?_
  rintro e w2 ⟨rfl, hw2⟩
  rw [hw2]
  clear hw2
  go_wp2_with fail
  refine CN.out.mono ?_
  rintro e w3 ⟨rfl, hb3⟩
  have HB3 := hide (below_on HB1.out hb3)
  clear hb3
  go_wp2
  go_ret
  exact ⟨rfl, HB3.out⟩
/-- One more is put, or refused. -/
theorem put_one (w : World) (b k : Nat) (L : List Cn) (c : Cn) (hc : CnOk c) (hl : L.length ≤ 5000) : ∃ (E : Int) (T : List Cn), ((E = 0 ∧ T = L ++ [c]) ∨ (E ≠ 0 ∧ T = L)) ∧
    ∀ (W : World) (v : Value), SetAt W b (some k) L → Keeps (off b k) W (fun w => CnsAt w v [c]) → w.heap.size ≤ W.heap.size →
      Calls Try.prog 12 #[.pointer (some ⟨b, 0, none⟩), v] W fun e w' => e = .returned (.int .i64 E) ∧ SetAt w' b (some k) T ∧ Besides b k W w' := by
  have hone : ∀ x ∈ [c], CnOk x := fun x hx => by rw [List.mem_singleton.1 hx]; exact hc
  by_cases h : c.pt ∈ L.map Cn.pt
  · refine ⟨10, L, Or.inr ⟨by omega, rfl⟩, fun W v hs hv _ => ?_⟩
    refine (put_there W b (some k) L hs [c] v hv.self hone (by simp) (List.pairwise_singleton _ _) ⟨c.pt, by simp, h⟩).mono ?_
    rintro e w' ⟨rfl, hb⟩
    exact ⟨rfl, hs.on hb, .of_below hb⟩
  · refine ⟨0, L ++ [c], Or.inl ⟨rfl, rfl⟩, fun W v hs hv _ => ?_⟩
    refine (put_ok W b (some k) L hs [c] v hv hone (by simp) (by omega) (List.pairwise_singleton _ _) (fun p hp => by simp at hp; rw [hp]; exact h)).mono ?_
    rintro e w' ⟨rfl, k', hset, hk, hbes⟩
    obtain rfl : k' = k := by
      rcases hk with e | ⟨e, -⟩
      · exact (Option.some.inj e).symm
      · cases e
    exact ⟨rfl, hset, hbes⟩
set_option maxRecDepth 100000 in
set_option maxHeartbeats 1000000 in
theorem copies_main (w : World) (v : Value) (L : List Cn) (c : Cn) (hV : CnsAt w v L) (hok : ∀ c ∈ L, CnOk c) (hc : CnOk c) (hlen : L.length ≤ 300) (hN : (L.map Cn.pt).Nodup) :
    Calls Try.prog 8 #[v, .agg (cnC c).toArray] w fun e w' => e = .returned (.bool true) ∧ Below w.heap.size w w' := by
  have hb0 := below_new w (.cells (cnC c).toArray 59)
  have CAL := hide (alive9_any (w.alloc (.cells (cnC c).toArray 59)))
  have HB0 := hide hb0
  have HC0 := hide (range_new w (cnC c) 59)
  have HCL := hide (cnC_length hc)
  have HIC : Hid ((Try.prog.info? 59).map (·.size) = some (cnC c).length) := hide (by rw [HCL.out]; exact info_cn)
  have HC := hide hc
  have HV := hide hV
  have HOK := hide hok
  have HN := hide hN
  have HLN : Hid (L.length ≤ 300) := hide hlen
  obtain ⟨a, cap, rfl, hc1, hc2⟩ := hV.form
  have HML := hide (fun w' => many_no L.length a cap w' hlen)
  clear hV hlen hb0 hok hN hc hc1 hc2
  go_enter Try.func8, Try.ntmps8
  go_upto_region 1 with fail
  generalize w.alloc (.cells (cnC c).toArray 59) = W0 at *
  go_wp2_with fail
  refine CAL.out.mono ?_
  rintro e w1 ⟨rfl, hb1⟩
  have HB1 := hide (below_on HB0.out hb1)
  have HC1 := hide (range_on HC0.out hb1)
  have CN := hide (new_ok L _ w1 (HV.out.on HB1.out) HOK.out (by have := HLN.out; omega) HN.out)
  clear hb1 CAL HC0 HB0
  go_wp2_with fail
  refine (HML.out w1).mono ?_
  rintro e w2 ⟨rfl, hw2⟩
  rw [hw2]
  clear hw2
  -- New
  go_wp2_with fail
  refine CN.out.mono ?_
  rintro e w2 ⟨b, k, rfl, hset, hbb, hkb, hb2⟩
  have HS2 := hide hset
  have HB2 := hide (below_on HB1.out hb2)
  have HC2 := hide (range_on HC1.out hb2)
  have HBK : Hid (w.heap.size ≤ b ∧ w.heap.size ≤ k ∧ b < w2.heap.size ∧ k < w2.heap.size) := hide ⟨Nat.le_trans HB1.out.size hbb, Nat.le_trans HB1.out.size hkb, hset.lt, (hset.2.2.2 k rfl).2.lt⟩
  have CC := hide (copy_any w2 b k L hset)
  clear hset hbb hkb hb2 CN HB1 HC1
  -- Copy
  go_wp2_with fail
  refine CC.out.mono ?_
  rintro e w3 ⟨b', k', rfl, hset, hbb, hkb, hb3⟩
  have HS3 := hide (HS2.out.on hb3)
  have HT3 := hide hset
  have HB3 := hide (below_on HB2.out hb3)
  have HC3 := hide (range_on HC2.out hb3)
  have HBK' : Hid (w2.heap.size ≤ b' ∧ w2.heap.size ≤ k' ∧ b' < w3.heap.size ∧ k' < w3.heap.size) := hide ⟨hbb, hkb, hset.lt, (hset.2.2.2 k' rfl).2.lt⟩
  have CA := hide (all_any w3 b k L HS3.out (by have := HLN.out; omega))
  clear hset hbb hkb hb3 CC HS2 HB2 HC2
  -- was
  go_wp2_with fail
  refine CA.out.mono ?_
  rintro e w4 ⟨v1, M, rfl, hp, hs, hrow, hb4⟩
  have HP := hide (show M.Perm L ∧ SortC M from ⟨hp, hs⟩)
  have HW4 := hide (keep_own (base' := w3.heap.size) hrow (Nat.le_refl _))
  have HS4 := hide (HS3.out.on hb4)
  have HT4 := hide (HT3.out.on hb4)
  have HB4 := hide (below_on HB3.out hb4)
  have HC4 := hide (range_on HC3.out hb4)
  have HSZ : Hid (w2.heap.size ≤ w3.heap.size) := hide (by have := HBK'.out; omega)
  have HMK : Hid (∀ x ∈ M, CnOk x) := hide (fun x hx => HOK.out x (hp.mem_iff.1 hx))
  have HZ4 : Hid (w3.heap.size ≤ w4.heap.size) := hide hb4.size
  have CA2 := hide (all_any w4 b' k' L HT4.out (by have := HLN.out; omega))
  clear hp hs hrow hb4 CA HS3 HT3 HB3 HC3
  -- the copy's
  go_wp2_with fail
  refine CA2.out.mono ?_
  rintro e w5 ⟨v2, M2, rfl, hp, hs, hrow, hb5⟩
  obtain rfl : M2 = M := sort_unique hs HP.out.2 (hp.trans HP.out.1.symm)
  have HW5 := hide (HW4.out.below hb5)
  have CS := hide (rsamecn_eq M2 v2 v1 w5 hrow.row HW5.out.self HMK.out)
  have HS5 := hide (HS4.out.on hb5)
  have HT5 := hide (HT4.out.on hb5)
  have HB5 := hide (below_on HB4.out hb5)
  have HZ5 : Hid (w3.heap.size ≤ w5.heap.size) := hide (Nat.le_trans HZ4.out hb5.size)
  have HC5 := hide (range_on HC4.out hb5)
  clear hp hs hrow hb5 CA2 HS4 HT4 HB4 HC4 HW4
  go_wp2_with fail
  refine CS.out.mono ?_
  rintro e w6 ⟨rfl, hb6⟩
  have HW6 := hide (HW5.out.below hb6)
  have HS6 := hide (HS5.out.on hb6)
  have HT6 := hide (HT5.out.on hb6)
  have HB6 := hide (below_on HB5.out hb6)
  have HZ6 : Hid (w3.heap.size ≤ w6.heap.size) := hide (Nat.le_trans HZ5.out hb6.size)
  have HC6 := hide (range_on HC5.out hb6)
  clear hb6 CS HS5 HT5 HB5 HC5 HW5
  obtain ⟨E, T, hET, hput⟩ := put_one w3 b' k' L c HC.out (by have := HLN.out; omega)
  have HET := hide hET
  have hb7 := below_new w6 (.cells (cnC c).toArray 59)
  have HW7 := hide (HW6.out.below hb7)
  have HS7 := hide (HS6.out.on hb7)
  have HB7 := hide (below_on HB6.out hb7)
  have HC7 := hide (range_on HC6.out hb7)
  have hk7 : Keeps (off b' k') (w6.alloc (.cells (cnC c).toArray 59)) (fun w => CnsAt w (.slice (some ⟨w6.heap.size, 0, none⟩) 1 1) [c]) :=
    (cns_one w6 c HC.out).keeps2 fun _ g hg => by
      have h1 := HZ6.out
      have h2 := HBK'.out
      obtain rfl : w6.heap.size = g := by simpa [Value.ownBlock] using hg
      exact ⟨by omega, by omega⟩
  have HPUT := hide (hput _ _ (HT6.out.on hb7) hk7 (by have := HZ6.out; have := hb7.size; omega))
  have HZ7 : Hid (w3.heap.size ≤ (w6.alloc (.cells (cnC c).toArray 59)).heap.size) := hide (by have := HZ6.out; have := hb7.size; omega)
  clear hET hput hb7 hk7 HW6 HS6 HT6 HB6
  -- Put into the copy
  go_wp2_with (first
    | (refine cw_load (by rfl) 59 (.tmp 3) rfl w.heap.size 0 rfl (cnC c) _ HC6.out Try.underlying59 rfl HIC.out ?_)
    | (refine cw_build1 (by rfl) 30 59 (.tmp 38) rfl _ 66 80 Try.underlying30 infoCn (by omega) (by omega) (cnC c) HCL.out rfl ?_))
  generalize w6.alloc (.cells (cnC c).toArray 59) = w7 at *
  refine HPUT.out.mono ?_
  rintro e w8 ⟨rfl, hset, hbes⟩
  have HT8 := hide hset
  have HS8 := hide (HS7.out.besides hbes (by have h1 := HBK.out; have h2 := HBK'.out; exact ⟨by omega, by omega⟩) (fun y hy => by cases hy; have h1 := HBK.out; have h2 := HBK'.out; exact ⟨by omega, by omega⟩))
  have HW8 := hide (keep_over HW7.out hbes (by have := HBK'.out; omega) (by have := HBK'.out; omega))
  have HB8 := hide (besides_below HB7.out hbes (by have := HBK.out; have := HBK'.out; omega) (by have := HBK.out; have := HBK'.out; omega) (Nat.le_refl _))
  have HZ8 : Hid (w3.heap.size ≤ w8.heap.size) := hide (Nat.le_trans HZ7.out hbes.size)
  have CA3 := hide (all_any w8 b k L HS8.out (by have := HLN.out; omega))
  clear hset hbes HPUT HS7 HW7 HB7 HC6 HC7 HZ7 HZ6
  -- the set's again
  go_wp2_with fail
  refine CA3.out.mono ?_
  rintro e w9 ⟨v3, M3, rfl, hp, hs, hrow, hb9⟩
  obtain rfl : M3 = M2 := sort_unique hs HP.out.2 (hp.trans HP.out.1.symm)
  have HW9 := hide (HW8.out.below hb9)
  have CS3 := hide (rsamecn_eq M3 v3 v1 w9 hrow.row HW9.out.self HMK.out)
  have HS9 := hide (HS8.out.on hb9)
  have HT9 := hide (HT8.out.on hb9)
  have HB9 := hide (below_on HB8.out hb9)
  have HZ9 : Hid (w3.heap.size ≤ w9.heap.size) := hide (Nat.le_trans HZ8.out hb9.size)
  clear hp hs hrow hb9 CA3 HS8 HT8 HB8 HW8 HZ8
  go_wp2_with fail
  refine CS3.out.mono ?_
  rintro e w10 ⟨rfl, hb10⟩
  have HW10 := hide (HW9.out.below hb10)
  have HS10 := hide (HS9.out.on hb10)
  have HT10 := hide (HT9.out.on hb10)
  have HB10 := hide (below_on HB9.out hb10)
  have HZ10 : Hid (w3.heap.size ≤ w10.heap.size) := hide (Nat.le_trans HZ9.out hb10.size)
  have HTL : Hid (T.length ≤ 301) := hide (by
    have := HLN.out
    rcases HET.out with ⟨-, rfl⟩ | ⟨-, rfl⟩
    · simp; omega
    · omega)
  have CA4 := hide (all_any w10 b' k' T HT10.out (by have := HTL.out; omega))
  clear hb10 CS3 HS9 HT9 HB9 HW9 HZ9
  -- now
  go_wp2_with fail
  refine CA4.out.mono ?_
  rintro e w11 ⟨v4, M4, rfl, hp, hs, hrow, hb11⟩
  have HP4 := hide (show M4.Perm T ∧ SortC M4 from ⟨hp, hs⟩)
  have HN11 := hide (keep_own (base' := w3.heap.size) hrow HZ10.out)
  have HMK4 : Hid (∀ x ∈ M4, CnOk x) := hide (fun x hx => HT10.out.ok.2 x (hp.mem_iff.1 hx))
  have HW11 := hide (HW10.out.below hb11)
  have HS11 := hide (HS10.out.on hb11)
  have HT11 := hide (HT10.out.on hb11)
  have HB11 := hide (below_on HB10.out hb11)
  have HZ11 : Hid (w3.heap.size ≤ w11.heap.size) := hide (Nat.le_trans HZ10.out hb11.size)
  have CR := hide (rats_any L _ w11 (HV.out.on HB11.out) HOK.out (by have := HLN.out; omega))
  clear hp hs hrow hb11 CA4 HS10 HT10 HB10 HW10 HZ10
  -- Take of all
  go_wp2_with fail
  refine CR.out.mono ?_
  rintro e w12 ⟨pv, rfl, hb12, hrow⟩
  have hpk : Keeps (off b ((some k).getD b)) w12 fun w => PsAt w pv (L.map Cn.pt) := by
    have hk := own_keeps (P := off b ((some k).getD b)) hrow fun g h1 h2 => by
      have h3 := HBK.out
      have h4 := HSZ.out
      have h5 := HZ11.out
      exact ⟨by omega, by simp; omega⟩
    unfold PsAt
    rw [List.map_map]
    exact hk
  have CT := hide (take_ok w12 b (some k) L (HS11.out.on hb12) L pv hpk (by have := HLN.out; omega) HN.out (fun c hc => hc))
  have HN12 := hide (HN11.out.below hb12)
  have HW12 := hide (HW11.out.below hb12)
  have HT12 := hide (HT11.out.on hb12)
  have HB12 := hide (below_on HB11.out hb12)
  clear hrow hpk hb12 CR HN11 HW11 HT11 HS11 HB11 HZ11
  go_wp2_with fail
  refine CT.out.mono ?_
  rintro e w13 ⟨xv, rfl, hset, hbes, -⟩
  rw [drop_all] at hset
  have HL13 := hide (len_any w13 b (some k) [] hset)
  have HT13 := hide (HT12.out.besides hbes (by have h1 := HBK.out; have h2 := HBK'.out; exact ⟨by omega, by simp; omega⟩) (fun y hy => by cases hy; have h1 := HBK.out; have h2 := HBK'.out; exact ⟨by omega, by simp; omega⟩))
  have HN13 := hide (keep_over HN12.out hbes (by have := HBK.out; have := HSZ.out; omega) (by have := HBK.out; have := HSZ.out; simp; omega))
  have HW13 := hide (keep_over HW12.out hbes (by have := HBK.out; have := HSZ.out; omega) (by have := HBK.out; have := HSZ.out; simp; omega))
  have HB13 := hide (besides_below HB12.out hbes (by have := HBK.out; omega) (by have := HBK.out; simp; omega) (Nat.le_refl _))
  have CA5 := hide (all_any w13 b' k' T HT13.out (by have := HTL.out; omega))
  have HV1 : Hid (CnsAt w13 v1 M3) := hide HW13.out.self
  have HV4 : Hid (CnsAt w13 v4 M4) := hide HN13.out.self
  clear hset hbes CT HN12 HW12 HT12 HB12 HN13 HW13
  obtain ⟨a1, cap1, rfl, hx1, hx2⟩ := HV1.out.form
  obtain ⟨a4, cap4, rfl, hy1, hy2⟩ := HV4.out.form
  have hl1 : M3.length = L.length := HP.out.1.length_eq
  have hl4 : M4.length = T.length := HP4.out.1.length_eq
  have HLEN : Hid ((E = 0 ∧ (M4.length : Int) = (M3.length : Int) + 1) ∨ (E ≠ 0 ∧ (M4.length : Int) = (M3.length : Int))) := hide (by
    rcases HET.out with ⟨h, h'⟩ | ⟨h, h'⟩
    · exact Or.inl ⟨h, by rw [hl4, hl1, h']; simp⟩
    · exact Or.inr ⟨h, by rw [hl4, hl1, h']⟩)
  have hn1 : (M3.length : Int) ≤ 300 := by rw [hl1]; have := HLN.out; omega
  clear hl1 hl4
  go_wp2_with fail
  refine HL13.out.mono ?_
  rintro e w14 ⟨rfl, hw14⟩
  rw [hw14]
  clear hw14
  go_wp2_with fail
  refine CA5.out.mono ?_
  rintro e w15 ⟨v5, M5, rfl, hp, hs, hrow, hb15⟩
  obtain rfl : M5 = M4 := sort_unique hs HP4.out.2 (hp.trans HP4.out.1.symm)
  have CS5 := hide (rsamecn_eq M5 v5 _ w15 hrow.row (HV4.out.on hb15) HMK4.out)
  have HB15 := hide (below_on HB13.out hb15)
  clear hp hs hrow hb15 CA5
  go_wp2_with fail
  refine CS5.out.mono ?_
  rintro e w16 ⟨rfl, hb16⟩
  have R := hide (below_on HB15.out hb16)
  clear hb16 CS5
  rcases HLEN.out with ⟨h0, h1⟩ | ⟨h0, h1⟩
  · subst h0
    go_wp2
    go_ret
    exact ⟨rfl, R.out⟩
  · have h2 : ((E == 0) == ((M3.length : Int) == (M3.length : Int) + 1)) = true := by
      have e1 : (E == 0) = false := by simpa using h0
      have e2 : ((M3.length : Int) == (M3.length : Int) + 1) = false := by simp; omega
      rw [e1, e2]
      rfl
    have HE := hide h2
    clear h2
    go_wp2
    go_ret
    exact ⟨congrArg (fun b => Ending.returned (.bool b)) HE.out, R.out⟩
theorem coinCopies_any {w : World} (v : Value) (L : List Cn) (hok : ∀ c ∈ L, CnOk c) (hV : CnsAt w v L) (c : Cn) (hc : CnOk c) :
    Calls Try.prog 8 #[v, .agg (cnC c).toArray] w fun e w' => e = .returned (.bool true) ∧ Below w.heap.size w w' := by
  by_cases h1 : L.length ≤ 300
  · rcases nodup_or L with hN | hN
    · exact copies_main w v L c hV hok hc h1 hN
    · exact copies_twice w v L c hV hok h1 hN
  · exact copies_long w v L c hV (by omega)
set_option maxRecDepth 100000 in
theorem coinCopies_lifted (os : Os) (started : os.Started) (H : Type) (enc : TypeId × Value → H) :
    ReturnsInHanded {} Try.checked os 8 .any (Rows.coinCopiesSpec.pre6 enc Try.prog Try.f8 Rows.coinCopiesRow.domain false) (Rows.coinCopiesSpec.post enc Try.prog Try.f8 false true false false) := by
  refine returnsInHanded_of_change (C := Try.checked) own started (by kernel_rfl) Try.func8
    (ChangeSpec.witness6 (enc := enc) (C := Try.checked) false ⟨#[], #[.slice none 0 0, .agg (List.toArray (.int .u8 0 :: .int .u8 0 :: .int .u8 0 :: .int .u8 0 :: .int .u8 0 :: .int .u8 0 :: .int .u8 0 :: .int .u8 0 :: .int .u8 0 :: .int .u8 0 :: .int .u8 0 :: .int .u8 0 :: .int .u8 0 :: .int .u8 0 :: .int .u8 0 :: .int .u8 0 :: .int .u8 0 :: .int .u8 0 :: .int .u8 0 :: .int .u8 0 :: .int .u8 0 :: .int .u8 0 :: .int .u8 0 :: .int .u8 0 :: .int .u8 0 :: .int .u8 0 :: .int .u8 0 :: .int .u8 0 :: .int .u8 0 :: .int .u8 0 :: .int .u8 0 :: .int .u8 0 :: .int .u32 0 :: .int .u64 0 :: .int .u8 0 :: .int .u8 0 :: .int .u8 0 :: .int .u8 0 :: .int .u8 0 :: .int .u8 0 :: .int .u8 0 :: .int .u8 0 :: .int .u8 0 :: .int .u8 0 :: .int .u8 0 :: .int .u8 0 :: .int .u8 0 :: .int .u8 0 :: .int .u8 0 :: .int .u8 0 :: .int .u8 0 :: .int .u8 0 :: .int .u8 0 :: .int .u8 0 :: .int .u8 0 :: .int .u8 0 :: .int .u8 0 :: .int .u8 0 :: .int .u8 0 :: .int .u8 0 :: .int .u8 0 :: .int .u8 0 :: .int .u8 0 :: .int .u8 0 :: .int .u8 0 :: .int .u8 0 :: []))], []⟩ 8 (by kernel_rfl) (by kernel_rfl) (by kernel_rfl) (by kernel_rfl)) ?_
  intro W base args ds gs before hval0 hW hcnd _
  have hval : ∀ (j : Nat) t v, Try.f8.params[j]? = some t → args[j]? = some v → Value.okWide Try.prog W .any base t v := hval0
  have hW' := hW
  obtain ⟨p, q, hA0, hV, rfl, hfz, hnd⟩ := hW
  have hA : DataW.TrodAll enc Try.prog W 0 (fun _ => true) true Try.f8.params.toList args.toList ds p := hA0
  rw [Try.params8] at hA hval
  obtain ⟨v0, vs0, d0, ds0, p0, q0, hargs, rfl, rfl, h0, r0⟩ := trodAll_cons hA
  obtain ⟨v1, vs1, d1, ds1, p1, q1, rfl, rfl, rfl, h1, r1⟩ := trodAll_cons r0
  obtain ⟨rfl, rfl, rfl⟩ := trodAll_nil r1
  obtain rfl : args = #[v0, v1] := by cases args; simp_all
  obtain ⟨rfl, rfl⟩ := trodVars_none hV
  have k0 := h0
  have lt0 : ∀ x ∈ p0, x.block < W.heap.size := by obtain ⟨m, hm⟩ := k0; exact DataW.trod_lt m _ _ _ hm
  obtain ⟨l0, s0, w0⟩ := cns_arg (hval 0 30 v0 rfl rfl) h0
  have k1 := h1
  have lt1 : ∀ x ∈ p1, x.block < W.heap.size := by obtain ⟨m, hm⟩ := k1; exact DataW.trod_lt m _ _ _ hm
  obtain ⟨l1, rfl, w1⟩ := cn_arg (hval 1 59 v1 rfl rfl) h1
  clear hA0 hval0
  refine (coinCopies_any (w := W) _ l0 w0 s0 l1 w1).mono fun e W' ⟨he, bel⟩ => ?_
  subst he
  exact ⟨_, rfl, _, _, _, [], _, [], hW', trodAll_mk1 (shut_bool Try.underlying4 _), (trodAll_cons_mk (Below.trod laidOut (by kernel_rfl) (of_decide_eq_true (by kernel_rfl)) k0 bel lt0) (trodAll_cons_mk (Below.trod laidOut (by kernel_rfl) (of_decide_eq_true (by kernel_rfl)) k1 bel lt1) trodAll_mk0)), rfl, bel.frame _, fun h => by cases h⟩

theorem coinCopies_holds : Rows.CoinCopiesSaid :=
  OpenClaim.holds_of_wide 8 Try.f8 rfl rfl rfl rfl rfl rfl rfl ⟨rfl, rfl, rfl, rfl, rfl⟩ rfl rfl rfl rfl rfl (by kernel_rfl) Try.func8 (by kernel_rfl)
    (of_decide_eq_true (by kernel_rfl)) (by unfold Func.isWrapper; first | (rw [if_pos (by decide +kernel)]; kernel_rfl) | (rw [if_neg (by decide +kernel)]; exact ⟨rfl, rfl⟩))
    (fun os started H enc _ => coinCopies_lifted os started H enc)
#print axioms coinCopies_holds

end Go.Proofs.Ytkemdfikcmgaaaa
