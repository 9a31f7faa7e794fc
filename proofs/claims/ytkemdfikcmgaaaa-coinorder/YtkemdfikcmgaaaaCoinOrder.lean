/-
  For every list of coins the law CoinOrder returns true: all coins of a set rise by their points, and are as many as there are, in whatever order they are put; no condition.
-/
import Derived.Test.YtkemdfikcmgaaaaCoAlive
import Derived.Test.YtkemdfikcmgaaaaCoTwo
import Derived.Test.YtkemdfikcmgaaaaCoCame
import Derived.Test.YtkemdfikcmgaaaaRefCoBelow
namespace Go.Proofs.Ytkemdfikcmgaaaa
open Go.ChangeShapes Go.WideShapes Go.ChangeAt Go.RowKit

set_option maxRecDepth 100000 in
set_option maxHeartbeats 600000 in
theorem order_long (w : World) (v : Value) (L : List Cn) (hV : CnsAt w v L) (hlen : 300 < L.length) :
    Calls Try.prog 6 #[v] w fun e w' => e = .returned (.bool true) ∧ Below w.heap.size w w' := by
  have CAL := hide (alive9_any w)
  obtain ⟨a, cap, rfl, hc1, hc2⟩ := hV.form
  have HML := hide (fun w' => many_yes L.length a cap w' hlen)
  clear hV hlen
  go_enter Try.func6, Try.ntmps6
  go_wp2_with fail
  refine CAL.out.mono ?_
  rintro e w1 ⟨rfl, hb1⟩
  have HB1 := hide hb1
  clear hb1 CAL
  go_wp2_with fail
  refine (HML.out w1).mono ?_
  rintro e w2 ⟨rfl, rfl⟩
  go_wp2
  go_ret
  exact ⟨rfl, HB1.out⟩
set_option maxRecDepth 100000 in
set_option maxHeartbeats 600000 in
theorem order_twice (w : World) (v : Value) (L : List Cn) (hV : CnsAt w v L) (hok : ∀ c ∈ L, CnOk c) (hlen : L.length ≤ 300) (hN : ¬ (L.map Cn.pt).Nodup) :
    Calls Try.prog 6 #[v] w fun e w' => e = .returned (.bool true) ∧ Below w.heap.size w w' := by
  have CAL := hide (alive9_any w)
  have HV := hide hV
  have HOK := hide hok
  have HN := hide hN
  have HLN : Hid (L.length ≤ 1000) := hide (by omega)
  obtain ⟨a, cap, rfl, hc1, hc2⟩ := hV.form
  have HML := hide (fun w' => many_no L.length a cap w' hlen)
  clear hV hlen hok hN
  go_enter Try.func6, Try.ntmps6
  go_wp2_with fail
  refine CAL.out.mono ?_
  rintro e w1 ⟨rfl, hb1⟩
  have HB1 := hide hb1
  have CN := hide (new_twice L _ w1 (HV.out.on HB1.out) HOK.out HLN.out HN.out)
  clear hb1 CAL
  go_wp2_with fail
  refine (HML.out w1).mono ?_
  rintro e w2 ⟨rfl, hw2⟩
  rw [hw2]
  clear hw2
  go_wp2_with fail
  refine CN.out.mono ?_
  rintro e w3 ⟨rfl, hb3⟩
  have HB3 := hide (below_on HB1.out hb3)
  have CE := hide (new_ok [] (.slice none 0 0) w3 (RowAt.nil w3 66) (fun _ h => by cases h) (by simp) (by simp))
  clear hb3
  go_wp2_with fail
  refine CE.out.mono ?_
  rintro e w4 ⟨b, k, rfl, -, -, -, hb4⟩
  have HB4 := hide (below_on HB3.out hb4)
  clear hb4
  go_wp2
  go_ret
  exact ⟨rfl, HB4.out⟩
/-- So far these are put, the last one first. -/
def OrdI (w : World) (b k : Nat) (L : List Cn) (i : Value) (wr : World) : Prop := ∃ j : Nat, j ≤ L.length ∧ i = .int .i64 j ∧ SetAt wr b (some k) (L.reverse.take j) ∧ Besides b k w wr
/-- So far they rise. -/
def OrdJ (w : World) (i : Value) (wr : World) : Prop := ∃ q : Nat, i = .int .i64 ((q : Int) + 1) ∧ Below w.heap.size w wr
theorem rev_get {L : List Cn} {j : Nat} (h : j < L.length) : ∃ x, L[L.length - 1 - j]? = some x ∧ L.reverse[j]? = some x := by
  refine ⟨L[L.length - 1 - j], List.getElem?_eq_getElem (by omega), ?_⟩
  rw [List.getElem?_reverse h, List.getElem?_eq_getElem (by omega)]
theorem take_next {L : List Cn} {j : Nat} {x : Cn} (h : L[j]? = some x) : L.take (j + 1) = L.take j ++ [x] := by
  obtain ⟨e1, e2⟩ := List.getElem?_eq_some_iff.1 h
  rw [List.take_succ_eq_append_getElem e1, e2]
set_option maxRecDepth 100000 in
set_option maxHeartbeats 1000000 in
theorem order_main (w : World) (v : Value) (L : List Cn) (hV : CnsAt w v L) (hok : ∀ c ∈ L, CnOk c) (hlen : L.length ≤ 300) (hN : (L.map Cn.pt).Nodup) :
    Calls Try.prog 6 #[v] w fun e w' => e = .returned (.bool true) ∧ Below w.heap.size w w' := by
  have CAL := hide (alive9_any w)
  have HV := hide hV
  have HOK := hide hok
  have HN := hide hN
  have HLN : Hid (L.length ≤ 300) := hide hlen
  have HNR : Hid ((L.reverse.map Cn.pt).Nodup) := hide (((L.reverse_perm).map Cn.pt).nodup_iff.2 hN)
  have hle : (L.length : Int) ≤ 300 := by omega
  obtain ⟨a, cap, rfl, hc1, hc2⟩ := hV.form
  have HML := hide (fun w' => many_no L.length a cap w' hlen)
  clear hV hlen hok hN
  go_enter Try.func6, Try.ntmps6
  go_wp2_with fail
  refine CAL.out.mono ?_
  rintro e w1 ⟨rfl, hb1⟩
  have HB1 := hide hb1
  have CN := hide (new_ok L _ w1 (HV.out.on HB1.out) HOK.out (by have := HLN.out; omega) HN.out)
  clear hb1 CAL
  go_wp2_with fail
  refine (HML.out w1).mono ?_
  rintro e w2 ⟨rfl, hw2⟩
  rw [hw2]
  clear hw2
  -- New
  go_wp2_with fail
  refine CN.out.mono ?_
  rintro e w2 ⟨b, k, rfl, hset, hbb, hkb, hb2⟩
  have HS2 := hide hset
  have HB2 := hide (below_on HB1.out hb2)
  have HBK : Hid (w.heap.size ≤ b ∧ w.heap.size ≤ k ∧ b < w2.heap.size ∧ k < w2.heap.size) := hide ⟨Nat.le_trans HB1.out.size hbb, Nat.le_trans HB1.out.size hkb, hset.lt, (hset.2.2.2 k rfl).2.lt⟩
  have CE := hide (new_ok [] (.slice none 0 0) w2 (RowAt.nil w2 66) (fun _ h => by cases h) (by simp) (by simp))
  clear hset hbb hkb hb2 CN HB1
  -- a set of none
  go_wp2_with fail
  refine CE.out.mono ?_
  rintro e w3 ⟨b', k', rfl, hset, hbb, hkb, hb3⟩
  have HS3 := hide (HS2.out.on hb3)
  have HT3 := hide hset
  have HB3 := hide (below_on HB2.out hb3)
  have HBK' : Hid (w2.heap.size ≤ b' ∧ w2.heap.size ≤ k' ∧ b' < w3.heap.size ∧ k' < w3.heap.size) := hide ⟨hbb, hkb, hset.lt, (hset.2.2.2 k' rfl).2.lt⟩
  clear hset hbb hkb hb3 CE HS2
  have HI0 : Hid (OrdI w3 b' k' L (.int .i64 0) w3) := hide ⟨0, Nat.zero_le _, rfl, by rw [List.take_zero]; exact HT3.out, .of_below (Below.refl _ _)⟩
  go_wp2_with fail
  go_loopw [37] (fun i wr => OrdI w3 b' k' L i wr) (fun i _ => L.length - (intOf i).toNat)
  case atStart => exact HI0.out
  case round =>
    clear HI0
    obtain ⟨j, hj, rfl, hset, hbes⟩ := hrel
    have HSJ := hide hset
    have HBES := hide hbes
    have HBW := hide (besides_below HB3.out hbes (by have := HBK.out; have := HBK'.out; omega) (by have := HBK.out; have := HBK'.out; omega) (Nat.le_refl _))
    by_cases hlt : j < L.length
    · obtain ⟨x, hx, hxr⟩ := rev_get hlt
      obtain ⟨b2, off2, rfl, hr⟩ := (HV.out.on HBW.out).get hx
      have hxo := HOK.out x (List.mem_of_getElem? hx)
      have HXO := hide hxo
      have HXR := hide hr
      have HN1 : Hid ((Try.prog.info? 59).map (·.size) = some (cnC x).length) := hide (by rw [cnC_length hxo]; exact info_cn)
      have HCL := hide (cnC_length hxo)
      obtain ⟨q, hq⟩ : ∃ q : Nat, q = L.length - 1 - j := ⟨_, rfl⟩
      have hqi : (L.length : Int) - 1 - (j : Int) = (q : Int) := by omega
      have hql : (q : Int) < (L.length : Int) := by omega
      have HX : Hid (wr.rangeAt b2 (off2 + q * 66) (cnC x)) := hide (by rw [hq]; exact hr)
      have hk1 : (j : Int) < (L.length : Int) := by omega
      have hb5 := below_new wr (.cells (cnC x).toArray 59)
      have hk5 : Keeps (off b' ((some k').getD b')) (wr.alloc (.cells (cnC x).toArray 59)) (fun w => CnsAt w (.slice (some ⟨wr.heap.size, 0, none⟩) 1 1) [x]) :=
        (cns_one wr x hxo).keeps2 fun _ g hg => by
          have h1 := hbes.size
          have h2 := HBK'.out
          obtain rfl : wr.heap.size = g := by simpa [Value.ownBlock] using hg
          exact ⟨by omega, by simp; omega⟩
      have hnp : x.pt ∉ (L.reverse.take j).map Cn.pt := by
        have := new_pt (C := []) hxr HNR.out (by simp)
        simpa using this
      have HPUT := hide (put_ok _ b' (some k') _ (hset.on hb5) [x] _ hk5 (fun c hc => by rw [List.mem_singleton.1 hc]; exact hxo) (by simp) (by rw [List.length_take]; omega) (List.pairwise_singleton _ _) (fun p hp => by simp at hp; rw [hp]; exact hnp))
      have HB5 := hide hb5
      have HRV := hide hxr
      clear hx hxr hr hxo hset hbes hb5 hk5 hnp hq HXR HSJ
      go_wp2_with (first
        | (refine cw_load (by rfl) 59 (.tmp 47) rfl b2 (off2 + q * 66) rfl (cnC x) _ HX.out Try.underlying59 rfl HN1.out ?_)
        | (refine cw_build1 (by rfl) 30 59 (.tmp 48) rfl _ 66 80 Try.underlying30 infoCn (by omega) (by omega) (cnC x) HCL.out rfl ?_))
      generalize wr.alloc (.cells (cnC x).toArray 59) = w5 at *
      refine HPUT.out.mono ?_
      rintro e w6 ⟨rfl, k2, hset, hk, hbes⟩
      obtain rfl : k2 = k' := by
        rcases hk with e | ⟨e, -⟩
        · exact (Option.some.inj e).symm
        · cases e
      have R : Hid (OrdI w3 b' k2 L (.int .i64 ((j + 1 : Nat) : Int)) w6) := hide ⟨j + 1, by omega, rfl, by rw [take_next HRV.out]; exact hset, (HBES.out.on HB5.out).trans hbes⟩
      clear hset hk hbes HPUT
      go_wp2
      go_roundw
      case rel => first | exact R.out | ((repeat apply Exists.intro); exact ⟨R.out, rfl⟩)
      case measure => simp [intOf]; omega
    · have hk2 : (L.length : Int) ≤ (j : Int) := by omega
      have HT6 : Hid (SetAt wr b' (some k') L.reverse) := hide (by
        rw [List.take_of_length_le (by rw [List.length_reverse]; omega)] at hset
        exact hset)
      have HS6 := hide (HS3.out.besides hbes (by have h1 := HBK.out; have h2 := HBK'.out; exact ⟨by omega, by omega⟩) (fun y hy => by cases hy; have h1 := HBK.out; have h2 := HBK'.out; exact ⟨by omega, by omega⟩))
      have CA := hide (all_any wr b k L HS6.out (by have := HLN.out; omega))
      clear hset hbes HSJ HBES
      go_wp2_with fail
      refine CA.out.mono ?_
      rintro e w7 ⟨v1, M, rfl, hp, hs, hrow, hb7⟩
      have HP := hide (show M.Perm L ∧ SortC M from ⟨hp, hs⟩)
      have HM7 : Hid (CnsAt w7 v1 M) := hide hrow.row
      have HS7 := hide (HS6.out.on hb7)
      have HT7 := hide (HT6.out.on hb7)
      have HB7 := hide (below_on HBW.out hb7)
      have HMK : Hid (∀ x ∈ M, CnOk x) := hide (fun x hx => HOK.out x (hp.mem_iff.1 hx))
      have HML2 : Hid (M.length = L.length) := hide hp.length_eq
      have hml : (M.length : Int) = (L.length : Int) := by have := hp.length_eq; omega
      obtain ⟨a1, cap1, rfl, hx1, hx2⟩ := HM7.out.form
      clear hp hs hrow hb7 CA HS6 HT6 HBW
      generalize hMn : M.length = n at *
      have HMN := hide hMn
      clear hMn
      have HJ0 : Hid (OrdJ w7 (.int .i64 1) w7) := hide ⟨0, rfl, Below.refl _ _⟩
      go_wp2_with fail
      go_loopw [9] (fun i wr => OrdJ w7 i wr) (fun i _ => n - (intOf i).toNat)
      case atStart => exact HJ0.out
      case round =>
        clear HJ0
        obtain ⟨q, rfl, hB⟩ := hrel
        have HBQ := hide hB
        by_cases hlt2 : q + 1 < n
        · have hml2 := HMN.out
          obtain ⟨x, hx⟩ : ∃ x, M[q]? = some x := ⟨_, List.getElem?_eq_getElem (by omega)⟩
          obtain ⟨y, hy⟩ : ∃ y, M[q + 1]? = some y := ⟨_, List.getElem?_eq_getElem (by omega)⟩
          have hr7 := HM7.out.on hB
          obtain ⟨b3, off3, rfl, hr1⟩ := hr7.get hx
          obtain ⟨b4, off4, e4, hr2⟩ := hr7.get hy
          cases e4
          have hxo := HMK.out x (List.mem_of_getElem? hx)
          have hyo := HMK.out y (List.mem_of_getElem? hy)
          have HR1 := hide (cn_range hr1 hxo).1
          have HR2 := hide (cn_range hr2 hyo).1
          have HI1 : Hid ((Try.prog.info? 47).map (·.size) = some (pC x.pt).length) := hide (by rw [pC_length hxo.1]; exact info_pt)
          have HI2 : Hid ((Try.prog.info? 47).map (·.size) = some (pC y.pt).length) := hide (by rw [pC_length hyo.1]; exact info_pt)
          have hlo : cmpPt x.pt y.pt < 0 := by
            obtain ⟨e1, e2⟩ := List.getElem?_eq_some_iff.1 hx
            obtain ⟨f1, f2⟩ := List.getElem?_eq_some_iff.1 hy
            have := List.pairwise_iff_getElem.1 HP.out.2 q (q + 1) e1 f1 (by omega)
            rw [e2, f2] at this
            exact this
          have CB : Hid (∀ W, Calls Try.prog 24 #[.agg (pC x.pt).toArray, .agg (pC y.pt).toArray] W fun e w' => e = .returned (.bool true) ∧ Below W.heap.size W w') := hide (fun W => by
            have h := rbelow_any W x.pt y.pt hxo.1 hyo.1
            rw [decide_eq_true hlo] at h
            exact h)
          have hk1 : (q : Int) + 1 < (n : Int) := by omega
          have hwq : IntKind.i64.wrap (q : Int) = q := by simp [IntKind.wrap, IntKind.bits, IntKind.signed]; omega
          have hq1 : ¬ n ≤ q := by omega
          have hq2 : ¬ (q : Int) + 1 < 0 := by omega
          have hq3 : ¬ n ≤ q + 1 := by omega
          clear hml hx hy hr7 hr1 hr2 hxo hyo hlo hB hml2
          generalize pC x.pt = P at *
          generalize pC y.pt = Q at *
          go_upto_region 19 with fail
          refine wp_region_held_drew (S := fun wx => Below wr.heap.size wr wx) (by kernel_rfl) (Below.refl _ _).drew (fun hHeld => ?_)
          refine wpAnyH_take (i := 0) (oi := { dst := some 61, op := Op.move (Operand.tmp 8), type := 30, pos := "law.go:173", after := #[], guard := none }) (v := .slice (some ⟨b3, off3, none⟩) n cap1) rfl (by kernel_rfl) (by kernel_rfl) (by kernel_rfl) (fun _ _ _ h => h) (Or.inl ⟨by rfl, fun w _ => by go_simp⟩) (by assumption) ?_
          simp only [Act.put, List.setIfInBounds_toArray, List.set_cons_zero, List.set_cons_succ]
          refine wpAnyH_take (i := 1) (oi := { dst := some 62, op := Op.move (Operand.tmp 9), type := 3, pos := "law.go:173", after := #[], guard := none }) (v := .int .i64 ((q : Int) + 1)) rfl (by kernel_rfl) (by kernel_rfl) (by kernel_rfl) (fun _ _ _ h => h) (Or.inl ⟨by rfl, fun w _ => by go_simp⟩) (by assumption) ?_
          simp only [Act.put, List.setIfInBounds_toArray, List.set_cons_zero, List.set_cons_succ]
          refine wpAnyH_take (i := 2) (oi := { dst := some 63, op := Op.binOp BinOp.sub 3 (Operand.tmp 62) (Operand.const (Value.int IntKind.i64 1)) 3, type := 3, pos := "law.go:173", after := #[{ on := 1, ground := Ground.data }], guard := none }) (v := .int .i64 q) rfl (by kernel_rfl) (by kernel_rfl) (by kernel_rfl) (fun _ _ _ h => h) (Or.inl ⟨by rfl, fun w _ => by go_simp⟩) (by assumption) ?_
          simp only [Act.put, List.setIfInBounds_toArray, List.set_cons_zero, List.set_cons_succ]
          refine wpAnyH_take (i := 3) (oi := { dst := some 64, op := Op.indexAddr 30 (Operand.tmp 61) (Operand.tmp 63), type := 0, pos := "law.go:173", after := #[{ on := 0, ground := Ground.data }, { on := 2, ground := Ground.data }], guard := none }) (v := .pointer (some ⟨b3, off3 + q * 66, none⟩)) rfl (by kernel_rfl) (by kernel_rfl) (by kernel_rfl) (fun _ _ _ h => h) (Or.inl ⟨by rfl, fun w _ => by go_simp⟩) (by assumption) ?_
          simp only [Act.put, List.setIfInBounds_toArray, List.set_cons_zero, List.set_cons_succ]
          refine wpAnyH_take (i := 4) (oi := { dst := some 65, op := Op.fieldAddr 59 (Operand.tmp 64) 0, type := 0, pos := "law.go:173", after := #[{ on := 3, ground := Ground.data }], guard := none }) (v := .pointer (some ⟨b3, off3 + q * 66, none⟩)) rfl (by kernel_rfl) (by kernel_rfl) (by kernel_rfl) (fun _ _ _ h => h) (Or.inl ⟨by rfl, fun w _ => by go_simp⟩) (by assumption) ?_
          simp only [Act.put, List.setIfInBounds_toArray, List.set_cons_zero, List.set_cons_succ]
          refine wpAnyH_take (i := 5) (oi := { dst := some 66, op := Op.load 47 (Operand.tmp 65), type := 47, pos := "law.go:173", after := #[{ on := 4, ground := Ground.data }], guard := none }) (v := .agg (P).toArray) rfl (by kernel_rfl) (by kernel_rfl) (by kernel_rfl) (fun _ _ _ h => h) (yieldsIf_load_mid (by rfl) 47 (.tmp 65) rfl b3 (off3 + q * 66) rfl (P) _ (fun w h => range_on HR1.out h) Try.underlying47 rfl HI1.out) (by assumption) ?_
          simp only [Act.put, List.setIfInBounds_toArray, List.set_cons_zero, List.set_cons_succ]
          refine wpAnyH_take (i := 6) (oi := { dst := some 67, op := Op.move (Operand.tmp 8), type := 30, pos := "law.go:173", after := #[], guard := none }) (v := .slice (some ⟨b3, off3, none⟩) n cap1) rfl (by kernel_rfl) (by kernel_rfl) (by kernel_rfl) (fun _ _ _ h => h) (Or.inl ⟨by rfl, fun w _ => by go_simp⟩) (by assumption) ?_
          simp only [Act.put, List.setIfInBounds_toArray, List.set_cons_zero, List.set_cons_succ]
          refine wpAnyH_take (i := 7) (oi := { dst := some 68, op := Op.move (Operand.tmp 9), type := 3, pos := "law.go:173", after := #[], guard := none }) (v := .int .i64 ((q : Int) + 1)) rfl (by kernel_rfl) (by kernel_rfl) (by kernel_rfl) (fun _ _ _ h => h) (Or.inl ⟨by rfl, fun w _ => by go_simp⟩) (by assumption) ?_
          simp only [Act.put, List.setIfInBounds_toArray, List.set_cons_zero, List.set_cons_succ]
          refine wpAnyH_take (i := 8) (oi := { dst := some 69, op := Op.indexAddr 30 (Operand.tmp 67) (Operand.tmp 68), type := 0, pos := "law.go:173", after := #[{ on := 6, ground := Ground.data }, { on := 7, ground := Ground.data }], guard := none }) (v := .pointer (some ⟨b3, off3 + (q + 1) * 66, none⟩)) rfl (by kernel_rfl) (by kernel_rfl) (by kernel_rfl) (fun _ _ _ h => h) (Or.inl ⟨by rfl, fun w _ => by go_simp⟩) (by assumption) ?_
          simp only [Act.put, List.setIfInBounds_toArray, List.set_cons_zero, List.set_cons_succ]
          refine wpAnyH_take (i := 9) (oi := { dst := some 70, op := Op.fieldAddr 59 (Operand.tmp 69) 0, type := 0, pos := "law.go:173", after := #[{ on := 8, ground := Ground.data }], guard := none }) (v := .pointer (some ⟨b3, off3 + (q + 1) * 66, none⟩)) rfl (by kernel_rfl) (by kernel_rfl) (by kernel_rfl) (fun _ _ _ h => h) (Or.inl ⟨by rfl, fun w _ => by go_simp⟩) (by assumption) ?_
          simp only [Act.put, List.setIfInBounds_toArray, List.set_cons_zero, List.set_cons_succ]
          refine wpAnyH_take (i := 10) (oi := { dst := some 71, op := Op.load 47 (Operand.tmp 70), type := 47, pos := "law.go:173", after := #[{ on := 9, ground := Ground.data }], guard := none }) (v := .agg (Q).toArray) rfl (by kernel_rfl) (by kernel_rfl) (by kernel_rfl) (fun _ _ _ h => h) (yieldsIf_load_mid (by rfl) 47 (.tmp 70) rfl b3 (off3 + (q + 1) * 66) rfl (Q) _ (fun w h => range_on HR2.out h) Try.underlying47 rfl HI2.out) (by assumption) ?_
          simp only [Act.put, List.setIfInBounds_toArray, List.set_cons_zero, List.set_cons_succ]
          refine wpAnyH_ready (rs := [11]) (by kernel_rfl) (by simp) (AllReadyH.cons (o := { dst := some 72, op := Op.call { callee := Callee.value (Operand.func 24), args := #[Operand.tmp 66, Operand.tmp 71], argTypes := #[47, 47] }, type := 4, pos := "law.go:173", after := #[{ on := 5, ground := Ground.data }, { on := 10, ground := Ground.data }], guard := none }) rfl (fun K hK => ?_) AllReadyH.nil)
          refine step_go (vs := #[.agg P.toArray, .agg Q.toArray]) rfl 24 _ Try.func24 (by kernel_rfl) (by kernel_rfl) _ _ rfl (by simp [Act.eval]) ?_
          refine (CB.out _).mono ?_
          rintro e wB ⟨rfl, hbB⟩
          have hb11 := below_on hHeld hbB
          clear hbB
          refine ⟨_, rfl, ?_⟩
          refine hK.out _ _ ?_ (fun hHeld => ?_)
          · exact hb11
          clear hK K
          try simp only [Act.put, List.setIfInBounds_toArray, List.set_cons_zero, List.set_cons_succ]
          refine wpAnyH_take (i := 12) (oi := { dst := some 73, op := Op.unOp UnOp.not 4 (Operand.tmp 72), type := 4, pos := "law.go:173", after := #[{ on := 11, ground := Ground.data }], guard := none }) (v := .bool false) rfl (by kernel_rfl) (by kernel_rfl) (by kernel_rfl) (fun _ _ _ h => h) (Or.inl ⟨by rfl, fun w _ => by go_simp⟩) (by assumption) ?_
          simp only [Act.put, List.setIfInBounds_toArray, List.set_cons_zero, List.set_cons_succ]
          refine wpAnyH_done (by kernel_rfl) ?_ _
          have R : Hid (OrdJ w7 (.int .i64 ((q : Int) + 1 + 1)) wB) := hide ⟨q + 1, by simp, below_on HBQ.out hHeld⟩
          clear hHeld
          go_wp2
          go_roundw
          case rel => first | exact R.out | ((repeat apply Exists.intro); exact ⟨R.out, rfl⟩)
          case measure => simp [intOf]; omega
        · have hk1 : (n : Int) ≤ (q : Int) + 1 := by omega
          have HS8 := hide (HS7.out.on hB)
          have HT8 := hide (HT7.out.on hB)
          have HM8 := hide (HM7.out.on hB)
          have HB8 := hide (below_on HB7.out hB)
          have CL := hide (len_any wr b (some k) L HS8.out)
          have CA2 := hide (all_any wr b' k' _ HT8.out (by rw [List.length_reverse]; have := HLN.out; omega))
          clear hB HBQ HS7 HT7
          go_wp2_with fail
          refine CL.out.mono ?_
          rintro e w9 ⟨rfl, hw9⟩
          rw [hw9]
          clear hw9
          go_wp2_with fail
          refine CA2.out.mono ?_
          rintro e w10 ⟨v2, M2, rfl, hp, hs, hrow, hb10⟩
          obtain rfl : M2 = M := sort_unique hs HP.out.2 ((hp.trans (List.reverse_perm L)).trans HP.out.1.symm)
          have HB10 := hide (below_on HB8.out hb10)
          have CS := hide (rsamecn_eq M2 _ v2 w10 (HM8.out.on hb10) hrow.row HMK.out)
          clear hp hs hrow hb10 CA2
          go_wp2_with fail
          refine CS.out.mono ?_
          rintro e w11 ⟨rfl, hb11⟩
          have R := hide (below_on HB10.out hb11)
          clear hb11
          go_wp2
          go_ret
          exact ⟨rfl, R.out⟩
theorem coinOrder_any {w : World} (v : Value) (L : List Cn) (hok : ∀ c ∈ L, CnOk c) (hV : CnsAt w v L) :
    Calls Try.prog 6 #[v] w fun e w' => e = .returned (.bool true) ∧ Below w.heap.size w w' := by
  by_cases h1 : L.length ≤ 300
  · rcases nodup_or L with hN | hN
    · exact order_main w v L hV hok h1 hN
    · exact order_twice w v L hV hok h1 hN
  · exact order_long w v L hV (by omega)
set_option maxRecDepth 100000 in
theorem coinOrder_lifted (os : Os) (started : os.Started) (H : Type) (enc : TypeId × Value → H) :
    ReturnsInHanded {} Try.checked os 6 .any (Rows.coinOrderSpec.pre6 enc Try.prog Try.f6 Rows.coinOrderRow.domain false) (Rows.coinOrderSpec.post enc Try.prog Try.f6 false true false false) := by
  refine returnsInHanded_of_change (C := Try.checked) own started (by kernel_rfl) Try.func6
    (ChangeSpec.witness6 (enc := enc) (C := Try.checked) false ⟨#[], #[.slice none 0 0], []⟩ 8 (by kernel_rfl) (by kernel_rfl) (by kernel_rfl) (by kernel_rfl)) ?_
  intro W base args ds gs before hval0 hW hcnd _
  have hval : ∀ (j : Nat) t v, Try.f6.params[j]? = some t → args[j]? = some v → Value.okWide Try.prog W .any base t v := hval0
  have hW' := hW
  obtain ⟨p, q, hA0, hV, rfl, hfz, hnd⟩ := hW
  have hA : DataW.TrodAll enc Try.prog W 0 (fun _ => true) true Try.f6.params.toList args.toList ds p := hA0
  rw [Try.params6] at hA hval
  obtain ⟨v0, vs0, d0, ds0, p0, q0, hargs, rfl, rfl, h0, r0⟩ := trodAll_cons hA
  obtain ⟨rfl, rfl, rfl⟩ := trodAll_nil r0
  obtain rfl : args = #[v0] := by cases args; simp_all
  obtain ⟨rfl, rfl⟩ := trodVars_none hV
  have k0 := h0
  have lt0 : ∀ x ∈ p0, x.block < W.heap.size := by obtain ⟨m, hm⟩ := k0; exact DataW.trod_lt m _ _ _ hm
  obtain ⟨l0, s0, w0⟩ := cns_arg (hval 0 30 v0 rfl rfl) h0
  clear hA0 hval0
  refine (coinOrder_any (w := W) _ l0 w0 s0).mono fun e W' ⟨he, bel⟩ => ?_
  subst he
  exact ⟨_, rfl, _, _, _, [], _, [], hW', trodAll_mk1 (shut_bool Try.underlying4 _), (trodAll_cons_mk (Below.trod laidOut (by kernel_rfl) (of_decide_eq_true (by kernel_rfl)) k0 bel lt0) trodAll_mk0), rfl, bel.frame _, fun h => by cases h⟩

theorem coinOrder_holds : Rows.CoinOrderSaid :=
  OpenClaim.holds_of_wide 6 Try.f6 rfl rfl rfl rfl rfl rfl rfl ⟨rfl, rfl, rfl, rfl, rfl⟩ rfl rfl rfl rfl rfl (by kernel_rfl) Try.func6 (by kernel_rfl)
    (of_decide_eq_true (by kernel_rfl)) (by unfold Func.isWrapper; first | (rw [if_pos (by decide +kernel)]; kernel_rfl) | (rw [if_neg (by decide +kernel)]; exact ⟨rfl, rfl⟩))
    (fun os started H enc _ => coinOrder_lifted os started H enc)
#print axioms coinOrder_holds

end Go.Proofs.Ytkemdfikcmgaaaa
