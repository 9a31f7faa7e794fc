/-
  What the document's Of (pappusref10) answers at this program: the same.
-/
import Derived.Test.YtbeegcpmpgdbnaaDoorFeeOf
import Derived.Test.YtbeegcpmpgdbnaaDoorFeeRow
import Derived.Test.YtbeegcpmpgdbnaaDoorRefCaSum
import Derived.Test.YtbeegcpmpgdbnaaDoorRefCheck07
import Derived.Test.YtbeegcpmpgdbnaaDoorRefSha
namespace Go.Proofs.YtbeegcpmpgdbnaaDoor
open Go.RowKit

set_option maxRecDepth 100000 in
set_option maxHeartbeats 4000000 in
theorem rof_any (t : Tr) (iv ov pv : Value) (prev : List TOut) (w : World) (h : TxAt w iv ov t) (ho : OutsAt w pv prev) (hok : TrOk t) (hpo : ∀ x ∈ prev, OutOk x) (p d r : Bool) (hp : p = true ↔ PayOk t.outs) (hd : d = false ↔ (t.ins.map ptOf).Nodup) (hr : r = true ↔ Opens t.ins prev) :
    Calls Tryd.prog 12 #[.agg #[.int .u32 t.ver, iv, ov], pv] w fun e w' => e = .returned (.tuple #[.int .u64 (ofV t prev p d r), .int .i64 (ofE t prev p d r)]) ∧ Below w.heap.size w w' := by
  have hnm : (Tryd.f14.name == "runtime.NumGoroutine") = false := by kernel_rfl
  have hbd : Tryd.f14.body.isNone = false := by kernel_rfl
  have hbel := below_new w (.cells #[.int .u32 t.ver, iv, ov] 26)
  have HB := hide hbel
  have HT := hide (h.on hbel)
  have HP := hide (OutsAt.on ho hbel)
  have HX := hide (TBox.new w (.int .u32 t.ver) iv ov 26)
  have CH := hide (fun w h => rcheck_any t iv ov w h hok p d hp hd)
  have HR := hide hr
  have HOK := hide hok
  have HPO := hide hpo
  have HFM : Hid (chE t p d = 0 → t.ins.length ≤ 8 ∧ t.outs.length ≤ 8 ∧ ∀ x ∈ t.ins, x.key.length ≤ 64) := hide (fun h => (formB_iff t).1 (chE_form h))
  have HW1 := hide (csumV_word (l := valsO prev) (fun z hz => by obtain ⟨x, hx, rfl⟩ := List.mem_map.1 hz; exact (hpo x hx).1))
  have HW2 := hide (csumV_word (l := valsO t.outs) (fun z hz => by obtain ⟨x, hx, rfl⟩ := List.mem_map.1 hz; exact (hok.2.2 x hx).1))
  have HV : Hid (ofV t prev p d r = if chE t p d = 0 ∧ prev.length = t.ins.length ∧ r = true ∧ sumE (valsO prev) = 0 ∧ csumV (valsO t.outs) ≤ csumV (valsO prev) then csumV (valsO prev) - csumV (valsO t.outs) else 0) := hide rfl
  have HE : Hid (ofE t prev p d r = if chE t p d ≠ 0 then chE t p d else if prev.length ≠ t.ins.length then 2 else if r = false then 13 else if sumE (valsO prev) ≠ 0 ∨ csumV (valsO prev) < csumV (valsO t.outs) then 11 else 0) := hide rfl
  obtain ⟨a, cap, rfl, hc1, hc2⟩ := h.1.form
  obtain ⟨a', cap', rfl, hd1, hd2⟩ := h.2.form
  obtain ⟨a'', cap'', rfl, he1, he2⟩ := OutsAt.form ho
  obtain ⟨n0, n1, n2⟩ := HX.out
  clear h ho hok hpo hp hd hr hbel
  generalize ofV t prev p d r = RV at *
  generalize ofE t prev p d r = RE at *
  generalize chE t p d = ce at *
  go_enter Tryd.func12, Tryd.ntmps12
  go_upto_region 1 with fail
  generalize w.alloc (.cells #[.int .u32 t.ver, .slice a t.ins.length cap, .slice a' t.outs.length cap'] 26) = W0 at *
  generalize hwq : w.heap.size = q at *
  have HQ := hide hwq
  clear hwq
  go_wp2_with fail
  refine (CH.out _ HT.out).mono ?_
  rintro e w1 ⟨rfl, hb1⟩
  have HB1 := hide (below_on (show Below w.heap.size w W0 by rw [HQ.out]; exact HB.out) hb1)
  have HT1 := hide (HT.out.on hb1)
  have HP1 := hide (OutsAt.on HP.out hb1)
  have HX1 := hide (HX.out.on hb1)
  clear n0 n1 n2 hb1 HB HT HP HX CH
  obtain ⟨n0, n1, n2⟩ := HX1.out
  by_cases c0 : ce = 0
  case neg =>
    have hne : (ce == 0) = false := by rw [beq_eq_false_iff_ne]; exact c0
    have A : Hid (RV = 0 ∧ RE = ce) := hide (by
      rw [HV.out, HE.out]
      simp [c0])
    go_wp2
    go_ret2
    exact ⟨by rw [A.out.1, A.out.2]; first | done | rfl, HB1.out⟩
  subst c0
  obtain ⟨hf1, hf2, hf3⟩ := HFM.out rfl
  have HF3 := hide hf3
  clear hf3 HFM
  by_cases c1 : prev.length = t.ins.length
  case neg =>
    have h1 : ((prev.length : Int) == (t.ins.length : Int)) = false := by rw [beq_eq_false_iff_ne]; omega
    have h1' : ¬ (prev.length : Int) = (t.ins.length : Int) := by omega
    have A : Hid (RV = 0 ∧ RE = 2) := hide (by
      rw [HV.out, HE.out]
      simp [c1])
    go_wp2
    go_ret2
    exact ⟨by rw [A.out.1, A.out.2]; first | done | rfl, HB1.out⟩
  have HLEN := hide c1
  have hp8 : prev.length ≤ 8 := by omega
  have HA : Hid (r = true ∧ sumE (valsO prev) = 0 ∧ ¬ csumV (valsO prev) < csumV (valsO t.outs) → RV = csumV (valsO prev) - csumV (valsO t.outs) ∧ RE = 0) := hide (by
    rintro ⟨h1, h2, h3⟩
    rw [HV.out, HE.out]
    simp [c1, h1, h2, h3, show csumV (valsO t.outs) ≤ csumV (valsO prev) by omega])
  have HA2 : Hid (r = true → (sumE (valsO prev) ≠ 0 ∨ csumV (valsO prev) < csumV (valsO t.outs)) → RV = 0 ∧ RE = 11) := hide (by
    intro h1 h2
    rw [HV.out, HE.out]
    rcases h2 with h2 | h2
    · simp [c1, h1, h2]
    · simp [c1, h1, h2, show ¬ csumV (valsO t.outs) ≤ csumV (valsO prev) by omega])
  have HA3 : Hid (r = false → RV = 0 ∧ RE = 13) := hide (by
    intro h1
    rw [HV.out, HE.out]
    simp [c1, h1])
  have HPP : Hid (OutsAt w1 (.slice a'' t.ins.length cap'') prev) := hide (by
    have h := HP1.out
    rw [HLEN.out] at h
    exact h)
  have HS : Hid (Opening w1 t.ins prev (.int .i64 0) w1) := hide ⟨0, Nat.zero_le _, rfl, Below.refl _ _, fun j _ _ h => absurd h (Nat.not_lt_zero _)⟩
  clear HV HE HP1 he1
  go_wp2
  clear n0 n1 n2
  go_loopw [33] (fun i wr => Opening w1 t.ins prev i wr) (fun i _ => t.ins.length - (intOf i).toNat)
  case atStart => exact HS.out
  case round =>
    clear HS
    obtain ⟨k, hk, rfl, hB, hall⟩ := hrel
    have HB := hide hB
    have HALL := hide hall
    by_cases hlt : k < t.ins.length
    · obtain ⟨x, hx⟩ : ∃ x, t.ins[k]? = some x := ⟨_, List.getElem?_eq_getElem hlt⟩
      obtain ⟨y, hy⟩ : ∃ y, prev[k]? = some y := ⟨_, List.getElem?_eq_getElem (by rw [HLEN.out]; exact hlt)⟩
      obtain ⟨b, off, kv, rfl, hrx, hbv⟩ := (HT1.out.1.on hB).get hx
      obtain ⟨b', off', e', hry⟩ := OutsAt.get (OutsAt.on HPP.out hB) hy
      subst e'
      have hxl := (HOK.out.2.1 x (List.mem_of_getElem? hx)).1
      have HKL := hide (HF3.out x (List.mem_of_getElem? hx))
      have HYL := hide (HPO.out y (List.mem_of_getElem? hy)).2.1
      have HXR := hide hrx
      have HN : Hid ((Tryd.prog.info? 39).map (·.size) = some (inC (x, kv)).length) := hide (by rw [inC_length hxl]; exact info_in)
      have H1 : Hid (∀ u ∈ inC (x, kv), u.oneCell' = true) := hide (inC_one hbv.oneCell)
      have HT : Hid (∀ w : World, (w.alloc (.cells #[.int .u8 0, .int .u8 0, .int .u8 0, .int .u8 0, .int .u8 0, .int .u8 0, .int .u8 0, .int .u8 0, .int .u8 0, .int .u8 0, .int .u8 0, .int .u8 0, .int .u8 0, .int .u8 0, .int .u8 0, .int .u8 0, .int .u8 0, .int .u8 0, .int .u8 0, .int .u8 0, .int .u8 0, .int .u8 0, .int .u8 0, .int .u8 0, .int .u8 0, .int .u8 0, .int .u8 0, .int .u8 0, .int .u8 0, .int .u8 0, .int .u8 0, .int .u8 0, .int .u32 0, .slice none 0 0] 39)).there w.heap.size 0 (inC (x, kv)).length) := hide (fun w => by rw [inC_length hxl]; exact in_there w)
      have hk1 : (k : Int) < (t.ins.length : Int) := by omega
      have HX := hide hx
      have HY := hide hy
      clear hx hy hB hall
      go_upto_region 9 with (first | (refine wpList_load_mid rfl 39 (.tmp 36) rfl b (off + k * 34) rfl (inC (x, kv)) _ HXR.out Tryd.underlying39 rfl HN.out ?_) | (refine wp_store_row rfl 39 (.tmp 8) (.tmp 37) rfl wr.heap.size 0 (inC (x, kv)) rfl rfl (HT.out wr) HN.out H1.out ?_))
      have hW : ((wr.alloc (.cells #[.int .u8 0, .int .u8 0, .int .u8 0, .int .u8 0, .int .u8 0, .int .u8 0, .int .u8 0, .int .u8 0, .int .u8 0, .int .u8 0, .int .u8 0, .int .u8 0, .int .u8 0, .int .u8 0, .int .u8 0, .int .u8 0, .int .u8 0, .int .u8 0, .int .u8 0, .int .u8 0, .int .u8 0, .int .u8 0, .int .u8 0, .int .u8 0, .int .u8 0, .int .u8 0, .int .u8 0, .int .u8 0, .int .u8 0, .int .u8 0, .int .u8 0, .int .u8 0, .int .u32 0, .slice none 0 0] 39)).setCells wr.heap.size 0 (inC (x, kv))).rangeAt wr.heap.size 0 (inC (x, kv)) := World.rangeAt_setCells_same _ _ _ _ (HT.out wr)
      have hB2 : Below wr.heap.size wr ((wr.alloc (.cells #[.int .u8 0, .int .u8 0, .int .u8 0, .int .u8 0, .int .u8 0, .int .u8 0, .int .u8 0, .int .u8 0, .int .u8 0, .int .u8 0, .int .u8 0, .int .u8 0, .int .u8 0, .int .u8 0, .int .u8 0, .int .u8 0, .int .u8 0, .int .u8 0, .int .u8 0, .int .u8 0, .int .u8 0, .int .u8 0, .int .u8 0, .int .u8 0, .int .u8 0, .int .u8 0, .int .u8 0, .int .u8 0, .int .u8 0, .int .u8 0, .int .u8 0, .int .u8 0, .int .u32 0, .slice none 0 0] 39)).setCells wr.heap.size 0 (inC (x, kv))) := below_sets (Nat.le_refl _) _ _ _ ((Below.refl _ _).alloc (Nat.le_refl _) _)
      generalize (wr.alloc (.cells #[.int .u8 0, .int .u8 0, .int .u8 0, .int .u8 0, .int .u8 0, .int .u8 0, .int .u8 0, .int .u8 0, .int .u8 0, .int .u8 0, .int .u8 0, .int .u8 0, .int .u8 0, .int .u8 0, .int .u8 0, .int .u8 0, .int .u8 0, .int .u8 0, .int .u8 0, .int .u8 0, .int .u8 0, .int .u8 0, .int .u8 0, .int .u8 0, .int .u8 0, .int .u8 0, .int .u8 0, .int .u8 0, .int .u8 0, .int .u8 0, .int .u8 0, .int .u8 0, .int .u32 0, .slice none 0 0] 39)).setCells wr.heap.size 0 (inC (x, kv)) = W at *
      have HB2 := hide (below_on HB.out hB2)
      have c33 := (inC_key hW hxl).1
      simp only [Nat.zero_add] at c33
      have HC := hide c33
      have HRY : Hid (W.rangeAt b' (off' + k * 33 + 1) (vals .u8 y.lock)) := hide (by
        have h := range_right (c := [Value.int .u64 y.val]) (d := vals .u8 y.lock) (range_on hry hB2)
        simpa using h)
      have HLY : Hid ((Tryd.prog.info? 34).map (·.size) = some (vals .u8 y.lock).length) := hide (by rw [vals_length, HYL.out]; exact info_hash)
      have hkb : Bytes W.drew kv x.key := (hbv.below hB2).drew
      have C := hide (rsum_any W.drew kv x.key hkb (by have := HKL.out; omega))
      have HD := hide (digest_length x.key)
      have EQ := fun w => eql_hash8 (digest x.key) y.lock HD.out HYL.out w
      obtain ⟨dd, hd⟩ : ∃ d, d = decide (digest x.key = y.lock) := ⟨_, rfl⟩
      have HDD := hide hd
      rw [← hd] at EQ
      clear hd hW hB2 HXR HN H1 HT hrx hry hkb c33
      generalize hDg : digest x.key = D at *
      have HDG := hide hDg
      clear hDg
      generalize hgb : wr.heap.size = gb at *
      clear hgb
      try simp only [Act.put]
      refine wp_region_held_drew (S := fun wx => Below W.heap.size W wx) (by kernel_rfl) (Below.refl _ _).drew (fun hHeld => ?_)
      refine wpAnyH_take (i := 0) (oi := { dst := some 38, op := Op.fieldAddr 39 (Operand.tmp 8) 1, type := 0, pos := "ref.go:26", after := #[], guard := none }) (v := .pointer (some ⟨gb, 33, none⟩)) rfl (by kernel_rfl) (by kernel_rfl) (by kernel_rfl) (fun _ _ _ h => h) (Or.inl ⟨by rfl, fun w _ => by go_simp⟩) (by assumption) ?_
      simp only [Act.put, List.setIfInBounds_toArray, List.set_cons_zero, List.set_cons_succ]
      refine wpAnyH_take (i := 1) (oi := { dst := some 39, op := Op.load 37 (Operand.tmp 38), type := 37, pos := "ref.go:26", after := #[{ on := 0, ground := Ground.data }], guard := none }) (v := kv) rfl (by kernel_rfl) (by kernel_rfl) (by kernel_rfl) (fun _ _ _ h => h) (Or.inl ⟨by rfl, fun wx h => by have c0 := (h.cell (World.block_lt_of_cell? _ _ HC.out)).trans HC.out; go_simp⟩) (by assumption) ?_
      simp only [Act.put, List.setIfInBounds_toArray, List.set_cons_zero, List.set_cons_succ]
      refine wpAnyH_take (i := 3) (oi := { dst := some 41, op := Op.move (Operand.tmp 1), type := 24, pos := "ref.go:26", after := #[], guard := none }) (v := .slice (some ⟨b', off', none⟩) t.ins.length cap'') rfl (by kernel_rfl) (by kernel_rfl) (by kernel_rfl) (fun _ _ _ h => h) (Or.inl ⟨by rfl, fun w _ => by go_simp⟩) (by assumption) ?_
      simp only [Act.put, List.setIfInBounds_toArray, List.set_cons_zero, List.set_cons_succ]
      refine wpAnyH_take (i := 4) (oi := { dst := some 42, op := Op.move (Operand.tmp 7), type := 3, pos := "ref.go:26", after := #[], guard := none }) (v := .int .i64 (k : Int)) rfl (by kernel_rfl) (by kernel_rfl) (by kernel_rfl) (fun _ _ _ h => h) (Or.inl ⟨by rfl, fun w _ => by go_simp⟩) (by assumption) ?_
      simp only [Act.put, List.setIfInBounds_toArray, List.set_cons_zero, List.set_cons_succ]
      refine wpAnyH_take (i := 5) (oi := { dst := some 43, op := Op.indexAddr 24 (Operand.tmp 41) (Operand.tmp 42), type := 0, pos := "ref.go:26", after := #[{ on := 3, ground := Ground.data }, { on := 4, ground := Ground.data }], guard := none }) (v := .pointer (some ⟨b', off' + k * 33, none⟩)) rfl (by kernel_rfl) (by kernel_rfl) (by kernel_rfl) (fun _ _ _ h => h) (Or.inl ⟨by rfl, fun w _ => by go_simp⟩) (by assumption) ?_
      simp only [Act.put, List.setIfInBounds_toArray, List.set_cons_zero, List.set_cons_succ]
      refine wpAnyH_take (i := 6) (oi := { dst := some 44, op := Op.fieldAddr 60 (Operand.tmp 43) 1, type := 0, pos := "ref.go:26", after := #[{ on := 5, ground := Ground.data }], guard := none }) (v := .pointer (some ⟨b', off' + k * 33 + 1, none⟩)) rfl (by kernel_rfl) (by kernel_rfl) (by kernel_rfl) (fun _ _ _ h => h) (Or.inl ⟨by rfl, fun w _ => by go_simp⟩) (by assumption) ?_
      simp only [Act.put, List.setIfInBounds_toArray, List.set_cons_zero, List.set_cons_succ]
      refine wpAnyH_take (i := 7) (oi := { dst := some 45, op := Op.load 34 (Operand.tmp 44), type := 34, pos := "ref.go:26", after := #[{ on := 6, ground := Ground.data }], guard := none }) (v := .agg (vals .u8 y.lock).toArray) rfl (by kernel_rfl) (by kernel_rfl) (by kernel_rfl) (fun _ _ _ h => h) (yieldsIf_load_mid (by rfl) 34 (.tmp 44) rfl b' (off' + k * 33 + 1) rfl (vals .u8 y.lock) _ (fun w h => range_on HRY.out h) Tryd.underlying34 rfl HLY.out) (by assumption) ?_
      simp only [Act.put, List.setIfInBounds_toArray, List.set_cons_zero, List.set_cons_succ]
      refine wpAnyH_ready (rs := [2]) (by kernel_rfl) (by simp) (AllReadyH.cons (o := { dst := some 40, op := Op.call { callee := Callee.value (Operand.func 14), args := #[Operand.tmp 39], argTypes := #[37] }, type := 34, pos := "ref.go:26", after := #[{ on := 1, ground := Ground.data }], guard := none }) rfl (fun K hK => ?_) AllReadyH.nil)
      refine step_go (vs := #[kv]) rfl 14 _ Tryd.func14 hnm hbd _ _ rfl (by simp [Act.eval]) ?_
      refine C.out.mono ?_
      rintro e w3 ⟨rfl, hb3⟩
      refine ⟨_, rfl, ?_⟩
      refine hK.out _ _ ?_ (fun hHeld => ?_)
      · exact below_on (Below.refl _ _).drew hb3
      clear hK K
      try simp only [Act.put, List.setIfInBounds_toArray, List.set_cons_zero, List.set_cons_succ]
      refine wpAnyH_take (i := 8) (oi := { dst := some 46, op := Op.binOp BinOp.neq 34 (Operand.tmp 40) (Operand.tmp 45) 34, type := 4, pos := "ref.go:26", after := #[{ on := 2, ground := Ground.data }, { on := 7, ground := Ground.data }], guard := none }) (v := .bool (!dd)) rfl (by kernel_rfl) (by kernel_rfl) (by kernel_rfl) (fun _ _ _ h => h) (Or.inl ⟨by rfl, fun w _ => by go_simp⟩) (by assumption) ?_
      simp only [Act.put, List.setIfInBounds_toArray, List.set_cons_zero, List.set_cons_succ]
      refine wpAnyH_done (by kernel_rfl) ?_ _
      clear hHeld
      have HB3 := hide (below_on HB2.out (below_on (Below.refl _ _).drew hb3))
      clear hb3
      cases dd with
      | true =>
        have R : Hid (Opening w1 t.ins prev (.int .i64 ((k + 1 : Nat) : Int)) w3) := hide ⟨k + 1, by omega, rfl, HB3.out, fun j x1 y1 hj h1 h2 => by
          by_cases e : j = k
          · subst e
            rw [HX.out] at h1
            rw [HY.out] at h2
            cases h1
            cases h2
            rw [HDG.out]
            exact of_decide_eq_true HDD.out.symm
          · exact HALL.out j x1 y1 (by omega) h1 h2⟩
        clear HB3 EQ
        go_wp2
        go_roundw
        case rel => first | exact R.out | ((repeat apply Exists.intro); exact ⟨R.out, rfl⟩)
        case measure => simp [intOf]; omega
      | false =>
        have A := hide (HA3.out (by
          cases hr : r with
          | false => rfl
          | true =>
            have h := HR.out.1 hr k x y HX.out HY.out
            rw [HDG.out] at h
            have := of_decide_eq_false HDD.out.symm
            exact absurd h this))
        have HB4 := hide (below_on HB1.out HB3.out)
        clear EQ
        go_wp2
        go_ret2
        exact ⟨by rw [A.out.1, A.out.2]; first | done | rfl, HB4.out⟩
    · have hk2 : (t.ins.length : Int) ≤ (k : Int) := by omega
      have HRT : Hid (r = true) := hide (HR.out.2 fun j x y h1 h2 => hall j x y (by
        have := (List.getElem?_eq_some_iff.1 h1).1
        omega) h1 h2)
      have HT5 := hide (HT1.out.on hB)
      have HP5 := hide (OutsAt.on HPP.out hB)
      have HX5 := hide (HX1.out.on hB)
      have HB5 := hide (below_on HB1.out hB)
      have HS2 : Hid (Totalling wr prev (.slice none 0 0) (.int .i64 0) wr) := hide ⟨0, Nat.zero_le _, rfl, Below.refl _ _, RowOwn.nil _ _ _ _⟩
      clear hB hall HB HALL HT1 HPP HX1 HB1
      go_wp2
      generalize wr = W5 at *
      go_loopw [9, 50] (fun v i wx => Totalling W5 prev v i wx) (fun _ i _ => prev.length - (intOf i).toNat)
      case atStart => exact HS2.out
      case round =>
        clear HS2
        obtain ⟨k, hk, rfl, hB, hown⟩ := hrel
        have HB := hide hB
        have HOWN := hide hown
        by_cases hlt : k < prev.length
        · obtain ⟨x, hx⟩ : ∃ x, prev[k]? = some x := ⟨_, List.getElem?_eq_getElem hlt⟩
          obtain ⟨b, off, rfl, hr⟩ := OutsAt.get (OutsAt.on HP5.out hB) hx
          have hxl := (HPO.out x (List.mem_of_getElem? hx)).2.1
          have HXR := hide hr
          have HN : Hid ((Tryd.prog.info? 60).map (·.size) = some (outC x).length) := hide (by rw [outC_length hxl]; exact info_out)
          have H1 : Hid (∀ u ∈ outC x, u.oneCell' = true) := hide (outC_one x)
          have HT : Hid (∀ w : World, (w.alloc (.cells #[.int .u64 0, .int .u8 0, .int .u8 0, .int .u8 0, .int .u8 0, .int .u8 0, .int .u8 0, .int .u8 0, .int .u8 0, .int .u8 0, .int .u8 0, .int .u8 0, .int .u8 0, .int .u8 0, .int .u8 0, .int .u8 0, .int .u8 0, .int .u8 0, .int .u8 0, .int .u8 0, .int .u8 0, .int .u8 0, .int .u8 0, .int .u8 0, .int .u8 0, .int .u8 0, .int .u8 0, .int .u8 0, .int .u8 0, .int .u8 0, .int .u8 0, .int .u8 0, .int .u8 0] 60)).there w.heap.size 0 (outC x).length) := hide (fun w => by rw [outC_length hxl]; exact out_there w)
          have hk1 : (k : Int) < (t.ins.length : Int) := by rw [← HLEN.out]; omega
          have HX := hide hx
          clear hr hx hxl hB hown
          go_upto_region 16 with (first | (refine wpList_load_mid rfl 60 (.tmp 52) rfl b (off + k * 33) rfl (outC x) _ HXR.out Tryd.underlying60 rfl HN.out ?_) | (refine wp_store_row rfl 60 (.tmp 12) (.tmp 53) rfl wr.heap.size 0 (outC x) rfl rfl (HT.out wr) HN.out H1.out ?_))
          have hW : ((wr.alloc (.cells #[.int .u64 0, .int .u8 0, .int .u8 0, .int .u8 0, .int .u8 0, .int .u8 0, .int .u8 0, .int .u8 0, .int .u8 0, .int .u8 0, .int .u8 0, .int .u8 0, .int .u8 0, .int .u8 0, .int .u8 0, .int .u8 0, .int .u8 0, .int .u8 0, .int .u8 0, .int .u8 0, .int .u8 0, .int .u8 0, .int .u8 0, .int .u8 0, .int .u8 0, .int .u8 0, .int .u8 0, .int .u8 0, .int .u8 0, .int .u8 0, .int .u8 0, .int .u8 0, .int .u8 0] 60)).setCells wr.heap.size 0 (outC x)).rangeAt wr.heap.size 0 (outC x) := World.rangeAt_setCells_same _ _ _ _ (HT.out wr)
          have hB2 : Below wr.heap.size wr ((wr.alloc (.cells #[.int .u64 0, .int .u8 0, .int .u8 0, .int .u8 0, .int .u8 0, .int .u8 0, .int .u8 0, .int .u8 0, .int .u8 0, .int .u8 0, .int .u8 0, .int .u8 0, .int .u8 0, .int .u8 0, .int .u8 0, .int .u8 0, .int .u8 0, .int .u8 0, .int .u8 0, .int .u8 0, .int .u8 0, .int .u8 0, .int .u8 0, .int .u8 0, .int .u8 0, .int .u8 0, .int .u8 0, .int .u8 0, .int .u8 0, .int .u8 0, .int .u8 0, .int .u8 0, .int .u8 0] 60)).setCells wr.heap.size 0 (outC x)) := below_sets (Nat.le_refl _) _ _ _ ((Below.refl _ _).alloc (Nat.le_refl _) _)
          have c0 := hW 0 _ rfl
          simp only [Nat.add_zero] at c0
          generalize (wr.alloc (.cells #[.int .u64 0, .int .u8 0, .int .u8 0, .int .u8 0, .int .u8 0, .int .u8 0, .int .u8 0, .int .u8 0, .int .u8 0, .int .u8 0, .int .u8 0, .int .u8 0, .int .u8 0, .int .u8 0, .int .u8 0, .int .u8 0, .int .u8 0, .int .u8 0, .int .u8 0, .int .u8 0, .int .u8 0, .int .u8 0, .int .u8 0, .int .u8 0, .int .u8 0, .int .u8 0, .int .u8 0, .int .u8 0, .int .u8 0, .int .u8 0, .int .u8 0, .int .u8 0, .int .u8 0] 60)).setCells wr.heap.size 0 (outC x) = W2 at *
          have HB2 := hide (below_on HB.out hB2)
          have HOWN2 := hide (HOWN.out.move (w1 := W2) fun g _ hl => hB2.block g hl)
          clear hW hB2 HXR HN H1 HT HB HOWN
          generalize wr.heap.size = gb at *
          generalize hV : x.val = V at *
          have HVV := hide hV
          clear hV
          simp only [Act.put]
          obtain ⟨v4, w5, hrun, hrow, -, hbel⟩ := row_more W2 W5.heap.size HB2.out.size u9 _ (by simp [valsO]; omega) HOWN2.out V
          have R : Hid (Totalling W5 prev v4 (.int .i64 ((k + 1 : Nat) : Int)) w5) := hide ⟨k + 1, by omega, rfl, hbel _ _ HB2.out (Nat.le_refl _), by
            obtain ⟨e1, e2⟩ := List.getElem?_eq_some_iff.1 HX.out
            have e : valsO (prev.take (k + 1)) = valsO (prev.take k) ++ [V] := by
              rw [List.take_succ_eq_append_getElem e1, e2]
              simp [valsO, HVV.out]
            rw [e]
            exact hrow⟩
          clear hrow hbel HOWN2
          go_wp2_with (at_builtin; refine wp_app rfl (.tmp 54) (.tmp 57) 58 rfl (v1 := u9) (v2 := .slice (some ⟨W2.heap.size, 0, none⟩) 1 1) (v := v4) (w' := w5) rfl rfl ?_ ?_; exact hrun)
          go_roundw
          case rel => first | exact R.out | ((repeat apply Exists.intro); exact ⟨R.out, rfl⟩)
          case measure => simp [intOf]; omega
        · have hk2 : (t.ins.length : Int) ≤ (k : Int) := by rw [← HLEN.out]; omega
          have hk3 : ¬ k < t.ins.length := by rw [← HLEN.out]; exact hlt
          have htk : prev.take k = prev := List.take_of_length_le (by omega)
          rw [htk] at hown
          have HSL := hide (slice_of_row hown)
          have HT6 := hide (HT5.out.on hB)
          have HX6 := hide (HX5.out.on hB)
          have HB6 := hide (below_on HB5.out hB)
          have HS2 : Hid (Totalling wr t.outs (.slice none 0 0) (.int .i64 0) wr) := hide ⟨0, Nat.zero_le _, rfl, Below.refl _ _, RowOwn.nil _ _ _ _⟩
          obtain ⟨n0, n1, n2⟩ := HX6.out
          clear hB hown htk HB HOWN HT5 HX5 HB5 HP5
          go_wp2
          clear n0 n1 n2
          generalize wr = W6 at *
          go_loopw [10, 63] (fun v i wx => Totalling W6 t.outs v i wx) (fun _ i _ => t.outs.length - (intOf i).toNat)
          case atStart => exact HS2.out
          case round =>
            clear HS2
            obtain ⟨k, hk, rfl, hB, hown⟩ := hrel
            have HB := hide hB
            have HOWN := hide hown
            by_cases hlt : k < t.outs.length
            · obtain ⟨x, hx⟩ : ∃ x, t.outs[k]? = some x := ⟨_, List.getElem?_eq_getElem hlt⟩
              obtain ⟨b, off, rfl, hr⟩ := OutsAt.get (OutsAt.on HT6.out.2 hB) hx
              have hxl := (HOK.out.2.2 x (List.mem_of_getElem? hx)).2.1
              have HXR := hide hr
              have HN : Hid ((Tryd.prog.info? 60).map (·.size) = some (outC x).length) := hide (by rw [outC_length hxl]; exact info_out)
              have H1 : Hid (∀ u ∈ outC x, u.oneCell' = true) := hide (outC_one x)
              have HT : Hid (∀ w : World, (w.alloc (.cells #[.int .u64 0, .int .u8 0, .int .u8 0, .int .u8 0, .int .u8 0, .int .u8 0, .int .u8 0, .int .u8 0, .int .u8 0, .int .u8 0, .int .u8 0, .int .u8 0, .int .u8 0, .int .u8 0, .int .u8 0, .int .u8 0, .int .u8 0, .int .u8 0, .int .u8 0, .int .u8 0, .int .u8 0, .int .u8 0, .int .u8 0, .int .u8 0, .int .u8 0, .int .u8 0, .int .u8 0, .int .u8 0, .int .u8 0, .int .u8 0, .int .u8 0, .int .u8 0, .int .u8 0] 60)).there w.heap.size 0 (outC x).length) := hide (fun w => by rw [outC_length hxl]; exact out_there w)
              have hk1 : (k : Int) < (t.outs.length : Int) := by omega
              have HX := hide hx
              clear hr hx hxl hB hown
              go_upto_region 21 with (first | (refine wpList_load_mid rfl 60 (.tmp 65) rfl b (off + k * 33) rfl (outC x) _ HXR.out Tryd.underlying60 rfl HN.out ?_) | (refine wp_store_row rfl 60 (.tmp 14) (.tmp 66) rfl wr.heap.size 0 (outC x) rfl rfl (HT.out wr) HN.out H1.out ?_))
              have hW : ((wr.alloc (.cells #[.int .u64 0, .int .u8 0, .int .u8 0, .int .u8 0, .int .u8 0, .int .u8 0, .int .u8 0, .int .u8 0, .int .u8 0, .int .u8 0, .int .u8 0, .int .u8 0, .int .u8 0, .int .u8 0, .int .u8 0, .int .u8 0, .int .u8 0, .int .u8 0, .int .u8 0, .int .u8 0, .int .u8 0, .int .u8 0, .int .u8 0, .int .u8 0, .int .u8 0, .int .u8 0, .int .u8 0, .int .u8 0, .int .u8 0, .int .u8 0, .int .u8 0, .int .u8 0, .int .u8 0] 60)).setCells wr.heap.size 0 (outC x)).rangeAt wr.heap.size 0 (outC x) := World.rangeAt_setCells_same _ _ _ _ (HT.out wr)
              have hB2 : Below wr.heap.size wr ((wr.alloc (.cells #[.int .u64 0, .int .u8 0, .int .u8 0, .int .u8 0, .int .u8 0, .int .u8 0, .int .u8 0, .int .u8 0, .int .u8 0, .int .u8 0, .int .u8 0, .int .u8 0, .int .u8 0, .int .u8 0, .int .u8 0, .int .u8 0, .int .u8 0, .int .u8 0, .int .u8 0, .int .u8 0, .int .u8 0, .int .u8 0, .int .u8 0, .int .u8 0, .int .u8 0, .int .u8 0, .int .u8 0, .int .u8 0, .int .u8 0, .int .u8 0, .int .u8 0, .int .u8 0, .int .u8 0] 60)).setCells wr.heap.size 0 (outC x)) := below_sets (Nat.le_refl _) _ _ _ ((Below.refl _ _).alloc (Nat.le_refl _) _)
              have c0 := hW 0 _ rfl
              simp only [Nat.add_zero] at c0
              generalize (wr.alloc (.cells #[.int .u64 0, .int .u8 0, .int .u8 0, .int .u8 0, .int .u8 0, .int .u8 0, .int .u8 0, .int .u8 0, .int .u8 0, .int .u8 0, .int .u8 0, .int .u8 0, .int .u8 0, .int .u8 0, .int .u8 0, .int .u8 0, .int .u8 0, .int .u8 0, .int .u8 0, .int .u8 0, .int .u8 0, .int .u8 0, .int .u8 0, .int .u8 0, .int .u8 0, .int .u8 0, .int .u8 0, .int .u8 0, .int .u8 0, .int .u8 0, .int .u8 0, .int .u8 0, .int .u8 0] 60)).setCells wr.heap.size 0 (outC x) = W2 at *
              have HB2 := hide (below_on HB.out hB2)
              have HOWN2 := hide (HOWN.out.move (w1 := W2) fun g _ hl => hB2.block g hl)
              clear hW hB2 HXR HN H1 HT HB HOWN
              generalize wr.heap.size = gb at *
              generalize hV : x.val = V at *
              have HVV := hide hV
              clear hV
              simp only [Act.put]
              obtain ⟨v4, w5, hrun, hrow, -, hbel⟩ := row_more W2 W6.heap.size HB2.out.size u10 _ (by simp [valsO]; omega) HOWN2.out V
              have R : Hid (Totalling W6 t.outs v4 (.int .i64 ((k + 1 : Nat) : Int)) w5) := hide ⟨k + 1, by omega, rfl, hbel _ _ HB2.out (Nat.le_refl _), by
                obtain ⟨e1, e2⟩ := List.getElem?_eq_some_iff.1 HX.out
                have e : valsO (t.outs.take (k + 1)) = valsO (t.outs.take k) ++ [V] := by
                  rw [List.take_succ_eq_append_getElem e1, e2]
                  simp [valsO, HVV.out]
                rw [e]
                exact hrow⟩
              clear hrow hbel HOWN2
              go_wp2_with (at_builtin; refine wp_app rfl (.tmp 67) (.tmp 70) 58 rfl (v1 := u10) (v2 := .slice (some ⟨W2.heap.size, 0, none⟩) 1 1) (v := v4) (w' := w5) rfl rfl ?_ ?_; exact hrun)
              go_roundw
              case rel => first | exact R.out | ((repeat apply Exists.intro); exact ⟨R.out, rfl⟩)
              case measure => simp [intOf]; omega
            · have hk2 : (t.outs.length : Int) ≤ (k : Int) := by omega
              have htk : t.outs.take k = t.outs := List.take_of_length_le (by omega)
              rw [htk] at hown
              have C1 := hide (crsum_any (valsO prev) u9 wr (fun z hz => by
                obtain ⟨x, hx, rfl⟩ := List.mem_map.1 hz
                exact (HPO.out x hx).1) (HSL.out.on hB))
              have C2 := hide (crsum_any (valsO t.outs) u10 wr (fun z hz => by
                obtain ⟨x, hx, rfl⟩ := List.mem_map.1 hz
                exact (HOK.out.2.2 x hx).1) (slice_of_row hown))
              have HB7 := hide (below_on HB6.out hB)
              clear hown htk hB HB HOWN HSL
              have HAA := hide (fun h => HA.out ⟨HRT.out, h⟩)
              have HAB := hide (HA2.out HRT.out)
              clear HA HA2 HA3
              generalize csumV (valsO prev) = sp at *
              generalize csumV (valsO t.outs) = st at *
              generalize sumE (valsO prev) = se at *
              generalize sumE (valsO t.outs) = se2 at *
              go_wp2_with fail
              refine C1.out.mono ?_
              rintro e w8 ⟨rfl, rfl⟩
              go_wp2_with fail
              refine C2.out.mono ?_
              rintro e w9 ⟨rfl, rfl⟩
              clear C1 C2
              by_cases c2 : se = 0
              · subst c2
                by_cases c3 : sp < st
                · have A := hide (HAB.out (Or.inr c3))
                  clear HAA HAB
                  go_wp2
                  go_ret2
                  exact ⟨by rw [A.out.1, A.out.2]; first | done | rfl, HB7.out⟩
                · have A := hide (HAA.out ⟨rfl, by omega⟩)
                  have hw : IntKind.u64.wrap (sp - st) = sp - st := by
                    have h1 := HW1.out
                    have h2 := HW2.out
                    unfold Word at h1 h2
                    rw [IntKind.wrap_u64]
                    omega
                  clear HAA HAB
                  go_wp2
                  go_ret2
                  exact ⟨by rw [A.out.1, A.out.2]; first | done | rfl, HB7.out⟩
              · have hne : (se == 0) = false := by rw [beq_eq_false_iff_ne]; exact c2
                have A := hide (HAB.out (Or.inl c2))
                clear HAA HAB
                go_wp2
                go_ret2
                exact ⟨by rw [A.out.1, A.out.2]; first | done | rfl, HB7.out⟩

end Go.Proofs.YtbeegcpmpgdbnaaDoor
