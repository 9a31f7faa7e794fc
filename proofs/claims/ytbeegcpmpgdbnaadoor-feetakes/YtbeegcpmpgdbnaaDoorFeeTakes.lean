/-
  Proved: for every transaction and every number the law FeeTakes answers true, and its arguments read as they did. Condition: the table of the sum's constants stands, as the card says.
-/
import Derived.Test.YtbeegcpmpgdbnaaDoorFeeTkP
import Derived.Test.YtbeegcpmpgdbnaaDoorFeeGr
import Derived.Test.YtbeegcpmpgdbnaaDoorCameB
import Derived.Test.YtbeegcpmpgdbnaaDoorShaLaw
namespace Go.Proofs.YtbeegcpmpgdbnaaDoor
open Go.ChangeShapes Go.WideShapes Go.ChangeAt Go.RowKit

theorem wpb_one {w : World} {ops : Array Oper} {rest : List Oper} {o : Oper} {a : Act} {Q : Exit → Act → World → Prop} (hgd : o.guard = none) (t ty : TypeId) (x : Operand) (ho : o.op = .buildSlice t 1 #[(0, x)])
    (z : Value) (size bytes : Nat) (ht : Tryd.prog.underlying t = some (.slice ty)) (hinfo : (Tryd.prog.info? ty).map (fun i => (i.zero, i.size, i.bytes)) = some (some z, size, bytes)) (hsz : 0 < size) (hsz2 : size ≤ 1000) (c : List Value) (hc : c.length = size) (hx : a.eval x = .agg c.toArray)
    (h : wpList Tryd.prog ops Q rest (a.put o.dst (.slice (some ⟨w.heap.size, 0, none⟩) 1 1)) (w.alloc (.cells c.toArray ty))) : wpList Tryd.prog ops Q (o :: rest) a w := by
  have hrun := run_one w t ty z size bytes ht hinfo hsz hsz2 c hc
  refine wpList_plain hgd fun K hK => ?_
  unfold Oper.wp
  simp [execOp, ho, hx, hrun, Result.andThen]
  exact hK _ _ h
/-- So far these values are added. -/
def Summing (w : World) (L : List TOut) (s i : Value) (wr : World) : Prop := ∃ k : Nat, k ≤ L.length ∧ i = .int .i64 k ∧ s = .int .u64 (sumV (L.take k)) ∧ Below w.heap.size w wr
/-- So far these outputs are made. -/
def Locking (w : World) (L : List TIn) (v i : Value) (wr : World) : Prop := ∃ k : Nat, k ≤ L.length ∧ i = .int .i64 k ∧ Below w.heap.size w wr ∧ RowOwn wr w.heap.size 60 33 v ((locks (L.take k)).map outC)

set_option maxRecDepth 100000 in
set_option maxHeartbeats 8000000 in
theorem feeTakes_walk {w : World} (hk : Ks w) (t : Tr) (iv ov : Value) (h : TxAt w iv ov t) (hok : TrOk t) (m : Int) (hm : 0 ≤ m ∧ m < 4294967296) :
    Calls Tryd.prog 6 #[.agg #[.int .u32 t.ver, iv, ov], .int .u32 m] w fun e w' => e = .returned (.bool true) ∧ Below w.heap.size w w' := by
  classical
  obtain ⟨p, hp⟩ : ∃ p : Bool, p = true ↔ PayOk t.outs := ⟨decide (PayOk t.outs), by simp⟩
  obtain ⟨d, hd⟩ : ∃ d : Bool, d = false ↔ (t.ins.map ptOf).Nodup := ⟨!decide ((t.ins.map ptOf).Nodup), by simp⟩
  have hnm : (Tryd.f11.name == "runtime.NumGoroutine") = false := by kernel_rfl
  have hbd : Tryd.f11.body.isNone = false := by kernel_rfl
  have hnew := below_new w (.cells #[.int .u32 t.ver, iv, ov] 26)
  have HT0 := hide (h.on hnew)
  have HB0 := hide hnew
  have HX0 := hide (TBox.new w (.int .u32 t.ver) iv ov 26)
  have HK0 := hide (hk.on hnew)
  have AL := hide (fun w (k : Ks w) => alive10_any w k)
  have CC := hide (fun w (h : TxAt w iv ov t) => tcheck_any t iv ov w h hok p d hp hd)
  have CO := hide (fun (prev : List TOut) (hpo : ∀ x ∈ prev, OutOk x) (hr : Opens t.ins prev) w (pv : Value) (h : TxAt w iv ov t) (ho : OutsAt w pv prev) (k : Ks w) => of_any t iv ov pv prev w h ho hok hpo k p d true hp hd ⟨fun _ => hr, fun _ => rfl⟩)
  have HOK := hide hok
  have HC0 : Hid (chE t p d = 0 → p = true ∧ 0 < t.ins.length ∧ 0 < t.outs.length ∧ t.ins.length ≤ 8 ∧ t.outs.length ≤ 8 ∧ ∀ x ∈ t.ins, x.key.length ≤ 64) := hide (fun h => by
    have hf := (formB_iff t).1 (chE_form h)
    unfold chE at h
    rw [if_neg (by rw [chE_form h]; decide)] at h
    by_cases c : t.ins.length = 0 ∨ t.outs.length = 0
    · rw [if_pos c] at h
      cases h
    · rw [if_neg c] at h
      cases p with
      | false => simp at h
      | true => exact ⟨rfl, by omega, by omega, hf⟩)
  have HPY : Hid (p = true → PayOk t.outs) := hide hp.1
  have T1 := hide (fun hc hpt h0 => takes_enough (t := t) (p := p) (d := d) hc hp hpt h0 m hm)
  have T2 := hide (fun hc hpt h0 h9 => takes_less (t := t) (p := p) (d := d) hc hp hpt h0 h9)
  have T3 := hide (fun hc => takes_more (t := t) (p := p) (d := d) hc)
  obtain ⟨a, cap, rfl, -, -⟩ := h.1.form
  obtain ⟨a', cap', rfl, -, -⟩ := h.2.form
  have GR := hide (fun w (h : TxAt w (.slice a t.ins.length cap) (.slice a' t.outs.length cap') t) => great10_any t (.slice a t.ins.length cap) (.slice a' t.outs.length cap') none 0 0 w h.1 h.2 (fun x hx => (HOK.out.2.1 x hx).1))
  clear h hok hk hp hd hnew
  generalize g10 t 0 = gg at *
  go_enter Tryd.func6, Tryd.ntmps6
  go_upto_region 1 with fail
  generalize w.alloc (.cells #[.int .u32 t.ver, .slice a t.ins.length cap, .slice a' t.outs.length cap'] 26) = W0 at *
  generalize hwq : w.heap.size = q at *
  have HQ := hide hwq
  clear hwq
  go_wp2_with fail
  refine (AL.out _ HK0.out).mono ?_
  rintro e w1 ⟨rfl, hb1⟩
  have HB1 := hide (below_on (show Below w.heap.size w W0 by rw [HQ.out]; exact HB0.out) hb1)
  have HT1 := hide (HT0.out.on hb1)
  have HX1 := hide (HX0.out.on hb1)
  have HK1 := hide (HK0.out.on hb1)
  obtain ⟨n0, n1, n2⟩ := HX1.out
  clear hb1 HB0 HT0 HX0 HK0 AL
  go_wp2_with fail
  refine (GR.out _ HT1.out).mono ?_
  rintro e w2 ⟨rfl, hb2⟩
  have HB2 := hide (below_on HB1.out hb2)
  have HT2 := hide (HT1.out.on hb2)
  have HX2 := hide (HX1.out.on hb2)
  have HK2 := hide (HK1.out.on hb2)
  clear hb2 n0 n1 n2 HB1 HT1 HX1 HK1 GR
  obtain ⟨n0, n1, n2⟩ := HX2.out
  cases gg with
  | true =>
    clear CO CC
    go_wp2
    go_ret
    exact ⟨rfl, HB2.out⟩
  | false =>
  go_wp2_with fail
  refine (CC.out _ HT2.out).mono ?_
  rintro e w3 ⟨rfl, hb3⟩
  have HB3 := hide (below_on HB2.out hb3)
  have HT3 := hide (HT2.out.on hb3)
  have HX3 := hide (HX2.out.on hb3)
  have HK3 := hide (HK2.out.on hb3)
  clear hb3 n0 n1 n2 HB2 HT2 HX2 HK2 CC
  obtain ⟨n0, n1, n2⟩ := HX3.out
  by_cases c0 : chE t p d = 0
  case neg =>
    generalize chE t p d = ce at *
    have c0' : (ce == 0) = false := by rw [beq_eq_false_iff_ne]; exact c0
    clear CO T1 T2 T3
    go_wp2
    go_ret
    exact ⟨rfl, HB3.out⟩
  rw [c0]
  obtain ⟨hpt, hi0, ho0, hi8, ho8, hky⟩ := HC0.out c0
  have T1 := hide (T1.out c0 hpt hi0)
  have T2 := hide (T2.out c0 hpt hi0 (sumV_pos (HPY.out hpt).1 ho0))
  have T3 := hide (T3.out c0)
  have HSM : Hid (0 < sumV t.outs ∧ sumV t.outs ≤ 1125899906842624) := hide ⟨sumV_pos (HPY.out hpt).1 ho0, (HPY.out hpt).2⟩
  have HVO := hide (HPY.out hpt).1
  have HKY := hide hky
  clear HC0 HPY hpt c0 hky
  have HS : Hid (Locking w3 t.ins (.slice none 0 0) (.int .i64 0) w3) := hide ⟨0, Nat.zero_le _, rfl, Below.refl _ _, RowOwn.nil _ _ _ _⟩
  go_wp2
  clear n0 n1 n2
  go_loopw [5, 29] (fun v i wr => Locking w3 t.ins v i wr) (fun _ i _ => t.ins.length - (intOf i).toNat)
  case atStart => exact HS.out
  case round =>
    clear HS
    obtain ⟨k, hk, rfl, hB, hown⟩ := hrel
    have HB := hide hB
    have HOWN := hide hown
    by_cases hlt : k < t.ins.length
    · obtain ⟨x, hx⟩ : ∃ x, t.ins[k]? = some x := ⟨_, List.getElem?_eq_getElem hlt⟩
      obtain ⟨b, off, kv, rfl, hrx, hbv⟩ := (HT3.out.1.on hB).get hx
      have hxl := (HOK.out.2.1 x (List.mem_of_getElem? hx)).1
      have HKL := hide (HKY.out x (List.mem_of_getElem? hx))
      have HXR := hide hrx
      have HN : Hid ((Tryd.prog.info? 39).map (·.size) = some (inC (x, kv)).length) := hide (by rw [inC_length hxl]; exact info_in)
      have H1 : Hid (∀ u ∈ inC (x, kv), u.oneCell' = true) := hide (inC_one hbv.oneCell)
      have HT : Hid (∀ w : World, (w.alloc (.cells #[.int .u8 0, .int .u8 0, .int .u8 0, .int .u8 0, .int .u8 0, .int .u8 0, .int .u8 0, .int .u8 0, .int .u8 0, .int .u8 0, .int .u8 0, .int .u8 0, .int .u8 0, .int .u8 0, .int .u8 0, .int .u8 0, .int .u8 0, .int .u8 0, .int .u8 0, .int .u8 0, .int .u8 0, .int .u8 0, .int .u8 0, .int .u8 0, .int .u8 0, .int .u8 0, .int .u8 0, .int .u8 0, .int .u8 0, .int .u8 0, .int .u8 0, .int .u8 0, .int .u32 0, .slice none 0 0] 39)).there w.heap.size 0 (inC (x, kv)).length) := hide (fun w => by rw [inC_length hxl]; exact in_there w)
      have hk1 : (k : Int) < (t.ins.length : Int) := by omega
      have HX := hide hx
      clear hx hB hown
      go_upto_region 9 with (first | (refine wpList_load_mid rfl 39 (.tmp 31) rfl b (off + k * 34) rfl (inC (x, kv)) _ HXR.out Tryd.underlying39 rfl HN.out ?_) | (refine wp_store_row rfl 39 (.tmp 7) (.tmp 32) rfl wr.heap.size 0 (inC (x, kv)) rfl rfl (HT.out wr) HN.out H1.out ?_))
      have hW : ((wr.alloc (.cells #[.int .u8 0, .int .u8 0, .int .u8 0, .int .u8 0, .int .u8 0, .int .u8 0, .int .u8 0, .int .u8 0, .int .u8 0, .int .u8 0, .int .u8 0, .int .u8 0, .int .u8 0, .int .u8 0, .int .u8 0, .int .u8 0, .int .u8 0, .int .u8 0, .int .u8 0, .int .u8 0, .int .u8 0, .int .u8 0, .int .u8 0, .int .u8 0, .int .u8 0, .int .u8 0, .int .u8 0, .int .u8 0, .int .u8 0, .int .u8 0, .int .u8 0, .int .u8 0, .int .u32 0, .slice none 0 0] 39)).setCells wr.heap.size 0 (inC (x, kv))).rangeAt wr.heap.size 0 (inC (x, kv)) := World.rangeAt_setCells_same _ _ _ _ (HT.out wr)
      have hB2 : Below wr.heap.size wr ((wr.alloc (.cells #[.int .u8 0, .int .u8 0, .int .u8 0, .int .u8 0, .int .u8 0, .int .u8 0, .int .u8 0, .int .u8 0, .int .u8 0, .int .u8 0, .int .u8 0, .int .u8 0, .int .u8 0, .int .u8 0, .int .u8 0, .int .u8 0, .int .u8 0, .int .u8 0, .int .u8 0, .int .u8 0, .int .u8 0, .int .u8 0, .int .u8 0, .int .u8 0, .int .u8 0, .int .u8 0, .int .u8 0, .int .u8 0, .int .u8 0, .int .u8 0, .int .u8 0, .int .u8 0, .int .u32 0, .slice none 0 0] 39)).setCells wr.heap.size 0 (inC (x, kv))) := below_sets (Nat.le_refl _) _ _ _ ((Below.refl _ _).alloc (Nat.le_refl _) _)
      generalize (wr.alloc (.cells #[.int .u8 0, .int .u8 0, .int .u8 0, .int .u8 0, .int .u8 0, .int .u8 0, .int .u8 0, .int .u8 0, .int .u8 0, .int .u8 0, .int .u8 0, .int .u8 0, .int .u8 0, .int .u8 0, .int .u8 0, .int .u8 0, .int .u8 0, .int .u8 0, .int .u8 0, .int .u8 0, .int .u8 0, .int .u8 0, .int .u8 0, .int .u8 0, .int .u8 0, .int .u8 0, .int .u8 0, .int .u8 0, .int .u8 0, .int .u8 0, .int .u8 0, .int .u8 0, .int .u32 0, .slice none 0 0] 39)).setCells wr.heap.size 0 (inC (x, kv)) = W2 at *
      have HB2 := hide (below_on HB.out hB2)
      have HOWN2 := hide (HOWN.out.move (w1 := W2) fun g _ hl => hB2.block g hl)
      have c33 := (inC_key hW hxl).1
      simp only [Nat.zero_add] at c33
      have C := hide (lock_any W2 kv x.key (hbv.below hB2) (HK3.out.on HB2.out) (by have := HKL.out; omega))
      have HDL := hide (digest_length x.key)
      have OB := out_built ⟨0, digest x.key⟩ HDL.out
      have hvl : (vals .u8 (digest x.key)).length = 32 := by rw [vals_length]; exact HDL.out
      have HOC : Hid (outC ⟨0, digest x.key⟩ = outC ⟨0, digest x.key⟩) := hide rfl
      clear hW hB2 HXR HN H1 HT HB HOWN hrx hbv HOC
      generalize wr.heap.size = gb at *
      simp only [Act.put]
      obtain ⟨D, hD⟩ : ∃ D, D = digest x.key := ⟨_, rfl⟩
      have HD := hide hD
      rw [← hD] at C OB hvl HDL
      clear hD
      go_wp2_with fail
      refine C.out.mono ?_
      rintro e w5 ⟨rfl, hb5⟩
      have HB5 := hide (below_on HB2.out hb5)
      have HOWN5 := hide (HOWN2.out.move (w1 := w5) fun g _ hl => hb5.block g hl)
      clear hb5 c33 C HB2 HOWN2
      have HOL : Hid ((outC ⟨0, D⟩).length = 33) := hide (outC_length HDL.out)
      have HO1 := hide (outC_one ⟨0, D⟩)
      have hbn := below_new w5 (.cells (outC ⟨0, D⟩).toArray 60)
      have HOWN6 := hide (HOWN5.out.move (w1 := w5.alloc (.cells (outC ⟨0, D⟩).toArray 60)) fun g _ hl => hbn.block g hl)
      have HB6 := hide (HB5.out.alloc HB5.out.size (.cells (outC ⟨0, D⟩).toArray 60))
      have hw6 : w3.heap.size ≤ (w5.alloc (.cells (outC ⟨0, D⟩).toArray 60)).heap.size := HB6.out.size
      obtain ⟨v7, w7, hrun, hrow7, hgr, -⟩ := run_append_row (w5.alloc (.cells (outC ⟨0, D⟩).toArray 60)) 24 60 24 _ 33 40 Tryd.underlying24 infoOut rfl (by omega) (by omega) w3.heap.size u5 ((locks (t.ins.take k)).map outC) HOWN6.out w5.heap.size (outC ⟨0, D⟩) (range_new w5 (outC ⟨0, D⟩) 60) ⟨HOL.out, HO1.out⟩ (by simp [locks]; omega) hw6
      have hlt7 := HOWN6.out.lt
      have R1 : Hid (Below w3.heap.size w3 w7) := hide (HB6.out.grown hgr hw6 fun j hj => (hlt7 j hj).1)
      have R : Hid (Locking w3 t.ins v7 (.int .i64 ((k + 1 : Nat) : Int)) w7) := hide ⟨k + 1, by omega, rfl, R1.out, by
        obtain ⟨e1, e2⟩ := List.getElem?_eq_some_iff.1 HX.out
        have e : (locks (t.ins.take (k + 1))).map outC = (locks (t.ins.take k)).map outC ++ [outC ⟨0, D⟩] := by
          rw [List.take_succ_eq_append_getElem e1, e2, HD.out]
          simp [locks]
        rw [e]
        exact hrow7⟩
      clear hbn hrow7 hgr hw6 hlt7 R1 HOWN5 HOWN6 HB5 HB6 HO1
      change List.foldl (fun (cs : Array Value) (x : Value × Nat) => cs.setIfInBounds (1 + x.2) x.1) #[.int .u64 0, .int .u8 0, .int .u8 0, .int .u8 0, .int .u8 0, .int .u8 0, .int .u8 0, .int .u8 0, .int .u8 0, .int .u8 0, .int .u8 0, .int .u8 0, .int .u8 0, .int .u8 0, .int .u8 0, .int .u8 0, .int .u8 0, .int .u8 0, .int .u8 0, .int .u8 0, .int .u8 0, .int .u8 0, .int .u8 0, .int .u8 0, .int .u8 0, .int .u8 0, .int .u8 0, .int .u8 0, .int .u8 0, .int .u8 0, .int .u8 0, .int .u8 0, .int .u8 0] (vals .u8 D).zipIdx = (outC ⟨0, D⟩).toArray at OB
      generalize outC ⟨0, D⟩ = OC at *
      go_wp2_with (first
        | (refine wpb_one rfl 24 60 (.tmp 37) rfl _ 33 40 Tryd.underlying24 infoOut (by omega) (by omega) OC HOL.out rfl ?_)
        | (at_builtin; refine wp_app rfl (.tmp 33) (.tmp 38) 24 rfl (v1 := u5) (v2 := .slice (some ⟨w5.heap.size, 0, none⟩) 1 1) (v := v7) (w' := w7) rfl rfl ?_ ?_; exact hrun))
      go_roundw
      case rel => first | exact R.out | ((repeat apply Exists.intro); exact ⟨R.out, rfl⟩)
      case measure => simp [intOf]; omega
    · have hk2 : (t.ins.length : Int) ≤ (k : Int) := by omega
      have htk : t.ins.take k = t.ins := List.take_of_length_le (by omega)
      rw [htk] at hown
      obtain ⟨x0, rest, hins⟩ : ∃ x0 rest, t.ins = x0 :: rest := by
        cases h : t.ins with
        | nil => rw [h] at hi0; simp at hi0
        | cons x l => exact ⟨x, l, rfl⟩
      have hl33 : (locks t.ins).map outC = (.int .u64 0 :: vals .u8 (digest x0.key)) :: (locks rest).map outC := by
        rw [hins]
        rfl
      have hhead : ∀ z, (headV z (locks t.ins)).map outC = (.int .u64 z :: vals .u8 (digest x0.key)) :: (locks rest).map outC := by
        intro z
        rw [hins]
        rfl
      have hform := hown.row.form
      obtain ⟨pa, pc, hpa, -, -⟩ := hform
      replace hpa : u5 = .slice pa t.ins.length pc := by rw [hpa]; simp [locks]
      subst hpa
      obtain ⟨g, o, hgo, -⟩ := hown.row.get (k := 0) (c := .int .u64 0 :: vals .u8 (digest x0.key)) (by rw [hl33]; rfl)
      subst hgo
      have ho : o = 0 := by
        rcases hown.1.2 with ⟨e, _⟩ | ⟨g', c', cur, e, _⟩
        · cases e
        · have := hown.row
          simp only [Value.slice.injEq, Option.some.injEq, Addr.mk.injEq] at e
          exact e.1.2.1
      subst ho
      rw [hl33] at hown
      have hrl : rest.length ≤ 8 := by
        have h8 := hi8
        rw [hins] at h8
        simp only [List.length_cons] at h8
        omega
      have HOWN4 := hide hown
      have HHD := hide hhead
      have HB4 := hide hB
      have HX4 := hide (HX3.out.on hB)
      have HT4 := hide (HT3.out.on hB)
      clear hown hl33 hhead hB HB HOWN htk hins
      obtain ⟨n0, n1, n2⟩ := HX4.out
      have HS2 : Hid (Summing wr t.outs (.int .u64 0) (.int .i64 0) wr) := hide ⟨0, Nat.zero_le _, rfl, by simp [sumV], Below.refl _ _⟩
      go_wp2
      clear n0 n1 n2
      generalize wr = w4 at *
      go_loopw [8, 44] (fun v i wx => Summing w4 t.outs v i wx) (fun _ i _ => t.outs.length - (intOf i).toNat)
      case atStart => exact HS2.out
      case round =>
        clear HS2
        obtain ⟨k, hk, rfl, rfl, hB⟩ := hrel
        have HB := hide hB
        by_cases hlt : k < t.outs.length
        · obtain ⟨x, hx⟩ : ∃ x, t.outs[k]? = some x := ⟨_, List.getElem?_eq_getElem hlt⟩
          obtain ⟨b, off, rfl, hr⟩ := OutsAt.get (OutsAt.on HT4.out.2 hB) hx
          have hxl := (HOK.out.2.2 x (List.mem_of_getElem? hx)).2.1
          have HXR := hide hr
          have HN : Hid ((Tryd.prog.info? 60).map (·.size) = some (outC x).length) := hide (by rw [outC_length hxl]; exact info_out)
          have H1 : Hid (∀ u ∈ outC x, u.oneCell' = true) := hide (outC_one x)
          have HT : Hid (∀ w : World, (w.alloc (.cells #[.int .u64 0, .int .u8 0, .int .u8 0, .int .u8 0, .int .u8 0, .int .u8 0, .int .u8 0, .int .u8 0, .int .u8 0, .int .u8 0, .int .u8 0, .int .u8 0, .int .u8 0, .int .u8 0, .int .u8 0, .int .u8 0, .int .u8 0, .int .u8 0, .int .u8 0, .int .u8 0, .int .u8 0, .int .u8 0, .int .u8 0, .int .u8 0, .int .u8 0, .int .u8 0, .int .u8 0, .int .u8 0, .int .u8 0, .int .u8 0, .int .u8 0, .int .u8 0, .int .u8 0] 60)).there w.heap.size 0 (outC x).length) := hide (fun w => by rw [outC_length hxl]; exact out_there w)
          have hk1 : (k : Int) < (t.outs.length : Int) := by omega
          have hv0 := HVO.out x (List.mem_of_getElem? hx)
          have hsb := (sumV_le (t.outs.take k) (fun y hy => HVO.out y (List.mem_of_mem_take hy)))
          have HNX := hide (sumV_next hx)
          have hlk : ((t.outs.take k).length : Int) ≤ 8 := by simp; omega
          unfold valOk at hv0
          clear hr hx hxl hB
          go_upto_region 15 with (first | (refine wpList_load_mid rfl 60 (.tmp 46) rfl b (off + k * 33) rfl (outC x) _ HXR.out Tryd.underlying60 rfl HN.out ?_) | (refine wp_store_row rfl 60 (.tmp 10) (.tmp 47) rfl wr.heap.size 0 (outC x) rfl rfl (HT.out wr) HN.out H1.out ?_))
          have hW : ((wr.alloc (.cells #[.int .u64 0, .int .u8 0, .int .u8 0, .int .u8 0, .int .u8 0, .int .u8 0, .int .u8 0, .int .u8 0, .int .u8 0, .int .u8 0, .int .u8 0, .int .u8 0, .int .u8 0, .int .u8 0, .int .u8 0, .int .u8 0, .int .u8 0, .int .u8 0, .int .u8 0, .int .u8 0, .int .u8 0, .int .u8 0, .int .u8 0, .int .u8 0, .int .u8 0, .int .u8 0, .int .u8 0, .int .u8 0, .int .u8 0, .int .u8 0, .int .u8 0, .int .u8 0, .int .u8 0] 60)).setCells wr.heap.size 0 (outC x)).rangeAt wr.heap.size 0 (outC x) := World.rangeAt_setCells_same _ _ _ _ (HT.out wr)
          have hB2 : Below wr.heap.size wr ((wr.alloc (.cells #[.int .u64 0, .int .u8 0, .int .u8 0, .int .u8 0, .int .u8 0, .int .u8 0, .int .u8 0, .int .u8 0, .int .u8 0, .int .u8 0, .int .u8 0, .int .u8 0, .int .u8 0, .int .u8 0, .int .u8 0, .int .u8 0, .int .u8 0, .int .u8 0, .int .u8 0, .int .u8 0, .int .u8 0, .int .u8 0, .int .u8 0, .int .u8 0, .int .u8 0, .int .u8 0, .int .u8 0, .int .u8 0, .int .u8 0, .int .u8 0, .int .u8 0, .int .u8 0, .int .u8 0] 60)).setCells wr.heap.size 0 (outC x)) := below_sets (Nat.le_refl _) _ _ _ ((Below.refl _ _).alloc (Nat.le_refl _) _)
          have cc0 := hW 0 _ rfl
          simp only [Nat.add_zero] at cc0
          generalize (wr.alloc (.cells #[.int .u64 0, .int .u8 0, .int .u8 0, .int .u8 0, .int .u8 0, .int .u8 0, .int .u8 0, .int .u8 0, .int .u8 0, .int .u8 0, .int .u8 0, .int .u8 0, .int .u8 0, .int .u8 0, .int .u8 0, .int .u8 0, .int .u8 0, .int .u8 0, .int .u8 0, .int .u8 0, .int .u8 0, .int .u8 0, .int .u8 0, .int .u8 0, .int .u8 0, .int .u8 0, .int .u8 0, .int .u8 0, .int .u8 0, .int .u8 0, .int .u8 0, .int .u8 0, .int .u8 0] 60)).setCells wr.heap.size 0 (outC x) = W2 at *
          have HB2 := hide (below_on HB.out hB2)
          clear hW hB2 HXR HN H1 HT HB
          generalize wr.heap.size = gb at *
          generalize hS : sumV (t.outs.take k) = S at *
          have HSS := hide hS
          clear hS
          generalize hV : x.val = V at *
          have HVV := hide hV
          clear hV
          have hwv : IntKind.u64.wrap (S + V) = S + V := by rw [IntKind.wrap_u64]; omega
          have R : Hid (Summing w4 t.outs (.int .u64 (S + V)) (.int .i64 ((k + 1 : Nat) : Int)) W2) := hide ⟨k + 1, by omega, rfl, by rw [HNX.out], HB2.out⟩
          simp only [Act.put]
          clear hsb
          go_wp2
          go_roundw
          case rel => first | exact R.out | ((repeat apply Exists.intro); exact ⟨R.out, rfl⟩)
          case measure => simp [intOf]; omega
        · have hk2 : (t.outs.length : Int) ≤ (k : Int) := by omega
          have htk : t.outs.take k = t.outs := List.take_of_length_le (by omega)
          rw [htk]
          obtain ⟨s1, s2⟩ := HSM.out
          generalize hSV : sumV t.outs = S at *
          clear htk hSV
          have HB5 := hide (below_on HB4.out hB)
          have HOWN5 := hide (HOWN4.out.move (w1 := wr) fun g _ hl => hB.block g hl)
          clear hB HB HB4 HX4 HT4 HOWN4
          obtain ⟨h6, c6, f6, bg⟩ := head_set (u := .int .u64 (S + m)) rfl HOWN5.out
          have HB6 := hide (show Below w3.heap.size w3 (wr.setCell ⟨g, 0, none⟩ (.int .u64 (S + m))) from HB5.out.setCell bg _)
          have HOWN6 := hide h6
          clear h6
          have e1 : IntKind.u64.wrap m = m := by rw [IntKind.wrap_u64]; omega
          have e2 : IntKind.u64.wrap (S + m) = S + m := by rw [IntKind.wrap_u64]; omega
          have hi1 : (0 : Int) < (t.ins.length : Int) := by omega
          have HX6 := hide (HX3.out.on HB6.out)
          have HT6 := hide (HT3.out.on HB6.out)
          have HK6 := hide (HK3.out.on HB6.out)
          obtain ⟨n0, n1, n2⟩ := HX6.out
          have C1 := hide (CO.out (headV (S + m) (locks t.ins)) (headV_ok ⟨by omega, by omega⟩ (locks_ok _)) (headV_opens _ _))
          rw [T1.out.1, T1.out.2] at C1
          go_upto_region 18 with fail
          generalize wr.setCell ⟨g, 0, none⟩ (.int .u64 (S + m)) = W6 at *
          have HO6 : Hid (OutsAt W6 (.slice (some ⟨g, 0, none⟩) t.ins.length pc) (headV (S + m) (locks t.ins))) := hide (by
            have h := HOWN6.out.row
            rw [← HHD.out] at h
            exact h)
          clear c6 f6
          go_wp2_with fail
          refine (C1.out _ _ HT6.out HO6.out HK6.out).mono ?_
          rintro e w6 ⟨rfl, hb6⟩
          have HB7 := hide (below_on HB6.out hb6)
          have HOWN7 := hide (HOWN6.out.move (w1 := w6) fun g _ hl => hb6.block g hl)
          clear hb6 n0 n1 n2 HB6 HOWN6 HX6 HT6 HK6 HO6 C1 T1 HB5 HOWN5
          obtain ⟨h8, c8, f8, bg8⟩ := head_set (u := .int .u64 (S - 1)) rfl HOWN7.out
          have HB8 := hide (show Below w3.heap.size w3 (w6.setCell ⟨g, 0, none⟩ (.int .u64 (S - 1))) from HB7.out.setCell bg8 _)
          have HOWN8 := hide h8
          clear h8
          have e3 : IntKind.u64.wrap (S - 1) = S - 1 := by rw [IntKind.wrap_u64]; omega
          have HX8 := hide (HX3.out.on HB8.out)
          have HT8 := hide (HT3.out.on HB8.out)
          have HK8 := hide (HK3.out.on HB8.out)
          obtain ⟨n0, n1, n2⟩ := HX8.out
          have C2 := hide (CO.out (headV (S - 1) (locks t.ins)) (headV_ok ⟨by omega, by omega⟩ (locks_ok _)) (headV_opens _ _))
          rw [T2.out] at C2
          have C3 := hide (CO.out (headV (S - 1) (locks t.ins) ++ [⟨0, List.replicate 32 0⟩]) (fun x hx => by
            rcases List.mem_append.1 hx with hx | hx
            · exact headV_ok ⟨by omega, by omega⟩ (locks_ok _) x hx
            · obtain rfl := List.mem_singleton.1 hx
              exact ⟨⟨Int.le_refl 0, by show (0 : Int) < 18446744073709551616; omega⟩, by simp, fun z hz => by
                have := (List.mem_replicate.1 hz).2
                subst this
                exact ⟨by omega, by omega⟩⟩) (app_opens _ _ _))
          rw [T3.out _ (by simp [headV_length, locks]) true] at C3
          go_upto_region 20 with fail
          generalize w6.setCell ⟨g, 0, none⟩ (.int .u64 (S - 1)) = W8 at *
          have HO8 : Hid (OutsAt W8 (.slice (some ⟨g, 0, none⟩) t.ins.length pc) (headV (S - 1) (locks t.ins))) := hide (by
            have h := HOWN8.out.row
            rw [← HHD.out] at h
            exact h)
          clear c8 f8
          go_wp2_with fail
          refine (C2.out _ _ HT8.out HO8.out HK8.out).mono ?_
          rintro e w9 ⟨rfl, hb9⟩
          have HB9 := hide (below_on HB8.out hb9)
          have HOWN9 := hide (HOWN8.out.move (w1 := w9) fun g _ hl => hb9.block g hl)
          clear hb9 n0 n1 n2 HB8 HOWN8 HX8 HT8 HK8 HO8 C2 T2 HB7 HOWN7
          have HX8 := hide (HX3.out.on HB9.out)
          have HT8 := hide (HT3.out.on HB9.out)
          have HK8 := hide (HK3.out.on HB9.out)
          have HOWN8 := hide HOWN9.out
          have HB8 := hide (below_on HB3.out HB9.out)
          clear HOWN9
          obtain ⟨n0, n1, n2⟩ := HX3.out
          go_upto_region 21 with fail
          generalize w9 = W at *
          generalize ofV t (headV (S - 1) (locks t.ins) ++ [⟨0, List.replicate 32 0⟩]) p d true = RVV at *
          try simp only [Act.put]
          refine wp_region_held_drew (S := fun wx => Below w3.heap.size w3 wx) (by kernel_rfl) HB9.out.drew (fun hHeld => ?_)
          refine wpAnyH_take (i := 0) (oi := { dst := some 78, op := Op.load 26 (Operand.tmp 2), type := 26, pos := "law.go:140", after := #[], guard := none }) (v := .agg #[.int .u32 t.ver, .slice a t.ins.length cap, .slice a' t.outs.length cap']) rfl (by kernel_rfl) (by kernel_rfl) (by kernel_rfl) (fun _ _ _ h => h) (Or.inl ⟨by rfl, fun wx h => by have c0 := (h.cell (World.block_lt_of_cell? _ _ n0)).trans n0; have c1 := (h.cell (World.block_lt_of_cell? _ _ n1)).trans n1; have c2 := (h.cell (World.block_lt_of_cell? _ _ n2)).trans n2; go_simp⟩) (by assumption) ?_
          simp only [Act.put, List.setIfInBounds_toArray, List.set_cons_zero, List.set_cons_succ]
          refine wpAnyH_take (i := 1) (oi := { dst := some 79, op := Op.move (Operand.tmp 5), type := 24, pos := "law.go:140", after := #[], guard := none }) (v := .slice (some ⟨g, 0, none⟩) t.ins.length pc) rfl (by kernel_rfl) (by kernel_rfl) (by kernel_rfl) (fun _ _ _ h => h) (Or.inl ⟨by rfl, fun w _ => by go_simp⟩) (by assumption) ?_
          simp only [Act.put, List.setIfInBounds_toArray, List.set_cons_zero, List.set_cons_succ]
          refine wpAnyH_take (i := 2) (oi := { dst := some 80, op := Op.build 60 #[], type := 60, pos := "law.go:140", after := #[], guard := none }) (v := .agg #[.int .u64 0, .int .u8 0, .int .u8 0, .int .u8 0, .int .u8 0, .int .u8 0, .int .u8 0, .int .u8 0, .int .u8 0, .int .u8 0, .int .u8 0, .int .u8 0, .int .u8 0, .int .u8 0, .int .u8 0, .int .u8 0, .int .u8 0, .int .u8 0, .int .u8 0, .int .u8 0, .int .u8 0, .int .u8 0, .int .u8 0, .int .u8 0, .int .u8 0, .int .u8 0, .int .u8 0, .int .u8 0, .int .u8 0, .int .u8 0, .int .u8 0, .int .u8 0, .int .u8 0]) rfl (by kernel_rfl) (by kernel_rfl) (by kernel_rfl) (fun _ _ _ h => h) (Or.inl ⟨by rfl, fun w _ => by go_simp⟩) (by assumption) ?_
          simp only [Act.put, List.setIfInBounds_toArray, List.set_cons_zero, List.set_cons_succ]
          refine wpAnyH_ready (rs := [3]) (by kernel_rfl) (by simp) (AllReadyH.cons (o := { dst := some 81, op := Op.buildSlice 24 1 #[(0, Operand.tmp 80)], type := 24, pos := "law.go:140", after := #[{ on := 2, ground := Ground.data }], guard := none }) rfl (fun K hK => ?_) AllReadyH.nil)
          refine sb_one (by rfl) 24 60 (.tmp 80) rfl _ 33 40 Tryd.underlying24 infoOut (by omega) (by omega) (outC ⟨0, List.replicate 32 0⟩) (by simp [outC, vals]) rfl ?_
          refine hK.out _ _ ?_ (fun hHeld => ?_)
          · exact hHeld.alloc hHeld.size _
          clear hK K
          try simp only [Act.put, List.setIfInBounds_toArray, List.set_cons_zero, List.set_cons_succ]
          refine wpAnyH_ready (rs := [4]) (by kernel_rfl) (by simp) (AllReadyH.cons (o := { dst := some 82, op := Op.call { callee := Callee.builtin Builtin.append, args := #[Operand.tmp 79, Operand.tmp 81], argTypes := #[24, 24] }, type := 24, pos := "law.go:140", after := #[{ on := 1, ground := Ground.data }, { on := 3, ground := Ground.data }], guard := none }) rfl (fun K hK => ?_) AllReadyH.nil)
          have hbn := below_new W.drew (.cells (outC ⟨0, List.replicate 32 0⟩).toArray 60)
          have hbd2 := below_on (Below.refl W.heap.size W).drew hbn
          have hm9 := HOWN8.out.move (w1 := W.drew.alloc (.cells (outC ⟨0, List.replicate 32 0⟩).toArray 60)) fun g _ hl => hbd2.block g hl
          have hw9 : w3.heap.size ≤ (W.drew.alloc (.cells (outC ⟨0, List.replicate 32 0⟩).toArray 60)).heap.size := Nat.le_trans HB9.out.size hbd2.size
          obtain ⟨v10, w10, hrun, hrow10, hgr, -⟩ := run_append_row (W.drew.alloc (.cells (outC ⟨0, List.replicate 32 0⟩).toArray 60)) 24 60 24 _ 33 40 Tryd.underlying24 infoOut rfl (by omega) (by omega) w3.heap.size _ _ hm9 W.drew.heap.size (outC ⟨0, List.replicate 32 0⟩) (range_new W.drew (outC ⟨0, List.replicate 32 0⟩) 60) ⟨by simp [outC, vals], outC_one _⟩ (by simp [locks]; omega) hw9
          have HB10 := hide ((HB9.out.trans (hbd2.mono HB9.out.size)).grown hgr hw9 fun j hj => (hm9.lt j hj).1)
          refine step_app rfl (.tmp 79) (.tmp 81) 24 rfl (v1 := .slice (some ⟨g, 0, none⟩) t.ins.length pc) (v2 := .slice (some ⟨W.drew.heap.size, 0, none⟩) 1 1) (v := v10) (w' := w10) rfl rfl hrun ?_
          refine hK.out _ _ ?_ (fun hHeld => ?_)
          · exact HB10.out
          clear hK K
          try simp only [Act.put, List.setIfInBounds_toArray, List.set_cons_zero, List.set_cons_succ]
          refine wpAnyH_ready (rs := [5]) (by kernel_rfl) (by simp) (AllReadyH.cons (o := { dst := some 83, op := Op.call { callee := Callee.value (Operand.func 11), args := #[Operand.tmp 78, Operand.tmp 82], argTypes := #[26, 24] }, type := 31, pos := "law.go:140", after := #[{ on := 0, ground := Ground.data }, { on := 4, ground := Ground.data }, { on := 4, ground := Ground.chain }], guard := none }) rfl (fun K hK => ?_) AllReadyH.nil)
          have ho10 : OutsAt w10 v10 (headV (S - 1) (locks t.ins) ++ [⟨0, List.replicate 32 0⟩]) := by
            have h := hrow10.row
            unfold OutsAt
            rw [List.map_append, HHD.out]
            exact h
          refine step_go (vs := #[.agg #[.int .u32 t.ver, .slice a t.ins.length cap, .slice a' t.outs.length cap'], v10]) rfl 11 _ Tryd.func11 hnm hbd _ _ rfl (by simp [Act.eval]) ?_
          refine (C3.out _ _ (HT3.out.on HB10.out) ho10 (HK3.out.on HB10.out)).mono ?_
          rintro e w11 ⟨rfl, hb11⟩
          refine ⟨_, rfl, ?_⟩
          refine hK.out _ _ ?_ (fun hHeld => ?_)
          · exact below_on hHeld hb11
          clear hK K
          try simp only [Act.put, List.setIfInBounds_toArray, List.set_cons_zero, List.set_cons_succ]
          refine wpAnyH_take (i := 6) (oi := { dst := some 77, op := Op.move (Operand.tmp 83), type := 31, pos := "law.go:140", after := #[{ on := 5, ground := Ground.data }], guard := none }) (v := .tuple #[.int .u64 RVV, .int .i64 2]) rfl (by kernel_rfl) (by kernel_rfl) (by kernel_rfl) (fun _ _ _ h => h) (Or.inl ⟨by rfl, fun w _ => by go_simp⟩) (by assumption) ?_
          simp only [Act.put, List.setIfInBounds_toArray, List.set_cons_zero, List.set_cons_succ]
          refine wpAnyH_take (i := 7) (oi := { dst := some 84, op := Op.extract (Operand.tmp 77) 0, type := 29, pos := "law.go:140", after := #[{ on := 6, ground := Ground.data }], guard := none }) (v := .int .u64 RVV) rfl (by kernel_rfl) (by kernel_rfl) (by kernel_rfl) (fun _ _ _ h => h) (Or.inl ⟨by rfl, fun w _ => by go_simp⟩) (by assumption) ?_
          simp only [Act.put, List.setIfInBounds_toArray, List.set_cons_zero, List.set_cons_succ]
          refine wpAnyH_take (i := 8) (oi := { dst := some 85, op := Op.extract (Operand.tmp 77) 1, type := 30, pos := "law.go:140", after := #[{ on := 6, ground := Ground.data }, { on := 9, ground := Ground.gcOnly Departure.lateStores }], guard := none }) (v := .int .i64 2) rfl (by kernel_rfl) (by kernel_rfl) (by kernel_rfl) (fun _ _ _ h => h) (Or.inl ⟨by rfl, fun w _ => by go_simp⟩) (by assumption) ?_
          simp only [Act.put, List.setIfInBounds_toArray, List.set_cons_zero, List.set_cons_succ]
          refine wpAnyH_take (i := 9) (oi := { dst := some 15, op := Op.assign (Operand.tmp 84), type := 29, pos := "law.go:140", after := #[{ on := 7, ground := Ground.data }, { on := 5, ground := Ground.chain }, { on := 0, ground := Ground.phase }, { on := 1, ground := Ground.phase }, { on := 2, ground := Ground.phase }, { on := 3, ground := Ground.phase }, { on := 4, ground := Ground.phase }, { on := 5, ground := Ground.phase }, { on := 6, ground := Ground.phase }, { on := 7, ground := Ground.phase }, { on := 8, ground := Ground.textOnly Departure.lateStores }], guard := none }) (v := .int .u64 RVV) rfl (by kernel_rfl) (by kernel_rfl) (by kernel_rfl) (fun _ _ _ h => h) (Or.inl ⟨by rfl, fun w _ => by go_simp⟩) (by assumption) ?_
          simp only [Act.put, List.setIfInBounds_toArray, List.set_cons_zero, List.set_cons_succ]
          refine wpAnyH_take (i := 10) (oi := { dst := some 16, op := Op.assign (Operand.tmp 85), type := 30, pos := "law.go:140", after := #[{ on := 8, ground := Ground.data }, { on := 9, ground := Ground.chain }, { on := 0, ground := Ground.phase }, { on := 1, ground := Ground.phase }, { on := 2, ground := Ground.phase }, { on := 3, ground := Ground.phase }, { on := 4, ground := Ground.phase }, { on := 5, ground := Ground.phase }, { on := 6, ground := Ground.phase }, { on := 7, ground := Ground.phase }, { on := 8, ground := Ground.phase }, { on := 9, ground := Ground.phase }], guard := none }) (v := .int .i64 2) rfl (by kernel_rfl) (by kernel_rfl) (by kernel_rfl) (fun _ _ _ h => h) (Or.inl ⟨by rfl, fun w _ => by go_simp⟩) (by assumption) ?_
          simp only [Act.put, List.setIfInBounds_toArray, List.set_cons_zero, List.set_cons_succ]
          refine wpAnyH_done (by kernel_rfl) ?_ _
          have HBF := hide (below_on HB3.out hHeld)
          clear hHeld HB8 HX8 HK8 HT8 HOWN8 n0 n1 n2 hb11 HB10 hrow10 hgr hm9
          go_wp2
          go_ret
          exact ⟨by first | rfl | simp, HBF.out⟩

set_option maxRecDepth 100000 in
theorem feeTakes_lifted (os : Os) (started : os.Started) (H : Type) (enc : TypeId × Value → H) :
    ReturnsInHanded {} Tryd.checked os 6 .any (fun w args => (Rows.feeTakesSpec.pre enc Tryd.prog Tryd.f6 [] false w args ∧ laidMetH Tryd.prog laid1 w) ∧ sizedMet enc Tryd.prog Tryd.f6 (OpenSpec.ofChange Rows.feeTakesSpec) false w args)
      (Rows.feeTakesSpec.post enc Tryd.prog Tryd.f6 false true false false) := by
  refine returnsInHanded_of_change_and (C := Tryd.checked) (X := fun w _ => laidMetH Tryd.prog laid1 w) (fun _ _ _ hh h => h.of_heap hh) own started (by kernel_rfl) Tryd.func6
    (ChangeSpec.witness_shaped (enc := enc) (C := Tryd.checked) (os := os) (X := fun w _ => laidMetH Tryd.prog laid1 w) false (World.doorLaid Tryd.prog 14 os) #[.agg #[.int .u32 0, .slice none 0 0, .slice none 0 0], .int .u32 0] 8 rfl (World.shaped_of_RefB (by kernel_rfl) (by kernel_rfl)) (by kernel_rfl) (by kernel_rfl) (by kernel_rfl) (door_met os _)) ?_
  intro W base args ds gs before hval0 hW _ _ hL _
  have hval : ∀ (j : Nat) t v, Tryd.f6.params[j]? = some t → args[j]? = some v → Value.okWide Tryd.prog W .any base t v := hval0
  have hW' := hW
  obtain ⟨p, q, hA0, hV, rfl, hfz, hnd⟩ := hW
  have hA : DataW.TrodAll enc Tryd.prog W 0 (fun _ => true) true Tryd.f6.params.toList args.toList ds p := hA0
  rw [Tryd.params6] at hA hval
  obtain ⟨v0, vs0, d0, ds0, p0, q0, hargs, rfl, rfl, h0, r0⟩ := trodAll_cons hA
  obtain ⟨v1, vs1, d1, ds1, p1, q1, rfl, rfl, rfl, h1, r1⟩ := trodAll_cons r0
  obtain ⟨rfl, rfl, rfl⟩ := trodAll_nil r1
  obtain rfl : args = #[v0, v1] := by cases args; simp_all
  obtain ⟨rfl, rfl⟩ := trodVars_none hV
  have k0 := h0
  have lt0 : ∀ x ∈ p0, x.block < W.heap.size := by obtain ⟨m, hm⟩ := k0; exact DataW.trod_lt m _ _ _ hm
  obtain ⟨t0, a0, b0, rfl, s0, w0⟩ := tx_came (fun _ => rfl) (hval 0 26 v0 rfl rfl) h0
  obtain ⟨a1, rfl, rfl, rfl, w1⟩ := open_int Tryd.underlying22 (hval 1 22 v1 rfl rfl) h1
  clear hA0 hval0
  refine (feeTakes_walk (w := W) (ks_of_laid hL) t0 _ _ s0 w0 a1 (u32_of_wf w1)).mono fun e W' ⟨he, bel⟩ => ?_
  subst he
  exact ⟨_, rfl, _, _, _, [], _, [], hW', trodAll_mk1 (shut_bool Tryd.underlying4 _), (trodAll_cons_mk (Below.trod laidOut (by kernel_rfl) (of_decide_eq_true (by kernel_rfl)) k0 bel lt0) (trodAll_cons_mk (shut_int Tryd.underlying22 w1) trodAll_mk0)), rfl, bel.frame _, fun h => by cases h⟩

theorem feeTakes_holds : Rows.FeeTakesSaid :=
  OpenClaim.holds_of_wide 6 Tryd.f6 rfl rfl rfl rfl rfl rfl rfl ⟨rfl, rfl, rfl, rfl, rfl⟩ rfl rfl rfl rfl rfl (by kernel_rfl) Tryd.func6 (by kernel_rfl)
    (of_decide_eq_true (by kernel_rfl)) (by unfold Func.isWrapper; first | (rw [if_pos (by decide +kernel)]; kernel_rfl) | (rw [if_neg (by decide +kernel)]; exact ⟨rfl, rfl⟩))
    (fun os started H enc _ => feeTakes_lifted os started H enc)
#print axioms feeTakes_holds
theorem feeTakes_card : Rows.FeeTakesCardSaid :=
  Claim7.holds_tied_plain_at .later [] [.data] true (true, "85baf81c6edc530ebc6a8ace781ae8a87f889e51b0c1991837a95916fbd68c89") false
    feeTakes_holds (fun _ h => by cases h) (by kernel_rfl) (fun _ h => by cases h) feeTakes_row_tie rfl ⟨rfl, rfl⟩ (by kernel_rfl) rfl
    (fun f fn hf hfn => by
      obtain rfl : f = 6 := Option.some.inj ((show Tryd.prog.funcNamed "pappus/pappuslaw10.FeeTakes" = some 6 by kernel_rfl).symm.trans hf) |>.symm
      obtain rfl : fn = Tryd.f6 := (Option.some.inj (Tryd.func6.symm.trans hfn)).symm
      exact ⟨by kernel_rfl, fun j t ht => by
        rw [Tryd.params6] at ht
        have hm : t ∈ [26, 22] := by simpa using Array.mem_of_getElem? ht
        have hall : ([26, 22].all fun u => !Tryd.prog.wantsStandIn u) = true := by kernel_rfl
        exact (show Tryd.prog.wantsStandIn t = false by simpa using List.all_eq_true.1 hall t hm)⟩)
    (by kernel_rfl)
#print axioms feeTakes_card
end Go.Proofs.YtbeegcpmpgdbnaaDoor
