/-
  Proved: for every transaction the law TxIds answers true, and its argument reads as it did. Condition: the table of the sum's constants stands, as the card says.
-/
import Derived.Test.YtjgainoplgojiabDoorTxCoins
import Derived.Test.YtjgainoplgojiabDoorShaLaw
import Derived.Test.YtjgainoplgojiabDoorTxCutP
namespace Go.Proofs.YtjgainoplgojiabDoor
open Go.ChangeShapes Go.WideShapes Go.ChangeAt Go.RowKit

/-- A row is loaded behind a guard that says yes. -/
theorem wp_load_guarded {P : Program} {ops : Array Oper} {rest : List Oper} {op : Oper} {a : Act} {w : World} {Q : Exit → Act → World → Prop} (hw : Region.wanted op (yielded ops a.tmps) = true) (ty : TypeId) (x : Operand) (ho : op.op = .load ty x)
    (b o : Nat) (hx : a.eval x = .pointer (some ⟨b, o, none⟩)) (cs : List Value) (d : TypeDesc) (hc : w.rangeAt b o cs)
    (hu : P.underlying ty = some d) (hd : d.isRow = true) (hi : (P.info? ty).map (·.size) = some cs.length)
    (h : wpList P ops Q rest (a.put op.dst (.agg cs.toArray)) w) : wpList P ops Q (op :: rest) a w :=
  wpList_step fun _ hK => by
    rw [if_pos hw]
    exact wp_load_mid ty x ho b o hx cs d hc hu hd hi (hK _ _ h)

set_option maxRecDepth 100000 in
set_option maxHeartbeats 1000000 in
theorem ids_long {w : World} (hk : Ks w) (t : Tr) (iv ov : Value) (h : TxAt w iv ov t) (hok : TrOk t) (hg : greatB t = false) (hf : formB t = false) :
    Calls Tryd.prog 3 #[.agg #[.int .u32 t.ver, iv, ov]] w fun e w' => e = .returned (.bool true) ∧ Below w.heap.size w w' := by
  have HT0 := hide (h.on (below_new w (.cells #[.int .u32 t.ver, iv, ov] 26)))
  have HB0 := hide (below_new w (.cells #[.int .u32 t.ver, iv, ov] 26))
  have HX0 := hide (TBox.new w (.int .u32 t.ver) iv ov 26)
  have HK := hide hk
  have GR := hide (fun w (h : TxAt w iv ov t) => great_any t iv ov w h.1 h.2 (fun x hx => (hok.2.1 x hx).1))
  rw [hg] at GR
  have AL := hide alive_any
  have PT := hide (fun w (h : TxAt w iv ov t) => tput_any t iv ov w h.1 h.2 hok)
  rw [(ptL_long hf).1, (ptL_long hf).2] at PT
  have TI := hide (fun w (h : TxAt w iv ov t) (k : Ks w) => tid_any t iv ov w h hok k (fun e => by rw [hf] at e; cases e))
  rw [(ptL_long hf).2] at TI
  have TC := hide (fun w (h : TxAt w iv ov t) (k : Ks w) => tcoins_long t iv ov w h hok k hf)
  have HID := hide (idT_length t)
  have EQ : ∀ wx, (Op.equalIn 10000 34 (.agg (vals .u8 (idT t)).toArray) (.agg #[.int .u8 0, .int .u8 0, .int .u8 0, .int .u8 0, .int .u8 0, .int .u8 0, .int .u8 0, .int .u8 0, .int .u8 0, .int .u8 0, .int .u8 0, .int .u8 0, .int .u8 0, .int .u8 0, .int .u8 0, .int .u8 0, .int .u8 0, .int .u8 0, .int .u8 0, .int .u8 0, .int .u8 0, .int .u8 0, .int .u8 0, .int .u8 0, .int .u8 0, .int .u8 0, .int .u8 0, .int .u8 0, .int .u8 0, .int .u8 0, .int .u8 0, .int .u8 0])).run Tryd.prog wx = .ok true wx := by
    intro wx
    rw [idT_long hf]
    exact eql_hash (List.replicate 32 0) (by simp) wx
  obtain ⟨a, cap, rfl, -, -⟩ := h.1.form
  obtain ⟨a', cap', rfl, -, -⟩ := h.2.form
  clear h hok hk hg hf
  generalize idT t = D at *
  go_enter Tryd.func3, Tryd.ntmps3
  go_upto_region 1 with fail
  generalize w.alloc (.cells #[.int .u32 t.ver, .slice a t.ins.length cap, .slice a' t.outs.length cap'] 26) = W0 at *
  go_wp2_with fail
  refine (AL.out _).mono ?_
  rintro e w1 ⟨rfl, hb1⟩
  have HB1 := hide (below_on HB0.out hb1)
  have HT1 := hide (HT0.out.on hb1)
  have HX1 := hide (HX0.out.on hb1)
  obtain ⟨n0, n1, n2⟩ := HX1.out
  clear hb1 HB0 HT0 HX0 AL
  go_wp2_with fail
  refine (GR.out _ HT1.out).mono ?_
  rintro e w2 ⟨rfl, hb2⟩
  have HB2 := hide (below_on HB1.out hb2)
  have HT2 := hide (HT1.out.on hb2)
  have HX2 := hide (HX1.out.on hb2)
  clear n0 n1 n2
  obtain ⟨n0, n1, n2⟩ := HX2.out
  clear hb2 HB1 HT1 HX1 GR
  go_wp2_with fail
  refine (PT.out _ HT2.out).mono ?_
  rintro e w3 ⟨v3, rfl, hown3, hb3⟩
  have HB3 := hide (below_on HB2.out hb3)
  have HT3 := hide (HT2.out.on hb3)
  have HX3 := hide (HX2.out.on hb3)
  have HV3 := hide hown3.bytes
  obtain ⟨pa, pc, rfl, -, -⟩ := hown3.bytes.form
  clear n0 n1 n2
  obtain ⟨n0, n1, n2⟩ := HX3.out
  clear hb3 HB2 HT2 HX2 PT hown3
  go_wp2_with fail
  refine (TI.out _ HT3.out (HK.out.on HB3.out)).mono ?_
  rintro e w4 ⟨rfl, hb4⟩
  have HB4 := hide (below_on HB3.out hb4)
  have HT4 := hide (HT3.out.on hb4)
  have HX4 := hide (HX3.out.on hb4)
  have HV4 := hide (HV3.out.below hb4)
  clear n0 n1 n2
  obtain ⟨n0, n1, n2⟩ := HX4.out
  clear hb4 HB3 HT3 HX3 HV3 TI
  have KP := hide (hash_kept w4 D HID.out)
  go_upto_region 7 with (refine wp_store_arr rfl 34 (.tmp 5) (.tmp 23) rfl _ 0 .u8 D rfl rfl 32 (hash_there _) info_h HID.out ?_)
  generalize (w4.alloc (.cells #[.int .u8 0, .int .u8 0, .int .u8 0, .int .u8 0, .int .u8 0, .int .u8 0, .int .u8 0, .int .u8 0, .int .u8 0, .int .u8 0, .int .u8 0, .int .u8 0, .int .u8 0, .int .u8 0, .int .u8 0, .int .u8 0, .int .u8 0, .int .u8 0, .int .u8 0, .int .u8 0, .int .u8 0, .int .u8 0, .int .u8 0, .int .u8 0, .int .u8 0, .int .u8 0, .int .u8 0, .int .u8 0, .int .u8 0, .int .u8 0, .int .u8 0, .int .u8 0] 34)).setCells w4.heap.size 0 (vals .u8 D) = W5 at *
  clear n0 n1 n2
  have HB5 := hide (below_on HB4.out KP.out.1)
  have HT5 := hide (HT4.out.on KP.out.1)
  have HX5 := hide (HX4.out.on KP.out.1)
  have HV5 := hide (HV4.out.below KP.out.1)
  have HA5 := hide KP.out.2
  obtain ⟨n0, n1, n2⟩ := HX5.out
  clear KP HB4 HT4 HX4 HV4
  generalize w4.heap.size = q at *
  go_wp2_with fail
  refine (TC.out _ HT5.out (HK.out.on HB5.out)).mono ?_
  rintro e w6 ⟨rfl, hb6⟩
  have HB6 := hide (below_on HB5.out hb6)
  have HA6 := hide (HA5.out.on hb6)
  have HIH : Hid ((Tryd.prog.info? 34).map (·.size) = some (vals .u8 D).length) := hide (by rw [vals_length, HID.out]; exact info_h)
  clear hb6 n0 n1 n2 HB5 HT5 HX5 HV5 HA5 TC
  go_wp2_with (refine wp_load_guarded (by rfl) 34 (.tmp 5) rfl q 0 rfl (vals .u8 D) _ HA6.out.1 Tryd.underlying34 rfl HIH.out ?_)
  go_ret
  exact ⟨rfl, HB6.out⟩

theorem RowAt.get {w : World} {s : Nat} {a : Option Addr} {n cap : Nat} {C : List (List Value)} (h : RowAt w s (.slice a n cap) C) {k : Nat} {c : List Value} (hk : C[k]? = some c) :
    ∃ b off, a = some ⟨b, off, none⟩ ∧ w.rangeAt b (off + k * s) c := by
  obtain ⟨a', cap', e, -, -, -, h5⟩ := h
  simp only [Value.slice.injEq] at e
  obtain ⟨rfl, -, -⟩ := e
  obtain ⟨b, off, rfl, hc⟩ := h5 (by have := (List.getElem?_eq_some_iff.1 hk).1; omega)
  exact ⟨b, off, rfl, hc k c hk⟩
theorem coC_range {w : World} {b : Nat} {id : List Int} {k : Nat} {x : TOut} (h : w.rangeAt b 0 (coC id k x)) (hl : id.length = 32) : w.rangeAt b 0 (vals .u8 id) ∧ w.cell? ⟨b, 32, none⟩ = some (.int .u32 k) ∧ w.rangeAt b 33 (outC x) := by
  have hv : (vals .u8 id).length = 32 := by rw [vals_length, hl]
  have hp := ptC_length (k : Int) hl
  have h1 : w.rangeAt b 0 (ptC id k) := range_left h
  refine ⟨range_left h1, ?_, ?_⟩
  · have := h1 32 (.int .u32 k) (by unfold ptC; rw [List.getElem?_append_right (by omega), hv]; rfl)
    simpa using this
  · intro i c hi
    have := h (33 + i) c (by unfold coC; rw [List.getElem?_append_right (by omega), hp, show 33 + i - 33 = i by omega]; exact hi)
    rw [Nat.zero_add] at this
    exact this
local notation "coinZ" => (List.toArray (Value.int IntKind.u8 0 :: Value.int IntKind.u8 0 :: Value.int IntKind.u8 0 :: Value.int IntKind.u8 0 :: Value.int IntKind.u8 0 :: Value.int IntKind.u8 0 :: Value.int IntKind.u8 0 :: Value.int IntKind.u8 0 :: Value.int IntKind.u8 0 :: Value.int IntKind.u8 0 :: Value.int IntKind.u8 0 :: Value.int IntKind.u8 0 :: Value.int IntKind.u8 0 :: Value.int IntKind.u8 0 :: Value.int IntKind.u8 0 :: Value.int IntKind.u8 0 :: Value.int IntKind.u8 0 :: Value.int IntKind.u8 0 :: Value.int IntKind.u8 0 :: Value.int IntKind.u8 0 :: Value.int IntKind.u8 0 :: Value.int IntKind.u8 0 :: Value.int IntKind.u8 0 :: Value.int IntKind.u8 0 :: Value.int IntKind.u8 0 :: Value.int IntKind.u8 0 :: Value.int IntKind.u8 0 :: Value.int IntKind.u8 0 :: Value.int IntKind.u8 0 :: Value.int IntKind.u8 0 :: Value.int IntKind.u8 0 :: Value.int IntKind.u8 0 :: Value.int IntKind.u32 0 :: Value.int IntKind.u64 0 :: Value.int IntKind.u8 0 :: Value.int IntKind.u8 0 :: Value.int IntKind.u8 0 :: Value.int IntKind.u8 0 :: Value.int IntKind.u8 0 :: Value.int IntKind.u8 0 :: Value.int IntKind.u8 0 :: Value.int IntKind.u8 0 :: Value.int IntKind.u8 0 :: Value.int IntKind.u8 0 :: Value.int IntKind.u8 0 :: Value.int IntKind.u8 0 :: Value.int IntKind.u8 0 :: Value.int IntKind.u8 0 :: Value.int IntKind.u8 0 :: Value.int IntKind.u8 0 :: Value.int IntKind.u8 0 :: Value.int IntKind.u8 0 :: Value.int IntKind.u8 0 :: Value.int IntKind.u8 0 :: Value.int IntKind.u8 0 :: Value.int IntKind.u8 0 :: Value.int IntKind.u8 0 :: Value.int IntKind.u8 0 :: Value.int IntKind.u8 0 :: Value.int IntKind.u8 0 :: Value.int IntKind.u8 0 :: Value.int IntKind.u8 0 :: Value.int IntKind.u8 0 :: Value.int IntKind.u8 0 :: Value.int IntKind.u8 0 :: Value.int IntKind.u8 0 :: (List.nil : List Value)))
/-- What holds at the head of a round. -/
def Idsing (w : World) (K : Nat) (i : Value) (wr : World) : Prop := ∃ k : Nat, k ≤ K ∧ i = .int .i64 k ∧ Below w.heap.size w wr

set_option maxRecDepth 100000 in
set_option maxHeartbeats 4000000 in
theorem ids_form {w : World} (hk : Ks w) (t : Tr) (iv ov : Value) (h : TxAt w iv ov t) (hok : TrOk t) (hg : greatB t = false) (hf : formB t = true) (hn : t.outs.length ≤ 1000) :
    Calls Tryd.prog 3 #[.agg #[.int .u32 t.ver, iv, ov]] w fun e w' => e = .returned (.bool true) ∧ Below w.heap.size w w' := by
  have hle : (txB t).length ≤ 100000000 := Nat.le_trans (txB_le t hok hf) (by decide)
  have HT0 := hide (h.on (below_new w (.cells #[.int .u32 t.ver, iv, ov] 26)))
  have HB0 := hide (below_new w (.cells #[.int .u32 t.ver, iv, ov] 26))
  have HX0 := hide (TBox.new w (.int .u32 t.ver) iv ov 26)
  have HK := hide hk
  have GR := hide (fun w (h : TxAt w iv ov t) => great_any t iv ov w h.1 h.2 (fun x hx => (hok.2.1 x hx).1))
  rw [hg] at GR
  have AL := hide alive_any
  have PT := hide (fun w (h : TxAt w iv ov t) => tput_any t iv ov w h.1 h.2 hok)
  rw [(ptL_form hf).1, (ptL_form hf).2] at PT
  have TI := hide (fun w (h : TxAt w iv ov t) (k : Ks w) => tid_any t iv ov w h hok k (fun _ => hle))
  rw [(ptL_form hf).2] at TI
  have TC := hide (fun w (h : TxAt w iv ov t) (k : Ks w) => tcoins_form t iv ov w h hok k hle hf hn)
  have HID := hide (idT_length t)
  have TW := hide (fun wx v (hp : Parts wx v [txB t]) (k : Ks wx) => twice_flat wx v [txB t] (txB t) (by simp) hp k hle)
  rw [← idT_form hf] at TW
  have HOX := hide hok.2.2
  obtain ⟨a, cap, rfl, -, -⟩ := h.1.form
  obtain ⟨a', cap', rfl, hd1, hd2⟩ := h.2.form
  clear h hok hk hg hf hle
  generalize idT t = D at *
  generalize txB t = l at *
  go_enter Tryd.func3, Tryd.ntmps3
  go_upto_region 1 with fail
  generalize w.alloc (.cells #[.int .u32 t.ver, .slice a t.ins.length cap, .slice a' t.outs.length cap'] 26) = W0 at *
  go_wp2_with fail
  refine (AL.out _).mono ?_
  rintro e w1 ⟨rfl, hb1⟩
  have HB1 := hide (below_on HB0.out hb1)
  have HT1 := hide (HT0.out.on hb1)
  have HX1 := hide (HX0.out.on hb1)
  obtain ⟨n0, n1, n2⟩ := HX1.out
  clear hb1 HB0 HT0 HX0 AL
  go_wp2_with fail
  refine (GR.out _ HT1.out).mono ?_
  rintro e w2 ⟨rfl, hb2⟩
  have HB2 := hide (below_on HB1.out hb2)
  have HT2 := hide (HT1.out.on hb2)
  have HX2 := hide (HX1.out.on hb2)
  clear n0 n1 n2
  obtain ⟨n0, n1, n2⟩ := HX2.out
  clear hb2 HB1 HT1 HX1 GR
  go_wp2_with fail
  refine (PT.out _ HT2.out).mono ?_
  rintro e w3 ⟨v3, rfl, hown3, hb3⟩
  have HB3 := hide (below_on HB2.out hb3)
  have HT3 := hide (HT2.out.on hb3)
  have HX3 := hide (HX2.out.on hb3)
  have HV3 := hide hown3.bytes
  obtain ⟨pa, pc, rfl, -, -⟩ := hown3.bytes.form
  clear n0 n1 n2
  obtain ⟨n0, n1, n2⟩ := HX3.out
  clear hb3 HB2 HT2 HX2 PT hown3
  go_wp2_with fail
  refine (TI.out _ HT3.out (HK.out.on HB3.out)).mono ?_
  rintro e w4 ⟨rfl, hb4⟩
  have HB4 := hide (below_on HB3.out hb4)
  have HT4 := hide (HT3.out.on hb4)
  have HX4 := hide (HX3.out.on hb4)
  have HV4 := hide (HV3.out.below hb4)
  clear n0 n1 n2
  obtain ⟨n0, n1, n2⟩ := HX4.out
  clear hb4 HB3 HT3 HX3 HV3 TI
  have KP := hide (hash_kept w4 D HID.out)
  go_upto_region 7 with (refine wp_store_arr rfl 34 (.tmp 5) (.tmp 23) rfl _ 0 .u8 D rfl rfl 32 (hash_there _) info_h HID.out ?_)
  generalize (w4.alloc (.cells #[.int .u8 0, .int .u8 0, .int .u8 0, .int .u8 0, .int .u8 0, .int .u8 0, .int .u8 0, .int .u8 0, .int .u8 0, .int .u8 0, .int .u8 0, .int .u8 0, .int .u8 0, .int .u8 0, .int .u8 0, .int .u8 0, .int .u8 0, .int .u8 0, .int .u8 0, .int .u8 0, .int .u8 0, .int .u8 0, .int .u8 0, .int .u8 0, .int .u8 0, .int .u8 0, .int .u8 0, .int .u8 0, .int .u8 0, .int .u8 0, .int .u8 0, .int .u8 0] 34)).setCells w4.heap.size 0 (vals .u8 D) = W5 at *
  clear n0 n1 n2
  have HB5 := hide (below_on HB4.out KP.out.1)
  have HT5 := hide (HT4.out.on KP.out.1)
  have HX5 := hide (HX4.out.on KP.out.1)
  have HV5 := hide (HV4.out.below KP.out.1)
  have HA5 := hide KP.out.2
  obtain ⟨n0, n1, n2⟩ := HX5.out
  clear KP HB4 HT4 HX4 HV4
  generalize w4.heap.size = q at *
  go_wp2_with fail
  refine (TC.out _ HT5.out (HK.out.on HB5.out)).mono ?_
  rintro e w6 ⟨v6, rfl, hb6, hrow6⟩
  have HR6 := hide hrow6.row
  obtain ⟨ca, cc, rfl, hz1, hz2⟩ := hrow6.row.form
  rw [coins_length] at hz1 HR6
  have HB6 := hide (below_on HB5.out hb6)
  have HT6 := hide (HT5.out.on hb6)
  have HX6 := hide (HX5.out.on hb6)
  have HV6 := hide (HV5.out.below hb6)
  have HA6 := hide (HA5.out.on hb6)
  have HIH : Hid ((Tryd.prog.info? 34).map (·.size) = some (vals .u8 D).length) := hide (by rw [vals_length, HID.out]; exact info_h)
  rw [coins_length]
  clear hb6 n0 n1 n2 HB5 HT5 HX5 HV5 HA5 TC hrow6
  have EQ := fun wx => eql_hash D HID.out wx
  have hu := Tryd.underlying34
  have hi := HIH.out
  have TWD := hide (show Calls Tryd.prog 9 #[.slice (some ⟨w6.heap.size, 0, none⟩) 1 1] (w6.alloc (.cells #[.slice pa l.length pc] 29)).drew (fun e w' => e = .returned (.agg (vals .u8 D).toArray) ∧ Below w6.heap.size w6 w') from (TW.out _ _ ((Parts.one w6 _ l HV6.out).below (Below.refl _ _).drew) (HK.out.on ((below_on HB6.out (below_new w6 _)).drew))).mono (by
      rintro e w' ⟨rfl, hb⟩
      exact ⟨rfl, below_on (below_new w6 _).drew hb⟩))
  have HCC : Hid (∀ wx, Below w6.heap.size w6 wx → Below w6.heap.size w6 wx ∧ wx.rangeAt q 0 (vals .u8 D) ∧ wx.cell? ⟨w.heap.size, 2, none⟩ = some (.slice a' t.outs.length cap')) := hide (fun wx h => ⟨h, (HA6.out.on h).1, (HX6.out.on h).2.2⟩)
  go_wp2_with fail
  go_region_held3 (fun wx => Below w6.heap.size w6 wx ∧ wx.rangeAt q 0 (vals .u8 D) ∧ wx.cell? ⟨w.heap.size, 2, none⟩ = some (.slice a' t.outs.length cap'))
    (((with_reducible refine HCC.out _ ?_); (repeat (with_reducible first | exact hb7 | exact Below.refl _ _ | refine Below.drew ?_ | refine below_alloc ?_ _ | fail))))
    (first
      | (go_at_call 9; refine TWD.out.mono ?_; rintro e w7 ⟨rfl, hb7⟩))
  have HX7 := hide (HX6.out.on hb7)
  have HA7 := hide (HA6.out.on hb7)
  have HR7 := hide (HR6.out.on hb7)
  have HO7 := hide (OutsAt.on HT6.out.2 hb7)
  have HB7 := hide (below_on HB6.out hb7)
  have HS : Hid (Idsing w7 t.outs.length (.int .i64 0) w7) := hide ⟨0, Nat.zero_le _, rfl, Below.refl _ _⟩
  clear hb7 TWD HCC HB6 HT6 HX6 HV6 HA6 HR6 EQ hu hi TW HK
  go_wp2_with fail
  go_loopw [73] (fun i wr => Idsing w7 t.outs.length i wr) (fun i _ => t.outs.length - (intOf i).toNat)
  case atStart => exact HS.out
  case round =>
    clear HS
    obtain ⟨k, hk, rfl, hB⟩ := hrel
    have HB := hide hB
    by_cases hlt : k < t.outs.length
    · obtain ⟨x, hx⟩ : ∃ x, t.outs[k]? = some x := ⟨_, List.getElem?_eq_getElem hlt⟩
      obtain ⟨b, off, rfl, hr⟩ := (HR7.out.on hB).get (coins_get (id := D) hx)
      obtain ⟨b', off', rfl, hr'⟩ := (OutsAt.on HO7.out hB).get hx
      have hxl := (HOX.out x (List.mem_of_getElem? hx)).2.1
      have hcl := coC_length D k x HID.out hxl
      have HXR := hide hr
      have HN : Hid ((Tryd.prog.info? 47).map (·.size) = some (coC D k x).length) := hide (by rw [hcl]; exact info_co)
      have HT : Hid ((wr.alloc (.cells coinZ 47)).there wr.heap.size 0 (coC D k x).length) := hide (by rw [hcl]; exact there_new wr coinZ _)
      have hk1 : (k : Int) < (t.outs.length : Int) := by omega
      have hku : IntKind.u32.wrap (k : Int) = k := by simp [IntKind.wrap, IntKind.bits, IntKind.signed]; omega
      have hz := zero_coin wr
      have hXA := HA7.out.on hB
      have hXX := (HX7.out.on hB).2.2
      have HXL := hide hxl
      clear hr hx hxl hcl hB
      go_upto_region 15 with (first | (refine wpList_load_mid rfl 47 (.tmp 76) rfl b (off + k * 66) rfl (coC D k x) _ HXR.out Tryd.underlying47 rfl HN.out ?_) | (refine wp_store_row rfl 47 (.tmp 10) (.tmp 77) rfl wr.heap.size 0 (coC D k x) rfl rfl HT.out HN.out (coC_one _ _ _) ?_))
      have hW : ((wr.alloc (.cells coinZ 47)).setCells wr.heap.size 0 (coC D k x)).rangeAt wr.heap.size 0 (coC D k x) := World.rangeAt_setCells_same _ _ _ _ HT.out
      have hB2 : Below wr.heap.size wr ((wr.alloc (.cells coinZ 47)).setCells wr.heap.size 0 (coC D k x)) := below_sets (Nat.le_refl _) _ _ _ ((Below.refl _ _).alloc (Nat.le_refl _) _)
      generalize (wr.alloc (.cells coinZ 47)).setCells wr.heap.size 0 (coC D k x) = W3 at *
      obtain ⟨r1, r2, r3⟩ := coC_range hW HID.out
      have HP1 := hide r1
      have HP3 := hide r3
      have HP4 := hide (range_on hr' hB2)
      have HP5 := hide (hXA.on hB2).1
      have m2 := (hB2.cell (World.block_lt_of_cell? _ _ hXX)).trans hXX
      have HB3 := hide (below_on HB.out hB2)
      have HLO : Hid ((Tryd.prog.info? 45).map (·.size) = some (outC x).length) := hide (by rw [outC_length HXL.out]; exact info_out)
      have EQ := fun wx => eql_hash D HID.out wx
      have EO : ∀ wx, (Op.equalIn 10000 45 (.agg (outC x).toArray) (.agg (outC x).toArray)).run Tryd.prog wx = .ok true wx := fun wx => by
        have := eql_out x x HXL.out HXL.out wx
        simpa using this
      clear hW hB2 r1 r3 HXR HT HN hr' hXA hXX HB hz
      generalize wr.heap.size = gb at *
      generalize hpt : outC x = PT at *
      have HPT := hide hpt
      clear hpt
      simp only [Act.put]
      refine wp_region_quiet_lit (by kernel_rfl) (by kernel_rfl) ?_
      repeat (first
        | (go_big_quiet_want; refine quiet_load 34 (.tmp 79) rfl gb 0 rfl (vals .u8 D) _ (range_drewN HP1.out) Tryd.underlying34 rfl HIH.out ?_; go_simp; go_big_quiet_on)
        | (go_big_quiet_want; refine quiet_load 34 (.tmp 5) rfl q 0 rfl (vals .u8 D) _ (range_drewN HP5.out) Tryd.underlying34 rfl HIH.out ?_; go_simp; go_big_quiet_on)
        | (go_big_quiet_want; refine quiet_load 45 (.tmp 92) rfl gb 33 rfl PT _ (range_drewN HP3.out) Tryd.underlying45 rfl HLO.out ?_; go_simp; go_big_quiet_on)
        | (go_big_quiet_want; refine quiet_load 45 (.tmp 97) rfl b' (off' + k * 33) rfl PT _ (range_drewN HP4.out) Tryd.underlying45 rfl HLO.out ?_; go_simp; go_big_quiet_on)
        | (go_big_quiet_step (fail)))
      refine wpQuiet_nil ?_
      intro _ hw'
      obtain ⟨nq, hw''⟩ := hw'
      subst hw''
      have R : Hid (Idsing w7 t.outs.length (.int .i64 ((k + 1 : Nat) : Int)) (W3.drewN nq)) := hide ⟨k + 1, by omega, rfl, HB3.out.trans ⟨rfl, rfl, rfl, Nat.le_refl _, fun _ _ => rfl⟩⟩
      clear HB3 m2 r2 EQ EO HPT HP1 HP3 HP4 HP5
      generalize W3.drewN nq = W4 at *
      go_wp2
      go_roundw
      case rel => first | exact R.out | ((repeat apply Exists.intro); exact ⟨R.out, rfl⟩)
      case measure => simp [intOf]; omega
    · have hk2 : (t.outs.length : Int) ≤ (k : Int) := by omega
      have R : Hid (Below w.heap.size w wr) := hide (below_on HB7.out hB)
      clear hB HB
      go_wp2
      go_ret
      exact ⟨rfl, R.out⟩

set_option maxRecDepth 100000 in
set_option maxHeartbeats 1000000 in
theorem ids_great {w : World} (t : Tr) (iv ov : Value) (h : TxAt w iv ov t) (hok : TrOk t) (hg : greatB t = true) :
    Calls Tryd.prog 3 #[.agg #[.int .u32 t.ver, iv, ov]] w fun e w' => e = .returned (.bool true) ∧ Below w.heap.size w w' := by
  have HT0 := hide (h.on (below_new w (.cells #[.int .u32 t.ver, iv, ov] 26)))
  have HB0 := hide (below_new w (.cells #[.int .u32 t.ver, iv, ov] 26))
  have HX0 := hide (TBox.new w (.int .u32 t.ver) iv ov 26)
  have GR := hide (fun w (h : TxAt w iv ov t) => great_any t iv ov w h.1 h.2 (fun x hx => (hok.2.1 x hx).1))
  rw [hg] at GR
  have AL := hide alive_any
  obtain ⟨a, cap, rfl, -, -⟩ := h.1.form
  obtain ⟨a', cap', rfl, -, -⟩ := h.2.form
  clear h hok hg
  go_enter Tryd.func3, Tryd.ntmps3
  go_upto_region 1 with fail
  generalize w.alloc (.cells #[.int .u32 t.ver, .slice a t.ins.length cap, .slice a' t.outs.length cap'] 26) = W0 at *
  go_wp2_with fail
  refine (AL.out _).mono ?_
  rintro e w1 ⟨rfl, hb1⟩
  have HB1 := hide (below_on HB0.out hb1)
  have HT1 := hide (HT0.out.on hb1)
  have HX1 := hide (HX0.out.on hb1)
  obtain ⟨n0, n1, n2⟩ := HX1.out
  clear hb1 HB0 HT0 HX0 AL
  go_wp2_with fail
  refine (GR.out _ HT1.out).mono ?_
  rintro e w2 ⟨rfl, hb2⟩
  have HB2 := hide (below_on HB1.out hb2)
  clear n0 n1 n2 hb2
  go_wp2
  go_ret
  exact ⟨rfl, HB2.out⟩
theorem ids_law {w : World} (hk : Ks w) (t : Tr) (iv ov : Value) (h : TxAt w iv ov t) (hok : TrOk t) :
    Calls Tryd.prog 3 #[.agg #[.int .u32 t.ver, iv, ov]] w fun e w' => e = .returned (.bool true) ∧ Below w.heap.size w w' := by
  cases hg : greatB t with
  | true => exact ids_great t iv ov h hok hg
  | false =>
    cases hf : formB t with
    | true => exact ids_form hk t iv ov h hok hg hf (by have := ((formB_iff t).1 hf).2.1; omega)
    | false => exact ids_long hk t iv ov h hok hg hf

set_option maxRecDepth 100000 in
theorem txIds_lifted (os : Os) (started : os.Started) (H : Type) (enc : TypeId × Value → H) :
    ReturnsInHanded {} Tryd.checked os 3 .any (fun w args => (Rows.txIdsSpec.pre enc Tryd.prog Tryd.f3 [] false w args ∧ laidMetH Tryd.prog laid1 w) ∧ sizedMet enc Tryd.prog Tryd.f3 (OpenSpec.ofChange Rows.txIdsSpec) false w args)
      (Rows.txIdsSpec.post enc Tryd.prog Tryd.f3 false true false false) := by
  refine returnsInHanded_of_change_and (C := Tryd.checked) (X := fun w _ => laidMetH Tryd.prog laid1 w) (fun _ _ _ hh h => h.of_heap hh) own started (by kernel_rfl) Tryd.func3
    (ChangeSpec.witness_shaped (enc := enc) (C := Tryd.checked) (os := os) (X := fun w _ => laidMetH Tryd.prog laid1 w) false (World.doorLaid Tryd.prog 14 os) #[.agg #[.int .u32 0, .slice none 0 0, .slice none 0 0]] 8 rfl (World.shaped_of_RefB (by kernel_rfl) (by kernel_rfl)) (by kernel_rfl) (by kernel_rfl) (by kernel_rfl) (door_met os _)) ?_
  intro W base args ds gs before hval0 hW _ _ hL _
  have hval : ∀ (j : Nat) t v, Tryd.f3.params[j]? = some t → args[j]? = some v → Value.okWide Tryd.prog W .any base t v := hval0
  have hW' := hW
  obtain ⟨p, q, hA0, hV, rfl, hfz, hnd⟩ := hW
  have hA : DataW.TrodAll enc Tryd.prog W 0 (fun _ => true) true Tryd.f3.params.toList args.toList ds p := hA0
  rw [Tryd.params3] at hA hval
  obtain ⟨v0, vs0, d0, ds0, p0, q0, hargs, rfl, rfl, h0, r0⟩ := trodAll_cons hA
  obtain ⟨rfl, rfl, rfl⟩ := trodAll_nil r0
  obtain rfl : args = #[v0] := by cases args; simp_all
  obtain ⟨rfl, rfl⟩ := trodVars_none hV
  have k0 := h0
  have lt0 : ∀ x ∈ p0, x.block < W.heap.size := by obtain ⟨m, hm⟩ := k0; exact DataW.trod_lt m _ _ _ hm
  obtain ⟨t0, a0, b0, rfl, s0, w0⟩ := tx_came (fun _ => rfl) (hval 0 26 v0 rfl rfl) h0
  clear hA0 hval0
  refine (ids_law (w := W) (ks_of_laid hL) t0 _ _ s0 w0).mono fun e W' ⟨he, bel⟩ => ?_
  subst he
  exact ⟨_, rfl, _, _, _, [], _, [], hW', trodAll_mk1 (shut_bool Tryd.underlying4 _), (trodAll_cons_mk (Below.trod laidOut (by kernel_rfl) (of_decide_eq_true (by kernel_rfl)) k0 bel lt0) trodAll_mk0), rfl, bel.frame _, fun h => by cases h⟩

theorem txIds_holds : Rows.TxIdsSaid :=
  OpenClaim.holds_of_wide 3 Tryd.f3 rfl rfl rfl rfl rfl rfl rfl ⟨rfl, rfl, rfl, rfl, rfl⟩ rfl rfl rfl rfl rfl (by kernel_rfl) Tryd.func3 (by kernel_rfl)
    (of_decide_eq_true (by kernel_rfl)) (by unfold Func.isWrapper; first | (rw [if_pos (by decide +kernel)]; kernel_rfl) | (rw [if_neg (by decide +kernel)]; exact ⟨rfl, rfl⟩))
    (fun os started H enc _ => txIds_lifted os started H enc)
#print axioms txIds_holds
theorem txIds_card : Rows.TxIdsCardSaid :=
  Claim7.holds_tied_plain_at .later [] [.data] true (true, "598eaf8c3bfa95f895b1a4fe78e6de4a295afe8a925bf69cdd587160d12f0fe7") false
    txIds_holds (fun _ h => by cases h) (by kernel_rfl) (fun _ h => by cases h) txIds_row_tie rfl ⟨rfl, rfl⟩ (by kernel_rfl) rfl
    (fun f fn hf hfn => by
      obtain rfl : f = 3 := Option.some.inj ((show Tryd.prog.funcNamed "pappus/pappuslaw07.TxIds" = some 3 by kernel_rfl).symm.trans hf) |>.symm
      obtain rfl : fn = Tryd.f3 := (Option.some.inj (Tryd.func3.symm.trans hfn)).symm
      exact ⟨by kernel_rfl, fun j t ht => by
        rw [Tryd.params3] at ht
        have hm : t ∈ [26] := by simpa using Array.mem_of_getElem? ht
        have hall : ([26].all fun u => !Tryd.prog.wantsStandIn u) = true := by kernel_rfl
        exact (show Tryd.prog.wantsStandIn t = false by simpa using List.all_eq_true.1 hall t hm)⟩)
    (by kernel_rfl)
#print axioms txIds_card
end Go.Proofs.YtjgainoplgojiabDoor
