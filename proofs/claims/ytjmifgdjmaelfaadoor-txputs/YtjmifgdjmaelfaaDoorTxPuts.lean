/-
  Proved: for every transaction the law TxPuts answers true, and its argument reads as it did. Condition: the table of the sum's constants stands, as the card says.
-/
import Derived.Test.YtjmifgdjmaelfaaDoorRefTxCoins
import Derived.Test.YtjmifgdjmaelfaaDoorRefTxPts
import Derived.Test.YtjmifgdjmaelfaaDoorRefCoinSame
import Derived.Test.YtjmifgdjmaelfaaDoorTxSize
import Derived.Test.YtjmifgdjmaelfaaDoorTxGreat
import Derived.Test.YtjmifgdjmaelfaaDoorTxAlive
import Derived.Test.YtjmifgdjmaelfaaDoorTxP
import Derived.Test.YtjmifgdjmaelfaaDoorShaLaw
import Derived.Test.YtjmifgdjmaelfaaDoorSame
import Derived.Deep.RegionHeld3
namespace Go.Proofs.YtjmifgdjmaelfaaDoor
open Go.ChangeShapes Go.WideShapes Go.ChangeAt Go.RowKit

/-- A row is loaded behind a guard that says yes. -/
theorem wp_load_guarded {P : Program} {ops : Array Oper} {rest : List Oper} {op : Oper} {a : Act} {w : World} {Q : Exit → Act → World → Prop} (hw : Region.wanted op (yielded ops a.tmps) = true) (ty : TypeId) (x : Operand) (ho : op.op = .load ty x)
    (b o : Nat) (hx : a.eval x = .pointer (some ⟨b, o, none⟩)) (cs : List Value) (d : TypeDesc) (hc : w.rangeAt b o cs)
    (hu : P.underlying ty = some d) (hd : d.isRow = true) (hi : (P.info? ty).map (·.size) = some cs.length)
    (h : wpList P ops Q rest (a.put op.dst (.agg cs.toArray)) w) : wpList P ops Q (op :: rest) a w :=
  wpList_step fun _ hK => by
    rw [if_pos hw]
    exact wp_load_mid ty x ho b o hx cs d hc hu hd hi (hK _ _ h)
/-- The outputs that have coins. -/
def coL (t : Tr) : List TOut := if formB t = true then t.outs else []
theorem coins_any (t : Tr) (iv ov : Value) (w : World) (h : TxAt w iv ov t) (hok : TrOk t) (hk : Ks w) :
    Calls Tryd.prog 13 #[.agg #[.int .u32 t.ver, iv, ov]] w fun e w' => ∃ v, e = .returned (.tuple #[v, .int .i64 (ptE t)]) ∧ Below w.heap.size w w' ∧ RowAt w' 66 v (coins (idT t) (coL t)) := by
  cases hf : formB t with
  | true =>
    rw [(ptL_form hf).2]
    unfold coL
    rw [if_pos hf]
    refine (tcoins_form t iv ov w h hok hk (Nat.le_trans (txB_le t hok hf) (by decide)) hf (by have := ((formB_iff t).1 hf).2.1; omega)).mono ?_
    rintro e w' ⟨v, rfl, h1, h2⟩
    exact ⟨v, rfl, h1, h2.row⟩
  | false =>
    rw [(ptL_long hf).2]
    unfold coL
    rw [if_neg (by rw [hf]; decide)]
    refine (tcoins_long t iv ov w h hok hk hf).mono ?_
    rintro e w' ⟨rfl, h1⟩
    exact ⟨_, rfl, h1, RowAt.nil _ _⟩
theorem rcoins_any (t : Tr) (iv ov : Value) (w : World) (h : TxAt w iv ov t) (hok : TrOk t) :
    Calls Tryd.prog 14 #[.agg #[.int .u32 t.ver, iv, ov]] w fun e w' => ∃ v, e = .returned (.tuple #[v, .int .i64 (ptE t)]) ∧ Below w.heap.size w w' ∧ RowAt w' 66 v (coins (idT t) (coL t)) := by
  cases hf : formB t with
  | true =>
    rw [(ptL_form hf).2]
    unfold coL
    rw [if_pos hf]
    refine (rtcoins_form t iv ov w h hok (Nat.le_trans (txB_le t hok hf) (by decide)) hf (by have := ((formB_iff t).1 hf).2.1; omega)).mono ?_
    rintro e w' ⟨v, rfl, h1, h2⟩
    exact ⟨v, rfl, h1, h2.row⟩
  | false =>
    rw [(ptL_long hf).2]
    unfold coL
    rw [if_neg (by rw [hf]; decide)]
    refine (rtcoins_long t iv ov w h hok hf).mono ?_
    rintro e w' ⟨rfl, h1⟩
    exact ⟨_, rfl, h1, RowAt.nil _ _⟩
theorem coL_ok {t : Tr} (hok : TrOk t) : ∀ x ∈ coL t, x.lock.length = 32 := by
  unfold coL
  split
  · exact fun x hx => (hok.2.2 x hx).2.1
  · exact fun x hx => (by cases hx)

set_option maxRecDepth 100000 in
set_option maxHeartbeats 4000000 in
theorem puts_some {w : World} (hk : Ks w) (t : Tr) (iv ov : Value) (h : TxAt w iv ov t) (hok : TrOk t) (hg : greatB t = false) :
    Calls Tryd.prog 3 #[.agg #[.int .u32 t.ver, iv, ov]] w fun e w' => e = .returned (.bool true) ∧ Below w.heap.size w w' := by
  have HT0 := hide (h.on (below_new w (.cells #[.int .u32 t.ver, iv, ov] 26)))
  have HB0 := hide (below_new w (.cells #[.int .u32 t.ver, iv, ov] 26))
  have HX0 := hide (TBox.new w (.int .u32 t.ver) iv ov 26)
  have HK := hide hk
  have GR := hide (fun w (h : TxAt w iv ov t) => great_any t iv ov w h.1 h.2 (fun x hx => (hok.2.1 x hx).1))
  rw [hg] at GR
  have AL := hide alive_any
  have hi1 := (greatB_not hg).1
  have P1 := hide (fun w (h : TxAt w iv ov t) => tput_any t iv ov w h.1 h.2 hok)
  have P2 := hide (fun w (h : TxAt w iv ov t) => rtput_any t iv ov w h.1 h.2 hok)
  have P3 := hide (fun w (h : TxAt w iv ov t) => tsize_any t iv ov w h.1 h.2 hok)
  have P4 := hide (fun w (h : TxAt w iv ov t) (k : Ks w) => tid_any t iv ov w h hok k (fun e => Nat.le_trans (txB_le t hok e) (by decide)))
  have P5 := hide (fun w (h : TxAt w iv ov t) => rtid_any t iv ov w h hok (fun e => Nat.le_trans (txB_le t hok e) (by decide)))
  have P6 := hide (fun w (h : TxAt w iv ov t) (k : Ks w) => coins_any t iv ov w h hok k)
  have P7 := hide (fun w (h : TxAt w iv ov t) => rcoins_any t iv ov w h hok)
  have P8 := hide (fun w (h : TxAt w iv ov t) => tpoints_any t iv ov w h hok.2.1 (by omega))
  have P9 := hide (fun w (h : TxAt w iv ov t) => rtpoints_any t iv ov w h hok.2.1 (by omega))
  have SM := hide (fun w v v' (h : Bytes w v (ptL t)) (h' : Bytes w v' (ptL t)) => same_any (ptL t) (ptL t) v v' w h h')
  rw [decide_eq_true rfl] at SM
  have SC := hide (fun w v v' h h' => rsameCoins_eq (idT t) (coL t) v v' w h h' (idT_length t) (coL_ok hok))
  have HID := hide (idT_length t)
  have HOX := hide hok.2.1
  obtain ⟨a, cap, rfl, -, -⟩ := h.1.form
  obtain ⟨a', cap', rfl, -, -⟩ := h.2.form
  clear h hok hk hg
  generalize idT t = D at *
  generalize ptL t = l at *
  generalize ptE t = E at *
  generalize coL t = CL at *
  have EQ := fun wx => eql_hash D HID.out wx
  have HIH : Hid ((Tryd.prog.info? 36).map (·.size) = some (vals .u8 D).length) := hide (by rw [vals_length, HID.out]; exact info_h)
  go_enter Tryd.func3, Tryd.ntmps3
  go_upto_region 1 with fail
  generalize w.alloc (.cells #[.int .u32 t.ver, .slice a t.ins.length cap, .slice a' t.outs.length cap'] 26) = w0 at *
  obtain ⟨n0, n1, n2⟩ := HX0.out
  go_wp2_with fail
  refine (AL.out _).mono ?_
  rintro e w1 ⟨rfl, hb⟩
  have HB1 := hide (below_on HB0.out hb)
  have HT1 := hide (HT0.out.on hb)
  have HX1 := hide (HX0.out.on hb)
  clear n0 n1 n2
  obtain ⟨n0, n1, n2⟩ := HX1.out
  clear hb HB0 HT0 HX0 AL
  go_wp2_with fail
  refine (GR.out _ HT1.out).mono ?_
  rintro e w2 ⟨rfl, hb⟩
  have HB2 := hide (below_on HB1.out hb)
  have HT2 := hide (HT1.out.on hb)
  have HX2 := hide (HX1.out.on hb)
  clear n0 n1 n2
  obtain ⟨n0, n1, n2⟩ := HX2.out
  clear hb HB1 HT1 HX1 GR
  go_wp2_with fail
  refine (P1.out _ HT2.out).mono ?_
  rintro e w3 ⟨v3, rfl, hown, hb⟩
  have HV3 := hide hown.bytes
  obtain ⟨pa, pc, rfl, -, -⟩ := hown.bytes.form
  have HB3 := hide (below_on HB2.out hb)
  have HT3 := hide (HT2.out.on hb)
  have HX3 := hide (HX2.out.on hb)
  clear n0 n1 n2
  obtain ⟨n0, n1, n2⟩ := HX3.out
  clear hb HB2 HT2 HX2 P1 hown
  go_wp2_with fail
  refine (P2.out _ HT3.out).mono ?_
  rintro e w4 ⟨v4, rfl, hown, hb⟩
  have HV4 := hide hown.bytes
  obtain ⟨qa, qc, rfl, -, -⟩ := hown.bytes.form
  have HB4 := hide (below_on HB3.out hb)
  have HT4 := hide (HT3.out.on hb)
  have HX4 := hide (HX3.out.on hb)
  have HV3 := hide (HV3.out.below hb)
  clear n0 n1 n2
  obtain ⟨n0, n1, n2⟩ := HX4.out
  clear hb HB3 HT3 HX3 P2 hown
  go_wp2_with fail
  refine (P3.out _ HT4.out).mono ?_
  rintro e w5 ⟨rfl, hb⟩
  have HB5 := hide (below_on HB4.out hb)
  have HT5 := hide (HT4.out.on hb)
  have HX5 := hide (HX4.out.on hb)
  have HV3 := hide (HV3.out.below hb)
  have HV4 := hide (HV4.out.below hb)
  clear n0 n1 n2
  obtain ⟨n0, n1, n2⟩ := HX5.out
  clear hb HB4 HT4 HX4 P3
  go_wp2_with fail
  refine (P4.out _ HT5.out (HK.out.on HB5.out)).mono ?_
  rintro e w6 ⟨rfl, hb⟩
  have HB6 := hide (below_on HB5.out hb)
  have HT6 := hide (HT5.out.on hb)
  have HX6 := hide (HX5.out.on hb)
  have HV3 := hide (HV3.out.below hb)
  have HV4 := hide (HV4.out.below hb)
  clear n0 n1 n2
  obtain ⟨n0, n1, n2⟩ := HX6.out
  clear hb HB5 HT5 HX5 P4
  have KP := hide (hash_kept w6 D HID.out)
  go_upto_region 9 with (refine wp_store_arr rfl 36 (.tmp 9) (.tmp 42) rfl _ 0 .u8 D rfl rfl 32 (hash_room _) info_h HID.out ?_)
  generalize (w6.alloc (.cells #[.int .u8 0, .int .u8 0, .int .u8 0, .int .u8 0, .int .u8 0, .int .u8 0, .int .u8 0, .int .u8 0, .int .u8 0, .int .u8 0, .int .u8 0, .int .u8 0, .int .u8 0, .int .u8 0, .int .u8 0, .int .u8 0, .int .u8 0, .int .u8 0, .int .u8 0, .int .u8 0, .int .u8 0, .int .u8 0, .int .u8 0, .int .u8 0, .int .u8 0, .int .u8 0, .int .u8 0, .int .u8 0, .int .u8 0, .int .u8 0, .int .u8 0, .int .u8 0] 36)).setCells w6.heap.size 0 (vals .u8 D) = w7 at *
  have HA9 := hide KP.out.2
  have hb := KP.out.1
  have HB7 := hide (below_on HB6.out hb)
  have HT7 := hide (HT6.out.on hb)
  have HX7 := hide (HX6.out.on hb)
  have HV3 := hide (HV3.out.below hb)
  have HV4 := hide (HV4.out.below hb)
  clear n0 n1 n2
  obtain ⟨n0, n1, n2⟩ := HX7.out
  clear hb HB6 HT6 HX6 KP
  generalize w6.heap.size = g7 at *
  go_wp2_with fail
  refine (P5.out _ HT7.out).mono ?_
  rintro e w8 ⟨rfl, hb⟩
  have HB8 := hide (below_on HB7.out hb)
  have HT8 := hide (HT7.out.on hb)
  have HX8 := hide (HX7.out.on hb)
  have HV3 := hide (HV3.out.below hb)
  have HV4 := hide (HV4.out.below hb)
  have HA9 := hide (HA9.out.on hb)
  clear n0 n1 n2
  obtain ⟨n0, n1, n2⟩ := HX8.out
  clear hb HB7 HT7 HX7 P5
  have KP := hide (hash_kept w8 D HID.out)
  go_upto_region 10 with (refine wp_store_arr rfl 36 (.tmp 11) (.tmp 47) rfl _ 0 .u8 D rfl rfl 32 (hash_room _) info_h HID.out ?_)
  generalize (w8.alloc (.cells #[.int .u8 0, .int .u8 0, .int .u8 0, .int .u8 0, .int .u8 0, .int .u8 0, .int .u8 0, .int .u8 0, .int .u8 0, .int .u8 0, .int .u8 0, .int .u8 0, .int .u8 0, .int .u8 0, .int .u8 0, .int .u8 0, .int .u8 0, .int .u8 0, .int .u8 0, .int .u8 0, .int .u8 0, .int .u8 0, .int .u8 0, .int .u8 0, .int .u8 0, .int .u8 0, .int .u8 0, .int .u8 0, .int .u8 0, .int .u8 0, .int .u8 0, .int .u8 0] 36)).setCells w8.heap.size 0 (vals .u8 D) = w9 at *
  have HA11 := hide KP.out.2
  have hb := KP.out.1
  have HB9 := hide (below_on HB8.out hb)
  have HT9 := hide (HT8.out.on hb)
  have HX9 := hide (HX8.out.on hb)
  have HV3 := hide (HV3.out.below hb)
  have HV4 := hide (HV4.out.below hb)
  have HA9 := hide (HA9.out.on hb)
  clear n0 n1 n2
  obtain ⟨n0, n1, n2⟩ := HX9.out
  clear hb HB8 HT8 HX8 KP
  generalize w8.heap.size = g9 at *
  go_wp2_with fail
  refine (P6.out _ HT9.out (HK.out.on HB9.out)).mono ?_
  rintro e w10 ⟨v10, rfl, hb, hrow⟩
  have HR10 := hide hrow
  obtain ⟨ra, rc, rfl, -, -⟩ := hrow.form
  rw [coins_length] at HR10 ⊢
  have HB10 := hide (below_on HB9.out hb)
  have HT10 := hide (HT9.out.on hb)
  have HX10 := hide (HX9.out.on hb)
  have HV3 := hide (HV3.out.below hb)
  have HV4 := hide (HV4.out.below hb)
  have HA9 := hide (HA9.out.on hb)
  have HA11 := hide (HA11.out.on hb)
  clear n0 n1 n2
  obtain ⟨n0, n1, n2⟩ := HX10.out
  clear hb HB9 HT9 HX9 P6 hrow
  go_wp2_with fail
  refine (P7.out _ HT10.out).mono ?_
  rintro e w11 ⟨v11, rfl, hb, hrow⟩
  have HR11 := hide hrow
  obtain ⟨sa, sc, rfl, -, -⟩ := hrow.form
  rw [coins_length] at HR11 ⊢
  have HB11 := hide (below_on HB10.out hb)
  have HT11 := hide (HT10.out.on hb)
  have HX11 := hide (HX10.out.on hb)
  have HV3 := hide (HV3.out.below hb)
  have HV4 := hide (HV4.out.below hb)
  have HA9 := hide (HA9.out.on hb)
  have HA11 := hide (HA11.out.on hb)
  have HR10 := hide (HR10.out.on hb)
  clear n0 n1 n2
  obtain ⟨n0, n1, n2⟩ := HX11.out
  clear hb HB10 HT10 HX10 P7 hrow
  -- the points, in both orders
  have PA : Hid (∀ wx, Below w11.heap.size w11 wx → Calls Tryd.prog 15 #[.agg #[.int .u32 t.ver, .slice a t.ins.length cap, .slice a' t.outs.length cap']] wx fun e w' => ∃ va vc, e = .returned (.slice va t.ins.length vc) ∧ Below w11.heap.size w11 w' ∧ Below wx.heap.size wx w' ∧ RowAt w' 33 (.slice va t.ins.length vc) (t.ins.map fun x => ptC x.tx x.n)) := hide (fun wx hb => (P8.out wx (HT11.out.on hb)).mono (by
    rintro e w' ⟨v, rfl, h1, h2⟩
    obtain ⟨va, vc, rfl, -, -⟩ := h2.row.form
    have h3 := h2.row
    rw [List.length_map] at h3 ⊢
    exact ⟨va, vc, rfl, below_on hb h1, h1, h3⟩))
  have PB : Hid (∀ wx, Below w11.heap.size w11 wx → Calls Tryd.prog 16 #[.agg #[.int .u32 t.ver, .slice a t.ins.length cap, .slice a' t.outs.length cap']] wx fun e w' => ∃ va vc, e = .returned (.slice va t.ins.length vc) ∧ Below w11.heap.size w11 w' ∧ Below wx.heap.size wx w' ∧ RowAt w' 33 (.slice va t.ins.length vc) (t.ins.map fun x => ptC x.tx x.n)) := hide (fun wx hb => (P9.out wx (HT11.out.on hb)).mono (by
    rintro e w' ⟨v, rfl, h1, h2⟩
    obtain ⟨va, vc, rfl, -, -⟩ := h2.row.form
    have h3 := h2.row
    rw [List.length_map] at h3 ⊢
    exact ⟨va, vc, rfl, below_on hb h1, h1, h3⟩))
  have HCC : Hid (∀ wx, Below w11.heap.size w11 wx → Below w11.heap.size w11 wx ∧ wx.cell? ⟨w.heap.size, 0, none⟩ = some (.int .u32 t.ver) ∧ wx.cell? ⟨w.heap.size, 1, none⟩ = some (.slice a t.ins.length cap) ∧ wx.cell? ⟨w.heap.size, 2, none⟩ = some (.slice a' t.outs.length cap')) := hide (fun wx h => ⟨h, HX11.out.on h⟩)
  clear P8 P9
  go_wp2_with fail
  go_region_held3 (fun wx => Below w11.heap.size w11 wx ∧ wx.cell? ⟨w.heap.size, 0, none⟩ = some (.int .u32 t.ver) ∧ wx.cell? ⟨w.heap.size, 1, none⟩ = some (.slice a t.ins.length cap) ∧ wx.cell? ⟨w.heap.size, 2, none⟩ = some (.slice a' t.outs.length cap'))
    (((with_reducible refine HCC.out _ ?_); (with_reducible first | exact hbA | exact hbB | exact (Below.refl _ _).drew | exact Below.refl _ _)))
    (first
      | (go_at_call 15; refine (PA.out _ (by first | exact (Below.refl _ _).drew | assumption)).mono ?_; rintro e wA ⟨va, vc, rfl, hbA, hlA, hrA⟩)
      | (go_at_call 16; refine (PB.out _ (by first | exact (Below.refl _ _).drew | assumption)).mono ?_; rintro e wB ⟨ua, uc, rfl, hbB, hlB, hrB⟩))
  · have HPA : Hid (RowAt wB 33 (.slice va t.ins.length vc) (t.ins.map fun x => ptC x.tx x.n)) := hide (hrA.on hlB)
    have HPB : Hid (RowAt wB 33 (.slice ua t.ins.length uc) (t.ins.map fun x => ptC x.tx x.n)) := hide hrB
    have HB12 := hide (below_on HB11.out hbB)
    have HV3 := hide (HV3.out.below hbB)
    have HV4 := hide (HV4.out.below hbB)
    have HA9 := hide (HA9.out.on hbB)
    have HA11 := hide (HA11.out.on hbB)
    have HR10 := hide (HR10.out.on hbB)
    have HR11 := hide (HR11.out.on hbB)
    clear hbA hbB hlA hlB hrA hrB n0 n1 n2 PA PB HCC HB11 HT11 HX11 HK
    have HS : Hid (Comparing wB t.ins.length (.int .i64 0) wB) := hide ⟨0, Nat.zero_le _, rfl, Below.refl _ _⟩
    go_wp2_with fail
    go_loopw [70] (fun i wr => Comparing wB t.ins.length i wr) (fun i _ => t.ins.length - (intOf i).toNat)
    case atStart => exact HS.out
    case round =>
      clear HS
      obtain ⟨k, hk, rfl, hB⟩ := hrel
      have HB := hide hB
      by_cases hlt : k < t.ins.length
      · obtain ⟨x, hx⟩ : ∃ x, t.ins[k]? = some x := ⟨_, List.getElem?_eq_getElem hlt⟩
        obtain ⟨b, off, rfl, hr1⟩ := (HPA.out.on HB.out).get (c := ptC x.tx x.n) (k := k) (by rw [List.getElem?_map, hx]; rfl)
        obtain ⟨b', off', rfl, hr2⟩ := (HPB.out.on HB.out).get (c := ptC x.tx x.n) (k := k) (by rw [List.getElem?_map, hx]; rfl)
        have hxl := (HOX.out x (List.mem_of_getElem? hx)).1
        have HX := hide hr1
        have HY := hide hr2
        have HN : Hid ((Tryd.prog.info? 45).map (·.size) = some (ptC x.tx x.n).length) := hide (by rw [ptC_length _ hxl]; exact info_pt)
        have hk2 : (k : Int) < (t.ins.length : Int) := by omega
        have hEQ : ∀ wx, (Op.equalIn 10000 45 (.agg (ptC x.tx x.n).toArray) (.agg (ptC x.tx x.n).toArray)).run Tryd.prog wx = .ok true wx := fun wx => by
          have := eql_pt x.tx x.tx x.n x.n hxl hxl wx
          simpa using this
        clear hr1 hr2 hx hxl hB
        go_upto_region 18 with fail
        generalize hXs : ptC x.tx x.n = X at *
        clear hXs
        refine wp_region_quiet_lit (by kernel_rfl) (by kernel_rfl) ?_
        repeat (first
          | (go_big_quiet_want; refine quiet_load 45 (.tmp 75) rfl b (off + k * 33) rfl X _ (range_drewN HX.out) Tryd.underlying45 rfl HN.out ?_; go_simp; go_big_quiet_on)
          | (go_big_quiet_want; refine quiet_load 45 (.tmp 79) rfl b' (off' + k * 33) rfl X _ (range_drewN HY.out) Tryd.underlying45 rfl HN.out ?_; go_simp; go_big_quiet_on)
          | (go_big_quiet_step (fail)))
        refine wpQuiet_nil ?_
        intro _ hw'
        obtain ⟨nq, hw''⟩ := hw'
        subst hw''
        have R : Hid (Comparing wB t.ins.length (.int .i64 ((k + 1 : Nat) : Int)) (wr.drewN nq)) := hide ⟨k + 1, by omega, rfl, HB.out.trans ⟨rfl, rfl, rfl, Nat.le_refl _, fun _ _ => rfl⟩⟩
        clear HB hEQ HX HY HN
        generalize wr.drewN nq = W3 at *
        go_wp2
        go_roundw
        case rel => first | exact R.out | ((repeat apply Exists.intro); exact ⟨R.out, rfl⟩)
        case measure => simp [intOf]; omega
      · have hk3 : (t.ins.length : Int) ≤ (k : Int) := by omega
        have HBZ := hide (below_on HB12.out hB)
        have HV3 := hide (HV3.out.below hB)
        have HV4 := hide (HV4.out.below hB)
        have HA9 := hide (HA9.out.on hB)
        have HA11 := hide (HA11.out.on hB)
        have HR10 := hide (HR10.out.on hB)
        have HR11 := hide (HR11.out.on hB)
        clear hB HB12 HPA HPB HB
        go_wp2_with fail
        refine (SM.out _ _ _ HV3.out HV4.out).mono ?_
        rintro e w13 ⟨rfl, nn, hw13⟩
        have hbN : Below wr.heap.size wr w13 := by rw [hw13]; exact ⟨rfl, rfl, rfl, Nat.le_refl _, fun _ _ => rfl⟩
        have HBY := hide (below_on HBZ.out hbN)
        have HA9 := hide (HA9.out.on hbN)
        have HA11 := hide (HA11.out.on hbN)
        have HR10 := hide (HR10.out.on hbN)
        have HR11 := hide (HR11.out.on hbN)
        clear hbN hw13 HBZ HV3 HV4 SM
        go_wp2_with (first | (refine wp_load_guarded (by rfl) 36 (.tmp 9) rfl g7 0 rfl (vals .u8 D) _ HA9.out.1 Tryd.underlying36 rfl HIH.out ?_) | (refine wp_load_guarded (by rfl) 36 (.tmp 11) rfl g9 0 rfl (vals .u8 D) _ HA11.out.1 Tryd.underlying36 rfl HIH.out ?_))
        refine (SC.out _ _ _ HR10.out HR11.out).mono ?_
        rintro e w14 ⟨rfl, hb14⟩
        have R := hide (below_on HBY.out hb14)
        clear hb14 HBY HA9 HA11 HR10 HR11 SC
        go_wp2
        go_ret
        exact ⟨rfl, R.out⟩

theorem puts_great {w : World} (t : Tr) (iv ov : Value) (h : TxAt w iv ov t) (hok : TrOk t) (hg : greatB t = true) :
    Calls Tryd.prog 3 #[.agg #[.int .u32 t.ver, iv, ov]] w fun e w' => e = .returned (.bool true) ∧ Below w.heap.size w w' := by
  have HT0 := hide (h.on (below_new w (.cells #[.int .u32 t.ver, iv, ov] 26)))
  have HB0 := hide (below_new w (.cells #[.int .u32 t.ver, iv, ov] 26))
  have HX0 := hide (TBox.new w (.int .u32 t.ver) iv ov 26)
  have GR := hide (fun w (h : TxAt w iv ov t) => great_any t iv ov w h.1 h.2 (fun x hx => (hok.2.1 x hx).1))
  rw [hg] at GR
  have AL := hide alive_any
  obtain ⟨a, cap, rfl, -, -⟩ := h.1.form
  obtain ⟨a', cap', rfl, -, -⟩ := h.2.form
  clear h hok hg
  go_enter Tryd.func3, Tryd.ntmps3
  go_upto_region 1 with fail
  generalize w.alloc (.cells #[.int .u32 t.ver, .slice a t.ins.length cap, .slice a' t.outs.length cap'] 26) = W0 at *
  go_wp2_with fail
  refine (AL.out _).mono ?_
  rintro e w1 ⟨rfl, hb1⟩
  have HB1 := hide (below_on HB0.out hb1)
  have HT1 := hide (HT0.out.on hb1)
  have HX1 := hide (HX0.out.on hb1)
  obtain ⟨n0, n1, n2⟩ := HX1.out
  clear hb1 HB0 HT0 HX0 AL
  go_wp2_with fail
  refine (GR.out _ HT1.out).mono ?_
  rintro e w2 ⟨rfl, hb2⟩
  have HB2 := hide (below_on HB1.out hb2)
  clear n0 n1 n2 hb2
  go_wp2
  go_ret
  exact ⟨rfl, HB2.out⟩
theorem puts_law {w : World} (hk : Ks w) (t : Tr) (iv ov : Value) (h : TxAt w iv ov t) (hok : TrOk t) :
    Calls Tryd.prog 3 #[.agg #[.int .u32 t.ver, iv, ov]] w fun e w' => e = .returned (.bool true) ∧ Below w.heap.size w w' := by
  cases hg : greatB t with
  | true => exact puts_great t iv ov h hok hg
  | false => exact puts_some hk t iv ov h hok hg

set_option maxRecDepth 100000 in
theorem txPuts_lifted (os : Os) (started : os.Started) (H : Type) (enc : TypeId × Value → H) :
    ReturnsInHanded {} Tryd.checked os 3 .any (fun w args => (Rows.txPutsSpec.pre enc Tryd.prog Tryd.f3 [] false w args ∧ laidMetH Tryd.prog laid1 w) ∧ sizedMet enc Tryd.prog Tryd.f3 (OpenSpec.ofChange Rows.txPutsSpec) false w args)
      (Rows.txPutsSpec.post enc Tryd.prog Tryd.f3 false true false false) := by
  refine returnsInHanded_of_change_and (C := Tryd.checked) (X := fun w _ => laidMetH Tryd.prog laid1 w) (fun _ _ _ hh h => h.of_heap hh) own started (by kernel_rfl) Tryd.func3
    (ChangeSpec.witness_shaped (enc := enc) (C := Tryd.checked) (os := os) (X := fun w _ => laidMetH Tryd.prog laid1 w) false (World.doorLaid Tryd.prog 14 os) #[.agg #[.int .u32 0, .slice none 0 0, .slice none 0 0]] 8 rfl (World.shaped_of_RefB (by kernel_rfl) (by kernel_rfl)) (by kernel_rfl) (by kernel_rfl) (by kernel_rfl) (door_met os _)) ?_
  intro W base args ds gs before hval0 hW _ _ hL _
  have hval : ∀ (j : Nat) t v, Tryd.f3.params[j]? = some t → args[j]? = some v → Value.okWide Tryd.prog W .any base t v := hval0
  have hW' := hW
  obtain ⟨p, q, hA0, hV, rfl, hfz, hnd⟩ := hW
  have hA : DataW.TrodAll enc Tryd.prog W 0 (fun _ => true) true Tryd.f3.params.toList args.toList ds p := hA0
  rw [Tryd.params3] at hA hval
  obtain ⟨v0, vs0, d0, ds0, p0, q0, hargs, rfl, rfl, h0, r0⟩ := trodAll_cons hA
  obtain ⟨rfl, rfl, rfl⟩ := trodAll_nil r0
  obtain rfl : args = #[v0] := by cases args; simp_all
  obtain ⟨rfl, rfl⟩ := trodVars_none hV
  have k0 := h0
  have lt0 : ∀ x ∈ p0, x.block < W.heap.size := by obtain ⟨m, hm⟩ := k0; exact DataW.trod_lt m _ _ _ hm
  obtain ⟨t0, a0, b0, rfl, s0, w0⟩ := tx_came (fun _ => rfl) (hval 0 26 v0 rfl rfl) h0
  clear hA0 hval0
  refine (puts_law (w := W) (ks_of_laid hL) t0 _ _ s0 w0).mono fun e W' ⟨he, bel⟩ => ?_
  subst he
  exact ⟨_, rfl, _, _, _, [], _, [], hW', trodAll_mk1 (shut_bool Tryd.underlying4 _), (trodAll_cons_mk (Below.trod laidOut (by kernel_rfl) (of_decide_eq_true (by kernel_rfl)) k0 bel lt0) trodAll_mk0), rfl, bel.frame _, fun h => by cases h⟩

theorem txPuts_holds : Rows.TxPutsSaid :=
  OpenClaim.holds_of_wide 3 Tryd.f3 rfl rfl rfl rfl rfl rfl rfl ⟨rfl, rfl, rfl, rfl, rfl⟩ rfl rfl rfl rfl rfl (by kernel_rfl) Tryd.func3 (by kernel_rfl)
    (of_decide_eq_true (by kernel_rfl)) (by unfold Func.isWrapper; first | (rw [if_pos (by decide +kernel)]; kernel_rfl) | (rw [if_neg (by decide +kernel)]; exact ⟨rfl, rfl⟩))
    (fun os started H enc _ => txPuts_lifted os started H enc)
#print axioms txPuts_holds
theorem txPuts_card : Rows.TxPutsCardSaid :=
  Claim7.holds_tied_plain_at .later [] [.data] true (true, "63be98b54df91c1c028f7b4859c0b799133b80b53fe4d0969b7298db3922ae6f") false
    txPuts_holds (fun _ h => by cases h) (by kernel_rfl) (fun _ h => by cases h) txPuts_row_tie rfl ⟨rfl, rfl⟩ (by kernel_rfl) rfl
    (fun f fn hf hfn => by
      obtain rfl : f = 3 := Option.some.inj ((show Tryd.prog.funcNamed "pappus/pappuslaw07.TxPuts" = some 3 by kernel_rfl).symm.trans hf) |>.symm
      obtain rfl : fn = Tryd.f3 := (Option.some.inj (Tryd.func3.symm.trans hfn)).symm
      exact ⟨by kernel_rfl, fun j t ht => by
        rw [Tryd.params3] at ht
        have hm : t ∈ [26] := by simpa using Array.mem_of_getElem? ht
        have hall : ([26].all fun u => !Tryd.prog.wantsStandIn u) = true := by kernel_rfl
        exact (show Tryd.prog.wantsStandIn t = false by simpa using List.all_eq_true.1 hall t hm)⟩)
    (by kernel_rfl)
#print axioms txPuts_card
end Go.Proofs.YtjmifgdjmaelfaaDoor
