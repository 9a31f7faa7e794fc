/-
  What the document's Coins answers at this program, whatever the transaction.
-/
import Derived.Test.YtjmifgdjmaelfaaDoorTxCoins
import Derived.Test.YtjmifgdjmaelfaaDoorRefTxId
namespace Go.Proofs.YtjmifgdjmaelfaaDoor
open Go.RowKit

local notation "coinZ" => (List.toArray (Value.int IntKind.u8 0 :: Value.int IntKind.u8 0 :: Value.int IntKind.u8 0 :: Value.int IntKind.u8 0 :: Value.int IntKind.u8 0 :: Value.int IntKind.u8 0 :: Value.int IntKind.u8 0 :: Value.int IntKind.u8 0 :: Value.int IntKind.u8 0 :: Value.int IntKind.u8 0 :: Value.int IntKind.u8 0 :: Value.int IntKind.u8 0 :: Value.int IntKind.u8 0 :: Value.int IntKind.u8 0 :: Value.int IntKind.u8 0 :: Value.int IntKind.u8 0 :: Value.int IntKind.u8 0 :: Value.int IntKind.u8 0 :: Value.int IntKind.u8 0 :: Value.int IntKind.u8 0 :: Value.int IntKind.u8 0 :: Value.int IntKind.u8 0 :: Value.int IntKind.u8 0 :: Value.int IntKind.u8 0 :: Value.int IntKind.u8 0 :: Value.int IntKind.u8 0 :: Value.int IntKind.u8 0 :: Value.int IntKind.u8 0 :: Value.int IntKind.u8 0 :: Value.int IntKind.u8 0 :: Value.int IntKind.u8 0 :: Value.int IntKind.u8 0 :: Value.int IntKind.u32 0 :: Value.int IntKind.u64 0 :: Value.int IntKind.u8 0 :: Value.int IntKind.u8 0 :: Value.int IntKind.u8 0 :: Value.int IntKind.u8 0 :: Value.int IntKind.u8 0 :: Value.int IntKind.u8 0 :: Value.int IntKind.u8 0 :: Value.int IntKind.u8 0 :: Value.int IntKind.u8 0 :: Value.int IntKind.u8 0 :: Value.int IntKind.u8 0 :: Value.int IntKind.u8 0 :: Value.int IntKind.u8 0 :: Value.int IntKind.u8 0 :: Value.int IntKind.u8 0 :: Value.int IntKind.u8 0 :: Value.int IntKind.u8 0 :: Value.int IntKind.u8 0 :: Value.int IntKind.u8 0 :: Value.int IntKind.u8 0 :: Value.int IntKind.u8 0 :: Value.int IntKind.u8 0 :: Value.int IntKind.u8 0 :: Value.int IntKind.u8 0 :: Value.int IntKind.u8 0 :: Value.int IntKind.u8 0 :: Value.int IntKind.u8 0 :: Value.int IntKind.u8 0 :: Value.int IntKind.u8 0 :: Value.int IntKind.u8 0 :: Value.int IntKind.u8 0 :: Value.int IntKind.u8 0 :: (List.nil : List Value)))
set_option maxRecDepth 100000 in
set_option maxHeartbeats 1000000 in
theorem rtcoins_form (t : Tr) (iv ov : Value) (w : World) (h : TxAt w iv ov t) (hok : TrOk t) (hle : (txB t).length ≤ 5000) (hf : formB t = true) (h8 : t.outs.length ≤ 1000) :
    Calls Tryd.prog 14 #[.agg #[.int .u32 t.ver, iv, ov]] w fun e w' => ∃ v, e = .returned (.tuple #[v, .int .i64 0]) ∧ Below w.heap.size w w' ∧ RowOwn w' w.heap.size 80 66 v (coins (idT t) t.outs) := by
  have hnew := below_new w (.cells #[.int .u32 t.ver, iv, ov] 26)
  have HO := hide (h.2.on hnew)
  have HX := hide (TBox.new w (.int .u32 t.ver) iv ov 26)
  have HB0 := hide hnew
  have HL := hide hok.2.2
  have TI := hide (rtid_any t iv ov _ (h.on hnew) hok (fun _ => hle))
  rw [(ptL_form hf).2] at TI
  have HID := hide (idT_length t)
  obtain ⟨a, cap, rfl, -, -⟩ := h.1.form
  obtain ⟨oa, oc, rfl, hc1, hc2⟩ := h.2.form
  clear h hok hnew hle hf
  generalize idT t = id at *
  obtain ⟨ver, ins, outs⟩ := t
  simp only at *
  go_enter Tryd.func14, Tryd.ntmps14
  go_upto_region 1 with fail
  generalize w.alloc (.cells #[.int .u32 ver, .slice a ins.length cap, .slice oa outs.length oc] 26) = W0 at *
  obtain ⟨n0, n1, n2⟩ := HX.out
  go_wp2_with fail
  refine TI.out.mono ?_
  rintro e w1 ⟨rfl, hb1⟩
  clear n0 n1 n2 TI
  have HX1 := hide (HX.out.on hb1)
  have HO1 := hide (HO.out.on hb1)
  have HB1 := hide (below_on HB0.out hb1)
  obtain ⟨n0, n1, n2⟩ := HX1.out
  have KP := hide (hash_kept w1 id HID.out)
  clear hb1 HX HO HB0
  go_upto_region 4 with (refine wp_store_arr rfl 36 (.tmp 4) (.tmp 12) rfl _ 0 .u8 id rfl rfl 32 (hash_room _) info_h HID.out ?_)
  generalize (w1.alloc (.cells #[.int .u8 0, .int .u8 0, .int .u8 0, .int .u8 0, .int .u8 0, .int .u8 0, .int .u8 0, .int .u8 0, .int .u8 0, .int .u8 0, .int .u8 0, .int .u8 0, .int .u8 0, .int .u8 0, .int .u8 0, .int .u8 0, .int .u8 0, .int .u8 0, .int .u8 0, .int .u8 0, .int .u8 0, .int .u8 0, .int .u8 0, .int .u8 0, .int .u8 0, .int .u8 0, .int .u8 0, .int .u8 0, .int .u8 0, .int .u8 0, .int .u8 0, .int .u8 0] 36)).setCells w1.heap.size 0 (vals .u8 id) = W2 at *
  clear n0 n1 n2
  have HX2 := hide (HX1.out.on KP.out.1)
  have HO2 := hide (HO1.out.on KP.out.1)
  have HB2 := hide (below_on HB1.out KP.out.1)
  have HA2 := hide KP.out.2
  obtain ⟨n0, n1, n2⟩ := HX2.out
  clear KP HX1 HO1 HB1
  generalize w1.heap.size = q at *
  go_upto_region 6 with fail
  have HS : Hid (Coining W2 id outs (.slice none 0 0) (.int .i64 0) W2) := hide ⟨0, Nat.zero_le _, rfl, Below.refl _ _, RowOwn.nil _ _ _ _⟩
  go_wp2_with fail
  clear n0 n1 n2
  go_loopw [6, 20] (fun v i wr => Coining W2 id outs v i wr) (fun _ i _ => outs.length - (intOf i).toNat)
  case atStart => exact HS.out
  case round =>
    clear HS
    obtain ⟨k, hk, rfl, hB, hown⟩ := hrel
    have HB := hide hB
    have HOWN := hide hown
    by_cases hlt : k < outs.length
    · obtain ⟨x, hx⟩ : ∃ x, outs[k]? = some x := ⟨_, List.getElem?_eq_getElem hlt⟩
      obtain ⟨b, off, rfl, hr⟩ := (HO2.out.on hB).get hx
      have hxl := (HL.out x (List.mem_of_getElem? hx)).2.1
      have HXR := hide hr
      have HN : Hid ((Tryd.prog.info? 66).map (·.size) = some (outC x).length) := hide (by rw [outC_length hxl]; exact info_out)
      have H1 : Hid (∀ u ∈ outC x, u.oneCell' = true) := hide (outC_one x)
      have HT : Hid (∀ w : World, (w.alloc (.cells #[.int .u64 0, .int .u8 0, .int .u8 0, .int .u8 0, .int .u8 0, .int .u8 0, .int .u8 0, .int .u8 0, .int .u8 0, .int .u8 0, .int .u8 0, .int .u8 0, .int .u8 0, .int .u8 0, .int .u8 0, .int .u8 0, .int .u8 0, .int .u8 0, .int .u8 0, .int .u8 0, .int .u8 0, .int .u8 0, .int .u8 0, .int .u8 0, .int .u8 0, .int .u8 0, .int .u8 0, .int .u8 0, .int .u8 0, .int .u8 0, .int .u8 0, .int .u8 0, .int .u8 0] 66)).there w.heap.size 0 (outC x).length) := hide (fun w => by rw [outC_length hxl]; exact out_there w)
      have hk1 : (k : Int) < (outs.length : Int) := by omega
      have hku : IntKind.u32.wrap (k : Int) = k := by simp [IntKind.wrap, IntKind.bits, IntKind.signed]; omega
      have HX := hide hx
      have HXL := hide hxl
      clear hr hx hxl hB hown
      go_upto_region 8 with (first | (refine wpList_load_mid rfl 66 (.tmp 23) rfl b (off + k * 33) rfl (outC x) _ HXR.out Tryd.underlying66 rfl HN.out ?_) | (refine wp_store_row rfl 66 (.tmp 8) (.tmp 24) rfl wr.heap.size 0 (outC x) rfl rfl (HT.out wr) HN.out H1.out ?_))
      have hW : ((wr.alloc (.cells #[.int .u64 0, .int .u8 0, .int .u8 0, .int .u8 0, .int .u8 0, .int .u8 0, .int .u8 0, .int .u8 0, .int .u8 0, .int .u8 0, .int .u8 0, .int .u8 0, .int .u8 0, .int .u8 0, .int .u8 0, .int .u8 0, .int .u8 0, .int .u8 0, .int .u8 0, .int .u8 0, .int .u8 0, .int .u8 0, .int .u8 0, .int .u8 0, .int .u8 0, .int .u8 0, .int .u8 0, .int .u8 0, .int .u8 0, .int .u8 0, .int .u8 0, .int .u8 0, .int .u8 0] 66)).setCells wr.heap.size 0 (outC x)).rangeAt wr.heap.size 0 (outC x) := World.rangeAt_setCells_same _ _ _ _ (HT.out wr)
      have hB2 : Below wr.heap.size wr ((wr.alloc (.cells #[.int .u64 0, .int .u8 0, .int .u8 0, .int .u8 0, .int .u8 0, .int .u8 0, .int .u8 0, .int .u8 0, .int .u8 0, .int .u8 0, .int .u8 0, .int .u8 0, .int .u8 0, .int .u8 0, .int .u8 0, .int .u8 0, .int .u8 0, .int .u8 0, .int .u8 0, .int .u8 0, .int .u8 0, .int .u8 0, .int .u8 0, .int .u8 0, .int .u8 0, .int .u8 0, .int .u8 0, .int .u8 0, .int .u8 0, .int .u8 0, .int .u8 0, .int .u8 0, .int .u8 0] 66)).setCells wr.heap.size 0 (outC x)) := below_sets (Nat.le_refl _) _ _ _ ((Below.refl _ _).alloc (Nat.le_refl _) _)
      generalize (wr.alloc (.cells #[.int .u64 0, .int .u8 0, .int .u8 0, .int .u8 0, .int .u8 0, .int .u8 0, .int .u8 0, .int .u8 0, .int .u8 0, .int .u8 0, .int .u8 0, .int .u8 0, .int .u8 0, .int .u8 0, .int .u8 0, .int .u8 0, .int .u8 0, .int .u8 0, .int .u8 0, .int .u8 0, .int .u8 0, .int .u8 0, .int .u8 0, .int .u8 0, .int .u8 0, .int .u8 0, .int .u8 0, .int .u8 0, .int .u8 0, .int .u8 0, .int .u8 0, .int .u8 0, .int .u8 0] 66)).setCells wr.heap.size 0 (outC x) = W3 at *
      have HP := hide hW
      have HB3 := hide (below_on HB.out hB2)
      have HOWN3 := hide (HOWN.out.move (w1 := W3) fun g _ hl => hB2.block g hl)
      have HQ := hide ((HA2.out.on HB.out).on hB2)
      clear hW hB2 HXR H1 HT HB HOWN
      generalize wr.heap.size = gb at *
      have HIH : Hid ((Tryd.prog.info? 36).map (·.size) = some (vals .u8 id).length) := hide (by rw [vals_length, HID.out]; exact info_h)
      have hlv : (vals .u8 id).length = 32 := by rw [vals_length, HID.out]
      have hbuilt := pt_built id k HID.out
      have hsz := pt_size id HID.out
      simp only [Act.put]
      have hlp : (ptC id k).length = 33 := ptC_length _ HID.out
      have hlo : (outC x).length = 33 := outC_length HXL.out
      have hZ : Array.size coinZ = 66 := rfl
      have hz := zero_coin W3
      have hs2 := coin_size hZ id k HID.out
      have hs3 := coin_built hZ id k HID.out x HXL.out
      have hs4 : ∀ A : Array Value, A.size = 66 → List.foldl (fun (cs : Array Value) (x : Value × Nat) => cs.setIfInBounds x.2 x.1) A (coC id k x).zipIdx = (coC id k x).toArray := fun A h => fold_whole _ A (h.trans (coC_length id k x HID.out HXL.out).symm)
      clear hZ
      have hlen := coC_length id k x HID.out HXL.out
      have hbn := below_new W3 (.cells (coC id k x).toArray 80)
      have HNEW := hide (range_new W3 (coC id k x) 80)
      have HOWN5 := hide (HOWN3.out.move (w1 := W3.alloc (.cells (coC id k x).toArray 80)) fun g _ hl => hbn.block g hl)
      have HB5 := hide (HB3.out.alloc HB3.out.size (.cells (coC id k x).toArray 80))
      have hw5 : W2.heap.size ≤ (W3.alloc (.cells (coC id k x).toArray 80)).heap.size := HB5.out.size
      obtain ⟨v6, w6, hrun, hrow6, hgr, hwh⟩ := run_append_row (W3.alloc (.cells (coC id k x).toArray 80)) 39 80 39 _ 66 80 Tryd.underlying39 infoCo rfl (by omega) (by omega) W2.heap.size u6 (coins id (outs.take k)) HOWN5.out W3.heap.size (coC id k x) HNEW.out ⟨hlen, coC_one id k x⟩ (by rw [coins_length]; simp; omega) hw5
      obtain ⟨va, vc, rfl, -, -⟩ := hrow6.row.form
      have hlt5 := HOWN5.out.lt
      have R1 : Hid (Below W2.heap.size W2 w6) := hide (HB5.out.grown hgr hw5 fun j hj => (hlt5 j hj).1)
      have R : Hid (Coining W2 id outs (.slice va (coins id (outs.take k) ++ [coC id k x]).length vc) (.int .i64 ((k + 1 : Nat) : Int)) w6) := hide ⟨k + 1, by omega, rfl, R1.out, by
        rw [coins_take HX.out]
        exact hrow6⟩
      clear hbn hrow6 hgr hwh hw5 hlt5 R1 HNEW HOWN3 HOWN5 HB3 HB5
      obtain ⟨nn, hnn⟩ : ∃ nn, nn = (coins id (outs.take k) ++ [coC id k x]).length := ⟨_, rfl⟩
      rw [← hnn] at hrun R
      clear hnn
      generalize coC id k x = C at *
      go_wp2_with (first | (refine wpList_load_mid rfl 36 (.tmp 4) rfl q 0 rfl (vals .u8 id) _ HQ.out.1 Tryd.underlying36 rfl HIH.out ?_) | (refine wpList_load_mid rfl 66 (.tmp 8) rfl gb 0 rfl (outC x) _ HP.out Tryd.underlying66 rfl HN.out ?_) | (at_builtin; refine wp_app rfl (.tmp 25) (.tmp 32) 39 rfl (v1 := u6) (v2 := .slice (some ⟨W3.heap.size, 0, none⟩) 1 1) (v := .slice va nn vc) (w' := w6) rfl rfl ?_ ?_; exact hrun))
      go_roundw
      case rel => first | exact R.out | ((repeat apply Exists.intro); exact ⟨R.out, rfl⟩)
      case measure => simp [intOf]; omega
    · have hk2 : (outs.length : Int) ≤ (k : Int) := by omega
      have htk : outs.take k = outs := List.take_of_length_le (by omega)
      have R : Hid (Below w.heap.size w wr ∧ RowOwn wr w.heap.size 80 66 u6 (coins id outs)) := hide ⟨below_on HB2.out hB, by rw [htk] at hown; exact hown.low HB2.out.size⟩
      clear hB hown htk
      go_wp2
      go_ret2
      exact ⟨_, rfl, R.out⟩

set_option maxRecDepth 100000 in
set_option maxHeartbeats 1000000 in
theorem rtcoins_long (t : Tr) (iv ov : Value) (w : World) (h : TxAt w iv ov t) (hok : TrOk t) (hf : formB t = false) :
    Calls Tryd.prog 14 #[.agg #[.int .u32 t.ver, iv, ov]] w fun e w' => e = .returned (.tuple #[.slice none 0 0, .int .i64 5]) ∧ Below w.heap.size w w' := by
  have hnew := below_new w (.cells #[.int .u32 t.ver, iv, ov] 26)
  have HX := hide (TBox.new w (.int .u32 t.ver) iv ov 26)
  have HB0 := hide hnew
  have TI := hide (rtid_any t iv ov _ (h.on hnew) hok (fun e => by rw [hf] at e; cases e))
  rw [(ptL_long hf).2] at TI
  have HID := hide (idT_length t)
  obtain ⟨a, cap, rfl, -, -⟩ := h.1.form
  obtain ⟨oa, oc, rfl, -, -⟩ := h.2.form
  clear h hok hnew hf
  generalize idT t = id at *
  obtain ⟨ver, ins, outs⟩ := t
  simp only at *
  go_enter Tryd.func14, Tryd.ntmps14
  go_upto_region 1 with fail
  generalize w.alloc (.cells #[.int .u32 ver, .slice a ins.length cap, .slice oa outs.length oc] 26) = W0 at *
  obtain ⟨n0, n1, n2⟩ := HX.out
  go_wp2_with fail
  refine TI.out.mono ?_
  rintro e w1 ⟨rfl, hb1⟩
  clear n0 n1 n2 TI
  have HB1 := hide (below_on HB0.out hb1)
  have KP := hide (hash_kept w1 id HID.out)
  clear hb1 HX HB0
  go_wp2_with (refine wp_store_arr rfl 36 (.tmp 4) (.tmp 12) rfl _ 0 .u8 id rfl rfl 32 (hash_room _) info_h HID.out ?_)
  go_ret2
  exact ⟨rfl, below_on HB1.out KP.out.1⟩

end Go.Proofs.YtjmifgdjmaelfaaDoor
