/-
  What tx.Coins answers at this program, whatever the transaction.
-/
import Derived.Test.YtjmifgdjmaelfaaDoorTxId
import Derived.Test.YtjmifgdjmaelfaaDoorTxPtB
namespace Go.Proofs.YtjmifgdjmaelfaaDoor
open Go.RowKit

/-- A coin's cells. -/
def coC (id : List Int) (k : Nat) (o : TOut) : List Value := ptC id k ++ outC o
theorem coC_length (id : List Int) (k : Nat) (o : TOut) (h : id.length = 32) (ho : o.lock.length = 32) : (coC id k o).length = 66 := by
  unfold coC
  rw [List.length_append, ptC_length _ h, outC_length ho]
theorem coC_one (id : List Int) (k : Nat) (o : TOut) : ∀ u ∈ coC id k o, u.oneCell' = true := by
  intro u hu
  rcases List.mem_append.1 hu with q | q
  · exact ptC_one _ _ u q
  · exact outC_one _ u q
/-- The coins of outputs. -/
def coins (id : List Int) (L : List TOut) : List (List Value) := L.zipIdx.map fun x => coC id x.2 x.1
theorem coins_length (id : List Int) (L : List TOut) : (coins id L).length = L.length := by simp [coins]
theorem coins_take {id : List Int} {L : List TOut} {k : Nat} {x : TOut} (h : L[k]? = some x) : coins id (L.take (k + 1)) = coins id (L.take k) ++ [coC id k x] := by
  obtain ⟨e1, e2⟩ := List.getElem?_eq_some_iff.1 h
  unfold coins
  rw [List.take_succ_eq_append_getElem e1, e2, List.zipIdx_append, List.map_append]
  simp [List.length_take, Nat.min_eq_left (Nat.le_of_lt e1)]
theorem coins_get {id : List Int} {L : List TOut} {k : Nat} {x : TOut} (h : L[k]? = some x) : (coins id L)[k]? = some (coC id k x) := by
  unfold coins
  rw [List.getElem?_map, List.getElem?_zipIdx, h]
  simp
theorem infoCo : (Tryd.prog.info? 80).map (fun i => (i.zero, i.size, i.bytes)) = some (some (.agg #[.int .u8 0, .int .u8 0, .int .u8 0, .int .u8 0, .int .u8 0, .int .u8 0, .int .u8 0, .int .u8 0, .int .u8 0, .int .u8 0, .int .u8 0, .int .u8 0, .int .u8 0, .int .u8 0, .int .u8 0, .int .u8 0, .int .u8 0, .int .u8 0, .int .u8 0, .int .u8 0, .int .u8 0, .int .u8 0, .int .u8 0, .int .u8 0, .int .u8 0, .int .u8 0, .int .u8 0, .int .u8 0, .int .u8 0, .int .u8 0, .int .u8 0, .int .u8 0, .int .u32 0, .int .u64 0, .int .u8 0, .int .u8 0, .int .u8 0, .int .u8 0, .int .u8 0, .int .u8 0, .int .u8 0, .int .u8 0, .int .u8 0, .int .u8 0, .int .u8 0, .int .u8 0, .int .u8 0, .int .u8 0, .int .u8 0, .int .u8 0, .int .u8 0, .int .u8 0, .int .u8 0, .int .u8 0, .int .u8 0, .int .u8 0, .int .u8 0, .int .u8 0, .int .u8 0, .int .u8 0, .int .u8 0, .int .u8 0, .int .u8 0, .int .u8 0, .int .u8 0, .int .u8 0]), 66, 80) := by kernel_rfl
theorem info_co : (Tryd.prog.info? 80).map (·.size) = some 66 := by kernel_rfl
local notation "coinZ" => (List.toArray (Value.int IntKind.u8 0 :: Value.int IntKind.u8 0 :: Value.int IntKind.u8 0 :: Value.int IntKind.u8 0 :: Value.int IntKind.u8 0 :: Value.int IntKind.u8 0 :: Value.int IntKind.u8 0 :: Value.int IntKind.u8 0 :: Value.int IntKind.u8 0 :: Value.int IntKind.u8 0 :: Value.int IntKind.u8 0 :: Value.int IntKind.u8 0 :: Value.int IntKind.u8 0 :: Value.int IntKind.u8 0 :: Value.int IntKind.u8 0 :: Value.int IntKind.u8 0 :: Value.int IntKind.u8 0 :: Value.int IntKind.u8 0 :: Value.int IntKind.u8 0 :: Value.int IntKind.u8 0 :: Value.int IntKind.u8 0 :: Value.int IntKind.u8 0 :: Value.int IntKind.u8 0 :: Value.int IntKind.u8 0 :: Value.int IntKind.u8 0 :: Value.int IntKind.u8 0 :: Value.int IntKind.u8 0 :: Value.int IntKind.u8 0 :: Value.int IntKind.u8 0 :: Value.int IntKind.u8 0 :: Value.int IntKind.u8 0 :: Value.int IntKind.u8 0 :: Value.int IntKind.u32 0 :: Value.int IntKind.u64 0 :: Value.int IntKind.u8 0 :: Value.int IntKind.u8 0 :: Value.int IntKind.u8 0 :: Value.int IntKind.u8 0 :: Value.int IntKind.u8 0 :: Value.int IntKind.u8 0 :: Value.int IntKind.u8 0 :: Value.int IntKind.u8 0 :: Value.int IntKind.u8 0 :: Value.int IntKind.u8 0 :: Value.int IntKind.u8 0 :: Value.int IntKind.u8 0 :: Value.int IntKind.u8 0 :: Value.int IntKind.u8 0 :: Value.int IntKind.u8 0 :: Value.int IntKind.u8 0 :: Value.int IntKind.u8 0 :: Value.int IntKind.u8 0 :: Value.int IntKind.u8 0 :: Value.int IntKind.u8 0 :: Value.int IntKind.u8 0 :: Value.int IntKind.u8 0 :: Value.int IntKind.u8 0 :: Value.int IntKind.u8 0 :: Value.int IntKind.u8 0 :: Value.int IntKind.u8 0 :: Value.int IntKind.u8 0 :: Value.int IntKind.u8 0 :: Value.int IntKind.u8 0 :: Value.int IntKind.u8 0 :: Value.int IntKind.u8 0 :: Value.int IntKind.u8 0 :: (List.nil : List Value)))
theorem zero_coin : ∀ w, (zeroValue 80).run Tryd.prog w = .ok (.agg coinZ) w := (zero_of_info (P := Tryd.prog) (n := 66) (t := 80) (v := .agg coinZ) (by kernel_rfl)).1
theorem coin_size {Z : Array Value} (hZ : Z.size = 66) (id : List Int) (k : Nat) (h : id.length = 32) : ¬ (List.foldl (fun (cs : Array Value) (x : Value × Nat) => cs.setIfInBounds x.2 x.1) Z (ptC id k).zipIdx).size < 66 := by
  have hv := ptC_length (k : Int) h
  rw [fold_part _ 0 _ (by omega)]
  simp [hv, hZ]
theorem coin_built {Z : Array Value} (hZ : Z.size = 66) (id : List Int) (k : Nat) (h : id.length = 32) (x : TOut) (hx : x.lock.length = 32) :
    List.foldl (fun (cs : Array Value) (x : Value × Nat) => cs.setIfInBounds (33 + x.2) x.1) (List.foldl (fun (cs : Array Value) (x : Value × Nat) => cs.setIfInBounds x.2 x.1) Z (ptC id k).zipIdx) (outC x).zipIdx = (coC id k x).toArray := by
  have hv := ptC_length (k : Int) h
  have ho := outC_length hx
  rw [fold_part _ 0 _ (by omega), fold_off 33 _ 0 _ (by simp; omega)]
  congr 1
  simp [hv, ho, hZ, coC, List.drop_append]
/-- So far these are gathered. -/
def Coining (w : World) (id : List Int) (L : List TOut) (v i : Value) (wr : World) : Prop := ∃ k : Nat, k ≤ L.length ∧ i = .int .i64 k ∧ Below w.heap.size w wr ∧ RowOwn wr w.heap.size 80 66 v (coins id (L.take k))

set_option maxRecDepth 100000 in
set_option maxHeartbeats 1000000 in
theorem tcoins_form (t : Tr) (iv ov : Value) (w : World) (h : TxAt w iv ov t) (hok : TrOk t) (hk : Ks w) (hle : (txB t).length ≤ 100000000) (hf : formB t = true) (h8 : t.outs.length ≤ 1000) :
    Calls Tryd.prog 13 #[.agg #[.int .u32 t.ver, iv, ov]] w fun e w' => ∃ v, e = .returned (.tuple #[v, .int .i64 0]) ∧ Below w.heap.size w w' ∧ RowOwn w' w.heap.size 80 66 v (coins (idT t) t.outs) := by
  have hnew := below_new w (.cells #[.int .u32 t.ver, iv, ov] 26)
  have HO := hide (h.2.on hnew)
  have HX := hide (TBox.new w (.int .u32 t.ver) iv ov 26)
  have HB0 := hide hnew
  have HL := hide hok.2.2
  have TI := hide (tid_any t iv ov _ (h.on hnew) hok (hk.on hnew) (fun _ => hle))
  rw [(ptL_form hf).2] at TI
  have HID := hide (idT_length t)
  obtain ⟨a, cap, rfl, -, -⟩ := h.1.form
  obtain ⟨oa, oc, rfl, hc1, hc2⟩ := h.2.form
  clear h hok hnew hk hle hf
  generalize idT t = id at *
  obtain ⟨ver, ins, outs⟩ := t
  simp only at *
  go_enter Tryd.func13, Tryd.ntmps13
  go_upto_region 1 with fail
  generalize w.alloc (.cells #[.int .u32 ver, .slice a ins.length cap, .slice oa outs.length oc] 26) = W0 at *
  obtain ⟨n0, n1, n2⟩ := HX.out
  go_wp2_with fail
  refine TI.out.mono ?_
  rintro e w1 ⟨rfl, hb1⟩
  clear n0 n1 n2 TI
  have HX1 := hide (HX.out.on hb1)
  have HO1 := hide (HO.out.on hb1)
  have HB1 := hide (below_on HB0.out hb1)
  obtain ⟨n0, n1, n2⟩ := HX1.out
  have KP := hide (hash_kept w1 id HID.out)
  clear hb1 HX HO HB0
  go_upto_region 4 with (refine wp_store_arr rfl 36 (.tmp 4) (.tmp 13) rfl _ 0 .u8 id rfl rfl 32 (hash_room _) info_h HID.out ?_)
  generalize (w1.alloc (.cells #[.int .u8 0, .int .u8 0, .int .u8 0, .int .u8 0, .int .u8 0, .int .u8 0, .int .u8 0, .int .u8 0, .int .u8 0, .int .u8 0, .int .u8 0, .int .u8 0, .int .u8 0, .int .u8 0, .int .u8 0, .int .u8 0, .int .u8 0, .int .u8 0, .int .u8 0, .int .u8 0, .int .u8 0, .int .u8 0, .int .u8 0, .int .u8 0, .int .u8 0, .int .u8 0, .int .u8 0, .int .u8 0, .int .u8 0, .int .u8 0, .int .u8 0, .int .u8 0] 36)).setCells w1.heap.size 0 (vals .u8 id) = W2 at *
  clear n0 n1 n2
  have HX2 := hide (HX1.out.on KP.out.1)
  have HO2 := hide (HO1.out.on KP.out.1)
  have HB2 := hide (below_on HB1.out KP.out.1)
  have HA2 := hide KP.out.2
  obtain ⟨n0, n1, n2⟩ := HX2.out
  clear KP HX1 HO1 HB1
  generalize w1.heap.size = q at *
  go_upto_region 6 with fail
  have HS : Hid (Coining W2 id outs (.slice none 0 0) (.int .i64 0) W2) := hide ⟨0, Nat.zero_le _, rfl, Below.refl _ _, RowOwn.nil _ _ _ _⟩
  go_wp2_with fail
  clear n0 n1 n2
  go_loopw [6, 21] (fun v i wr => Coining W2 id outs v i wr) (fun _ i _ => outs.length - (intOf i).toNat)
  case atStart => exact HS.out
  case round =>
    clear HS
    obtain ⟨k, hk, rfl, hB, hown⟩ := hrel
    have HB := hide hB
    have HOWN := hide hown
    by_cases hlt : k < outs.length
    · obtain ⟨x, hx⟩ : ∃ x, outs[k]? = some x := ⟨_, List.getElem?_eq_getElem hlt⟩
      obtain ⟨b, off, rfl, hr⟩ := (HO2.out.on hB).get hx
      have hxl := (HL.out x (List.mem_of_getElem? hx)).2.1
      have HXR := hide hr
      have HN : Hid ((Tryd.prog.info? 66).map (·.size) = some (outC x).length) := hide (by rw [outC_length hxl]; exact info_out)
      have H1 : Hid (∀ u ∈ outC x, u.oneCell' = true) := hide (outC_one x)
      have HT : Hid (∀ w : World, (w.alloc (.cells #[.int .u64 0, .int .u8 0, .int .u8 0, .int .u8 0, .int .u8 0, .int .u8 0, .int .u8 0, .int .u8 0, .int .u8 0, .int .u8 0, .int .u8 0, .int .u8 0, .int .u8 0, .int .u8 0, .int .u8 0, .int .u8 0, .int .u8 0, .int .u8 0, .int .u8 0, .int .u8 0, .int .u8 0, .int .u8 0, .int .u8 0, .int .u8 0, .int .u8 0, .int .u8 0, .int .u8 0, .int .u8 0, .int .u8 0, .int .u8 0, .int .u8 0, .int .u8 0, .int .u8 0] 66)).there w.heap.size 0 (outC x).length) := hide (fun w => by rw [outC_length hxl]; exact out_there w)
      have hk1 : (k : Int) < (outs.length : Int) := by omega
      have hku : IntKind.u32.wrap (k : Int) = k := by simp [IntKind.wrap, IntKind.bits, IntKind.signed]; omega
      have HX := hide hx
      have HXL := hide hxl
      clear hr hx hxl hB hown
      go_upto_region 8 with (first | (refine wpList_load_mid rfl 66 (.tmp 24) rfl b (off + k * 33) rfl (outC x) _ HXR.out Tryd.underlying66 rfl HN.out ?_) | (refine wp_store_row rfl 66 (.tmp 8) (.tmp 25) rfl wr.heap.size 0 (outC x) rfl rfl (HT.out wr) HN.out H1.out ?_))
      have hW : ((wr.alloc (.cells #[.int .u64 0, .int .u8 0, .int .u8 0, .int .u8 0, .int .u8 0, .int .u8 0, .int .u8 0, .int .u8 0, .int .u8 0, .int .u8 0, .int .u8 0, .int .u8 0, .int .u8 0, .int .u8 0, .int .u8 0, .int .u8 0, .int .u8 0, .int .u8 0, .int .u8 0, .int .u8 0, .int .u8 0, .int .u8 0, .int .u8 0, .int .u8 0, .int .u8 0, .int .u8 0, .int .u8 0, .int .u8 0, .int .u8 0, .int .u8 0, .int .u8 0, .int .u8 0, .int .u8 0] 66)).setCells wr.heap.size 0 (outC x)).rangeAt wr.heap.size 0 (outC x) := World.rangeAt_setCells_same _ _ _ _ (HT.out wr)
      have hB2 : Below wr.heap.size wr ((wr.alloc (.cells #[.int .u64 0, .int .u8 0, .int .u8 0, .int .u8 0, .int .u8 0, .int .u8 0, .int .u8 0, .int .u8 0, .int .u8 0, .int .u8 0, .int .u8 0, .int .u8 0, .int .u8 0, .int .u8 0, .int .u8 0, .int .u8 0, .int .u8 0, .int .u8 0, .int .u8 0, .int .u8 0, .int .u8 0, .int .u8 0, .int .u8 0, .int .u8 0, .int .u8 0, .int .u8 0, .int .u8 0, .int .u8 0, .int .u8 0, .int .u8 0, .int .u8 0, .int .u8 0, .int .u8 0] 66)).setCells wr.heap.size 0 (outC x)) := below_sets (Nat.le_refl _) _ _ _ ((Below.refl _ _).alloc (Nat.le_refl _) _)
      generalize (wr.alloc (.cells #[.int .u64 0, .int .u8 0, .int .u8 0, .int .u8 0, .int .u8 0, .int .u8 0, .int .u8 0, .int .u8 0, .int .u8 0, .int .u8 0, .int .u8 0, .int .u8 0, .int .u8 0, .int .u8 0, .int .u8 0, .int .u8 0, .int .u8 0, .int .u8 0, .int .u8 0, .int .u8 0, .int .u8 0, .int .u8 0, .int .u8 0, .int .u8 0, .int .u8 0, .int .u8 0, .int .u8 0, .int .u8 0, .int .u8 0, .int .u8 0, .int .u8 0, .int .u8 0, .int .u8 0] 66)).setCells wr.heap.size 0 (outC x) = W3 at *
      have HP := hide hW
      have HB3 := hide (below_on HB.out hB2)
      have HOWN3 := hide (HOWN.out.move (w1 := W3) fun g _ hl => hB2.block g hl)
      have HQ := hide ((HA2.out.on HB.out).on hB2)
      clear hW hB2 HXR H1 HT HB HOWN
      generalize wr.heap.size = gb at *
      have HIH : Hid ((Tryd.prog.info? 36).map (·.size) = some (vals .u8 id).length) := hide (by rw [vals_length, HID.out]; exact info_h)
      have hlv : (vals .u8 id).length = 32 := by rw [vals_length, HID.out]
      have hbuilt := pt_built id k HID.out
      have hsz := pt_size id HID.out
      have HLP : Hid ((Tryd.prog.info? 45).map (·.size) = some (ptC id k).length) := hide (by rw [ptC_length _ HID.out]; exact info_pt)
      have HTP : Hid ((W3.alloc (.cells #[.int .u8 0, .int .u8 0, .int .u8 0, .int .u8 0, .int .u8 0, .int .u8 0, .int .u8 0, .int .u8 0, .int .u8 0, .int .u8 0, .int .u8 0, .int .u8 0, .int .u8 0, .int .u8 0, .int .u8 0, .int .u8 0, .int .u8 0, .int .u8 0, .int .u8 0, .int .u8 0, .int .u8 0, .int .u8 0, .int .u8 0, .int .u8 0, .int .u8 0, .int .u8 0, .int .u8 0, .int .u8 0, .int .u8 0, .int .u8 0, .int .u8 0, .int .u8 0, .int .u32 0] 45)).there W3.heap.size 0 (ptC id k).length) := hide (by rw [ptC_length _ HID.out]; exact pt_there W3)
      simp only [Act.put]
      go_upto_region 9 with (first | (refine wpList_load_mid rfl 36 (.tmp 4) rfl q 0 rfl (vals .u8 id) _ HQ.out.1 Tryd.underlying36 rfl HIH.out ?_) | (refine wp_store_row rfl 45 (.tmp 9) (.tmp 29) rfl W3.heap.size 0 (ptC id k) rfl rfl HTP.out HLP.out (ptC_one _ _) ?_))
      have hW : ((W3.alloc (.cells #[.int .u8 0, .int .u8 0, .int .u8 0, .int .u8 0, .int .u8 0, .int .u8 0, .int .u8 0, .int .u8 0, .int .u8 0, .int .u8 0, .int .u8 0, .int .u8 0, .int .u8 0, .int .u8 0, .int .u8 0, .int .u8 0, .int .u8 0, .int .u8 0, .int .u8 0, .int .u8 0, .int .u8 0, .int .u8 0, .int .u8 0, .int .u8 0, .int .u8 0, .int .u8 0, .int .u8 0, .int .u8 0, .int .u8 0, .int .u8 0, .int .u8 0, .int .u8 0, .int .u32 0] 45)).setCells W3.heap.size 0 (ptC id k)).rangeAt W3.heap.size 0 (ptC id k) := World.rangeAt_setCells_same _ _ _ _ HTP.out
      have hB2 : Below W3.heap.size W3 ((W3.alloc (.cells #[.int .u8 0, .int .u8 0, .int .u8 0, .int .u8 0, .int .u8 0, .int .u8 0, .int .u8 0, .int .u8 0, .int .u8 0, .int .u8 0, .int .u8 0, .int .u8 0, .int .u8 0, .int .u8 0, .int .u8 0, .int .u8 0, .int .u8 0, .int .u8 0, .int .u8 0, .int .u8 0, .int .u8 0, .int .u8 0, .int .u8 0, .int .u8 0, .int .u8 0, .int .u8 0, .int .u8 0, .int .u8 0, .int .u8 0, .int .u8 0, .int .u8 0, .int .u8 0, .int .u32 0] 45)).setCells W3.heap.size 0 (ptC id k)) := below_sets (Nat.le_refl _) _ _ _ ((Below.refl _ _).alloc (Nat.le_refl _) _)
      generalize (W3.alloc (.cells #[.int .u8 0, .int .u8 0, .int .u8 0, .int .u8 0, .int .u8 0, .int .u8 0, .int .u8 0, .int .u8 0, .int .u8 0, .int .u8 0, .int .u8 0, .int .u8 0, .int .u8 0, .int .u8 0, .int .u8 0, .int .u8 0, .int .u8 0, .int .u8 0, .int .u8 0, .int .u8 0, .int .u8 0, .int .u8 0, .int .u8 0, .int .u8 0, .int .u8 0, .int .u8 0, .int .u8 0, .int .u8 0, .int .u8 0, .int .u8 0, .int .u8 0, .int .u8 0, .int .u32 0] 45)).setCells W3.heap.size 0 (ptC id k) = W4 at *
      have HPT := hide hW
      have HP4 := hide (range_on HP.out hB2)
      have HB4 := hide (below_on HB3.out hB2)
      have HOWN4 := hide (HOWN3.out.move (w1 := W4) fun g _ hl => hB2.block g hl)
      clear hW hB2 HTP HB3 HOWN3 HP HQ hbuilt hsz
      generalize W3.heap.size = gp at *
      have hlp : (ptC id k).length = 33 := ptC_length _ HID.out
      have hlo : (outC x).length = 33 := outC_length HXL.out
      have hZ : Array.size coinZ = 66 := rfl
      have hz := zero_coin W4
      have hs2 := coin_size hZ id k HID.out
      have hs3 := coin_built hZ id k HID.out x HXL.out
      have hs4 : ∀ A : Array Value, A.size = 66 → List.foldl (fun (cs : Array Value) (x : Value × Nat) => cs.setIfInBounds x.2 x.1) A (coC id k x).zipIdx = (coC id k x).toArray := fun A h => fold_whole _ A (h.trans (coC_length id k x HID.out HXL.out).symm)
      clear hZ
      have hlen := coC_length id k x HID.out HXL.out
      have hbn := below_new W4 (.cells (coC id k x).toArray 80)
      have HNEW := hide (range_new W4 (coC id k x) 80)
      have HOWN5 := hide (HOWN4.out.move (w1 := W4.alloc (.cells (coC id k x).toArray 80)) fun g _ hl => hbn.block g hl)
      have HB5 := hide (HB4.out.alloc HB4.out.size (.cells (coC id k x).toArray 80))
      have hw5 : W2.heap.size ≤ (W4.alloc (.cells (coC id k x).toArray 80)).heap.size := HB5.out.size
      obtain ⟨v6, w6, hrun, hrow6, hgr, hwh⟩ := run_append_row (W4.alloc (.cells (coC id k x).toArray 80)) 39 80 39 _ 66 80 Tryd.underlying39 infoCo rfl (by omega) (by omega) W2.heap.size u6 (coins id (outs.take k)) HOWN5.out W4.heap.size (coC id k x) HNEW.out ⟨hlen, coC_one id k x⟩ (by rw [coins_length]; simp; omega) hw5
      obtain ⟨va, vc, rfl, -, -⟩ := hrow6.row.form
      have hlt5 := HOWN5.out.lt
      have R1 : Hid (Below W2.heap.size W2 w6) := hide (HB5.out.grown hgr hw5 fun j hj => (hlt5 j hj).1)
      have R : Hid (Coining W2 id outs (.slice va (coins id (outs.take k) ++ [coC id k x]).length vc) (.int .i64 ((k + 1 : Nat) : Int)) w6) := hide ⟨k + 1, by omega, rfl, R1.out, by
        rw [coins_take HX.out]
        exact hrow6⟩
      clear hbn hrow6 hgr hwh hw5 hlt5 R1 HNEW HOWN4 HOWN5 HB4 HB5
      obtain ⟨nn, hnn⟩ : ∃ nn, nn = (coins id (outs.take k) ++ [coC id k x]).length := ⟨_, rfl⟩
      rw [← hnn] at hrun R
      clear hnn
      generalize coC id k x = C at *
      go_wp2_with (first | (refine wpList_load_mid rfl 45 (.tmp 9) rfl gp 0 rfl (ptC id k) _ HPT.out Tryd.underlying45 rfl HLP.out ?_) | (refine wpList_load_mid rfl 66 (.tmp 8) rfl gb 0 rfl (outC x) _ HP4.out Tryd.underlying66 rfl HN.out ?_) | (at_builtin; refine wp_app rfl (.tmp 30) (.tmp 34) 39 rfl (v1 := u6) (v2 := .slice (some ⟨W4.heap.size, 0, none⟩) 1 1) (v := .slice va nn vc) (w' := w6) rfl rfl ?_ ?_; exact hrun))
      go_roundw
      case rel => first | exact R.out | ((repeat apply Exists.intro); exact ⟨R.out, rfl⟩)
      case measure => simp [intOf]; omega
    · have hk2 : (outs.length : Int) ≤ (k : Int) := by omega
      have htk : outs.take k = outs := List.take_of_length_le (by omega)
      have R : Hid (Below w.heap.size w wr ∧ RowOwn wr w.heap.size 80 66 u6 (coins id outs)) := hide ⟨below_on HB2.out hB, by rw [htk] at hown; exact hown.low HB2.out.size⟩
      clear hB hown htk
      go_wp2
      go_ret2
      exact ⟨_, rfl, R.out⟩

set_option maxRecDepth 100000 in
set_option maxHeartbeats 1000000 in
theorem tcoins_long (t : Tr) (iv ov : Value) (w : World) (h : TxAt w iv ov t) (hok : TrOk t) (hk : Ks w) (hf : formB t = false) :
    Calls Tryd.prog 13 #[.agg #[.int .u32 t.ver, iv, ov]] w fun e w' => e = .returned (.tuple #[.slice none 0 0, .int .i64 5]) ∧ Below w.heap.size w w' := by
  have hnew := below_new w (.cells #[.int .u32 t.ver, iv, ov] 26)
  have HX := hide (TBox.new w (.int .u32 t.ver) iv ov 26)
  have HB0 := hide hnew
  have TI := hide (tid_any t iv ov _ (h.on hnew) hok (hk.on hnew) (fun e => by rw [hf] at e; cases e))
  rw [(ptL_long hf).2] at TI
  have HID := hide (idT_length t)
  obtain ⟨a, cap, rfl, -, -⟩ := h.1.form
  obtain ⟨oa, oc, rfl, -, -⟩ := h.2.form
  clear h hok hnew hk hf
  generalize idT t = id at *
  obtain ⟨ver, ins, outs⟩ := t
  simp only at *
  go_enter Tryd.func13, Tryd.ntmps13
  go_upto_region 1 with fail
  generalize w.alloc (.cells #[.int .u32 ver, .slice a ins.length cap, .slice oa outs.length oc] 26) = W0 at *
  obtain ⟨n0, n1, n2⟩ := HX.out
  go_wp2_with fail
  refine TI.out.mono ?_
  rintro e w1 ⟨rfl, hb1⟩
  clear n0 n1 n2 TI
  have HB1 := hide (below_on HB0.out hb1)
  have KP := hide (hash_kept w1 id HID.out)
  clear hb1 HX HB0
  go_wp2_with (refine wp_store_arr rfl 36 (.tmp 4) (.tmp 13) rfl _ 0 .u8 id rfl rfl 32 (hash_room _) info_h HID.out ?_)
  go_ret2
  exact ⟨rfl, below_on HB1.out KP.out.1⟩

end Go.Proofs.YtjmifgdjmaelfaaDoor
