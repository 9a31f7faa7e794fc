/-
  What tx.Points answers at this program, whatever the transaction.
-/
import Derived.Test.YtjmifgdjmaelfaaDoorTxCell
import Derived.Test.YtjmifgdjmaelfaaDoorTxInC
namespace Go.Proofs.YtjmifgdjmaelfaaDoor
open Go.RowKit

/-- The slice bears the points. -/
def PtsAt (w : World) (v : Value) (L : List TIn) : Prop := RowAt w 33 v (L.map fun x => ptC x.tx x.n)
/-- So far these are gathered. -/
def Pointing (w : World) (L : List TIn) (v i : Value) (wr : World) : Prop := ∃ k : Nat, k ≤ L.length ∧ i = .int .i64 k ∧ Below w.heap.size w wr ∧ RowOwn wr w.heap.size 45 33 v ((L.take k).map fun x => ptC x.tx x.n)
theorem infoPt : (Tryd.prog.info? 45).map (fun i => (i.zero, i.size, i.bytes)) = some (some (.agg #[.int .u8 0, .int .u8 0, .int .u8 0, .int .u8 0, .int .u8 0, .int .u8 0, .int .u8 0, .int .u8 0, .int .u8 0, .int .u8 0, .int .u8 0, .int .u8 0, .int .u8 0, .int .u8 0, .int .u8 0, .int .u8 0, .int .u8 0, .int .u8 0, .int .u8 0, .int .u8 0, .int .u8 0, .int .u8 0, .int .u8 0, .int .u8 0, .int .u8 0, .int .u8 0, .int .u8 0, .int .u8 0, .int .u8 0, .int .u8 0, .int .u8 0, .int .u8 0, .int .u32 0]), 33, 36) := by kernel_rfl

set_option maxRecDepth 100000 in
set_option maxHeartbeats 1000000 in
theorem tpoints_any (t : Tr) (iv ov : Value) (w : World) (h : TxAt w iv ov t) (hok : ∀ x ∈ t.ins, InOk x) (hn : t.ins.length ≤ 1000) :
    Calls Tryd.prog 15 #[.agg #[.int .u32 t.ver, iv, ov]] w fun e w' => ∃ v, e = .returned v ∧ Below w.heap.size w w' ∧ RowOwn w' w.heap.size 45 33 v (t.ins.map fun x => ptC x.tx x.n) := by
  have hnew := below_new w (.cells #[.int .u32 t.ver, iv, ov] 26)
  have HI := hide (h.1.on hnew)
  have HX := hide (TBox.new w (.int .u32 t.ver) iv ov 26)
  have HB0 := hide hnew
  have HL := hide hok
  obtain ⟨a, cap, rfl, hc1, hc2⟩ := h.1.form
  obtain ⟨oa, oc, rfl, -, -⟩ := h.2.form
  obtain ⟨n0, n1, n2⟩ := HX.out
  clear h hok hnew HX
  obtain ⟨ver, ins, outs⟩ := t
  simp only at *
  go_enter Tryd.func15, Tryd.ntmps15
  go_upto_region 1 with fail
  generalize w.alloc (.cells #[.int .u32 ver, .slice a ins.length cap, .slice oa outs.length oc] 26) = W0 at *
  have HS : Hid (Pointing W0 ins (.slice none 0 0) (.int .i64 0) W0) := hide ⟨0, Nat.zero_le _, rfl, Below.refl _ _, RowOwn.nil _ _ _ _⟩
  go_wp2_with fail
  clear n0 n1 n2
  go_loopw [3, 9] (fun v i wr => Pointing W0 ins v i wr) (fun _ i _ => ins.length - (intOf i).toNat)
  case atStart => exact HS.out
  case round =>
    clear HS
    obtain ⟨k, hk, rfl, hB, hown⟩ := hrel
    have HB := hide hB
    have HOWN := hide hown
    by_cases hlt : k < ins.length
    · obtain ⟨x, hx⟩ : ∃ x, ins[k]? = some x := ⟨_, List.getElem?_eq_getElem hlt⟩
      obtain ⟨b, off, kv, rfl, hr, hbv⟩ := (HI.out.on hB).get hx
      have hxl := (HL.out x (List.mem_of_getElem? hx)).1
      have HXR := hide hr
      have HN : Hid ((Tryd.prog.info? 64).map (·.size) = some (inC (x, kv)).length) := hide (by rw [inC_length hxl]; exact info_in)
      have H1 : Hid (∀ u ∈ inC (x, kv), u.oneCell' = true) := hide (inC_one hbv.oneCell)
      have HT : Hid (∀ w : World, (w.alloc (.cells #[.int .u8 0, .int .u8 0, .int .u8 0, .int .u8 0, .int .u8 0, .int .u8 0, .int .u8 0, .int .u8 0, .int .u8 0, .int .u8 0, .int .u8 0, .int .u8 0, .int .u8 0, .int .u8 0, .int .u8 0, .int .u8 0, .int .u8 0, .int .u8 0, .int .u8 0, .int .u8 0, .int .u8 0, .int .u8 0, .int .u8 0, .int .u8 0, .int .u8 0, .int .u8 0, .int .u8 0, .int .u8 0, .int .u8 0, .int .u8 0, .int .u8 0, .int .u8 0, .int .u32 0, .slice none 0 0] 64)).there w.heap.size 0 (inC (x, kv)).length) := hide (fun w => by rw [inC_length hxl]; exact in_there w)
      have hk1 : (k : Int) < (ins.length : Int) := by omega
      have HLP : Hid ((Tryd.prog.info? 45).map (·.size) = some (ptC x.tx x.n).length) := hide (by rw [ptC_length _ hxl]; exact info_pt)
      have HLEN : Hid ((ptC x.tx x.n).length = 33) := hide (ptC_length _ hxl)
      have HONE := hide (fold_whole (ptC x.tx x.n) #[.int .u8 0, .int .u8 0, .int .u8 0, .int .u8 0, .int .u8 0, .int .u8 0, .int .u8 0, .int .u8 0, .int .u8 0, .int .u8 0, .int .u8 0, .int .u8 0, .int .u8 0, .int .u8 0, .int .u8 0, .int .u8 0, .int .u8 0, .int .u8 0, .int .u8 0, .int .u8 0, .int .u8 0, .int .u8 0, .int .u8 0, .int .u8 0, .int .u8 0, .int .u8 0, .int .u8 0, .int .u8 0, .int .u8 0, .int .u8 0, .int .u8 0, .int .u8 0, .int .u32 0] HLEN.out.symm)
      have HX := hide hx
      have HXL := hide hxl
      clear hr hbv hx hxl hB hown
      go_upto_region 5 with (first | (refine wpList_load_mid rfl 64 (.tmp 11) rfl b (off + k * 34) rfl (inC (x, kv)) _ HXR.out Tryd.underlying64 rfl HN.out ?_) | (refine wp_store_row rfl 64 (.tmp 5) (.tmp 12) rfl wr.heap.size 0 (inC (x, kv)) rfl rfl (HT.out wr) HN.out H1.out ?_))
      have hW : ((wr.alloc (.cells #[.int .u8 0, .int .u8 0, .int .u8 0, .int .u8 0, .int .u8 0, .int .u8 0, .int .u8 0, .int .u8 0, .int .u8 0, .int .u8 0, .int .u8 0, .int .u8 0, .int .u8 0, .int .u8 0, .int .u8 0, .int .u8 0, .int .u8 0, .int .u8 0, .int .u8 0, .int .u8 0, .int .u8 0, .int .u8 0, .int .u8 0, .int .u8 0, .int .u8 0, .int .u8 0, .int .u8 0, .int .u8 0, .int .u8 0, .int .u8 0, .int .u8 0, .int .u8 0, .int .u32 0, .slice none 0 0] 64)).setCells wr.heap.size 0 (inC (x, kv))).rangeAt wr.heap.size 0 (inC (x, kv)) := World.rangeAt_setCells_same _ _ _ _ (HT.out wr)
      have hB2 : Below wr.heap.size wr ((wr.alloc (.cells #[.int .u8 0, .int .u8 0, .int .u8 0, .int .u8 0, .int .u8 0, .int .u8 0, .int .u8 0, .int .u8 0, .int .u8 0, .int .u8 0, .int .u8 0, .int .u8 0, .int .u8 0, .int .u8 0, .int .u8 0, .int .u8 0, .int .u8 0, .int .u8 0, .int .u8 0, .int .u8 0, .int .u8 0, .int .u8 0, .int .u8 0, .int .u8 0, .int .u8 0, .int .u8 0, .int .u8 0, .int .u8 0, .int .u8 0, .int .u8 0, .int .u8 0, .int .u8 0, .int .u32 0, .slice none 0 0] 64)).setCells wr.heap.size 0 (inC (x, kv))) := below_sets (Nat.le_refl _) _ _ _ ((Below.refl _ _).alloc (Nat.le_refl _) _)
      generalize (wr.alloc (.cells #[.int .u8 0, .int .u8 0, .int .u8 0, .int .u8 0, .int .u8 0, .int .u8 0, .int .u8 0, .int .u8 0, .int .u8 0, .int .u8 0, .int .u8 0, .int .u8 0, .int .u8 0, .int .u8 0, .int .u8 0, .int .u8 0, .int .u8 0, .int .u8 0, .int .u8 0, .int .u8 0, .int .u8 0, .int .u8 0, .int .u8 0, .int .u8 0, .int .u8 0, .int .u8 0, .int .u8 0, .int .u8 0, .int .u8 0, .int .u8 0, .int .u8 0, .int .u8 0, .int .u32 0, .slice none 0 0] 64)).setCells wr.heap.size 0 (inC (x, kv)) = W2 at *
      have HP := hide (inC_range hW HXL.out).1
      have HB2 := hide (below_on HB.out hB2)
      have HOWN2 := hide (HOWN.out.move (w1 := W2) fun g _ hl => hB2.block g hl)
      clear hW hB2 HXR HN H1 HT HB HOWN
      generalize wr.heap.size = gb at *
      simp only at HP
      generalize hP : ptC x.tx x.n = P at *
      have HPP := hide hP
      clear hP
      have hlen := HLEN.out
      have hone := HONE.out
      simp only [Act.put]
      -- the new element
      have hbn := below_new W2 (.cells P.toArray 45)
      have HNEW := hide (range_new W2 P 45)
      have HOWN3 := hide (HOWN2.out.move (w1 := W2.alloc (.cells P.toArray 45)) fun g _ hl => hbn.block g hl)
      have HB4 := hide (HB2.out.alloc HB2.out.size (.cells P.toArray 45))
      have hw4 : W0.heap.size ≤ (W2.alloc (.cells P.toArray 45)).heap.size := HB4.out.size
      have hPone : ∀ u ∈ P, u.oneCell' = true := by rw [← HPP.out]; exact ptC_one _ _
      obtain ⟨v4, w4, hrun, hrow5, hgr, hwh⟩ := run_append_row (W2.alloc (.cells P.toArray 45)) 42 45 42 _ 33 36 Tryd.underlying42 infoPt rfl (by omega) (by omega) W0.heap.size u3 ((ins.take k).map fun x => ptC x.tx x.n) HOWN3.out W2.heap.size P HNEW.out ⟨hlen, hPone⟩ (by rw [List.length_map]; simp; omega) hw4
      obtain ⟨va, vc, rfl, -, -⟩ := hrow5.row.form
      have HROW := hide hrow5
      have hlt5 := HOWN3.out.lt
      have R1 : Hid (Below W0.heap.size W0 w4) := hide (HB4.out.grown hgr hw4 fun j hj => (hlt5 j hj).1)
      have R : Hid (Pointing W0 ins (.slice va ((List.map (fun x => ptC x.tx x.n) (List.take k ins)) ++ [P]).length vc) (.int .i64 ((k + 1 : Nat) : Int)) w4) := hide ⟨k + 1, by omega, rfl, R1.out, by
        obtain ⟨e1, e2⟩ := List.getElem?_eq_some_iff.1 HX.out
        have e : (ins.take (k + 1)).map (fun x => ptC x.tx x.n) = (ins.take k).map (fun x => ptC x.tx x.n) ++ [P] := by
          rw [List.take_succ_eq_append_getElem e1, e2, List.map_append, List.map_cons, List.map_nil, HPP.out]
        rw [e]
        exact HROW.out⟩
      clear hbn hPone hrow5 hgr hwh hw4 hlt5 R1 HROW
      obtain ⟨nn, hnn⟩ : ∃ nn, nn = ((List.map (fun x => ptC x.tx x.n) (List.take k ins)) ++ [P]).length := ⟨_, rfl⟩
      rw [← hnn] at hrun R
      have HNN := hide hnn
      clear hnn
      go_wp2_with (first
        | (refine wpList_load_mid rfl 45 (.tmp 14) rfl gb 0 rfl P _ HP.out Tryd.underlying45 rfl HLP.out ?_)
        | (at_builtin; refine wp_app rfl (.tmp 13) (.tmp 16) 42 rfl (v1 := u3) (v2 := .slice (some ⟨W2.heap.size, 0, none⟩) 1 1) (v := .slice va nn vc) (w' := w4) rfl rfl ?_ ?_; exact hrun))
      go_roundw
      case rel => first | exact R.out | ((repeat apply Exists.intro); exact ⟨R.out, rfl⟩)
      case measure => simp [intOf]; omega
    · have hk2 : (ins.length : Int) ≤ (k : Int) := by omega
      have htk : ins.take k = ins := List.take_of_length_le (by omega)
      have R : Hid (Below w.heap.size w wr ∧ RowOwn wr w.heap.size 45 33 u3 (ins.map fun x => ptC x.tx x.n)) := hide ⟨below_on HB0.out hB, by rw [htk] at hown; exact hown.low HB0.out.size⟩
      clear hB hown htk
      go_wp2
      go_ret
      exact ⟨_, rfl, R.out⟩

end Go.Proofs.YtjmifgdjmaelfaaDoor
