/-
  What coin.Set's Find and Len answer at this program, whatever the set and the point.
-/
import Derived.Test.YtkemdfikcmgaaaaCoSet
namespace Go.Proofs.Ytkemdfikcmgaaaa
open Go.RowKit

set_option maxRecDepth 100000 in
set_option maxHeartbeats 1000000 in
theorem find_any (w : World) (b : Nat) (m : Option Nat) (C : List Cn) (h : SetAt w b m C) (p : Pt) (hp : PtOk p) (o : TOut) (r : Bool) (hl : Looks C p o r) :
    Calls Try.prog 17 #[.pointer (some ⟨b, 0, none⟩), .agg (pC p).toArray] w fun e w' => e = .returned (.tuple #[.agg (outC o).toArray, .bool r]) ∧ Below w.heap.size w w' := by
  have HLEN : Hid ((pC p).length = 33) := hide (pC_length hp)
  have HOL : Hid ((outC o).length = 33) := hide (outC_length (hl.lock h.ok.2))
  have hnew := below_new w (.cells (pC p).toArray 47)
  have hnew2 := below_on hnew (below_new (w.alloc (.cells (pC p).toArray 47)) (.cells #[.int .u64 0, .int .u8 0, .int .u8 0, .int .u8 0, .int .u8 0, .int .u8 0, .int .u8 0, .int .u8 0, .int .u8 0, .int .u8 0, .int .u8 0, .int .u8 0, .int .u8 0, .int .u8 0, .int .u8 0, .int .u8 0, .int .u8 0, .int .u8 0, .int .u8 0, .int .u8 0, .int .u8 0, .int .u8 0, .int .u8 0, .int .u8 0, .int .u8 0, .int .u8 0, .int .u8 0, .int .u8 0, .int .u8 0, .int .u8 0, .int .u8 0, .int .u8 0, .int .u8 0] 50))
  have HS := hide (h.on hnew2)
  have HB := hide hnew2
  have HP := hide (range_on (range_new w (pC p) 47) (below_new (w.alloc (.cells (pC p).toArray 47)) (.cells #[.int .u64 0, .int .u8 0, .int .u8 0, .int .u8 0, .int .u8 0, .int .u8 0, .int .u8 0, .int .u8 0, .int .u8 0, .int .u8 0, .int .u8 0, .int .u8 0, .int .u8 0, .int .u8 0, .int .u8 0, .int .u8 0, .int .u8 0, .int .u8 0, .int .u8 0, .int .u8 0, .int .u8 0, .int .u8 0, .int .u8 0, .int .u8 0, .int .u8 0, .int .u8 0, .int .u8 0, .int .u8 0, .int .u8 0, .int .u8 0, .int .u8 0, .int .u8 0, .int .u8 0] 50)))
  have HLP : Hid ((Try.prog.info? 47).map (·.size) = some (pC p).length) := hide (by rw [HLEN.out]; exact info_pt)
  have HLO : Hid ((Try.prog.info? 50).map (·.size) = some (outC o).length) := hide (by rw [HOL.out]; exact info_out)
  have HTO : Hid (∀ w : World, (w.alloc (.cells #[.int .u64 0, .int .u8 0, .int .u8 0, .int .u8 0, .int .u8 0, .int .u8 0, .int .u8 0, .int .u8 0, .int .u8 0, .int .u8 0, .int .u8 0, .int .u8 0, .int .u8 0, .int .u8 0, .int .u8 0, .int .u8 0, .int .u8 0, .int .u8 0, .int .u8 0, .int .u8 0, .int .u8 0, .int .u8 0, .int .u8 0, .int .u8 0, .int .u8 0, .int .u8 0, .int .u8 0, .int .u8 0, .int .u8 0, .int .u8 0, .int .u8 0, .int .u8 0, .int .u8 0] 50)).there w.heap.size 0 (outC o).length) := hide (fun w => by rw [HOL.out]; exact o_there w)
  have HT1 := hide (HTO.out (w.alloc (.cells (pC p).toArray 47)))
  have HSZ : Hid (((w.alloc (.cells (pC p).toArray 47)).alloc (.cells #[.int .u64 0, .int .u8 0, .int .u8 0, .int .u8 0, .int .u8 0, .int .u8 0, .int .u8 0, .int .u8 0, .int .u8 0, .int .u8 0, .int .u8 0, .int .u8 0, .int .u8 0, .int .u8 0, .int .u8 0, .int .u8 0, .int .u8 0, .int .u8 0, .int .u8 0, .int .u8 0, .int .u8 0, .int .u8 0, .int .u8 0, .int .u8 0, .int .u8 0, .int .u8 0, .int .u8 0, .int .u8 0, .int .u8 0, .int .u8 0, .int .u8 0, .int .u8 0, .int .u8 0] 50)).heap.size = w.heap.size + 2) := hide (by rw [alloc_size, alloc_size])
  rw [alloc_size] at HT1
  have HO1 : Hid (∀ u ∈ outC o, u.oneCell' = true) := hide (outC_one o)
  clear h hnew hnew2
  have HL := hide hl
  clear hl
  go_enter Try.func17, Try.ntmps17
  go_upto_region 1 with fail
  generalize (w.alloc (.cells (pC p).toArray 47)).alloc (.cells #[.int .u64 0, .int .u8 0, .int .u8 0, .int .u8 0, .int .u8 0, .int .u8 0, .int .u8 0, .int .u8 0, .int .u8 0, .int .u8 0, .int .u8 0, .int .u8 0, .int .u8 0, .int .u8 0, .int .u8 0, .int .u8 0, .int .u8 0, .int .u8 0, .int .u8 0, .int .u8 0, .int .u8 0, .int .u8 0, .int .u8 0, .int .u8 0, .int .u8 0, .int .u8 0, .int .u8 0, .int .u8 0, .int .u8 0, .int .u8 0, .int .u8 0, .int .u8 0, .int .u8 0] 50) = W at *
  generalize hg : w.heap.size = g at *
  have HG := hide hg
  clear hg
  go_upto_region 3 with fail
  have HK : Hid (∀ wx, Below W.heap.size W wx → (Instr.lookup 65 (.map m) (.agg (pC p).toArray) true).run Try.prog wx = .ok (.tuple #[.agg (outC o).toArray, .bool r]) wx) := hide (fun wx hx => (HS.out.on hx).look hp HL.out)
  generalize pC p = P at *
  generalize hX : outC o = X at *
  have HXE := hide hX
  clear hX
  refine wp_region_held_drew (S := fun wx => Below W.heap.size W wx) (by kernel_rfl) (Below.refl _ _).drew (fun hHeld => ?_)
  refine wpAnyH_take (i := 0) (oi := { dst := some 12, op := Op.move (Operand.tmp 0), type := 25, pos := "coin.go:76", after := #[], guard := none }) (v := .pointer (some ⟨b, 0, none⟩)) rfl (by kernel_rfl) (by kernel_rfl) (by kernel_rfl) (fun _ _ _ h => h) (Or.inl ⟨by rfl, fun w _ => by go_simp⟩) (by assumption) ?_
  simp only [Act.put, List.setIfInBounds_toArray, List.set_cons_zero, List.set_cons_succ]
  refine wpAnyH_take (i := 1) (oi := { dst := some 13, op := Op.nilCheck (Operand.tmp 12), type := 0, pos := "coin.go:76", after := #[{ on := 0, ground := Ground.data }], guard := none }) (v := .pointer (some ⟨b, 0, none⟩)) rfl (by kernel_rfl) (by kernel_rfl) (by kernel_rfl) (fun _ _ _ h => h) (Or.inl ⟨by rfl, fun w _ => by go_simp⟩) (by assumption) ?_
  simp only [Act.put, List.setIfInBounds_toArray, List.set_cons_zero, List.set_cons_succ]
  refine wpAnyH_take (i := 2) (oi := { dst := some 14, op := Op.fieldAddr 67 (Operand.tmp 13) 0, type := 0, pos := "coin.go:76", after := #[{ on := 1, ground := Ground.data }], guard := none }) (v := .pointer (some ⟨b, 0, none⟩)) rfl (by kernel_rfl) (by kernel_rfl) (by kernel_rfl) (fun _ _ _ h => h) (Or.inl ⟨by rfl, fun w _ => by go_simp⟩) (by assumption) ?_
  simp only [Act.put, List.setIfInBounds_toArray, List.set_cons_zero, List.set_cons_succ]
  refine wpAnyH_take (i := 3) (oi := { dst := some 15, op := Op.load 65 (Operand.tmp 14), type := 65, pos := "coin.go:76", after := #[{ on := 2, ground := Ground.data }], guard := none }) (v := .map m) rfl (by kernel_rfl) (by kernel_rfl) (by kernel_rfl) (fun _ _ _ h => h) (Or.inl ⟨by rfl, fun wx h => by have c0 := (h.cell HS.out.lt).trans HS.out.1; go_simp⟩) (by assumption) ?_
  simp only [Act.put, List.setIfInBounds_toArray, List.set_cons_zero, List.set_cons_succ]
  refine wpAnyH_take (i := 4) (oi := { dst := some 16, op := Op.load 47 (Operand.tmp 3), type := 47, pos := "coin.go:76", after := #[], guard := none }) (v := .agg (P).toArray) rfl (by kernel_rfl) (by kernel_rfl) (by kernel_rfl) (fun _ _ _ h => h) (yieldsIf_load_mid (by rfl) 47 (.tmp 3) rfl g 0 rfl (P) _ (fun w h => range_on HP.out h) Try.underlying47 rfl HLP.out) (by assumption) ?_
  simp only [Act.put, List.setIfInBounds_toArray, List.set_cons_zero, List.set_cons_succ]
  refine wpAnyH_take (i := 5) (oi := { dst := some 17, op := Op.lookup 65 (Operand.tmp 15) (Operand.tmp 16) true, type := 51, pos := "coin.go:76", after := #[{ on := 3, ground := Ground.data }, { on := 4, ground := Ground.data }], guard := none }) (v := .tuple #[.agg X.toArray, .bool r]) rfl (by kernel_rfl) (by kernel_rfl) (by kernel_rfl) (fun _ _ _ h => h) (yields_look (by rfl) _ _ _ rfl (.map m) (.agg P.toArray) _ rfl rfl HK.out) (by assumption) ?_
  simp only [Act.put, List.setIfInBounds_toArray, List.set_cons_zero, List.set_cons_succ]
  refine wpAnyH_take (i := 6) (oi := { dst := some 11, op := Op.move (Operand.tmp 17), type := 51, pos := "coin.go:76", after := #[{ on := 5, ground := Ground.data }], guard := none }) (v := .tuple #[.agg X.toArray, .bool r]) rfl (by kernel_rfl) (by kernel_rfl) (by kernel_rfl) (fun _ _ _ h => h) (Or.inl ⟨by rfl, fun w _ => by go_simp⟩) (by assumption) ?_
  simp only [Act.put, List.setIfInBounds_toArray, List.set_cons_zero, List.set_cons_succ]
  refine wpAnyH_take (i := 7) (oi := { dst := some 18, op := Op.extract (Operand.tmp 11) 0, type := 50, pos := "coin.go:76", after := #[{ on := 6, ground := Ground.data }], guard := none }) (v := .agg X.toArray) rfl (by kernel_rfl) (by kernel_rfl) (by kernel_rfl) (fun _ _ _ h => h) (Or.inl ⟨by rfl, fun w _ => by go_simp⟩) (by assumption) ?_
  simp only [Act.put, List.setIfInBounds_toArray, List.set_cons_zero, List.set_cons_succ]
  refine wpAnyH_take (i := 8) (oi := { dst := some 19, op := Op.extract (Operand.tmp 11) 1, type := 4, pos := "coin.go:76", after := #[{ on := 6, ground := Ground.data }, { on := 10, ground := Ground.gcOnly Departure.lateStores }], guard := none }) (v := .bool r) rfl (by kernel_rfl) (by kernel_rfl) (by kernel_rfl) (fun _ _ _ h => h) (Or.inl ⟨by rfl, fun w _ => by go_simp⟩) (by assumption) ?_
  simp only [Act.put, List.setIfInBounds_toArray, List.set_cons_zero, List.set_cons_succ]
  refine wpAnyH_ready (rs := [9]) (by kernel_rfl) (by simp) (AllReadyH.cons (o := { dst := some 6, op := Op.alloc 50, type := 0, pos := "coin.go:76", after := #[], guard := none }) rfl (fun K hK => ?_) AllReadyH.nil)
  go_simp
  refine hK.out _ _ ?_ (fun hHeld => ?_)
  · first | exact hHeld.alloc hHeld.size _ | exact below_sets (Nat.le_refl _) _ _ _ hHeld
  clear hK K
  try simp only [Act.put, List.setIfInBounds_toArray, List.set_cons_zero, List.set_cons_succ]
  refine wpAnyH_ready (rs := [10]) (by kernel_rfl) (by simp) (AllReadyH.cons (o := { dst := none, op := Op.store 50 (Operand.tmp 6) (Operand.tmp 18), type := 0, pos := "coin.go:76", after := #[{ on := 9, ground := Ground.data }, { on := 7, ground := Ground.data }, { on := 0, ground := Ground.phase }, { on := 1, ground := Ground.phase }, { on := 2, ground := Ground.phase }, { on := 3, ground := Ground.phase }, { on := 4, ground := Ground.phase }, { on := 5, ground := Ground.phase }, { on := 6, ground := Ground.phase }, { on := 7, ground := Ground.phase }, { on := 8, ground := Ground.textOnly Departure.lateStores }, { on := 9, ground := Ground.phase }], guard := none }) rfl (fun K hK => ?_) AllReadyH.nil)
  have hR0 : Hid (((W.alloc (.cells #[.int .u64 0, .int .u8 0, .int .u8 0, .int .u8 0, .int .u8 0, .int .u8 0, .int .u8 0, .int .u8 0, .int .u8 0, .int .u8 0, .int .u8 0, .int .u8 0, .int .u8 0, .int .u8 0, .int .u8 0, .int .u8 0, .int .u8 0, .int .u8 0, .int .u8 0, .int .u8 0, .int .u8 0, .int .u8 0, .int .u8 0, .int .u8 0, .int .u8 0, .int .u8 0, .int .u8 0, .int .u8 0, .int .u8 0, .int .u8 0, .int .u8 0, .int .u8 0, .int .u8 0] 50)).drew.setCells W.drew.heap.size 0 X).rangeAt W.drew.heap.size 0 X) := hide (World.rangeAt_setCells_same _ _ _ _ (HTO.out W.drew))
  refine step_store_row rfl 50 (.tmp 6) (.tmp 18) rfl W.drew.heap.size 0 X rfl rfl (HTO.out W.drew) HLO.out HO1.out ?_
  refine hK.out _ _ ?_ (fun hHeld => ?_)
  · first | exact hHeld.alloc hHeld.size _ | exact below_sets (Nat.le_refl _) _ _ _ hHeld
  clear hK K
  try simp only [Act.put]
  refine wpAnyH_take (i := 11) (oi := { dst := some 7, op := Op.assign (Operand.tmp 19), type := 4, pos := "coin.go:76", after := #[{ on := 8, ground := Ground.data }, { on := 10, ground := Ground.chain }, { on := 0, ground := Ground.phase }, { on := 1, ground := Ground.phase }, { on := 2, ground := Ground.phase }, { on := 3, ground := Ground.phase }, { on := 4, ground := Ground.phase }, { on := 5, ground := Ground.phase }, { on := 6, ground := Ground.phase }, { on := 7, ground := Ground.phase }, { on := 8, ground := Ground.phase }, { on := 9, ground := Ground.phase }, { on := 10, ground := Ground.phase }], guard := none }) (v := .bool r) rfl (by kernel_rfl) (by kernel_rfl) (by kernel_rfl) (fun _ _ _ h => h) (Or.inl ⟨by rfl, fun w _ => by go_simp⟩) (by assumption) ?_
  simp only [Act.put, List.setIfInBounds_toArray, List.set_cons_zero, List.set_cons_succ]
  refine wpAnyH_done (by kernel_rfl) ?_ _
  clear HK HP HLP
  have HB2 := hide hHeld
  have HT2 := hide (there_on HT1.out hHeld)
  clear hHeld HT1
  generalize ((W.alloc (.cells #[.int .u64 0, .int .u8 0, .int .u8 0, .int .u8 0, .int .u8 0, .int .u8 0, .int .u8 0, .int .u8 0, .int .u8 0, .int .u8 0, .int .u8 0, .int .u8 0, .int .u8 0, .int .u8 0, .int .u8 0, .int .u8 0, .int .u8 0, .int .u8 0, .int .u8 0, .int .u8 0, .int .u8 0, .int .u8 0, .int .u8 0, .int .u8 0, .int .u8 0, .int .u8 0, .int .u8 0, .int .u8 0, .int .u8 0, .int .u8 0, .int .u8 0, .int .u8 0, .int .u8 0] 50)).drew.setCells W.drew.heap.size 0 X) = W3 at *
  have HSW : Hid (g + 1 ≤ W.heap.size) := hide (by have := HSZ.out; omega)
  have hR1 : Hid (W3.rangeAt W.heap.size 0 X) := hR0
  clear hR0
  go_wp2_with (first | (refine wpList_load_mid rfl 50 (.tmp 6) rfl W.heap.size 0 rfl X _ hR1.out Try.underlying50 rfl HLO.out ?_) | (refine wp_store_row rfl 50 (.tmp 4) (.tmp 20) rfl (g + 1) 0 X rfl rfl HT2.out HLO.out HO1.out ?_))
  refine ret_row_tmp 4 5 50 rfl (g + 1) 0 rfl X (World.rangeAt_setCells_same _ _ _ _ HT2.out) _ Try.underlying50 rfl HLO.out (.bool r) rfl rfl ?_
  refine ⟨by rw [HXE.out], ?_⟩
  rw [HG.out]
  exact below_sets (by omega) _ _ _ (HB.out.trans (HB2.out.mono (by have := HSZ.out; omega)))

set_option maxRecDepth 100000 in
set_option maxHeartbeats 1000000 in
theorem len_any (w : World) (b : Nat) (m : Option Nat) (C : List Cn) (h : SetAt w b m C) :
    Calls Try.prog 21 #[.pointer (some ⟨b, 0, none⟩)] w fun e w' => e = .returned (.int .i64 C.length) ∧ w' = w := by
  have hl : (Builtin.len_ #[65] 3 #[.map m]).run Try.prog w = .ok (.int .i64 C.length) w := by
    cases m with
    | none =>
      rw [h.2.2.1 rfl]
      exact Maps.len_nil Try.underlying65 _
    | some k => exact (h.2.2.2 k rfl).2.size _
  have c0 := h.1
  clear h
  go_enter Try.func21, Try.ntmps21
  go_wp2_with (refine wp_len rfl (.tmp 8) 65 rfl rfl hl ?_)
  go_ret
  exact ⟨rfl, rfl⟩

end Go.Proofs.Ytkemdfikcmgaaaa
