/-
  What coin.Set's has answers at this program, whatever the set and the point.
-/
import Derived.Test.YtkemdfikcmgaaaaCoSet
namespace Go.Proofs.Ytkemdfikcmgaaaa
open Go.RowKit

theorem out_there (w : World) : (w.alloc (.cells #[.int .u64 0, .int .u8 0, .int .u8 0, .int .u8 0, .int .u8 0, .int .u8 0, .int .u8 0, .int .u8 0, .int .u8 0, .int .u8 0, .int .u8 0, .int .u8 0, .int .u8 0, .int .u8 0, .int .u8 0, .int .u8 0, .int .u8 0, .int .u8 0, .int .u8 0, .int .u8 0, .int .u8 0, .int .u8 0, .int .u8 0, .int .u8 0, .int .u8 0, .int .u8 0, .int .u8 0, .int .u8 0, .int .u8 0, .int .u8 0, .int .u8 0, .int .u8 0, .int .u8 0] 50)).there w.heap.size 0 33 := o_there w
set_option maxRecDepth 100000 in
set_option maxHeartbeats 1000000 in
theorem has_any (w : World) (b : Nat) (m : Option Nat) (C : List Cn) (h : SetAt w b m C) (p : Pt) (hp : PtOk p) (o : TOut) (r : Bool) (hl : Looks C p o r) :
    Calls Try.prog 29 #[.pointer (some ⟨b, 0, none⟩), .agg (pC p).toArray] w fun e w' => e = .returned (.bool r) ∧ Below w.heap.size w w' := by
  have HLEN : Hid ((pC p).length = 33) := hide (pC_length hp)
  have HOL : Hid ((outC o).length = 33) := hide (outC_length (hl.lock h.ok.2))
  have hnew := below_new w (.cells (pC p).toArray 47)
  have HS := hide (h.on hnew)
  have HB := hide hnew
  have HP := hide (range_new w (pC p) 47)
  have HK : Hid (∀ wx, Below (w.alloc (.cells (pC p).toArray 47)).heap.size (w.alloc (.cells (pC p).toArray 47)) wx → (Instr.lookup 65 (.map m) (.agg (pC p).toArray) true).run Try.prog wx = .ok (.tuple #[.agg (outC o).toArray, .bool r]) wx) := hide (fun wx hx => (HS.out.on hx).look hp hl)
  have HLP : Hid ((Try.prog.info? 47).map (·.size) = some (pC p).length) := hide (by rw [HLEN.out]; exact info_pt)
  have HLO : Hid ((Try.prog.info? 50).map (·.size) = some (outC o).length) := hide (by rw [HOL.out]; exact info_out)
  have HTO : Hid (∀ w : World, (w.alloc (.cells #[.int .u64 0, .int .u8 0, .int .u8 0, .int .u8 0, .int .u8 0, .int .u8 0, .int .u8 0, .int .u8 0, .int .u8 0, .int .u8 0, .int .u8 0, .int .u8 0, .int .u8 0, .int .u8 0, .int .u8 0, .int .u8 0, .int .u8 0, .int .u8 0, .int .u8 0, .int .u8 0, .int .u8 0, .int .u8 0, .int .u8 0, .int .u8 0, .int .u8 0, .int .u8 0, .int .u8 0, .int .u8 0, .int .u8 0, .int .u8 0, .int .u8 0, .int .u8 0, .int .u8 0] 50)).there w.heap.size 0 (outC o).length) := hide (fun w => by rw [HOL.out]; exact o_there w)
  have HO1 : Hid (∀ u ∈ outC o, u.oneCell' = true) := hide (outC_one o)
  clear h hnew hl
  go_enter Try.func29, Try.ntmps29
  go_upto_region 1 with fail
  generalize w.alloc (.cells (pC p).toArray 47) = W at *
  generalize hg : w.heap.size = g at *
  have HG := hide hg
  clear hg
  generalize pC p = P at *
  generalize outC o = X at *
  try simp only [Act.put]
  refine wp_region_held_drew (S := fun wx => Below W.heap.size W wx) (by kernel_rfl) (Below.refl _ _).drew (fun hHeld => ?_)
  refine wpAnyH_take (i := 0) (oi := { dst := some 8, op := Op.move (Operand.tmp 0), type := 25, pos := "coin.go:111", after := #[], guard := none }) (v := .pointer (some ⟨b, 0, none⟩)) rfl (by kernel_rfl) (by kernel_rfl) (by kernel_rfl) (fun _ _ _ h => h) (Or.inl ⟨by rfl, fun w _ => by go_simp⟩) (by assumption) ?_
  simp only [Act.put, List.setIfInBounds_toArray, List.set_cons_zero, List.set_cons_succ]
  refine wpAnyH_take (i := 1) (oi := { dst := some 9, op := Op.nilCheck (Operand.tmp 8), type := 0, pos := "coin.go:111", after := #[{ on := 0, ground := Ground.data }], guard := none }) (v := .pointer (some ⟨b, 0, none⟩)) rfl (by kernel_rfl) (by kernel_rfl) (by kernel_rfl) (fun _ _ _ h => h) (Or.inl ⟨by rfl, fun w _ => by go_simp⟩) (by assumption) ?_
  simp only [Act.put, List.setIfInBounds_toArray, List.set_cons_zero, List.set_cons_succ]
  refine wpAnyH_take (i := 2) (oi := { dst := some 10, op := Op.fieldAddr 67 (Operand.tmp 9) 0, type := 0, pos := "coin.go:111", after := #[{ on := 1, ground := Ground.data }], guard := none }) (v := .pointer (some ⟨b, 0, none⟩)) rfl (by kernel_rfl) (by kernel_rfl) (by kernel_rfl) (fun _ _ _ h => h) (Or.inl ⟨by rfl, fun w _ => by go_simp⟩) (by assumption) ?_
  simp only [Act.put, List.setIfInBounds_toArray, List.set_cons_zero, List.set_cons_succ]
  refine wpAnyH_take (i := 3) (oi := { dst := some 11, op := Op.load 65 (Operand.tmp 10), type := 65, pos := "coin.go:111", after := #[{ on := 2, ground := Ground.data }], guard := none }) (v := .map m) rfl (by kernel_rfl) (by kernel_rfl) (by kernel_rfl) (fun _ _ _ h => h) (Or.inl ⟨by rfl, fun wx h => by have c0 := (h.cell HS.out.lt).trans HS.out.1; go_simp⟩) (by assumption) ?_
  simp only [Act.put, List.setIfInBounds_toArray, List.set_cons_zero, List.set_cons_succ]
  refine wpAnyH_take (i := 4) (oi := { dst := some 12, op := Op.load 47 (Operand.tmp 3), type := 47, pos := "coin.go:111", after := #[], guard := none }) (v := .agg (P).toArray) rfl (by kernel_rfl) (by kernel_rfl) (by kernel_rfl) (fun _ _ _ h => h) (yieldsIf_load_mid (by rfl) 47 (.tmp 3) rfl g 0 rfl (P) _ (fun w h => range_on HP.out h) Try.underlying47 rfl HLP.out) (by assumption) ?_
  simp only [Act.put, List.setIfInBounds_toArray, List.set_cons_zero, List.set_cons_succ]
  refine wpAnyH_take (i := 5) (oi := { dst := some 13, op := Op.lookup 65 (Operand.tmp 11) (Operand.tmp 12) true, type := 51, pos := "coin.go:111", after := #[{ on := 3, ground := Ground.data }, { on := 4, ground := Ground.data }], guard := none }) (v := .tuple #[.agg X.toArray, .bool r]) rfl (by kernel_rfl) (by kernel_rfl) (by kernel_rfl) (fun _ _ _ h => h) (yields_look (by rfl) _ _ _ rfl (.map m) (.agg P.toArray) _ rfl rfl HK.out) (by assumption) ?_
  simp only [Act.put, List.setIfInBounds_toArray, List.set_cons_zero, List.set_cons_succ]
  refine wpAnyH_take (i := 6) (oi := { dst := some 7, op := Op.move (Operand.tmp 13), type := 51, pos := "coin.go:111", after := #[{ on := 5, ground := Ground.data }], guard := none }) (v := .tuple #[.agg X.toArray, .bool r]) rfl (by kernel_rfl) (by kernel_rfl) (by kernel_rfl) (fun _ _ _ h => h) (Or.inl ⟨by rfl, fun w _ => by go_simp⟩) (by assumption) ?_
  simp only [Act.put, List.setIfInBounds_toArray, List.set_cons_zero, List.set_cons_succ]
  refine wpAnyH_take (i := 7) (oi := { dst := some 14, op := Op.extract (Operand.tmp 7) 0, type := 50, pos := "coin.go:111", after := #[{ on := 6, ground := Ground.data }], guard := none }) (v := .agg X.toArray) rfl (by kernel_rfl) (by kernel_rfl) (by kernel_rfl) (fun _ _ _ h => h) (Or.inl ⟨by rfl, fun w _ => by go_simp⟩) (by assumption) ?_
  simp only [Act.put, List.setIfInBounds_toArray, List.set_cons_zero, List.set_cons_succ]
  refine wpAnyH_take (i := 8) (oi := { dst := some 15, op := Op.extract (Operand.tmp 7) 1, type := 4, pos := "coin.go:111", after := #[{ on := 6, ground := Ground.data }, { on := 10, ground := Ground.gcOnly Departure.lateStores }], guard := none }) (v := .bool r) rfl (by kernel_rfl) (by kernel_rfl) (by kernel_rfl) (fun _ _ _ h => h) (Or.inl ⟨by rfl, fun w _ => by go_simp⟩) (by assumption) ?_
  simp only [Act.put, List.setIfInBounds_toArray, List.set_cons_zero, List.set_cons_succ]
  refine wpAnyH_ready (rs := [9]) (by kernel_rfl) (by simp) (AllReadyH.cons (o := { dst := some 5, op := Op.alloc 50, type := 0, pos := "coin.go:111", after := #[], guard := none }) rfl (fun K hK => ?_) AllReadyH.nil)
  go_simp
  refine hK.out _ _ ?_ (fun hHeld => ?_)
  · first | exact hHeld.alloc hHeld.size _ | exact below_sets (Nat.le_refl _) _ _ _ hHeld
  clear hK K
  try simp only [Act.put, List.setIfInBounds_toArray, List.set_cons_zero, List.set_cons_succ]
  refine wpAnyH_ready (rs := [10]) (by kernel_rfl) (by simp) (AllReadyH.cons (o := { dst := none, op := Op.store 50 (Operand.tmp 5) (Operand.tmp 14), type := 0, pos := "coin.go:111", after := #[{ on := 9, ground := Ground.data }, { on := 7, ground := Ground.data }, { on := 0, ground := Ground.phase }, { on := 1, ground := Ground.phase }, { on := 2, ground := Ground.phase }, { on := 3, ground := Ground.phase }, { on := 4, ground := Ground.phase }, { on := 5, ground := Ground.phase }, { on := 6, ground := Ground.phase }, { on := 7, ground := Ground.phase }, { on := 8, ground := Ground.textOnly Departure.lateStores }, { on := 9, ground := Ground.phase }], guard := none }) rfl (fun K hK => ?_) AllReadyH.nil)
  refine step_store_row rfl 50 (.tmp 5) (.tmp 14) rfl W.drew.heap.size 0 X rfl rfl (HTO.out W.drew) HLO.out HO1.out ?_
  refine hK.out _ _ ?_ (fun hHeld => ?_)
  · first | exact hHeld.alloc hHeld.size _ | exact below_sets (Nat.le_refl _) _ _ _ hHeld
  clear hK K
  try simp only [Act.put]
  refine wpAnyH_take (i := 11) (oi := { dst := some 6, op := Op.assign (Operand.tmp 15), type := 4, pos := "coin.go:111", after := #[{ on := 8, ground := Ground.data }, { on := 10, ground := Ground.chain }, { on := 0, ground := Ground.phase }, { on := 1, ground := Ground.phase }, { on := 2, ground := Ground.phase }, { on := 3, ground := Ground.phase }, { on := 4, ground := Ground.phase }, { on := 5, ground := Ground.phase }, { on := 6, ground := Ground.phase }, { on := 7, ground := Ground.phase }, { on := 8, ground := Ground.phase }, { on := 9, ground := Ground.phase }, { on := 10, ground := Ground.phase }], guard := none }) (v := .bool r) rfl (by kernel_rfl) (by kernel_rfl) (by kernel_rfl) (fun _ _ _ h => h) (Or.inl ⟨by rfl, fun w _ => by go_simp⟩) (by assumption) ?_
  simp only [Act.put, List.setIfInBounds_toArray, List.set_cons_zero, List.set_cons_succ]
  refine wpAnyH_done (by kernel_rfl) ?_ _
  clear HK HP HLP
  go_wp2
  go_ret
  exact ⟨rfl, below_on (by have h := HB.out; rw [← HG.out] at h; exact h) hHeld⟩

end Go.Proofs.Ytkemdfikcmgaaaa
