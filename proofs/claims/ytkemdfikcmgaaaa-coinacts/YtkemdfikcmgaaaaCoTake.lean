/-
  What coin.Set's Take does at this program, whatever the set and the points.
-/
import Derived.Test.YtkemdfikcmgaaaaCoNew
namespace Go.Proofs.Ytkemdfikcmgaaaa
open Go.RowKit

theorem infoOu : (Try.prog.info? 50).map (fun i => (i.zero, i.size, i.bytes)) = some (some (.agg #[.int .u64 0, .int .u8 0, .int .u8 0, .int .u8 0, .int .u8 0, .int .u8 0, .int .u8 0, .int .u8 0, .int .u8 0, .int .u8 0, .int .u8 0, .int .u8 0, .int .u8 0, .int .u8 0, .int .u8 0, .int .u8 0, .int .u8 0, .int .u8 0, .int .u8 0, .int .u8 0, .int .u8 0, .int .u8 0, .int .u8 0, .int .u8 0, .int .u8 0, .int .u8 0, .int .u8 0, .int .u8 0, .int .u8 0, .int .u8 0, .int .u8 0, .int .u8 0, .int .u8 0]), 33, 40) := by kernel_rfl
theorem ptsAt_none (w : World) : RowAt w 33 (.slice none 0 0) [] := RowAt.nil _ _
/-- What a caller is handed. -/
def outsC (D : List Cn) : List (List Value) := D.map fun c => outC c.out
/-- So far all were there. -/
def Tak (w : World) (C : List Cn) (L : List Pt) (v i : Value) (wr : World) : Prop :=
  ∃ j : Nat, j ≤ L.length ∧ i = .int .i64 j ∧ Below w.heap.size w wr ∧ ∃ D : List Cn, D.map Cn.pt = L.take j ∧ (∀ c ∈ D, c ∈ C) ∧ RowOwn wr w.heap.size 50 33 v (outsC D)
/-- So far these are deleted. -/
def Dropping (w : World) (b : Nat) (m : Option Nat) (C : List Cn) (L : List Pt) (v i : Value) (wr : World) : Prop :=
  ∃ j : Nat, j ≤ L.length ∧ i = .int .i64 j ∧ SetAt wr b m (dropPts C (L.take j)) ∧ Besides b (m.getD b) w wr ∧ ∃ D : List Cn, D.map Cn.pt = L ∧ (∀ c ∈ D, c ∈ C) ∧ RowOwn wr w.heap.size 50 33 v (outsC D)
theorem drop_none (C : List Cn) : dropPts C [] = C := by simp [dropPts]
theorem drop_more {C : List Cn} {L : List Pt} {j : Nat} {x : Pt} (hx : L[j]? = some x) : dropPts (dropPts C (L.take j)) [x] = dropPts C (L.take (j + 1)) := by
  obtain ⟨e1, e2⟩ := List.getElem?_eq_some_iff.1 hx
  rw [List.take_succ_eq_append_getElem e1, e2]
  unfold dropPts
  rw [List.filter_filter]
  refine List.filter_congr fun c _ => ?_
  simp [Bool.and_comm]
theorem pts_length {D : List Cn} {L : List Pt} {j : Nat} (h : D.map Cn.pt = L.take j) (hj : j ≤ L.length) : D.length = j := by
  have := congrArg List.length h
  rw [List.length_map, List.length_take] at this
  omega
set_option maxRecDepth 100000 in
set_option maxHeartbeats 1000000 in
theorem take_twice (w : World) (b : Nat) (L : List Pt) (v : Value) (hv : PsAt w v L) (hok : ∀ p ∈ L, PtOk p) (hn : L.length ≤ 1000) (hN : ¬ L.Nodup) :
    Calls Try.prog 14 #[.pointer (some ⟨b, 0, none⟩), v] w fun e w' => e = .returned (.tuple #[.slice none 0 0, .int .i64 12]) ∧ Below w.heap.size w w' := by
  have CR := hide (corep_any L v w hv hok (by omega) true ⟨fun e => (by cases e), fun e => absurd e hN⟩)
  obtain ⟨a, cap, rfl, hc1, hc2⟩ := hv.form
  clear hv hok hn hN
  go_enter Try.func14, Try.ntmps14
  go_wp2_with (go_at_call 27; refine CR.out.mono ?_; rintro e w1 ⟨rfl, hb1⟩; have HB1 := hide hb1; clear hb1)
  go_ret2
  exact ⟨rfl, HB1.out⟩

/-- What Take leaves, and answers. -/
def TakeEnd (w : World) (b : Nat) (m : Option Nat) (C : List Cn) (L : List Pt) (e : Ending) (w' : World) : Prop :=
  ((∃ p ∈ L, p ∉ C.map Cn.pt) ∧ e = .returned (.tuple #[.slice none 0 0, .int .i64 9]) ∧ Below w.heap.size w w') ∨
  ∃ v', e = .returned (.tuple #[v', .int .i64 0]) ∧ SetAt w' b m (dropPts C L) ∧ Besides b (m.getD b) w w' ∧ ∃ D : List Cn, D.map Cn.pt = L ∧ (∀ c ∈ D, c ∈ C) ∧ RowOwn w' w.heap.size 50 33 v' (outsC D)
set_option maxRecDepth 100000 in
set_option maxHeartbeats 1000000 in
theorem take_any (w : World) (b : Nat) (m : Option Nat) (C : List Cn) (h : SetAt w b m C) (L : List Pt) (v : Value) (hv : Keeps (off b (m.getD b)) w fun w => PsAt w v L) (hok : ∀ p ∈ L, PtOk p) (hn : L.length ≤ 1000) (hN : L.Nodup) :
    Calls Try.prog 14 #[.pointer (some ⟨b, 0, none⟩), v] w (TakeEnd w b m C L) := by
  have CR := hide (corep_any L v w hv.self hok (by omega) false ⟨fun _ => hN, fun _ => rfl⟩)
  have HSET := hide h
  have HV := hide hv
  have HL := hide hok
  have HLN : Hid (L.length ≤ 1000) := hide hn
  obtain ⟨a, cap, rfl, hc1, hc2⟩ := hv.self.form
  clear hv hok hN h
  go_enter Try.func14, Try.ntmps14
  go_upto_region 3 with fail
  go_wp2_with fail
  refine CR.out.mono ?_
  rintro e w1 ⟨rfl, hb1⟩
  have HB1 := hide hb1
  clear hb1 CR
  have HS : Hid (Tak w C L (.slice none 0 0) (.int .i64 0) w1) := hide ⟨0, Nat.zero_le _, rfl, HB1.out, [], by simp, (fun _ h => by cases h), RowOwn.nil _ _ _ _⟩
  clear HB1
  go_wp2_with fail
  go_loopw [6, 19] (fun v i wr => Tak w C L v i wr) (fun _ i _ => L.length - (intOf i).toNat)
  case atStart => exact HS.out
  case round =>
    clear HS
    obtain ⟨j, hj, rfl, hB, D, hD, hDC, hrow⟩ := hrel
    have HB := hide hB
    have HD := hide hD
    have HDC := hide hDC
    have HROW := hide hrow
    by_cases hlt : j < L.length
    · obtain ⟨x, hx⟩ : ∃ x, L[j]? = some x := ⟨_, List.getElem?_eq_getElem hlt⟩
      have hvj := HV.out wr (fun g hg _ => hB.block g hg)
      obtain ⟨b2, off2, rfl, hr⟩ := hvj.get hx
      have hxo := HL.out x (List.mem_of_getElem? hx)
      have HXO := hide hxo
      have HXR := hide hr
      have HN : Hid ((Try.prog.info? 47).map (·.size) = some (pC x).length) := hide (by rw [pC_length hxo]; exact info_pt)
      have H1 : Hid (∀ u ∈ pC x, u.oneCell' = true) := hide (pC_one x)
      have HT : Hid (∀ w : World, (w.alloc (.cells #[.int .u8 0, .int .u8 0, .int .u8 0, .int .u8 0, .int .u8 0, .int .u8 0, .int .u8 0, .int .u8 0, .int .u8 0, .int .u8 0, .int .u8 0, .int .u8 0, .int .u8 0, .int .u8 0, .int .u8 0, .int .u8 0, .int .u8 0, .int .u8 0, .int .u8 0, .int .u8 0, .int .u8 0, .int .u8 0, .int .u8 0, .int .u8 0, .int .u8 0, .int .u8 0, .int .u8 0, .int .u8 0, .int .u8 0, .int .u8 0, .int .u8 0, .int .u8 0, .int .u32 0] 47)).there w.heap.size 0 (pC x).length) := hide (fun w => by rw [pC_length hxo]; exact p_there w)
      have hk1 : (j : Int) < (L.length : Int) := by omega
      have HX := hide hx
      obtain ⟨o, r, hl⟩ := looks C x
      have HLK := hide hl
      have HOL : Hid ((outC o).length = 33) := hide (outC_length (hl.lock HSET.out.ok.2))
      have HLO : Hid ((Try.prog.info? 50).map (·.size) = some (outC o).length) := hide (by rw [HOL.out]; exact info_out)
      have HTO : Hid (∀ w : World, (w.alloc (.cells #[.int .u64 0, .int .u8 0, .int .u8 0, .int .u8 0, .int .u8 0, .int .u8 0, .int .u8 0, .int .u8 0, .int .u8 0, .int .u8 0, .int .u8 0, .int .u8 0, .int .u8 0, .int .u8 0, .int .u8 0, .int .u8 0, .int .u8 0, .int .u8 0, .int .u8 0, .int .u8 0, .int .u8 0, .int .u8 0, .int .u8 0, .int .u8 0, .int .u8 0, .int .u8 0, .int .u8 0, .int .u8 0, .int .u8 0, .int .u8 0, .int .u8 0, .int .u8 0, .int .u8 0] 50)).there w.heap.size 0 (outC o).length) := hide (fun w => by rw [HOL.out]; exact o_there w)
      have HO1 : Hid (∀ u ∈ outC o, u.oneCell' = true) := hide (outC_one o)
      clear hr hx hxo hB hvj hl hD hDC hrow
      go_upto_region 9 with (first | (refine wpList_load_mid rfl 47 (.tmp 21) rfl b2 (off2 + j * 33) rfl (pC x) _ HXR.out Try.underlying47 rfl HN.out ?_) | (refine wp_store_row rfl 47 (.tmp 8) (.tmp 22) rfl wr.heap.size 0 (pC x) rfl rfl (HT.out wr) HN.out H1.out ?_))
      have hW : ((wr.alloc (.cells #[.int .u8 0, .int .u8 0, .int .u8 0, .int .u8 0, .int .u8 0, .int .u8 0, .int .u8 0, .int .u8 0, .int .u8 0, .int .u8 0, .int .u8 0, .int .u8 0, .int .u8 0, .int .u8 0, .int .u8 0, .int .u8 0, .int .u8 0, .int .u8 0, .int .u8 0, .int .u8 0, .int .u8 0, .int .u8 0, .int .u8 0, .int .u8 0, .int .u8 0, .int .u8 0, .int .u8 0, .int .u8 0, .int .u8 0, .int .u8 0, .int .u8 0, .int .u8 0, .int .u32 0] 47)).setCells wr.heap.size 0 (pC x)).rangeAt wr.heap.size 0 (pC x) := World.rangeAt_setCells_same _ _ _ _ (HT.out wr)
      have hB2 : Below wr.heap.size wr ((wr.alloc (.cells #[.int .u8 0, .int .u8 0, .int .u8 0, .int .u8 0, .int .u8 0, .int .u8 0, .int .u8 0, .int .u8 0, .int .u8 0, .int .u8 0, .int .u8 0, .int .u8 0, .int .u8 0, .int .u8 0, .int .u8 0, .int .u8 0, .int .u8 0, .int .u8 0, .int .u8 0, .int .u8 0, .int .u8 0, .int .u8 0, .int .u8 0, .int .u8 0, .int .u8 0, .int .u8 0, .int .u8 0, .int .u8 0, .int .u8 0, .int .u8 0, .int .u8 0, .int .u8 0, .int .u32 0] 47)).setCells wr.heap.size 0 (pC x)) := below_sets (Nat.le_refl _) _ _ _ ((Below.refl _ _).alloc (Nat.le_refl _) _)
      generalize (wr.alloc (.cells #[.int .u8 0, .int .u8 0, .int .u8 0, .int .u8 0, .int .u8 0, .int .u8 0, .int .u8 0, .int .u8 0, .int .u8 0, .int .u8 0, .int .u8 0, .int .u8 0, .int .u8 0, .int .u8 0, .int .u8 0, .int .u8 0, .int .u8 0, .int .u8 0, .int .u8 0, .int .u8 0, .int .u8 0, .int .u8 0, .int .u8 0, .int .u8 0, .int .u8 0, .int .u8 0, .int .u8 0, .int .u8 0, .int .u8 0, .int .u8 0, .int .u8 0, .int .u8 0, .int .u32 0] 47)).setCells wr.heap.size 0 (pC x) = W at *
      have HP := hide hW
      have HB2 := hide (below_on HB.out hB2)
      have HROW2 := hide (HROW.out.move (w1 := W) fun g _ hl => hB2.block g hl)
      have HS2 := hide (HSET.out.on HB2.out)
      have HK : Hid (∀ wx, Below W.heap.size W wx → (Instr.lookup 65 (.map m) (.agg (pC x).toArray) true).run Try.prog wx = .ok (.tuple #[.agg (outC o).toArray, .bool r]) wx) := hide (fun wx hx => (HS2.out.on hx).look HXO.out HLK.out)
      clear hW hB2 HXR H1 HT HB HROW
      generalize wr.heap.size = g at *
      generalize hP : pC x = P at *
      have HPE := hide hP
      clear hP
      generalize hX : outC o = X at *
      have HXE := hide hX
      clear hX
      refine wp_region_held_drew (S := fun wx => Below W.heap.size W wx) (by kernel_rfl) (Below.refl _ _).drew (fun hHeld => ?_)
      refine wpAnyH_take (i := 0) (oi := { dst := some 24, op := Op.move (Operand.tmp 0), type := 25, pos := "coin.go:59", after := #[], guard := none }) (v := .pointer (some ⟨b, 0, none⟩)) rfl (by kernel_rfl) (by kernel_rfl) (by kernel_rfl) (fun _ _ _ h => h) (Or.inl ⟨by rfl, fun w _ => by go_simp⟩) (by assumption) ?_
      simp only [Act.put, List.setIfInBounds_toArray, List.set_cons_zero, List.set_cons_succ]
      refine wpAnyH_take (i := 1) (oi := { dst := some 25, op := Op.nilCheck (Operand.tmp 24), type := 0, pos := "coin.go:59", after := #[{ on := 0, ground := Ground.data }], guard := none }) (v := .pointer (some ⟨b, 0, none⟩)) rfl (by kernel_rfl) (by kernel_rfl) (by kernel_rfl) (fun _ _ _ h => h) (Or.inl ⟨by rfl, fun w _ => by go_simp⟩) (by assumption) ?_
      simp only [Act.put, List.setIfInBounds_toArray, List.set_cons_zero, List.set_cons_succ]
      refine wpAnyH_take (i := 2) (oi := { dst := some 26, op := Op.fieldAddr 67 (Operand.tmp 25) 0, type := 0, pos := "coin.go:59", after := #[{ on := 1, ground := Ground.data }], guard := none }) (v := .pointer (some ⟨b, 0, none⟩)) rfl (by kernel_rfl) (by kernel_rfl) (by kernel_rfl) (fun _ _ _ h => h) (Or.inl ⟨by rfl, fun w _ => by go_simp⟩) (by assumption) ?_
      simp only [Act.put, List.setIfInBounds_toArray, List.set_cons_zero, List.set_cons_succ]
      refine wpAnyH_take (i := 3) (oi := { dst := some 27, op := Op.load 65 (Operand.tmp 26), type := 65, pos := "coin.go:59", after := #[{ on := 2, ground := Ground.data }], guard := none }) (v := .map m) rfl (by kernel_rfl) (by kernel_rfl) (by kernel_rfl) (fun _ _ _ h => h) (Or.inl ⟨by rfl, fun wx h => by have c0 := (h.cell HS2.out.lt).trans HS2.out.1; go_simp⟩) (by assumption) ?_
      simp only [Act.put, List.setIfInBounds_toArray, List.set_cons_zero, List.set_cons_succ]
      refine wpAnyH_take (i := 4) (oi := { dst := some 28, op := Op.load 47 (Operand.tmp 8), type := 47, pos := "coin.go:59", after := #[], guard := none }) (v := .agg (P).toArray) rfl (by kernel_rfl) (by kernel_rfl) (by kernel_rfl) (fun _ _ _ h => h) (yieldsIf_load_mid (by rfl) 47 (.tmp 8) rfl g 0 rfl (P) _ (fun w h => range_on HP.out h) Try.underlying47 rfl HN.out) (by assumption) ?_
      simp only [Act.put, List.setIfInBounds_toArray, List.set_cons_zero, List.set_cons_succ]
      refine wpAnyH_take (i := 5) (oi := { dst := some 29, op := Op.lookup 65 (Operand.tmp 27) (Operand.tmp 28) true, type := 51, pos := "coin.go:59", after := #[{ on := 3, ground := Ground.data }, { on := 4, ground := Ground.data }], guard := none }) (v := .tuple #[.agg X.toArray, .bool r]) rfl (by kernel_rfl) (by kernel_rfl) (by kernel_rfl) (fun _ _ _ h => h) (yields_look (by rfl) _ _ _ rfl (.map m) (.agg P.toArray) _ rfl rfl HK.out) (by assumption) ?_
      simp only [Act.put, List.setIfInBounds_toArray, List.set_cons_zero, List.set_cons_succ]
      refine wpAnyH_take (i := 6) (oi := { dst := some 23, op := Op.move (Operand.tmp 29), type := 51, pos := "coin.go:59", after := #[{ on := 5, ground := Ground.data }], guard := none }) (v := .tuple #[.agg X.toArray, .bool r]) rfl (by kernel_rfl) (by kernel_rfl) (by kernel_rfl) (fun _ _ _ h => h) (Or.inl ⟨by rfl, fun w _ => by go_simp⟩) (by assumption) ?_
      simp only [Act.put, List.setIfInBounds_toArray, List.set_cons_zero, List.set_cons_succ]
      refine wpAnyH_take (i := 7) (oi := { dst := some 30, op := Op.extract (Operand.tmp 23) 0, type := 50, pos := "coin.go:59", after := #[{ on := 6, ground := Ground.data }], guard := none }) (v := .agg X.toArray) rfl (by kernel_rfl) (by kernel_rfl) (by kernel_rfl) (fun _ _ _ h => h) (Or.inl ⟨by rfl, fun w _ => by go_simp⟩) (by assumption) ?_
      simp only [Act.put, List.setIfInBounds_toArray, List.set_cons_zero, List.set_cons_succ]
      refine wpAnyH_take (i := 8) (oi := { dst := some 31, op := Op.extract (Operand.tmp 23) 1, type := 4, pos := "coin.go:59", after := #[{ on := 6, ground := Ground.data }, { on := 10, ground := Ground.gcOnly Departure.lateStores }], guard := none }) (v := .bool r) rfl (by kernel_rfl) (by kernel_rfl) (by kernel_rfl) (fun _ _ _ h => h) (Or.inl ⟨by rfl, fun w _ => by go_simp⟩) (by assumption) ?_
      simp only [Act.put, List.setIfInBounds_toArray, List.set_cons_zero, List.set_cons_succ]
      refine wpAnyH_ready (rs := [9]) (by kernel_rfl) (by simp) (AllReadyH.cons (o := { dst := some 9, op := Op.alloc 50, type := 0, pos := "coin.go:59", after := #[], guard := none }) rfl (fun K hK => ?_) AllReadyH.nil)
      go_simp
      refine hK.out _ _ ?_ (fun hHeld => ?_)
      · first | exact hHeld.alloc hHeld.size _ | exact below_sets (Nat.le_refl _) _ _ _ hHeld
      clear hK K
      try simp only [Act.put, List.setIfInBounds_toArray, List.set_cons_zero, List.set_cons_succ]
      refine wpAnyH_ready (rs := [10]) (by kernel_rfl) (by simp) (AllReadyH.cons (o := { dst := none, op := Op.store 50 (Operand.tmp 9) (Operand.tmp 30), type := 0, pos := "coin.go:59", after := #[{ on := 9, ground := Ground.data }, { on := 7, ground := Ground.data }, { on := 0, ground := Ground.phase }, { on := 1, ground := Ground.phase }, { on := 2, ground := Ground.phase }, { on := 3, ground := Ground.phase }, { on := 4, ground := Ground.phase }, { on := 5, ground := Ground.phase }, { on := 6, ground := Ground.phase }, { on := 7, ground := Ground.phase }, { on := 8, ground := Ground.textOnly Departure.lateStores }, { on := 9, ground := Ground.phase }], guard := none }) rfl (fun K hK => ?_) AllReadyH.nil)
      have hR0 : Hid (((W.alloc (.cells #[.int .u64 0, .int .u8 0, .int .u8 0, .int .u8 0, .int .u8 0, .int .u8 0, .int .u8 0, .int .u8 0, .int .u8 0, .int .u8 0, .int .u8 0, .int .u8 0, .int .u8 0, .int .u8 0, .int .u8 0, .int .u8 0, .int .u8 0, .int .u8 0, .int .u8 0, .int .u8 0, .int .u8 0, .int .u8 0, .int .u8 0, .int .u8 0, .int .u8 0, .int .u8 0, .int .u8 0, .int .u8 0, .int .u8 0, .int .u8 0, .int .u8 0, .int .u8 0, .int .u8 0] 50)).drew.setCells W.drew.heap.size 0 X).rangeAt W.drew.heap.size 0 X) := hide (World.rangeAt_setCells_same _ _ _ _ (HTO.out W.drew))
      refine step_store_row rfl 50 (.tmp 9) (.tmp 30) rfl W.drew.heap.size 0 X rfl rfl (HTO.out W.drew) HLO.out HO1.out ?_
      refine hK.out _ _ ?_ (fun hHeld => ?_)
      · first | exact hHeld.alloc hHeld.size _ | exact below_sets (Nat.le_refl _) _ _ _ hHeld
      clear hK K
      try simp only [Act.put]
      refine wpAnyH_take (i := 11) (oi := { dst := some 10, op := Op.assign (Operand.tmp 31), type := 4, pos := "coin.go:59", after := #[{ on := 8, ground := Ground.data }, { on := 10, ground := Ground.chain }, { on := 0, ground := Ground.phase }, { on := 1, ground := Ground.phase }, { on := 2, ground := Ground.phase }, { on := 3, ground := Ground.phase }, { on := 4, ground := Ground.phase }, { on := 5, ground := Ground.phase }, { on := 6, ground := Ground.phase }, { on := 7, ground := Ground.phase }, { on := 8, ground := Ground.phase }, { on := 9, ground := Ground.phase }, { on := 10, ground := Ground.phase }], guard := none }) (v := .bool r) rfl (by kernel_rfl) (by kernel_rfl) (by kernel_rfl) (fun _ _ _ h => h) (Or.inl ⟨by rfl, fun w _ => by go_simp⟩) (by assumption) ?_
      simp only [Act.put, List.setIfInBounds_toArray, List.set_cons_zero, List.set_cons_succ]
      refine wpAnyH_done (by kernel_rfl) ?_ _
      clear HK HP HN
      have HB3 := hide (below_on HB2.out hHeld)
      have HROW3 := hide (HROW2.out.move fun q _ hl => hHeld.block q hl)
      clear hHeld HROW2
      generalize ((W.alloc (.cells #[.int .u64 0, .int .u8 0, .int .u8 0, .int .u8 0, .int .u8 0, .int .u8 0, .int .u8 0, .int .u8 0, .int .u8 0, .int .u8 0, .int .u8 0, .int .u8 0, .int .u8 0, .int .u8 0, .int .u8 0, .int .u8 0, .int .u8 0, .int .u8 0, .int .u8 0, .int .u8 0, .int .u8 0, .int .u8 0, .int .u8 0, .int .u8 0, .int .u8 0, .int .u8 0, .int .u8 0, .int .u8 0, .int .u8 0, .int .u8 0, .int .u8 0, .int .u8 0, .int .u8 0] 50)).drew.setCells W.drew.heap.size 0 X) = W3 at *
      have hR1 : Hid (W3.rangeAt W.heap.size 0 X) := hR0
      clear hR0
      cases r with
      | false =>
        have R : Hid (∃ p ∈ L, p ∉ C.map Cn.pt) := hide ⟨x, List.mem_of_getElem? HX.out, fun h => by have := HLK.out.is.2 h; cases this⟩
        go_wp2
        go_ret2
        exact Or.inl ⟨R.out, rfl, HB3.out⟩
      | true =>
        obtain ⟨c, hc, hcp, hco⟩ : ∃ c ∈ C, c.pt = x ∧ c.out = o := by
          rcases HLK.out with ⟨-, h⟩ | ⟨h, -⟩
          · exact h
          · cases h
        have hbn := below_new W3 (.cells X.toArray 50)
        have HNEW := hide (range_new W3 X 50)
        have HOWN3 := hide (HROW3.out.move (w1 := W3.alloc (.cells X.toArray 50)) fun g _ hl => hbn.block g hl)
        have HB4 := hide (HB3.out.alloc HB3.out.size (.cells X.toArray 50))
        have hw4 : w.heap.size ≤ (W3.alloc (.cells X.toArray 50)).heap.size := HB4.out.size
        have hdl := pts_length HD.out hj
        obtain ⟨v4, w4, hrun, hrow5, hgr, hwh⟩ := run_append_row (W3.alloc (.cells X.toArray 50)) 38 50 38 _ 33 40 Try.underlying38 infoOu rfl (by omega) (by omega) w.heap.size u6 (outsC D) HOWN3.out W3.heap.size X HNEW.out ⟨HOL.out, HO1.out⟩ (by unfold outsC; rw [List.length_map]; omega) hw4
        obtain ⟨va, vc, rfl, -, -⟩ := hrow5.row.form
        have HROW5 := hide hrow5
        have hlt5 := HOWN3.out.lt
        have R1 : Hid (Below w.heap.size w w4) := hide (HB4.out.grown hgr hw4 fun j hj => (hlt5 j hj).1)
        have R : Hid (Tak w C L (.slice va (outsC D ++ [X]).length vc) (.int .i64 ((j + 1 : Nat) : Int)) w4) := hide ⟨j + 1, by omega, rfl, R1.out, D ++ [c], by
          obtain ⟨e1, e2⟩ := List.getElem?_eq_some_iff.1 HX.out
          rw [List.take_succ_eq_append_getElem e1, e2, List.map_append, HD.out, List.map_cons, List.map_nil, hcp], by
          intro d hd
          rcases List.mem_append.1 hd with q | q
          · exact HDC.out d q
          · rw [List.mem_singleton.1 q]; exact hc, by
          have e : outsC (D ++ [c]) = outsC D ++ [X] := by unfold outsC; rw [List.map_append, List.map_cons, List.map_nil, hco, HXE.out]
          rw [e]
          exact HROW5.out⟩
        clear hbn hrow5 hgr hwh hw4 hlt5 R1 HROW5 hc hcp hco hdl
        obtain ⟨nn, hnn⟩ : ∃ nn, nn = (outsC D ++ [X]).length := ⟨_, rfl⟩
        rw [← hnn] at hrun R
        clear hnn
        go_wp2_with (first
          | (refine wpList_load_mid rfl 50 (.tmp 9) rfl W.heap.size 0 rfl X _ hR1.out Try.underlying50 rfl HLO.out ?_)
          | (refine wp_build_one rfl 38 50 (.tmp 35) rfl _ 33 40 Try.underlying38 infoOu (by omega) (by omega) X HOL.out rfl ?_)
          | (at_builtin; refine wp_app rfl (.tmp 34) (.tmp 36) 38 rfl (v1 := u6) (v2 := .slice (some ⟨W3.heap.size, 0, none⟩) 1 1) (v := .slice va nn vc) (w' := w4) rfl rfl ?_ ?_; exact hrun))
        go_roundw
        case rel => first | exact R.out | ((repeat apply Exists.intro); exact ⟨R.out, rfl⟩)
        case measure => simp [intOf]; omega
    · have hk2 : (L.length : Int) ≤ (j : Int) := by omega
      have htk : L.take j = L := List.take_of_length_le (by omega)
      have HS2 : Hid (Dropping w b m C L u6 (.int .i64 0) wr) := hide ⟨0, Nat.zero_le _, rfl, by rw [List.take_zero, drop_none]; exact HSET.out.on hB, Besides.of_below hB, D, by rw [hD, htk], hDC, hrow⟩
      clear hB hD hDC hrow htk
      go_wp2_with fail
      go_loopw [41] (fun i wr => Dropping w b m C L u6 i wr) (fun i _ => L.length - (intOf i).toNat)
      case atStart => exact HS2.out
      case round =>
        clear HS2 HB HD HDC HROW
        obtain ⟨q, hq, rfl, hset, hbes, D, hD, hDC, hrow⟩ := hrel
        have HSQ := hide hset
        have HBES := hide hbes
        have HD := hide hD
        have HDC := hide hDC
        have HROW := hide hrow
        by_cases hlt : q < L.length
        · obtain ⟨x, hx⟩ : ∃ x, L[q]? = some x := ⟨_, List.getElem?_eq_getElem hlt⟩
          obtain ⟨k, hk⟩ : ∃ k, m = some k := by
            rcases hm : m with _ | k
            · rw [hm] at HSET
              have hC := HSET.out.2.2.1 rfl
              have hm : x ∈ D.map Cn.pt := by rw [hD]; exact List.mem_of_getElem? hx
              obtain ⟨c, hc, -⟩ := List.mem_map.1 hm
              have := hDC c hc
              rw [hC] at this
              cases this
            · exact ⟨k, rfl⟩
          have HM := hide hk
          have hvj := HV.out wr (fun g hg hp => hbes.block g hg hp.1 hp.2)
          obtain ⟨b2, off2, rfl, hr⟩ := hvj.get hx
          have hxo := HL.out x (List.mem_of_getElem? hx)
          have HXO := hide hxo
          have HXR := hide hr
          have HN : Hid ((Try.prog.info? 47).map (·.size) = some (pC x).length) := hide (by rw [pC_length hxo]; exact info_pt)
          have H1 : Hid (∀ u ∈ pC x, u.oneCell' = true) := hide (pC_one x)
          have HT : Hid (∀ w : World, (w.alloc (.cells #[.int .u8 0, .int .u8 0, .int .u8 0, .int .u8 0, .int .u8 0, .int .u8 0, .int .u8 0, .int .u8 0, .int .u8 0, .int .u8 0, .int .u8 0, .int .u8 0, .int .u8 0, .int .u8 0, .int .u8 0, .int .u8 0, .int .u8 0, .int .u8 0, .int .u8 0, .int .u8 0, .int .u8 0, .int .u8 0, .int .u8 0, .int .u8 0, .int .u8 0, .int .u8 0, .int .u8 0, .int .u8 0, .int .u8 0, .int .u8 0, .int .u8 0, .int .u8 0, .int .u32 0] 47)).there w.heap.size 0 (pC x).length) := hide (fun w => by rw [pC_length hxo]; exact p_there w)
          have hk1 : (q : Int) < (L.length : Int) := by omega
          have HX := hide hx
          clear hr hx hxo hvj hset hbes hD hDC hrow hk
          go_upto_region 17 with (first | (refine wpList_load_mid rfl 47 (.tmp 43) rfl b2 (off2 + q * 33) rfl (pC x) _ HXR.out Try.underlying47 rfl HN.out ?_) | (refine wp_store_row rfl 47 (.tmp 12) (.tmp 44) rfl wr.heap.size 0 (pC x) rfl rfl (HT.out wr) HN.out H1.out ?_))
          have hW : ((wr.alloc (.cells #[.int .u8 0, .int .u8 0, .int .u8 0, .int .u8 0, .int .u8 0, .int .u8 0, .int .u8 0, .int .u8 0, .int .u8 0, .int .u8 0, .int .u8 0, .int .u8 0, .int .u8 0, .int .u8 0, .int .u8 0, .int .u8 0, .int .u8 0, .int .u8 0, .int .u8 0, .int .u8 0, .int .u8 0, .int .u8 0, .int .u8 0, .int .u8 0, .int .u8 0, .int .u8 0, .int .u8 0, .int .u8 0, .int .u8 0, .int .u8 0, .int .u8 0, .int .u8 0, .int .u32 0] 47)).setCells wr.heap.size 0 (pC x)).rangeAt wr.heap.size 0 (pC x) := World.rangeAt_setCells_same _ _ _ _ (HT.out wr)
          have hB2 : Below wr.heap.size wr ((wr.alloc (.cells #[.int .u8 0, .int .u8 0, .int .u8 0, .int .u8 0, .int .u8 0, .int .u8 0, .int .u8 0, .int .u8 0, .int .u8 0, .int .u8 0, .int .u8 0, .int .u8 0, .int .u8 0, .int .u8 0, .int .u8 0, .int .u8 0, .int .u8 0, .int .u8 0, .int .u8 0, .int .u8 0, .int .u8 0, .int .u8 0, .int .u8 0, .int .u8 0, .int .u8 0, .int .u8 0, .int .u8 0, .int .u8 0, .int .u8 0, .int .u8 0, .int .u8 0, .int .u8 0, .int .u32 0] 47)).setCells wr.heap.size 0 (pC x)) := below_sets (Nat.le_refl _) _ _ _ ((Below.refl _ _).alloc (Nat.le_refl _) _)
          have hgs : wr.heap.size < ((wr.alloc (.cells #[.int .u8 0, .int .u8 0, .int .u8 0, .int .u8 0, .int .u8 0, .int .u8 0, .int .u8 0, .int .u8 0, .int .u8 0, .int .u8 0, .int .u8 0, .int .u8 0, .int .u8 0, .int .u8 0, .int .u8 0, .int .u8 0, .int .u8 0, .int .u8 0, .int .u8 0, .int .u8 0, .int .u8 0, .int .u8 0, .int .u8 0, .int .u8 0, .int .u8 0, .int .u8 0, .int .u8 0, .int .u8 0, .int .u8 0, .int .u8 0, .int .u8 0, .int .u8 0, .int .u32 0] 47)).setCells wr.heap.size 0 (pC x)).heap.size := by rw [size_setCells, alloc_size]; omega
          generalize (wr.alloc (.cells #[.int .u8 0, .int .u8 0, .int .u8 0, .int .u8 0, .int .u8 0, .int .u8 0, .int .u8 0, .int .u8 0, .int .u8 0, .int .u8 0, .int .u8 0, .int .u8 0, .int .u8 0, .int .u8 0, .int .u8 0, .int .u8 0, .int .u8 0, .int .u8 0, .int .u8 0, .int .u8 0, .int .u8 0, .int .u8 0, .int .u8 0, .int .u8 0, .int .u8 0, .int .u8 0, .int .u8 0, .int .u8 0, .int .u8 0, .int .u8 0, .int .u8 0, .int .u8 0, .int .u32 0] 47)).setCells wr.heap.size 0 (pC x) = W at *
          obtain ⟨s0, s1, -, s3⟩ := (HSQ.out.on hB2).heap (w' := W.drew) rfl fun _ _ => rfl
          obtain ⟨hkb, hmap⟩ := s3 k HM.out
          have hkl : k < w.heap.size := (HSET.out.2.2.2 k HM.out).2.lt
          have hbl := HSET.out.lt
          have hws := HBES.out.size
          obtain ⟨w4, hrun, hmap4, hg4⟩ := hmap.del HXO.out 0
          rw [drop_more HX.out] at hmap4
          have hblk : ∀ g, g < W.heap.size → g ≠ k → w4.heap[g]? = W.heap[g]? := fun g hg hne => hg4.block g hg (fun e => hne (Option.some.inj e))
          have HR2 : Hid (W.drew.cell? ⟨b, 0, none⟩ = some (.map m) ∧ W.drew.rangeAt wr.heap.size 0 (pC x)) := hide ⟨s0, hW⟩
          have HR4 : Hid (w4.cell? ⟨b, 0, none⟩ = some (.map m) ∧ w4.rangeAt wr.heap.size 0 (pC x)) := hide ⟨(World.cell?_of_block (w := W) (a := ⟨b, 0, none⟩) (hblk b (by omega) (Ne.symm hkb))).trans s0, fun i u hu => (World.cell?_of_block (w := W) (hblk wr.heap.size hgs (by omega))).trans (hW i u hu)⟩
          have R : Hid (Dropping w b m C L u6 (.int .i64 ((q + 1 : Nat) : Int)) w4) := hide ⟨q + 1, by omega, rfl,
            ⟨HR4.out.1, (World.frozen?_of_block (w := W) (a := ⟨b, 0, none⟩) (hblk b (by omega) (Ne.symm hkb))).trans s1, fun e => (by rw [HM.out] at e; cases e), fun y hy => (by rw [HM.out] at hy; cases hy; exact ⟨hkb, hmap4⟩)⟩,
            (HBES.out.on hB2).trans ⟨hg4.os, hg4.tape, hg4.output, hg4.size, fun g hg _ h2 => hblk g hg (by rw [HM.out] at h2; exact h2)⟩, D, HD.out, HDC.out,
            HROW.out.move fun g hb hl => (hblk g (by omega) (by omega)).trans (hB2.block g hl)⟩
          have HRUN : Hid ((Builtin.delete_ #[65, 47] 0 #[.map m, .agg (pC x).toArray]).run Try.prog W.drew = .ok (.tuple #[]) w4) := hide (by rw [HM.out]; exact hrun)
          clear hW hB2 hgs s0 s1 s3 hkb hmap hkl hbl hws hmap4 hg4 hblk hrun HXR H1 HT HSQ HBES
          generalize wr.heap.size = gb at *
          generalize pC x = P at *
          refine wp_region_held_drew (S := fun wx => wx.cell? ⟨b, 0, none⟩ = some (.map m) ∧ wx.rangeAt gb 0 P) (by kernel_rfl) HR2.out (fun hHeld => ?_)
          refine wpAnyH_take (i := 0) (oi := { dst := some 45, op := Op.move (Operand.tmp 0), type := 25, pos := "coin.go:66", after := #[], guard := none }) (v := .pointer (some ⟨b, 0, none⟩)) rfl (by kernel_rfl) (by kernel_rfl) (by kernel_rfl) (fun _ _ _ h => h) (Or.inl ⟨by rfl, fun w _ => by go_simp⟩) (by assumption) ?_
          simp only [Act.put, List.setIfInBounds_toArray, List.set_cons_zero, List.set_cons_succ]
          refine wpAnyH_take (i := 1) (oi := { dst := some 46, op := Op.nilCheck (Operand.tmp 45), type := 0, pos := "coin.go:66", after := #[{ on := 0, ground := Ground.data }], guard := none }) (v := .pointer (some ⟨b, 0, none⟩)) rfl (by kernel_rfl) (by kernel_rfl) (by kernel_rfl) (fun _ _ _ h => h) (Or.inl ⟨by rfl, fun w _ => by go_simp⟩) (by assumption) ?_
          simp only [Act.put, List.setIfInBounds_toArray, List.set_cons_zero, List.set_cons_succ]
          refine wpAnyH_take (i := 2) (oi := { dst := some 47, op := Op.fieldAddr 67 (Operand.tmp 46) 0, type := 0, pos := "coin.go:66", after := #[{ on := 1, ground := Ground.data }], guard := none }) (v := .pointer (some ⟨b, 0, none⟩)) rfl (by kernel_rfl) (by kernel_rfl) (by kernel_rfl) (fun _ _ _ h => h) (Or.inl ⟨by rfl, fun w _ => by go_simp⟩) (by assumption) ?_
          simp only [Act.put, List.setIfInBounds_toArray, List.set_cons_zero, List.set_cons_succ]
          refine wpAnyH_take (i := 3) (oi := { dst := some 48, op := Op.load 65 (Operand.tmp 47), type := 65, pos := "coin.go:66", after := #[{ on := 2, ground := Ground.data }], guard := none }) (v := .map m) rfl (by kernel_rfl) (by kernel_rfl) (by kernel_rfl) (fun _ _ _ h => h) (Or.inl ⟨by rfl, fun wx h => by have c0 := h.1; go_simp⟩) (by assumption) ?_
          simp only [Act.put, List.setIfInBounds_toArray, List.set_cons_zero, List.set_cons_succ]
          refine wpAnyH_take (i := 4) (oi := { dst := some 49, op := Op.load 47 (Operand.tmp 12), type := 47, pos := "coin.go:66", after := #[], guard := none }) (v := .agg (P).toArray) rfl (by kernel_rfl) (by kernel_rfl) (by kernel_rfl) (fun _ _ _ h => h) (yieldsIf_load_mid (by rfl) 47 (.tmp 12) rfl gb 0 rfl (P) _ (fun w h => h.2) Try.underlying47 rfl HN.out) (by assumption) ?_
          simp only [Act.put, List.setIfInBounds_toArray, List.set_cons_zero, List.set_cons_succ]
          refine wpAnyH_ready (rs := [5]) (by kernel_rfl) (by simp) (AllReadyH.cons (o := { dst := none, op := Op.call { callee := Callee.builtin Builtin.delete, args := #[Operand.tmp 48, Operand.tmp 49], argTypes := #[65, 47] }, type := 0, pos := "coin.go:66", after := #[{ on := 3, ground := Ground.data }, { on := 4, ground := Ground.data }], guard := none }) rfl (fun K hK => ?_) AllReadyH.nil)
          refine step_delete rfl 65 47 (.tmp 48) (.tmp 49) rfl rfl rfl HRUN.out ?_
          refine hK.out _ _ ?_ (fun hHeld => ?_)
          · exact HR4.out
          clear hK K
          try simp only [Act.put]
          refine wpAnyH_done (by kernel_rfl) ?_ _
          clear hHeld HR2 HR4 HRUN HN
          go_wp2
          go_roundw
          case rel => first | exact R.out | ((repeat apply Exists.intro); exact ⟨R.out, rfl⟩)
          case measure => simp [intOf]; omega
        · have hk2 : (L.length : Int) ≤ (q : Int) := by omega
          have R : Hid (TakeEnd w b m C L (.returned (.tuple #[u6, .int .i64 0])) wr) := hide (Or.inr ⟨_, rfl, by
            rw [List.take_of_length_le (by omega)] at hset
            exact hset, hbes, D, hD, hDC, hrow⟩)
          clear hset hbes hD hDC hrow
          go_wp2
          go_ret2
          exact R.out
theorem take_ok (w : World) (b : Nat) (m : Option Nat) (C : List Cn) (h : SetAt w b m C) (L : List Cn) (v : Value) (hv : Keeps (off b (m.getD b)) w fun w => PsAt w v (L.map Cn.pt)) (hn : L.length ≤ 1000) (hN : (L.map Cn.pt).Nodup) (hin : ∀ c ∈ L, c ∈ C) :
    Calls Try.prog 14 #[.pointer (some ⟨b, 0, none⟩), v] w fun e w' => ∃ v', e = .returned (.tuple #[v', .int .i64 0]) ∧ SetAt w' b m (dropPts C (L.map Cn.pt)) ∧ Besides b (m.getD b) w w' ∧ RowOwn w' w.heap.size 50 33 v' (outsC L) := by
  refine (take_any w b m C h _ v hv (pts_ok fun c hc => h.ok.2 c (hin c hc)) (by rw [List.length_map]; exact hn) hN).mono ?_
  rintro e w' (⟨⟨p, hp, hno⟩, -⟩ | ⟨v', rfl, h1, h2, D, hD, hDC, hrow⟩)
  · obtain ⟨c, hc, rfl⟩ := List.mem_map.1 hp
    exact absurd (mem_pt (hin c hc)) hno
  · have e : D = L := by
      have hl : D.length = L.length := by have := congrArg List.length hD; simpa using this
      refine List.ext_getElem hl fun i h1 h2 => ?_
      refine pt_one h.ok.1 (hDC _ (List.getElem_mem _)) (hin _ (List.getElem_mem _)) ?_
      have := congrArg (·[i]?) hD
      simpa [h1, h2] using this
    rw [e] at hrow
    exact ⟨v', rfl, h1, h2, hrow⟩
theorem take_none (w : World) (b : Nat) (m : Option Nat) (C : List Cn) (h : SetAt w b m C) (L : List Pt) (v : Value) (hv : Keeps (off b (m.getD b)) w fun w => PsAt w v L) (hok : ∀ p ∈ L, PtOk p) (hn : L.length ≤ 1000) (hN : L.Nodup) (hno : ∃ p ∈ L, p ∉ C.map Cn.pt) :
    Calls Try.prog 14 #[.pointer (some ⟨b, 0, none⟩), v] w fun e w' => e = .returned (.tuple #[.slice none 0 0, .int .i64 9]) ∧ Below w.heap.size w w' := by
  refine (take_any w b m C h L v hv hok hn hN).mono ?_
  rintro e w' (⟨-, rfl, hb⟩ | ⟨v', rfl, h1, h2, D, hD, hDC, hrow⟩)
  · exact ⟨rfl, hb⟩
  · obtain ⟨p, hp, hx⟩ := hno
    rw [← hD] at hp
    obtain ⟨c, hc, rfl⟩ := List.mem_map.1 hp
    exact absurd (mem_pt (hDC c hc)) hx

end Go.Proofs.Ytkemdfikcmgaaaa
