/-
  For every list of acts the law CoinActs returns true: whatever is done to a set, each answer, and all coins, are the document's; no condition.
-/
import Derived.Test.YtkemdfikcmgaaaaCoActsP
import Derived.Test.YtkemdfikcmgaaaaCoBackP
namespace Go.Proofs.Ytkemdfikcmgaaaa
open Go.ChangeShapes Go.WideShapes Go.ChangeAt Go.RowKit

theorem doc_new (w : World) (A : Nat → Prop) : DocAt (w.alloc (.cells #[.slice none 0 0] 32)) A w.heap.size [] :=
  ⟨.slice none 0 0, range_new w [.slice none 0 0] 32 0 _ rfl, frozen_of_row _ _ _ _ _ (heap_alloc_new w _), RowAt.nil _ _, fun g h => (by cases h), fun _ h => by cases h⟩
/-- So far both are the same. -/
def ActI (w : World) (L : List Ac) (s m i : Value) (wr : World) : Prop :=
  ∃ (j b k mb : Nat) (C D : List Cn), j ≤ L.length ∧ i = .int .i64 j ∧ s = .pointer (some ⟨b, 0, none⟩) ∧ m = .pointer (some ⟨mb, 0, none⟩) ∧ Below w.heap.size w wr ∧ SetAt wr b (some k) C ∧
    (w.heap.size ≤ b ∧ w.heap.size ≤ k ∧ w.heap.size ≤ mb ∧ mb ≠ b ∧ mb ≠ k) ∧ DocAt wr (fun g => w.heap.size ≤ g ∧ g ≠ b ∧ g ≠ k) mb D ∧ D.Perm C ∧ SortC D ∧ C.length ≤ wtL (L.take j)
/-- So far both find the same. -/
def ActF (w : World) (P : List Pt) (i : Value) (wr : World) : Prop := ∃ q : Nat, q ≤ P.length ∧ i = .int .i64 q ∧ Below w.heap.size w wr
set_option maxRecDepth 100000 in
set_option maxHeartbeats 2000000 in
theorem coinActs_any {w : World} (v : Value) (L : List Ac) (hV : AcsAt w v L) :
    Calls Try.prog 3 #[v] w fun e w' => e = .returned (.bool true) ∧ Below w.heap.size w w' := by
  have CAL := hide (alive9_any w)
  have HV := hide hV
  obtain ⟨a, cap, rfl, hc1, hc2⟩ := hV.form
  clear hV
  go_enter Try.func3, Try.ntmps3
  go_wp2_with fail
  refine CAL.out.mono ?_
  rintro e w1 ⟨rfl, hb1⟩
  have HB1 := hide hb1
  have CG := hide (great9_any L _ w1 (HV.out.on hb1))
  clear hb1 CAL
  go_wp2_with fail
  refine CG.out.mono ?_
  rintro e w2 ⟨⟨r, rfl, hr⟩, hb2⟩
  have HB2 := hide (below_on HB1.out hb2)
  have HR := hide hr
  clear hb2 hr CG HB1
  cases r with
  | true =>
    go_wp2
    go_ret
    exact ⟨rfl, HB2.out⟩
  | false =>
    have HWT := hide (HR.out rfl)
    have CN := hide (new_ok [] (.slice none 0 0) w2 (RowAt.nil w2 66) (fun _ h => by cases h) (by simp) (by simp))
    clear HR
    go_wp2_with fail
    refine CN.out.mono ?_
    rintro e w3 ⟨b, k, rfl, hset, hbb, hkb, hb3⟩
    have HB3 := hide (below_on HB2.out hb3)
    have HS3 := hide hset
    have HBK : Hid (w.heap.size ≤ b ∧ w.heap.size ≤ k ∧ b < w3.heap.size ∧ k < w3.heap.size) := hide ⟨Nat.le_trans HB2.out.size hbb, Nat.le_trans HB2.out.size hkb, hset.lt, (hset.2.2.2 k rfl).2.lt⟩
    clear hset hbb hkb hb3 CN HB2
    go_upto_region 9 with (refine cw_const rfl 32 _ rfl (v := .agg #[.slice none 0 0]) (by kernel_rfl) ?_)
    have hbn := below_new w3 (.cells #[.slice none 0 0] 32)
    have HI0 : Hid (ActI w L (.pointer (some ⟨b, 0, none⟩)) (.pointer (some ⟨w3.heap.size, 0, none⟩)) (.int .i64 0) (w3.alloc (.cells #[.slice none 0 0] 32))) := hide ⟨0, b, k, w3.heap.size, [], [], Nat.zero_le _, rfl, rfl, rfl, below_on HB3.out hbn, HS3.out.on hbn, (by have := HBK.out; have := HB3.out.size; exact ⟨by omega, by omega, by omega, by omega, by omega⟩), doc_new _ _, List.Perm.refl _, List.Pairwise.nil, Nat.zero_le _⟩
    clear hbn HS3 HBK HB3
    generalize w3.alloc (.cells #[.slice none 0 0] 32) = w4 at *
    generalize w3.heap.size = mb at *
    go_wp2_with fail
    go_loopw [3, 5, 39] (fun s m i wr => ActI w L s m i wr) (fun _ _ i _ => L.length - (intOf i).toNat)
    case atStart => exact HI0.out
    case round =>
      clear HI0
      obtain ⟨j, b, k, mb, C, D, hj, rfl, rfl, rfl, hB, hset, hside, hdoc, hperm, hsort, hwt⟩ := hrel
      have HB := hide hB
      have HS := hide hset
      have HSIDE := hide hside
      have HDOC := hide hdoc
      have HPD := hide (show D.Perm C ∧ SortC D from ⟨hperm, hsort⟩)
      have HWC := hide hwt
      by_cases hlt : j < L.length
      · obtain ⟨x, hx⟩ : ∃ x, L[j]? = some x := ⟨_, List.getElem?_eq_getElem hlt⟩
        obtain ⟨b2, off2, rfl, hr⟩ := (HV.out.on hB).get hx
        have hxa := HV.out.2 x (List.mem_of_getElem? hx)
        have HXA := hide hxa
        have HXR := hide hr
        have HX := hide hx
        have H1 := hide hxa.one
        have HT : Hid (∀ w : World, (w.alloc (.cells #[.int .i64 0, .slice none 0 0, .slice none 0 0] 35)).there w.heap.size 0 (acC x).length) := hide ac_there
        have HN1 : Hid ((Try.prog.info? 35).map (·.size) = some (acC x).length) := hide info_ac
        have hk1 : (j : Int) < (L.length : Int) := by omega
        have hcv := hxa.1
        have hpv := hxa.2.1
        obtain ⟨xa, xc, hxv, -, -⟩ := hxa.1.form
        obtain ⟨ya, yc, hyv, hyc, hyc2⟩ := hxa.2.1.form
        rw [hxv] at hcv
        rw [hyv] at hpv
        have HCV := hide hcv
        have HPV := hide hpv
        have HXV := hide hxv
        have HYV := hide hyv
        have HWX : Hid (wtL (L.take (j + 1)) = wtL (L.take j) + (x.cs.length + x.ps.length) ∧ wtL (L.take (j + 1)) ≤ 500) := hide ⟨wtL_next hx, Nat.le_trans (wtL_le L _) HWT.out.2⟩
        clear hr hx hB hxa hxv hyv hcv hpv hset hside hdoc hperm hsort hwt
        go_upto_region 12 with (first | (refine wpList_load_mid rfl 35 (.tmp 41) rfl b2 (off2 + j * 3) rfl (acC x) _ HXR.out Try.underlying35 rfl HN1.out ?_) | (refine wp_store_row rfl 35 (.tmp 7) (.tmp 42) rfl wr.heap.size 0 (acC x) rfl rfl (HT.out wr) HN1.out H1.out ?_))
        have hW : ((wr.alloc (.cells #[.int .i64 0, .slice none 0 0, .slice none 0 0] 35)).setCells wr.heap.size 0 (acC x)).rangeAt wr.heap.size 0 (acC x) := World.rangeAt_setCells_same _ _ _ _ (HT.out wr)
        have hB2 : Below wr.heap.size wr ((wr.alloc (.cells #[.int .i64 0, .slice none 0 0, .slice none 0 0] 35)).setCells wr.heap.size 0 (acC x)) := below_sets (Nat.le_refl _) _ _ _ (below_new wr _)
        have HGB : Hid (b < wr.heap.size ∧ k < wr.heap.size ∧ mb < wr.heap.size ∧ wr.heap.size < ((wr.alloc (.cells #[.int .i64 0, .slice none 0 0, .slice none 0 0] 35)).setCells wr.heap.size 0 (acC x)).heap.size) := hide ⟨HS.out.lt, (HS.out.2.2.2 k rfl).2.lt, HDOC.out.lt, by rw [size_setCells, alloc_size]; omega⟩
        generalize (wr.alloc (.cells #[.int .i64 0, .slice none 0 0, .slice none 0 0] 35)).setCells wr.heap.size 0 (acC x) = W at *
        have c0 : W.cell? ⟨wr.heap.size, 0, none⟩ = some (.int .i64 x.kind) := hW 0 _ rfl
        have c1 : W.cell? ⟨wr.heap.size, 1, none⟩ = some (.slice xa x.cs.length xc) := by rw [← HXV.out]; exact hW 1 x.cv rfl
        have c2 : W.cell? ⟨wr.heap.size, 2, none⟩ = some (.slice ya x.ps.length yc) := by rw [← HYV.out]; exact hW 2 x.pv rfl
        have HBW := hide (below_on HB.out hB2)
        have HSW := hide (HS.out.on hB2)
        have HDW := hide (HDOC.out.on hB2)
        have HC1 := hide c1
        have HC2 := hide c2
        clear hW hB2 HXR H1 HT HB HS HDOC HXV HYV
        generalize wr.heap.size = gb at *
        generalize acC x = KX at *
        have HK300 : Hid (C.length ≤ 500 ∧ x.cs.length ≤ 500 ∧ x.ps.length ≤ 500) := hide (by
          have h1 := HWX.out
          have h2 := HWC.out
          exact ⟨by omega, by omega, by omega⟩)
        by_cases hk0 : x.kind = 0
        · rw [hk0] at c0
          go_upto_region 20 with fail
          clear c0 c1 c2
          obtain ⟨E, T, hTl, hput, hrput⟩ := put_is C D x.cs HPD.out.1 HPD.out.2 (by have := HK300.out; omega) (by have := HK300.out; omega) HXA.out.2.2.1
          have HPUT := hide hput
          have HRPUT := hide hrput
          have HLT : Hid (T.length ≤ wtL (L.take (j + 1))) := hide (by have := HWX.out; have := HWC.out; omega)
          clear hput hrput hTl
          refine wp_region_held_drew (S := fun wx => wx.cell? ⟨gb, 1, none⟩ = some (.slice xa x.cs.length xc)) (by kernel_rfl) HC1.out (fun hHeld => ?_)
          refine wpAnyH_take (i := 0) (oi := { dst := some 72, op := Op.move (Operand.tmp 3), type := 25, pos := "law.go:64", after := #[], guard := none }) (v := .pointer (some ⟨b, 0, none⟩)) rfl (by kernel_rfl) (by kernel_rfl) (by kernel_rfl) (fun _ _ _ h => h) (Or.inl ⟨by rfl, fun w _ => by go_simp⟩) (by assumption) ?_
          simp only [Act.put, List.setIfInBounds_toArray, List.set_cons_zero, List.set_cons_succ]
          refine wpAnyH_take (i := 1) (oi := { dst := some 73, op := Op.fieldAddr 35 (Operand.tmp 7) 1, type := 0, pos := "law.go:64", after := #[], guard := none }) (v := .pointer (some ⟨gb, 1, none⟩)) rfl (by kernel_rfl) (by kernel_rfl) (by kernel_rfl) (fun _ _ _ h => h) (Or.inl ⟨by rfl, fun w _ => by go_simp⟩) (by assumption) ?_
          simp only [Act.put, List.setIfInBounds_toArray, List.set_cons_zero, List.set_cons_succ]
          refine wpAnyH_take (i := 2) (oi := { dst := some 74, op := Op.load 30 (Operand.tmp 73), type := 30, pos := "law.go:64", after := #[{ on := 1, ground := Ground.data }], guard := none }) (v := .slice xa x.cs.length xc) rfl (by kernel_rfl) (by kernel_rfl) (by kernel_rfl) (fun _ _ _ h => h) (Or.inl ⟨by rfl, fun wx h => by have c0 := h; go_simp⟩) (by assumption) ?_
          simp only [Act.put, List.setIfInBounds_toArray, List.set_cons_zero, List.set_cons_succ]
          refine wpAnyH_take (i := 4) (oi := { dst := some 76, op := Op.move (Operand.tmp 5), type := 29, pos := "law.go:64", after := #[], guard := none }) (v := .pointer (some ⟨mb, 0, none⟩)) rfl (by kernel_rfl) (by kernel_rfl) (by kernel_rfl) (fun _ _ _ h => h) (Or.inl ⟨by rfl, fun w _ => by go_simp⟩) (by assumption) ?_
          simp only [Act.put, List.setIfInBounds_toArray, List.set_cons_zero, List.set_cons_succ]
          refine wpAnyH_take (i := 5) (oi := { dst := some 77, op := Op.fieldAddr 35 (Operand.tmp 7) 1, type := 0, pos := "law.go:64", after := #[], guard := none }) (v := .pointer (some ⟨gb, 1, none⟩)) rfl (by kernel_rfl) (by kernel_rfl) (by kernel_rfl) (fun _ _ _ h => h) (Or.inl ⟨by rfl, fun w _ => by go_simp⟩) (by assumption) ?_
          simp only [Act.put, List.setIfInBounds_toArray, List.set_cons_zero, List.set_cons_succ]
          refine wpAnyH_take (i := 6) (oi := { dst := some 78, op := Op.load 30 (Operand.tmp 77), type := 30, pos := "law.go:64", after := #[{ on := 5, ground := Ground.data }], guard := none }) (v := .slice xa x.cs.length xc) rfl (by kernel_rfl) (by kernel_rfl) (by kernel_rfl) (fun _ _ _ h => h) (Or.inl ⟨by rfl, fun wx h => by have c0 := h; go_simp⟩) (by assumption) ?_
          simp only [Act.put, List.setIfInBounds_toArray, List.set_cons_zero, List.set_cons_succ]
          refine wpAnyH_ready (rs := [3]) (by kernel_rfl) (by simp) (AllReadyH.cons (o := { dst := some 75, op := Op.call { callee := Callee.value (Operand.func 12), args := #[Operand.tmp 72, Operand.tmp 74], argTypes := #[25, 30] }, type := 26, pos := "law.go:64", after := #[{ on := 0, ground := Ground.data }, { on := 2, ground := Ground.data }], guard := none }) rfl (fun K hK => ?_) AllReadyH.nil)
          have HS0 := hide (HSW.out.on (Below.refl _ _).drew)
          have HD0 := hide (HDW.out.on (Below.refl _ _).drew)
          have HB0 := hide (below_on HBW.out (Below.refl _ _).drew)
          have HG0 : Hid (gb < W.drew.heap.size) := hide (Nat.lt_of_lt_of_le HGB.out.2.2.2 (Below.refl W.heap.size W).drew.size)
          have CP := hide (HPUT.out W.drew b k _ HS0.out (CnsAt.old HCV.out HB0.out fun g hg => ⟨by have := HSIDE.out; omega, by have := HSIDE.out; simp; omega⟩))
          refine cstep_go (vs := #[.pointer (some ⟨b, 0, none⟩), .slice xa x.cs.length xc]) (by rfl) 12 _ Try.func12 (by kernel_rfl) (by kernel_rfl) _ _ rfl (by simp [Act.eval]) ?_
          refine CP.out.mono ?_
          rintro e z1 ⟨rfl, hset, hbes⟩
          have HSH : z1.cell? ⟨gb, 1, none⟩ = some (.slice xa x.cs.length xc) := (World.cell?_of_block (w := W.drew) (a := ⟨gb, 1, none⟩) (hbes.block gb HG0.out (by have := HGB.out; omega) (by have := HGB.out; omega))).trans hHeld
          have HS1 := hide hset
          have HD1 := hide (HD0.out.besides hbes ⟨HSIDE.out.2.2.2.1, HSIDE.out.2.2.2.2⟩ fun g h => ⟨h.2.1, h.2.2⟩)
          have HB1 := hide (besides_below HB0.out hbes HSIDE.out.1 HSIDE.out.2.1 (Nat.le_refl _))
          have HG1 : Hid (gb < z1.heap.size) := hide (Nat.lt_of_lt_of_le HG0.out hbes.size)
          clear hset hbes CP HS0 HD0 HB0
          refine ⟨_, rfl, ?_⟩
          refine hK.out _ _ ?_ (fun hHeld => ?_)
          · exact HSH
          clear hK K
          try simp only [Act.put, List.setIfInBounds_toArray, List.set_cons_zero, List.set_cons_succ]
          refine wpAnyH_ready (rs := [7]) (by kernel_rfl) (by simp) (AllReadyH.cons (o := { dst := some 79, op := Op.call { callee := Callee.value (Operand.func 13), args := #[Operand.tmp 76, Operand.tmp 78], argTypes := #[29, 30] }, type := 26, pos := "law.go:64", after := #[{ on := 4, ground := Ground.data }, { on := 6, ground := Ground.data }, { on := 3, ground := Ground.chain }], guard := none }) rfl (fun K hK => ?_) AllReadyH.nil)
          have CR := hide (HRPUT.out z1 _ mb _ HD1.out (CnsAt.old HCV.out HB1.out fun g hg => ⟨by have := HSIDE.out; omega, by have := HSIDE.out; omega⟩))
          refine cstep_go (vs := #[.pointer (some ⟨mb, 0, none⟩), .slice xa x.cs.length xc]) (by rfl) 13 _ Try.func13 (by kernel_rfl) (by kernel_rfl) _ _ rfl (by simp [Act.eval]) ?_
          refine CR.out.mono ?_
          rintro e z2 ⟨rfl, hbes, DT, hp2, hs2, hdoc⟩
          have HSH : z2.cell? ⟨gb, 1, none⟩ = some (.slice xa x.cs.length xc) := (World.cell?_of_block (w := z1) (a := ⟨gb, 1, none⟩) (hbes.block gb HG1.out (by have := HGB.out; omega) (by have := HGB.out; omega))).trans hHeld
          have HST := hide (HS1.out.besides hbes ⟨fun e => HSIDE.out.2.2.2.1 e.symm, fun e => HSIDE.out.2.2.2.1 e.symm⟩ fun y hy => by cases hy; exact ⟨fun e => HSIDE.out.2.2.2.2 e.symm, fun e => HSIDE.out.2.2.2.2 e.symm⟩)
          have HDT : Hid (DocAt z2 (fun g => w.heap.size ≤ g ∧ g ≠ b ∧ g ≠ k) mb DT) := hide (hdoc.weak fun g h => by
            rcases h with h | h
            · exact h
            · have h1 := HGB.out
              have h2 := HG1.out
              have h3 := HB1.out.size
              exact ⟨by omega, by omega, by omega⟩)
          have HPT := hide (show DT.Perm T ∧ SortC DT from ⟨hp2, hs2⟩)
          have HBT := hide (besides_below HB1.out hbes HSIDE.out.2.2.1 HSIDE.out.2.2.1 (Nat.le_refl _))
          have HSIDE2 := HSIDE
          clear hbes hp2 hs2 hdoc CR HS1 HD1 HB1
          refine ⟨_, rfl, ?_⟩
          refine hK.out _ _ ?_ (fun hHeld => ?_)
          · exact HSH
          clear hK K
          try simp only [Act.put, List.setIfInBounds_toArray, List.set_cons_zero, List.set_cons_succ]
          refine wpAnyH_take (i := 8) (oi := { dst := some 80, op := Op.binOp BinOp.neq 26 (Operand.tmp 75) (Operand.tmp 79) 26, type := 4, pos := "law.go:64", after := #[{ on := 3, ground := Ground.data }, { on := 7, ground := Ground.data }], guard := none }) (v := .bool false) rfl (by kernel_rfl) (by kernel_rfl) (by kernel_rfl) (fun _ _ _ h => h) (Or.inl ⟨by rfl, fun w _ => by go_simp⟩) (by assumption) ?_
          simp only [Act.put, List.setIfInBounds_toArray, List.set_cons_zero, List.set_cons_succ]
          refine wpAnyH_done (by kernel_rfl) ?_ _
          clear hHeld HPUT HRPUT HSW HDW HBW
          go_upto_region 36 with fail
          obtain ⟨dv, hc0, hf0, hdv, hown, hdk⟩ := HDT.out
          have HC0 := hide hc0
          have HDK := hide hdk
          obtain ⟨da, dcap, rfl, -, -⟩ := hdv.form
          have HDV := hide hdv
          clear hc0 hf0 hdv hown hdk
          have HREL : Hid (∀ wx, Below z2.heap.size z2 wx → ActI w L (.pointer (some ⟨b, 0, none⟩)) (.pointer (some ⟨mb, 0, none⟩)) (.int .i64 ((j + 1 : Nat) : Int)) wx) := hide fun wx hx => ⟨j + 1, b, k, mb, T, DT, by omega, rfl, rfl, rfl, below_on HBT.out hx, HST.out.on hx, HSIDE2.out, HDT.out.on hx, HPT.out.1, HPT.out.2, HLT.out⟩
          have HLD : Hid (T.length ≤ 5000) := hide (by have := HLT.out; have := HWX.out; omega)
          refine wp_region_held_drew (S := fun wx => Below z2.heap.size z2 wx) (by kernel_rfl) (Below.refl _ _).drew (fun hHeld => ?_)
          refine wpAnyH_take (i := 0) (oi := { dst := some 136, op := Op.move (Operand.tmp 3), type := 25, pos := "law.go:91", after := #[], guard := none }) (v := .pointer (some ⟨b, 0, none⟩)) rfl (by kernel_rfl) (by kernel_rfl) (by kernel_rfl) (fun _ _ _ h => h) (Or.inl ⟨by rfl, fun w _ => by go_simp⟩) (by assumption) ?_
          simp only [Act.put, List.setIfInBounds_toArray, List.set_cons_zero, List.set_cons_succ]
          refine wpAnyH_take (i := 2) (oi := { dst := some 138, op := Op.move (Operand.tmp 5), type := 29, pos := "law.go:91", after := #[], guard := none }) (v := .pointer (some ⟨mb, 0, none⟩)) rfl (by kernel_rfl) (by kernel_rfl) (by kernel_rfl) (fun _ _ _ h => h) (Or.inl ⟨by rfl, fun w _ => by go_simp⟩) (by assumption) ?_
          simp only [Act.put, List.setIfInBounds_toArray, List.set_cons_zero, List.set_cons_succ]
          refine wpAnyH_take (i := 3) (oi := { dst := some 139, op := Op.nilCheck (Operand.tmp 138), type := 0, pos := "law.go:91", after := #[{ on := 2, ground := Ground.data }], guard := none }) (v := .pointer (some ⟨mb, 0, none⟩)) rfl (by kernel_rfl) (by kernel_rfl) (by kernel_rfl) (fun _ _ _ h => h) (Or.inl ⟨by rfl, fun w _ => by go_simp⟩) (by assumption) ?_
          simp only [Act.put, List.setIfInBounds_toArray, List.set_cons_zero, List.set_cons_succ]
          refine wpAnyH_take (i := 4) (oi := { dst := some 140, op := Op.fieldAddr 32 (Operand.tmp 139) 0, type := 0, pos := "law.go:91", after := #[{ on := 3, ground := Ground.data }], guard := none }) (v := .pointer (some ⟨mb, 0, none⟩)) rfl (by kernel_rfl) (by kernel_rfl) (by kernel_rfl) (fun _ _ _ h => h) (Or.inl ⟨by rfl, fun w _ => by go_simp⟩) (by assumption) ?_
          simp only [Act.put, List.setIfInBounds_toArray, List.set_cons_zero, List.set_cons_succ]
          refine wpAnyH_take (i := 5) (oi := { dst := some 141, op := Op.load 30 (Operand.tmp 140), type := 30, pos := "law.go:91", after := #[{ on := 4, ground := Ground.data }], guard := none }) (v := .slice da DT.length dcap) rfl (by kernel_rfl) (by kernel_rfl) (by kernel_rfl) (fun _ _ _ h => h) (Or.inl ⟨by rfl, fun wx h => by have c0 := (h.cell HDT.out.lt).trans HC0.out; go_simp⟩) (by assumption) ?_
          simp only [Act.put, List.setIfInBounds_toArray, List.set_cons_zero, List.set_cons_succ]
          refine wpAnyH_ready (rs := [1]) (by kernel_rfl) (by simp) (AllReadyH.cons (o := { dst := some 137, op := Op.call { callee := Callee.value (Operand.func 20), args := #[Operand.tmp 136], argTypes := #[25] }, type := 30, pos := "law.go:91", after := #[{ on := 0, ground := Ground.data }], guard := none }) rfl (fun K hK => ?_) AllReadyH.nil)
          have CA := hide (all_any z2.drew b k T (HST.out.on hHeld) HLD.out)
          refine cstep_go (vs := #[.pointer (some ⟨b, 0, none⟩)]) (by rfl) 20 _ Try.func20 (by kernel_rfl) (by kernel_rfl) _ _ rfl (by simp [Act.eval]) ?_
          refine CA.out.mono ?_
          rintro e y1 ⟨u1, M1, rfl, hp1, hs1, hr1, hy⟩
          rw [sort_unique hs1 HPT.out.2 (hp1.trans HPT.out.1.symm)] at hr1
          have HR1 : Hid (CnsAt y1 u1 DT) := hide hr1.row
          have HSH := below_on hHeld hy
          clear hp1 hs1 hr1 hy CA
          refine ⟨_, rfl, ?_⟩
          refine hK.out _ _ ?_ (fun hHeld => ?_)
          · exact HSH
          clear hK K
          try simp only [Act.put, List.setIfInBounds_toArray, List.set_cons_zero, List.set_cons_succ]
          refine wpAnyH_ready (rs := [6]) (by kernel_rfl) (by simp) (AllReadyH.cons (o := { dst := some 142, op := Op.call { callee := Callee.value (Operand.func 19), args := #[Operand.tmp 137, Operand.tmp 141], argTypes := #[30, 30] }, type := 4, pos := "law.go:91", after := #[{ on := 1, ground := Ground.data }, { on := 5, ground := Ground.data }, { on := 1, ground := Ground.chain }], guard := none }) rfl (fun K hK => ?_) AllReadyH.nil)
          have CS := hide (rsamecn_eq DT u1 _ y1 HR1.out (HDV.out.on hHeld) HDK.out)
          refine cstep_go (vs := #[u1, .slice da DT.length dcap]) (by rfl) 19 _ Try.func19 (by kernel_rfl) (by kernel_rfl) _ _ rfl (by simp [Act.eval]) ?_
          refine CS.out.mono ?_
          rintro e y2 ⟨rfl, hy⟩
          have HSH := below_on hHeld hy
          clear hy CS HR1
          refine ⟨_, rfl, ?_⟩
          refine hK.out _ _ ?_ (fun hHeld => ?_)
          · exact HSH
          clear hK K
          try simp only [Act.put, List.setIfInBounds_toArray, List.set_cons_zero, List.set_cons_succ]
          refine wpAnyH_take (i := 7) (oi := { dst := some 143, op := Op.unOp UnOp.not 4 (Operand.tmp 142), type := 4, pos := "law.go:91", after := #[{ on := 6, ground := Ground.data }], guard := none }) (v := .bool false) rfl (by kernel_rfl) (by kernel_rfl) (by kernel_rfl) (fun _ _ _ h => h) (Or.inl ⟨by rfl, fun w _ => by go_simp⟩) (by assumption) ?_
          simp only [Act.put, List.setIfInBounds_toArray, List.set_cons_zero, List.set_cons_succ]
          refine wpAnyH_take (i := 8) (oi := { dst := some 144, op := Op.move (Operand.tmp 143), type := 4, pos := "law.go:91", after := #[{ on := 7, ground := Ground.data }, { on := 6, ground := Ground.chain }], guard := none }) (v := .bool false) rfl (by kernel_rfl) (by kernel_rfl) (by kernel_rfl) (fun _ _ _ h => h) (Or.inl ⟨by rfl, fun w _ => by go_simp⟩) (by assumption) ?_
          simp only [Act.put, List.setIfInBounds_toArray, List.set_cons_zero, List.set_cons_succ]
          refine wpAnyH_take (i := 9) (oi := { dst := some 145, op := Op.move (Operand.tmp 3), type := 25, pos := "law.go:91", after := #[{ on := 8, ground := Ground.guard }], guard := some (8, false) }) (v := .pointer (some ⟨b, 0, none⟩)) rfl (by kernel_rfl) (by kernel_rfl) (by kernel_rfl) (fun _ _ _ h => h) (Or.inl ⟨by rfl, fun w _ => by go_simp⟩) (by assumption) ?_
          simp only [Act.put, List.setIfInBounds_toArray, List.set_cons_zero, List.set_cons_succ]
          refine wpAnyH_take (i := 11) (oi := { dst := some 147, op := Op.move (Operand.tmp 5), type := 29, pos := "law.go:91", after := #[{ on := 8, ground := Ground.guard }], guard := some (8, false) }) (v := .pointer (some ⟨mb, 0, none⟩)) rfl (by kernel_rfl) (by kernel_rfl) (by kernel_rfl) (fun _ _ _ h => h) (Or.inl ⟨by rfl, fun w _ => by go_simp⟩) (by assumption) ?_
          simp only [Act.put, List.setIfInBounds_toArray, List.set_cons_zero, List.set_cons_succ]
          refine wpAnyH_take (i := 12) (oi := { dst := some 148, op := Op.nilCheck (Operand.tmp 147), type := 0, pos := "law.go:91", after := #[{ on := 11, ground := Ground.data }, { on := 8, ground := Ground.guard }], guard := some (8, false) }) (v := .pointer (some ⟨mb, 0, none⟩)) rfl (by kernel_rfl) (by kernel_rfl) (by kernel_rfl) (fun _ _ _ h => h) (Or.inl ⟨by rfl, fun w _ => by go_simp⟩) (by assumption) ?_
          simp only [Act.put, List.setIfInBounds_toArray, List.set_cons_zero, List.set_cons_succ]
          refine wpAnyH_take (i := 13) (oi := { dst := some 149, op := Op.fieldAddr 32 (Operand.tmp 148) 0, type := 0, pos := "law.go:91", after := #[{ on := 12, ground := Ground.data }, { on := 8, ground := Ground.guard }], guard := some (8, false) }) (v := .pointer (some ⟨mb, 0, none⟩)) rfl (by kernel_rfl) (by kernel_rfl) (by kernel_rfl) (fun _ _ _ h => h) (Or.inl ⟨by rfl, fun w _ => by go_simp⟩) (by assumption) ?_
          simp only [Act.put, List.setIfInBounds_toArray, List.set_cons_zero, List.set_cons_succ]
          refine wpAnyH_take (i := 14) (oi := { dst := some 150, op := Op.load 30 (Operand.tmp 149), type := 30, pos := "law.go:91", after := #[{ on := 13, ground := Ground.data }, { on := 8, ground := Ground.guard }], guard := some (8, false) }) (v := .slice da DT.length dcap) rfl (by kernel_rfl) (by kernel_rfl) (by kernel_rfl) (fun _ _ _ h => h) (Or.inl ⟨by rfl, fun wx h => by have c0 := (h.cell HDT.out.lt).trans HC0.out; go_simp⟩) (by assumption) ?_
          simp only [Act.put, List.setIfInBounds_toArray, List.set_cons_zero, List.set_cons_succ]
          refine wpAnyH_take (i := 15) (oi := { dst := some 151, op := Op.call { callee := Callee.builtin Builtin.len, args := #[Operand.tmp 150], argTypes := #[30] }, type := 3, pos := "law.go:91", after := #[{ on := 14, ground := Ground.data }, { on := 8, ground := Ground.guard }], guard := some (8, false) }) (v := .int .i64 DT.length) rfl (by kernel_rfl) (by kernel_rfl) (by kernel_rfl) (fun _ _ _ h => h) (Or.inl ⟨by rfl, fun w _ => by go_simp⟩) (by assumption) ?_
          simp only [Act.put, List.setIfInBounds_toArray, List.set_cons_zero, List.set_cons_succ]
          refine wpAnyH_ready (rs := [10]) (by kernel_rfl) (by simp) (AllReadyH.cons (o := { dst := some 146, op := Op.call { callee := Callee.value (Operand.func 21), args := #[Operand.tmp 145], argTypes := #[25] }, type := 3, pos := "law.go:91", after := #[{ on := 9, ground := Ground.data }, { on := 8, ground := Ground.chain }, { on := 8, ground := Ground.guard }], guard := some (8, false) }) rfl (fun K hK => ?_) AllReadyH.nil)
          have CL := len_any y2 b (some k) T (HST.out.on hHeld)
          rw [← HPT.out.1.length_eq] at CL
          refine cstep_go (vs := #[.pointer (some ⟨b, 0, none⟩)]) (by rfl) 21 _ Try.func21 (by kernel_rfl) (by kernel_rfl) _ _ rfl (by simp [Act.eval]) ?_
          refine CL.mono ?_
          rintro e y3 ⟨rfl, hy⟩
          rw [hy]
          clear hy CL
          have HSH := hHeld
          refine ⟨_, rfl, ?_⟩
          refine hK.out _ _ ?_ (fun hHeld => ?_)
          · exact HSH
          clear hK K
          try simp only [Act.put, List.setIfInBounds_toArray, List.set_cons_zero, List.set_cons_succ]
          refine wpAnyH_take (i := 16) (oi := { dst := some 152, op := Op.binOp BinOp.neq 3 (Operand.tmp 146) (Operand.tmp 151) 3, type := 4, pos := "law.go:91", after := #[{ on := 10, ground := Ground.data }, { on := 15, ground := Ground.data }, { on := 8, ground := Ground.guard }], guard := some (8, false) }) (v := .bool false) rfl (by kernel_rfl) (by kernel_rfl) (by kernel_rfl) (fun _ _ _ h => h) (Or.inl ⟨by rfl, fun w _ => by go_simp⟩) (by assumption) ?_
          simp only [Act.put, List.setIfInBounds_toArray, List.set_cons_zero, List.set_cons_succ]
          refine wpAnyH_take (i := 17) (oi := { dst := some 153, op := Op.pick (Operand.tmp 144) (Operand.const (Value.bool true)) (Operand.tmp 152), type := 4, pos := "law.go:91", after := #[{ on := 8, ground := Ground.data }, { on := 16, ground := Ground.data }], guard := none }) (v := .bool false) rfl (by kernel_rfl) (by kernel_rfl) (by kernel_rfl) (fun _ _ _ h => h) (Or.inl ⟨by rfl, fun w _ => by go_simp⟩) (by assumption) ?_
          simp only [Act.put, List.setIfInBounds_toArray, List.set_cons_zero, List.set_cons_succ]
          refine wpAnyH_done (by kernel_rfl) ?_ _
          have R := hide (HREL.out _ hHeld)
          clear hHeld HREL
          go_wp2
          go_roundw
          case rel => first | exact R.out | ((repeat apply Exists.intro); exact ⟨R.out, rfl⟩)
          case measure => simp [intOf]; omega
        · by_cases hkk : x.kind = 1
          · rw [hkk] at c0
            obtain ⟨E, T, M, hTl, hMk, htk, hrtk⟩ := take_is C D x.ps HPD.out.1 HPD.out.2 (by have := HK300.out; omega) (by have := HK300.out; omega) HXA.out.2.2.2 HSW.out.ok.2
            have HTK := hide htk
            have HRTK := hide hrtk
            have HMK := hide hMk
            have HLT : Hid (T.length ≤ wtL (L.take (j + 1))) := hide (by have := HWX.out; have := HWC.out; omega)
            have CP := hide (htk W b k _ HSW.out (PsAt.old HPV.out HBW.out fun g hg => ⟨by have := HSIDE.out; omega, by have := HSIDE.out; simp; omega⟩))
            clear htk hrtk hMk hTl
            go_wp2_with fail
            clear c0 c1 c2
            refine CP.out.mono ?_
            rintro e z1 ⟨v1, rfl, hset, hbes, hrow, hown⟩
            have c2 : z1.cell? ⟨gb, 2, none⟩ = some (.slice ya x.ps.length yc) := (World.cell?_of_block (w := W) (a := ⟨gb, 2, none⟩) (hbes.block gb HGB.out.2.2.2 (by have := HGB.out; omega) (by have := HGB.out; omega))).trans HC2.out
            have HS1 := hide hset
            have HD1 := hide (HDW.out.besides hbes ⟨HSIDE.out.2.2.2.1, HSIDE.out.2.2.2.2⟩ fun g h => ⟨h.2.1, h.2.2⟩)
            have HB1 := hide (besides_below HBW.out hbes HSIDE.out.1 HSIDE.out.2.1 (Nat.le_refl _))
            have HG1 : Hid (gb < z1.heap.size) := hide (Nat.lt_of_lt_of_le HGB.out.2.2.2 hbes.size)
            have HROW1 := hide hrow
            have HOWN1 : Hid (∀ g, v1.ownBlock = some g → g ≠ mb) := hide (fun g hg e => by have h1 := hown g hg; have h2 := HGB.out; omega)
            have CR := hide (HRTK.out z1 _ mb _ HD1.out (HPV.out.on HB1.out))
            clear hset hbes hrow hown CP HSW HDW HTK HRTK
            go_wp2_with fail
            clear c2
            refine CR.out.mono ?_
            rintro e z2 ⟨v2, rfl, hbes, hrow, DT, hp2, hs2, hdoc⟩
            have HS2 := hide (HS1.out.besides hbes ⟨fun e => HSIDE.out.2.2.2.1 e.symm, fun e => HSIDE.out.2.2.2.1 e.symm⟩ fun y hy => by cases hy; exact ⟨fun e => HSIDE.out.2.2.2.2 e.symm, fun e => HSIDE.out.2.2.2.2 e.symm⟩)
            have HD2 : Hid (DocAt z2 (fun g => w.heap.size ≤ g ∧ g ≠ b ∧ g ≠ k) mb DT) := hide (hdoc.weak fun g h => by
              rcases h with h | h
              · exact h
              · have h1 := HGB.out
                have h2 := HG1.out
                have h3 := HB1.out.size
                exact ⟨by omega, by omega, by omega⟩)
            have HPT := hide (show DT.Perm T ∧ SortC DT from ⟨hp2, hs2⟩)
            have HB2 := hide (besides_below HB1.out hbes HSIDE.out.2.2.1 HSIDE.out.2.2.1 (Nat.le_refl _))
            have CO := hide (rsameouts_eq M v1 v2 z2 ((RowAt.keeps (P := fun g => g ≠ mb) HROW1.out HOWN1.out) z2 fun g hg hP => hbes.block g hg hP hP) hrow HMK.out)
            have HSIDE2 := HSIDE
            clear hbes hrow hp2 hs2 hdoc CR HS1 HD1 HROW1 HOWN1
            go_wp2_with fail
            refine CO.out.mono ?_
            rintro e z3 ⟨rfl, hz⟩
            have HST := hide (HS2.out.on hz)
            have HDT := hide (HD2.out.on hz)
            have HBT := hide (below_on HB2.out hz)
            clear hz CO HS2 HD2 HB2
            go_upto_region 36 with fail
            obtain ⟨dv, hc0, hf0, hdv, hown, hdk⟩ := HDT.out
            have HC0 := hide hc0
            have HDK := hide hdk
            obtain ⟨da, dcap, rfl, -, -⟩ := hdv.form
            have HDV := hide hdv
            clear hc0 hf0 hdv hown hdk
            have HREL : Hid (∀ wx, Below z3.heap.size z3 wx → ActI w L (.pointer (some ⟨b, 0, none⟩)) (.pointer (some ⟨mb, 0, none⟩)) (.int .i64 ((j + 1 : Nat) : Int)) wx) := hide fun wx hx => ⟨j + 1, b, k, mb, T, DT, by omega, rfl, rfl, rfl, below_on HBT.out hx, HST.out.on hx, HSIDE2.out, HDT.out.on hx, HPT.out.1, HPT.out.2, HLT.out⟩
            have HLD : Hid (T.length ≤ 5000) := hide (by have := HLT.out; have := HWX.out; omega)
            refine wp_region_held_drew (S := fun wx => Below z3.heap.size z3 wx) (by kernel_rfl) (Below.refl _ _).drew (fun hHeld => ?_)
            refine wpAnyH_take (i := 0) (oi := { dst := some 136, op := Op.move (Operand.tmp 3), type := 25, pos := "law.go:91", after := #[], guard := none }) (v := .pointer (some ⟨b, 0, none⟩)) rfl (by kernel_rfl) (by kernel_rfl) (by kernel_rfl) (fun _ _ _ h => h) (Or.inl ⟨by rfl, fun w _ => by go_simp⟩) (by assumption) ?_
            simp only [Act.put, List.setIfInBounds_toArray, List.set_cons_zero, List.set_cons_succ]
            refine wpAnyH_take (i := 2) (oi := { dst := some 138, op := Op.move (Operand.tmp 5), type := 29, pos := "law.go:91", after := #[], guard := none }) (v := .pointer (some ⟨mb, 0, none⟩)) rfl (by kernel_rfl) (by kernel_rfl) (by kernel_rfl) (fun _ _ _ h => h) (Or.inl ⟨by rfl, fun w _ => by go_simp⟩) (by assumption) ?_
            simp only [Act.put, List.setIfInBounds_toArray, List.set_cons_zero, List.set_cons_succ]
            refine wpAnyH_take (i := 3) (oi := { dst := some 139, op := Op.nilCheck (Operand.tmp 138), type := 0, pos := "law.go:91", after := #[{ on := 2, ground := Ground.data }], guard := none }) (v := .pointer (some ⟨mb, 0, none⟩)) rfl (by kernel_rfl) (by kernel_rfl) (by kernel_rfl) (fun _ _ _ h => h) (Or.inl ⟨by rfl, fun w _ => by go_simp⟩) (by assumption) ?_
            simp only [Act.put, List.setIfInBounds_toArray, List.set_cons_zero, List.set_cons_succ]
            refine wpAnyH_take (i := 4) (oi := { dst := some 140, op := Op.fieldAddr 32 (Operand.tmp 139) 0, type := 0, pos := "law.go:91", after := #[{ on := 3, ground := Ground.data }], guard := none }) (v := .pointer (some ⟨mb, 0, none⟩)) rfl (by kernel_rfl) (by kernel_rfl) (by kernel_rfl) (fun _ _ _ h => h) (Or.inl ⟨by rfl, fun w _ => by go_simp⟩) (by assumption) ?_
            simp only [Act.put, List.setIfInBounds_toArray, List.set_cons_zero, List.set_cons_succ]
            refine wpAnyH_take (i := 5) (oi := { dst := some 141, op := Op.load 30 (Operand.tmp 140), type := 30, pos := "law.go:91", after := #[{ on := 4, ground := Ground.data }], guard := none }) (v := .slice da DT.length dcap) rfl (by kernel_rfl) (by kernel_rfl) (by kernel_rfl) (fun _ _ _ h => h) (Or.inl ⟨by rfl, fun wx h => by have c0 := (h.cell HDT.out.lt).trans HC0.out; go_simp⟩) (by assumption) ?_
            simp only [Act.put, List.setIfInBounds_toArray, List.set_cons_zero, List.set_cons_succ]
            refine wpAnyH_ready (rs := [1]) (by kernel_rfl) (by simp) (AllReadyH.cons (o := { dst := some 137, op := Op.call { callee := Callee.value (Operand.func 20), args := #[Operand.tmp 136], argTypes := #[25] }, type := 30, pos := "law.go:91", after := #[{ on := 0, ground := Ground.data }], guard := none }) rfl (fun K hK => ?_) AllReadyH.nil)
            have CA := hide (all_any z3.drew b k T (HST.out.on hHeld) HLD.out)
            refine cstep_go (vs := #[.pointer (some ⟨b, 0, none⟩)]) (by rfl) 20 _ Try.func20 (by kernel_rfl) (by kernel_rfl) _ _ rfl (by simp [Act.eval]) ?_
            refine CA.out.mono ?_
            rintro e y1 ⟨u1, M1, rfl, hp1, hs1, hr1, hy⟩
            rw [sort_unique hs1 HPT.out.2 (hp1.trans HPT.out.1.symm)] at hr1
            have HR1 : Hid (CnsAt y1 u1 DT) := hide hr1.row
            have HSH := below_on hHeld hy
            clear hp1 hs1 hr1 hy CA
            refine ⟨_, rfl, ?_⟩
            refine hK.out _ _ ?_ (fun hHeld => ?_)
            · exact HSH
            clear hK K
            try simp only [Act.put, List.setIfInBounds_toArray, List.set_cons_zero, List.set_cons_succ]
            refine wpAnyH_ready (rs := [6]) (by kernel_rfl) (by simp) (AllReadyH.cons (o := { dst := some 142, op := Op.call { callee := Callee.value (Operand.func 19), args := #[Operand.tmp 137, Operand.tmp 141], argTypes := #[30, 30] }, type := 4, pos := "law.go:91", after := #[{ on := 1, ground := Ground.data }, { on := 5, ground := Ground.data }, { on := 1, ground := Ground.chain }], guard := none }) rfl (fun K hK => ?_) AllReadyH.nil)
            have CS := hide (rsamecn_eq DT u1 _ y1 HR1.out (HDV.out.on hHeld) HDK.out)
            refine cstep_go (vs := #[u1, .slice da DT.length dcap]) (by rfl) 19 _ Try.func19 (by kernel_rfl) (by kernel_rfl) _ _ rfl (by simp [Act.eval]) ?_
            refine CS.out.mono ?_
            rintro e y2 ⟨rfl, hy⟩
            have HSH := below_on hHeld hy
            clear hy CS HR1
            refine ⟨_, rfl, ?_⟩
            refine hK.out _ _ ?_ (fun hHeld => ?_)
            · exact HSH
            clear hK K
            try simp only [Act.put, List.setIfInBounds_toArray, List.set_cons_zero, List.set_cons_succ]
            refine wpAnyH_take (i := 7) (oi := { dst := some 143, op := Op.unOp UnOp.not 4 (Operand.tmp 142), type := 4, pos := "law.go:91", after := #[{ on := 6, ground := Ground.data }], guard := none }) (v := .bool false) rfl (by kernel_rfl) (by kernel_rfl) (by kernel_rfl) (fun _ _ _ h => h) (Or.inl ⟨by rfl, fun w _ => by go_simp⟩) (by assumption) ?_
            simp only [Act.put, List.setIfInBounds_toArray, List.set_cons_zero, List.set_cons_succ]
            refine wpAnyH_take (i := 8) (oi := { dst := some 144, op := Op.move (Operand.tmp 143), type := 4, pos := "law.go:91", after := #[{ on := 7, ground := Ground.data }, { on := 6, ground := Ground.chain }], guard := none }) (v := .bool false) rfl (by kernel_rfl) (by kernel_rfl) (by kernel_rfl) (fun _ _ _ h => h) (Or.inl ⟨by rfl, fun w _ => by go_simp⟩) (by assumption) ?_
            simp only [Act.put, List.setIfInBounds_toArray, List.set_cons_zero, List.set_cons_succ]
            refine wpAnyH_take (i := 9) (oi := { dst := some 145, op := Op.move (Operand.tmp 3), type := 25, pos := "law.go:91", after := #[{ on := 8, ground := Ground.guard }], guard := some (8, false) }) (v := .pointer (some ⟨b, 0, none⟩)) rfl (by kernel_rfl) (by kernel_rfl) (by kernel_rfl) (fun _ _ _ h => h) (Or.inl ⟨by rfl, fun w _ => by go_simp⟩) (by assumption) ?_
            simp only [Act.put, List.setIfInBounds_toArray, List.set_cons_zero, List.set_cons_succ]
            refine wpAnyH_take (i := 11) (oi := { dst := some 147, op := Op.move (Operand.tmp 5), type := 29, pos := "law.go:91", after := #[{ on := 8, ground := Ground.guard }], guard := some (8, false) }) (v := .pointer (some ⟨mb, 0, none⟩)) rfl (by kernel_rfl) (by kernel_rfl) (by kernel_rfl) (fun _ _ _ h => h) (Or.inl ⟨by rfl, fun w _ => by go_simp⟩) (by assumption) ?_
            simp only [Act.put, List.setIfInBounds_toArray, List.set_cons_zero, List.set_cons_succ]
            refine wpAnyH_take (i := 12) (oi := { dst := some 148, op := Op.nilCheck (Operand.tmp 147), type := 0, pos := "law.go:91", after := #[{ on := 11, ground := Ground.data }, { on := 8, ground := Ground.guard }], guard := some (8, false) }) (v := .pointer (some ⟨mb, 0, none⟩)) rfl (by kernel_rfl) (by kernel_rfl) (by kernel_rfl) (fun _ _ _ h => h) (Or.inl ⟨by rfl, fun w _ => by go_simp⟩) (by assumption) ?_
            simp only [Act.put, List.setIfInBounds_toArray, List.set_cons_zero, List.set_cons_succ]
            refine wpAnyH_take (i := 13) (oi := { dst := some 149, op := Op.fieldAddr 32 (Operand.tmp 148) 0, type := 0, pos := "law.go:91", after := #[{ on := 12, ground := Ground.data }, { on := 8, ground := Ground.guard }], guard := some (8, false) }) (v := .pointer (some ⟨mb, 0, none⟩)) rfl (by kernel_rfl) (by kernel_rfl) (by kernel_rfl) (fun _ _ _ h => h) (Or.inl ⟨by rfl, fun w _ => by go_simp⟩) (by assumption) ?_
            simp only [Act.put, List.setIfInBounds_toArray, List.set_cons_zero, List.set_cons_succ]
            refine wpAnyH_take (i := 14) (oi := { dst := some 150, op := Op.load 30 (Operand.tmp 149), type := 30, pos := "law.go:91", after := #[{ on := 13, ground := Ground.data }, { on := 8, ground := Ground.guard }], guard := some (8, false) }) (v := .slice da DT.length dcap) rfl (by kernel_rfl) (by kernel_rfl) (by kernel_rfl) (fun _ _ _ h => h) (Or.inl ⟨by rfl, fun wx h => by have c0 := (h.cell HDT.out.lt).trans HC0.out; go_simp⟩) (by assumption) ?_
            simp only [Act.put, List.setIfInBounds_toArray, List.set_cons_zero, List.set_cons_succ]
            refine wpAnyH_take (i := 15) (oi := { dst := some 151, op := Op.call { callee := Callee.builtin Builtin.len, args := #[Operand.tmp 150], argTypes := #[30] }, type := 3, pos := "law.go:91", after := #[{ on := 14, ground := Ground.data }, { on := 8, ground := Ground.guard }], guard := some (8, false) }) (v := .int .i64 DT.length) rfl (by kernel_rfl) (by kernel_rfl) (by kernel_rfl) (fun _ _ _ h => h) (Or.inl ⟨by rfl, fun w _ => by go_simp⟩) (by assumption) ?_
            simp only [Act.put, List.setIfInBounds_toArray, List.set_cons_zero, List.set_cons_succ]
            refine wpAnyH_ready (rs := [10]) (by kernel_rfl) (by simp) (AllReadyH.cons (o := { dst := some 146, op := Op.call { callee := Callee.value (Operand.func 21), args := #[Operand.tmp 145], argTypes := #[25] }, type := 3, pos := "law.go:91", after := #[{ on := 9, ground := Ground.data }, { on := 8, ground := Ground.chain }, { on := 8, ground := Ground.guard }], guard := some (8, false) }) rfl (fun K hK => ?_) AllReadyH.nil)
            have CL := len_any y2 b (some k) T (HST.out.on hHeld)
            rw [← HPT.out.1.length_eq] at CL
            refine cstep_go (vs := #[.pointer (some ⟨b, 0, none⟩)]) (by rfl) 21 _ Try.func21 (by kernel_rfl) (by kernel_rfl) _ _ rfl (by simp [Act.eval]) ?_
            refine CL.mono ?_
            rintro e y3 ⟨rfl, hy⟩
            rw [hy]
            clear hy CL
            have HSH := hHeld
            refine ⟨_, rfl, ?_⟩
            refine hK.out _ _ ?_ (fun hHeld => ?_)
            · exact HSH
            clear hK K
            try simp only [Act.put, List.setIfInBounds_toArray, List.set_cons_zero, List.set_cons_succ]
            refine wpAnyH_take (i := 16) (oi := { dst := some 152, op := Op.binOp BinOp.neq 3 (Operand.tmp 146) (Operand.tmp 151) 3, type := 4, pos := "law.go:91", after := #[{ on := 10, ground := Ground.data }, { on := 15, ground := Ground.data }, { on := 8, ground := Ground.guard }], guard := some (8, false) }) (v := .bool false) rfl (by kernel_rfl) (by kernel_rfl) (by kernel_rfl) (fun _ _ _ h => h) (Or.inl ⟨by rfl, fun w _ => by go_simp⟩) (by assumption) ?_
            simp only [Act.put, List.setIfInBounds_toArray, List.set_cons_zero, List.set_cons_succ]
            refine wpAnyH_take (i := 17) (oi := { dst := some 153, op := Op.pick (Operand.tmp 144) (Operand.const (Value.bool true)) (Operand.tmp 152), type := 4, pos := "law.go:91", after := #[{ on := 8, ground := Ground.data }, { on := 16, ground := Ground.data }], guard := none }) (v := .bool false) rfl (by kernel_rfl) (by kernel_rfl) (by kernel_rfl) (fun _ _ _ h => h) (Or.inl ⟨by rfl, fun w _ => by go_simp⟩) (by assumption) ?_
            simp only [Act.put, List.setIfInBounds_toArray, List.set_cons_zero, List.set_cons_succ]
            refine wpAnyH_done (by kernel_rfl) ?_ _
            have R := hide (HREL.out _ hHeld)
            clear hHeld HREL
            go_wp2
            go_roundw
            case rel => first | exact R.out | ((repeat apply Exists.intro); exact ⟨R.out, rfl⟩)
            case measure => simp [intOf]; omega
          · by_cases hk2 : x.kind = 2
            · rw [hk2] at c0
              have HF0 : Hid (ActF W x.ps (.int .i64 0) W) := hide ⟨0, Nat.zero_le _, rfl, Below.refl _ _⟩
              obtain ⟨w7, rfl⟩ : ∃ u, u = wr := ⟨_, rfl⟩
              go_wp2_with fail
              clear c0 c1 c2
              go_loopw [111] (fun i wr => ActF W x.ps i wr) (fun i _ => x.ps.length - (intOf i).toNat)
              case atStart => exact HF0.out
              case round =>
                clear HF0
                obtain ⟨q, hq, rfl, hB⟩ := hrel
                have HBQ := hide hB
                by_cases hlt2 : q < x.ps.length
                · obtain ⟨p, hp⟩ : ∃ p, x.ps[q]? = some p := ⟨_, List.getElem?_eq_getElem hlt2⟩
                  obtain ⟨b5, off5, rfl, hr⟩ := (HPV.out.on (below_on HBW.out hB)).get hp
                  have hpo := HXA.out.2.2.2 p (List.mem_of_getElem? hp)
                  have HPO := hide hpo
                  have HPR := hide hr
                  have HNP : Hid ((Try.prog.info? 47).map (·.size) = some (pC p).length) := hide (by rw [pC_length hpo]; exact info_pt)
                  have HP1 : Hid (∀ u ∈ pC p, u.oneCell' = true) := hide (pC_one p)
                  have HTP : Hid (∀ w : World, (w.alloc (.cells #[.int .u8 0, .int .u8 0, .int .u8 0, .int .u8 0, .int .u8 0, .int .u8 0, .int .u8 0, .int .u8 0, .int .u8 0, .int .u8 0, .int .u8 0, .int .u8 0, .int .u8 0, .int .u8 0, .int .u8 0, .int .u8 0, .int .u8 0, .int .u8 0, .int .u8 0, .int .u8 0, .int .u8 0, .int .u8 0, .int .u8 0, .int .u8 0, .int .u8 0, .int .u8 0, .int .u8 0, .int .u8 0, .int .u8 0, .int .u8 0, .int .u8 0, .int .u8 0, .int .u32 0] 47)).there w.heap.size 0 (pC p).length) := hide (fun w => by rw [pC_length hpo]; exact p_there w)
                  have hk4 : (q : Int) < (x.ps.length : Int) := by omega
                  clear hr hp hpo hB
                  go_upto_region 31 with (first | (refine wpList_load_mid rfl 47 (.tmp 113) rfl b5 (off5 + q * 33) rfl (pC p) _ HPR.out Try.underlying47 rfl HNP.out ?_) | (refine wp_store_row rfl 47 (.tmp 13) (.tmp 114) rfl wr.heap.size 0 (pC p) rfl rfl (HTP.out wr) HNP.out HP1.out ?_))
                  have hW : ((wr.alloc (.cells #[.int .u8 0, .int .u8 0, .int .u8 0, .int .u8 0, .int .u8 0, .int .u8 0, .int .u8 0, .int .u8 0, .int .u8 0, .int .u8 0, .int .u8 0, .int .u8 0, .int .u8 0, .int .u8 0, .int .u8 0, .int .u8 0, .int .u8 0, .int .u8 0, .int .u8 0, .int .u8 0, .int .u8 0, .int .u8 0, .int .u8 0, .int .u8 0, .int .u8 0, .int .u8 0, .int .u8 0, .int .u8 0, .int .u8 0, .int .u8 0, .int .u8 0, .int .u8 0, .int .u32 0] 47)).setCells wr.heap.size 0 (pC p)).rangeAt wr.heap.size 0 (pC p) := World.rangeAt_setCells_same _ _ _ _ (HTP.out wr)
                  have hB2 : Below wr.heap.size wr ((wr.alloc (.cells #[.int .u8 0, .int .u8 0, .int .u8 0, .int .u8 0, .int .u8 0, .int .u8 0, .int .u8 0, .int .u8 0, .int .u8 0, .int .u8 0, .int .u8 0, .int .u8 0, .int .u8 0, .int .u8 0, .int .u8 0, .int .u8 0, .int .u8 0, .int .u8 0, .int .u8 0, .int .u8 0, .int .u8 0, .int .u8 0, .int .u8 0, .int .u8 0, .int .u8 0, .int .u8 0, .int .u8 0, .int .u8 0, .int .u8 0, .int .u8 0, .int .u8 0, .int .u8 0, .int .u32 0] 47)).setCells wr.heap.size 0 (pC p)) := below_sets (Nat.le_refl _) _ _ _ (below_new wr _)
                  generalize (wr.alloc (.cells #[.int .u8 0, .int .u8 0, .int .u8 0, .int .u8 0, .int .u8 0, .int .u8 0, .int .u8 0, .int .u8 0, .int .u8 0, .int .u8 0, .int .u8 0, .int .u8 0, .int .u8 0, .int .u8 0, .int .u8 0, .int .u8 0, .int .u8 0, .int .u8 0, .int .u8 0, .int .u8 0, .int .u8 0, .int .u8 0, .int .u8 0, .int .u8 0, .int .u8 0, .int .u8 0, .int .u8 0, .int .u8 0, .int .u8 0, .int .u8 0, .int .u8 0, .int .u8 0, .int .u32 0] 47)).setCells wr.heap.size 0 (pC p) = W2 at *
                  have HR2 := hide hW
                  have HB2 := hide (below_on HBQ.out hB2)
                  clear hW hB2 HPR HP1 HTP HBQ
                  generalize wr.heap.size = gp at *
                  obtain ⟨o, r, hl⟩ := looks C p
                  have hol := hl.lock HSW.out.ok.2
                  have HOL : Hid (o.lock.length = 32) := hide hol
                  have HLO : Hid ((Try.prog.info? 50).map (·.size) = some (outC o).length) := hide (by rw [outC_length hol]; exact info_out)
                  have HTO : Hid (∀ w : World, (w.alloc (.cells #[.int .u64 0, .int .u8 0, .int .u8 0, .int .u8 0, .int .u8 0, .int .u8 0, .int .u8 0, .int .u8 0, .int .u8 0, .int .u8 0, .int .u8 0, .int .u8 0, .int .u8 0, .int .u8 0, .int .u8 0, .int .u8 0, .int .u8 0, .int .u8 0, .int .u8 0, .int .u8 0, .int .u8 0, .int .u8 0, .int .u8 0, .int .u8 0, .int .u8 0, .int .u8 0, .int .u8 0, .int .u8 0, .int .u8 0, .int .u8 0, .int .u8 0, .int .u8 0, .int .u8 0] 50)).there w.heap.size 0 (outC o).length) := hide (fun w => by rw [outC_length hol]; exact o_there w)
                  have HO1 := hide (outC_one o)
                  have hEQ := eql_out o o hol hol
                  simp only [decide_true, Bool.and_self] at hEQ
                  have HEQ : Hid (∀ w, (Op.equalIn 10000 50 (.agg (outC o).toArray) (.agg (outC o).toArray)).run Try.prog w = .ok true w) := hide hEQ
                  have CF := hide (find_any W2 b (some k) C (HSW.out.on HB2.out) p HPO.out o r hl)
                  have CD := hide (fun wx (hx : Below W2.heap.size W2 wx) => rfind_any wx _ mb D ((HDW.out.on HB2.out).on hx) HPD.out.2.nodup p HPO.out (by have h1 := HPD.out.1.length_eq; have h2 := HK300.out; omega) o r (hl.perm HPD.out.1.symm))
                  clear hl hol hEQ
                  generalize outC o = X at *
                  go_wp2_with (refine wpList_load_mid rfl 47 (.tmp 13) rfl gp 0 rfl (pC p) _ HR2.out Try.underlying47 rfl HNP.out ?_)
                  refine CF.out.mono ?_
                  rintro e W3 ⟨rfl, hb3⟩
                  have HB3 := hide hb3
                  clear hb3 CF
                  go_upto_region 32 with ((with_reducible show wpList _ _ _ (_ :: _) _ _); refine wp_store_row rfl 50 (.tmp 14) (.tmp 119) rfl W3.heap.size 0 X rfl rfl (HTO.out W3) HLO.out HO1.out ?_)
                  have hRX : ((W3.alloc (.cells #[.int .u64 0, .int .u8 0, .int .u8 0, .int .u8 0, .int .u8 0, .int .u8 0, .int .u8 0, .int .u8 0, .int .u8 0, .int .u8 0, .int .u8 0, .int .u8 0, .int .u8 0, .int .u8 0, .int .u8 0, .int .u8 0, .int .u8 0, .int .u8 0, .int .u8 0, .int .u8 0, .int .u8 0, .int .u8 0, .int .u8 0, .int .u8 0, .int .u8 0, .int .u8 0, .int .u8 0, .int .u8 0, .int .u8 0, .int .u8 0, .int .u8 0, .int .u8 0, .int .u8 0] 50)).setCells W3.heap.size 0 X).rangeAt W3.heap.size 0 X := World.rangeAt_setCells_same _ _ _ _ (HTO.out W3)
                  have hb4 : Below W3.heap.size W3 ((W3.alloc (.cells #[.int .u64 0, .int .u8 0, .int .u8 0, .int .u8 0, .int .u8 0, .int .u8 0, .int .u8 0, .int .u8 0, .int .u8 0, .int .u8 0, .int .u8 0, .int .u8 0, .int .u8 0, .int .u8 0, .int .u8 0, .int .u8 0, .int .u8 0, .int .u8 0, .int .u8 0, .int .u8 0, .int .u8 0, .int .u8 0, .int .u8 0, .int .u8 0, .int .u8 0, .int .u8 0, .int .u8 0, .int .u8 0, .int .u8 0, .int .u8 0, .int .u8 0, .int .u8 0, .int .u8 0] 50)).setCells W3.heap.size 0 X) := below_sets (Nat.le_refl _) _ _ _ (below_new W3 _)
                  generalize (W3.alloc (.cells #[.int .u64 0, .int .u8 0, .int .u8 0, .int .u8 0, .int .u8 0, .int .u8 0, .int .u8 0, .int .u8 0, .int .u8 0, .int .u8 0, .int .u8 0, .int .u8 0, .int .u8 0, .int .u8 0, .int .u8 0, .int .u8 0, .int .u8 0, .int .u8 0, .int .u8 0, .int .u8 0, .int .u8 0, .int .u8 0, .int .u8 0, .int .u8 0, .int .u8 0, .int .u8 0, .int .u8 0, .int .u8 0, .int .u8 0, .int .u8 0, .int .u8 0, .int .u8 0, .int .u8 0] 50)).setCells W3.heap.size 0 X = W4 at *
                  have HB4 := hide (below_on HB3.out hb4)
                  have HRX := hide hRX
                  have HR4 := hide (range_on HR2.out HB4.out)
                  clear hb4 hRX HB3
                  generalize W3.heap.size = g4 at *
                  go_wp2_with (refine wpList_load_mid rfl 47 (.tmp 13) rfl gp 0 rfl (pC p) _ HR4.out Try.underlying47 rfl HNP.out ?_)
                  refine (CD.out W4 HB4.out).mono ?_
                  rintro e W5 ⟨rfl, hb5⟩
                  have HB5 := hide (below_on HB4.out hb5)
                  have HRX5 := hide (range_on HRX.out hb5)
                  clear hb5 CD HB4 HRX HR4
                  go_upto_region 33 with ((with_reducible show wpList _ _ _ (_ :: _) _ _); refine wp_store_row rfl 50 (.tmp 16) (.tmp 125) rfl W5.heap.size 0 X rfl rfl (HTO.out W5) HLO.out HO1.out ?_)
                  have hRX : ((W5.alloc (.cells #[.int .u64 0, .int .u8 0, .int .u8 0, .int .u8 0, .int .u8 0, .int .u8 0, .int .u8 0, .int .u8 0, .int .u8 0, .int .u8 0, .int .u8 0, .int .u8 0, .int .u8 0, .int .u8 0, .int .u8 0, .int .u8 0, .int .u8 0, .int .u8 0, .int .u8 0, .int .u8 0, .int .u8 0, .int .u8 0, .int .u8 0, .int .u8 0, .int .u8 0, .int .u8 0, .int .u8 0, .int .u8 0, .int .u8 0, .int .u8 0, .int .u8 0, .int .u8 0, .int .u8 0] 50)).setCells W5.heap.size 0 X).rangeAt W5.heap.size 0 X := World.rangeAt_setCells_same _ _ _ _ (HTO.out W5)
                  have hb6 : Below W5.heap.size W5 ((W5.alloc (.cells #[.int .u64 0, .int .u8 0, .int .u8 0, .int .u8 0, .int .u8 0, .int .u8 0, .int .u8 0, .int .u8 0, .int .u8 0, .int .u8 0, .int .u8 0, .int .u8 0, .int .u8 0, .int .u8 0, .int .u8 0, .int .u8 0, .int .u8 0, .int .u8 0, .int .u8 0, .int .u8 0, .int .u8 0, .int .u8 0, .int .u8 0, .int .u8 0, .int .u8 0, .int .u8 0, .int .u8 0, .int .u8 0, .int .u8 0, .int .u8 0, .int .u8 0, .int .u8 0, .int .u8 0] 50)).setCells W5.heap.size 0 X) := below_sets (Nat.le_refl _) _ _ _ (below_new W5 _)
                  generalize (W5.alloc (.cells #[.int .u64 0, .int .u8 0, .int .u8 0, .int .u8 0, .int .u8 0, .int .u8 0, .int .u8 0, .int .u8 0, .int .u8 0, .int .u8 0, .int .u8 0, .int .u8 0, .int .u8 0, .int .u8 0, .int .u8 0, .int .u8 0, .int .u8 0, .int .u8 0, .int .u8 0, .int .u8 0, .int .u8 0, .int .u8 0, .int .u8 0, .int .u8 0, .int .u8 0, .int .u8 0, .int .u8 0, .int .u8 0, .int .u8 0, .int .u8 0, .int .u8 0, .int .u8 0, .int .u8 0] 50)).setCells W5.heap.size 0 X = W6 at *
                  have HRY := hide hRX
                  have HRX6 := hide (range_on HRX5.out hb6)
                  have R : Hid (ActF W x.ps (.int .i64 ((q + 1 : Nat) : Int)) W6) := hide ⟨q + 1, by omega, rfl, below_on HB2.out (below_on HB5.out hb6)⟩
                  clear hb6 hRX HB5 HRX5 HTO HO1
                  generalize W5.heap.size = g6 at *
                  have hEQ := HEQ.out
                  go_wp2_with (first
                    | (refine wpList_load_mid rfl 50 (.tmp 14) rfl g4 0 rfl X _ HRX6.out Try.underlying50 rfl HLO.out ?_)
                    | (refine wpList_load_mid rfl 50 (.tmp 16) rfl g6 0 rfl X _ HRY.out Try.underlying50 rfl HLO.out ?_))
                  go_roundw
                  case rel => first | exact R.out | ((repeat apply Exists.intro); exact ⟨R.out, rfl⟩)
                  case measure => simp [intOf]; omega
                · have hk5 : (x.ps.length : Int) ≤ (q : Int) := by omega
                  have HST := hide (HSW.out.on hB)
                  have HDT := hide (HDW.out.on hB)
                  have HBT := hide (below_on HBW.out hB)
                  have HPT := HPD
                  have HSIDE2 := HSIDE
                  have HLT : Hid (C.length ≤ wtL (L.take (j + 1))) := hide (by have := HWX.out; have := HWC.out; omega)
                  clear hB HBQ
                  go_upto_region 36 with fail
                  obtain ⟨dv, hc0, hf0, hdv, hown, hdk⟩ := HDT.out
                  have HC0 := hide hc0
                  have HDK := hide hdk
                  obtain ⟨da, dcap, rfl, -, -⟩ := hdv.form
                  have HDV := hide hdv
                  clear hc0 hf0 hdv hown hdk
                  have HREL : Hid (∀ wx, Below wr.heap.size wr wx → ActI w L (.pointer (some ⟨b, 0, none⟩)) (.pointer (some ⟨mb, 0, none⟩)) (.int .i64 ((j + 1 : Nat) : Int)) wx) := hide fun wx hx => ⟨j + 1, b, k, mb, C, D, by omega, rfl, rfl, rfl, below_on HBT.out hx, HST.out.on hx, HSIDE2.out, HDT.out.on hx, HPT.out.1, HPT.out.2, HLT.out⟩
                  have HLD : Hid (C.length ≤ 5000) := hide (by have := HLT.out; have := HWX.out; omega)
                  refine wp_region_held_drew (S := fun wx => Below wr.heap.size wr wx) (by kernel_rfl) (Below.refl _ _).drew (fun hHeld => ?_)
                  refine wpAnyH_take (i := 0) (oi := { dst := some 136, op := Op.move (Operand.tmp 3), type := 25, pos := "law.go:91", after := #[], guard := none }) (v := .pointer (some ⟨b, 0, none⟩)) rfl (by kernel_rfl) (by kernel_rfl) (by kernel_rfl) (fun _ _ _ h => h) (Or.inl ⟨by rfl, fun w _ => by go_simp⟩) (by assumption) ?_
                  simp only [Act.put, List.setIfInBounds_toArray, List.set_cons_zero, List.set_cons_succ]
                  refine wpAnyH_take (i := 2) (oi := { dst := some 138, op := Op.move (Operand.tmp 5), type := 29, pos := "law.go:91", after := #[], guard := none }) (v := .pointer (some ⟨mb, 0, none⟩)) rfl (by kernel_rfl) (by kernel_rfl) (by kernel_rfl) (fun _ _ _ h => h) (Or.inl ⟨by rfl, fun w _ => by go_simp⟩) (by assumption) ?_
                  simp only [Act.put, List.setIfInBounds_toArray, List.set_cons_zero, List.set_cons_succ]
                  refine wpAnyH_take (i := 3) (oi := { dst := some 139, op := Op.nilCheck (Operand.tmp 138), type := 0, pos := "law.go:91", after := #[{ on := 2, ground := Ground.data }], guard := none }) (v := .pointer (some ⟨mb, 0, none⟩)) rfl (by kernel_rfl) (by kernel_rfl) (by kernel_rfl) (fun _ _ _ h => h) (Or.inl ⟨by rfl, fun w _ => by go_simp⟩) (by assumption) ?_
                  simp only [Act.put, List.setIfInBounds_toArray, List.set_cons_zero, List.set_cons_succ]
                  refine wpAnyH_take (i := 4) (oi := { dst := some 140, op := Op.fieldAddr 32 (Operand.tmp 139) 0, type := 0, pos := "law.go:91", after := #[{ on := 3, ground := Ground.data }], guard := none }) (v := .pointer (some ⟨mb, 0, none⟩)) rfl (by kernel_rfl) (by kernel_rfl) (by kernel_rfl) (fun _ _ _ h => h) (Or.inl ⟨by rfl, fun w _ => by go_simp⟩) (by assumption) ?_
                  simp only [Act.put, List.setIfInBounds_toArray, List.set_cons_zero, List.set_cons_succ]
                  refine wpAnyH_take (i := 5) (oi := { dst := some 141, op := Op.load 30 (Operand.tmp 140), type := 30, pos := "law.go:91", after := #[{ on := 4, ground := Ground.data }], guard := none }) (v := .slice da D.length dcap) rfl (by kernel_rfl) (by kernel_rfl) (by kernel_rfl) (fun _ _ _ h => h) (Or.inl ⟨by rfl, fun wx h => by have c0 := (h.cell HDT.out.lt).trans HC0.out; go_simp⟩) (by assumption) ?_
                  simp only [Act.put, List.setIfInBounds_toArray, List.set_cons_zero, List.set_cons_succ]
                  refine wpAnyH_ready (rs := [1]) (by kernel_rfl) (by simp) (AllReadyH.cons (o := { dst := some 137, op := Op.call { callee := Callee.value (Operand.func 20), args := #[Operand.tmp 136], argTypes := #[25] }, type := 30, pos := "law.go:91", after := #[{ on := 0, ground := Ground.data }], guard := none }) rfl (fun K hK => ?_) AllReadyH.nil)
                  have CA := hide (all_any wr.drew b k C (HST.out.on hHeld) HLD.out)
                  refine cstep_go (vs := #[.pointer (some ⟨b, 0, none⟩)]) (by rfl) 20 _ Try.func20 (by kernel_rfl) (by kernel_rfl) _ _ rfl (by simp [Act.eval]) ?_
                  refine CA.out.mono ?_
                  rintro e y1 ⟨u1, M1, rfl, hp1, hs1, hr1, hy⟩
                  rw [sort_unique hs1 HPT.out.2 (hp1.trans HPT.out.1.symm)] at hr1
                  have HR1 : Hid (CnsAt y1 u1 D) := hide hr1.row
                  have HSH := below_on hHeld hy
                  clear hp1 hs1 hr1 hy CA
                  refine ⟨_, rfl, ?_⟩
                  refine hK.out _ _ ?_ (fun hHeld => ?_)
                  · exact HSH
                  clear hK K
                  try simp only [Act.put, List.setIfInBounds_toArray, List.set_cons_zero, List.set_cons_succ]
                  refine wpAnyH_ready (rs := [6]) (by kernel_rfl) (by simp) (AllReadyH.cons (o := { dst := some 142, op := Op.call { callee := Callee.value (Operand.func 19), args := #[Operand.tmp 137, Operand.tmp 141], argTypes := #[30, 30] }, type := 4, pos := "law.go:91", after := #[{ on := 1, ground := Ground.data }, { on := 5, ground := Ground.data }, { on := 1, ground := Ground.chain }], guard := none }) rfl (fun K hK => ?_) AllReadyH.nil)
                  have CS := hide (rsamecn_eq D u1 _ y1 HR1.out (HDV.out.on hHeld) HDK.out)
                  refine cstep_go (vs := #[u1, .slice da D.length dcap]) (by rfl) 19 _ Try.func19 (by kernel_rfl) (by kernel_rfl) _ _ rfl (by simp [Act.eval]) ?_
                  refine CS.out.mono ?_
                  rintro e y2 ⟨rfl, hy⟩
                  have HSH := below_on hHeld hy
                  clear hy CS HR1
                  refine ⟨_, rfl, ?_⟩
                  refine hK.out _ _ ?_ (fun hHeld => ?_)
                  · exact HSH
                  clear hK K
                  try simp only [Act.put, List.setIfInBounds_toArray, List.set_cons_zero, List.set_cons_succ]
                  refine wpAnyH_take (i := 7) (oi := { dst := some 143, op := Op.unOp UnOp.not 4 (Operand.tmp 142), type := 4, pos := "law.go:91", after := #[{ on := 6, ground := Ground.data }], guard := none }) (v := .bool false) rfl (by kernel_rfl) (by kernel_rfl) (by kernel_rfl) (fun _ _ _ h => h) (Or.inl ⟨by rfl, fun w _ => by go_simp⟩) (by assumption) ?_
                  simp only [Act.put, List.setIfInBounds_toArray, List.set_cons_zero, List.set_cons_succ]
                  refine wpAnyH_take (i := 8) (oi := { dst := some 144, op := Op.move (Operand.tmp 143), type := 4, pos := "law.go:91", after := #[{ on := 7, ground := Ground.data }, { on := 6, ground := Ground.chain }], guard := none }) (v := .bool false) rfl (by kernel_rfl) (by kernel_rfl) (by kernel_rfl) (fun _ _ _ h => h) (Or.inl ⟨by rfl, fun w _ => by go_simp⟩) (by assumption) ?_
                  simp only [Act.put, List.setIfInBounds_toArray, List.set_cons_zero, List.set_cons_succ]
                  refine wpAnyH_take (i := 9) (oi := { dst := some 145, op := Op.move (Operand.tmp 3), type := 25, pos := "law.go:91", after := #[{ on := 8, ground := Ground.guard }], guard := some (8, false) }) (v := .pointer (some ⟨b, 0, none⟩)) rfl (by kernel_rfl) (by kernel_rfl) (by kernel_rfl) (fun _ _ _ h => h) (Or.inl ⟨by rfl, fun w _ => by go_simp⟩) (by assumption) ?_
                  simp only [Act.put, List.setIfInBounds_toArray, List.set_cons_zero, List.set_cons_succ]
                  refine wpAnyH_take (i := 11) (oi := { dst := some 147, op := Op.move (Operand.tmp 5), type := 29, pos := "law.go:91", after := #[{ on := 8, ground := Ground.guard }], guard := some (8, false) }) (v := .pointer (some ⟨mb, 0, none⟩)) rfl (by kernel_rfl) (by kernel_rfl) (by kernel_rfl) (fun _ _ _ h => h) (Or.inl ⟨by rfl, fun w _ => by go_simp⟩) (by assumption) ?_
                  simp only [Act.put, List.setIfInBounds_toArray, List.set_cons_zero, List.set_cons_succ]
                  refine wpAnyH_take (i := 12) (oi := { dst := some 148, op := Op.nilCheck (Operand.tmp 147), type := 0, pos := "law.go:91", after := #[{ on := 11, ground := Ground.data }, { on := 8, ground := Ground.guard }], guard := some (8, false) }) (v := .pointer (some ⟨mb, 0, none⟩)) rfl (by kernel_rfl) (by kernel_rfl) (by kernel_rfl) (fun _ _ _ h => h) (Or.inl ⟨by rfl, fun w _ => by go_simp⟩) (by assumption) ?_
                  simp only [Act.put, List.setIfInBounds_toArray, List.set_cons_zero, List.set_cons_succ]
                  refine wpAnyH_take (i := 13) (oi := { dst := some 149, op := Op.fieldAddr 32 (Operand.tmp 148) 0, type := 0, pos := "law.go:91", after := #[{ on := 12, ground := Ground.data }, { on := 8, ground := Ground.guard }], guard := some (8, false) }) (v := .pointer (some ⟨mb, 0, none⟩)) rfl (by kernel_rfl) (by kernel_rfl) (by kernel_rfl) (fun _ _ _ h => h) (Or.inl ⟨by rfl, fun w _ => by go_simp⟩) (by assumption) ?_
                  simp only [Act.put, List.setIfInBounds_toArray, List.set_cons_zero, List.set_cons_succ]
                  refine wpAnyH_take (i := 14) (oi := { dst := some 150, op := Op.load 30 (Operand.tmp 149), type := 30, pos := "law.go:91", after := #[{ on := 13, ground := Ground.data }, { on := 8, ground := Ground.guard }], guard := some (8, false) }) (v := .slice da D.length dcap) rfl (by kernel_rfl) (by kernel_rfl) (by kernel_rfl) (fun _ _ _ h => h) (Or.inl ⟨by rfl, fun wx h => by have c0 := (h.cell HDT.out.lt).trans HC0.out; go_simp⟩) (by assumption) ?_
                  simp only [Act.put, List.setIfInBounds_toArray, List.set_cons_zero, List.set_cons_succ]
                  refine wpAnyH_take (i := 15) (oi := { dst := some 151, op := Op.call { callee := Callee.builtin Builtin.len, args := #[Operand.tmp 150], argTypes := #[30] }, type := 3, pos := "law.go:91", after := #[{ on := 14, ground := Ground.data }, { on := 8, ground := Ground.guard }], guard := some (8, false) }) (v := .int .i64 D.length) rfl (by kernel_rfl) (by kernel_rfl) (by kernel_rfl) (fun _ _ _ h => h) (Or.inl ⟨by rfl, fun w _ => by go_simp⟩) (by assumption) ?_
                  simp only [Act.put, List.setIfInBounds_toArray, List.set_cons_zero, List.set_cons_succ]
                  refine wpAnyH_ready (rs := [10]) (by kernel_rfl) (by simp) (AllReadyH.cons (o := { dst := some 146, op := Op.call { callee := Callee.value (Operand.func 21), args := #[Operand.tmp 145], argTypes := #[25] }, type := 3, pos := "law.go:91", after := #[{ on := 9, ground := Ground.data }, { on := 8, ground := Ground.chain }, { on := 8, ground := Ground.guard }], guard := some (8, false) }) rfl (fun K hK => ?_) AllReadyH.nil)
                  have CL := len_any y2 b (some k) C (HST.out.on hHeld)
                  rw [← HPT.out.1.length_eq] at CL
                  refine cstep_go (vs := #[.pointer (some ⟨b, 0, none⟩)]) (by rfl) 21 _ Try.func21 (by kernel_rfl) (by kernel_rfl) _ _ rfl (by simp [Act.eval]) ?_
                  refine CL.mono ?_
                  rintro e y3 ⟨rfl, hy⟩
                  rw [hy]
                  clear hy CL
                  have HSH := hHeld
                  refine ⟨_, rfl, ?_⟩
                  refine hK.out _ _ ?_ (fun hHeld => ?_)
                  · exact HSH
                  clear hK K
                  try simp only [Act.put, List.setIfInBounds_toArray, List.set_cons_zero, List.set_cons_succ]
                  refine wpAnyH_take (i := 16) (oi := { dst := some 152, op := Op.binOp BinOp.neq 3 (Operand.tmp 146) (Operand.tmp 151) 3, type := 4, pos := "law.go:91", after := #[{ on := 10, ground := Ground.data }, { on := 15, ground := Ground.data }, { on := 8, ground := Ground.guard }], guard := some (8, false) }) (v := .bool false) rfl (by kernel_rfl) (by kernel_rfl) (by kernel_rfl) (fun _ _ _ h => h) (Or.inl ⟨by rfl, fun w _ => by go_simp⟩) (by assumption) ?_
                  simp only [Act.put, List.setIfInBounds_toArray, List.set_cons_zero, List.set_cons_succ]
                  refine wpAnyH_take (i := 17) (oi := { dst := some 153, op := Op.pick (Operand.tmp 144) (Operand.const (Value.bool true)) (Operand.tmp 152), type := 4, pos := "law.go:91", after := #[{ on := 8, ground := Ground.data }, { on := 16, ground := Ground.data }], guard := none }) (v := .bool false) rfl (by kernel_rfl) (by kernel_rfl) (by kernel_rfl) (fun _ _ _ h => h) (Or.inl ⟨by rfl, fun w _ => by go_simp⟩) (by assumption) ?_
                  simp only [Act.put, List.setIfInBounds_toArray, List.set_cons_zero, List.set_cons_succ]
                  refine wpAnyH_done (by kernel_rfl) ?_ _
                  have R := hide (HREL.out _ hHeld)
                  clear hHeld HREL
                  go_wp2
                  go_roundw
                  case rel => first | exact R.out | ((repeat apply Exists.intro); exact ⟨R.out, rfl⟩)
                  case measure => simp [intOf]; omega
            ·
              go_upto_region 14 with (refine cw_const rfl 32 _ rfl (v := .agg #[.slice none 0 0]) (by kernel_rfl) ?_)
              clear c0 c2
              have hbn := below_new W (.cells #[.slice none 0 0] 32)
              have HDN := hide (doc_new W (fun _ => False))
              have HSN := hide (HSW.out.on hbn)
              have HDO := hide (HDW.out.on hbn)
              have HBN := hide (below_on HBW.out hbn)
              have HGN : Hid (gb < W.heap.size ∧ W.heap.size < (W.alloc (.cells #[.slice none 0 0] 32)).heap.size) := hide ⟨HGB.out.2.2.2, by rw [alloc_size]; omega⟩
              have c1 := (hbn.cell HGB.out.2.2.2 (p := ⟨gb, 1, none⟩)).trans HC1.out
              have HMB : Hid (w.heap.size ≤ W.heap.size) := hide HBW.out.size
              clear hbn HSW HDW HBW
              have HC12 := hide c1
              generalize W.alloc (.cells #[.slice none 0 0] 32) = W2 at *
              generalize W.heap.size = mn at *
              rcases new_is x.cs (by have := HK300.out; omega) HXA.out.2.2.1 with ⟨hnew, hrput⟩ | ⟨hnew, hrput⟩
              · have CN := hide (hnew W2 _ (HCV.out.on HBN.out))
                have HRP := hide hrput
                clear hnew hrput
                go_wp2_with fail
                clear c1
                refine CN.out.mono ?_
                rintro e z1 ⟨b', k', rfl, hset, hbb, hkb, hz⟩
                have c1 := (hz.cell (Nat.lt_trans HGN.out.1 HGN.out.2) (p := ⟨gb, 1, none⟩)).trans HC12.out
                have HS1 := hide hset
                have HD1 := hide (HDN.out.on hz)
                have HB1 := hide (below_on HBN.out hz)
                have HBK : Hid (W2.heap.size ≤ b' ∧ W2.heap.size ≤ k' ∧ b' < z1.heap.size ∧ k' < z1.heap.size) := hide ⟨hbb, hkb, hset.lt, (hset.2.2.2 k' rfl).2.lt⟩
                have CR := hide (HRP.out z1 _ mn _ HD1.out (CnsAt.old HCV.out HB1.out fun g hg => ⟨by have := HMB.out; omega, by have := HMB.out; omega⟩))
                clear hset hbb hkb hz CN HRP
                go_wp2_with fail
                clear c1
                refine CR.out.mono ?_
                rintro e z2 ⟨rfl, hbes, DT, hp2, hs2, hdoc⟩
                have HST := hide (HS1.out.besides hbes (by have := HBK.out; have := HGN.out; exact ⟨by omega, by omega⟩) fun y hy => by cases hy; have := HBK.out; have := HGN.out; exact ⟨by omega, by omega⟩)
                have HBT := hide (besides_below HB1.out hbes HMB.out HMB.out (Nat.le_refl _))
                have HPT := hide (show DT.Perm x.cs ∧ SortC DT from ⟨hp2, hs2⟩)
                have HSIDE2 : Hid (w.heap.size ≤ b' ∧ w.heap.size ≤ k' ∧ w.heap.size ≤ mn ∧ mn ≠ b' ∧ mn ≠ k') := hide (by have h1 := HBK.out; have h2 := HGN.out; have h3 := HMB.out; exact ⟨by omega, by omega, by omega, by omega, by omega⟩)
                have HLT : Hid (x.cs.length ≤ wtL (L.take (j + 1))) := hide (by have := HWX.out; omega)
                have HDT : Hid (DocAt z2 (fun g => w.heap.size ≤ g ∧ g ≠ b' ∧ g ≠ k') mn DT) := hide (hdoc.weak fun g h => by
                  rcases h with h | h
                  · exact h.elim
                  · have h1 := HBK.out
                    have h2 := HB1.out.size
                    exact ⟨by omega, by omega, by omega⟩)
                clear hbes hp2 hs2 hdoc CR HS1 HD1 HB1 HSN HDO
                go_upto_region 36 with fail
                obtain ⟨dv, hc0, hf0, hdv, hown, hdk⟩ := HDT.out
                have HC0 := hide hc0
                have HDK := hide hdk
                obtain ⟨da, dcap, rfl, -, -⟩ := hdv.form
                have HDV := hide hdv
                clear hc0 hf0 hdv hown hdk
                have HREL : Hid (∀ wx, Below z2.heap.size z2 wx → ActI w L (.pointer (some ⟨b', 0, none⟩)) (.pointer (some ⟨mn, 0, none⟩)) (.int .i64 ((j + 1 : Nat) : Int)) wx) := hide fun wx hx => ⟨j + 1, b', k', mn, x.cs, DT, by omega, rfl, rfl, rfl, below_on HBT.out hx, HST.out.on hx, HSIDE2.out, HDT.out.on hx, HPT.out.1, HPT.out.2, HLT.out⟩
                have HLD : Hid (x.cs.length ≤ 5000) := hide (by have := HLT.out; have := HWX.out; omega)
                refine wp_region_held_drew (S := fun wx => Below z2.heap.size z2 wx) (by kernel_rfl) (Below.refl _ _).drew (fun hHeld => ?_)
                refine wpAnyH_take (i := 0) (oi := { dst := some 136, op := Op.move (Operand.tmp 3), type := 25, pos := "law.go:91", after := #[], guard := none }) (v := .pointer (some ⟨b', 0, none⟩)) rfl (by kernel_rfl) (by kernel_rfl) (by kernel_rfl) (fun _ _ _ h => h) (Or.inl ⟨by rfl, fun w _ => by go_simp⟩) (by assumption) ?_
                simp only [Act.put, List.setIfInBounds_toArray, List.set_cons_zero, List.set_cons_succ]
                refine wpAnyH_take (i := 2) (oi := { dst := some 138, op := Op.move (Operand.tmp 5), type := 29, pos := "law.go:91", after := #[], guard := none }) (v := .pointer (some ⟨mn, 0, none⟩)) rfl (by kernel_rfl) (by kernel_rfl) (by kernel_rfl) (fun _ _ _ h => h) (Or.inl ⟨by rfl, fun w _ => by go_simp⟩) (by assumption) ?_
                simp only [Act.put, List.setIfInBounds_toArray, List.set_cons_zero, List.set_cons_succ]
                refine wpAnyH_take (i := 3) (oi := { dst := some 139, op := Op.nilCheck (Operand.tmp 138), type := 0, pos := "law.go:91", after := #[{ on := 2, ground := Ground.data }], guard := none }) (v := .pointer (some ⟨mn, 0, none⟩)) rfl (by kernel_rfl) (by kernel_rfl) (by kernel_rfl) (fun _ _ _ h => h) (Or.inl ⟨by rfl, fun w _ => by go_simp⟩) (by assumption) ?_
                simp only [Act.put, List.setIfInBounds_toArray, List.set_cons_zero, List.set_cons_succ]
                refine wpAnyH_take (i := 4) (oi := { dst := some 140, op := Op.fieldAddr 32 (Operand.tmp 139) 0, type := 0, pos := "law.go:91", after := #[{ on := 3, ground := Ground.data }], guard := none }) (v := .pointer (some ⟨mn, 0, none⟩)) rfl (by kernel_rfl) (by kernel_rfl) (by kernel_rfl) (fun _ _ _ h => h) (Or.inl ⟨by rfl, fun w _ => by go_simp⟩) (by assumption) ?_
                simp only [Act.put, List.setIfInBounds_toArray, List.set_cons_zero, List.set_cons_succ]
                refine wpAnyH_take (i := 5) (oi := { dst := some 141, op := Op.load 30 (Operand.tmp 140), type := 30, pos := "law.go:91", after := #[{ on := 4, ground := Ground.data }], guard := none }) (v := .slice da DT.length dcap) rfl (by kernel_rfl) (by kernel_rfl) (by kernel_rfl) (fun _ _ _ h => h) (Or.inl ⟨by rfl, fun wx h => by have c0 := (h.cell HDT.out.lt).trans HC0.out; go_simp⟩) (by assumption) ?_
                simp only [Act.put, List.setIfInBounds_toArray, List.set_cons_zero, List.set_cons_succ]
                refine wpAnyH_ready (rs := [1]) (by kernel_rfl) (by simp) (AllReadyH.cons (o := { dst := some 137, op := Op.call { callee := Callee.value (Operand.func 20), args := #[Operand.tmp 136], argTypes := #[25] }, type := 30, pos := "law.go:91", after := #[{ on := 0, ground := Ground.data }], guard := none }) rfl (fun K hK => ?_) AllReadyH.nil)
                have CA := hide (all_any z2.drew b' k' x.cs (HST.out.on hHeld) HLD.out)
                refine cstep_go (vs := #[.pointer (some ⟨b', 0, none⟩)]) (by rfl) 20 _ Try.func20 (by kernel_rfl) (by kernel_rfl) _ _ rfl (by simp [Act.eval]) ?_
                refine CA.out.mono ?_
                rintro e y1 ⟨u1, M1, rfl, hp1, hs1, hr1, hy⟩
                rw [sort_unique hs1 HPT.out.2 (hp1.trans HPT.out.1.symm)] at hr1
                have HR1 : Hid (CnsAt y1 u1 DT) := hide hr1.row
                have HSH := below_on hHeld hy
                clear hp1 hs1 hr1 hy CA
                refine ⟨_, rfl, ?_⟩
                refine hK.out _ _ ?_ (fun hHeld => ?_)
                · exact HSH
                clear hK K
                try simp only [Act.put, List.setIfInBounds_toArray, List.set_cons_zero, List.set_cons_succ]
                refine wpAnyH_ready (rs := [6]) (by kernel_rfl) (by simp) (AllReadyH.cons (o := { dst := some 142, op := Op.call { callee := Callee.value (Operand.func 19), args := #[Operand.tmp 137, Operand.tmp 141], argTypes := #[30, 30] }, type := 4, pos := "law.go:91", after := #[{ on := 1, ground := Ground.data }, { on := 5, ground := Ground.data }, { on := 1, ground := Ground.chain }], guard := none }) rfl (fun K hK => ?_) AllReadyH.nil)
                have CS := hide (rsamecn_eq DT u1 _ y1 HR1.out (HDV.out.on hHeld) HDK.out)
                refine cstep_go (vs := #[u1, .slice da DT.length dcap]) (by rfl) 19 _ Try.func19 (by kernel_rfl) (by kernel_rfl) _ _ rfl (by simp [Act.eval]) ?_
                refine CS.out.mono ?_
                rintro e y2 ⟨rfl, hy⟩
                have HSH := below_on hHeld hy
                clear hy CS HR1
                refine ⟨_, rfl, ?_⟩
                refine hK.out _ _ ?_ (fun hHeld => ?_)
                · exact HSH
                clear hK K
                try simp only [Act.put, List.setIfInBounds_toArray, List.set_cons_zero, List.set_cons_succ]
                refine wpAnyH_take (i := 7) (oi := { dst := some 143, op := Op.unOp UnOp.not 4 (Operand.tmp 142), type := 4, pos := "law.go:91", after := #[{ on := 6, ground := Ground.data }], guard := none }) (v := .bool false) rfl (by kernel_rfl) (by kernel_rfl) (by kernel_rfl) (fun _ _ _ h => h) (Or.inl ⟨by rfl, fun w _ => by go_simp⟩) (by assumption) ?_
                simp only [Act.put, List.setIfInBounds_toArray, List.set_cons_zero, List.set_cons_succ]
                refine wpAnyH_take (i := 8) (oi := { dst := some 144, op := Op.move (Operand.tmp 143), type := 4, pos := "law.go:91", after := #[{ on := 7, ground := Ground.data }, { on := 6, ground := Ground.chain }], guard := none }) (v := .bool false) rfl (by kernel_rfl) (by kernel_rfl) (by kernel_rfl) (fun _ _ _ h => h) (Or.inl ⟨by rfl, fun w _ => by go_simp⟩) (by assumption) ?_
                simp only [Act.put, List.setIfInBounds_toArray, List.set_cons_zero, List.set_cons_succ]
                refine wpAnyH_take (i := 9) (oi := { dst := some 145, op := Op.move (Operand.tmp 3), type := 25, pos := "law.go:91", after := #[{ on := 8, ground := Ground.guard }], guard := some (8, false) }) (v := .pointer (some ⟨b', 0, none⟩)) rfl (by kernel_rfl) (by kernel_rfl) (by kernel_rfl) (fun _ _ _ h => h) (Or.inl ⟨by rfl, fun w _ => by go_simp⟩) (by assumption) ?_
                simp only [Act.put, List.setIfInBounds_toArray, List.set_cons_zero, List.set_cons_succ]
                refine wpAnyH_take (i := 11) (oi := { dst := some 147, op := Op.move (Operand.tmp 5), type := 29, pos := "law.go:91", after := #[{ on := 8, ground := Ground.guard }], guard := some (8, false) }) (v := .pointer (some ⟨mn, 0, none⟩)) rfl (by kernel_rfl) (by kernel_rfl) (by kernel_rfl) (fun _ _ _ h => h) (Or.inl ⟨by rfl, fun w _ => by go_simp⟩) (by assumption) ?_
                simp only [Act.put, List.setIfInBounds_toArray, List.set_cons_zero, List.set_cons_succ]
                refine wpAnyH_take (i := 12) (oi := { dst := some 148, op := Op.nilCheck (Operand.tmp 147), type := 0, pos := "law.go:91", after := #[{ on := 11, ground := Ground.data }, { on := 8, ground := Ground.guard }], guard := some (8, false) }) (v := .pointer (some ⟨mn, 0, none⟩)) rfl (by kernel_rfl) (by kernel_rfl) (by kernel_rfl) (fun _ _ _ h => h) (Or.inl ⟨by rfl, fun w _ => by go_simp⟩) (by assumption) ?_
                simp only [Act.put, List.setIfInBounds_toArray, List.set_cons_zero, List.set_cons_succ]
                refine wpAnyH_take (i := 13) (oi := { dst := some 149, op := Op.fieldAddr 32 (Operand.tmp 148) 0, type := 0, pos := "law.go:91", after := #[{ on := 12, ground := Ground.data }, { on := 8, ground := Ground.guard }], guard := some (8, false) }) (v := .pointer (some ⟨mn, 0, none⟩)) rfl (by kernel_rfl) (by kernel_rfl) (by kernel_rfl) (fun _ _ _ h => h) (Or.inl ⟨by rfl, fun w _ => by go_simp⟩) (by assumption) ?_
                simp only [Act.put, List.setIfInBounds_toArray, List.set_cons_zero, List.set_cons_succ]
                refine wpAnyH_take (i := 14) (oi := { dst := some 150, op := Op.load 30 (Operand.tmp 149), type := 30, pos := "law.go:91", after := #[{ on := 13, ground := Ground.data }, { on := 8, ground := Ground.guard }], guard := some (8, false) }) (v := .slice da DT.length dcap) rfl (by kernel_rfl) (by kernel_rfl) (by kernel_rfl) (fun _ _ _ h => h) (Or.inl ⟨by rfl, fun wx h => by have c0 := (h.cell HDT.out.lt).trans HC0.out; go_simp⟩) (by assumption) ?_
                simp only [Act.put, List.setIfInBounds_toArray, List.set_cons_zero, List.set_cons_succ]
                refine wpAnyH_take (i := 15) (oi := { dst := some 151, op := Op.call { callee := Callee.builtin Builtin.len, args := #[Operand.tmp 150], argTypes := #[30] }, type := 3, pos := "law.go:91", after := #[{ on := 14, ground := Ground.data }, { on := 8, ground := Ground.guard }], guard := some (8, false) }) (v := .int .i64 DT.length) rfl (by kernel_rfl) (by kernel_rfl) (by kernel_rfl) (fun _ _ _ h => h) (Or.inl ⟨by rfl, fun w _ => by go_simp⟩) (by assumption) ?_
                simp only [Act.put, List.setIfInBounds_toArray, List.set_cons_zero, List.set_cons_succ]
                refine wpAnyH_ready (rs := [10]) (by kernel_rfl) (by simp) (AllReadyH.cons (o := { dst := some 146, op := Op.call { callee := Callee.value (Operand.func 21), args := #[Operand.tmp 145], argTypes := #[25] }, type := 3, pos := "law.go:91", after := #[{ on := 9, ground := Ground.data }, { on := 8, ground := Ground.chain }, { on := 8, ground := Ground.guard }], guard := some (8, false) }) rfl (fun K hK => ?_) AllReadyH.nil)
                have CL := len_any y2 b' (some k') x.cs (HST.out.on hHeld)
                rw [← HPT.out.1.length_eq] at CL
                refine cstep_go (vs := #[.pointer (some ⟨b', 0, none⟩)]) (by rfl) 21 _ Try.func21 (by kernel_rfl) (by kernel_rfl) _ _ rfl (by simp [Act.eval]) ?_
                refine CL.mono ?_
                rintro e y3 ⟨rfl, hy⟩
                rw [hy]
                clear hy CL
                have HSH := hHeld
                refine ⟨_, rfl, ?_⟩
                refine hK.out _ _ ?_ (fun hHeld => ?_)
                · exact HSH
                clear hK K
                try simp only [Act.put, List.setIfInBounds_toArray, List.set_cons_zero, List.set_cons_succ]
                refine wpAnyH_take (i := 16) (oi := { dst := some 152, op := Op.binOp BinOp.neq 3 (Operand.tmp 146) (Operand.tmp 151) 3, type := 4, pos := "law.go:91", after := #[{ on := 10, ground := Ground.data }, { on := 15, ground := Ground.data }, { on := 8, ground := Ground.guard }], guard := some (8, false) }) (v := .bool false) rfl (by kernel_rfl) (by kernel_rfl) (by kernel_rfl) (fun _ _ _ h => h) (Or.inl ⟨by rfl, fun w _ => by go_simp⟩) (by assumption) ?_
                simp only [Act.put, List.setIfInBounds_toArray, List.set_cons_zero, List.set_cons_succ]
                refine wpAnyH_take (i := 17) (oi := { dst := some 153, op := Op.pick (Operand.tmp 144) (Operand.const (Value.bool true)) (Operand.tmp 152), type := 4, pos := "law.go:91", after := #[{ on := 8, ground := Ground.data }, { on := 16, ground := Ground.data }], guard := none }) (v := .bool false) rfl (by kernel_rfl) (by kernel_rfl) (by kernel_rfl) (fun _ _ _ h => h) (Or.inl ⟨by rfl, fun w _ => by go_simp⟩) (by assumption) ?_
                simp only [Act.put, List.setIfInBounds_toArray, List.set_cons_zero, List.set_cons_succ]
                refine wpAnyH_done (by kernel_rfl) ?_ _
                have R := hide (HREL.out _ hHeld)
                clear hHeld HREL
                go_wp2
                go_roundw
                case rel => first | exact R.out | ((repeat apply Exists.intro); exact ⟨R.out, rfl⟩)
                case measure => simp [intOf]; omega
              · have CN := hide (hnew W2 _ (HCV.out.on HBN.out))
                have HRP := hide hrput
                clear hnew hrput
                go_wp2_with fail
                clear c1
                refine CN.out.mono ?_
                rintro e z1 ⟨rfl, hz⟩
                have c1 := (hz.cell (Nat.lt_trans HGN.out.1 HGN.out.2) (p := ⟨gb, 1, none⟩)).trans HC12.out
                have HB1 := hide (below_on HBN.out hz)
                have HSN1 := hide (HSN.out.on hz)
                have HDO1 := hide (HDO.out.on hz)
                have CR := hide (HRP.out z1 mn _ (HCV.out.on HB1.out))
                clear hz CN HRP
                go_wp2_with fail
                clear c1
                refine CR.out.mono ?_
                rintro e z2 ⟨rfl, hz⟩
                have HST := hide (HSN1.out.on hz)
                have HDT := hide (HDO1.out.on hz)
                have HBT := hide (below_on HB1.out hz)
                have HPT := HPD
                have HSIDE2 := HSIDE
                have HLT : Hid (C.length ≤ wtL (L.take (j + 1))) := hide (by have := HWX.out; have := HWC.out; omega)
                clear hz CR HSN HDO
                go_upto_region 36 with fail
                obtain ⟨dv, hc0, hf0, hdv, hown, hdk⟩ := HDT.out
                have HC0 := hide hc0
                have HDK := hide hdk
                obtain ⟨da, dcap, rfl, -, -⟩ := hdv.form
                have HDV := hide hdv
                clear hc0 hf0 hdv hown hdk
                have HREL : Hid (∀ wx, Below z2.heap.size z2 wx → ActI w L (.pointer (some ⟨b, 0, none⟩)) (.pointer (some ⟨mb, 0, none⟩)) (.int .i64 ((j + 1 : Nat) : Int)) wx) := hide fun wx hx => ⟨j + 1, b, k, mb, C, D, by omega, rfl, rfl, rfl, below_on HBT.out hx, HST.out.on hx, HSIDE2.out, HDT.out.on hx, HPT.out.1, HPT.out.2, HLT.out⟩
                have HLD : Hid (C.length ≤ 5000) := hide (by have := HLT.out; have := HWX.out; omega)
                refine wp_region_held_drew (S := fun wx => Below z2.heap.size z2 wx) (by kernel_rfl) (Below.refl _ _).drew (fun hHeld => ?_)
                refine wpAnyH_take (i := 0) (oi := { dst := some 136, op := Op.move (Operand.tmp 3), type := 25, pos := "law.go:91", after := #[], guard := none }) (v := .pointer (some ⟨b, 0, none⟩)) rfl (by kernel_rfl) (by kernel_rfl) (by kernel_rfl) (fun _ _ _ h => h) (Or.inl ⟨by rfl, fun w _ => by go_simp⟩) (by assumption) ?_
                simp only [Act.put, List.setIfInBounds_toArray, List.set_cons_zero, List.set_cons_succ]
                refine wpAnyH_take (i := 2) (oi := { dst := some 138, op := Op.move (Operand.tmp 5), type := 29, pos := "law.go:91", after := #[], guard := none }) (v := .pointer (some ⟨mb, 0, none⟩)) rfl (by kernel_rfl) (by kernel_rfl) (by kernel_rfl) (fun _ _ _ h => h) (Or.inl ⟨by rfl, fun w _ => by go_simp⟩) (by assumption) ?_
                simp only [Act.put, List.setIfInBounds_toArray, List.set_cons_zero, List.set_cons_succ]
                refine wpAnyH_take (i := 3) (oi := { dst := some 139, op := Op.nilCheck (Operand.tmp 138), type := 0, pos := "law.go:91", after := #[{ on := 2, ground := Ground.data }], guard := none }) (v := .pointer (some ⟨mb, 0, none⟩)) rfl (by kernel_rfl) (by kernel_rfl) (by kernel_rfl) (fun _ _ _ h => h) (Or.inl ⟨by rfl, fun w _ => by go_simp⟩) (by assumption) ?_
                simp only [Act.put, List.setIfInBounds_toArray, List.set_cons_zero, List.set_cons_succ]
                refine wpAnyH_take (i := 4) (oi := { dst := some 140, op := Op.fieldAddr 32 (Operand.tmp 139) 0, type := 0, pos := "law.go:91", after := #[{ on := 3, ground := Ground.data }], guard := none }) (v := .pointer (some ⟨mb, 0, none⟩)) rfl (by kernel_rfl) (by kernel_rfl) (by kernel_rfl) (fun _ _ _ h => h) (Or.inl ⟨by rfl, fun w _ => by go_simp⟩) (by assumption) ?_
                simp only [Act.put, List.setIfInBounds_toArray, List.set_cons_zero, List.set_cons_succ]
                refine wpAnyH_take (i := 5) (oi := { dst := some 141, op := Op.load 30 (Operand.tmp 140), type := 30, pos := "law.go:91", after := #[{ on := 4, ground := Ground.data }], guard := none }) (v := .slice da D.length dcap) rfl (by kernel_rfl) (by kernel_rfl) (by kernel_rfl) (fun _ _ _ h => h) (Or.inl ⟨by rfl, fun wx h => by have c0 := (h.cell HDT.out.lt).trans HC0.out; go_simp⟩) (by assumption) ?_
                simp only [Act.put, List.setIfInBounds_toArray, List.set_cons_zero, List.set_cons_succ]
                refine wpAnyH_ready (rs := [1]) (by kernel_rfl) (by simp) (AllReadyH.cons (o := { dst := some 137, op := Op.call { callee := Callee.value (Operand.func 20), args := #[Operand.tmp 136], argTypes := #[25] }, type := 30, pos := "law.go:91", after := #[{ on := 0, ground := Ground.data }], guard := none }) rfl (fun K hK => ?_) AllReadyH.nil)
                have CA := hide (all_any z2.drew b k C (HST.out.on hHeld) HLD.out)
                refine cstep_go (vs := #[.pointer (some ⟨b, 0, none⟩)]) (by rfl) 20 _ Try.func20 (by kernel_rfl) (by kernel_rfl) _ _ rfl (by simp [Act.eval]) ?_
                refine CA.out.mono ?_
                rintro e y1 ⟨u1, M1, rfl, hp1, hs1, hr1, hy⟩
                rw [sort_unique hs1 HPT.out.2 (hp1.trans HPT.out.1.symm)] at hr1
                have HR1 : Hid (CnsAt y1 u1 D) := hide hr1.row
                have HSH := below_on hHeld hy
                clear hp1 hs1 hr1 hy CA
                refine ⟨_, rfl, ?_⟩
                refine hK.out _ _ ?_ (fun hHeld => ?_)
                · exact HSH
                clear hK K
                try simp only [Act.put, List.setIfInBounds_toArray, List.set_cons_zero, List.set_cons_succ]
                refine wpAnyH_ready (rs := [6]) (by kernel_rfl) (by simp) (AllReadyH.cons (o := { dst := some 142, op := Op.call { callee := Callee.value (Operand.func 19), args := #[Operand.tmp 137, Operand.tmp 141], argTypes := #[30, 30] }, type := 4, pos := "law.go:91", after := #[{ on := 1, ground := Ground.data }, { on := 5, ground := Ground.data }, { on := 1, ground := Ground.chain }], guard := none }) rfl (fun K hK => ?_) AllReadyH.nil)
                have CS := hide (rsamecn_eq D u1 _ y1 HR1.out (HDV.out.on hHeld) HDK.out)
                refine cstep_go (vs := #[u1, .slice da D.length dcap]) (by rfl) 19 _ Try.func19 (by kernel_rfl) (by kernel_rfl) _ _ rfl (by simp [Act.eval]) ?_
                refine CS.out.mono ?_
                rintro e y2 ⟨rfl, hy⟩
                have HSH := below_on hHeld hy
                clear hy CS HR1
                refine ⟨_, rfl, ?_⟩
                refine hK.out _ _ ?_ (fun hHeld => ?_)
                · exact HSH
                clear hK K
                try simp only [Act.put, List.setIfInBounds_toArray, List.set_cons_zero, List.set_cons_succ]
                refine wpAnyH_take (i := 7) (oi := { dst := some 143, op := Op.unOp UnOp.not 4 (Operand.tmp 142), type := 4, pos := "law.go:91", after := #[{ on := 6, ground := Ground.data }], guard := none }) (v := .bool false) rfl (by kernel_rfl) (by kernel_rfl) (by kernel_rfl) (fun _ _ _ h => h) (Or.inl ⟨by rfl, fun w _ => by go_simp⟩) (by assumption) ?_
                simp only [Act.put, List.setIfInBounds_toArray, List.set_cons_zero, List.set_cons_succ]
                refine wpAnyH_take (i := 8) (oi := { dst := some 144, op := Op.move (Operand.tmp 143), type := 4, pos := "law.go:91", after := #[{ on := 7, ground := Ground.data }, { on := 6, ground := Ground.chain }], guard := none }) (v := .bool false) rfl (by kernel_rfl) (by kernel_rfl) (by kernel_rfl) (fun _ _ _ h => h) (Or.inl ⟨by rfl, fun w _ => by go_simp⟩) (by assumption) ?_
                simp only [Act.put, List.setIfInBounds_toArray, List.set_cons_zero, List.set_cons_succ]
                refine wpAnyH_take (i := 9) (oi := { dst := some 145, op := Op.move (Operand.tmp 3), type := 25, pos := "law.go:91", after := #[{ on := 8, ground := Ground.guard }], guard := some (8, false) }) (v := .pointer (some ⟨b, 0, none⟩)) rfl (by kernel_rfl) (by kernel_rfl) (by kernel_rfl) (fun _ _ _ h => h) (Or.inl ⟨by rfl, fun w _ => by go_simp⟩) (by assumption) ?_
                simp only [Act.put, List.setIfInBounds_toArray, List.set_cons_zero, List.set_cons_succ]
                refine wpAnyH_take (i := 11) (oi := { dst := some 147, op := Op.move (Operand.tmp 5), type := 29, pos := "law.go:91", after := #[{ on := 8, ground := Ground.guard }], guard := some (8, false) }) (v := .pointer (some ⟨mb, 0, none⟩)) rfl (by kernel_rfl) (by kernel_rfl) (by kernel_rfl) (fun _ _ _ h => h) (Or.inl ⟨by rfl, fun w _ => by go_simp⟩) (by assumption) ?_
                simp only [Act.put, List.setIfInBounds_toArray, List.set_cons_zero, List.set_cons_succ]
                refine wpAnyH_take (i := 12) (oi := { dst := some 148, op := Op.nilCheck (Operand.tmp 147), type := 0, pos := "law.go:91", after := #[{ on := 11, ground := Ground.data }, { on := 8, ground := Ground.guard }], guard := some (8, false) }) (v := .pointer (some ⟨mb, 0, none⟩)) rfl (by kernel_rfl) (by kernel_rfl) (by kernel_rfl) (fun _ _ _ h => h) (Or.inl ⟨by rfl, fun w _ => by go_simp⟩) (by assumption) ?_
                simp only [Act.put, List.setIfInBounds_toArray, List.set_cons_zero, List.set_cons_succ]
                refine wpAnyH_take (i := 13) (oi := { dst := some 149, op := Op.fieldAddr 32 (Operand.tmp 148) 0, type := 0, pos := "law.go:91", after := #[{ on := 12, ground := Ground.data }, { on := 8, ground := Ground.guard }], guard := some (8, false) }) (v := .pointer (some ⟨mb, 0, none⟩)) rfl (by kernel_rfl) (by kernel_rfl) (by kernel_rfl) (fun _ _ _ h => h) (Or.inl ⟨by rfl, fun w _ => by go_simp⟩) (by assumption) ?_
                simp only [Act.put, List.setIfInBounds_toArray, List.set_cons_zero, List.set_cons_succ]
                refine wpAnyH_take (i := 14) (oi := { dst := some 150, op := Op.load 30 (Operand.tmp 149), type := 30, pos := "law.go:91", after := #[{ on := 13, ground := Ground.data }, { on := 8, ground := Ground.guard }], guard := some (8, false) }) (v := .slice da D.length dcap) rfl (by kernel_rfl) (by kernel_rfl) (by kernel_rfl) (fun _ _ _ h => h) (Or.inl ⟨by rfl, fun wx h => by have c0 := (h.cell HDT.out.lt).trans HC0.out; go_simp⟩) (by assumption) ?_
                simp only [Act.put, List.setIfInBounds_toArray, List.set_cons_zero, List.set_cons_succ]
                refine wpAnyH_take (i := 15) (oi := { dst := some 151, op := Op.call { callee := Callee.builtin Builtin.len, args := #[Operand.tmp 150], argTypes := #[30] }, type := 3, pos := "law.go:91", after := #[{ on := 14, ground := Ground.data }, { on := 8, ground := Ground.guard }], guard := some (8, false) }) (v := .int .i64 D.length) rfl (by kernel_rfl) (by kernel_rfl) (by kernel_rfl) (fun _ _ _ h => h) (Or.inl ⟨by rfl, fun w _ => by go_simp⟩) (by assumption) ?_
                simp only [Act.put, List.setIfInBounds_toArray, List.set_cons_zero, List.set_cons_succ]
                refine wpAnyH_ready (rs := [10]) (by kernel_rfl) (by simp) (AllReadyH.cons (o := { dst := some 146, op := Op.call { callee := Callee.value (Operand.func 21), args := #[Operand.tmp 145], argTypes := #[25] }, type := 3, pos := "law.go:91", after := #[{ on := 9, ground := Ground.data }, { on := 8, ground := Ground.chain }, { on := 8, ground := Ground.guard }], guard := some (8, false) }) rfl (fun K hK => ?_) AllReadyH.nil)
                have CL := len_any y2 b (some k) C (HST.out.on hHeld)
                rw [← HPT.out.1.length_eq] at CL
                refine cstep_go (vs := #[.pointer (some ⟨b, 0, none⟩)]) (by rfl) 21 _ Try.func21 (by kernel_rfl) (by kernel_rfl) _ _ rfl (by simp [Act.eval]) ?_
                refine CL.mono ?_
                rintro e y3 ⟨rfl, hy⟩
                rw [hy]
                clear hy CL
                have HSH := hHeld
                refine ⟨_, rfl, ?_⟩
                refine hK.out _ _ ?_ (fun hHeld => ?_)
                · exact HSH
                clear hK K
                try simp only [Act.put, List.setIfInBounds_toArray, List.set_cons_zero, List.set_cons_succ]
                refine wpAnyH_take (i := 16) (oi := { dst := some 152, op := Op.binOp BinOp.neq 3 (Operand.tmp 146) (Operand.tmp 151) 3, type := 4, pos := "law.go:91", after := #[{ on := 10, ground := Ground.data }, { on := 15, ground := Ground.data }, { on := 8, ground := Ground.guard }], guard := some (8, false) }) (v := .bool false) rfl (by kernel_rfl) (by kernel_rfl) (by kernel_rfl) (fun _ _ _ h => h) (Or.inl ⟨by rfl, fun w _ => by go_simp⟩) (by assumption) ?_
                simp only [Act.put, List.setIfInBounds_toArray, List.set_cons_zero, List.set_cons_succ]
                refine wpAnyH_take (i := 17) (oi := { dst := some 153, op := Op.pick (Operand.tmp 144) (Operand.const (Value.bool true)) (Operand.tmp 152), type := 4, pos := "law.go:91", after := #[{ on := 8, ground := Ground.data }, { on := 16, ground := Ground.data }], guard := none }) (v := .bool false) rfl (by kernel_rfl) (by kernel_rfl) (by kernel_rfl) (fun _ _ _ h => h) (Or.inl ⟨by rfl, fun w _ => by go_simp⟩) (by assumption) ?_
                simp only [Act.put, List.setIfInBounds_toArray, List.set_cons_zero, List.set_cons_succ]
                refine wpAnyH_done (by kernel_rfl) ?_ _
                have R := hide (HREL.out _ hHeld)
                clear hHeld HREL
                go_wp2
                go_roundw
                case rel => first | exact R.out | ((repeat apply Exists.intro); exact ⟨R.out, rfl⟩)
                case measure => simp [intOf]; omega
      · have hk9 : (L.length : Int) ≤ (j : Int) := by omega
        clear hB hset hside hdoc hperm hsort hwt
        go_wp2
        go_ret
        exact ⟨rfl, HB.out⟩
set_option maxRecDepth 100000 in
theorem coinActs_lifted (os : Os) (started : os.Started) (H : Type) (enc : TypeId × Value → H) :
    ReturnsInHanded {} Try.checked os 3 .any (Rows.coinActsSpec.pre6 enc Try.prog Try.f3 Rows.coinActsRow.domain false) (Rows.coinActsSpec.post enc Try.prog Try.f3 false true false false) := by
  refine returnsInHanded_of_change (C := Try.checked) own started (by kernel_rfl) Try.func3
    (ChangeSpec.witness6 (enc := enc) (C := Try.checked) false ⟨#[], #[.slice none 0 0], []⟩ 8 (by kernel_rfl) (by kernel_rfl) (by kernel_rfl) (by kernel_rfl)) ?_
  intro W base args ds gs before hval0 hW hcnd _
  have hval : ∀ (j : Nat) t v, Try.f3.params[j]? = some t → args[j]? = some v → Value.okWide Try.prog W .any base t v := hval0
  have hW' := hW
  obtain ⟨p, q, hA0, hV, rfl, hfz, hnd⟩ := hW
  have hA : DataW.TrodAll enc Try.prog W 0 (fun _ => true) true Try.f3.params.toList args.toList ds p := hA0
  rw [Try.params3] at hA hval
  obtain ⟨v0, vs0, d0, ds0, p0, q0, hargs, rfl, rfl, h0, r0⟩ := trodAll_cons hA
  obtain ⟨rfl, rfl, rfl⟩ := trodAll_nil r0
  obtain rfl : args = #[v0] := by cases args; simp_all
  obtain ⟨rfl, rfl⟩ := trodVars_none hV
  have k0 := h0
  have lt0 : ∀ x ∈ p0, x.block < W.heap.size := by obtain ⟨m, hm⟩ := k0; exact DataW.trod_lt m _ _ _ hm
  obtain ⟨l0, s0⟩ := acs_arg (hval 0 22 v0 rfl rfl) h0
  clear hA0 hval0
  refine (coinActs_any (w := W) _ l0 s0).mono fun e W' ⟨he, bel⟩ => ?_
  subst he
  exact ⟨_, rfl, _, _, _, [], _, [], hW', trodAll_mk1 (shut_bool Try.underlying4 _), (trodAll_cons_mk (Below.trod laidOut (by kernel_rfl) (of_decide_eq_true (by kernel_rfl)) k0 bel lt0) trodAll_mk0), rfl, bel.frame _, fun h => by cases h⟩

theorem coinActs_holds : Rows.CoinActsSaid :=
  OpenClaim.holds_of_wide 3 Try.f3 rfl rfl rfl rfl rfl rfl rfl ⟨rfl, rfl, rfl, rfl, rfl⟩ rfl rfl rfl rfl rfl (by kernel_rfl) Try.func3 (by kernel_rfl)
    (of_decide_eq_true (by kernel_rfl)) (by unfold Func.isWrapper; first | (rw [if_pos (by decide +kernel)]; kernel_rfl) | (rw [if_neg (by decide +kernel)]; exact ⟨rfl, rfl⟩))
    (fun os started H enc _ => coinActs_lifted os started H enc)
#print axioms coinActs_holds

end Go.Proofs.Ytkemdfikcmgaaaa
