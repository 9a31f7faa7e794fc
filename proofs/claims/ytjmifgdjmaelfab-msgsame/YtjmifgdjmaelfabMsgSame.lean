/-
  Proved: for every message and every byte the law MsgSame answers true, and its arguments read as they did. No condition.
-/
import Derived.Test.YtjmifgdjmaelfabMgLawK
import Derived.Test.YtjmifgdjmaelfabTxRows
import Derived.Deep.DeepCutAuto
import Derived.Deep.RegionHeld3
namespace Go.Proofs.Ytjmifgdjmaelfab
open Go.ChangeShapes Go.WideShapes Go.ChangeAt Go.RowKit

/-- The lowest bit turned. -/
theorem xor_one (k : Int) : bits .xor .i64 k 1 ≠ k ∧ -9223372036854775808 ≤ bits .xor .i64 k 1 ∧ bits .xor .i64 k 1 < 9223372036854775808 := by
  have e : bits .xor .i64 k 1 = IntKind.i64.wrap ((BitVec.ofInt 64 k ^^^ BitVec.ofInt 64 1).toNat : Int) := rfl
  rw [e]
  have hlt := (BitVec.ofInt 64 k ^^^ BitVec.ofInt 64 1).isLt
  have hne : BitVec.ofInt 64 k ^^^ BitVec.ofInt 64 1 ≠ BitVec.ofInt 64 k := fun h => by
    have h2 := congrArg (fun t => BitVec.ofInt 64 k ^^^ t) h
    simp only [← BitVec.xor_assoc, BitVec.xor_self, BitVec.zero_xor] at h2
    exact absurd h2 (by decide)
  generalize BitVec.ofInt 64 k ^^^ BitVec.ofInt 64 1 = v at *
  have hw : IntKind.i64.wrap (v.toNat : Int) = v.toNat ∨ IntKind.i64.wrap (v.toNat : Int) = (v.toNat : Int) - 18446744073709551616 := by
    simp [IntKind.wrap, IntKind.bits, IntKind.signed]
    omega
  have hr : -9223372036854775808 ≤ IntKind.i64.wrap (v.toNat : Int) ∧ IntKind.i64.wrap (v.toNat : Int) < 9223372036854775808 := by
    simp [IntKind.wrap, IntKind.bits, IntKind.signed]
    omega
  refine ⟨fun h => hne ?_, hr⟩
  apply BitVec.eq_of_toNat_eq
  rw [← h, BitVec.toNat_ofInt]
  rcases hw with e | e <;> rw [e] <;> simp at hlt ⊢ <;> omega
theorem MBox.other {w : World} {q b i : Nat} {x0 x1 x2 x3 x4 x5 x6 : Value} (h : MBox w q x0 x1 x2 x3 x4 x5 x6) (hne : b ≠ q) (z : Value) : MBox (w.setCell ⟨b, i, none⟩ z) q x0 x1 x2 x3 x4 x5 x6 := by
  obtain ⟨n0, n1, n2, n3, n4, n5, n6⟩ := h
  have hk : ∀ j, (w.setCell ⟨b, i, none⟩ z).cell? ⟨q, j, none⟩ = w.cell? ⟨q, j, none⟩ := fun j => World.cell?_setCell_other _ _ _ _ (fun h => hne (Addr.mk.inj h).1)
  exact ⟨(hk 0).trans n0, (hk 1).trans n1, (hk 2).trans n2, (hk 3).trans n3, (hk 4).trans n4, (hk 5).trans n5, (hk 6).trans n6⟩
theorem MBox.t1 {w : World} {q : Nat} {x0 x1 x2 x3 x4 x5 x6 : Value} (h : MBox w q x0 x1 x2 x3 x4 x5 x6) (z : Value) : MBox (w.setCell ⟨q, 1, none⟩ z) q x0 z x2 x3 x4 x5 x6 := by
  obtain ⟨n0, n1, n2, n3, n4, n5, n6⟩ := h
  exact ⟨by rw [World.cell?_setCell_other _ _ _ _ (by simp)]; exact n0, World.cell?_setCell_same _ _ _ n1, by rw [World.cell?_setCell_other _ _ _ _ (by simp)]; exact n2, by rw [World.cell?_setCell_other _ _ _ _ (by simp)]; exact n3, by rw [World.cell?_setCell_other _ _ _ _ (by simp)]; exact n4, by rw [World.cell?_setCell_other _ _ _ _ (by simp)]; exact n5, by rw [World.cell?_setCell_other _ _ _ _ (by simp)]; exact n6⟩
theorem MBox.t2 {w : World} {q : Nat} {x0 x1 x2 x3 x4 x5 x6 : Value} (h : MBox w q x0 x1 x2 x3 x4 x5 x6) (z : Value) : MBox (w.setCell ⟨q, 2, none⟩ z) q x0 x1 z x3 x4 x5 x6 := by
  obtain ⟨n0, n1, n2, n3, n4, n5, n6⟩ := h
  exact ⟨by rw [World.cell?_setCell_other _ _ _ _ (by simp)]; exact n0, by rw [World.cell?_setCell_other _ _ _ _ (by simp)]; exact n1, World.cell?_setCell_same _ _ _ n2, by rw [World.cell?_setCell_other _ _ _ _ (by simp)]; exact n3, by rw [World.cell?_setCell_other _ _ _ _ (by simp)]; exact n4, by rw [World.cell?_setCell_other _ _ _ _ (by simp)]; exact n5, by rw [World.cell?_setCell_other _ _ _ _ (by simp)]; exact n6⟩
theorem MBox.under {B : Nat} {w w' : World} {q : Nat} {x0 x1 x2 x3 x4 x5 x6 : Value} (h : MBox w q x0 x1 x2 x3 x4 x5 x6) (hb : Below B w w') (hq : q < B) : MBox w' q x0 x1 x2 x3 x4 x5 x6 := by
  obtain ⟨n0, n1, n2, n3, n4, n5, n6⟩ := h
  have hk : ∀ j, w'.cell? ⟨q, j, none⟩ = w.cell? ⟨q, j, none⟩ := fun j => hb.cell (p := ⟨q, j, none⟩) hq
  exact ⟨(hk 0).trans n0, (hk 1).trans n1, (hk 2).trans n2, (hk 3).trans n3, (hk 4).trans n4, (hk 5).trans n5, (hk 6).trans n6⟩
/-- Four copies of a message, apart. -/
def Four (w : World) (x0 x1 x2 x3 x4 x5 x6 s5 s6 s7 s8 : Value) (wx : World) : Prop :=
  ∃ b5 b6 b7 b8 : Nat, s5 = .pointer (some ⟨b5, 0, none⟩) ∧ s6 = .pointer (some ⟨b6, 0, none⟩) ∧ s7 = .pointer (some ⟨b7, 0, none⟩) ∧ s8 = .pointer (some ⟨b8, 0, none⟩) ∧
    (b5 ≠ b6 ∧ b5 ≠ b7 ∧ b5 ≠ b8 ∧ b6 ≠ b7 ∧ b6 ≠ b8 ∧ b7 ≠ b8) ∧ (w.heap.size ≤ b5 ∧ w.heap.size ≤ b6 ∧ w.heap.size ≤ b7 ∧ w.heap.size ≤ b8) ∧
    (∀ b, b = b5 ∨ b = b6 ∨ b = b7 ∨ b = b8 → MBox wx b x0 x1 x2 x3 x4 x5 x6 ∧ wx.there b 0 7) ∧ Below w.heap.size w wx
theorem four_new (w : World) (x0 x1 x2 x3 x4 x5 x6 : Value) (t : TypeId) (b5 b6 b7 b8 : Nat) (h5 : b5 - w.heap.size < 4 ∧ w.heap.size ≤ b5) (h6 : b6 - w.heap.size < 4 ∧ w.heap.size ≤ b6) (h7 : b7 - w.heap.size < 4 ∧ w.heap.size ≤ b7) (h8 : b8 - w.heap.size < 4 ∧ w.heap.size ≤ b8)
    (hne : b5 ≠ b6 ∧ b5 ≠ b7 ∧ b5 ≠ b8 ∧ b6 ≠ b7 ∧ b6 ≠ b8 ∧ b7 ≠ b8) :
    Four w x0 x1 x2 x3 x4 x5 x6 (.pointer (some ⟨b5, 0, none⟩)) (.pointer (some ⟨b6, 0, none⟩)) (.pointer (some ⟨b7, 0, none⟩)) (.pointer (some ⟨b8, 0, none⟩))
      ((((w.alloc (.cells #[x0, x1, x2, x3, x4, x5, x6] t)).alloc (.cells #[x0, x1, x2, x3, x4, x5, x6] t)).alloc (.cells #[x0, x1, x2, x3, x4, x5, x6] t)).alloc (.cells #[x0, x1, x2, x3, x4, x5, x6] t)).drew := by
  obtain ⟨A, hA⟩ : ∃ A, A = w.alloc (.cells #[x0, x1, x2, x3, x4, x5, x6] t) := ⟨_, rfl⟩
  obtain ⟨B, hB⟩ : ∃ B, B = A.alloc (.cells #[x0, x1, x2, x3, x4, x5, x6] t) := ⟨_, rfl⟩
  obtain ⟨C, hC⟩ : ∃ C, C = B.alloc (.cells #[x0, x1, x2, x3, x4, x5, x6] t) := ⟨_, rfl⟩
  obtain ⟨D, hD⟩ : ∃ D, D = C.alloc (.cells #[x0, x1, x2, x3, x4, x5, x6] t) := ⟨_, rfl⟩
  rw [← hA, ← hB, ← hC, ← hD]
  have sA : A.heap.size = w.heap.size + 1 := by rw [hA]; exact alloc_size _ _
  have sB : B.heap.size = w.heap.size + 2 := by rw [hB, alloc_size, sA]
  have sC : C.heap.size = w.heap.size + 3 := by rw [hC, alloc_size, sB]
  have bA : Below w.heap.size w A := by rw [hA]; exact below_new _ _
  have bB : Below A.heap.size A B := by rw [hB]; exact below_new _ _
  have bC : Below B.heap.size B C := by rw [hC]; exact below_new _ _
  have bD : Below C.heap.size C D := by rw [hD]; exact below_new _ _
  have dD : Below D.heap.size D D.drew := (Below.refl _ _).drew
  have mA : MBox A w.heap.size x0 x1 x2 x3 x4 x5 x6 ∧ A.there w.heap.size 0 7 := by rw [hA]; exact ⟨MBox.new _ _ _ _ _ _ _ _ _, there_new _ _ _⟩
  have mB : MBox B (w.heap.size + 1) x0 x1 x2 x3 x4 x5 x6 ∧ B.there (w.heap.size + 1) 0 7 := by rw [← sA, hB]; exact ⟨MBox.new _ _ _ _ _ _ _ _ _, there_new _ _ _⟩
  have mC : MBox C (w.heap.size + 2) x0 x1 x2 x3 x4 x5 x6 ∧ C.there (w.heap.size + 2) 0 7 := by rw [← sB, hC]; exact ⟨MBox.new _ _ _ _ _ _ _ _ _, there_new _ _ _⟩
  have mD : MBox D (w.heap.size + 3) x0 x1 x2 x3 x4 x5 x6 ∧ D.there (w.heap.size + 3) 0 7 := by rw [← sC, hD]; exact ⟨MBox.new _ _ _ _ _ _ _ _ _, there_new _ _ _⟩
  have cD := below_on bD dD
  have cC := below_on bC cD
  have cB := below_on bB cC
  have all : ∀ b, b - w.heap.size < 4 ∧ w.heap.size ≤ b → MBox D.drew b x0 x1 x2 x3 x4 x5 x6 ∧ D.drew.there b 0 7 := fun b hb => by
    rcases (show b = w.heap.size ∨ b = w.heap.size + 1 ∨ b = w.heap.size + 2 ∨ b = w.heap.size + 3 by omega) with rfl | rfl | rfl | rfl
    · exact ⟨mA.1.on cB, there_on mA.2 cB⟩
    · exact ⟨mB.1.on cC, there_on mB.2 cC⟩
    · exact ⟨mC.1.on cD, there_on mC.2 cD⟩
    · exact ⟨mD.1.on dD, there_on mD.2 dD⟩
  refine ⟨b5, b6, b7, b8, rfl, rfl, rfl, rfl, hne, ⟨h5.2, h6.2, h7.2, h8.2⟩, fun b hb => all b ?_, below_on bA cB⟩
  rcases hb with rfl | rfl | rfl | rfl
  · exact h5
  · exact h6
  · exact h7
  · exact h8
/-- An id of one byte and noughts, as a slice that is built. -/
theorem byte_hash (w : World) (x : Int) : IdsAt (w.alloc (.cells #[.int .u8 x, .int .u8 0, .int .u8 0, .int .u8 0, .int .u8 0, .int .u8 0, .int .u8 0, .int .u8 0, .int .u8 0, .int .u8 0, .int .u8 0, .int .u8 0, .int .u8 0, .int .u8 0, .int .u8 0, .int .u8 0, .int .u8 0, .int .u8 0, .int .u8 0, .int .u8 0, .int .u8 0, .int .u8 0, .int .u8 0, .int .u8 0, .int .u8 0, .int .u8 0, .int .u8 0, .int .u8 0, .int .u8 0, .int .u8 0, .int .u8 0, .int .u8 0] 44)) (.slice (some ⟨w.heap.size, 0, none⟩) 1 1) [x :: List.replicate 31 0] := by
  have hr := range_new w (vals .u8 (x :: List.replicate 31 0)) 44
  refine ⟨_, 1, rfl, Nat.le_refl 1, by omega, by simp, fun _ => ⟨w.heap.size, 0, rfl, fun i c hi => ?_⟩⟩
  rcases i with _ | i
  · simp only [List.map_cons, List.map_nil, List.getElem?_cons_zero, Option.some.injEq] at hi
    subst hi
    exact hr
  · simp at hi
theorem getD_byte {l : List Int} (h : AllB l) {j : Nat} (hj : j < l.length) : Byte (l.getD j 0) := by
  rw [show l.getD j 0 = l[j] by simp [List.getD, hj]]
  exact h _ (List.getElem_mem hj)
/-- One byte of one id set. -/
theorem ids_set {w : World} {rb n cap : Nat} {L : List (List Int)} (h : IdsAt w (.slice (some ⟨rb, 0, none⟩) n cap) L) (hL : ∀ y ∈ L, y.length = 32) (k j : Nat) (hk : k < L.length) (hj : j < 32) (z : Int) :
    IdsAt (w.setCell ⟨rb, k * 32 + j, none⟩ (.int .u8 z)) (.slice (some ⟨rb, 0, none⟩) n cap) (L.set k ((L.getD k []).set j z)) := by
  obtain ⟨a', cap', e, h1, h2, h3, h5⟩ := h
  simp only [Value.slice.injEq] at e
  obtain ⟨ha, rfl, rfl⟩ := e
  have hl : (L.map (vals .u8)).length = L.length := by simp
  refine ⟨_, cap, by simp, by simpa using h1, h2, by simp, fun _ => ⟨rb, 0, rfl, fun i c hi q v hq => ?_⟩⟩
  obtain ⟨b, off, e2, hc⟩ := h5 (by rw [hl]; omega)
  rw [← ha] at e2
  simp only [Option.some.injEq, Addr.mk.injEq] at e2
  obtain ⟨rfl, rfl, -⟩ := e2
  have hi' : i < L.length := by
    have := (List.getElem?_eq_some_iff.1 hi).1
    simpa using this
  rw [List.getElem?_map] at hi
  obtain ⟨y, hy, rfl⟩ := Option.map_eq_some_iff.1 hi
  have hLi : L[i]? = some L[i] := List.getElem?_eq_getElem hi'
  have hlen : (L[i]).length = 32 := hL _ (List.getElem_mem hi')
  have hold := hc i (vals .u8 L[i]) (by rw [List.getElem?_map, hLi]; rfl)
  by_cases hik : i = k
  · subst hik
    rw [List.getElem?_set_self hk] at hy
    simp only [Option.some.injEq] at hy
    subst hy
    have hg : L.getD i [] = L[i] := by simp [List.getD, hi']
    rw [hg] at hq
    have hq32 : q < 32 := by
      have := (List.getElem?_eq_some_iff.1 hq).1
      rw [vals_length, List.length_set, hlen] at this
      exact this
    by_cases hqj : q = j
    · subst hqj
      have hv : v = .int .u8 z := by
        have := vals_get .u8 (L[i].set q z) q (by rw [List.length_set, hlen]; exact hq32)
        rw [this] at hq
        simp [List.getD, List.getElem?_set_self (show q < L[i].length by omega)] at hq
        exact hq.symm
      have hcell := hold q _ (vals_get .u8 L[i] q (by omega))
      rw [hv, Nat.zero_add]
      rw [Nat.zero_add] at hcell
      exact World.cell?_setCell_same _ _ _ hcell
    · have hv : (vals .u8 L[i])[q]? = some v := by
        rw [← hq]
        simp only [vals, List.map_set]
        rw [List.getElem?_set_ne (fun h => hqj h.symm)]
      rw [World.cell?_setCell_other _ _ _ _ (by first | (simp; done) | (simp; omega))]
      exact hold q v hv
  · rw [List.getElem?_set_ne (fun h => hik h.symm), hLi] at hy
    simp only [Option.some.injEq] at hy
    subst hy
    have hq32 : q < 32 := by
      have := (List.getElem?_eq_some_iff.1 hq).1
      rw [vals_length, hlen] at this
      exact this
    rw [World.cell?_setCell_other _ _ _ _ (by first | (simp; done) | (simp; omega))]
    exact hold q v hq
theorem below_one {w wx : World} (h : Below w.heap.size w wx) (o : Obj) : Below w.heap.size w (wx.alloc o) := h.alloc h.size o
set_option maxRecDepth 100000 in
set_option maxHeartbeats 4000000 in
theorem same8_some {w : World} (m : Mg) (d iv ov : Value) (h : MsgAt w d iv ov m) (hok : MgOk m) (x : Int) (hx : Byte x) (hg : greatM m = false) :
    Calls Try.prog 6 #[.agg #[.int .i64 m.kind, .int .u64 m.n, .int .u32 m.code, d, .int .u32 m.tx.ver, iv, ov], .int .u8 x] w fun e w' => e = .returned (.bool true) ∧ Below w.heap.size w w' := by
  have hnew := below_new w (.cells #[.int .i64 m.kind, .int .u64 m.n, .int .u32 m.code, d, .int .u32 m.tx.ver, iv, ov] 30)
  have HT0 := hide (h.on hnew)
  have HB0 := hide hnew
  have HX0 := hide (MBox.new w (.int .i64 m.kind) (.int .u64 m.n) (.int .u32 m.code) d (.int .u32 m.tx.ver) iv ov 30)
  have GR := hide (fun w (h : MsgAt w d iv ov m) => great8_any m d iv ov w h hok)
  have AL := hide alive8_any
  rw [hg] at GR
  obtain ⟨sa, sc, ia, ic, oa, oc, rfl, rfl, rfl⟩ := h.form
  have HOK := hide hok
  have HFEW : Hid (m.ids.length ≤ 100) := hide (by
    unfold greatM at hg
    simp only [Bool.or_eq_false_iff, decide_eq_false_iff_not] at hg
    omega)
  clear hnew h hok hg
  go_enter Try.func6, Try.ntmps6
  go_upto_region 1 with fail
  generalize w.alloc (.cells #[.int .i64 m.kind, .int .u64 m.n, .int .u32 m.code, .slice sa m.ids.length sc, .int .u32 m.tx.ver, .slice ia m.tx.ins.length ic, .slice oa m.tx.outs.length oc] 30) = W0 at *
  generalize hg : w.heap.size = g at *
  have HG := hide hg
  clear hg
  have HBG : Hid (g ≤ W0.heap.size) := hide (by have := HB0.out.size; have := HG.out; omega)
  go_wp2_with fail
  refine (AL.out _).mono ?_
  rintro e w1 ⟨rfl, hb1⟩
  have HB1 := hide (HB0.out.trans (hb1.mono HBG.out))
  have HBG1 : Hid (g ≤ w1.heap.size) := hide (Nat.le_trans HBG.out hb1.size)
  have HT1 := hide (HT0.out.on hb1)
  have HX1 := hide (HX0.out.on hb1)
  obtain ⟨p0, p1, p2, p3, p4, p5, p6⟩ := HX1.out
  clear hb1 HB0 HT0 HX0 AL HBG
  go_wp2_with fail
  refine (GR.out _ HT1.out).mono ?_
  rintro e w2 ⟨rfl, hb2⟩
  have HB2 := hide (HB1.out.trans (hb2.mono HBG1.out))
  have HBG2 : Hid (g ≤ w2.heap.size) := hide (Nat.le_trans HBG1.out hb2.size)
  have HT2 := hide (HT1.out.on hb2)
  have HX2 := hide (HX1.out.on hb2)
  clear p0 p1 p2 p3 p4 p5 p6
  obtain ⟨p0, p1, p2, p3, p4, p5, p6⟩ := HX2.out
  clear hb2 HB1 HT1 HX1 GR HBG1
  have HC1 : Hid (∀ wx, Below w2.heap.size w2 wx → Below w2.heap.size w2 wx ∧ wx.cell? ⟨g, 0, none⟩ = some (.int .i64 m.kind) ∧ wx.cell? ⟨g, 1, none⟩ = some (.int .u64 m.n) ∧ wx.cell? ⟨g, 2, none⟩ = some (.int .u32 m.code) ∧ wx.cell? ⟨g, 3, none⟩ = some (.slice sa m.ids.length sc) ∧ wx.cell? ⟨g, 4, none⟩ = some (.int .u32 m.tx.ver) ∧ wx.cell? ⟨g, 5, none⟩ = some (.slice ia m.tx.ins.length ic) ∧ wx.cell? ⟨g, 6, none⟩ = some (.slice oa m.tx.outs.length oc)) := hide (fun wx hb => ⟨hb, HX2.out.on hb⟩)
  go_upto_region 5 with fail
  go_cut [5, 6, 7, 8] (fun s5 s6 s7 s8 wx => Four w2 (.int .i64 m.kind) (.int .u64 m.n) (.int .u32 m.code) (.slice sa m.ids.length sc) (.int .u32 m.tx.ver) (.slice ia m.tx.ins.length ic) (.slice oa m.tx.outs.length oc) s5 s6 s7 s8 wx)
  case first =>
    go_region_held3 (fun wx => Below w2.heap.size w2 wx ∧ wx.cell? ⟨g, 0, none⟩ = some (.int .i64 m.kind) ∧ wx.cell? ⟨g, 1, none⟩ = some (.int .u64 m.n) ∧ wx.cell? ⟨g, 2, none⟩ = some (.int .u32 m.code) ∧ wx.cell? ⟨g, 3, none⟩ = some (.slice sa m.ids.length sc) ∧ wx.cell? ⟨g, 4, none⟩ = some (.int .u32 m.tx.ver) ∧ wx.cell? ⟨g, 5, none⟩ = some (.slice ia m.tx.ins.length ic) ∧ wx.cell? ⟨g, 6, none⟩ = some (.slice oa m.tx.outs.length oc))
      (((with_reducible refine HC1.out _ ?_); (repeat (with_reducible first | exact Below.refl _ _ | refine Below.drew ?_ | refine below_one ?_ _ | fail))))
      (fail)
    all_goals
      go_wp2_with fail
      go_meet
      case rel => exact four_new _ _ _ _ _ _ _ _ _ _ _ _ _ (by omega) (by omega) (by omega) (by omega) (by omega)
  case rest =>
    obtain ⟨b5, b6, b7, b8, rfl, rfl, rfl, rfl, ⟨n56, n57, n58, n67, n68, n78⟩, ⟨l5, l6, l7, l8⟩, hall, hbc⟩ := hcut
    have h5 := hall b5 (Or.inl rfl)
    have h6 := hall b6 (Or.inr (Or.inl rfl))
    have h7 := hall b7 (Or.inr (Or.inr (Or.inl rfl)))
    have h8 := hall b8 (Or.inr (Or.inr (Or.inr rfl)))
    have B5 := hide h5
    have B6 := hide h6
    have B7 := hide h7
    have B8 := hide h8
    have HBc := hide hbc
    clear h5 h6 h7 h8 hall hbc HC1 p0 p1 p2 p3 p4 p5 p6
    obtain ⟨n1, hn1⟩ : ∃ n1, IntKind.u64.wrap (m.n + 1) = n1 := ⟨_, rfl⟩
    obtain ⟨c1, hc1⟩ : ∃ c1, IntKind.u32.wrap (m.code + 1) = c1 := ⟨_, rfl⟩
    obtain ⟨k1, hk1⟩ : ∃ k1, bits .xor .i64 m.kind 1 = k1 := ⟨_, rfl⟩
    have HN1 : Hid (n1 ≠ m.n ∧ 0 ≤ n1 ∧ n1 < 18446744073709551616) := hide (by
      have := HOK.out.2.1
      rw [← hn1]
      simp [IntKind.wrap, IntKind.bits, IntKind.signed]
      omega)
    have HC1 : Hid (c1 ≠ m.code ∧ 0 ≤ c1 ∧ c1 < 4294967296) := hide (by
      have := HOK.out.2.2.1
      rw [← hc1]
      simp [IntKind.wrap, IntKind.bits, IntKind.signed]
      omega)
    have HK1 : Hid (k1 ≠ m.kind ∧ -9223372036854775808 ≤ k1 ∧ k1 < 9223372036854775808) := hide (by rw [← hk1]; exact xor_one m.kind)
    -- a
    have q1 := B5.out.1.2.1
    have g1 := there_free0 B5.out.2 1 (by omega)
    have A6 := hide (B5.out.1.t1 (.int .u64 n1))
    have E6 := hide (B6.out.1.other n56 (i := 1) (.int .u64 n1))
    have C6 := hide (B7.out.1.other n57 (i := 1) (.int .u64 n1))
    have D6 := hide (B8.out.1.other n58 (i := 1) (.int .u64 n1))
    have E6t := hide (there_setC B6.out.2 ⟨b5, 1, none⟩ (.int .u64 n1))
    have C6t := hide (there_setC B7.out.2 ⟨b5, 1, none⟩ (.int .u64 n1))
    have D6t := hide (there_setC B8.out.2 ⟨b5, 1, none⟩ (.int .u64 n1))
    have Z6 := hide (below_set HBc.out (show w2.heap.size ≤ (⟨b5, 1, none⟩ : Addr).block from l5) (.int .u64 n1))
    clear B5 B6 B7 B8 HBc
    go_upto_region 7 with fail
    clear q1 g1 hn1
    generalize wc.setCell ⟨b5, 1, none⟩ (.int .u64 n1) = W6 at *
    -- b
    have q1 := E6.out.2.2.1
    have g1 := there_free0 E6t.out 2 (by omega)
    have A7 := hide (A6.out.other n56.symm (i := 2) (.int .u32 c1))
    have E7 := hide (E6.out.t2 (.int .u32 c1))
    have C7 := hide (C6.out.other n67 (i := 2) (.int .u32 c1))
    have D7 := hide (D6.out.other n68 (i := 2) (.int .u32 c1))
    have C7t := hide (there_setC C6t.out ⟨b6, 2, none⟩ (.int .u32 c1))
    have D7t := hide (there_setC D6t.out ⟨b6, 2, none⟩ (.int .u32 c1))
    have Z7 := hide (below_set Z6.out (show w2.heap.size ≤ (⟨b6, 2, none⟩ : Addr).block from l6) (.int .u32 c1))
    clear A6 E6 C6 D6 E6t C6t D6t Z6
    go_upto_region 8 with fail
    clear q1 g1 hc1
    generalize W6.setCell ⟨b6, 2, none⟩ (.int .u32 c1) = W7 at *
    -- c
    have q1 := C7.out.1
    have g1 := there_free0 C7t.out 0 (by omega)
    have A8 := hide (A7.out.other n57.symm (i := 0) (.int .i64 k1))
    have E8 := hide (E7.out.other n67.symm (i := 0) (.int .i64 k1))
    have C8 := hide (C7.out.s0 (.int .i64 k1))
    have D8 := hide (D7.out.other n78 (i := 0) (.int .i64 k1))
    have D8t := hide (there_setC D7t.out ⟨b7, 0, none⟩ (.int .i64 k1))
    have Z8 := hide (below_set Z7.out (show w2.heap.size ≤ (⟨b7, 0, none⟩ : Addr).block from l7) (.int .i64 k1))
    clear A7 E7 C7 D7 C7t D7t Z7
    go_upto_region 9 with fail
    clear q1 g1 hk1
    generalize W7.setCell ⟨b7, 0, none⟩ (.int .i64 k1) = W8 at *
    -- d
    have hnew := below_new W8 (.cells #[] 44)
    have HM := hide (RowOwn.made W8 W8.heap.size (Nat.le_refl _) 44 32)
    have HNW := hide hnew
    have HI := hide ((HT2.out.1.on Z8.out).on hnew)
    obtain ⟨r0, r1, r2, r3, r4, r5, r6⟩ := (HX2.out.on Z8.out).on hnew
    have HLB : Hid (w2.heap.size ≤ W8.heap.size ∧ b5 < W8.heap.size ∧ b6 < W8.heap.size ∧ b7 < W8.heap.size ∧ b8 < W8.heap.size) := hide ⟨Z8.out.size, World.block_lt_of_cell? _ _ A8.out.1, World.block_lt_of_cell? _ _ E8.out.1, World.block_lt_of_cell? _ _ C8.out.1, World.block_lt_of_cell? _ _ D8.out.1⟩
    clear hnew
    go_wp2_with (at_builtin; refine wp_append_row rfl (.tmp 29) (.tmp 31) 24 44 rfl _ 32 32 Try.underlying24 infoHash rfl (by omega) (by omega) W8.heap.size _ [] rfl HM.out _ (m.ids.map (vals .u8)) rfl HI.out ?c1 ?c2 ?c3 ?_)
    case c1 =>
      intro c hc
      obtain ⟨y, hy, rfl⟩ := List.mem_map.1 hc
      exact ⟨by rw [vals_length]; exact (HOK.out.2.2.2.1 y hy).1, vals_cell .u8 y⟩
    case c2 => have := HFEW.out; simp; omega
    case c3 => exact HNW.out.size
    intro v9 w9 hrow9 hgr9 hwh9
    have hbel9 : Below W8.heap.size W8 w9 := HNW.out.grown hgr9 HNW.out.size fun j hj => (HM.out.lt j hj).1
    have hlt8 := World.block_lt_of_cell? _ _ D8.out.1
    simp only at hlt8
    obtain ⟨va, vc, rfl, hvc1, hvc2⟩ := hrow9.row.form
    have hlen : (m.ids.map (vals .u8)).length = m.ids.length := by simp
    rw [hlen] at hrow9 hvc1 ⊢
    have A9 := hide (A8.out.on hbel9)
    have E9 := hide (E8.out.on hbel9)
    have C9 := hide (C8.out.on hbel9)
    have D9 := hide (D8.out.on hbel9)
    have D9t := hide (there_on D8t.out hbel9)
    have Z9 := hide (Z8.out.trans (hbel9.mono Z8.out.size))
    have q3 := D9.out.2.2.2.1
    have g3 := there_free0 D9t.out 3 (by omega)
    have A10 := hide (A9.out.other n58.symm (i := 3) (.slice va m.ids.length vc))
    have E10 := hide (E9.out.other n68.symm (i := 3) (.slice va m.ids.length vc))
    have C10 := hide (C9.out.other n78.symm (i := 3) (.slice va m.ids.length vc))
    have D10 := hide (D9.out.s3 (.slice va m.ids.length vc))
    have D10t := hide (there_setC D9t.out ⟨b8, 3, none⟩ (.slice va m.ids.length vc))
    have Z10 := hide (below_set Z9.out (show w2.heap.size ≤ (⟨b8, 3, none⟩ : Addr).block from l8) (.slice va m.ids.length vc))
    have HR10 := hide (hrow9.move (w1 := w9.setCell ⟨b8, 3, none⟩ (.slice va m.ids.length vc)) fun k hk hl => (Besides.sets (p := b8) (q := b8) (w := w9) (Or.inl rfl) [.slice va m.ids.length vc] 3 w9 (Besides.refl _ _ _)).block k hl (by omega) (by omega))
    have HS10 : Hid (W8.heap.size ≤ (w9.setCell ⟨b8, 3, none⟩ (.slice va m.ids.length vc)).heap.size) := hide (by rw [size_setCell]; exact hbel9.size)
    clear hrow9 hgr9 hwh9 hbel9 A8 E8 C8 D8 D8t Z8 A9 E9 C9 D9 D9t Z9 HM HNW HI r0 r1 r2 r3 r4 r5 r6 hlen
    go_upto_region 10 with fail
    clear q3 g3
    generalize w9.setCell ⟨b8, 3, none⟩ (.slice va m.ids.length vc) = W10 at *
    generalize W8.heap.size = g8 at *
    have q3 := D10.out.2.2.2.1
    have g3 := there_free0 D10t.out 3 (by omega)
    by_cases hL : m.ids.length = 0
    · have hnil : m.ids = [] := List.length_eq_zero_iff.1 hL
      have eL : ¬ (0 : Int) < (m.ids.length : Int) := by omega
      obtain ⟨Y, hY⟩ : ∃ Y, Y = x :: List.replicate 31 0 := ⟨_, rfl⟩
      have hib := byte_hash W10 x
      rw [← hY] at hib
      have HIB := hide (show RowAt _ 32 _ [vals .u8 Y] from hib)
      have HYO : Hid (IdOk Y) := hide (by
        rw [hY]
        refine ⟨by simp, fun z hz => ?_⟩
        rcases List.mem_cons.1 hz with rfl | q
        · exact hx
        · obtain ⟨-, rfl⟩ := List.mem_replicate.1 q
          exact ⟨by omega, by omega⟩)
      have HC4 : Hid ((vals .u8 Y).length = 32 ∧ ∀ y ∈ vals .u8 Y, y.oneCell' = true) := hide ⟨by rw [vals_length]; exact HYO.out.1, vals_cell .u8 Y⟩
      clear hib hY
      have hnew := below_new W10 (.cells #[.int .u8 x, .int .u8 0, .int .u8 0, .int .u8 0, .int .u8 0, .int .u8 0, .int .u8 0, .int .u8 0, .int .u8 0, .int .u8 0, .int .u8 0, .int .u8 0, .int .u8 0, .int .u8 0, .int .u8 0, .int .u8 0, .int .u8 0, .int .u8 0, .int .u8 0, .int .u8 0, .int .u8 0, .int .u8 0, .int .u8 0, .int .u8 0, .int .u8 0, .int .u8 0, .int .u8 0, .int .u8 0, .int .u8 0, .int .u8 0, .int .u8 0, .int .u8 0] 44)
      have HNW := hide hnew
      have HR11 := hide (HR10.out.move (w1 := W10.alloc (.cells #[.int .u8 x, .int .u8 0, .int .u8 0, .int .u8 0, .int .u8 0, .int .u8 0, .int .u8 0, .int .u8 0, .int .u8 0, .int .u8 0, .int .u8 0, .int .u8 0, .int .u8 0, .int .u8 0, .int .u8 0, .int .u8 0, .int .u8 0, .int .u8 0, .int .u8 0, .int .u8 0, .int .u8 0, .int .u8 0, .int .u8 0, .int .u8 0, .int .u8 0, .int .u8 0, .int .u8 0, .int .u8 0, .int .u8 0, .int .u8 0, .int .u8 0, .int .u8 0] 44)) fun k _ hl => hnew.block k hl)
      have HC0 : Hid (m.ids.map (vals .u8) = []) := hide (by rw [hnil]; rfl)
      rw [HC0.out] at HR11
      have HNIL := hide hnil
      clear hL hnil
      have HRD := hide (D10.out.on hnew)
      have hdt := there_on D10t.out hnew
      clear hnew
      go_wp2_with (at_builtin; refine wp_append_row rfl (.tmp 55) (.tmp 58) 24 44 rfl _ 32 32 Try.underlying24 infoHash rfl (by omega) (by omega) g8 _ [] rfl HR11.out _ [vals .u8 Y] rfl HIB.out ?c4 (by simp) ?c6 ?_)
      case c4 => first | exact HC4.out | (intro c hc; obtain rfl := List.mem_singleton.1 hc; exact HC4.out)
      case c6 => first | exact Nat.le_trans HS10.out HNW.out.size | (have := HS10.out; omega)
      intro v12 w12 hrow12 hgr12 hwh12
      have hbel12 : Below g8 W10 w12 := (HNW.out.mono HS10.out).grown hgr12 (Nat.le_trans HS10.out HNW.out.size) fun j hj => (HR11.out.lt j hj).1
      have hlb := HLB.out
      have A12 := hide (A10.out.under hbel12 (by omega))
      have E12 := hide (E10.out.under hbel12 (by omega))
      have C12 := hide (C10.out.under hbel12 (by omega))
      have D12 := hide (D10.out.under hbel12 (by omega))
      have D12t := there_heap D10t.out (hbel12.block b8 (by omega))
      have Z12 := hide (Z10.out.trans (hbel12.mono (by omega)))
      have hrd : IdsAt w12 v12 [Y] := hrow12.row
      obtain ⟨da, dc, rfl, -, -⟩ := hrd.form
      have hlt12 := hrow12.lt
      have q5 := D12.out.2.2.2.1
      have g5 := there_free0 D12t 3 (by omega)
      have A13 := hide (A12.out.other n58.symm (i := 3) (.slice da [Y].length dc))
      have E13 := hide (E12.out.other n68.symm (i := 3) (.slice da [Y].length dc))
      have C13 := hide (C12.out.other n78.symm (i := 3) (.slice da [Y].length dc))
      have D13 := hide (D12.out.s3 (.slice da [Y].length dc))
      have Z13 := hide (below_set Z12.out (show w2.heap.size ≤ (⟨b8, 3, none⟩ : Addr).block from l8) (.slice da [Y].length dc))
      have DI := hide ((hrd.keeps (P := fun k => g8 ≤ k) fun k hk => (hlt12 k hk).1) (w12.setCell ⟨b8, 3, none⟩ (.slice da [Y].length dc)) fun k hk hp => (Besides.sets (p := b8) (q := b8) (w := w12) (Or.inl rfl) [.slice da [Y].length dc] 3 w12 (Besides.refl _ _ _)).block k hk (by omega) (by omega))
      obtain ⟨LD, hLD⟩ : ∃ LD, LD = [Y] := ⟨_, rfl⟩
      have HLD : Hid (∀ y ∈ LD, IdOk y) := hide (fun y hy => by rw [hLD] at hy; obtain rfl := List.mem_singleton.1 hy; exact HYO.out)
      have HNE : Hid (LD ≠ m.ids) := hide (by rw [hLD, HNIL.out]; simp)
      have hl1 : [Y].length = 1 := rfl
      rw [hl1] at A13 E13 C13 D13 Z13 DI ⊢
      dsimp only at DI
      rw [← hLD] at DI
      clear hrd hlt12 hrow12 hgr12 hwh12 hbel12 hlb A10 E10 C10 D10 D10t Z10 HR10 HS10 HLB A12 E12 C12 D12 D12t Z12 HRD hdt HIB HC4 HYO HNW HR11 HC0 HNIL hLD hl1 hx
      go_upto_region 13 with fail
      clear q3 g3 q5 g5
      generalize w12.setCell ⟨b8, 3, none⟩ (.slice da 1 dc) = W13 at *
      have T13 := hide (HT2.out.on Z13.out)
      have X13 := hide (HX2.out.on Z13.out)
      have SM0 := hide (fun w h h' => msame_any m m (.slice sa m.ids.length sc) (.slice ia m.tx.ins.length ic) (.slice oa m.tx.outs.length oc) (.slice sa m.ids.length sc) (.slice ia m.tx.ins.length ic) (.slice oa m.tx.outs.length oc) w h h' HOK.out HOK.out true (by simp))
      have SMa := hide (fun w h h' => msame_any m ⟨m.kind, n1, m.code, m.ids, m.tx⟩ (.slice sa m.ids.length sc) (.slice ia m.tx.ins.length ic) (.slice oa m.tx.outs.length oc) (.slice sa m.ids.length sc) (.slice ia m.tx.ins.length ic) (.slice oa m.tx.outs.length oc) w h h' HOK.out ⟨HOK.out.1, HN1.out.2, HOK.out.2.2.1, HOK.out.2.2.2⟩ false ⟨fun h => (by cases h), fun e => absurd (show n1 = m.n from (congrArg Mg.n e).symm) HN1.out.1⟩)
      have SMb := hide (fun w h h' => msame_any ⟨m.kind, m.n, c1, m.ids, m.tx⟩ m (.slice sa m.ids.length sc) (.slice ia m.tx.ins.length ic) (.slice oa m.tx.outs.length oc) (.slice sa m.ids.length sc) (.slice ia m.tx.ins.length ic) (.slice oa m.tx.outs.length oc) w h h' ⟨HOK.out.1, HOK.out.2.1, HC1.out.2, HOK.out.2.2.2⟩ HOK.out false ⟨fun h => (by cases h), fun e => absurd (show c1 = m.code from congrArg Mg.code e) HC1.out.1⟩)
      have SMc := hide (fun w h h' => msame_any m ⟨k1, m.n, m.code, m.ids, m.tx⟩ (.slice sa m.ids.length sc) (.slice ia m.tx.ins.length ic) (.slice oa m.tx.outs.length oc) (.slice sa m.ids.length sc) (.slice ia m.tx.ins.length ic) (.slice oa m.tx.outs.length oc) w h h' HOK.out ⟨HK1.out.2, HOK.out.2⟩ false ⟨fun h => (by cases h), fun e => absurd (show k1 = m.kind from (congrArg Mg.kind e).symm) HK1.out.1⟩)
      have SMd := hide (fun w h h' => msame_any ⟨m.kind, m.n, m.code, LD, m.tx⟩ m (.slice da 1 dc) (.slice ia m.tx.ins.length ic) (.slice oa m.tx.outs.length oc) (.slice sa m.ids.length sc) (.slice ia m.tx.ins.length ic) (.slice oa m.tx.outs.length oc) w h h' ⟨HOK.out.1, HOK.out.2.1, HOK.out.2.2.1, HLD.out, HOK.out.2.2.2.2⟩ HOK.out false ⟨fun h => (by cases h), fun e => absurd (show LD = m.ids from congrArg Mg.ids e) HNE.out⟩)
      have HBG13 : Hid (g ≤ W13.heap.size) := hide (Nat.le_trans HBG2.out Z13.out.size)
      have HB13 := hide (HB2.out.trans (Z13.out.mono HBG2.out))
      clear HT2 HX2 HB2 HBG2 Z13 HOK HLD HNE HN1 HC1 HK1
      obtain ⟨x0, x1, x2, x3, x4, x5, x6⟩ := X13.out
      go_wp2_with fail
      refine (SM0.out _ T13.out T13.out).mono ?_
      rintro e w14 ⟨rfl, hb14⟩
      have T14 := hide (T13.out.on hb14)
      have X14 := hide (X13.out.on hb14)
      have A14 := hide (A13.out.on hb14)
      have E14 := hide (E13.out.on hb14)
      have C14 := hide (C13.out.on hb14)
      have D14 := hide (D13.out.on hb14)
      have DI14 := hide (DI.out.on hb14)
      have HB14 := hide (HB13.out.trans (hb14.mono HBG13.out))
      have HBG14 := hide (Nat.le_trans HBG13.out hb14.size)
      clear x0 x1 x2 x3 x4 x5 x6 T13 X13 A13 E13 C13 D13 DI HB13 HBG13 SM0 hb14
      obtain ⟨x0, x1, x2, x3, x4, x5, x6⟩ := X14.out
      obtain ⟨y0, y1, y2, y3, y4, y5, y6⟩ := A14.out
      go_wp2_with fail
      refine (SMa.out _ T14.out ⟨T14.out.1, T14.out.2⟩).mono ?_
      rintro e w15 ⟨rfl, hb15⟩
      have T15 := hide (T14.out.on hb15)
      have X15 := hide (X14.out.on hb15)
      have E15 := hide (E14.out.on hb15)
      have C15 := hide (C14.out.on hb15)
      have D15 := hide (D14.out.on hb15)
      have DI15 := hide (DI14.out.on hb15)
      have HB15 := hide (HB14.out.trans (hb15.mono HBG14.out))
      have HBG15 := hide (Nat.le_trans HBG14.out hb15.size)
      clear x0 x1 x2 x3 x4 x5 x6 y0 y1 y2 y3 y4 y5 y6 T14 X14 A14 E14 C14 D14 DI14 HB14 HBG14 SMa hb15
      obtain ⟨x0, x1, x2, x3, x4, x5, x6⟩ := X15.out
      obtain ⟨y0, y1, y2, y3, y4, y5, y6⟩ := E15.out
      go_wp2_with fail
      refine (SMb.out _ ⟨T15.out.1, T15.out.2⟩ T15.out).mono ?_
      rintro e w16 ⟨rfl, hb16⟩
      have T16 := hide (T15.out.on hb16)
      have X16 := hide (X15.out.on hb16)
      have C16 := hide (C15.out.on hb16)
      have D16 := hide (D15.out.on hb16)
      have DI16 := hide (DI15.out.on hb16)
      have HB16 := hide (HB15.out.trans (hb16.mono HBG15.out))
      have HBG16 := hide (Nat.le_trans HBG15.out hb16.size)
      clear x0 x1 x2 x3 x4 x5 x6 y0 y1 y2 y3 y4 y5 y6 T15 X15 E15 C15 D15 DI15 HB15 HBG15 SMb hb16
      obtain ⟨x0, x1, x2, x3, x4, x5, x6⟩ := X16.out
      obtain ⟨y0, y1, y2, y3, y4, y5, y6⟩ := C16.out
      go_wp2_with fail
      refine (SMc.out _ T16.out ⟨T16.out.1, T16.out.2⟩).mono ?_
      rintro e w17 ⟨rfl, hb17⟩
      have T17 := hide (T16.out.on hb17)
      have X17 := hide (X16.out.on hb17)
      have D17 := hide (D16.out.on hb17)
      have DI17 := hide (DI16.out.on hb17)
      have HB17 := hide (HB16.out.trans (hb17.mono HBG16.out))
      have HBG17 := hide (Nat.le_trans HBG16.out hb17.size)
      clear x0 x1 x2 x3 x4 x5 x6 y0 y1 y2 y3 y4 y5 y6 T16 X16 C16 D16 DI16 HB16 HBG16 SMc hb17
      obtain ⟨x0, x1, x2, x3, x4, x5, x6⟩ := X17.out
      obtain ⟨y0, y1, y2, y3, y4, y5, y6⟩ := D17.out
      go_wp2_with fail
      refine (SMd.out _ ⟨DI17.out, T17.out.2⟩ T17.out).mono ?_
      rintro e w18 ⟨rfl, hb18⟩
      have R := hide (HB17.out.trans (hb18.mono HBG17.out))
      clear x0 x1 x2 x3 x4 x5 x6 y0 y1 y2 y3 y4 y5 y6 T17 X17 D17 DI17 HB17 HBG17 SMd hb18
      go_wp2
      go_ret
      rw [HG.out]
      exact ⟨rfl, R.out⟩
    · have eL : (0 : Int) < (m.ids.length : Int) := by omega
      rcases id HR10.out.1.2 with ⟨-, h0⟩ | ⟨rb, cap, cur, e, hrb, -⟩
      · rw [List.length_map] at h0; omega
      have hva : va = some ⟨rb, 0, none⟩ := by simpa using (Value.slice.inj e).1
      subst hva
      have hxl : x % (m.ids.length : Int) = ((x % (m.ids.length : Int)).toNat : Int) := (Int.toNat_of_nonneg (Int.emod_nonneg _ (by omega))).symm
      have hkl : (x % (m.ids.length : Int)).toNat < m.ids.length := by have := Int.emod_lt_of_pos x eL; omega
      have hx0 : 0 ≤ x ∧ x < 256 := hx
      have hjl : x % 32 = ((x % 32).toNat : Int) := by omega
      have hj32 : (x % 32).toNat < 32 := by omega
      generalize (x % (m.ids.length : Int)).toNat = k at *
      generalize (x % 32).toNat = j at *
      have hxt : x.tmod (m.ids.length : Int) = (k : Int) := by rw [Int.tmod_eq_emod_of_nonneg hx0.1]; exact hxl
      have hxj : x.tmod 32 = (j : Int) := by rw [Int.tmod_eq_emod_of_nonneg hx0.1]; exact hjl
      have hxw : IntKind.i64.wrap x = x := by simp [IntKind.wrap, IntKind.bits, IntKind.signed]; omega
      have hy : m.ids[k]? = some (m.ids.getD k []) := by simp [List.getD, hkl]
      have hylen := (HOK.out.2.2.2.1 _ (List.mem_of_getElem? hy)).1
      have hyb := (HOK.out.2.2.2.1 _ (List.mem_of_getElem? hy)).2
      obtain ⟨ab, aoff, ea, hra⟩ := IdsAt.get (show IdsAt W10 _ m.ids from HR10.out.row) hy
      simp only [Option.some.injEq, Addr.mk.injEq] at ea
      obtain ⟨rfl, rfl, -⟩ := ea
      have hcell := hra j _ (vals_get .u8 _ j (by omega))
      rw [Nat.zero_add] at hcell
      have hown := HR10.out.1
      rw [List.length_map] at hown
      have hfz := World.ownsRow.frozenAt (g := rb) hown (k * 32 + j)
      clear hown
      obtain ⟨z1, hz1⟩ : ∃ z1, IntKind.u8.wrap ((m.ids.getD k []).getD j 0 + 1) = z1 := ⟨_, rfl⟩
      have hzb : Byte ((m.ids.getD k []).getD j 0) := getD_byte hyb (by omega)
      have hz1n : z1 ≠ (m.ids.getD k []).getD j 0 ∧ Byte z1 := by
        rw [← hz1]
        generalize (m.ids.getD k []).getD j 0 = z0 at *
        have e : IntKind.u8.wrap (z0 + 1) = (z0 + 1) % 256 := by simp [IntKind.wrap, IntKind.bits, IntKind.signed]
        have h1 := hzb.1
        have h2 := hzb.2
        rw [e]
        exact ⟨by omega, by omega, by omega⟩
      have HLD : Hid (∀ y ∈ m.ids.set k ((m.ids.getD k []).set j z1), IdOk y) := hide (fun y hy' => by
        rcases List.mem_or_eq_of_mem_set hy' with q | rfl
        · exact HOK.out.2.2.2.1 y q
        · refine ⟨by rw [List.length_set]; exact hylen, fun z hz => ?_⟩
          rcases List.mem_or_eq_of_mem_set hz with q | rfl
          · exact hyb z q
          · exact hz1n.2)
      have HNE : Hid (m.ids.set k ((m.ids.getD k []).set j z1) ≠ m.ids) := hide (fun e' => by
        have e1 := congrArg (fun l => (l.getD k []).getD j 0) e'
        have hjj : j < (m.ids.getD k []).length := by omega
        simp only [List.getD, List.getElem?_set_self hkl, Option.getD_some] at e1
        rw [List.getElem?_set_self (by simpa [List.getD] using hjj)] at e1
        exact hz1n.1 (by simpa [List.getD] using e1))
      have DI := hide ((ids_set (show IdsAt W10 _ m.ids from HR10.out.row) (fun y hy => (HOK.out.2.2.2.1 y hy).1) k j hkl hj32 z1).on (Below.refl _ _).drew)
      have hlb := HLB.out
      have A13 := hide ((A10.out.other (b := rb) (by omega) (i := k * 32 + j) (.int .u8 z1)).on (Below.refl _ _).drew)
      have E13 := hide ((E10.out.other (b := rb) (by omega) (i := k * 32 + j) (.int .u8 z1)).on (Below.refl _ _).drew)
      have C13 := hide ((C10.out.other (b := rb) (by omega) (i := k * 32 + j) (.int .u8 z1)).on (Below.refl _ _).drew)
      have D13 := hide ((D10.out.other (b := rb) (by omega) (i := k * 32 + j) (.int .u8 z1)).on (Below.refl _ _).drew)
      have Z13 := hide ((below_set Z10.out (show w2.heap.size ≤ (⟨rb, k * 32 + j, none⟩ : Addr).block by show w2.heap.size ≤ rb; omega) (.int .u8 z1)).drew)
      have HZ1 := hide hz1n
      have HXL := hide hxl
      clear hlb hxl hjl hx0 hy hylen hyb hra hzb hz1n e A10 E10 C10 D10 D10t Z10 HR10 HS10 HLB hx
      generalize m.ids.set k ((m.ids.getD k []).set j z1) = LD at *
      generalize (m.ids.getD k []).getD j 0 = z0 at *
      have hkI : (k : Int) < (m.ids.length : Int) := by omega
      have hjI : (j : Int) < 32 := by omega
      have hwj : IntKind.u8.wrap (j : Int) = (j : Int) := by simp [IntKind.wrap, IntKind.bits, IntKind.signed]; omega
      go_upto_region 11 with fail
      go_region_with (fail)
      all_goals
        go_upto_region 13 with fail
        generalize (W10.setCell ⟨rb, k * 32 + j, none⟩ (.int .u8 z1)).drew = W13 at *
        clear q3 g3 hcell hfz hz1 HZ1 HXL
        have T13 := hide (HT2.out.on Z13.out)
        have X13 := hide (HX2.out.on Z13.out)
        have SM0 := hide (fun w h h' => msame_any m m (.slice sa m.ids.length sc) (.slice ia m.tx.ins.length ic) (.slice oa m.tx.outs.length oc) (.slice sa m.ids.length sc) (.slice ia m.tx.ins.length ic) (.slice oa m.tx.outs.length oc) w h h' HOK.out HOK.out true (by simp))
        have SMa := hide (fun w h h' => msame_any m ⟨m.kind, n1, m.code, m.ids, m.tx⟩ (.slice sa m.ids.length sc) (.slice ia m.tx.ins.length ic) (.slice oa m.tx.outs.length oc) (.slice sa m.ids.length sc) (.slice ia m.tx.ins.length ic) (.slice oa m.tx.outs.length oc) w h h' HOK.out ⟨HOK.out.1, HN1.out.2, HOK.out.2.2.1, HOK.out.2.2.2⟩ false ⟨fun h => (by cases h), fun e => absurd (show n1 = m.n from (congrArg Mg.n e).symm) HN1.out.1⟩)
        have SMb := hide (fun w h h' => msame_any ⟨m.kind, m.n, c1, m.ids, m.tx⟩ m (.slice sa m.ids.length sc) (.slice ia m.tx.ins.length ic) (.slice oa m.tx.outs.length oc) (.slice sa m.ids.length sc) (.slice ia m.tx.ins.length ic) (.slice oa m.tx.outs.length oc) w h h' ⟨HOK.out.1, HOK.out.2.1, HC1.out.2, HOK.out.2.2.2⟩ HOK.out false ⟨fun h => (by cases h), fun e => absurd (show c1 = m.code from congrArg Mg.code e) HC1.out.1⟩)
        have SMc := hide (fun w h h' => msame_any m ⟨k1, m.n, m.code, m.ids, m.tx⟩ (.slice sa m.ids.length sc) (.slice ia m.tx.ins.length ic) (.slice oa m.tx.outs.length oc) (.slice sa m.ids.length sc) (.slice ia m.tx.ins.length ic) (.slice oa m.tx.outs.length oc) w h h' HOK.out ⟨HK1.out.2, HOK.out.2⟩ false ⟨fun h => (by cases h), fun e => absurd (show k1 = m.kind from (congrArg Mg.kind e).symm) HK1.out.1⟩)
        have SMd := hide (fun w h h' => msame_any ⟨m.kind, m.n, m.code, LD, m.tx⟩ m (.slice (some ⟨rb, 0, none⟩) m.ids.length vc) (.slice ia m.tx.ins.length ic) (.slice oa m.tx.outs.length oc) (.slice sa m.ids.length sc) (.slice ia m.tx.ins.length ic) (.slice oa m.tx.outs.length oc) w h h' ⟨HOK.out.1, HOK.out.2.1, HOK.out.2.2.1, HLD.out, HOK.out.2.2.2.2⟩ HOK.out false ⟨fun h => (by cases h), fun e => absurd (show LD = m.ids from congrArg Mg.ids e) HNE.out⟩)
        have HBG13 : Hid (g ≤ W13.heap.size) := hide (Nat.le_trans HBG2.out Z13.out.size)
        have HB13 := hide (HB2.out.trans (Z13.out.mono HBG2.out))
        clear HT2 HX2 HB2 HBG2 Z13 HOK HLD HNE HN1 HC1 HK1
        obtain ⟨x0, x1, x2, x3, x4, x5, x6⟩ := X13.out
        go_wp2_with fail
        refine (SM0.out _ T13.out T13.out).mono ?_
        rintro e w14 ⟨rfl, hb14⟩
        have T14 := hide (T13.out.on hb14)
        have X14 := hide (X13.out.on hb14)
        have A14 := hide (A13.out.on hb14)
        have E14 := hide (E13.out.on hb14)
        have C14 := hide (C13.out.on hb14)
        have D14 := hide (D13.out.on hb14)
        have DI14 := hide (DI.out.on hb14)
        have HB14 := hide (HB13.out.trans (hb14.mono HBG13.out))
        have HBG14 := hide (Nat.le_trans HBG13.out hb14.size)
        clear x0 x1 x2 x3 x4 x5 x6 T13 X13 A13 E13 C13 D13 DI HB13 HBG13 SM0 hb14
        obtain ⟨x0, x1, x2, x3, x4, x5, x6⟩ := X14.out
        obtain ⟨y0, y1, y2, y3, y4, y5, y6⟩ := A14.out
        go_wp2_with fail
        refine (SMa.out _ T14.out ⟨T14.out.1, T14.out.2⟩).mono ?_
        rintro e w15 ⟨rfl, hb15⟩
        have T15 := hide (T14.out.on hb15)
        have X15 := hide (X14.out.on hb15)
        have E15 := hide (E14.out.on hb15)
        have C15 := hide (C14.out.on hb15)
        have D15 := hide (D14.out.on hb15)
        have DI15 := hide (DI14.out.on hb15)
        have HB15 := hide (HB14.out.trans (hb15.mono HBG14.out))
        have HBG15 := hide (Nat.le_trans HBG14.out hb15.size)
        clear x0 x1 x2 x3 x4 x5 x6 y0 y1 y2 y3 y4 y5 y6 T14 X14 A14 E14 C14 D14 DI14 HB14 HBG14 SMa hb15
        obtain ⟨x0, x1, x2, x3, x4, x5, x6⟩ := X15.out
        obtain ⟨y0, y1, y2, y3, y4, y5, y6⟩ := E15.out
        go_wp2_with fail
        refine (SMb.out _ ⟨T15.out.1, T15.out.2⟩ T15.out).mono ?_
        rintro e w16 ⟨rfl, hb16⟩
        have T16 := hide (T15.out.on hb16)
        have X16 := hide (X15.out.on hb16)
        have C16 := hide (C15.out.on hb16)
        have D16 := hide (D15.out.on hb16)
        have DI16 := hide (DI15.out.on hb16)
        have HB16 := hide (HB15.out.trans (hb16.mono HBG15.out))
        have HBG16 := hide (Nat.le_trans HBG15.out hb16.size)
        clear x0 x1 x2 x3 x4 x5 x6 y0 y1 y2 y3 y4 y5 y6 T15 X15 E15 C15 D15 DI15 HB15 HBG15 SMb hb16
        obtain ⟨x0, x1, x2, x3, x4, x5, x6⟩ := X16.out
        obtain ⟨y0, y1, y2, y3, y4, y5, y6⟩ := C16.out
        go_wp2_with fail
        refine (SMc.out _ T16.out ⟨T16.out.1, T16.out.2⟩).mono ?_
        rintro e w17 ⟨rfl, hb17⟩
        have T17 := hide (T16.out.on hb17)
        have X17 := hide (X16.out.on hb17)
        have D17 := hide (D16.out.on hb17)
        have DI17 := hide (DI16.out.on hb17)
        have HB17 := hide (HB16.out.trans (hb17.mono HBG16.out))
        have HBG17 := hide (Nat.le_trans HBG16.out hb17.size)
        clear x0 x1 x2 x3 x4 x5 x6 y0 y1 y2 y3 y4 y5 y6 T16 X16 C16 D16 DI16 HB16 HBG16 SMc hb17
        obtain ⟨x0, x1, x2, x3, x4, x5, x6⟩ := X17.out
        obtain ⟨y0, y1, y2, y3, y4, y5, y6⟩ := D17.out
        go_wp2_with fail
        refine (SMd.out _ ⟨DI17.out, T17.out.2⟩ T17.out).mono ?_
        rintro e w18 ⟨rfl, hb18⟩
        have R := hide (HB17.out.trans (hb18.mono HBG17.out))
        clear x0 x1 x2 x3 x4 x5 x6 y0 y1 y2 y3 y4 y5 y6 T17 X17 D17 DI17 HB17 HBG17 SMd hb18
        go_wp2
        go_ret
        rw [HG.out]
        exact ⟨rfl, R.out⟩
set_option maxRecDepth 100000 in
set_option maxHeartbeats 1000000 in
theorem same8_great {w : World} (m : Mg) (d iv ov : Value) (h : MsgAt w d iv ov m) (hok : MgOk m) (x : Int) (hg : greatM m = true) :
    Calls Try.prog 6 #[.agg #[.int .i64 m.kind, .int .u64 m.n, .int .u32 m.code, d, .int .u32 m.tx.ver, iv, ov], .int .u8 x] w fun e w' => e = .returned (.bool true) ∧ Below w.heap.size w w' := by
  have hnew := below_new w (.cells #[.int .i64 m.kind, .int .u64 m.n, .int .u32 m.code, d, .int .u32 m.tx.ver, iv, ov] 30)
  have HT0 := hide (h.on hnew)
  have HB0 := hide hnew
  have HX0 := hide (MBox.new w (.int .i64 m.kind) (.int .u64 m.n) (.int .u32 m.code) d (.int .u32 m.tx.ver) iv ov 30)
  have GR := hide (fun w (h : MsgAt w d iv ov m) => great8_any m d iv ov w h hok)
  have AL := hide alive8_any
  rw [hg] at GR
  obtain ⟨sa, sc, ia, ic, oa, oc, rfl, rfl, rfl⟩ := h.form
  clear hnew h hok hg
  go_enter Try.func6, Try.ntmps6
  go_upto_region 1 with fail
  generalize w.alloc (.cells #[.int .i64 m.kind, .int .u64 m.n, .int .u32 m.code, .slice sa m.ids.length sc, .int .u32 m.tx.ver, .slice ia m.tx.ins.length ic, .slice oa m.tx.outs.length oc] 30) = W0 at *
  generalize hg : w.heap.size = g at *
  have HG := hide hg
  clear hg
  have HBG : Hid (g ≤ W0.heap.size) := hide (by have := HB0.out.size; have := HG.out; omega)
  go_wp2_with fail
  refine (AL.out _).mono ?_
  rintro e w1 ⟨rfl, hb1⟩
  have HB1 := hide (HB0.out.trans (hb1.mono HBG.out))
  have HBG1 : Hid (g ≤ w1.heap.size) := hide (Nat.le_trans HBG.out hb1.size)
  have HT1 := hide (HT0.out.on hb1)
  have HX1 := hide (HX0.out.on hb1)
  obtain ⟨p0, p1, p2, p3, p4, p5, p6⟩ := HX1.out
  clear hb1 HB0 HT0 HX0 AL HBG
  go_wp2_with fail
  refine (GR.out _ HT1.out).mono ?_
  rintro e w2 ⟨rfl, hb2⟩
  have HB2 := hide (HB1.out.trans (hb2.mono HBG1.out))
  have HBG2 : Hid (g ≤ w2.heap.size) := hide (Nat.le_trans HBG1.out hb2.size)
  have HT2 := hide (HT1.out.on hb2)
  have HX2 := hide (HX1.out.on hb2)
  clear p0 p1 p2 p3 p4 p5 p6
  obtain ⟨p0, p1, p2, p3, p4, p5, p6⟩ := HX2.out
  clear hb2 HB1 HT1 HX1 GR HBG1
  clear HT2 HX2 p0 p1 p2 p3 p4 p5 p6
  go_wp2
  go_ret
  rw [HG.out]
  exact ⟨rfl, HB2.out⟩
theorem same8_law {w : World} (m : Mg) (d iv ov : Value) (h : MsgAt w d iv ov m) (hok : MgOk m) (x : Int) (hx : Byte x) :
    Calls Try.prog 6 #[.agg #[.int .i64 m.kind, .int .u64 m.n, .int .u32 m.code, d, .int .u32 m.tx.ver, iv, ov], .int .u8 x] w fun e w' => e = .returned (.bool true) ∧ Below w.heap.size w w' := by
  cases hg : greatM m with
  | true => exact same8_great m d iv ov h hok x hg
  | false => exact same8_some m d iv ov h hok x hx hg

set_option maxRecDepth 100000 in
theorem msgSame_lifted (os : Os) (started : os.Started) (H : Type) (enc : TypeId × Value → H) :
    ReturnsInHanded {} Try.checked os 6 .any (Rows.msgSameSpec.pre6 enc Try.prog Try.f6 Rows.msgSameRow.domain false) (Rows.msgSameSpec.post enc Try.prog Try.f6 false true false false) := by
  refine returnsInHanded_of_change (C := Try.checked) own started (by kernel_rfl) Try.func6
    (ChangeSpec.witness6 (enc := enc) (C := Try.checked) false ⟨#[], #[.agg #[.int .i64 0, .int .u64 0, .int .u32 0, .slice none 0 0, .int .u32 0, .slice none 0 0, .slice none 0 0], .int .u8 0], []⟩ 8 (by kernel_rfl) (by kernel_rfl) (by kernel_rfl) (by kernel_rfl)) ?_
  intro W base args ds gs before hval0 hW hcnd _
  have hval : ∀ (j : Nat) t v, Try.f6.params[j]? = some t → args[j]? = some v → Value.okWide Try.prog W .any base t v := hval0
  have hW' := hW
  obtain ⟨p, q, hA0, hV, rfl, hfz, hnd⟩ := hW
  have hA : DataW.TrodAll enc Try.prog W 0 (fun _ => true) true Try.f6.params.toList args.toList ds p := hA0
  rw [Try.params6] at hA hval
  obtain ⟨v0, vs0, d0, ds0, p0, q0, hargs, rfl, rfl, h0, r0⟩ := trodAll_cons hA
  obtain ⟨v1, vs1, d1, ds1, p1, q1, rfl, rfl, rfl, h1, r1⟩ := trodAll_cons r0
  obtain ⟨rfl, rfl, rfl⟩ := trodAll_nil r1
  obtain rfl : args = #[v0, v1] := by cases args; simp_all
  obtain ⟨rfl, rfl⟩ := trodVars_none hV
  have k0 := h0
  have lt0 : ∀ x ∈ p0, x.block < W.heap.size := by obtain ⟨m, hm⟩ := k0; exact DataW.trod_lt m _ _ _ hm
  obtain ⟨t0, c0, a0, b0, rfl, s0, w0⟩ := msg_came (fun _ => rfl) (hval 0 30 v0 rfl rfl) h0
  obtain ⟨a1, rfl, rfl, rfl, w1⟩ := open_int Try.underlying5 (hval 1 5 v1 rfl rfl) h1
  clear hA0 hval0
  refine (same8_law (w := W) t0 _ _ _ s0 w0 a1 (byte_of_wf w1)).mono fun e W' ⟨he, bel⟩ => ?_
  subst he
  exact ⟨_, rfl, _, _, _, [], _, [], hW', trodAll_mk1 (shut_bool Try.underlying4 _), (trodAll_cons_mk (Below.trod laidOut (by kernel_rfl) (of_decide_eq_true (by kernel_rfl)) k0 bel lt0) (trodAll_cons_mk (shut_int Try.underlying5 w1) trodAll_mk0)), rfl, bel.frame _, fun h => by cases h⟩

theorem msgSame_holds : Rows.MsgSameSaid :=
  OpenClaim.holds_of_wide 6 Try.f6 rfl rfl rfl rfl rfl rfl rfl ⟨rfl, rfl, rfl, rfl, rfl⟩ rfl rfl rfl rfl rfl (by kernel_rfl) Try.func6 (by kernel_rfl)
    (of_decide_eq_true (by kernel_rfl)) (by unfold Func.isWrapper; first | (rw [if_pos (by decide +kernel)]; kernel_rfl) | (rw [if_neg (by decide +kernel)]; exact ⟨rfl, rfl⟩))
    (fun os started H enc _ => msgSame_lifted os started H enc)
#print axioms msgSame_holds
end Go.Proofs.Ytjmifgdjmaelfab
