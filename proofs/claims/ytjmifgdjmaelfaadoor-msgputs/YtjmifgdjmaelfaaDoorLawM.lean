import Derived.Test.YtjmifgdjmaelfaaDoorTxCame
import Derived.Test.YtjmifgdjmaelfaaDoorMgAt
import Derived.Test.YtjmifgdjmaelfaaDoorMgAlive
import Derived.Test.YtjmifgdjmaelfaaDoorMgGreat
import Derived.Test.YtjmifgdjmaelfaaDoorMgA
import Derived.ChangeMaps5
import Derived.Test.YtjmifgdjmaelfaaDoorMgX
import Derived.Test.YtjmifgdjmaelfaaDoorFrA
import Derived.Test.YtjmifgdjmaelfaaDoorFrBack
import Derived.Test.YtjmifgdjmaelfaaDoorRfP
import Derived.Test.YtjmifgdjmaelfaaDoorRefMgPutB
import Derived.Test.YtjmifgdjmaelfaaDoorRfW
import Derived.Test.YtjmifgdjmaelfaaDoorRfF
/-
  A message that comes in. Nothing here speaks of one function.
-/
namespace Go.Proofs.YtjmifgdjmaelfaaDoor
open Go.ChangeShapes Go.WideShapes Go.ChangeAt Go.RowKit

instance : Inhabited (List Int) := ⟨[]⟩
section
variable {H : Type} {enc : TypeId × Value → H} {W : World} {base : Nat} {spare : Nat → Bool} {held : Bool}
theorem trod_struct5 {t : TypeId} {f0 f1 f2 f3 f4 : Field} {fuel : Nat} {cs : List Value} {x : DataW H × List MemPlace} (ht : Tryd.prog.underlying t = some (.struct #[f0, f1, f2, f3, f4])) (h : DataW.trod enc Tryd.prog W base spare held fuel t cs = some x) :
    ∃ y0 y1 y2 y3 y4 n, cs.length = Tryd.prog.cellsOf t ∧ DataW.trod enc Tryd.prog W base spare held n f0.type ((cs.drop f0.offset).take (Tryd.prog.cellsOf f0.type)) = some y0 ∧
      DataW.trod enc Tryd.prog W base spare held n f1.type ((cs.drop f1.offset).take (Tryd.prog.cellsOf f1.type)) = some y1 ∧ DataW.trod enc Tryd.prog W base spare held n f2.type ((cs.drop f2.offset).take (Tryd.prog.cellsOf f2.type)) = some y2 ∧
      DataW.trod enc Tryd.prog W base spare held n f3.type ((cs.drop f3.offset).take (Tryd.prog.cellsOf f3.type)) = some y3 ∧ DataW.trod enc Tryd.prog W base spare held n f4.type ((cs.drop f4.offset).take (Tryd.prog.cellsOf f4.type)) = some y4 := by
  obtain ⟨xs, n, _, rfl, hl, hlen, hf⟩ := DataW.trod_struct ht h
  match xs, hlen with
  | [y0, y1, y2, y3, y4], _ => exact ⟨y0, y1, y2, y3, y4, n, hl, by simpa using hf 0 f0 rfl, by simpa using hf 1 f1 rfl, by simpa using hf 2 f2 rfl, by simpa using hf 3 f3 rfl, by simpa using hf 4 f4 rfl⟩
theorem array7 {α : Type} {cs : Array α} (h : cs.size = 7) : ∃ c0 c1 c2 c3 c4 c5 c6, cs = #[c0, c1, c2, c3, c4, c5, c6] := by
  obtain ⟨l⟩ := cs
  match l, h with
  | [c0, c1, c2, c3, c4, c5, c6], _ => exact ⟨c0, c1, c2, c3, c4, c5, c6, rfl⟩
theorem ids_came {fuel : Nat} {cs : List Value} {x : DataW H × List MemPlace} (h : DataW.trod enc Tryd.prog W base spare held fuel 49 cs = some x) : ∃ v L, cs = [v] ∧ IdsAt W v L ∧ ∀ x ∈ L, IdOk x := by
  rcases Go.Deep.open_slice Tryd.underlying49 h with ⟨rfl, -⟩ | ⟨a, len, cap, m, n, D, Pl, rfl, hb, hl, hm, hmm, -, hx⟩
  · exact ⟨_, [], rfl, IdsAt.nil W, fun _ h => by cases h⟩
  · obtain ⟨L, h1, h2, h3⟩ := rows_came (C := vals .u8) (Q := IdOk) (s := 32) (m := m) (fun y hy => by rw [vals_length]; exact hy.1) (by omega) (by kernel_rfl) hl hm (by rw [hmm]; split <;> omega) (fun i hi => by
      obtain ⟨cs', g1, g2⟩ := hx i hi
      obtain ⟨y, e, k1, k2⟩ := hash_cells g2
      exact ⟨cs', g1, y, e, k1, k2⟩)
    exact ⟨_, L, rfl, h1, h3⟩
set_option maxRecDepth 100000 in
theorem tx_cells {fuel : Nat} {cs : List Value} {x : DataW H × List MemPlace} (hsp : ∀ k, spare k = true) (h : DataW.trod enc Tryd.prog W base spare held fuel 26 cs = some x) : ∃ (t : Tr) (iv ov : Value), cs = [.int .u32 t.ver, iv, ov] ∧ TxAt W iv ov t ∧ TrOk t := by
  obtain ⟨y0, y1, y2, n, -, hl, h0, h1, h2⟩ := Go.Deep.trod_struct3 Tryd.underlying26 h
  have hl : cs.length = 3 := hl.trans (by kernel_rfl)
  have c0 : Tryd.prog.cellsOf 22 = 1 := by kernel_rfl
  have c1 : Tryd.prog.cellsOf 23 = 1 := by kernel_rfl
  have c2 : Tryd.prog.cellsOf 24 = 1 := by kernel_rfl
  match cs, hl with
  | [v0, v1, v2], _ =>
    simp only [c0, c1, c2] at h0 h1 h2
    obtain ⟨z, e0, -, w0⟩ := DataW.trod_int Tryd.underlying22 (show DataW.trod enc Tryd.prog W base spare held n 22 [v0] = some y0 from h0)
    obtain ⟨iv, L, e1, k1, k2⟩ := ins_came hsp (show DataW.trod enc Tryd.prog W base spare held n 23 [v1] = some y1 from h1)
    obtain ⟨ov, M, e2, m1, m2⟩ := outs_came (show DataW.trod enc Tryd.prog W base spare held n 24 [v2] = some y2 from h2)
    obtain rfl : v0 = .int .u32 z := by simpa using e0
    obtain rfl : v1 = iv := by simpa using e1
    obtain rfl : v2 = ov := by simpa using e2
    exact ⟨⟨z, L, M⟩, _, _, rfl, ⟨k1, m1⟩, u32_of_wf w0, k2, m2⟩
set_option maxRecDepth 100000 in
/-- A message that came in. -/
theorem msg_came {r : Reach} {b0 : Nat} {v : Value} {d : DataW H} {p : List MemPlace} (hsp : ∀ k, spare k = true) (hv : Value.okWide Tryd.prog W r b0 51 v) (h : DataW.Trod enc Tryd.prog W base spare held 51 v d p) :
    ∃ (m : Mg) (dv iv ov : Value), v = .agg #[.int .i64 m.kind, .int .u64 m.n, .int .u32 m.code, dv, .int .u32 m.tx.ver, iv, ov] ∧ MsgAt W dv iv ov m ∧ MgOk m := by
  obtain ⟨cs, rfl, hsz⟩ := okWide_struct Tryd.underlying51 hv
  obtain ⟨v0, v1, v2, v3, v4, v5, v6, rfl⟩ := array7 (hsz.trans (by kernel_rfl))
  obtain ⟨fuel, hf⟩ := h
  obtain ⟨y0, y1, y2, y3, y4, n, -, h0, h1, h2, h3, h4⟩ := trod_struct5 Tryd.underlying51 hf
  have c0 : Tryd.prog.cellsOf 3 = 1 := by kernel_rfl
  have c1 : Tryd.prog.cellsOf 48 = 1 := by kernel_rfl
  have c2 : Tryd.prog.cellsOf 22 = 1 := by kernel_rfl
  have c3 : Tryd.prog.cellsOf 49 = 1 := by kernel_rfl
  have c4 : Tryd.prog.cellsOf 26 = 3 := by kernel_rfl
  simp only [c0, c1, c2, c3, c4] at h0 h1 h2 h3 h4
  obtain ⟨k, e0, -, w0⟩ := DataW.trod_int Tryd.underlying3 (show DataW.trod enc Tryd.prog W base spare held n 3 [v0] = some y0 from h0)
  obtain ⟨x, e1, -, w1⟩ := DataW.trod_int Tryd.underlying48 (show DataW.trod enc Tryd.prog W base spare held n 48 [v1] = some y1 from h1)
  obtain ⟨c, e2, -, w2⟩ := DataW.trod_int Tryd.underlying22 (show DataW.trod enc Tryd.prog W base spare held n 22 [v2] = some y2 from h2)
  obtain ⟨dv, L, e3, k1, k2⟩ := ids_came (show DataW.trod enc Tryd.prog W base spare held n 49 [v3] = some y3 from h3)
  obtain ⟨t, iv, ov, e4, m1, m2⟩ := tx_cells hsp (show DataW.trod enc Tryd.prog W base spare held n 26 [v4, v5, v6] = some y4 from h4)
  obtain rfl : v0 = .int .i64 k := by simpa using e0
  obtain rfl : v1 = .int .u64 x := by simpa using e1
  obtain rfl : v2 = .int .u32 c := by simpa using e2
  obtain rfl : v3 = dv := by simpa using e3
  simp only [List.cons.injEq, and_true] at e4
  obtain ⟨rfl, rfl, rfl⟩ := e4
  have hk := int_of_wf w0
  exact ⟨⟨k, x, c, L, t⟩, _, _, _, rfl, ⟨k1, m1⟩, ⟨hk.1, by show k < _; omega⟩, word_of_wf w1, u32_of_wf w2, k2, m2⟩
end

end Go.Proofs.YtjmifgdjmaelfaaDoor

/-
  What the laws of messages that come in have in common.
-/
namespace Go.Proofs.YtjmifgdjmaelfaaDoor
open Go.RowKit

theorem mp_bad {m : Mg} (h : mpE m ≠ 0) : mpC m = ⟨#[]⟩ ∧ mpB m = [] := ⟨if_neg h, if_neg h⟩
theorem Bytes.cap {w : World} {a : Option Addr} {n c : Nat} {l : List Int} (h : Bytes w (.slice a n c) l) : n ≤ c ∧ c ≤ 9223372036854775807 := by
  obtain ⟨a', c', e, h1, h2⟩ := h.form
  simp only [Value.slice.injEq] at e
  obtain ⟨-, rfl, rfl⟩ := e
  exact ⟨h1, h2⟩

end Go.Proofs.YtjmifgdjmaelfaaDoor

/-
  What msg.Frame answers at this program, of a message that is refused.
-/
namespace Go.Proofs.YtjmifgdjmaelfaaDoor
open Go.RowKit

set_option maxRecDepth 100000 in
set_option maxHeartbeats 1000000 in
theorem mframe_bad (m : Mg) (d iv ov : Value) (w : World) (h : MsgAt w d iv ov m) (hok : MgOk m) (hE : mpE m ≠ 0) :
    Calls Tryd.prog 23 #[.agg #[.int .i64 m.kind, .int .u64 m.n, .int .u32 m.code, d, .int .u32 m.tx.ver, iv, ov]] w fun e w' => e = .returned (.tuple #[.slice none 0 0, .int .i64 (mpE m)]) ∧ Below w.heap.size w w' := by
  have hnew := below_new w (.cells #[.int .i64 m.kind, .int .u64 m.n, .int .u32 m.code, d, .int .u32 m.tx.ver, iv, ov] 51)
  have HT := hide (h.on hnew)
  have HB := hide hnew
  have HX := hide (MBox.new w (.int .i64 m.kind) (.int .u64 m.n) (.int .u32 m.code) d (.int .u32 m.tx.ver) iv ov 51)
  have PT := hide (fun w (h : MsgAt w d iv ov m) => mput_is m d iv ov w h hok _ _ (mpE m) (mp_bad hE).1 (mp_bad hE).2 rfl)
  obtain ⟨sa, sc, ia, ic, oa, oc, rfl, rfl, rfl⟩ := h.form
  generalize mpE m = E at *
  clear hnew h hok
  go_enter Tryd.func23, Tryd.ntmps23
  go_upto_region 1 with fail
  generalize w.alloc (.cells #[.int .i64 m.kind, .int .u64 m.n, .int .u32 m.code, .slice sa m.ids.length sc, .int .u32 m.tx.ver, .slice ia m.tx.ins.length ic, .slice oa m.tx.outs.length oc] 51) = W at *
  generalize hg : w.heap.size = g at *
  have HG := hide hg
  clear hg
  obtain ⟨p0, p1, p2, p3, p4, p5, p6⟩ := HX.out
  go_wp2_with fail
  refine (PT.out _ HT.out).mono ?_
  rintro e w3 ⟨pa, pc, rfl, hown3, hb3⟩
  have R := hide (HB.out.trans (hb3.mono (by have := HB.out.size; have := HG.out; omega)))
  clear hown3 hb3 HT HB HX PT p0 p1 p2 p3 p4 p5 p6
  go_wp2
  go_ret2
  rw [HG.out]
  exact ⟨rfl, R.out⟩

end Go.Proofs.YtjmifgdjmaelfaaDoor

/-
  What msg.Frame answers at this program, of a message that is put.
-/
namespace Go.Proofs.YtjmifgdjmaelfaaDoor
open Go.RowKit

theorem cmd_named {m : Mg} (h : mpE m = 0) : namedL (strL (mpC m)) = true ∧ (mpC m).size ≤ 12 := by
  obtain ⟨h1, h2, -⟩ := mp_body h
  rw [h2]
  refine ⟨?_, (shp_ok m.kind).2.2.2.2.2.2⟩
  generalize m.kind = k at *
  rcases kinds h1 with rfl | rfl | rfl | rfl | rfl | rfl | rfl | rfl | rfl | rfl | rfl <;> decide
set_option maxRecDepth 100000 in
set_option maxHeartbeats 1000000 in
theorem mframe_good (m : Mg) (d iv ov : Value) (w : World) (h : MsgAt w d iv ov m) (hok : MgOk m) (hk : Ks w) (hE : mpE m = 0) :
    Calls Tryd.prog 23 #[.agg #[.int .i64 m.kind, .int .u64 m.n, .int .u32 m.code, d, .int .u32 m.tx.ver, iv, ov]] w fun e w' => ∃ a c, e = .returned (.tuple #[.slice a (frameL (strL (mpC m)) (mpB m)).length c, .int .i64 0]) ∧ Bytes w' (.slice a (frameL (strL (mpC m)) (mpB m)).length c) (frameL (strL (mpC m)) (mpB m)) ∧ Below w.heap.size w w' := by
  have hnew := below_new w (.cells #[.int .i64 m.kind, .int .u64 m.n, .int .u32 m.code, d, .int .u32 m.tx.ver, iv, ov] 51)
  have HT := hide (h.on hnew)
  have HB := hide hnew
  have HK := hide (hk.on hnew)
  have HX := hide (MBox.new w (.int .i64 m.kind) (.int .u64 m.n) (.int .u32 m.code) d (.int .u32 m.tx.ver) iv ov 51)
  have PT := hide (fun w (h : MsgAt w d iv ov m) => mput_is m d iv ov w h hok _ _ 0 rfl rfl hE)
  obtain ⟨n1, n2⟩ := cmd_named hE
  obtain ⟨-, blen, -⟩ := mpB_all m hok hE
  obtain ⟨f1, f2⟩ : fpE (strL (mpC m)) (mpB m) = 0 ∧ fpL (strL (mpC m)) (mpB m) = frameL (strL (mpC m)) (mpB m) := by
    rcases fp_cases (strL (mpC m)) (mpB m) with ⟨hn, -⟩ | ⟨-, hl, -⟩ | ⟨-, -, h1, h2⟩
    · rw [n1] at hn; cases hn
    · omega
    · exact ⟨h1, h2⟩
  have FP := hide (fun w v (hv : Bytes w v (mpB m)) (hk : Ks w) => (fput_any w (mpC m) v (mpB m) hv hk (by omega)).mono fun e w' h => h.bytes)
  rw [f1, f2] at FP
  obtain ⟨sa, sc, ia, ic, oa, oc, rfl, rfl, rfl⟩ := h.form
  clear hnew h hok hk hE n1 n2 blen f1 f2
  generalize frameL (strL (mpC m)) (mpB m) = F at *
  generalize mpB m = B at *
  generalize mpC m = C at *
  go_enter Tryd.func23, Tryd.ntmps23
  go_upto_region 1 with fail
  generalize w.alloc (.cells #[.int .i64 m.kind, .int .u64 m.n, .int .u32 m.code, .slice sa m.ids.length sc, .int .u32 m.tx.ver, .slice ia m.tx.ins.length ic, .slice oa m.tx.outs.length oc] 51) = W at *
  generalize hg : w.heap.size = g at *
  have HG := hide hg
  clear hg
  have HBG : Hid (g ≤ W.heap.size) := hide (by have := HB.out.size; have := HG.out; omega)
  obtain ⟨p0, p1, p2, p3, p4, p5, p6⟩ := HX.out
  go_wp2_with fail
  refine (PT.out _ HT.out).mono ?_
  rintro e w3 ⟨pa, pc, rfl, hown3, hb3⟩
  have HB3 := hide (HB.out.trans (hb3.mono HBG.out))
  have HBG3 : Hid (g ≤ w3.heap.size) := hide (Nat.le_trans HBG.out hb3.size)
  have HC3 := hide hown3.bytes
  have HK3 := hide (HK.out.on hb3)
  clear hown3 hb3 HT HB HX HK HBG PT p0 p1 p2 p3 p4 p5 p6
  go_wp2_with fail
  refine (FP.out _ _ HC3.out HK3.out).mono ?_
  rintro e w4 ⟨v4, rfl, hby4, hb4⟩
  obtain ⟨fa, fc, rfl, -, -⟩ := hby4.form
  have R : Hid (Bytes w4 (.slice fa F.length fc) F ∧ Below g w w4) := hide ⟨hby4, HB3.out.trans (hb4.mono HBG3.out)⟩
  clear hby4 hb4 HB3 HBG3 HC3 HK3 FP
  go_wp2
  go_ret2
  rw [HG.out]
  exact ⟨_, _, rfl, R.out⟩

end Go.Proofs.YtjmifgdjmaelfaaDoor

/-
  What the document's Put of messages answers at this program, whatever the message.
-/
namespace Go.Proofs.YtjmifgdjmaelfaaDoor

theorem rmput_any (m : Mg) (d iv ov : Value) (w : World) (h : MsgAt w d iv ov m) (hok : MgOk m) (hil : m.ids.length ≤ 100) :
    Calls Tryd.prog 22 #[.agg #[.int .i64 m.kind, .int .u64 m.n, .int .u32 m.code, d, .int .u32 m.tx.ver, iv, ov]] w (MputDone w m) := by
  obtain ⟨K, n, code, ids, tx⟩ := m
  cases hk : isKind K with
  | false => exact rmput_no K n code ids tx d iv ov w hk
  | true =>
    rcases kinds hk with rfl | rfl | rfl | rfl | rfl | rfl | rfl | rfl | rfl | rfl | rfl
    · exact rmput_k1 n code ids tx d iv ov w h hok hil
    · exact rmput_k2 n code ids tx d iv ov w h hok hil
    · exact rmput_k3 n code ids tx d iv ov w h hok hil
    · exact rmput_k4 n code ids tx d iv ov w h hok hil
    · exact rmput_k5 n code ids tx d iv ov w h hok hil
    · exact rmput_k6 n code ids tx d iv ov w h hok hil
    · exact rmput_k7 n code ids tx d iv ov w h hok hil
    · exact rmput_k8 n code ids tx d iv ov w h hok hil
    · exact rmput_k9 n code ids tx d iv ov w h hok hil
    · exact rmput_k10 n code ids tx d iv ov w h hok hil
    · exact rmput_k11 n code ids tx d iv ov w h hok hil

end Go.Proofs.YtjmifgdjmaelfaaDoor

/-
  What the document's Frame of messages answers at this program, whatever the message; and its Lane.
-/
namespace Go.Proofs.YtjmifgdjmaelfaaDoor
open Go.RowKit

set_option maxRecDepth 100000 in
set_option maxHeartbeats 1000000 in
theorem rmframe_bad (m : Mg) (d iv ov : Value) (w : World) (h : MsgAt w d iv ov m) (hok : MgOk m) (hil : m.ids.length ≤ 100) (hE : mpE m ≠ 0) :
    Calls Tryd.prog 24 #[.agg #[.int .i64 m.kind, .int .u64 m.n, .int .u32 m.code, d, .int .u32 m.tx.ver, iv, ov]] w fun e w' => e = .returned (.tuple #[.slice none 0 0, .int .i64 (mpE m)]) ∧ Below w.heap.size w w' := by
  have hnew := below_new w (.cells #[.int .i64 m.kind, .int .u64 m.n, .int .u32 m.code, d, .int .u32 m.tx.ver, iv, ov] 51)
  have HT := hide (h.on hnew)
  have HB := hide hnew
  have HX := hide (MBox.new w (.int .i64 m.kind) (.int .u64 m.n) (.int .u32 m.code) d (.int .u32 m.tx.ver) iv ov 51)
  have PT := hide (fun w (h : MsgAt w d iv ov m) => rmput_any m d iv ov w h hok hil)
  obtain ⟨sa, sc, ia, ic, oa, oc, rfl, rfl, rfl⟩ := h.form
  unfold MputDone at PT
  generalize mpE m = E at *
  generalize mpB m = B at *
  generalize mpC m = C at *
  clear hnew h hok
  go_enter Tryd.func24, Tryd.ntmps24
  go_upto_region 1 with fail
  generalize w.alloc (.cells #[.int .i64 m.kind, .int .u64 m.n, .int .u32 m.code, .slice sa m.ids.length sc, .int .u32 m.tx.ver, .slice ia m.tx.ins.length ic, .slice oa m.tx.outs.length oc] 51) = W at *
  generalize hg : w.heap.size = g at *
  have HG := hide hg
  clear hg
  obtain ⟨p0, p1, p2, p3, p4, p5, p6⟩ := HX.out
  go_wp2_with fail
  refine (PT.out _ HT.out).mono ?_
  rintro e w3 ⟨v3, rfl, hby3, hb3⟩
  obtain ⟨pa, pc, rfl, -, -⟩ := hby3.form
  have R := hide (HB.out.trans (hb3.mono (by have := HB.out.size; have := HG.out; omega)))
  clear hby3 hb3 HT HB HX PT p0 p1 p2 p3 p4 p5 p6
  go_wp2
  go_ret2
  rw [HG.out]
  exact ⟨rfl, R.out⟩
set_option maxRecDepth 100000 in
set_option maxHeartbeats 1000000 in
theorem rmframe_good (m : Mg) (d iv ov : Value) (w : World) (h : MsgAt w d iv ov m) (hok : MgOk m) (hil : m.ids.length ≤ 100) (hE : mpE m = 0) :
    Calls Tryd.prog 24 #[.agg #[.int .i64 m.kind, .int .u64 m.n, .int .u32 m.code, d, .int .u32 m.tx.ver, iv, ov]] w fun e w' => ∃ a c, e = .returned (.tuple #[.slice a (frameL (strL (mpC m)) (mpB m)).length c, .int .i64 0]) ∧ Bytes w' (.slice a (frameL (strL (mpC m)) (mpB m)).length c) (frameL (strL (mpC m)) (mpB m)) ∧ Below w.heap.size w w' := by
  have hnew := below_new w (.cells #[.int .i64 m.kind, .int .u64 m.n, .int .u32 m.code, d, .int .u32 m.tx.ver, iv, ov] 51)
  have HT := hide (h.on hnew)
  have HB := hide hnew
  have HX := hide (MBox.new w (.int .i64 m.kind) (.int .u64 m.n) (.int .u32 m.code) d (.int .u32 m.tx.ver) iv ov 51)
  have PT := hide (fun w (h : MsgAt w d iv ov m) => rmput_any m d iv ov w h hok hil)
  obtain ⟨n1, n2⟩ := cmd_named hE
  obtain ⟨-, blen, -⟩ := mpB_all m hok hE
  obtain ⟨f1, f2⟩ : fpE (strL (mpC m)) (mpB m) = 0 ∧ fpL (strL (mpC m)) (mpB m) = frameL (strL (mpC m)) (mpB m) := by
    rcases fp_cases (strL (mpC m)) (mpB m) with ⟨hn, -⟩ | ⟨-, hl, -⟩ | ⟨-, -, h1, h2⟩
    · rw [n1] at hn; cases hn
    · omega
    · exact ⟨h1, h2⟩
  have FP := hide (fun w v (hv : Bytes w v (mpB m)) => rfput_any w (mpC m) v (mpB m) hv (by omega))
  rw [f1, f2] at FP
  obtain ⟨sa, sc, ia, ic, oa, oc, rfl, rfl, rfl⟩ := h.form
  unfold MputDone at PT
  rw [hE] at PT
  clear hnew h hok hE n1 n2 blen f1 f2
  generalize frameL (strL (mpC m)) (mpB m) = F at *
  generalize mpB m = B at *
  generalize mpC m = C at *
  go_enter Tryd.func24, Tryd.ntmps24
  go_upto_region 1 with fail
  generalize w.alloc (.cells #[.int .i64 m.kind, .int .u64 m.n, .int .u32 m.code, .slice sa m.ids.length sc, .int .u32 m.tx.ver, .slice ia m.tx.ins.length ic, .slice oa m.tx.outs.length oc] 51) = W at *
  generalize hg : w.heap.size = g at *
  have HG := hide hg
  clear hg
  have HBG : Hid (g ≤ W.heap.size) := hide (by have := HB.out.size; have := HG.out; omega)
  obtain ⟨p0, p1, p2, p3, p4, p5, p6⟩ := HX.out
  go_wp2_with fail
  refine (PT.out _ HT.out).mono ?_
  rintro e w3 ⟨v3, rfl, hby3, hb3⟩
  obtain ⟨pa, pc, rfl, -, -⟩ := hby3.form
  have HB3 := hide (HB.out.trans (hb3.mono HBG.out))
  have HBG3 : Hid (g ≤ w3.heap.size) := hide (Nat.le_trans HBG.out hb3.size)
  have HC3 := hide hby3
  clear hby3 hb3 HT HB HX HBG PT p0 p1 p2 p3 p4 p5 p6
  go_wp2_with fail
  refine (FP.out _ _ HC3.out).mono ?_
  rintro e w4 ⟨v4, rfl, hby4, hb4⟩
  obtain ⟨fa, fc, rfl, -, -⟩ := hby4.form
  have R : Hid (Bytes w4 (.slice fa F.length fc) F ∧ Below g w w4) := hide ⟨hby4, HB3.out.trans (hb4.mono HBG3.out)⟩
  clear hby4 hb4 HB3 HBG3 HC3 FP
  go_wp2
  go_ret2
  rw [HG.out]
  exact ⟨_, _, rfl, R.out⟩
def laneK (k : Int) : Int := if k = 9 then 1 else 0
theorem tlane_any (k : Int) (w : World) : Calls Tryd.prog 25 #[.int .i64 k] w fun e w' => e = .returned (.int .i64 (laneK k)) ∧ w' = w := by
  by_cases h : k = 9
  · have R : Hid (laneK k = 1) := hide (if_pos h)
    go_enter Tryd.func25, Tryd.ntmps25
    go_wp2
    go_ret
    exact ⟨by rw [R.out]; rfl, rfl⟩
  · have R : Hid (laneK k = 0) := hide (if_neg h)
    go_enter Tryd.func25, Tryd.ntmps25
    go_wp2
    go_ret
    exact ⟨by rw [R.out]; rfl, rfl⟩
theorem rlane_any (k : Int) (w : World) : Calls Tryd.prog 26 #[.int .i64 k] w fun e w' => e = .returned (.int .i64 (laneK k)) ∧ w' = w := by
  by_cases h : k = 9
  · have R : Hid (laneK k = 1) := hide (if_pos h)
    go_enter Tryd.func26, Tryd.ntmps26
    go_wp2
    go_ret
    exact ⟨by rw [R.out]; rfl, rfl⟩
  · have R : Hid (laneK k = 0) := hide (if_neg h)
    go_enter Tryd.func26, Tryd.ntmps26
    go_wp2
    go_ret
    exact ⟨by rw [R.out]; rfl, rfl⟩

end Go.Proofs.YtjmifgdjmaelfaaDoor
