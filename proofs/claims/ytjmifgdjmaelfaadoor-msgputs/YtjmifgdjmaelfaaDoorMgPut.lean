/-
  What msg.Put answers at this program, whatever the message.
-/
import Derived.Test.YtjmifgdjmaelfaaDoorMgW
import Derived.Test.YtjmifgdjmaelfaaDoorMgCheck
namespace Go.Proofs.YtjmifgdjmaelfaaDoor
open Go.RowKit

/-- What Put answers. -/
def PutDone (w : World) (m : Mg) (e : Ending) (w' : World) : Prop :=
  ∃ v, e = .returned (.tuple #[.string (mpC m), v, .int .i64 (mpE m)]) ∧ Own w' w.heap.size v (mpB m) ∧ Below w.heap.size w w'
set_option maxRecDepth 100000 in
set_option maxHeartbeats 1000000 in
theorem mput_any (m : Mg) (d iv ov : Value) (w : World) (h : MsgAt w d iv ov m) (hok : MgOk m) :
    Calls Tryd.prog 21 #[.agg #[.int .i64 m.kind, .int .u64 m.n, .int .u32 m.code, d, .int .u32 m.tx.ver, iv, ov]] w (PutDone w m) := by
  have b1 := below_new w (.cells #[.int .i64 m.kind, .int .u64 m.n, .int .u32 m.code, d, .int .u32 m.tx.ver, iv, ov] 51)
  have HMB := hide (MBox.new w (.int .i64 m.kind) (.int .u64 m.n) (.int .u32 m.code) d (.int .u32 m.tx.ver) iv ov 51)
  have HB := hide b1
  have HT := hide (h.on b1)
  have SH := hide (fun w => shapeOf_any w m.kind)
  have CK := hide (fun w (h : MsgAt w d iv ov m) => check_any (shp m.kind) m d iv ov w h hok)
  have BD := hide (fun w (h : MsgAt w d iv ov m) hc => body_any (shp m.kind) (shp_ok m.kind) m d iv ov w h hok hc)
  have H1 : Hid (isKind m.kind = false → mpE m = 2) := hide (fun h => if_pos h)
  have H2 : Hid (isKind m.kind = true → chkE (shp m.kind) m ≠ 0 → mpE m = chkE (shp m.kind) m) := hide (fun h h' => by unfold mpE; rw [if_neg (by rw [h]; decide), if_pos h'])
  have H3 : Hid (isKind m.kind = true → chkE (shp m.kind) m = 0 → mpE m = mbE (shp m.kind) m) := hide (fun h h' => by unfold mpE; rw [if_neg (by rw [h]; decide), if_neg (by rw [h']; decide)])
  have H4 : Hid (mpE m ≠ 0 → mpC m = ⟨#[]⟩ ∧ mpB m = []) := hide (fun h => ⟨if_neg h, if_neg h⟩)
  have H5 : Hid (mpE m = 0 → mpC m = (shp m.kind).cmd ∧ mpB m = mbL (shp m.kind) m) := hide (fun h => ⟨if_pos h, if_pos h⟩)
  have HR : Hid (∀ (w' : World) (e : Int), mpE m = e → e ≠ 0 → Below w.heap.size w w' → PutDone w m (.returned (.tuple #[.string ⟨#[]⟩, .slice none 0 0, .int .i64 e])) w') := hide (fun w' e h1 h2 h3 => by
    subst h1
    obtain ⟨q1, q2⟩ := H4.out h2
    exact ⟨.slice none 0 0, by rw [q1], by rw [q2]; exact Own.nil _ _, h3⟩)
  obtain ⟨sa, sc, ia, ic, oa, oc, rfl, rfl, rfl⟩ := h.form
  clear b1 h hok
  go_enter Tryd.func21, Tryd.ntmps21
  go_upto_region 1 with fail
  generalize w.alloc (.cells #[.int .i64 m.kind, .int .u64 m.n, .int .u32 m.code, .slice sa m.ids.length sc, .int .u32 m.tx.ver, .slice ia m.tx.ins.length ic, .slice oa m.tx.outs.length oc] 51) = W at *
  generalize hg : w.heap.size = g at *
  have HG := hide hg
  clear hg
  have HBG : Hid (g ≤ W.heap.size) := hide (by have := HB.out.size; have := HG.out; omega)
  obtain ⟨p0, p1, p2, p3, p4, p5, p6⟩ := HMB.out
  go_wp2_with fail
  refine (SH.out _).mono ?_
  rintro e w1 ⟨rfl, hb1⟩
  have hb2 := below_on hb1 (below_new w1 (.cells (shpC (shp m.kind)).toArray 82))
  have hsb := SBox.new w1 (shp m.kind) 82
  have HB2 := hide (HB.out.trans (hb2.mono HBG.out))
  have HT2 := hide (HT.out.on hb2)
  clear p0 p1 p2 p3 p4 p5 p6
  have HM2 := hide (HMB.out.on hb2)
  have hsc : shpC (shp m.kind) = [.string (shp m.kind).cmd, .int .i64 (shp m.kind).maxIds, .int .i64 (shp m.kind).codeLen, .int .u32 (shp m.kind).maxCode, .int .i64 (shp m.kind).nLen, .bool (shp m.kind).hasTx] := rfl
  rw [hsc] at HB2 HT2 HM2 ⊢
  have HS2 := hide hsb
  obtain ⟨p0, p1, p2, p3, p4, p5, p6⟩ := HM2.out
  obtain ⟨q0, q1, q2, q3, q4, q5⟩ := HS2.out
  clear hb1 hb2 hsb hsc HT HMB HB SH
  have HGW : Hid (w1.heap.size = w1.heap.size) := hide rfl
  generalize shp m.kind = s at *
  cases hk : isKind m.kind with
  | false =>
    have R := hide (HR.out (w1.alloc (.cells #[.string s.cmd, .int .i64 s.maxIds, .int .i64 s.codeLen, .int .u32 s.maxCode, .int .i64 s.nLen, .bool s.hasTx] 82)) 2 (H1.out hk) (by decide) HB2.out)
    clear H1 H2 H3 H4 H5 HR CK BD HT2
    go_wp2
    go_ret3
    exact R.out
  | true =>
    have HE2 := hide (H2.out hk)
    have HE3 := hide (H3.out hk)
    clear H1 H2 H3 hk
    go_upto_region 4 with fail
    generalize w1.alloc (.cells #[.string s.cmd, .int .i64 s.maxIds, .int .i64 s.codeLen, .int .u32 s.maxCode, .int .i64 s.nLen, .bool s.hasTx] 82) = W2 at *
    generalize w1.heap.size = g1 at *
    have HBG2 : Hid (g ≤ W2.heap.size) := hide (by have := HB2.out.size; have := HG.out; omega)
    go_wp2_with fail
    refine (CK.out _ HT2.out).mono ?_
    rintro e w3 ⟨rfl, hb3⟩
    have HB3 := hide (HB2.out.trans (hb3.mono HBG2.out))
    by_cases hc : chkE s m = 0
    · have E3 := hide (HE3.out hc)
      have BD3 := hide (BD.out w3 (HT2.out.on hb3) hc)
      rw [hc]
      clear p0 p1 p2 p3 p4 p5 p6 q0 q1 q2 q3 q4 q5
      have HM3 := hide (HM2.out.on hb3)
      have HS3 := hide (HS2.out.on hb3)
      obtain ⟨p0, p1, p2, p3, p4, p5, p6⟩ := HM3.out
      obtain ⟨q0, q1, q2, q3, q4, q5⟩ := HS3.out
      have HBG3 : Hid (g ≤ w3.heap.size) := hide (by have := HB3.out.size; have := HG.out; omega)
      clear hb3 HE2 HE3 CK BD HT2 HM2 HS2 hc
      go_wp2_with fail
      refine BD3.out.mono ?_
      rintro e w4 ⟨v4, rfl, hown4, hb4⟩
      have HB4 := hide (HB3.out.trans (hb4.mono HBG3.out))
      clear p0 p1 p2 p3 p4 p5 p6 q0 q1 q2 q3 q4 q5
      obtain ⟨q0, q1, q2, q3, q4, q5⟩ := HS3.out.on hb4
      by_cases he : mbE s m = 0
      · have h0 : mpE m = 0 := by rw [E3.out, he]
        obtain ⟨r1, r2⟩ := H5.out h0
        have R : Hid (PutDone w m (.returned (.tuple #[.string s.cmd, v4, .int .i64 0])) w4) := hide ⟨v4, by rw [r1, h0], by rw [r2, HG.out]; exact hown4.low HBG3.out, by rw [HG.out]; exact HB4.out⟩
        obtain ⟨va, vc, rfl, -, -⟩ := hown4.bytes.form
        rw [he]
        clear hown4 hb4 H4 H5 HR E3 BD3 h0 he r1 r2 HM3 HS3
        generalize (mbL s m).length = nn at *
        go_wp2
        go_ret3
        exact R.out
      · have R := hide (HR.out w4 (mbE s m) E3.out he HB4.out)
        obtain ⟨va, vc, rfl, -, -⟩ := hown4.bytes.form
        clear hown4 hb4 H4 H5 HR E3 BD3 HM3 HS3
        generalize (mbL s m).length = nn at *
        generalize mbE s m = z at *
        go_wp2
        go_ret3
        exact R.out
    · have R := hide (HR.out w3 (chkE s m) (HE2.out hc) hc HB3.out)
      clear hb3 HE2 HE3 H4 H5 HR CK BD HT2
      generalize chkE s m = z at *
      clear p0 p1 p2 p3 p4 p5 p6 q0 q1 q2 q3 q4 q5
      go_wp2
      go_ret3
      exact R.out

end Go.Proofs.YtjmifgdjmaelfaaDoor
