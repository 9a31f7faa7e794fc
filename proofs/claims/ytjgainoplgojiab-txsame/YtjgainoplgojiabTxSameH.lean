/-
  What tx.Same answers at this program, of any two transactions.
-/
import Derived.Test.YtjgainoplgojiabTxSameG
import Derived.Test.YtjgainoplgojiabTxLawK
namespace Go.Proofs.Ytjgainoplgojiab
open Go.RowKit

set_option maxRecDepth 100000 in
set_option maxHeartbeats 300000 in
theorem tsame_any (t u : Tr) (iv ov iv' ov' : Value) (w : World) (h : TxAt w iv ov t) (h' : TxAt w iv' ov' u) (ht : TrOk t) (hu : TrOk u) (r : Bool) (hr : r = true ↔ t = u) :
    Calls Try.prog 9 #[.agg #[.int .u32 t.ver, iv, ov], .agg #[.int .u32 u.ver, iv', ov']] w fun e w' => e = .returned (.bool r) ∧ Below w.heap.size w w' := by
  have b2 := below_on (below_new w (.cells #[.int .u32 t.ver, iv, ov] 26)) (below_new _ (.cells #[.int .u32 u.ver, iv', ov'] 26))
  have HX := hide ((TBox.new w (.int .u32 t.ver) iv ov 26).on (below_new _ (.cells #[.int .u32 u.ver, iv', ov'] 26)))
  have hy := TBox.new (w.alloc (.cells #[.int .u32 t.ver, iv, ov] 26)) (.int .u32 u.ver) iv' ov' 26
  rw [alloc_size] at hy
  have HY := hide hy
  have HB := hide b2
  have HT := hide (h.on b2)
  have HU := hide (h'.on b2)
  have EI := hide (fun w r h h' hr => eqfunc_any t.ins u.ins iv iv' w h h' ht.2.1 hu.2.1 r hr)
  have EO := hide (fun w r h h' hr => eqouts_any t.outs u.outs ov ov' w h h' ht.2.2 hu.2.2 r hr)
  have HR : Hid (r = true ↔ (t.ver = u.ver ∧ t.ins = u.ins ∧ t.outs = u.outs)) := hide (by
    rw [hr]
    obtain ⟨a, b, c⟩ := t
    obtain ⟨a', b', c'⟩ := u
    simp)
  obtain ⟨a, cap, rfl, -, -⟩ := h.1.form
  obtain ⟨oa, oc, rfl, -, -⟩ := h.2.form
  obtain ⟨a', cap', rfl, -, -⟩ := h'.1.form
  obtain ⟨oa', oc', rfl, -, -⟩ := h'.2.form
  clear b2 hy h h' ht hu hr
  go_enter Try.func9, Try.ntmps9
  go_upto_region 1 with fail
  generalize (w.alloc (.cells #[.int .u32 t.ver, .slice a t.ins.length cap, .slice oa t.outs.length oc] 26)).alloc (.cells #[.int .u32 u.ver, .slice a' u.ins.length cap', .slice oa' u.outs.length oc'] 26) = W at *
  generalize hg : w.heap.size = g at *
  have HG := hide hg
  clear hg
  obtain ⟨p0, p1, p2⟩ := HX.out
  obtain ⟨q0, q1, q2⟩ := HY.out
  generalize hv : t.ver = v at *
  generalize hv' : u.ver = v' at *
  have HV := hide hv
  have HV' := hide hv'
  clear hv hv'
  by_cases e1 : v = v'
  · subst e1
    have E1 := EI.out W
    by_cases e2 : t.ins = u.ins
    · have C1 := hide (E1 true HT.out.1 HU.out.1 (by simp [e2]))
      have E2 := hide e2
      clear E1 e2 EI
      go_wp2_with fail
      refine C1.out.mono ?_
      rintro e w1 ⟨rfl, hb1⟩
      have HB1 := hide (HB.out.trans (hb1.mono (by have := HB.out.size; have := HG.out; omega)))
      have E3 := EO.out w1
      have t1 := HT.out.on hb1
      have u1 := HU.out.on hb1
      clear p0 p1 p2 q0 q1 q2
      obtain ⟨p0, p1, p2⟩ := HX.out.on hb1
      obtain ⟨q0, q1, q2⟩ := HY.out.on hb1
      by_cases e3 : t.outs = u.outs
      · have C2 := hide (E3 true t1.2 u1.2 (by simp [e3]))
        have HF : Hid (r = true) := hide (HR.out.2 ⟨by first | trivial | rfl, E2.out, e3⟩)
        clear E3 e3 t1 u1 hb1 EO HT HU HX HY HB
        go_wp2_with fail
        refine C2.out.mono ?_
        rintro e w2 ⟨rfl, hb2⟩
        have R := hide (HB1.out.trans (hb2.mono (by have := HB1.out.size; have := HG.out; omega)))
        clear hb2 HB1 C1 C2
        go_wp2
        go_ret
        rw [HG.out]
        exact ⟨by rw [HF.out]; first | done | rfl, R.out⟩
      · have C2 := hide (E3 false t1.2 u1.2 (by simp [e3]))
        have HF : Hid (r = false) := hide (by cases hr : r with | false => rfl | true => exact absurd (HR.out.1 hr).2.2 e3)
        clear E3 e3 t1 u1 hb1 EO HT HU HX HY HB
        go_wp2_with fail
        refine C2.out.mono ?_
        rintro e w2 ⟨rfl, hb2⟩
        have R := hide (HB1.out.trans (hb2.mono (by have := HB1.out.size; have := HG.out; omega)))
        clear hb2 HB1 C1 C2
        go_wp2
        go_ret
        rw [HG.out]
        exact ⟨by rw [HF.out]; first | done | rfl, R.out⟩
    · have C1 := hide (E1 false HT.out.1 HU.out.1 (by simp [e2]))
      have HF : Hid (r = false) := hide (by cases hr : r with | false => rfl | true => exact absurd (HR.out.1 hr).2.1 e2)
      clear E1 e2 EI EO HT HU HX HY
      go_wp2_with fail
      refine C1.out.mono ?_
      rintro e w1 ⟨rfl, hb1⟩
      have R := hide (HB.out.trans (hb1.mono (by have := HB.out.size; have := HG.out; omega)))
      clear hb1 HB C1 p0 p1 p2 q0 q1 q2
      go_wp2
      go_ret
      rw [HG.out]
      exact ⟨by rw [HF.out]; first | done | rfl, R.out⟩
  · have HF : Hid (r = false) := hide (by cases hr : r with | false => rfl | true => exact absurd (HR.out.1 hr).1 e1)
    have e1' : (v == v') = false := by simpa using e1
    clear EI EO HT HU HX HY e1
    go_wp2
    go_ret
    rw [HG.out]
    exact ⟨by rw [HF.out]; first | done | rfl, HB.out⟩

end Go.Proofs.Ytjgainoplgojiab
