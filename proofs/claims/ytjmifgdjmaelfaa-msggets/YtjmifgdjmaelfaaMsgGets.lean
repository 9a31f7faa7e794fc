/-
  Proved: for every string and every slice of bytes the law MsgGets answers true, and its arguments read as they did. No condition.
-/
import Derived.Test.YtjmifgdjmaelfaaRefMgGet
import Derived.Test.YtjmifgdjmaelfaaRefSame08
import Derived.Test.YtjmifgdjmaelfaaMgAlive
import Derived.Test.YtjmifgdjmaelfaaLawKit
import Derived.Test.YtjmifgdjmaelfaaCame
import Derived.ChangeMaps5
namespace Go.Proofs.Ytjmifgdjmaelfaa
open Go.ChangeShapes Go.WideShapes Go.ChangeAt Go.RowKit

set_option maxRecDepth 100000 in
set_option maxHeartbeats 1000000 in
theorem gets8_some {w : World} (s : ByteArray) (l : List Int) (v : Value) (hl : AllB l) (hv : Bytes w v l) (hn : l.length ≤ 5000) :
    Calls Try.prog 5 #[.string s, v] w fun e w' => e = .returned (.bool true) ∧ Below w.heap.size w w' := by
  have AL := hide (alive8_any w)
  have C1 := hide (fun w (h : Bytes w v l) => mget_any s l v w h hl hn)
  have C2 := hide (fun w (h : Bytes w v l) => rmget_any s l v w h hl hn)
  have SM := hide (fun d iv ov d' iv' ov' w h h' => rsame8_eq (mgM s l) d iv ov d' iv' ov' w h h' (mgM_ok s l hl))
  unfold MgetDone at C1 C2
  have HV := hide hv
  obtain ⟨a, cap, rfl, hc1, hc2⟩ := hv.form
  have hn1 : ¬ (5000 : Int) < (l.length : Int) := by omega
  clear hl hv
  generalize mgM s l = M at *
  generalize mgE s l = E at *
  go_enter Try.func5, Try.ntmps5
  go_wp2_with fail
  refine AL.out.mono ?_
  rintro e w1 ⟨rfl, hb1⟩
  have HB1 := hide hb1
  have HV1 := hide (HV.out.below hb1)
  clear hb1 AL HV
  go_wp2_with fail
  refine (C1.out _ HV1.out).mono ?_
  rintro e q1 ⟨d, iv, ov, rfl, hb, hk⟩
  have hs := hk.self
  obtain ⟨sa1, sc1, ia1, ic1, oa1, oc1, rfl, rfl, rfl⟩ := hs.form
  have hbt := below_new q1 (.cells #[.int .i64 M.kind, .int .u64 M.n, .int .u32 M.code, .slice sa1 M.ids.length sc1, .int .u32 M.tx.ver, .slice ia1 M.tx.ins.length ic1, .slice oa1 M.tx.outs.length oc1] 52)
  have hb2 := below_on hb hbt
  have HX1 := hide (MBox.new q1 (.int .i64 M.kind) (.int .u64 M.n) (.int .u32 M.code) (.slice sa1 M.ids.length sc1) (.int .u32 M.tx.ver) (.slice ia1 M.tx.ins.length ic1) (.slice oa1 M.tx.outs.length oc1) 52)
  have HT1 := hide (MsgAt.on hs hbt)
  have HB2 := hide (below_on HB1.out hb2)
  have HV2 := hide (HV1.out.below hb2)
  clear hb hk hs hbt hb2 C1 HB1 HV1
  go_upto_region 6 with fail
  generalize q1.alloc (.cells #[.int .i64 M.kind, .int .u64 M.n, .int .u32 M.code, .slice sa1 M.ids.length sc1, .int .u32 M.tx.ver, .slice ia1 M.tx.ins.length ic1, .slice oa1 M.tx.outs.length oc1] 52) = W1 at *
  generalize q1.heap.size = g1 at *
  go_wp2_with fail
  refine (C2.out _ HV2.out).mono ?_
  rintro e q2 ⟨d, iv, ov, rfl, hb, hk⟩
  have hs := hk.self
  obtain ⟨sa2, sc2, ia2, ic2, oa2, oc2, rfl, rfl, rfl⟩ := hs.form
  have hbt := below_new q2 (.cells #[.int .i64 M.kind, .int .u64 M.n, .int .u32 M.code, .slice sa2 M.ids.length sc2, .int .u32 M.tx.ver, .slice ia2 M.tx.ins.length ic2, .slice oa2 M.tx.outs.length oc2] 52)
  have hb2 := below_on hb hbt
  have HX2 := hide (MBox.new q2 (.int .i64 M.kind) (.int .u64 M.n) (.int .u32 M.code) (.slice sa2 M.ids.length sc2) (.int .u32 M.tx.ver) (.slice ia2 M.tx.ins.length ic2) (.slice oa2 M.tx.outs.length oc2) 52)
  have HT2 := hide (MsgAt.on hs hbt)
  have HB3 := hide (below_on HB2.out hb2)
  have HV3 := hide (HV2.out.below hb2)
  have HX1 := hide (HX1.out.on hb2)
  have HT1 := hide (HT1.out.on hb2)
  clear hb hk hs hbt hb2 C2 HB2 HV2
  go_upto_region 7 with fail
  generalize q2.alloc (.cells #[.int .i64 M.kind, .int .u64 M.n, .int .u32 M.code, .slice sa2 M.ids.length sc2, .int .u32 M.tx.ver, .slice ia2 M.tx.ins.length ic2, .slice oa2 M.tx.outs.length oc2] 52) = W2 at *
  generalize q2.heap.size = g2 at *
  obtain ⟨p0, p1, p2, p3, p4, p5, p6⟩ := HX1.out
  obtain ⟨r0, r1, r2, r3, r4, r5, r6⟩ := HX2.out
  go_wp2_with fail
  refine (SM.out _ _ _ _ _ _ _ HT1.out HT2.out).mono ?_
  rintro e w5 ⟨rfl, hb5⟩
  have R := hide (below_on HB3.out hb5)
  clear hb5 HB3 HT1 HT2 HX1 HX2 SM p0 p1 p2 p3 p4 p5 p6 r0 r1 r2 r3 r4 r5 r6
  go_wp2
  go_ret
  exact ⟨rfl, R.out⟩

theorem gets8_law {w : World} (s : ByteArray) (_ : s.size ≤ 9223372036854775807) (v : Value) (l : List Int) (hl : ∀ z ∈ l, Byte z) (hv : Bytes w v l) :
    Calls Try.prog 5 #[.string s, v] w fun e w' => e = .returned (.bool true) ∧ Below w.heap.size w w' := by
  by_cases hn : l.length ≤ 5000
  · exact gets8_some s l v hl hv hn
  · have AL := hide (alive8_any w)
    obtain ⟨a, cap, rfl, hc1, hc2⟩ := hv.form
    have hn1 : (5000 : Int) < (l.length : Int) := by omega
    clear hl hv hn
    go_enter Try.func5, Try.ntmps5
    go_wp2_with fail
    refine AL.out.mono ?_
    rintro e w1 ⟨rfl, hb1⟩
    have R := hide hb1
    clear hb1 AL
    go_wp2
    go_ret
    exact ⟨rfl, R.out⟩

set_option maxRecDepth 100000 in
theorem msgGets_lifted (os : Os) (started : os.Started) (H : Type) (enc : TypeId × Value → H) :
    ReturnsInHanded {} Try.checked os 5 .any (Rows.msgGetsSpec.pre6 enc Try.prog Try.f5 Rows.msgGetsRow.domain false) (Rows.msgGetsSpec.post enc Try.prog Try.f5 false true false false) := by
  refine returnsInHanded_of_change (C := Try.checked) own started (by kernel_rfl) Try.func5
    (ChangeSpec.witness6 (enc := enc) (C := Try.checked) false ⟨#[], #[.string ⟨#[]⟩, .slice none 0 0], []⟩ 8 (by kernel_rfl) (by kernel_rfl) (by kernel_rfl) (by kernel_rfl)) ?_
  intro W base args ds gs before hval0 hW hcnd _
  have hval : ∀ (j : Nat) t v, Try.f5.params[j]? = some t → args[j]? = some v → Value.okWide Try.prog W .any base t v := hval0
  have hW' := hW
  obtain ⟨p, q, hA0, hV, rfl, hfz, hnd⟩ := hW
  have hA : DataW.TrodAll enc Try.prog W 0 (fun _ => true) true Try.f5.params.toList args.toList ds p := hA0
  rw [Try.params5] at hA hval
  obtain ⟨v0, vs0, d0, ds0, p0, q0, hargs, rfl, rfl, h0, r0⟩ := trodAll_cons hA
  obtain ⟨v1, vs1, d1, ds1, p1, q1, rfl, rfl, rfl, h1, r1⟩ := trodAll_cons r0
  obtain ⟨rfl, rfl, rfl⟩ := trodAll_nil r1
  obtain rfl : args = #[v0, v1] := by cases args; simp_all
  obtain ⟨rfl, rfl⟩ := trodVars_none hV
  obtain ⟨a0, rfl, rfl, rfl, w0⟩ := Go.ChangeMaps.open_string Try.underlying9 (hval 0 9 v0 rfl rfl) h0
  obtain ⟨b1, len1, cap1, rfl⟩ := okWide_slice Try.underlying22 (hval 1 22 v1 rfl rfl)
  have k1 := h1
  have lt1 : ∀ x ∈ p1, x.block < W.heap.size := by obtain ⟨m, hm⟩ := k1; exact DataW.trod_lt m _ _ _ hm
  obtain ⟨l1, s1, w1⟩ : ∃ l, Bytes W (.slice b1 len1 cap1) l ∧ ∀ z ∈ l, Byte z := by
    obtain ⟨fuel, hf⟩ := h1
    rcases open_ints Try.underlying22 Try.underlying5 (by kernel_rfl) hf with ⟨hcs, _⟩ | ⟨x, l, c, zs, hcs, _, hl, hm, hz, _, hcell, hwz⟩
    · simp [Value.cells] at hcs
      obtain ⟨rfl, rfl, rfl⟩ := hcs
      exact ⟨[], Bytes.nil _, by simp⟩
    · simp [Value.cells] at hcs
      obtain ⟨rfl, rfl, rfl⟩ := hcs
      exact bytes_row hl hm (by simpa using hz) hcell hwz
  clear hA0 hval0
  refine (gets8_law (w := W) a0 (by simpa [maxLen] using w0) _ l1 w1 s1).mono fun e W' ⟨he, bel⟩ => ?_
  subst he
  exact ⟨_, rfl, _, _, _, [], _, [], hW', trodAll_mk1 (shut_bool Try.underlying4 _), (trodAll_cons_mk (Go.ChangeMaps.shut_string Try.underlying9 w0) (trodAll_cons_mk (Below.trod laidOut (by kernel_rfl) (of_decide_eq_true (by kernel_rfl)) k1 bel lt1) trodAll_mk0)), rfl, bel.frame _, fun h => by cases h⟩

theorem msgGets_holds : Rows.MsgGetsSaid :=
  OpenClaim.holds_of_wide 5 Try.f5 rfl rfl rfl rfl rfl rfl rfl ⟨rfl, rfl, rfl, rfl, rfl⟩ rfl rfl rfl rfl rfl (by kernel_rfl) Try.func5 (by kernel_rfl)
    (of_decide_eq_true (by kernel_rfl)) (by unfold Func.isWrapper; first | (rw [if_pos (by decide +kernel)]; kernel_rfl) | (rw [if_neg (by decide +kernel)]; exact ⟨rfl, rfl⟩))
    (fun os started H enc _ => msgGets_lifted os started H enc)
#print axioms msgGets_holds
end Go.Proofs.Ytjmifgdjmaelfaa
