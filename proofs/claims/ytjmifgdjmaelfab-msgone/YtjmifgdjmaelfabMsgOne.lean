/-
  Proved: for every string and every slice of bytes the law MsgOne answers true, and its arguments read as they did. No condition.
-/
import Derived.Test.YtjmifgdjmaelfabMgLawK
namespace Go.Proofs.Ytjmifgdjmaelfab
open Go.ChangeShapes Go.WideShapes Go.ChangeAt Go.RowKit

set_option maxRecDepth 100000 in
set_option maxHeartbeats 1000000 in
theorem one8_some {w : World} (s : ByteArray) (l : List Int) (v : Value) (hl : AllB l) (hv : Bytes w v l) (hn : l.length ≤ 5000) :
    Calls Try.prog 4 #[.string s, v] w fun e w' => e = .returned (.bool true) ∧ Below w.heap.size w w' := by
  have AL := hide (alive8_any w)
  have HV := hide hv
  obtain ⟨a, cap, rfl, hc1, hc2⟩ := hv.form
  have hn1 : ¬ (5000 : Int) < (l.length : Int) := by omega
  by_cases hE : mgE s l = 0
  · obtain ⟨e1, e2, e3⟩ := mg_one s l hl hE
    have GT := hide (fun w v (h : Bytes w v l) => mget_good s l v w h hl hn (mgM s l) hE rfl)
    have hok := mgM_ok s l hl
    have PT := hide (fun w d iv ov (h : MsgAt w d iv ov (mgM s l)) => mput_is (mgM s l) d iv ov w h hok s l 0 e2 e3 e1)
    have SB := hide (fun w v u (h : Bytes w v l) (k : Bytes w u l) => same_any l l v u w h k)
    rw [decide_eq_true rfl] at SB
    have hbeq : (s.toList == s.toList) = true := by simp
    clear hE e1 e2 e3 hl hv hok
    generalize mgM s l = M at *
    go_enter Try.func4, Try.ntmps4
    go_wp2_with fail
    refine AL.out.mono ?_
    rintro e w1 ⟨rfl, hb1⟩
    have HB1 := hide hb1
    have HV1 := hide (HV.out.below hb1)
    clear hb1 AL HV
    go_wp2_with fail
    refine (GT.out _ _ HV1.out).mono ?_
    rintro e w2 ⟨sa, sc, ia, ic, oa, oc, rfl, hb2, hk2⟩
    have hbt := below_new w2 (.cells #[.int .i64 M.kind, .int .u64 M.n, .int .u32 M.code, .slice sa M.ids.length sc, .int .u32 M.tx.ver, .slice ia M.tx.ins.length ic, .slice oa M.tx.outs.length oc] 30)
    have HX2 := hide (MBox.new w2 (.int .i64 M.kind) (.int .u64 M.n) (.int .u32 M.code) (.slice sa M.ids.length sc) (.int .u32 M.tx.ver) (.slice ia M.tx.ins.length ic) (.slice oa M.tx.outs.length oc) 30)
    have HV2 := hide ((HV1.out.below hb2).below hbt)
    have HB2 := hide (below_on (below_on HB1.out hb2) hbt)
    have HT2 := hide (hk2.on hbt)
    clear hb2 hk2 hbt HV1 HB1 GT
    go_upto_region 6 with fail
    generalize w2.alloc (.cells #[.int .i64 M.kind, .int .u64 M.n, .int .u32 M.code, .slice sa M.ids.length sc, .int .u32 M.tx.ver, .slice ia M.tx.ins.length ic, .slice oa M.tx.outs.length oc] 30) = W2 at *
    generalize w2.heap.size = g2 at *
    obtain ⟨p0, p1, p2, p3, p4, p5, p6⟩ := HX2.out
    go_wp2_with fail
    refine (PT.out _ _ _ _ HT2.out).mono ?_
    rintro e w3 ⟨pa, pc, rfl, hown3, hb3⟩
    have HV3 := hide (HV2.out.below hb3)
    have HB3 := hide (below_on HB2.out hb3)
    have HO3 := hide hown3.bytes
    clear hb3 hown3 p0 p1 p2 p3 p4 p5 p6 HX2 HT2 HV2 HB2 PT
    go_wp2_with fail
    refine (SB.out _ _ _ HO3.out HV3.out).mono ?_
    rintro e w4 ⟨rfl, n4, rfl⟩
    have R := hide (below_on HB3.out (below_drewN (Below.refl _ _) n4))
    clear HB3 HV3 HO3 SB
    generalize w3.drewN n4 = W4 at *
    go_wp2
    go_ret
    exact ⟨rfl, R.out⟩
  · have GT := hide (fun w v (h : Bytes w v l) => mget_bad s l v w h hl hn (mgE s l) rfl hE)
    generalize mgE s l = E at *
    clear hl hv
    go_enter Try.func4, Try.ntmps4
    go_wp2_with fail
    refine AL.out.mono ?_
    rintro e w1 ⟨rfl, hb1⟩
    have HB1 := hide hb1
    have HV1 := hide (HV.out.below hb1)
    clear hb1 AL HV
    go_wp2_with fail
    refine (GT.out _ _ HV1.out).mono ?_
    rintro e w2 ⟨sa, sc, ia, ic, oa, oc, rfl, hb2⟩
    have R := hide (below_on (below_on HB1.out hb2) (below_new w2 (.cells #[.int .i64 0, .int .u64 0, .int .u32 0, .slice sa 0 sc, .int .u32 0, .slice ia 0 ic, .slice oa 0 oc] 30)))
    clear hb2 HV1 HB1 GT
    go_wp2
    go_ret
    exact ⟨rfl, R.out⟩
theorem one8_law {w : World} (s : ByteArray) (_ : s.size ≤ 9223372036854775807) (v : Value) (l : List Int) (hl : ∀ z ∈ l, Byte z) (hv : Bytes w v l) :
    Calls Try.prog 4 #[.string s, v] w fun e w' => e = .returned (.bool true) ∧ Below w.heap.size w w' := by
  by_cases hn : l.length ≤ 5000
  · exact one8_some s l v hl hv hn
  · have AL := hide (alive8_any w)
    obtain ⟨a, cap, rfl, hc1, hc2⟩ := hv.form
    have hn1 : (5000 : Int) < (l.length : Int) := by omega
    clear hl hv hn
    go_enter Try.func4, Try.ntmps4
    go_wp2_with fail
    refine AL.out.mono ?_
    rintro e w1 ⟨rfl, hb1⟩
    have R := hide hb1
    clear hb1 AL
    go_wp2
    go_ret
    exact ⟨rfl, R.out⟩

set_option maxRecDepth 100000 in
theorem msgOne_lifted (os : Os) (started : os.Started) (H : Type) (enc : TypeId × Value → H) :
    ReturnsInHanded {} Try.checked os 4 .any (Rows.msgOneSpec.pre6 enc Try.prog Try.f4 Rows.msgOneRow.domain false) (Rows.msgOneSpec.post enc Try.prog Try.f4 false true false false) := by
  refine returnsInHanded_of_change (C := Try.checked) own started (by kernel_rfl) Try.func4
    (ChangeSpec.witness6 (enc := enc) (C := Try.checked) false ⟨#[], #[.string ⟨#[]⟩, .slice none 0 0], []⟩ 8 (by kernel_rfl) (by kernel_rfl) (by kernel_rfl) (by kernel_rfl)) ?_
  intro W base args ds gs before hval0 hW hcnd _
  have hval : ∀ (j : Nat) t v, Try.f4.params[j]? = some t → args[j]? = some v → Value.okWide Try.prog W .any base t v := hval0
  have hW' := hW
  obtain ⟨p, q, hA0, hV, rfl, hfz, hnd⟩ := hW
  have hA : DataW.TrodAll enc Try.prog W 0 (fun _ => true) true Try.f4.params.toList args.toList ds p := hA0
  rw [Try.params4] at hA hval
  obtain ⟨v0, vs0, d0, ds0, p0, q0, hargs, rfl, rfl, h0, r0⟩ := trodAll_cons hA
  obtain ⟨v1, vs1, d1, ds1, p1, q1, rfl, rfl, rfl, h1, r1⟩ := trodAll_cons r0
  obtain ⟨rfl, rfl, rfl⟩ := trodAll_nil r1
  obtain rfl : args = #[v0, v1] := by cases args; simp_all
  obtain ⟨rfl, rfl⟩ := trodVars_none hV
  obtain ⟨a0, rfl, rfl, rfl, w0⟩ := Go.ChangeMaps.open_string Try.underlying9 (hval 0 9 v0 rfl rfl) h0
  obtain ⟨b1, len1, cap1, rfl⟩ := okWide_slice Try.underlying34 (hval 1 34 v1 rfl rfl)
  have k1 := h1
  have lt1 : ∀ x ∈ p1, x.block < W.heap.size := by obtain ⟨m, hm⟩ := k1; exact DataW.trod_lt m _ _ _ hm
  obtain ⟨l1, s1, w1⟩ : ∃ l, Bytes W (.slice b1 len1 cap1) l ∧ ∀ z ∈ l, Byte z := by
    obtain ⟨fuel, hf⟩ := h1
    rcases open_ints Try.underlying34 Try.underlying5 (by kernel_rfl) hf with ⟨hcs, _⟩ | ⟨x, l, c, zs, hcs, _, hl, hm, hz, _, hcell, hwz⟩
    · simp [Value.cells] at hcs
      obtain ⟨rfl, rfl, rfl⟩ := hcs
      exact ⟨[], Bytes.nil _, by simp⟩
    · simp [Value.cells] at hcs
      obtain ⟨rfl, rfl, rfl⟩ := hcs
      exact bytes_row hl hm (by simpa using hz) hcell hwz
  clear hA0 hval0
  refine (one8_law (w := W) a0 (by simpa [maxLen] using w0) _ l1 w1 s1).mono fun e W' ⟨he, bel⟩ => ?_
  subst he
  exact ⟨_, rfl, _, _, _, [], _, [], hW', trodAll_mk1 (shut_bool Try.underlying4 _), (trodAll_cons_mk (Go.ChangeMaps.shut_string Try.underlying9 w0) (trodAll_cons_mk (Below.trod laidOut (by kernel_rfl) (of_decide_eq_true (by kernel_rfl)) k1 bel lt1) trodAll_mk0)), rfl, bel.frame _, fun h => by cases h⟩

theorem msgOne_holds : Rows.MsgOneSaid :=
  OpenClaim.holds_of_wide 4 Try.f4 rfl rfl rfl rfl rfl rfl rfl ⟨rfl, rfl, rfl, rfl, rfl⟩ rfl rfl rfl rfl rfl (by kernel_rfl) Try.func4 (by kernel_rfl)
    (of_decide_eq_true (by kernel_rfl)) (by unfold Func.isWrapper; first | (rw [if_pos (by decide +kernel)]; kernel_rfl) | (rw [if_neg (by decide +kernel)]; exact ⟨rfl, rfl⟩))
    (fun os started H enc _ => msgOne_lifted os started H enc)
#print axioms msgOne_holds
end Go.Proofs.Ytjmifgdjmaelfab
