/-
  Proved: for every slice of bytes the law TxOne answers true, and its argument reads as it did. No condition.
-/
import Derived.Test.YtjgainoplgojiaaTxAlive
import Derived.Test.YtjgainoplgojiaaLawKit
namespace Go.Proofs.Ytjgainoplgojiaa
open Go.ChangeShapes Go.WideShapes Go.ChangeAt Go.RowKit

set_option maxRecDepth 100000 in
set_option maxHeartbeats 1000000 in
theorem one_some {w : World} (l : List Int) (v : Value) (hl : AllB l) (hv : Bytes w v l) (hn : l.length ≤ 5000) :
    Calls Try.prog 7 #[v] w fun e w' => e = .returned (.bool true) ∧ Below w.heap.size w w' := by
  have AL := hide (alive_any w)
  have GT := hide (fun w v (h : Bytes w v l) => tget_any l v w h hl (by omega))
  unfold GetDone at GT
  have HV := hide hv
  obtain ⟨a, cap, rfl, hc1, hc2⟩ := hv.form
  have hn1 : ¬ (5000 : Int) < (l.length : Int) := by omega
  by_cases hE : gtE l = 0
  · obtain ⟨n, g1, g2, g3, g4, g5⟩ := get_ok hl hE
    have P := hide (fun iv ov w (h : TxAt w iv ov (gtT l)) => tput_any (gtT l) iv ov w h.1 h.2 g4)
    have Z := hide (fun iv ov w (h : TxAt w iv ov (gtT l)) => tsize_any (gtT l) iv ov w h.1 h.2 g4)
    have e1 : ptL (gtT l) = l.take n := by unfold ptL; rw [if_pos g5, g3]
    have e2 : ptE (gtT l) = 0 := by unfold ptE; rw [if_pos g5]
    have e3 : (l.take n).length = n := by simp; omega
    rw [e1, e2] at P Z
    rw [e3] at Z
    rw [g1, hE] at GT
    have SM := hide (fun w v w' (h : Bytes w v (l.take n)) (h' : Bytes w w' (l.take n)) => same_any (l.take n) (l.take n) v w' w h h')
    rw [decide_eq_true rfl] at SM
    have HH := hide (fun w (h : Bytes w (.slice a l.length cap) l) => h.take n g2)
    have HN2 : Hid (n ≤ l.length) := hide g2
    have h1 : decide ((n : Int) ≤ (l.length : Int)) = true := decide_eq_true (by omega)
    clear hl hv g1 g2 g3 g4 g5 e1 e2 e3 hE
    generalize gtT l = T at *
    generalize l.take n = q at *
    go_enter Try.func7, Try.ntmps7
    go_wp2_with fail
    refine AL.out.mono ?_
    rintro e w1 ⟨rfl, hb1⟩
    have HB1 := hide hb1
    have HV1 := hide (HV.out.below hb1)
    clear hb1 AL HV
    go_wp2_with fail
    refine (GT.out _ _ HV1.out).mono ?_
    rintro e w2 ⟨iv, ov, rfl, hb2, hk2⟩
    obtain ⟨ia, ic, rfl, -, -⟩ := hk2.self.1.form
    obtain ⟨oa, oc, rfl, -, -⟩ := hk2.self.2.form
    have hbt : Below w2.heap.size w2 (w2.alloc (.cells #[.int .u32 T.ver, .slice ia T.ins.length ic, .slice oa T.outs.length oc] 28)) := (Below.refl _ _).alloc (Nat.le_refl _) _
    have hr := range_new w2 [.int .u32 T.ver, .slice ia T.ins.length ic, .slice oa T.outs.length oc] 28
    have n0 := hr 0 _ rfl
    have n1 := hr 1 _ rfl
    have n2 := hr 2 _ rfl
    simp only [Nat.zero_add, Nat.add_zero] at n0 n1 n2
    have hb3 := below_on hb2 hbt
    have HB2 := hide (below_on HB1.out hb3)
    have HV2 := hide (HV1.out.below hb3)
    have HT2 := hide (TxAt.on hk2.self hbt)
    clear hb2 hk2 hbt hr hb3 HB1 HV1 GT
    go_upto_region 6 with fail
    generalize w2.alloc (.cells #[.int .u32 T.ver, .slice ia T.ins.length ic, .slice oa T.outs.length oc] 28) = W2 at *
    generalize w2.heap.size = g2 at *
    go_wp2_with fail
    refine (P.out _ _ _ HT2.out).mono ?_
    rintro e w3 ⟨v3, rfl, hown3, hb3⟩
    have m0 := (hb3.cell (World.block_lt_of_cell? _ _ n0)).trans n0
    have m1 := (hb3.cell (World.block_lt_of_cell? _ _ n1)).trans n1
    have m2 := (hb3.cell (World.block_lt_of_cell? _ _ n2)).trans n2
    have HB3 := hide (below_on HB2.out hb3)
    have HV3 := hide (HV2.out.below hb3)
    have HT3 := hide (HT2.out.on hb3)
    have HC3 := hide hown3.bytes
    clear hown3 hb3 n0 n1 n2 HB2 HV2 HT2 P
    go_wp2_with fail
    refine (Z.out _ _ _ HT3.out).mono ?_
    rintro e w4 ⟨rfl, hb4⟩
    have HB4 := hide (below_on HB3.out hb4)
    have HV4 := hide (HH.out _ (HV3.out.below hb4))
    have HC4 := hide (HC3.out.below hb4)
    clear hb4 m0 m1 m2 HB3 HV3 HT3 HC3 HH Z
    go_wp2_with fail
    refine (SM.out _ _ _ HC4.out HV4.out).mono ?_
    rintro e w5 ⟨rfl, n5, rfl⟩
    have R := hide (below_drewN HB4.out n5)
    clear HB4 HV4 HC4 SM
    go_wp2
    go_ret
    exact ⟨rfl, R.out⟩
  · obtain ⟨g1, g2⟩ := get_bad hE
    have he' : (gtE l == 0) = false := by simpa using hE
    rw [g1, g2] at GT
    clear hl hv g1 g2 hE
    generalize gtE l = E at *
    go_enter Try.func7, Try.ntmps7
    go_wp2_with fail
    refine AL.out.mono ?_
    rintro e w1 ⟨rfl, hb1⟩
    have HB1 := hide hb1
    have HV1 := hide (HV.out.below hb1)
    clear hb1 AL HV
    go_wp2_with fail
    refine (GT.out _ _ HV1.out).mono ?_
    rintro e w2 ⟨iv, ov, rfl, hb2, hk2⟩
    obtain ⟨ia, ic, rfl, -, -⟩ := hk2.self.1.form
    obtain ⟨oa, oc, rfl, -, -⟩ := hk2.self.2.form
    have R := hide ((below_on HB1.out hb2).alloc (by have := HB1.out.size; have := hb2.size; omega) (.cells #[.int .u32 noTr.ver, .slice ia noTr.ins.length ic, .slice oa noTr.outs.length oc] 28))
    clear hb2 hk2 HB1 HV1 GT
    go_wp2
    go_ret
    exact ⟨rfl, R.out⟩

theorem one_law {w : World} (v : Value) (l : List Int) (hl : ∀ z ∈ l, Byte z) (hv : Bytes w v l) :
    Calls Try.prog 7 #[v] w fun e w' => e = .returned (.bool true) ∧ Below w.heap.size w w' := by
  by_cases hn : l.length ≤ 5000
  · exact one_some l v hl hv hn
  · obtain ⟨a, cap, rfl, _, _⟩ := hv.form
    have hn1 : (5000 : Int) < (l.length : Int) := by omega
    clear hn hv hl
    generalize l.length = n at *
    go_enter Try.func7, Try.ntmps7
    go_wp2_with fail
    refine (alive_any _).mono ?_
    rintro e w1 ⟨rfl, hbel⟩
    have HB := hide hbel
    clear hbel
    go_wp2
    go_ret
    exact ⟨rfl, HB.out⟩

set_option maxRecDepth 100000 in
theorem txOne_lifted (os : Os) (started : os.Started) (H : Type) (enc : TypeId × Value → H) :
    ReturnsInHanded {} Try.checked os 7 .any (Rows.txOneSpec.pre6 enc Try.prog Try.f7 Rows.txOneRow.domain false) (Rows.txOneSpec.post enc Try.prog Try.f7 false true false false) := by
  refine returnsInHanded_of_change (C := Try.checked) own started (by kernel_rfl) Try.func7
    (ChangeSpec.witness6 (enc := enc) (C := Try.checked) false ⟨#[], #[.slice none 0 0], []⟩ 8 (by kernel_rfl) (by kernel_rfl) (by kernel_rfl) (by kernel_rfl)) ?_
  intro W base args ds gs before hval0 hW hcnd _
  have hval : ∀ (j : Nat) t v, Try.f7.params[j]? = some t → args[j]? = some v → Value.okWide Try.prog W .any base t v := hval0
  have hW' := hW
  obtain ⟨p, q, hA0, hV, rfl, hfz, hnd⟩ := hW
  have hA : DataW.TrodAll enc Try.prog W 0 (fun _ => true) true Try.f7.params.toList args.toList ds p := hA0
  rw [Try.params7] at hA hval
  obtain ⟨v0, vs0, d0, ds0, p0, q0, hargs, rfl, rfl, h0, r0⟩ := trodAll_cons hA
  obtain ⟨rfl, rfl, rfl⟩ := trodAll_nil r0
  obtain rfl : args = #[v0] := by cases args; simp_all
  obtain ⟨rfl, rfl⟩ := trodVars_none hV
  obtain ⟨b0, len0, cap0, rfl⟩ := okWide_slice Try.underlying22 (hval 0 22 v0 rfl rfl)
  have k0 := h0
  have lt0 : ∀ x ∈ p0, x.block < W.heap.size := by obtain ⟨m, hm⟩ := k0; exact DataW.trod_lt m _ _ _ hm
  obtain ⟨l0, s0, w0⟩ : ∃ l, Bytes W (.slice b0 len0 cap0) l ∧ ∀ z ∈ l, Byte z := by
    obtain ⟨fuel, hf⟩ := h0
    rcases open_ints Try.underlying22 Try.underlying5 (by kernel_rfl) hf with ⟨hcs, _⟩ | ⟨x, l, c, zs, hcs, _, hl, hm, hz, _, hcell, hwz⟩
    · simp [Value.cells] at hcs
      obtain ⟨rfl, rfl, rfl⟩ := hcs
      exact ⟨[], Bytes.nil _, by simp⟩
    · simp [Value.cells] at hcs
      obtain ⟨rfl, rfl, rfl⟩ := hcs
      exact bytes_row hl hm (by simpa using hz) hcell hwz
  clear hA0 hval0
  refine (one_law (w := W) _ l0 w0 s0).mono fun e W' ⟨he, bel⟩ => ?_
  subst he
  exact ⟨_, rfl, _, _, _, [], _, [], hW', trodAll_mk1 (shut_bool Try.underlying4 _), (trodAll_cons_mk (Below.trod laidOut (by kernel_rfl) (of_decide_eq_true (by kernel_rfl)) k0 bel lt0) trodAll_mk0), rfl, bel.frame _, fun h => by cases h⟩

theorem txOne_holds : Rows.TxOneSaid :=
  OpenClaim.holds_of_wide 7 Try.f7 rfl rfl rfl rfl rfl rfl rfl ⟨rfl, rfl, rfl, rfl, rfl⟩ rfl rfl rfl rfl rfl (by kernel_rfl) Try.func7 (by kernel_rfl)
    (of_decide_eq_true (by kernel_rfl)) (by unfold Func.isWrapper; first | (rw [if_pos (by decide +kernel)]; kernel_rfl) | (rw [if_neg (by decide +kernel)]; exact ⟨rfl, rfl⟩))
    (fun os started H enc _ => txOne_lifted os started H enc)
#print axioms txOne_holds
end Go.Proofs.Ytjgainoplgojiaa
