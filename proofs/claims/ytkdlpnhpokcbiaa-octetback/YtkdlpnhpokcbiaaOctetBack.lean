/-
  Proved: for every number of the type uint64 and every one of the type uint8 the law OctetBack answers true, and its arguments read as they did. No condition.
-/
import Derived.Test.YtkdlpnhpokcbiaaOctLaw
import Derived.Test.YtkdlpnhpokcbiaaOctGet
namespace Go.Proofs.Ytkdlpnhpokcbiaa
open Go.ChangeShapes Go.WideShapes Go.ChangeAt Go.RowKit

set_option maxHeartbeats 4000000 in
theorem back_law {w : World} (x : Int) (hx : Word x) (k : Int) (hk : Byte k) :
    Calls Try.prog 6 #[.int .u64 x, .int .u8 k] w fun e w' => e = .returned (.bool true) ∧ Below w.heap.size w w' := by
  obtain ⟨hk0, hk1⟩ := hk
  have ht0 : k.tmod 4 = k % 4 := Int.tmod_eq_emod_of_nonneg hk0
  rcases (show k % 4 = 0 ∨ k % 4 = 1 ∨ k % 4 = 2 ∨ k % 4 = 3 by omega) with h | h | h | h
  all_goals
    have ht := ht0.trans h
    clear ht0 h
  · -- 1 bytes
    have e0 : ((256 : Int)) ^ (Int.toNat 1) = 256 := by decide
    by_cases hlt : x < 256
    · have e1 : putL x 1 = put 1 x := by unfold putL; rw [e0, if_pos ⟨rfl, hlt⟩]; rfl
      have e2 : putE x 1 = 0 := by unfold putE; rw [e0, if_pos (show wideB 1 = true from rfl), if_pos hlt]
      have e3 : (put 1 x).length = 1 := put_length _ _
      have e4 : getX (put 1 x) = x := by
        unfold getX
        rw [e3, if_pos (show wideB ((1 : Nat) : Int) = true from rfl)]
        exact num_put _ _ hx.1 hlt
      have e5 : getE (put 1 x) = 0 := by unfold getE; rw [e3, if_pos (show wideB ((1 : Nat) : Int) = true from rfl)]
      have G := hide (fun v w h => get_any (put 1 x) v w h (put_byte _ _))
      have P := hide (fun w => put_any x 1 w hx)
      rw [e1, e2] at P
      rw [e4, e5] at G
      have hx0 := hx.1
      have hd : x / 256 = 0 := by omega
      clear e0 e1 e2 e4 e5 hx
      go_enter Try.func6, Try.ntmps6
      go_wp2_with fail
      refine (alive_any _).mono ?_
      rintro e w1 ⟨rfl, hbel⟩
      have HB1 := hide hbel
      clear hbel
      go_wp2_with fail
      refine (P.out _).mono ?_
      rintro e w2 ⟨a, rfl, hown, hbel⟩
      obtain ⟨ad, cap, rfl, hcap, hmax⟩ := hown.bytes.form
      have HA := hide hown.bytes
      have HB2 := hide (below_on HB1.out hbel)
      clear hown hbel
      rw [e3] at HA ⊢
      clear e3 hcap
      generalize put 1 x = pl at *
      go_wp2_with fail
      refine (G.out _ _ HA.out).mono ?_
      rintro e w' ⟨rfl, rfl⟩
      go_wp2
      go_ret
      exact ⟨rfl, HB2.out⟩
    · have e1 : putL x 1 = [] := by unfold putL; rw [e0, if_neg (fun q => hlt q.2)]
      have e2 : putE x 1 = 3 := by unfold putE; rw [e0, if_pos (show wideB 1 = true from rfl), if_neg hlt]
      have P := hide (fun w => put_any x 1 w hx)
      rw [e1, e2] at P
      have hd : (x / 256 == 0) = false := by have := hx.1; simp; omega
      clear e0 e1 e2 hx hlt
      go_enter Try.func6, Try.ntmps6
      go_wp2_with fail
      refine (alive_any _).mono ?_
      rintro e w1 ⟨rfl, hbel⟩
      have HB1 := hide hbel
      clear hbel
      go_wp2_with fail
      refine (P.out _).mono ?_
      rintro e w2 ⟨a, rfl, hown, hbel⟩
      obtain ⟨ad, cap, rfl, hmax⟩ := hown.bytes.empty
      have HB2 := hide (below_on HB1.out hbel)
      clear hown hbel
      go_wp2
      go_ret
      exact ⟨rfl, HB2.out⟩
  · -- 2 bytes
    have e0 : ((256 : Int)) ^ (Int.toNat 2) = 65536 := by decide
    by_cases hlt : x < 65536
    · have e1 : putL x 2 = put 2 x := by unfold putL; rw [e0, if_pos ⟨rfl, hlt⟩]; rfl
      have e2 : putE x 2 = 0 := by unfold putE; rw [e0, if_pos (show wideB 2 = true from rfl), if_pos hlt]
      have e3 : (put 2 x).length = 2 := put_length _ _
      have e4 : getX (put 2 x) = x := by
        unfold getX
        rw [e3, if_pos (show wideB ((2 : Nat) : Int) = true from rfl)]
        exact num_put _ _ hx.1 hlt
      have e5 : getE (put 2 x) = 0 := by unfold getE; rw [e3, if_pos (show wideB ((2 : Nat) : Int) = true from rfl)]
      have G := hide (fun v w h => get_any (put 2 x) v w h (put_byte _ _))
      have P := hide (fun w => put_any x 2 w hx)
      rw [e1, e2] at P
      rw [e4, e5] at G
      have hx0 := hx.1
      have hd : x / 65536 = 0 := by omega
      clear e0 e1 e2 e4 e5 hx
      go_enter Try.func6, Try.ntmps6
      go_wp2_with fail
      refine (alive_any _).mono ?_
      rintro e w1 ⟨rfl, hbel⟩
      have HB1 := hide hbel
      clear hbel
      go_wp2_with fail
      refine (P.out _).mono ?_
      rintro e w2 ⟨a, rfl, hown, hbel⟩
      obtain ⟨ad, cap, rfl, hcap, hmax⟩ := hown.bytes.form
      have HA := hide hown.bytes
      have HB2 := hide (below_on HB1.out hbel)
      clear hown hbel
      rw [e3] at HA ⊢
      clear e3 hcap
      generalize put 2 x = pl at *
      go_wp2_with fail
      refine (G.out _ _ HA.out).mono ?_
      rintro e w' ⟨rfl, rfl⟩
      go_wp2
      go_ret
      exact ⟨rfl, HB2.out⟩
    · have e1 : putL x 2 = [] := by unfold putL; rw [e0, if_neg (fun q => hlt q.2)]
      have e2 : putE x 2 = 3 := by unfold putE; rw [e0, if_pos (show wideB 2 = true from rfl), if_neg hlt]
      have P := hide (fun w => put_any x 2 w hx)
      rw [e1, e2] at P
      have hd : (x / 65536 == 0) = false := by have := hx.1; simp; omega
      clear e0 e1 e2 hx hlt
      go_enter Try.func6, Try.ntmps6
      go_wp2_with fail
      refine (alive_any _).mono ?_
      rintro e w1 ⟨rfl, hbel⟩
      have HB1 := hide hbel
      clear hbel
      go_wp2_with fail
      refine (P.out _).mono ?_
      rintro e w2 ⟨a, rfl, hown, hbel⟩
      obtain ⟨ad, cap, rfl, hmax⟩ := hown.bytes.empty
      have HB2 := hide (below_on HB1.out hbel)
      clear hown hbel
      go_wp2
      go_ret
      exact ⟨rfl, HB2.out⟩
  · -- 4 bytes
    have e0 : ((256 : Int)) ^ (Int.toNat 4) = 4294967296 := by decide
    by_cases hlt : x < 4294967296
    · have e1 : putL x 4 = put 4 x := by unfold putL; rw [e0, if_pos ⟨rfl, hlt⟩]; rfl
      have e2 : putE x 4 = 0 := by unfold putE; rw [e0, if_pos (show wideB 4 = true from rfl), if_pos hlt]
      have e3 : (put 4 x).length = 4 := put_length _ _
      have e4 : getX (put 4 x) = x := by
        unfold getX
        rw [e3, if_pos (show wideB ((4 : Nat) : Int) = true from rfl)]
        exact num_put _ _ hx.1 hlt
      have e5 : getE (put 4 x) = 0 := by unfold getE; rw [e3, if_pos (show wideB ((4 : Nat) : Int) = true from rfl)]
      have G := hide (fun v w h => get_any (put 4 x) v w h (put_byte _ _))
      have P := hide (fun w => put_any x 4 w hx)
      rw [e1, e2] at P
      rw [e4, e5] at G
      have hx0 := hx.1
      have hd : x / 4294967296 = 0 := by omega
      clear e0 e1 e2 e4 e5 hx
      go_enter Try.func6, Try.ntmps6
      go_wp2_with fail
      refine (alive_any _).mono ?_
      rintro e w1 ⟨rfl, hbel⟩
      have HB1 := hide hbel
      clear hbel
      go_wp2_with fail
      refine (P.out _).mono ?_
      rintro e w2 ⟨a, rfl, hown, hbel⟩
      obtain ⟨ad, cap, rfl, hcap, hmax⟩ := hown.bytes.form
      have HA := hide hown.bytes
      have HB2 := hide (below_on HB1.out hbel)
      clear hown hbel
      rw [e3] at HA ⊢
      clear e3 hcap
      generalize put 4 x = pl at *
      go_wp2_with fail
      refine (G.out _ _ HA.out).mono ?_
      rintro e w' ⟨rfl, rfl⟩
      go_wp2
      go_ret
      exact ⟨rfl, HB2.out⟩
    · have e1 : putL x 4 = [] := by unfold putL; rw [e0, if_neg (fun q => hlt q.2)]
      have e2 : putE x 4 = 3 := by unfold putE; rw [e0, if_pos (show wideB 4 = true from rfl), if_neg hlt]
      have P := hide (fun w => put_any x 4 w hx)
      rw [e1, e2] at P
      have hd : (x / 4294967296 == 0) = false := by have := hx.1; simp; omega
      clear e0 e1 e2 hx hlt
      go_enter Try.func6, Try.ntmps6
      go_wp2_with fail
      refine (alive_any _).mono ?_
      rintro e w1 ⟨rfl, hbel⟩
      have HB1 := hide hbel
      clear hbel
      go_wp2_with fail
      refine (P.out _).mono ?_
      rintro e w2 ⟨a, rfl, hown, hbel⟩
      obtain ⟨ad, cap, rfl, hmax⟩ := hown.bytes.empty
      have HB2 := hide (below_on HB1.out hbel)
      clear hown hbel
      go_wp2
      go_ret
      exact ⟨rfl, HB2.out⟩
  · -- 8 bytes
    have e0 : ((256 : Int)) ^ (Int.toNat 8) = 18446744073709551616 := by decide
    have hlt : x < 18446744073709551616 := hx.2
    have e1 : putL x 8 = put 8 x := by unfold putL; rw [e0, if_pos ⟨rfl, hlt⟩]; rfl
    have e2 : putE x 8 = 0 := by unfold putE; rw [e0, if_pos (show wideB 8 = true from rfl), if_pos hlt]
    have e3 : (put 8 x).length = 8 := put_length _ _
    have e4 : getX (put 8 x) = x := by
      unfold getX
      rw [e3, if_pos (show wideB ((8 : Nat) : Int) = true from rfl)]
      exact num_put _ _ hx.1 hlt
    have e5 : getE (put 8 x) = 0 := by unfold getE; rw [e3, if_pos (show wideB ((8 : Nat) : Int) = true from rfl)]
    have G := hide (fun v w h => get_any (put 8 x) v w h (put_byte _ _))
    have P := hide (fun w => put_any x 8 w hx)
    rw [e1, e2] at P
    rw [e4, e5] at G
    clear e0 e1 e2 e4 e5 hx
    go_enter Try.func6, Try.ntmps6
    go_wp2_with fail
    refine (alive_any _).mono ?_
    rintro e w1 ⟨rfl, hbel⟩
    have HB1 := hide hbel
    clear hbel
    go_wp2_with fail
    refine (P.out _).mono ?_
    rintro e w2 ⟨a, rfl, hown, hbel⟩
    obtain ⟨ad, cap, rfl, hcap, hmax⟩ := hown.bytes.form
    have HA := hide hown.bytes
    have HB2 := hide (below_on HB1.out hbel)
    clear hown hbel
    rw [e3] at HA ⊢
    clear e3 hcap
    generalize put 8 x = pl at *
    go_wp2_with fail
    refine (G.out _ _ HA.out).mono ?_
    rintro e w' ⟨rfl, rfl⟩
    go_wp2
    go_ret
    exact ⟨rfl, HB2.out⟩

set_option maxRecDepth 100000 in
theorem octetBack_lifted (os : Os) (started : os.Started) (H : Type) (enc : TypeId × Value → H) :
    ReturnsInHanded {} Try.checked os 6 .any (Rows.octetBackSpec.pre6 enc Try.prog Try.f6 Rows.octetBackRow.domain false) (Rows.octetBackSpec.post enc Try.prog Try.f6 false true false false) := by
  refine returnsInHanded_of_change (C := Try.checked) own started (by kernel_rfl) Try.func6
    (ChangeSpec.witness6 (enc := enc) (C := Try.checked) false ⟨#[], #[.int .u64 0, .int .u8 0], []⟩ 8 (by kernel_rfl) (by kernel_rfl) (by kernel_rfl) (by kernel_rfl)) ?_
  intro W base args ds gs before hval0 hW hcnd _
  have hval : ∀ (j : Nat) t v, Try.f6.params[j]? = some t → args[j]? = some v → Value.okWide Try.prog W .any base t v := hval0
  have hW' := hW
  obtain ⟨p, q, hA0, hV, rfl, hfz, hnd⟩ := hW
  have hA : DataW.TrodAll enc Try.prog W 0 (fun _ => true) true Try.f6.params.toList args.toList ds p := hA0
  rw [Try.params6] at hA hval
  obtain ⟨v0, vs0, d0, ds0, p0, q0, hargs, rfl, rfl, h0, r0⟩ := trodAll_cons hA
  obtain ⟨v1, vs1, d1, ds1, p1, q1, rfl, rfl, rfl, h1, r1⟩ := trodAll_cons r0
  obtain ⟨rfl, rfl, rfl⟩ := trodAll_nil r1
  obtain rfl : args = #[v0, v1] := by cases args; simp_all
  obtain ⟨rfl, rfl⟩ := trodVars_none hV
  obtain ⟨a0, rfl, rfl, rfl, w0⟩ := open_int Try.underlying22 (hval 0 22 v0 rfl rfl) h0
  obtain ⟨a1, rfl, rfl, rfl, w1⟩ := open_int Try.underlying5 (hval 1 5 v1 rfl rfl) h1
  clear hA0 hval0
  refine (back_law (w := W) a0 (word_of_wf w0) a1 (byte_of_wf w1)).mono fun e W' ⟨he, bel⟩ => ?_
  subst he
  exact ⟨_, rfl, _, _, _, [], _, [], hW', trodAll_mk1 (shut_bool Try.underlying4 _), (trodAll_cons_mk (shut_int Try.underlying22 w0) (trodAll_cons_mk (shut_int Try.underlying5 w1) trodAll_mk0)), rfl, bel.frame _, fun h => by cases h⟩

theorem octetBack_holds : Rows.OctetBackSaid :=
  OpenClaim.holds_of_wide 6 Try.f6 rfl rfl rfl rfl rfl rfl rfl ⟨rfl, rfl, rfl, rfl, rfl⟩ rfl rfl rfl rfl rfl (by kernel_rfl) Try.func6 (by kernel_rfl)
    (of_decide_eq_true (by kernel_rfl)) (by unfold Func.isWrapper; first | (rw [if_pos (by decide +kernel)]; kernel_rfl) | (rw [if_neg (by decide +kernel)]; exact ⟨rfl, rfl⟩))
    (fun os started H enc _ => octetBack_lifted os started H enc)
#print axioms octetBack_holds
end Go.Proofs.Ytkdlpnhpokcbiaa
