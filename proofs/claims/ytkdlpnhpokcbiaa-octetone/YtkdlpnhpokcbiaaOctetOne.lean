/-
  Proved: for every number of the type uint64 and every slice of bytes the law OctetOne answers true, and its arguments read as they did. No condition.
-/
import Derived.Test.YtkdlpnhpokcbiaaOctLaw
import Derived.Test.YtkdlpnhpokcbiaaOctPure
import Derived.Deep.RegionHeld3
namespace Go.Proofs.Ytkdlpnhpokcbiaa
open Go.ChangeShapes Go.WideShapes Go.ChangeAt Go.RowKit

theorem Bytes.addr {w : World} {a : Option Addr} {n cap : Nat} {l : List Int} (h : Bytes w (.slice a n cap) l) (hp : 0 < l.length) : ∃ b off, a = some ⟨b, off, none⟩ := by
  obtain ⟨a', cap', h1, _, _, _, h5⟩ := h
  cases h1
  obtain ⟨b, off, e, _⟩ := h5 hp
  exact ⟨b, off, e⟩

set_option maxHeartbeats 4000000 in
theorem one_some {w : World} (x : Int) (hx : Word x) (v : Value) (l : List Int) (hl : ∀ z ∈ l, Byte z) (hv : Bytes w v l) (hn : l.length ≤ 100000) :
    Calls Try.prog 7 #[.int .u64 x, v] w fun e w' => e = .returned (.bool true) ∧ Below w.heap.size w w' := by
  have P := hide (fun w => octVar_any w x hx)
  have HX := hide hx
  have HL := hide hl
  have HV := hide hv
  obtain ⟨q1, q2, q3⟩ := read_var x hx.1 hx.2 l
  have R1 := hide (fun v w h => read_any (var x ++ l) v w h (fun z hz => by
    rcases List.mem_append.1 hz with h | h
    · exact var_byte x hx.1 z h
    · exact hl z h))
  rw [q1, q2, q3] at R1
  have hvl : (var x).length ≤ 9 := var_le x
  have hvp : 1 ≤ (var x).length := var_pos x
  have R2 : Hid (∀ v w i, i < (var x).length → Bytes w v ((var x).take i) → Calls Try.prog 16 #[v] w fun e w' => e = .returned (.tuple #[.int .u64 0, .int .i64 0, .int .i64 4]) ∧ w' = w) := fun v w i hi h => by
    have e4 := read_cut x hx.1 hx.2 i hi
    have hb := read_bad ((var x).take i) (by omega)
    have h' := read_any _ v w h (fun z hz => var_byte x hx.1 z (List.mem_of_mem_take hz))
    rw [hb.1, hb.2, e4] at h'
    exact h'
  have hn1 : ¬ (100000 : Int) < (l.length : Int) := by omega
  obtain ⟨ad, cap, rfl, hcap, hmax⟩ := hv.form
  clear q1 q2 q3 hx hl hv
  generalize hvx : var x = vx at *
  have HVX := hide hvx
  clear hvx
  go_enter Try.func7, Try.ntmps7
  go_wp2_with fail
  refine (alive_any _).mono ?_
  rintro e w1 ⟨rfl, hbel⟩
  have HB1 := hide hbel
  clear hbel
  go_wp2_with fail
  refine (P.out _).mono ?_
  rintro e w2 ⟨a, rfl, hown, hbel⟩
  obtain ⟨b, off, c2, rfl, hc2, hm2, _⟩ := hown.bytes.lies (by omega)
  have HA := hide hown.bytes
  have HB2 := hide (below_on HB1.out hbel)
  clear hown hbel
  go_wp2_with (at_builtin; refine wp_append rfl _ _ rfl w2.heap.size _ [] rfl (Own.made _ _ (Nat.le_refl _)) _ vx rfl (HA.out.alloc _) ?c1 ?c2 ?_)
  case c1 => simp; omega
  case c2 => simp
  intro v3 w3 hown3 hbel3
  have HO3 := hide hown3
  have HD3 : Hid (Below w2.heap.size w2 w3) := ((Below.refl _ _).alloc (Nat.le_refl _) _).trans hbel3
  have HV3 := hide (HV.out.below (below_on HB2.out HD3.out))
  clear hown3 hbel3
  go_wp2_with (at_builtin; refine wp_append rfl _ _ rfl w2.heap.size _ _ rfl HO3.out _ l rfl HV3.out ?c3 ?c4 ?_)
  case c3 => first | omega | (simp; omega)
  case c4 => exact HD3.out.size
  intro v4 w4 hown4 hbel4
  have HO4 := hide hown4.bytes
  have HD4 : Hid (Below w2.heap.size w2 w4) := HD3.out.trans hbel4
  have HA4 := hide (HA.out.below HD4.out)
  have HB4 := hide (below_on HB2.out HD4.out)
  have HV4 := hide (HV.out.below HB4.out)
  clear hown4 hbel4
  go_wp2_with fail
  refine (R1.out _ _ HO4.out).mono ?_
  rintro e w' ⟨rfl, rfl⟩
  have hcz : ¬ c2 = 0 := by omega
  go_wp2_with fail
  go_loop [48] (fun i => ∃ k : Nat, k ≤ vx.length ∧ i = .int .i64 k) (fun i => vx.length - (intOf i).toNat)
  case atStart => exact ⟨0, Nat.zero_le _, rfl⟩
  case round =>
    obtain ⟨k, hk, rfl⟩ := hrel
    by_cases hlt : k < vx.length
    · have hkc : (k : Int) ≤ (c2 : Int) := by omega
      have HR := hide (R2.out _ w' k hlt (HA4.out.take k (by omega)))
      go_wp2_with fail
      refine HR.out.mono ?_
      rintro e wq ⟨rfl, rfl⟩
      go_wp2
      go_round
      case rel => exact ⟨k + 1, hlt, by go_num⟩
      case measure => simp [intOf]; omega
    · have G := hide (read_any l _ w' HV4.out HL.out)
      by_cases he : readE l = 0
      · obtain ⟨m, hm, hm1, hm2, hm9, hvar, hz0, hz1⟩ := read_ok l HL.out he
        obtain ⟨b', off', rfl⟩ := HV.out.addr (by omega)
        have V := hide (fun w => octVar_any w (readX l) ⟨hz0, hz1⟩)
        have HT := hide (HV4.out.take m (by omega))
        rw [hm, he] at G
        rw [hvar] at V
        generalize l.take m = q at *
        generalize readX l = z at *
        generalize hln : l.length = n at *
        have h1 : decide ((m : Int) ≤ (n : Int)) = true := decide_eq_true (by omega)
        have h2 : (m : Int) ≤ (cap : Int) := by omega
        have h3 : ¬ cap = 0 := by omega
        have SM := hide (fun v v' w h1 h2 => same_self q v v' w h1 h2)
        clear he hvar hz0 hz1 hm
        go_wp2_with fail
        refine G.out.mono ?_
        rintro e wq ⟨rfl, rfl⟩
        go_wp2_with fail
        go_region_held3 (fun wx => Below wq.heap.size wq wx) (first | assumption | exact (Below.refl _ _).drew | exact below_drewN (by assumption) _)
          (first
            | (go_at_call 15; refine (V.out _).mono ?_; rintro e wv ⟨vv, rfl, hown, hbel⟩; have hb2 : Below wq.heap.size wq wv := below_on (by assumption) hbel)
            | (go_at_call 14; refine (SM.out _ _ _ (Own.bytes (by assumption)) (HT.out.below (by assumption))).mono ?_; rintro e wv ⟨rfl, hbel'⟩; have hb3 : Below wq.heap.size wq wv := below_on (by assumption) hbel'))
        go_wp2
        go_ret
        exact ⟨rfl, below_on HB4.out (by assumption)⟩
      · obtain ⟨hb1, hb2⟩ := read_bad l he
        rw [hb1, hb2] at G
        have he' : (readE l == 0) = false := by simpa using he
        clear he hb1 hb2
        generalize readE l = re at *
        go_wp2_with fail
        refine G.out.mono ?_
        rintro e wq ⟨rfl, rfl⟩
        go_wp2
        go_ret
        exact ⟨rfl, HB4.out⟩

theorem one_law {w : World} (x : Int) (hx : Word x) (v : Value) (l : List Int) (hl : ∀ z ∈ l, Byte z) (hv : Bytes w v l) :
    Calls Try.prog 7 #[.int .u64 x, v] w fun e w' => e = .returned (.bool true) ∧ Below w.heap.size w w' := by
  by_cases hn : l.length ≤ 100000
  · exact one_some x hx v l hl hv hn
  · obtain ⟨a, cap, rfl, _, _⟩ := hv.form
    have hn1 : (100000 : Int) < (l.length : Int) := by omega
    clear hn hv hl hx
    generalize l.length = n at *
    go_enter Try.func7, Try.ntmps7
    go_wp2_with fail
    refine (alive_any _).mono ?_
    rintro e w1 ⟨rfl, hbel⟩
    have HB := hide hbel
    clear hbel
    go_wp2
    go_ret
    exact ⟨rfl, HB.out⟩

set_option maxRecDepth 100000 in
theorem octetOne_lifted (os : Os) (started : os.Started) (H : Type) (enc : TypeId × Value → H) :
    ReturnsInHanded {} Try.checked os 7 .any (Rows.octetOneSpec.pre6 enc Try.prog Try.f7 Rows.octetOneRow.domain false) (Rows.octetOneSpec.post enc Try.prog Try.f7 false true false false) := by
  refine returnsInHanded_of_change (C := Try.checked) own started (by kernel_rfl) Try.func7
    (ChangeSpec.witness6 (enc := enc) (C := Try.checked) false ⟨#[], #[.int .u64 0, .slice none 0 0], []⟩ 8 (by kernel_rfl) (by kernel_rfl) (by kernel_rfl) (by kernel_rfl)) ?_
  intro W base args ds gs before hval0 hW hcnd _
  have hval : ∀ (j : Nat) t v, Try.f7.params[j]? = some t → args[j]? = some v → Value.okWide Try.prog W .any base t v := hval0
  have hW' := hW
  obtain ⟨p, q, hA0, hV, rfl, hfz, hnd⟩ := hW
  have hA : DataW.TrodAll enc Try.prog W 0 (fun _ => true) true Try.f7.params.toList args.toList ds p := hA0
  rw [Try.params7] at hA hval
  obtain ⟨v0, vs0, d0, ds0, p0, q0, hargs, rfl, rfl, h0, r0⟩ := trodAll_cons hA
  obtain ⟨v1, vs1, d1, ds1, p1, q1, rfl, rfl, rfl, h1, r1⟩ := trodAll_cons r0
  obtain ⟨rfl, rfl, rfl⟩ := trodAll_nil r1
  obtain rfl : args = #[v0, v1] := by cases args; simp_all
  obtain ⟨rfl, rfl⟩ := trodVars_none hV
  obtain ⟨a0, rfl, rfl, rfl, w0⟩ := open_int Try.underlying22 (hval 0 22 v0 rfl rfl) h0
  obtain ⟨b1, len1, cap1, rfl⟩ := okWide_slice Try.underlying23 (hval 1 23 v1 rfl rfl)
  have k1 := h1
  have lt1 : ∀ x ∈ p1, x.block < W.heap.size := by obtain ⟨m, hm⟩ := k1; exact DataW.trod_lt m _ _ _ hm
  obtain ⟨l1, s1, w1⟩ : ∃ l, Bytes W (.slice b1 len1 cap1) l ∧ ∀ z ∈ l, Byte z := by
    obtain ⟨fuel, hf⟩ := h1
    rcases open_ints Try.underlying23 Try.underlying5 (by kernel_rfl) hf with ⟨hcs, _⟩ | ⟨x, l, c, zs, hcs, _, hl, hm, hz, _, hcell, hwz⟩
    · simp [Value.cells] at hcs
      obtain ⟨rfl, rfl, rfl⟩ := hcs
      exact ⟨[], Bytes.nil _, by simp⟩
    · simp [Value.cells] at hcs
      obtain ⟨rfl, rfl, rfl⟩ := hcs
      exact bytes_row hl hm (by simpa using hz) hcell hwz
  clear hA0 hval0
  refine (one_law (w := W) a0 (word_of_wf w0) _ l1 w1 s1).mono fun e W' ⟨he, bel⟩ => ?_
  subst he
  exact ⟨_, rfl, _, _, _, [], _, [], hW', trodAll_mk1 (shut_bool Try.underlying4 _), (trodAll_cons_mk (shut_int Try.underlying22 w0) (trodAll_cons_mk (Below.trod laidOut (by kernel_rfl) (of_decide_eq_true (by kernel_rfl)) k1 bel lt1) trodAll_mk0)), rfl, bel.frame _, fun h => by cases h⟩

theorem octetOne_holds : Rows.OctetOneSaid :=
  OpenClaim.holds_of_wide 7 Try.f7 rfl rfl rfl rfl rfl rfl rfl ⟨rfl, rfl, rfl, rfl, rfl⟩ rfl rfl rfl rfl rfl (by kernel_rfl) Try.func7 (by kernel_rfl)
    (of_decide_eq_true (by kernel_rfl)) (by unfold Func.isWrapper; first | (rw [if_pos (by decide +kernel)]; kernel_rfl) | (rw [if_neg (by decide +kernel)]; exact ⟨rfl, rfl⟩))
    (fun os started H enc _ => octetOne_lifted os started H enc)
#print axioms octetOne_holds
end Go.Proofs.Ytkdlpnhpokcbiaa
