/-
  What pappusref02.Pack and pappusref02.Unpack answer at this program: the very same as the program's own.
-/
import Derived.Test.YtkdlpnhpokcbiaaUnpack
import Derived.Test.YtkdlpnhpokcbiaaRefRead
namespace Go.Proofs.Ytkdlpnhpokcbiaa
open Go.RowKit

set_option maxHeartbeats 1000000 in
theorem rpack_some (L : List (List Int)) (b off cap : Nat) (w : World) (hmax : L.length ≤ 9223372036854775807) (hroom : (pack L).length ≤ 800000) (hpos : 0 < L.length)
    (hc : ∀ i, i < L.length → ∃ p, w.cell? ⟨b, off + i, none⟩ = some p ∧ Bytes w p (L.getD i [])) :
    Calls Try.prog 24 #[.slice (some ⟨b, off, none⟩) L.length cap] w fun e w' => ∃ v', e = .returned v' ∧ Own w' w.heap.size v' (pack L) ∧ Below w.heap.size w w' := by
  have HC := hide hc
  have V := hide (rvar_any w L.length (word_len hmax))
  have hbw : b < w.heap.size := by
    obtain ⟨p, hp, _⟩ := hc 0 hpos
    exact World.block_lt_of_cell? _ _ hp
  clear hc
  go_enter Try.func24, Try.ntmps24
  go_wp2_with fail
  refine V.out.mono ?_
  rintro e w1 ⟨v1, rfl, hown, hbel⟩
  have HO := hide hown
  have HB := hide hbel
  clear hown hbel
  go_wp2_with fail
  go_loopw [3, 12] (fun v i wr => Packing w L v i wr) (fun _ i _ => L.length - (intOf i).toNat)
  case atStart => exact ⟨0, _, Nat.zero_le _, rfl, HO.out, rfl, HB.out⟩
  case round =>
    obtain ⟨k, done, hk, rfl, hown, heq, hbel⟩ := hrel
    by_cases hlt : k < L.length
    · obtain ⟨p, hcell0, hbytes0⟩ := HC.out k hlt
      have hcell := (hbel.cell (p := ⟨b, off + k, none⟩) hbw).trans hcell0
      have HR := hide (packing_room hlt heq)
      obtain ⟨a', cap', rfl, hc1, hc2⟩ := hbytes0.form
      have HP := hide hbytes0
      have A := hide (rvar_any wr (L.getD k []).length (word_len (by omega)))
      have HO1 := hide hown
      have HE := hide heq
      have HB2 := hide hbel
      clear hown heq hbel hcell0 hbytes0
      generalize hq : L.getD k [] = q at *
      have HQ := hide hq
      clear hq
      go_wp2_with fail
      refine A.out.mono ?_
      rintro e w2 ⟨v2, rfl, hown2, hbel2⟩
      have HS2 := hide hown2.bytes
      have HO2 := hide (HO1.out.below hbel2)
      have HB3 := hide (HB2.out.trans (hbel2.mono HB2.out.size))
      clear hown2 hbel2
      go_wp2_with (at_builtin; refine wp_append rfl (.tmp 16) (.tmp 20) rfl w.heap.size _ _ rfl HO2.out _ (var q.length) rfl HS2.out ?c1 ?c2 ?_)
      case c1 => have := HR.out; omega
      case c2 => exact HB3.out.size
      intro v3 w3 hown3 hbel3
      have HO3 := hide hown3
      have HB4 := hide (HB3.out.trans hbel3)
      have HP4 := hide (HP.out.below HB4.out)
      clear hown3 hbel3
      go_wp2_with (at_builtin; refine wp_append rfl (.tmp 22) (.tmp 23) rfl w.heap.size _ _ rfl HO3.out _ q rfl HP4.out ?c3 ?c4 ?_)
      case c3 => have := HR.out; rw [List.length_append]; omega
      case c4 => exact HB4.out.size
      intro v4 w4 hown4 hbel4
      have ho4 : Own w4 w.heap.size v4 (done ++ (var (L.getD k []).length ++ L.getD k [])) := by
        rw [HQ.out]
        first | exact hown4 | (rw [← List.append_assoc]; exact hown4)
      have R : Hid (Packing w L v4 (.int .i64 ((k + 1 : Nat) : Int)) w4) := packing_next hlt HE.out ho4 (HB4.out.trans hbel4)
      clear hown4 hbel4 ho4
      go_wp2
      go_roundw
      case rel => first | exact R.out | ((repeat apply Exists.intro); exact ⟨R.out, rfl⟩)
      case measure => simp [intOf]; omega
    · obtain rfl : k = L.length := by omega
      have R : Hid (Own wr w.heap.size _ (pack L) ∧ Below w.heap.size w wr) := ⟨by rw [List.drop_length, flat, List.append_nil] at heq; rw [← heq]; exact hown, hbel⟩
      clear hown heq hbel
      go_wp2
      go_ret
      exact ⟨_, rfl, R.out⟩
theorem rpack_none (a : Option Addr) (cap : Nat) (w : World) :
    Calls Try.prog 24 #[.slice a 0 cap] w fun e w' => ∃ v', e = .returned v' ∧ Own w' w.heap.size v' (pack []) ∧ Below w.heap.size w w' := by
  have V := hide (rvar_any w 0 ⟨by omega, by omega⟩)
  have e : pack [] = var 0 := by simp [pack, flat]
  rw [e]
  clear e
  go_enter Try.func24, Try.ntmps24
  go_wp2_with fail
  refine V.out.mono ?_
  rintro e w1 ⟨v1, rfl, R⟩
  have R := hide R
  go_wp2_with fail
  go_loopw [3, 12] (fun v i wr => v = v1 ∧ i = .int .i64 0 ∧ wr = w1) (fun _ _ _ => 0)
  case atStart => exact ⟨rfl, rfl, rfl⟩
  case round =>
    obtain ⟨rfl, rfl, rfl⟩ := hrel
    go_wp2
    go_ret
    exact ⟨_, rfl, R.out⟩
theorem rpack_any (L : List (List Int)) (v : Value) (w : World) (hv : Parts w v L) (hroom : (pack L).length ≤ 800000) :
    Calls Try.prog 24 #[v] w fun e w' => ∃ v', e = .returned v' ∧ Own w' w.heap.size v' (pack L) ∧ Below w.heap.size w w' := by
  rcases Nat.eq_zero_or_pos L.length with h0 | h0
  · obtain rfl : L = [] := List.length_eq_zero_iff.1 h0
    obtain ⟨a, cap, rfl, _⟩ := hv.empty
    exact rpack_none a cap w
  · obtain ⟨b, off, cap, rfl, h1, h2, hc⟩ := hv.lies h0
    exact rpack_some L b off cap w (by omega) hroom h0 hc

/-! Slices of slices, told ahead: so that the walk does not part. -/
theorem wp_from {w : World} {ops : Array Oper} {rest : List Oper} {o : Oper} {a : Act} {Q : Exit → Act → World → Prop} (hgd : o.guard = none) (s i : Operand) (ho : o.op = .slice 23 s (some i) none none)
    (v v1 : Value) (x : Value) (hs : a.eval s = v) (hi : a.eval i = x) (hrun : ∀ w, (Instr.slice 23 v (some x) none none).run Try.prog w = .ok v1 w)
    (h : wpList Try.prog ops Q rest (a.put o.dst v1) w) : wpList Try.prog ops Q (o :: rest) a w := by
  have hat : ∀ w, (Instr.sliceAt 23 v (some x) none none).run Try.prog w = .ok v1 w := fun w => by
    rw [run_sliceAt_slice _ _ _ _ _ _ (by rw [Try.underlying23]; kernel_rfl)]
    exact hrun w
  refine wpList_plain hgd fun K hK => ?_
  unfold Oper.wp
  simp [execOp, ho, hs, hi, hat, Result.andThen, Oper.upon]
  exact hK _ _ h
theorem wp_upto {w : World} {ops : Array Oper} {rest : List Oper} {o : Oper} {a : Act} {Q : Exit → Act → World → Prop} (hgd : o.guard = none) (s i : Operand) (ho : o.op = .slice 23 s none (some i) none)
    (v v1 : Value) (x : Value) (hs : a.eval s = v) (hi : a.eval i = x) (hrun : ∀ w, (Instr.slice 23 v none (some x) none).run Try.prog w = .ok v1 w)
    (h : wpList Try.prog ops Q rest (a.put o.dst v1) w) : wpList Try.prog ops Q (o :: rest) a w := by
  have hat : ∀ w, (Instr.sliceAt 23 v none (some x) none).run Try.prog w = .ok v1 w := fun w => by
    rw [run_sliceAt_slice _ _ _ _ _ _ (by rw [Try.underlying23]; kernel_rfl)]
    exact hrun w
  refine wpList_plain hgd fun K hK => ?_
  unfold Oper.wp
  simp [execOp, ho, hs, hi, hat, Result.andThen, Oper.upon]
  exact hK _ _ h
theorem tail_of (a : Option Addr) (n cap m : Nat) (k : IntKind) (hm : m ≤ n) :
    ∃ a1 c1, (∀ w, (Instr.slice 23 (.slice a n cap) (some (.int k (m : Int))) none none).run Try.prog w = .ok (.slice a1 (n - m) c1) w) ∧ ∀ (w0 : World) (r : List Int), Bytes w0 (.slice a n cap) r → Bytes w0 (.slice a1 (n - m) c1) (r.drop m) := by
  refine ⟨if cap = m then a else a.map (·.add m), cap - m, fun w => ?_, fun w0 r h => h.drop m hm⟩
  rw [run_slice_l w 23 _ n cap (by rw [Try.underlying23]; kernel_rfl) k (m : Int) (by omega) (by omega)]
  have e : (sizeOf (Try.prog.elem 23)).run Try.prog w = .ok 1 w := by kernel_rfl
  rw [e]
  simp [Result.andThen, sliced]
theorem head_of (a : Option Addr) (n cap m : Nat) (k : IntKind) (hm : m ≤ n) (hn : n ≤ cap) :
    ∃ a1, (∀ w, (Instr.slice 23 (.slice a n cap) none (some (.int k (m : Int))) none).run Try.prog w = .ok (.slice a1 m cap) w) ∧ ∀ (w0 : World) (r : List Int), Bytes w0 (.slice a n cap) r → Bytes w0 (.slice a1 m cap) (r.take m) := by
  refine ⟨if cap = 0 then a else a.map (·.add 0), fun w => ?_, fun w0 r h => ?_⟩
  · rw [run_slice_h w 23 _ n cap (by rw [Try.underlying23]; kernel_rfl) k (m : Int) (by omega) (by omega)]
    have e : (sizeOf (Try.prog.elem 23)).run Try.prog w = .ok 1 w := by kernel_rfl
    rw [e]
    simp [Result.andThen, sliced]
  · have h1 := (h.drop 0 (Nat.zero_le _)).take m (by omega)
    rw [List.drop_zero, Nat.sub_zero] at h1
    exact h1

/-- A part that can't be taken. -/
theorem part_unread {r : List Int} (h : ¬ readE r = 0) : partE r = readE r := by unfold partE; rw [if_neg h]
theorem part_few {r : List Int} {n : Nat} (h : readE r = 0) (hn : readN r = n) (hs : ((r.length - n : Nat) : Int) < readX r) : partE r = 4 := by
  have ha : after r = r.drop n := by unfold after; rw [hn]; rfl
  unfold partE
  rw [if_pos h, ha, if_pos (by simpa using hs)]
theorem part_there {r : List Int} {n x : Nat} (h : readE r = 0) (hn : readN r = n) (hx : readX r = x) (hs : x ≤ r.length - n) : partE r = 0 ∧ partP r = (r.drop n).take x ∧ partR r = (r.drop n).drop x := by
  have ha : after r = r.drop n := by unfold after; rw [hn]; rfl
  refine ⟨?_, ?_, ?_⟩
  · unfold partE
    rw [if_pos h, ha, hx, if_neg (by simp; omega)]
  · unfold partP
    rw [ha, hx]
    rfl
  · unfold partR
    rw [ha, hx]
    rfl

set_option maxHeartbeats 1000000 in
theorem runpack_loop (l : List Int) (a : Option Addr) (cap n cnt : Nat) (most : Int) (w : World) (hl : ∀ z ∈ l, Byte z) (hlen : l.length ≤ 200000) (he : readE l = 0) (hn : readN l = n) (hn2 : n ≤ l.length) (hx : readX l = cnt) (hcnt : cnt < 18446744073709551616)
    (hm0 : 0 ≤ most) (hm1 : (cnt : Int) ≤ most) (hm2 : most ≤ 9223372036854775807) (hv : Bytes w (.slice a l.length cap) l) :
    Calls Try.prog 22 #[.slice a l.length cap, .int .i64 most] w fun e w' => UnpackDone w l most e w' := by
  have R := hide (rread_any l _ w hv hl)
  have ha : after l = l.drop n := by unfold after; rw [hn]; rfl
  have HL := hide (after_byte hl)
  obtain ⟨a1, c1, t1, t2⟩ := tail_of a l.length cap n .i64 hn2
  have T1 := hide t1
  have HA := hide (t2 w l hv)
  rw [← ha] at HA
  have hla : (after l).length ≤ l.length := by rw [ha]; simp
  have hmc : ¬ most < (cnt : Int) := by omega
  have UE : Hid (unpackE l most = (if stepsE cnt (after l) = 0 then (if stepsR cnt (after l) = [] then 0 else 5) else stepsE cnt (after l))) := by
    show unpackE l most = _
    unfold unpackE
    rw [if_pos he, hx, if_neg (by omega)]
    rfl
  have UL : Hid (stepsL (readX l).toNat (after l) = stepsL cnt (after l)) := by rw [hx]; rfl
  rw [he, hn, hx] at R
  clear he hn hx ha hl hv t1 t2
  go_enter Try.func22, Try.ntmps22
  go_wp2_with fail
  refine R.out.mono ?_
  rintro e w1 ⟨rfl, hbel1⟩
  have HB1 := hide hbel1
  clear hbel1
  go_wp2_with (refine wp_from rfl (.tmp 32) (.tmp 33) rfl _ _ _ rfl rfl T1.out ?_)
  go_loopw [9, 10, 11] (fun bv lv i wr => Unpacking w cnt l.length (stepsE cnt (after l)) (stepsL cnt (after l)) (stepsR cnt (after l)) bv lv i wr) (fun _ _ i _ => cnt - (intOf i).toNat)
  case atStart => exact ⟨0, cnt, [], after l, by omega, rfl, HA.out, HL.out, Held.nil _ _, by simp; omega, rfl, rfl, rfl, HB1.out⟩
  case round =>
    obtain ⟨k, m, D, r, hkm, rfl, hbv, hrb, hheld, hN, hE, hL, hR, hbel⟩ := hrel
    have HE := hide hE
    have HLL := hide hL
    have HRR := hide hR
    have HH := hide hheld
    have HB := hide hbel
    have HRB := hide hrb
    have HBV := hide hbv
    have HK := hide hkm
    obtain ⟨ra, rc, rfl, hrc, hrm⟩ := hbv.form
    by_cases hlt : k < cnt
    · obtain ⟨m, rfl⟩ : ∃ j, m = j + 1 := ⟨m - 1, by omega⟩
      have hk1 : (k : Int) < (cnt : Int) := by omega
      have hwr : IntKind.u64.wrap ((k : Int) + 1) = (k : Int) + 1 := by simp [IntKind.wrap, IntKind.bits, IntKind.signed]; omega
      have RR2 := hide (rread_any r _ wr (hbv.below hbel) hrb)
      by_cases hre : readE r = 0
      · obtain ⟨rn, hrn, hrn1, hrn2, _, _, hrx0, hrx1⟩ := read_ok r hrb hre
        obtain ⟨x, hx⟩ : ∃ x : Nat, readX r = x := ⟨(readX r).toNat, by omega⟩
        obtain ⟨ta, tc, t1, t2⟩ := tail_of ra r.length rc rn .i64 hrn2
        have T2 := hide t1
        have HT := hide (t2 w r hbv)
        have htc : r.length - rn ≤ tc := by
          obtain ⟨_, _, e1, e2, _⟩ := HT.out.form
          injection e1 with _ h2 h3
          rw [List.length_drop] at e2
          omega
        rw [hre, hrn, hx] at RR2
        by_cases hs : x ≤ r.length - rn
        · obtain ⟨p1, p2, p3⟩ := part_there hre hrn hx hs
          obtain ⟨ha, t3, t4⟩ := head_of ta (r.length - rn) tc x .u64 hs htc
          obtain ⟨ua, uc, t5, t6⟩ := tail_of ta (r.length - rn) tc x .u64 hs
          have T3 := hide t3
          have T4 := hide t5
          have HPP : Hid (Bytes w (.slice ha x tc) (partP r)) := by rw [p2]; exact t4 w _ HT.out
          have HPR : Hid (Bytes w (.slice ua (r.length - rn - x) uc) (partR r)) := by rw [p3]; exact t6 w _ HT.out
          have HP := hide p1
          have HPL := hide (part_ok hrb p1).2.2
          have hs1 : ¬ ((r.length - rn : Nat) : Int) < (x : Int) := by omega
          have hM : r.length - rn ≤ 200000 := by omega
          clear hE hL hR hheld hbel hrb hbv hkm p1 p2 p3 t1 t2 t3 t4 t5 t6 hre hrn hx hrx0 hrx1 HT
          generalize r.length - rn = M at *
          go_wp2_with fail
          refine RR2.out.mono ?_
          rintro e w2 ⟨rfl, hbel2⟩
          have HH2 := hide (HH.out.below hbel2)
          have HB2 := hide (HB.out.trans (hbel2.mono HB.out.size))
          have HPP2 := hide (HPP.out.below HB2.out)
          clear hbel2
          go_wp2_with (first | (at_builtin; refine wp_append rfl (.tmp 58) (.tmp 61) rfl w2.heap.size _ [] rfl (Own.made _ _ (Nat.le_refl _)) _ (partP r) rfl (HPP2.out.alloc _) ?c1 ?c2 ?_) | (refine wp_from rfl (.tmp 49) (.tmp 50) rfl _ _ _ rfl rfl T2.out ?_) | (refine wp_upto rfl (.tmp 59) (.tmp 60) rfl _ _ _ rfl rfl T3.out ?_))
          case c1 => have := HPL.out; first | omega | (simp; omega)
          case c2 => simp
          intro cv w3 hown3 hbel3
          obtain ⟨ca, cc, rfl, _, _⟩ := hown3.bytes.form
          have HD3 : Hid (Below w2.heap.size w2 w3) := ((Below.refl _ _).alloc (Nat.le_refl _) _).trans hbel3
          have HO3 : Hid (Own w3 w.heap.size (.slice ca (partP r).length cc) (partP r)) := Own.low hown3 HB2.out.size
          have HH3 := hide (HH2.out.below HD3.out)
          clear hown3 hbel3
          go_wp2_with (at_builtin; refine wp_push rfl (.tmp 57) (.tmp 63) rfl w.heap.size _ D rfl (HH3.out.alloc _) w3.heap.size _ (partP r) rfl (cell_box w3 _ 23) (HO3.out.alloc _) ?c3 ?c4 ?_)
          case c3 => omega
          case c4 => have h1 := HB2.out.size; have h2 := HD3.out.size; simp; omega
          intro lv' w4 hheld4 hbel4
          have HB4 : Hid (Below w.heap.size w w4) := (HB2.out.trans (HD3.out.mono HB2.out.size)).trans (((Below.refl _ _).alloc (Nat.le_trans HB2.out.size HD3.out.size) _).trans hbel4)
          have R2 : Hid (Unpacking w cnt l.length (stepsE cnt (after l)) (stepsL cnt (after l)) (stepsR cnt (after l)) (.slice ua (M - x) uc) lv' (.int .u64 ((k + 1 : Nat) : Int)) w4) :=
            unpacking_next HK.out HP.out HRB.out hN HE.out HLL.out HRR.out HPR.out hheld4 HB4.out
          clear hheld4 hbel4
          go_wp2_with (refine wp_from rfl (.tmp 65) (.tmp 66) rfl _ _ _ rfl rfl T4.out ?_)
          go_roundw
          case rel => first | exact R2.out | ((repeat apply Exists.intro); exact ⟨R2.out, rfl⟩)
          case measure => simp [intOf]; omega
        · have hpe := part_few hre hrn (by rw [hx]; omega)
          have D2 : Hid (∀ w2, Below w.heap.size w w2 → UnpackDone w l most (.returned (.tuple #[.slice none 0 0, .int .i64 4])) w2) := fun w2 hb => unpackDone_bad ((unpack_far UE.out HE.out (by omega)).trans hpe) (by omega) hb
          have hs1 : ((r.length - rn : Nat) : Int) < (x : Int) := by omega
          have hM : r.length - rn ≤ 200000 := by omega
          clear hE hL hR hheld hbel hrb hbv hkm t1 t2 hre hrn hx hrx0 hrx1 HT hpe hs
          generalize r.length - rn = M at *
          go_wp2_with fail
          refine RR2.out.mono ?_
          rintro e w2 ⟨rfl, hbel2⟩
          have HB2 := hide (HB.out.trans (hbel2.mono HB.out.size))
          clear hbel2
          go_wp2_with (refine wp_from rfl (.tmp 49) (.tmp 50) rfl _ _ _ rfl rfl T2.out ?_)
          go_ret2
          exact D2.out _ HB2.out
      · have hpe := part_unread hre
        have D2 : Hid (∀ w2, Below w.heap.size w w2 → UnpackDone w l most (.returned (.tuple #[.slice none 0 0, .int .i64 (readE r)])) w2) := fun w2 hb => unpackDone_bad ((unpack_far UE.out HE.out (by rw [hpe]; exact hre)).trans hpe) hre hb
        obtain ⟨hb1, hb2⟩ := read_bad r hre
        rw [hb1, hb2] at RR2
        have hpb : (readE r == 0) = false := by simpa using hre
        clear hE hL hR hheld hbel hrb hbv hkm hpe hre hb1 hb2
        generalize readE r = pe at *
        go_wp2_with fail
        refine RR2.out.mono ?_
        rintro e w2 ⟨rfl, hbel2⟩
        have HB2 := hide (HB.out.trans (hbel2.mono HB.out.size))
        clear hbel2
        go_wp2
        go_ret2
        exact D2.out _ HB2.out
    · obtain rfl : m = 0 := by omega
      obtain rfl : k = cnt := by omega
      have hU := unpack_left UE.out hE hR
      have hLL : D = stepsL k (after l) := by rw [← hL]; simp [stepsL]
      by_cases hr0 : r.length = 0
      · have hr1 : r = [] := List.length_eq_zero_iff.1 hr0
        rw [if_pos hr1] at hU
        have D2 := hide (unpackDone_ok hU (by rw [UL.out, ← hLL]; exact HH.out.parts) HB.out)
        clear hE hL hR hheld hbel hrb hbv hkm hLL hU hr1
        rw [hr0]
        clear hr0
        go_wp2
        go_ret2
        exact D2.out
      · have hr1 : ¬ r = [] := fun q => hr0 (by rw [q]; rfl)
        rw [if_neg hr1] at hU
        have D2 := hide (unpackDone_bad hU (by omega) HB.out)
        have hr2 : (0 : Int) < (r.length : Int) := by omega
        clear hE hL hR hheld hbel hrb hbv hkm hLL hU hr1 hr0
        generalize r.length = rn at *
        go_wp2
        go_ret2
        exact D2.out
theorem runpack_any (l : List Int) (v : Value) (most : Int) (w : World) (hv : Bytes w v l) (hl : ∀ z ∈ l, Byte z) (hlen : l.length ≤ 200000) (hm : -9223372036854775808 ≤ most ∧ most ≤ 9223372036854775807) :
    Calls Try.prog 22 #[v, .int .i64 most] w fun e w' => UnpackDone w l most e w' := by
  have R := hide (rread_any l v w hv hl)
  by_cases he : readE l = 0
  · obtain ⟨n, hn, hn1, hn2, _, hvar, hx0, hx1⟩ := read_ok l hl he
    by_cases hs : most < 0 ∨ most < readX l
    · have D : Hid (∀ w', Below w.heap.size w w' → UnpackDone w l most (.returned (.tuple #[.slice none 0 0, .int .i64 5])) w') := fun w' hb => unpackDone_bad (by unfold unpackE; rw [if_pos he, if_pos hs]) (by omega) hb
      obtain ⟨a, cap, rfl, _, _⟩ := hv.form
      rw [hn, he] at R
      clear hn he hvar hv hl
      generalize readX l = x at *
      generalize l.length = m at *
      by_cases h0 : most < 0
      · have hd : decide (most < 0) = true := decide_eq_true h0
        clear hs
        go_enter Try.func22, Try.ntmps22
        go_wp2_with fail
        refine R.out.mono ?_
        rintro e w' ⟨rfl, hbel⟩
        have HB := hide hbel
        clear hbel
        go_wp2
        go_ret2
        exact D.out _ HB.out
      · have h1 : most < x := by omega
        have hd : decide (most < 0) = false := decide_eq_false h0
        have hd1 : decide (most < x) = true := decide_eq_true h1
        clear hs
        go_enter Try.func22, Try.ntmps22
        go_wp2_with fail
        refine R.out.mono ?_
        rintro e w' ⟨rfl, hbel⟩
        have HB := hide hbel
        clear hbel
        go_wp2
        go_ret2
        exact D.out _ HB.out
    · obtain ⟨x, hx⟩ : ∃ x : Nat, readX l = x := ⟨(readX l).toNat, by omega⟩
      obtain ⟨a, cap, rfl, _, _⟩ := hv.form
      exact runpack_loop l a cap n x most w hl hlen he hn hn2 hx (by omega) (by omega) (by omega) hm.2 hv
  · have hU : unpackE l most = readE l := by unfold unpackE; rw [if_neg he]
    have D : Hid (∀ w', Below w.heap.size w w' → UnpackDone w l most (.returned (.tuple #[.slice none 0 0, .int .i64 (readE l)])) w') := fun w' hb => unpackDone_bad hU he hb
    obtain ⟨hb1, hb2⟩ := read_bad l he
    rw [hb1, hb2] at R
    have he' : (readE l == 0) = false := by simpa using he
    obtain ⟨a, cap, rfl, _, _⟩ := hv.form
    clear he hb1 hb2 hU hv hl
    generalize readE l = re at *
    generalize l.length = m at *
    go_enter Try.func22, Try.ntmps22
    go_wp2_with fail
    refine R.out.mono ?_
    rintro e w' ⟨rfl, hbel⟩
    have HB := hide hbel
    clear hbel
    go_wp2
    go_ret2
    exact D.out _ HB.out
end Go.Proofs.Ytkdlpnhpokcbiaa
