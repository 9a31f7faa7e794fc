/-
  What pappusref03.Sum answers at this program: the plain sum.
-/
import Derived.Test.YtbhninaaeeoamaaDoorRefBlk
import Derived.Test.YtbhninaaeeoamaaDoorShaPad
import Derived.Test.YtbhninaaeeoamaaDoorShaEnd
namespace Go.Proofs.YtbhninaaeeoamaaDoor
open Go.RowKit

/-- What holds at the head of a round of the first loop, of the second one, of the third one, of the fourth one. -/
def RDig1 (w : World) (base : Nat) (l : List Int) (v : Value) (wr : World) : Prop :=
  ∃ j : Nat, j ≤ gap l.length ∧ Own wr base v (l ++ tailTo l.length j 0) ∧ Below w.heap.size w wr ∧ base ≤ wr.heap.size ∧ Arr wr w.heap.size 0 .u8 (List.replicate 32 0)
def RDig2 (w : World) (base : Nat) (l : List Int) (v i : Value) (wr : World) : Prop :=
  ∃ k : Nat, k ≤ 8 ∧ i = .int .i64 (7 - (k : Int)) ∧ Own wr base v (l ++ tailTo l.length (gap l.length) k) ∧ Below w.heap.size w wr ∧ base ≤ wr.heap.size ∧ Arr wr w.heap.size 0 .u8 (List.replicate 32 0)
def RDig3 (W : World) (g q : Nat) (P : List Int) (i : Value) (wr : World) : Prop := ∃ k : Nat, k ≤ q ∧ i = .int .i64 ((64 * k : Nat) : Int) ∧ Below W.heap.size W wr ∧ Arr wr g 0 .u32 (blocksI firstI P k)
def RDig4 (W : World) (g : Nat) (Z : List Int) (i : Value) (wr : World) : Prop := ∃ k : Nat, k ≤ 8 ∧ i = .int .i64 k ∧ Below g W wr ∧ Arr wr g 0 .u8 (outs Z k)
theorem RDig4.next {W wr : World} {g : Nat} {Z : List Int} {k : Nat} (hs : Z.length = 8) (hk : k < 8) (hbel : Below g W wr) (hA : Arr wr g 0 .u8 (outs Z k)) :
    RDig4 W g Z (.int .i64 ((k + 1 : Nat) : Int)) ((((wr.setCell ⟨g, 4 * k, none⟩ (.int .u8 (Z.getD k 0 / 16777216 % 256))).setCell ⟨g, 4 * k + 1, none⟩ (.int .u8 (Z.getD k 0 / 65536 % 256))).setCell ⟨g, 4 * k + 2, none⟩ (.int .u8 (Z.getD k 0 / 256 % 256))).setCell ⟨g, 4 * k + 3, none⟩ (.int .u8 (Z.getD k 0 % 256))) := by
  have hl := outs_length Z hs k (by omega)
  refine ⟨k + 1, by omega, rfl, (((hbel.setCell (Nat.le_refl _) _).setCell (Nat.le_refl _) _).setCell (Nat.le_refl _) _).setCell (Nat.le_refl _) _, ?_⟩
  rw [← outs_set Z hs k hk]
  exact (((hA.set0 (4 * k) (by omega) _).set0 (4 * k + 1) (by simp; omega) _).set0 (4 * k + 2) (by simp; omega) _).set0 (4 * k + 3) (by simp; omega) _

set_option maxRecDepth 100000 in
set_option maxHeartbeats 4000000 in
theorem rsum_any (w : World) (v : Value) (l : List Int) (hv : Bytes w v l) (hn : l.length ≤ 5000) :
    Calls Tryd.prog 36 #[v] w fun e w' => e = .returned (.agg (vals .u8 (digest l)).toArray) ∧ Below w.heap.size w w' := by
  have HV := hide hv
  have HN := hide hn
  obtain ⟨a, cap, rfl, hc1, hc2⟩ := hv.form
  obtain ⟨B, hB⟩ : ∃ B : Nat, B = 8 * l.length := ⟨_, rfl⟩
  have hw1 : IntKind.u64.wrap (l.length : Int) = (l.length : Int) := by simp [IntKind.wrap, IntKind.bits, IntKind.signed]; omega
  have hw2 : (l.length : Int) * 8 = (B : Int) := by omega
  have hB0 : (B : Int) ≤ 40000 := by omega
  have HBB := hide hB
  clear hv hn hB
  go_enter Tryd.func36, Tryd.ntmps36
  go_upto_region 1 with fail
  have hbn : Below w.heap.size w (w.alloc (.cells #[.int .u8 0, .int .u8 0, .int .u8 0, .int .u8 0, .int .u8 0, .int .u8 0, .int .u8 0, .int .u8 0, .int .u8 0, .int .u8 0, .int .u8 0, .int .u8 0, .int .u8 0, .int .u8 0, .int .u8 0, .int .u8 0, .int .u8 0, .int .u8 0, .int .u8 0, .int .u8 0, .int .u8 0, .int .u8 0, .int .u8 0, .int .u8 0, .int .u8 0, .int .u8 0, .int .u8 0, .int .u8 0, .int .u8 0, .int .u8 0, .int .u8 0, .int .u8 0] 58)) := (Below.refl _ _).alloc (Nat.le_refl _) _
  have hrn : Arr (w.alloc (.cells #[.int .u8 0, .int .u8 0, .int .u8 0, .int .u8 0, .int .u8 0, .int .u8 0, .int .u8 0, .int .u8 0, .int .u8 0, .int .u8 0, .int .u8 0, .int .u8 0, .int .u8 0, .int .u8 0, .int .u8 0, .int .u8 0, .int .u8 0, .int .u8 0, .int .u8 0, .int .u8 0, .int .u8 0, .int .u8 0, .int .u8 0, .int .u8 0, .int .u8 0, .int .u8 0, .int .u8 0, .int .u8 0, .int .u8 0, .int .u8 0, .int .u8 0, .int .u8 0] 58)) w.heap.size 0 .u8 (List.replicate 32 0) := Arr.new w .u8 (List.replicate 32 0) _
  have hsn : (w.alloc (.cells #[.int .u8 0, .int .u8 0, .int .u8 0, .int .u8 0, .int .u8 0, .int .u8 0, .int .u8 0, .int .u8 0, .int .u8 0, .int .u8 0, .int .u8 0, .int .u8 0, .int .u8 0, .int .u8 0, .int .u8 0, .int .u8 0, .int .u8 0, .int .u8 0, .int .u8 0, .int .u8 0, .int .u8 0, .int .u8 0, .int .u8 0, .int .u8 0, .int .u8 0, .int .u8 0, .int .u8 0, .int .u8 0, .int .u8 0, .int .u8 0, .int .u8 0, .int .u8 0] 58)).heap.size = w.heap.size + 1 := alloc_size _ _
  generalize w.alloc (.cells #[.int .u8 0, .int .u8 0, .int .u8 0, .int .u8 0, .int .u8 0, .int .u8 0, .int .u8 0, .int .u8 0, .int .u8 0, .int .u8 0, .int .u8 0, .int .u8 0, .int .u8 0, .int .u8 0, .int .u8 0, .int .u8 0, .int .u8 0, .int .u8 0, .int .u8 0, .int .u8 0, .int .u8 0, .int .u8 0, .int .u8 0, .int .u8 0, .int .u8 0, .int .u8 0, .int .u8 0, .int .u8 0, .int .u8 0, .int .u8 0, .int .u8 0, .int .u8 0] 58) = w1 at *
  have HB1 := hide hbn
  have HR1 := hide hrn
  have HS1 := hide hsn
  have HV1 := hide (HV.out.below hbn)
  clear hbn hrn hsn
  go_wp2_with (at_builtin; refine wp_append rfl (.tmp 16) (.tmp 17) rfl w1.heap.size _ [] rfl (Own.made w1 _ (Nat.le_refl _)) _ l rfl (HV1.out.alloc _) ?c1 ?c2 ?_)
  case c1 => have := HN.out; simp; omega
  case c2 => rw [alloc_size]; omega
  intro v2 w2 hown2 hbel2
  have HO2 := hide hown2
  have HB2 : Hid (Below w1.heap.size w1 w2) := hide (((Below.refl _ _).alloc (Nat.le_refl _) _).trans hbel2)
  clear hown2 hbel2
  go_wp2_with (at_builtin; refine wp_append rfl (.tmp 18) (.tmp 19) rfl w1.heap.size _ l rfl (HO2.out.alloc _) _ [128] rfl (Bytes.one _ _) ?c3 ?c4 ?_)
  case c3 => have := HN.out; simp; omega
  case c4 => have := HB2.out.size; rw [alloc_size]; omega
  intro v3 w3 hown3 hbel3
  have hB13 : Below w1.heap.size w1 w3 := HB2.out.trans (((Below.refl w1.heap.size w2).alloc HB2.out.size _).trans hbel3)
  have HS : Hid (RDig1 w w1.heap.size l v3 w3) := hide ⟨0, by omega, hown3, below_on HB1.out hB13, hB13.size, HR1.out.on hB13⟩
  have HG : Hid (w.heap.size < w1.heap.size) := hide (by rw [HS1.out]; omega)
  clear hown3 hbel3 HO2 HB2 HV1 HB1 HR1 HS1 hB13
  generalize w1.heap.size = base at *
  go_wp2_with fail
  go_loopw [4] (fun v wr => RDig1 w base l v wr) (fun v _ => 100000 - lenOf v)
  case atStart => exact HS.out
  case round =>
    clear HS
    obtain ⟨j, hj, hown, hB, hbs, hR⟩ := hrel
    obtain ⟨a1, cap1, rfl, hd1, hd2⟩ := hown.bytes.form
    have hlen : (l ++ tailTo l.length j 0).length = l.length + (1 + j) := by rw [List.length_append, tailTo_length _ _ _ (by omega), Nat.add_zero]
    have hg := gap_lt l.length
    have HO := hide hown
    have HB := hide hB
    have HR := hide hR
    rw [hlen] at HO hd1 ⊢
    clear hown hB hR
    by_cases hlt : j < gap l.length
    · have ht : (((l.length + (1 + j) : Nat) : Int) % 64 != 56) = true := by
        have := pad_not l.length j hlt
        simp
        omega
      have HSZ : Hid ((l ++ tailTo l.length j 0).length ≤ 6000) := hide (by have := HN.out; omega)
      obtain ⟨n, hn⟩ : ∃ n, n = l.length + (1 + j) := ⟨_, rfl⟩
      rw [← hn] at ht hd1 HO ⊢
      have HNN := hide hn
      have hn5 : n ≤ 6000 := by have := HN.out; omega
      clear hn hlen
      go_wp2_with (at_builtin; refine wp_append rfl (.tmp 25) (.tmp 26) rfl base _ _ rfl (HO.out.alloc _) _ [0] rfl (Bytes.one _ _) ?c1 ?c2 ?_)
      case c1 => have := HSZ.out; simp only [List.length_singleton]; omega
      case c2 => rw [alloc_size]; omega
      intro v' w' hown' hbel'
      have R : Hid (RDig1 w base l v' w' ∧ lenOf v' = n + 1) := by
        have hb2 := ((Below.refl base wr).alloc hbs (.cells #[.int .u8 0] 5)).trans hbel'
        first | rw [List.append_assoc, tailTo_more] at hown' | rw [tailTo_more] at hown'
        obtain ⟨a', cap', rfl, _⟩ := hown'.bytes.form
        refine hide ⟨⟨j + 1, by omega, hown', HB.out.trans (hb2.mono (Nat.le_of_lt HG.out)), Nat.le_trans hbs hb2.size, HR.out.below hb2 HG.out⟩, ?_⟩
        have := HNN.out
        simp [lenOf, tailTo_length]
        omega
      clear hown' hbel'
      go_wp2
      go_roundw
      case rel => first | exact R.out.1 | ((repeat apply Exists.intro); exact ⟨R.out.1, rfl⟩)
      case measure => rw [R.out.2]; simp [lenOf]; omega
    · obtain rfl : j = gap l.length := by omega
      have ht : (((l.length + (1 + gap l.length) : Nat) : Int) % 64 != 56) = false := by
        have := pad_end l.length
        simp
        omega
      obtain ⟨n, hn⟩ : ∃ n, n = l.length + (1 + gap l.length) := ⟨_, rfl⟩
      rw [← hn] at ht hd1 HO ⊢
      have hn5 : n ≤ 6000 := by have := HN.out; omega
      have HE2 : Hid (RDig2 w base l (.slice a1 n cap1) (.int .i64 7) wr) := hide ⟨0, by omega, rfl, HO.out, HB.out, hbs, HR.out⟩
      clear hn hlen hlt hj hg HO HB HR hbs
      go_wp2
      go_loopw [4, 5] (fun v i wr => RDig2 w base l v i wr) (fun _ i _ => (intOf i + 1).toNat)
      case atStart => exact HE2.out
      case round =>
        clear HE2 ht hn5 hd1 hd2 hB0 hw1 hw2
        obtain ⟨k, hk, rfl, hown, hB, hbs, hR⟩ := hrel
        have HO := hide hown
        have HB := hide hB
        have HR := hide hR
        clear hown hB hR
        by_cases hlt : k < 8
        · have R := hide (fun v' w' (hown' : Own w' base v' (l ++ tailTo l.length (gap l.length) k ++ [(countI (8 * l.length)).getD k 0])) (hb2 : Below base wr w') => show RDig2 w base l v' (.int .i64 (7 - ((k + 1 : Nat) : Int))) w' from by
            rw [List.append_assoc, tailTo_count _ _ _ hlt] at hown'
            exact ⟨k + 1, by omega, rfl, hown', HB.out.trans (hb2.mono (Nat.le_of_lt HG.out)), Nat.le_trans hbs hb2.size, HR.out.below hb2 HG.out⟩)
          have HSZ : Hid ((l ++ tailTo l.length (gap l.length) k).length ≤ 6000) := hide (by rw [List.length_append, tailTo_length _ _ _ hk]; have := gap_lt l.length; have := HN.out; omega)
          obtain ⟨a2, cap2, rfl, hf1, hf2⟩ := HO.out.bytes.form
          generalize l ++ tailTo l.length (gap l.length) k = T at *
          have hbits : (8 * (l.length : Int)) = (B : Int) := by have := HBB.out; omega
          rw [hbits] at R
          clear hbits
          rcases (show k = 0 ∨ k = 1 ∨ k = 2 ∨ k = 3 ∨ k = 4 ∨ k = 5 ∨ k = 6 ∨ k = 7 by omega) with rfl | rfl | rfl | rfl | rfl | rfl | rfl | rfl
          all_goals
            first
              | (have e : (7 - ((0 : Nat) : Int)) = 7 := rfl; rw [e]; have e2 : (7 - ((0 + 1 : Nat) : Int)) = 6 := rfl; rw [e2] at R; clear e e2)
              | (have e : (7 - ((1 : Nat) : Int)) = 6 := rfl; rw [e]; have e2 : (7 - ((1 + 1 : Nat) : Int)) = 5 := rfl; rw [e2] at R; clear e e2)
              | (have e : (7 - ((2 : Nat) : Int)) = 5 := rfl; rw [e]; have e2 : (7 - ((2 + 1 : Nat) : Int)) = 4 := rfl; rw [e2] at R; clear e e2)
              | (have e : (7 - ((3 : Nat) : Int)) = 4 := rfl; rw [e]; have e2 : (7 - ((3 + 1 : Nat) : Int)) = 3 := rfl; rw [e2] at R; clear e e2)
              | (have e : (7 - ((4 : Nat) : Int)) = 3 := rfl; rw [e]; have e2 : (7 - ((4 + 1 : Nat) : Int)) = 2 := rfl; rw [e2] at R; clear e e2)
              | (have e : (7 - ((5 : Nat) : Int)) = 2 := rfl; rw [e]; have e2 : (7 - ((5 + 1 : Nat) : Int)) = 1 := rfl; rw [e2] at R; clear e e2)
              | (have e : (7 - ((6 : Nat) : Int)) = 1 := rfl; rw [e]; have e2 : (7 - ((6 + 1 : Nat) : Int)) = 0 := rfl; rw [e2] at R; clear e e2)
              | (have e : (7 - ((7 : Nat) : Int)) = 0 := rfl; rw [e]; have e2 : (7 - ((7 + 1 : Nat) : Int)) = -1 := rfl; rw [e2] at R; clear e e2)
            go_wp2_with (at_builtin; refine wp_append rfl (.tmp 32) (.tmp 39) rfl base _ _ rfl (HO.out.alloc _) _ _ rfl (Bytes.one _ _) ?c1 ?c2 ?_)
            case c1 => have := HSZ.out; simp; omega
            case c2 => rw [alloc_size]; omega
            intro v' w' hown' hbel'
            have RR := hide (R.out v' w' hown' (((Below.refl base wr).alloc hbs _).trans hbel'))
            clear hown' hbel'
            go_wp2
            go_roundw
            case rel => first | exact RR.out | ((repeat apply Exists.intro); exact ⟨RR.out, rfl⟩)
            case measure => simp [intOf]
        · obtain rfl : k = 8 := by omega
          rw [show l ++ tailTo l.length (gap l.length) 8 = l ++ tailI l.length from by rw [tailTo_all]] at HO
          obtain ⟨q, hq⟩ := padded_whole l.length
          have hPl : (l ++ tailI l.length).length = 64 * (q + 1) := by rw [List.length_append]; exact hq
          have HQ : Hid (q ≤ 100) := hide (by have := HN.out; have h1 : (tailI l.length).length = 1 + gap l.length + 8 := tailTo_length _ (gap l.length) 8 (by omega); have := gap_lt l.length; omega)
          have HDG : Hid ((blocksI firstI (l ++ tailI l.length) (q + 1)).flatMap outI = digest l) := hide (by rw [digest, stateOf, hPl, show 64 * (q + 1) / 64 = q + 1 by omega])
          have HBN := hide (fun n => blocksI_length firstI (l ++ tailI l.length) rfl n)
          have HP := hide HO.out.bytes
          obtain ⟨ap, capp, rfl, hp1, hp2⟩ := HP.out.form
          rw [hPl] at HP hp1 ⊢
          have HPL := hide hPl
          have e8 : (7 - ((8 : Nat) : Int)) = -1 := rfl
          rw [e8]
          clear hq hPl e8 HO hlt hk hbs
          generalize l ++ tailI l.length = P at *
          go_wp2_with fail
          refine (rfirst_any _).mono ?_
          rintro e w4 ⟨rfl, hbel4⟩
          have HT4 : Hid ((w4.alloc (.cells #[.int .u32 0, .int .u32 0, .int .u32 0, .int .u32 0, .int .u32 0, .int .u32 0, .int .u32 0, .int .u32 0] 74)).there w4.heap.size 0 8) := hide (Arr.new w4 .u32 (List.replicate 8 0) 74).2
          have HA4 : Hid (Arr ((w4.alloc (.cells #[.int .u32 0, .int .u32 0, .int .u32 0, .int .u32 0, .int .u32 0, .int .u32 0, .int .u32 0, .int .u32 0] 74)).setCells w4.heap.size 0 (vals .u32 firstI)) w4.heap.size 0 .u32 firstI) := hide (Arr.put HT4.out)
          have HB4 : Hid (Below wr.heap.size wr ((w4.alloc (.cells #[.int .u32 0, .int .u32 0, .int .u32 0, .int .u32 0, .int .u32 0, .int .u32 0, .int .u32 0, .int .u32 0] 74)).setCells w4.heap.size 0 (vals .u32 firstI))) := hide (below_sets hbel4.size _ _ _ (hbel4.alloc hbel4.size _))
          have HGS : Hid (wr.heap.size ≤ w4.heap.size) := hide hbel4.size
          clear hbel4
          go_wp2_with (refine wp_store_arr rfl 74 (.tmp 6) (.tmp 41) rfl _ 0 .u32 firstI rfl rfl 8 HT4.out info_s rfl ?_)
          generalize (w4.alloc (.cells #[.int .u32 0, .int .u32 0, .int .u32 0, .int .u32 0, .int .u32 0, .int .u32 0, .int .u32 0, .int .u32 0] 74)).setCells w4.heap.size 0 (vals .u32 firstI) = W5 at *
          have HS : Hid (RDig3 wr w4.heap.size (q + 1) P (.int .i64 0) W5) := hide ⟨0, by omega, rfl, HB4.out, HA4.out⟩
          clear HT4 HA4 HB4
          generalize w4.heap.size = gs at *
          obtain ⟨Wp, hWp⟩ : ∃ Wp, Wp = wr := ⟨_, rfl⟩
          subst hWp
          go_loopw [7] (fun i wx => RDig3 Wp gs (q + 1) P i wx) (fun i _ => 64 * (q + 1) - (intOf i).toNat)
          case atStart => exact HS.out
          case round =>
            clear HS
            obtain ⟨k, hkq, rfl, hB, hA⟩ := hrel
            by_cases hlt : k < q + 1
            · obtain ⟨i, hi⟩ : ∃ i, i = 64 * k := ⟨_, rfl⟩
              obtain ⟨i2, hi2⟩ : ∃ i2, i2 = i + 64 := ⟨_, rfl⟩
              obtain ⟨a1, c1, ht1, ht2⟩ := mid_of ap (64 * (q + 1)) capp i i2 hi2 (by omega) hp1
              have T1 := ht1
              have SL := fun b wx => slice_all64 b wx
              have hb64 : IntKind.i64.wrap ((i : Int) + 64) = (i2 : Int) := wrap_small (by omega) (by have := HQ.out; omega)
              have HI2 := hide hi2
              clear hi2
              have hr := ht2 Wp P HP.out
              have hrl : ((P.drop i).take 64).length = 64 := by have := HPL.out; simp; omega
              have HRR := hide (hr.below hB)
              have HRL := hide hrl
              have BL := hide (fun wx => rblock_any (blocksI firstI P k) ((P.drop i).take 64) wx (HBN.out k) hrl)
              rw [hi] at BL
              have BL : Hid (∀ wx, Calls Tryd.prog 44 #[.agg (vals .u32 (blocksI firstI P k)).toArray, .agg (vals .u8 ((P.drop (64 * k)).take 64)).toArray] wx fun e w' => e = .returned (.agg (vals .u32 (blocksI firstI P (k + 1))).toArray) ∧ Below wx.heap.size wx w') := BL
              rw [← hi] at BL ⊢
              have HBL3 := hide hB
              have HA := hide hA
              have HI := hide hi
              have hilt : (i : Int) < ((64 * (q + 1) : Nat) : Int) := by omega
              have hiq : (i : Int) ≤ 10000 := by have := HQ.out; omega
              clear ht1 ht2 hr hrl hB hA hi
              generalize hr0 : (P.drop i).take 64 = r at *
              have hr1 : r.take (min r.length 64) = r := by rw [HRL.out]; exact List.take_of_length_le (by rw [HRL.out]; omega)
              have HR1 := hide hr1.symm
              clear hr1 hr0
              generalize hqn : 64 * (q + 1) = nn at *
              clear hqn
              go_wp2
              have HW6 : Hid (Below wr.heap.size wr (wr.alloc (.cells #[.int .u8 0, .int .u8 0, .int .u8 0, .int .u8 0, .int .u8 0, .int .u8 0, .int .u8 0, .int .u8 0, .int .u8 0, .int .u8 0, .int .u8 0, .int .u8 0, .int .u8 0, .int .u8 0, .int .u8 0, .int .u8 0, .int .u8 0, .int .u8 0, .int .u8 0, .int .u8 0, .int .u8 0, .int .u8 0, .int .u8 0, .int .u8 0, .int .u8 0, .int .u8 0, .int .u8 0, .int .u8 0, .int .u8 0, .int .u8 0, .int .u8 0, .int .u8 0, .int .u8 0, .int .u8 0, .int .u8 0, .int .u8 0, .int .u8 0, .int .u8 0, .int .u8 0, .int .u8 0, .int .u8 0, .int .u8 0, .int .u8 0, .int .u8 0, .int .u8 0, .int .u8 0, .int .u8 0, .int .u8 0, .int .u8 0, .int .u8 0, .int .u8 0, .int .u8 0, .int .u8 0, .int .u8 0, .int .u8 0, .int .u8 0, .int .u8 0, .int .u8 0, .int .u8 0, .int .u8 0, .int .u8 0, .int .u8 0, .int .u8 0, .int .u8 0] 76)) ∧ (wr.alloc (.cells #[.int .u8 0, .int .u8 0, .int .u8 0, .int .u8 0, .int .u8 0, .int .u8 0, .int .u8 0, .int .u8 0, .int .u8 0, .int .u8 0, .int .u8 0, .int .u8 0, .int .u8 0, .int .u8 0, .int .u8 0, .int .u8 0, .int .u8 0, .int .u8 0, .int .u8 0, .int .u8 0, .int .u8 0, .int .u8 0, .int .u8 0, .int .u8 0, .int .u8 0, .int .u8 0, .int .u8 0, .int .u8 0, .int .u8 0, .int .u8 0, .int .u8 0, .int .u8 0, .int .u8 0, .int .u8 0, .int .u8 0, .int .u8 0, .int .u8 0, .int .u8 0, .int .u8 0, .int .u8 0, .int .u8 0, .int .u8 0, .int .u8 0, .int .u8 0, .int .u8 0, .int .u8 0, .int .u8 0, .int .u8 0, .int .u8 0, .int .u8 0, .int .u8 0, .int .u8 0, .int .u8 0, .int .u8 0, .int .u8 0, .int .u8 0, .int .u8 0, .int .u8 0, .int .u8 0, .int .u8 0, .int .u8 0, .int .u8 0, .int .u8 0, .int .u8 0] 76)).there wr.heap.size 0 64) := hide ⟨(Below.refl _ _).alloc (Nat.le_refl _) _, (Arr.new wr .u8 (List.replicate 64 0) 76).2⟩
              generalize wr.alloc (.cells #[.int .u8 0, .int .u8 0, .int .u8 0, .int .u8 0, .int .u8 0, .int .u8 0, .int .u8 0, .int .u8 0, .int .u8 0, .int .u8 0, .int .u8 0, .int .u8 0, .int .u8 0, .int .u8 0, .int .u8 0, .int .u8 0, .int .u8 0, .int .u8 0, .int .u8 0, .int .u8 0, .int .u8 0, .int .u8 0, .int .u8 0, .int .u8 0, .int .u8 0, .int .u8 0, .int .u8 0, .int .u8 0, .int .u8 0, .int .u8 0, .int .u8 0, .int .u8 0, .int .u8 0, .int .u8 0, .int .u8 0, .int .u8 0, .int .u8 0, .int .u8 0, .int .u8 0, .int .u8 0, .int .u8 0, .int .u8 0, .int .u8 0, .int .u8 0, .int .u8 0, .int .u8 0, .int .u8 0, .int .u8 0, .int .u8 0, .int .u8 0, .int .u8 0, .int .u8 0, .int .u8 0, .int .u8 0, .int .u8 0, .int .u8 0, .int .u8 0, .int .u8 0, .int .u8 0, .int .u8 0, .int .u8 0, .int .u8 0, .int .u8 0, .int .u8 0] 76) = W6 at *
              have HGX : Hid (gs < wr.heap.size) := hide (HA.out.lt (by rw [HBN.out]; omega))
              have HGW : Hid (Wp.heap.size ≤ wr.heap.size) := hide HBL3.out.size
              have HR6 := hide (HRR.out.below HW6.out.1)
              have hrpos : 0 < r.length := by rw [HRL.out]; omega
              generalize wr.heap.size = gx at *
              go_region_held3 (fun wx => wx.there gx 0 64) (with_reducible (first | exact World.there_setCells (w := W6.drew) ((World.there_drew W6 gx 0 64).2 HW6.out.2) _ _ _ | exact (World.there_drew W6 gx 0 64).2 HW6.out.2 | fail))
                ((refine step_copy rfl (.tmp 48) (.tmp 53) rfl gx 0 64 64 rfl _ r rfl HR6.out.drew hrpos r HR1.out HW6.out.2 ?_))
              have HX7 : Hid (Arr (W6.drew.setCells gx 0 (vals .u8 r)) gx 0 .u8 r) := hide (Arr.put (by rw [HRL.out]; exact HW6.out.2))
              have HB7 : Hid (Below Wp.heap.size Wp (W6.drew.setCells gx 0 (vals .u8 r))) := hide (below_sets HGW.out _ _ _ (HBL3.out.trans (HW6.out.1.mono HGW.out)).drew)
              have HA7 : Hid (Arr (W6.drew.setCells gx 0 (vals .u8 r)) gs 0 .u32 (blocksI firstI P k)) := hide ((HA.out.below HW6.out.1 HGX.out).drew.apart _ _ _ (Or.inl (by have := HGX.out; omega)))
              generalize W6.drew.setCells gx 0 (vals .u8 r) = W7 at *
              go_wp2_with (first | (refine wp_load_arr rfl 74 (.tmp 6) rfl _ 0 rfl .u32 _ HA7.out _ Tryd.underlying74 rfl 8 info_s (HBN.out k) ?_) | (refine wp_load_arr rfl 76 (.tmp 8) rfl _ 0 rfl .u8 _ HX7.out _ Tryd.underlying76 rfl 64 info_b HRL.out ?_))
              refine (BL.out _).mono ?_
              rintro e w8 ⟨rfl, hbel8⟩
              have HT8 : Hid (w8.there gs 0 8) := hide (by have := (HA7.out.on hbel8).2; rwa [HBN.out] at this)
              have HB8 := hide (below_on HB7.out hbel8)
              clear hbel8
              go_wp2_with (refine wp_store_arr rfl 74 (.tmp 6) (.tmp 57) rfl _ 0 .u32 (blocksI firstI P (k + 1)) rfl rfl 8 HT8.out info_s (HBN.out (k + 1)) ?_)
              have RR : Hid (RDig3 Wp gs (q + 1) P (.int .i64 (i2 : Int)) (w8.setCells gs 0 (vals .u32 (blocksI firstI P (k + 1))))) := by
                refine hide ⟨k + 1, by omega, ?_, below_sets HGS.out _ _ _ HB8.out, Arr.put (by rw [HBN.out]; exact HT8.out)⟩
                have := HI.out
                have := HI2.out
                congr 1
                omega
              go_roundw
              case rel => first | exact RR.out | ((repeat apply Exists.intro); exact ⟨RR.out, rfl⟩)
              case measure => have := HI2.out; simp [intOf]; omega
            · obtain rfl : k = q + 1 := by omega
              have HA := hide hA
              have HB9 := hide (below_on HB.out hB)
              have HR9 := hide (HR.out.on hB)
              clear hA hB hlt hkq
              generalize 64 * (q + 1) = nn at *
              have hbn : Below wr.heap.size wr (wr.alloc (.cells #[.int .u8 0, .int .u8 0, .int .u8 0, .int .u8 0, .int .u8 0, .int .u8 0, .int .u8 0, .int .u8 0, .int .u8 0, .int .u8 0, .int .u8 0, .int .u8 0, .int .u8 0, .int .u8 0, .int .u8 0, .int .u8 0, .int .u8 0, .int .u8 0, .int .u8 0, .int .u8 0, .int .u8 0, .int .u8 0, .int .u8 0, .int .u8 0, .int .u8 0, .int .u8 0, .int .u8 0, .int .u8 0, .int .u8 0, .int .u8 0, .int .u8 0, .int .u8 0] 58)) := (Below.refl _ _).alloc (Nat.le_refl _) _
              have hrn : Arr (wr.alloc (.cells #[.int .u8 0, .int .u8 0, .int .u8 0, .int .u8 0, .int .u8 0, .int .u8 0, .int .u8 0, .int .u8 0, .int .u8 0, .int .u8 0, .int .u8 0, .int .u8 0, .int .u8 0, .int .u8 0, .int .u8 0, .int .u8 0, .int .u8 0, .int .u8 0, .int .u8 0, .int .u8 0, .int .u8 0, .int .u8 0, .int .u8 0, .int .u8 0, .int .u8 0, .int .u8 0, .int .u8 0, .int .u8 0, .int .u8 0, .int .u8 0, .int .u8 0, .int .u8 0] 58)) wr.heap.size 0 .u8 (List.replicate 32 0) := Arr.new wr .u8 (List.replicate 32 0) _
              go_upto_region 17 with fail
              generalize wr.alloc (.cells #[.int .u8 0, .int .u8 0, .int .u8 0, .int .u8 0, .int .u8 0, .int .u8 0, .int .u8 0, .int .u8 0, .int .u8 0, .int .u8 0, .int .u8 0, .int .u8 0, .int .u8 0, .int .u8 0, .int .u8 0, .int .u8 0, .int .u8 0, .int .u8 0, .int .u8 0, .int .u8 0, .int .u8 0, .int .u8 0, .int .u8 0, .int .u8 0, .int .u8 0, .int .u8 0, .int .u8 0, .int .u8 0, .int .u8 0, .int .u8 0, .int .u8 0, .int .u8 0] 58) = W at *
              have HAW := hide (HA.out.on hbn)
              have HBW := hide (below_on HB9.out hbn)
              have HRW := hide (HR9.out.on hbn)
              have HGG : Hid (w.heap.size < wr.heap.size) := hide (HR9.out.lt (by simp))
              have HS4 : Hid (RDig4 W wr.heap.size (blocksI firstI P (q + 1)) (.int .i64 0) W) := hide ⟨0, by omega, rfl, Below.refl _ _, by rw [outs_zero]; exact hrn⟩
              have IX := hide (fun k hk w => index_arr (blocksI firstI P (q + 1)) (HBN.out (q + 1)) k hk w)
              have HBL4 := hide (HBN.out (q + 1))
              clear hbn hrn HA HB9 HR9
              generalize wr.heap.size = gh at *
              go_wp2_with (refine wp_load_arr rfl 74 (.tmp 6) rfl _ 0 rfl .u32 (blocksI firstI P (q + 1)) HAW.out _ Tryd.underlying74 rfl 8 info_s HBL4.out ?_)
              generalize blocksI firstI P (q + 1) = Z at *
              go_loopw [59] (fun i wx => RDig4 W gh Z i wx) (fun i _ => 8 - (intOf i).toNat)
              case atStart => exact HS4.out
              case round =>
                clear HS4
                obtain ⟨k, hk, rfl, hbel, hA⟩ := hrel
                by_cases hlt : k < 8
                · have R := hide (RDig4.next HBL4.out hlt hbel hA)
                  have ix := fun wx => IX.out k hlt wx
                  have hl := outs_length Z HBL4.out k (by omega)
                  have c0 := hA.cell0 (4 * k) (by omega)
                  have c1 := hA.cell0 (4 * k + 1) (by omega)
                  have c2 := hA.cell0 (4 * k + 2) (by omega)
                  have c3 := hA.cell0 (4 * k + 3) (by omega)
                  have f0 := hA.free0 (4 * k) (by omega)
                  have f1 := hA.free0 (4 * k + 1) (by omega)
                  have f2 := hA.free0 (4 * k + 2) (by omega)
                  have f3 := hA.free0 (4 * k + 3) (by omega)
                  clear hbel hA hl
                  generalize Z.getD k 0 = x at *
                  generalize (outs Z k).getD (4 * k) 0 = y0 at *
                  generalize (outs Z k).getD (4 * k + 1) 0 = y1 at *
                  generalize (outs Z k).getD (4 * k + 2) 0 = y2 at *
                  generalize (outs Z k).getD (4 * k + 3) 0 = y3 at *
                  go_wp2
                  go_roundw
                  case rel => first | exact R.out | ((repeat apply Exists.intro); exact ⟨R.out, rfl⟩)
                  case measure => simp [intOf]; omega
                · obtain rfl : k = 8 := by omega
                  rw [outs_all Z HBL4.out, HDG.out] at hA
                  have HA := hide hA
                  have HRE : Hid (wr.there w.heap.size 0 32) := hide (by simpa using (HRW.out.below hbel HGG.out).2)
                  have HBE := hide (HBW.out.trans (hbel.mono (Nat.le_of_lt HGG.out)))
                  have HDL : Hid ((digest l).length = 32) := hide (by rw [← HDG.out, flat_length, HBL4.out])
                  clear hbel hA hlt hk
                  generalize hDD : digest l = DD at *
                  have HDD := hide hDD
                  clear hDD
                  go_wp2_with (first | (refine wp_load_arr rfl 58 (.tmp 9) rfl _ 0 rfl .u8 DD HA.out _ Tryd.underlying58 rfl 32 info_h HDL.out ?_) | (refine wp_store_arr rfl 58 (.tmp 2) (.tmp 90) rfl _ 0 .u8 DD rfl rfl 32 HRE.out info_h HDL.out ?_))
                  refine ret_arr 2 58 rfl _ 0 rfl .u8 DD (Arr.put (by rw [HDL.out]; exact HRE.out)) _ Tryd.underlying58 rfl 32 info_h HDL.out rfl ⟨by rw [HDD.out], below_sets (Nat.le_refl _) _ _ _ HBE.out⟩

end Go.Proofs.YtbhninaaeeoamaaDoor
