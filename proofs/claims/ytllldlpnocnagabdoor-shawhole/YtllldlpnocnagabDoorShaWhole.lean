/-
  ShaWhole: of whatever bytes, those padded as the document says, taken in block by block from the first state on, are the sum: the call returns true, and the bytes read as before.
-/
import Derived.Test.YtllldlpnocnagabDoorShaLaw
import Derived.Test.YtllldlpnocnagabDoorShaPad
namespace Go.Proofs.YtllldlpnocnagabDoor
open Go.ChangeShapes Go.WideShapes Go.ChangeAt Go.RowKit

/-- What holds at the head of a round of the first loop, of the second one, of the third one. -/
def Whole1 (w : World) (base : Nat) (l : List Int) (v : Value) (wr : World) : Prop := ∃ j : Nat, j ≤ gap l.length ∧ Own wr base v (l ++ tailTo l.length j 0) ∧ Below w.heap.size w wr ∧ base ≤ wr.heap.size
def Whole2 (W : World) (g q : Nat) (P : List Int) (i : Value) (wr : World) : Prop := ∃ k : Nat, k ≤ q ∧ i = .int .i64 ((64 * k : Nat) : Int) ∧ Below W.heap.size W wr ∧ Arr wr g 0 .u32 (blocksI firstI P k)
def Whole3 (W : World) (i : Value) (wr : World) : Prop := ∃ k : Nat, k ≤ 8 ∧ i = .int .i64 k ∧ Below W.heap.size W wr

set_option maxRecDepth 100000 in
set_option maxHeartbeats 2000000 in
theorem shaWhole_walk {w : World} (hk : Ks w) (v : Value) (l : List Int) (_ : ∀ z ∈ l, Byte z) (hv : Bytes w v l) :
    Calls Tryd.prog 3 #[v] w fun e w' => e = .returned (.bool true) ∧ Below w.heap.size w w' := by
  have HK := hide hk
  have HV := hide hv
  have A := hide (alive_any w hk)
  obtain ⟨a, cap, rfl, hc1, hc2⟩ := hv.form
  clear hk hv
  by_cases hbig : 4000 < l.length
  · have hb : (4000 : Int) < (l.length : Int) := by omega
    clear hbig
    go_enter Tryd.func3, Tryd.ntmps3
    go_wp2_with fail
    refine A.out.mono ?_
    rintro e w1 ⟨rfl, hbel1⟩
    have HB1 := hide hbel1
    clear hbel1
    go_wp2
    go_ret
    exact ⟨rfl, HB1.out⟩
  have hb : (l.length : Int) ≤ 4000 := by omega
  have HN : Hid (l.length ≤ 4000) := hide (by omega)
  clear hbig
  go_enter Tryd.func3, Tryd.ntmps3
  go_wp2_with fail
  refine A.out.mono ?_
  rintro e w1 ⟨rfl, hbel1⟩
  have HB1 := hide hbel1
  have HV1 := hide (HV.out.below hbel1)
  clear hbel1 A
  go_wp2_with (at_builtin; refine wp_append rfl (.tmp 16) (.tmp 17) rfl w1.heap.size _ [] rfl (Own.made w1 _ (Nat.le_refl _)) _ l rfl (HV1.out.alloc _) ?c1 ?c2 ?_)
  case c1 => have := HN.out; simp; omega
  case c2 => rw [alloc_size]; omega
  intro v2 w2 hown2 hbel2
  have HO2 := hide hown2
  have HB2 : Hid (Below w1.heap.size w1 w2) := hide (((Below.refl _ _).alloc (Nat.le_refl _) _).trans hbel2)
  clear hown2 hbel2
  go_wp2_with (at_builtin; refine wp_append rfl (.tmp 18) (.tmp 19) rfl w1.heap.size _ l rfl (HO2.out.alloc _) _ [128] rfl (Bytes.one _ _) ?c3 ?c4 ?_)
  case c3 => have := HN.out; simp; omega
  case c4 => have := HB2.out.size; rw [alloc_size]; omega
  intro v3 w3 hown3 hbel3
  have HS : Hid (Whole1 w w1.heap.size l v3 w3) := hide ⟨0, by omega, hown3, (HB1.out.trans (HB2.out.mono HB1.out.size)).trans ((((Below.refl w1.heap.size w2).alloc HB2.out.size _).trans hbel3).mono HB1.out.size), Nat.le_trans HB2.out.size ((((Below.refl w1.heap.size w2).alloc HB2.out.size _).trans hbel3).size)⟩
  have HG : Hid (w.heap.size ≤ w1.heap.size) := hide HB1.out.size
  clear hown3 hbel3 HO2 HB2 HV1 HB1
  generalize w1.heap.size = base at *
  go_wp2_with fail
  go_loopw [3] (fun v wr => Whole1 w base l v wr) (fun v _ => 100000 - lenOf v)
  case atStart => exact HS.out
  case round =>
    clear HS
    obtain ⟨j, hj, hown, hB, hbs⟩ := hrel
    obtain ⟨a1, cap1, rfl, hd1, hd2⟩ := hown.bytes.form
    have hlen : (l ++ tailTo l.length j 0).length = l.length + (1 + j) := by rw [List.length_append, tailTo_length _ _ _ (by omega), Nat.add_zero]
    have hg := gap_lt l.length
    have HO := hide hown
    have HB := hide hB
    rw [hlen] at HO hd1 ⊢
    clear hown hB
    by_cases hlt : j < gap l.length
    · have ht : (((l.length + (1 + j) : Nat) : Int) % 64 != 56) = true := by
        have := pad_not l.length j hlt
        simp
        omega
      have HSZ : Hid ((l ++ tailTo l.length j 0).length ≤ 5000) := hide (by have := HN.out; omega)
      obtain ⟨n, hn⟩ : ∃ n, n = l.length + (1 + j) := ⟨_, rfl⟩
      rw [← hn] at ht hd1 HO ⊢
      have HNN := hide hn
      have hn5 : n ≤ 5000 := by have := HN.out; omega
      clear hn hlen
      go_wp2_with (at_builtin; refine wp_append rfl (.tmp 25) (.tmp 26) rfl base _ _ rfl (HO.out.alloc _) _ [0] rfl (Bytes.one _ _) ?c1 ?c2 ?_)
      case c1 => have := HSZ.out; simp only [List.length_singleton]; omega
      case c2 => rw [alloc_size]; omega
      intro v' w' hown' hbel'
      have R : Hid (Whole1 w base l v' w' ∧ lenOf v' = n + 1) := by
        have hb2 := ((Below.refl base wr).alloc hbs (.cells #[.int .u8 0] 5)).trans hbel'
        first | rw [List.append_assoc, tailTo_more] at hown' | rw [tailTo_more] at hown'
        obtain ⟨a', cap', rfl, _⟩ := hown'.bytes.form
        refine hide ⟨⟨j + 1, by omega, hown', HB.out.trans (hb2.mono HG.out), Nat.le_trans hbs hb2.size⟩, ?_⟩
        have := HNN.out
        simp [lenOf, tailTo_length]
        omega
      clear hown' hbel'
      go_wp2
      go_roundw
      case rel => first | exact R.out.1 | ((repeat apply Exists.intro); exact ⟨R.out.1, rfl⟩)
      case measure => rw [R.out.2]; simp [lenOf]; omega
    · obtain rfl : j = gap l.length := by omega
      have ht : (((l.length + (1 + gap l.length) : Nat) : Int) % 64 != 56) = false := by
        have := pad_end l.length
        simp
        omega
      have HSZ : Hid ((l ++ tailTo l.length (gap l.length) 0).length ≤ 5000) := hide (by have := HN.out; omega)
      obtain ⟨n, hn⟩ : ∃ n, n = l.length + (1 + gap l.length) := ⟨_, rfl⟩
      rw [← hn] at ht hd1 HO ⊢
      have hn5 : n ≤ 5000 := by have := HN.out; omega
      clear hn hlen hlt hj hg
      go_wp2_with (at_builtin; refine wp_append rfl (.tmp 31) (.tmp 40) rfl base _ _ rfl (HO.out.alloc _) _ (countI (8 * l.length)) rfl ?c0 ?c1 ?c2 ?_)
      case c0 => rw [count_small _ HN.out]; exact Bytes.made _ _ _ 8 rfl (by omega) rfl
      case c1 => have := HSZ.out; simp only [countI, List.length_cons, List.length_nil]; omega
      case c2 => rw [alloc_size]; omega
      intro vp Wp hownp hbelp
      have hP : tailTo l.length (gap l.length) 0 ++ countI (8 * l.length) = tailI l.length := by rw [tailTo_zero]; rfl
      first | rw [List.append_assoc, hP] at hownp | rw [hP] at hownp
      have HBP : Hid (Below w.heap.size w Wp) := hide (HB.out.trans ((((Below.refl base wr).alloc hbs _).trans hbelp).mono HG.out))
      have HP := hide hownp.bytes
      clear hP hownp hbelp HO HB hbs hd1 hd2 ht hn5 HSZ
      obtain ⟨q, hq⟩ := padded_whole l.length
      have hPl : (l ++ tailI l.length).length = 64 * (q + 1) := by rw [List.length_append]; exact hq
      have HQ : Hid (q ≤ 100) := hide (by have := HN.out; have h1 : (tailI l.length).length = 1 + gap l.length + 8 := tailTo_length _ (gap l.length) 8 (by omega); have := gap_lt l.length; omega)
      have HDG : Hid ((blocksI firstI (l ++ tailI l.length) (q + 1)).flatMap outI = digest l) := hide (by rw [digest, stateOf, hPl, show 64 * (q + 1) / 64 = q + 1 by omega])
      have HRG := hide (fun k hk => blocks_range firstI (l ++ tailI l.length) q k rfl hk)
      have HBN := hide (fun n => blocksI_length firstI (l ++ tailI l.length) rfl n)
      obtain ⟨ap, capp, rfl, hp1, hp2⟩ := HP.out.form
      rw [hPl] at HP hp1 ⊢
      have HPL := hide hPl
      clear hq hPl
      generalize l ++ tailI l.length = P at *
      go_wp2_with fail
      refine (rfirst_any _).mono ?_
      rintro e w4 ⟨rfl, hbel4⟩
      have HT4 : Hid ((w4.alloc (.cells #[.int .u32 0, .int .u32 0, .int .u32 0, .int .u32 0, .int .u32 0, .int .u32 0, .int .u32 0, .int .u32 0] 26)).there w4.heap.size 0 8) := hide (Arr.new w4 .u32 (List.replicate 8 0) 26).2
      have HA4 : Hid (Arr ((w4.alloc (.cells #[.int .u32 0, .int .u32 0, .int .u32 0, .int .u32 0, .int .u32 0, .int .u32 0, .int .u32 0, .int .u32 0] 26)).setCells w4.heap.size 0 (vals .u32 firstI)) w4.heap.size 0 .u32 firstI) := hide (Arr.put HT4.out)
      have HB4 : Hid (Below Wp.heap.size Wp ((w4.alloc (.cells #[.int .u32 0, .int .u32 0, .int .u32 0, .int .u32 0, .int .u32 0, .int .u32 0, .int .u32 0, .int .u32 0] 26)).setCells w4.heap.size 0 (vals .u32 firstI))) := hide (below_sets hbel4.size _ _ _ (hbel4.alloc hbel4.size _))
      have HGS : Hid (Wp.heap.size ≤ w4.heap.size) := hide hbel4.size
      clear hbel4
      go_wp2_with (refine wp_store_arr rfl 26 (.tmp 5) (.tmp 42) rfl _ 0 .u32 firstI rfl rfl 8 HT4.out info_s rfl ?_)
      generalize (w4.alloc (.cells #[.int .u32 0, .int .u32 0, .int .u32 0, .int .u32 0, .int .u32 0, .int .u32 0, .int .u32 0, .int .u32 0] 26)).setCells w4.heap.size 0 (vals .u32 firstI) = W5 at *
      have HS : Hid (Whole2 Wp w4.heap.size (q + 1) P (.int .i64 0) W5) := hide ⟨0, by omega, rfl, HB4.out, HA4.out⟩
      clear HT4 HA4 HB4
      generalize w4.heap.size = gs at *
      go_loopw [6] (fun i wr => Whole2 Wp gs (q + 1) P i wr) (fun i _ => 64 * (q + 1) - (intOf i).toNat)
      case atStart => exact HS.out
      case round =>
        clear HS
        obtain ⟨k, hkq, rfl, hB, hA⟩ := hrel
        by_cases hlt : k < q + 1
        · obtain ⟨i, hi⟩ : ∃ i, i = 64 * k := ⟨_, rfl⟩
          obtain ⟨i2, hi2⟩ : ∃ i2, i2 = i + 64 := ⟨_, rfl⟩
          obtain ⟨a1, c1, ht1, ht2⟩ := mid_of ap (64 * (q + 1)) capp i i2 hi2 (by omega) hp1
          have T1 := ht1
          have SL := fun b wx => slice_all64 b wx
          have hb64 : IntKind.i64.wrap ((i : Int) + 64) = (i2 : Int) := wrap_small (by omega) (by have := HQ.out; omega)
          have HI2 := hide hi2
          clear hi2
          have hr := ht2 Wp P HP.out
          have hrl : ((P.drop i).take 64).length = 64 := by have := HPL.out; simp; omega
          have HR := hide (hr.below hB)
          have HRL := hide hrl
          have BL := hide (fun wx h => block_any (blocksI firstI P k) ((P.drop i).take 64) wx (HBN.out k) hrl h)
          rw [hi] at BL
          have BL : Hid (∀ wx, Ks wx → Calls Tryd.prog 6 #[.agg (vals .u32 (blocksI firstI P k)).toArray, .agg (vals .u8 ((P.drop (64 * k)).take 64)).toArray] wx fun e w' => e = .returned (.agg (vals .u32 (blocksI firstI P (k + 1))).toArray) ∧ Below wx.heap.size wx w') := BL
          rw [← hi] at BL ⊢
          have HB := hide hB
          have HA := hide hA
          have HI := hide hi
          have hilt : (i : Int) < ((64 * (q + 1) : Nat) : Int) := by omega
          have hiq : (i : Int) ≤ 10000 := by have := HQ.out; omega
          clear ht1 ht2 hr hrl hB hA hi
          generalize hr0 : (P.drop i).take 64 = r at *
          have hr1 : r.take (min r.length 64) = r := by rw [HRL.out]; exact List.take_of_length_le (by rw [HRL.out]; omega)
          have HR1 := hide hr1.symm
          clear hr1 hr0
          generalize hqn : 64 * (q + 1) = nn at *
          clear hqn
          go_wp2
          have HW6 : Hid (Below wr.heap.size wr (wr.alloc (.cells #[.int .u8 0, .int .u8 0, .int .u8 0, .int .u8 0, .int .u8 0, .int .u8 0, .int .u8 0, .int .u8 0, .int .u8 0, .int .u8 0, .int .u8 0, .int .u8 0, .int .u8 0, .int .u8 0, .int .u8 0, .int .u8 0, .int .u8 0, .int .u8 0, .int .u8 0, .int .u8 0, .int .u8 0, .int .u8 0, .int .u8 0, .int .u8 0, .int .u8 0, .int .u8 0, .int .u8 0, .int .u8 0, .int .u8 0, .int .u8 0, .int .u8 0, .int .u8 0, .int .u8 0, .int .u8 0, .int .u8 0, .int .u8 0, .int .u8 0, .int .u8 0, .int .u8 0, .int .u8 0, .int .u8 0, .int .u8 0, .int .u8 0, .int .u8 0, .int .u8 0, .int .u8 0, .int .u8 0, .int .u8 0, .int .u8 0, .int .u8 0, .int .u8 0, .int .u8 0, .int .u8 0, .int .u8 0, .int .u8 0, .int .u8 0, .int .u8 0, .int .u8 0, .int .u8 0, .int .u8 0, .int .u8 0, .int .u8 0, .int .u8 0, .int .u8 0] 28)) ∧ (wr.alloc (.cells #[.int .u8 0, .int .u8 0, .int .u8 0, .int .u8 0, .int .u8 0, .int .u8 0, .int .u8 0, .int .u8 0, .int .u8 0, .int .u8 0, .int .u8 0, .int .u8 0, .int .u8 0, .int .u8 0, .int .u8 0, .int .u8 0, .int .u8 0, .int .u8 0, .int .u8 0, .int .u8 0, .int .u8 0, .int .u8 0, .int .u8 0, .int .u8 0, .int .u8 0, .int .u8 0, .int .u8 0, .int .u8 0, .int .u8 0, .int .u8 0, .int .u8 0, .int .u8 0, .int .u8 0, .int .u8 0, .int .u8 0, .int .u8 0, .int .u8 0, .int .u8 0, .int .u8 0, .int .u8 0, .int .u8 0, .int .u8 0, .int .u8 0, .int .u8 0, .int .u8 0, .int .u8 0, .int .u8 0, .int .u8 0, .int .u8 0, .int .u8 0, .int .u8 0, .int .u8 0, .int .u8 0, .int .u8 0, .int .u8 0, .int .u8 0, .int .u8 0, .int .u8 0, .int .u8 0, .int .u8 0, .int .u8 0, .int .u8 0, .int .u8 0, .int .u8 0] 28)).there wr.heap.size 0 64) := hide ⟨(Below.refl _ _).alloc (Nat.le_refl _) _, (Arr.new wr .u8 (List.replicate 64 0) 28).2⟩
          generalize wr.alloc (.cells #[.int .u8 0, .int .u8 0, .int .u8 0, .int .u8 0, .int .u8 0, .int .u8 0, .int .u8 0, .int .u8 0, .int .u8 0, .int .u8 0, .int .u8 0, .int .u8 0, .int .u8 0, .int .u8 0, .int .u8 0, .int .u8 0, .int .u8 0, .int .u8 0, .int .u8 0, .int .u8 0, .int .u8 0, .int .u8 0, .int .u8 0, .int .u8 0, .int .u8 0, .int .u8 0, .int .u8 0, .int .u8 0, .int .u8 0, .int .u8 0, .int .u8 0, .int .u8 0, .int .u8 0, .int .u8 0, .int .u8 0, .int .u8 0, .int .u8 0, .int .u8 0, .int .u8 0, .int .u8 0, .int .u8 0, .int .u8 0, .int .u8 0, .int .u8 0, .int .u8 0, .int .u8 0, .int .u8 0, .int .u8 0, .int .u8 0, .int .u8 0, .int .u8 0, .int .u8 0, .int .u8 0, .int .u8 0, .int .u8 0, .int .u8 0, .int .u8 0, .int .u8 0, .int .u8 0, .int .u8 0, .int .u8 0, .int .u8 0, .int .u8 0, .int .u8 0] 28) = W6 at *
          have HGX : Hid (gs < wr.heap.size) := hide (HA.out.lt (by rw [HBN.out]; omega))
          have HGW : Hid (Wp.heap.size ≤ wr.heap.size) := hide HB.out.size
          have HR6 := hide (HR.out.below HW6.out.1)
          have hrpos : 0 < r.length := by rw [HRL.out]; omega
          generalize wr.heap.size = gx at *
          go_region_held3 (fun wx => wx.there gx 0 64) (with_reducible (first | exact World.there_setCells (w := W6.drew) ((World.there_drew W6 gx 0 64).2 HW6.out.2) _ _ _ | exact (World.there_drew W6 gx 0 64).2 HW6.out.2 | fail))
            ((refine step_copy rfl (.tmp 49) (.tmp 54) rfl gx 0 64 64 rfl _ r rfl HR6.out.drew hrpos r HR1.out HW6.out.2 ?_))
          have HX7 : Hid (Arr (W6.drew.setCells gx 0 (vals .u8 r)) gx 0 .u8 r) := hide (Arr.put (by rw [HRL.out]; exact HW6.out.2))
          have HB7 : Hid (Below Wp.heap.size Wp (W6.drew.setCells gx 0 (vals .u8 r))) := hide (below_sets HGW.out _ _ _ (HB.out.trans (HW6.out.1.mono HGW.out)).drew)
          have HA7 : Hid (Arr (W6.drew.setCells gx 0 (vals .u8 r)) gs 0 .u32 (blocksI firstI P k)) := hide ((HA.out.below HW6.out.1 HGX.out).drew.apart _ _ _ (Or.inl (by have := HGX.out; omega)))
          generalize W6.drew.setCells gx 0 (vals .u8 r) = W7 at *
          have HKW := hide (HK.out.on (below_on HBP.out HB7.out))
          go_wp2_with (first | (refine wp_load_arr rfl 26 (.tmp 5) rfl _ 0 rfl .u32 _ HA7.out _ Tryd.underlying26 rfl 8 info_s (HBN.out k) ?_) | (refine wp_load_arr rfl 28 (.tmp 7) rfl _ 0 rfl .u8 _ HX7.out _ Tryd.underlying28 rfl 64 info_b HRL.out ?_))
          refine (BL.out _ HKW.out).mono ?_
          rintro e w8 ⟨rfl, hbel8⟩
          have HT8 : Hid (w8.there gs 0 8) := hide (by have := (HA7.out.on hbel8).2; rwa [HBN.out] at this)
          have HB8 := hide (below_on HB7.out hbel8)
          clear hbel8
          go_wp2_with (refine wp_store_arr rfl 26 (.tmp 5) (.tmp 58) rfl _ 0 .u32 (blocksI firstI P (k + 1)) rfl rfl 8 HT8.out info_s (HBN.out (k + 1)) ?_)
          have RR : Hid (Whole2 Wp gs (q + 1) P (.int .i64 (i2 : Int)) (w8.setCells gs 0 (vals .u32 (blocksI firstI P (k + 1))))) := by
            refine hide ⟨k + 1, by omega, ?_, below_sets HGS.out _ _ _ HB8.out, Arr.put (by rw [HBN.out]; exact HT8.out)⟩
            have := HI.out
            have := HI2.out
            congr 1
            omega
          go_roundw
          case rel => first | exact RR.out | ((repeat apply Exists.intro); exact ⟨RR.out, rfl⟩)
          case measure => have := HI2.out; simp [intOf]; omega
        · obtain rfl : k = q + 1 := by omega
          have HA := hide hA
          have HB := hide (below_on HBP.out hB)
          clear hA hB hlt hkq
          generalize 64 * (q + 1) = nn at *
          have S1 := hide (sum_one wr _ l (HV.out.below HB.out) (HK.out.on HB.out) (by have := HN.out; omega))
          have HL1 := hide (digest_length l)
          go_wp2_with fail
          refine S1.out.mono ?_
          rintro e w9 ⟨rfl, hbel9⟩
          have HB9 := hide (below_on HB.out hbel9)
          have HA9 := hide (HA.out.on hbel9)
          have KP := hide (hash_kept w9 (digest l) HL1.out)
          clear hbel9
          have IX := hide (fun k hk w => index_arr (blocksI firstI P (q + 1)) (HBN.out (q + 1)) k hk w)
          have HBL := hide (HBN.out (q + 1))
          go_wp2_with (first | (refine wp_store_arr rfl 31 (.tmp 8) (.tmp 61) rfl _ 0 .u8 (digest l) rfl rfl 32 (hash_there _) info_h HL1.out ?_) | (refine wp_load_arr rfl 26 (.tmp 5) rfl _ 0 rfl .u32 (blocksI firstI P (q + 1)) (HA9.out.on (hash_kept w9 (digest l) HL1.out).1) _ Tryd.underlying26 rfl 8 info_s HBL.out ?_))
          generalize (w9.alloc (.cells #[.int .u8 0, .int .u8 0, .int .u8 0, .int .u8 0, .int .u8 0, .int .u8 0, .int .u8 0, .int .u8 0, .int .u8 0, .int .u8 0, .int .u8 0, .int .u8 0, .int .u8 0, .int .u8 0, .int .u8 0, .int .u8 0, .int .u8 0, .int .u8 0, .int .u8 0, .int .u8 0, .int .u8 0, .int .u8 0, .int .u8 0, .int .u8 0, .int .u8 0, .int .u8 0, .int .u8 0, .int .u8 0, .int .u8 0, .int .u8 0, .int .u8 0, .int .u8 0] 31)).setCells w9.heap.size 0 (vals .u8 (digest l)) = W at *
          have HBW := hide (below_on HB9.out KP.out.1)
          have HAW := hide (HA9.out.on KP.out.1)
          have HX := hide KP.out.2
          clear KP
          generalize w9.heap.size = g at *
          generalize hZ : blocksI firstI P (q + 1) = Z at *
          clear hZ
          go_loopw [63] (fun i wr => Whole3 W i wr) (fun i _ => 8 - (intOf i).toNat)
          case atStart => exact ⟨0, by omega, rfl, Below.refl _ _⟩
          case round =>
            obtain ⟨k, hk8, rfl, hB⟩ := hrel
            by_cases hlt : k < 8
            · have ix := fun wx => IX.out k hlt wx
              have hrg := HRG.out k hlt
              have hwo := word_out (Z.getD k 0) hrg.1 hrg.2
              have hx := HX.out.on hB
              have hdl := HL1.out
              have hg : ∀ i, i < 4 → (digest l).getD (4 * k + i) 0 = (outI (Z.getD k 0)).getD i 0 := fun i hi => by rw [← HDG.out]; exact out_get Z k i (by rw [HBL.out]; exact hlt) hi
              have c0 := hx.cell0 (4 * k) (by omega)
              have c1 := hx.cell0 (4 * k + 1) (by omega)
              have c2 := hx.cell0 (4 * k + 2) (by omega)
              have c3 := hx.cell0 (4 * k + 3) (by omega)
              rw [show (digest l).getD (4 * k) 0 = Z.getD k 0 / 16777216 % 256 from hg 0 (by omega)] at c0
              rw [show (digest l).getD (4 * k + 1) 0 = Z.getD k 0 / 65536 % 256 from hg 1 (by omega)] at c1
              rw [show (digest l).getD (4 * k + 2) 0 = Z.getD k 0 / 256 % 256 from hg 2 (by omega)] at c2
              rw [show (digest l).getD (4 * k + 3) 0 = Z.getD k 0 % 256 from hg 3 (by omega)] at c3
              have HB := hide hB
              clear hrg hx hdl hg hB
              generalize Z.getD k 0 = z at *
              unfold wordI at hwo
              generalize z / 16777216 % 256 = y0 at *
              generalize z / 65536 % 256 = y1 at *
              generalize z / 256 % 256 = y2 at *
              generalize z % 256 = y3 at *
              obtain ⟨q0, hq0⟩ : ∃ q, q = 4 * k := ⟨_, rfl⟩
              obtain ⟨q1, hq1⟩ : ∃ q, q = 4 * k + 1 := ⟨_, rfl⟩
              obtain ⟨q2, hq2⟩ : ∃ q, q = 4 * k + 2 := ⟨_, rfl⟩
              obtain ⟨q3, hq3⟩ : ∃ q, q = 4 * k + 3 := ⟨_, rfl⟩
              rw [← hq0] at c0
              rw [← hq1] at c1
              rw [← hq2] at c2
              rw [← hq3] at c3
              have e0 : IntKind.i64.wrap (4 * (k : Int)) = (q0 : Int) := wrap_small (by omega) (by omega)
              have e1 : IntKind.i64.wrap ((q0 : Int) + 1) = (q1 : Int) := wrap_small (by omega) (by omega)
              have e2 : IntKind.i64.wrap ((q0 : Int) + 2) = (q2 : Int) := wrap_small (by omega) (by omega)
              have e3 : IntKind.i64.wrap ((q0 : Int) + 3) = (q3 : Int) := wrap_small (by omega) (by omega)
              have b0 : (q0 : Int) < 32 := by omega
              have b1 : (q1 : Int) < 32 := by omega
              have b2 : (q2 : Int) < 32 := by omega
              have b3 : (q3 : Int) < 32 := by omega
              clear hq0 hq1 hq2 hq3
              go_wp2
              go_region_held3 (fun wx => wx.cell? ⟨g, q0, none⟩ = some (.int .u8 y0) ∧ wx.cell? ⟨g, q1, none⟩ = some (.int .u8 y1) ∧ wx.cell? ⟨g, q2, none⟩ = some (.int .u8 y2) ∧ wx.cell? ⟨g, q3, none⟩ = some (.int .u8 y3)) (first | exact ⟨c0, c1, c2, c3⟩ | (go_keep; done)) (fail)
              have RR : Hid (Whole3 W (.int .i64 ((k + 1 : Nat) : Int)) wr.drew) := hide ⟨k + 1, by omega, rfl, HB.out.drew⟩
              go_wp2
              go_roundw
              case rel => first | exact RR.out | ((repeat apply Exists.intro); exact ⟨RR.out, rfl⟩)
              case measure => simp [intOf]; omega
            · have RB := hide (below_on HBW.out hB)
              clear hB
              go_wp2
              go_ret
              exact ⟨rfl, RB.out⟩

set_option maxRecDepth 100000 in
theorem shaWhole_lifted (os : Os) (started : os.Started) (H : Type) (enc : TypeId × Value → H) :
    ReturnsInHanded {} Tryd.checked os 3 .any (fun w args => (Rows.shaWholeSpec.pre enc Tryd.prog Tryd.f3 [] false w args ∧ laidMetH Tryd.prog laid1 w) ∧ sizedMet enc Tryd.prog Tryd.f3 (OpenSpec.ofChange Rows.shaWholeSpec) false w args)
      (Rows.shaWholeSpec.post enc Tryd.prog Tryd.f3 false true false false) := by
  refine returnsInHanded_of_change_and (C := Tryd.checked) (X := fun w _ => laidMetH Tryd.prog laid1 w) (fun _ _ _ hh h => h.of_heap hh) own started (by kernel_rfl) Tryd.func3
    (ChangeSpec.witness_shaped (enc := enc) (C := Tryd.checked) (os := os) (X := fun w _ => laidMetH Tryd.prog laid1 w) false (World.doorLaid Tryd.prog 14 os) #[.slice none 0 0] 8 rfl (World.shaped_of_RefB (by kernel_rfl) (by kernel_rfl)) (by kernel_rfl) (by kernel_rfl) (by kernel_rfl) (door_met os _)) ?_
  intro W base args ds gs before hval0 hW _ _ hL _
  have hval : ∀ (j : Nat) t v, Tryd.f3.params[j]? = some t → args[j]? = some v → Value.okWide Tryd.prog W .any base t v := hval0
  have hW' := hW
  obtain ⟨p, q, hA0, hV, rfl, hfz, hnd⟩ := hW
  have hA : DataW.TrodAll enc Tryd.prog W 0 (fun _ => true) true Tryd.f3.params.toList args.toList ds p := hA0
  rw [Tryd.params3] at hA hval
  obtain ⟨v0, vs0, d0, ds0, p0, q0, hargs, rfl, rfl, h0, r0⟩ := trodAll_cons hA
  obtain ⟨rfl, rfl, rfl⟩ := trodAll_nil r0
  obtain rfl : args = #[v0] := by cases args; simp_all
  obtain ⟨rfl, rfl⟩ := trodVars_none hV
  obtain ⟨b0, len0, cap0, rfl⟩ := okWide_slice Tryd.underlying22 (hval 0 22 v0 rfl rfl)
  have k0 := h0
  have lt0 : ∀ x ∈ p0, x.block < W.heap.size := by obtain ⟨m, hm⟩ := k0; exact DataW.trod_lt m _ _ _ hm
  obtain ⟨l0, s0, w0⟩ : ∃ l, Bytes W (.slice b0 len0 cap0) l ∧ ∀ z ∈ l, Byte z := by
    obtain ⟨fuel, hf⟩ := h0
    rcases open_ints Tryd.underlying22 Tryd.underlying5 (by kernel_rfl) hf with ⟨hcs, _⟩ | ⟨x, l, c, zs, hcs, _, hl, hm, hz, _, hcell, hwz⟩
    · simp [Value.cells] at hcs
      obtain ⟨rfl, rfl, rfl⟩ := hcs
      exact ⟨[], Bytes.nil _, by simp⟩
    · simp [Value.cells] at hcs
      obtain ⟨rfl, rfl, rfl⟩ := hcs
      exact bytes_row hl hm (by simpa using hz) hcell hwz
  clear hA0 hval0
  refine (shaWhole_walk (w := W) (ks_of_laid hL) _ l0 w0 s0).mono fun e W' ⟨he, bel⟩ => ?_
  subst he
  exact ⟨_, rfl, _, _, _, [], _, [], hW', trodAll_mk1 (shut_bool Tryd.underlying4 _), (trodAll_cons_mk (Below.trod laidOut (by kernel_rfl) (of_decide_eq_true (by kernel_rfl)) k0 bel lt0) trodAll_mk0), rfl, bel.frame _, fun h => by cases h⟩

theorem shaWhole_holds : Rows.ShaWholeSaid :=
  OpenClaim.holds_of_wide 3 Tryd.f3 rfl rfl rfl rfl rfl rfl rfl ⟨rfl, rfl, rfl, rfl, rfl⟩ rfl rfl rfl rfl rfl (by kernel_rfl) Tryd.func3 (by kernel_rfl)
    (of_decide_eq_true (by kernel_rfl)) (by unfold Func.isWrapper; first | (rw [if_pos (by decide +kernel)]; kernel_rfl) | (rw [if_neg (by decide +kernel)]; exact ⟨rfl, rfl⟩))
    (fun os started H enc _ => shaWhole_lifted os started H enc)
#print axioms shaWhole_holds
theorem shaWhole_card : Rows.ShaWholeCardSaid :=
  Claim7.holds_tied_plain_at .later [] [.data] true (true, "165f8aee7318aa0de0932af82657327d81c660906eda23f460eb7804633ed1a1") false
    shaWhole_holds (fun _ h => by cases h) (by kernel_rfl) (fun _ h => by cases h) shaWhole_row_tie rfl ⟨rfl, rfl⟩ (by kernel_rfl) rfl
    (fun f fn hf hfn => by
      obtain rfl : f = 3 := Option.some.inj ((show Tryd.prog.funcNamed "pappus/pappuslaw03.ShaWhole" = some 3 by kernel_rfl).symm.trans hf) |>.symm
      obtain rfl : fn = Tryd.f3 := (Option.some.inj (Tryd.func3.symm.trans hfn)).symm
      exact ⟨by kernel_rfl, fun j t ht => by
        rw [Tryd.params3] at ht
        have hm : t ∈ [22] := by simpa using Array.mem_of_getElem? ht
        have hall : ([22].all fun u => !Tryd.prog.wantsStandIn u) = true := by kernel_rfl
        exact (show Tryd.prog.wantsStandIn t = false by simpa using List.all_eq_true.1 hall t hm)⟩)
    (by kernel_rfl)
#print axioms shaWhole_card
end Go.Proofs.YtllldlpnocnagabDoor
