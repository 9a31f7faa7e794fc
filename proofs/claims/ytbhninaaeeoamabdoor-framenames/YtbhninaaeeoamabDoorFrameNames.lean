/-
  FrameNames: of whatever command and body: what is no command's name is refused by Put and, where it fits, by Get: the call returns true, and the arguments read as before.
-/
import Derived.Test.YtbhninaaeeoamabDoorFrLaw
import Derived.Test.YtbhninaaeeoamabDoorFrAlive
import Derived.Test.YtbhninaaeeoamabDoorFrNames
namespace Go.Proofs.YtbhninaaeeoamabDoor
open Go.ChangeShapes Go.WideShapes Go.ChangeAt Go.RowKit

/-- What holds at the head of a round. -/
def Gooding (s : ByteArray) (m : Nat) (g i : Value) : Prop := ∃ k : Nat, k ≤ m ∧ i = .int .i64 k ∧ g = .bool (goodB s k)

set_option maxRecDepth 100000 in
set_option maxHeartbeats 1000000 in
theorem frameNames_walk {w : World} (hk : Ks w) (s : ByteArray) (hs : s.size ≤ 9223372036854775807) (v : Value) (l : List Int) (hb : ∀ z ∈ l, Byte z) (hv : Bytes w v l) :
    Calls Tryd.prog 3 #[.string s, v] w fun e w' => e = .returned (.bool true) ∧ Below w.heap.size w w' := by
  have HV := hide hv
  have HK := hide hk
  have A := hide (alive_any w hk)
  obtain ⟨a, cap, rfl, hc1, hc2⟩ := hv.form
  by_cases hbig : 2000 < l.length
  · have hbi : (2000 : Int) < (l.length : Int) := by omega
    clear hv hk hb
    go_enter Tryd.func3, Tryd.ntmps3
    go_wp2_with fail
    refine A.out.mono ?_
    rintro e w1 ⟨rfl, hbel1⟩
    have HB1 := hide hbel1
    clear hbel1
    go_wp2
    go_ret
    exact ⟨rfl, HB1.out⟩
  have hbi : (l.length : Int) ≤ 2000 := by omega
  have P := hide (fun wx (h : Bytes wx (.slice a l.length cap) l) (k : Ks wx) => fput_any wx s _ l h k hs)
  have PA := hide (fun wx (h : Bytes wx (.slice a l.length cap) l) (k : Ks wx) => fput_any wx ⟨#[97]⟩ _ l h k (by decide))
  have N := hide (fun wx => named_any s wx hs)
  have SM := hide (fun wx p q (h : Bytes wx p l) (j : Bytes wx q l) => same_any l l p q wx h j)
  rw [decide_eq_true rfl] at SM
  clear hv hk hbig
  by_cases h12 : 12 < s.size
  · have hn : namedL (strL s) = false := by simp [namedL, strL_length]; omega
    have HG : Hid (∀ k, goodB s k = false) := hide (fun k => by simp [goodB]; omega)
    have hE : fpE (strL s) l = 8 := by unfold fpE; rw [hn]; rfl
    unfold FPutDone at P
    rw [hE] at P
    rw [hn] at N
    have d0 : (0 : Int) < (s.size : Int) := by omega
    have d1 : decide ((s.size : Int) ≤ 12) = false := decide_eq_false (by omega)
    obtain ⟨m, hm⟩ : ∃ m : Nat, m = 13 := ⟨_, rfl⟩
    have hmin : (if (13 : Int) < (s.size : Int) then (13 : Int) else (s.size : Int)) = (m : Int) := by split <;> omega
    clear hn hE hb
    go_enter Tryd.func3, Tryd.ntmps3
    go_wp2_with fail
    refine A.out.mono ?_
    rintro e w1 ⟨rfl, hbel1⟩
    have HB1 := hide hbel1
    clear hbel1
    go_upto_region 7 with fail
    go_loop [5, 31] (fun g i => Gooding s 13 g i) (fun _ i => 13 - (intOf i).toNat)
    case atStart => exact ⟨0, Nat.zero_le _, rfl, by rw [HG.out]⟩
    case round =>
      obtain ⟨k, hk, rfl, rfl⟩ := hrel
      rw [HG.out k]
      by_cases hlt : k < 13
      · go_wp2
        go_round
        case rel => exact ⟨k + 1, hlt, by go_num, by rw [HG.out]⟩
        case measure => simp [intOf]; omega
      · go_wp2_with fail
        refine (P.out _ (HV.out.below HB1.out) (HK.out.on HB1.out)).mono ?_
        rintro e w2 ⟨v2, rfl, -, hnil, hbel2⟩
        obtain rfl := hnil (by decide)
        have HB2 := hide (below_on HB1.out hbel2)
        clear hnil hbel2
        go_wp2_with fail
        refine (N.out _).mono ?_
        rintro e w3 ⟨rfl, rfl⟩
        go_wp2
        go_ret
        exact ⟨rfl, HB2.out⟩
  · -- a name that fits
    have HOV := hide (over_name (strL s) l (by rw [strL_length]; omega))
    have HFL := hide (frameL_length a_named l)
    have hfb := frameL_byte a_named hb
    have G := hide (fun wx p (h : Bytes wx p (headL (strL s) l.length (chk l) ++ l)) (k : Ks wx) => fget_any wx p _ h (fun z hz => by
      rcases List.mem_append.1 hz with h | h
      · exact headL_byte (strL_byte s) _ _ z h
      · exact hb z h) k)
    obtain ⟨-, -, hEA, hLA⟩ : namedL (strL ⟨#[97]⟩) = true ∧ l.length ≤ 2048 ∧ fpE (strL ⟨#[97]⟩) l = 0 ∧ fpL (strL ⟨#[97]⟩) l = frameL (strL ⟨#[97]⟩) l := by
      rcases fp_cases (strL ⟨#[97]⟩) l with ⟨h, -⟩ | ⟨-, h, -⟩ | h
      · rw [a_named] at h; cases h
      · omega
      · exact h
    unfold FPutDone at PA
    rw [hEA, hLA, a_str] at PA
    rw [a_str] at HFL
    clear hEA hLA hfb hb
    generalize frameL [97] l = F at *
    have hm13 : ¬ (13 : Int) < (s.size : Int) := by omega
    have d12 : (s.size : Int) ≤ 12 := by omega
    rcases Nat.eq_zero_or_pos s.size with h0 | h0
    · have HG0 : Hid (Value.bool false = .bool (goodB s 0)) := hide (by rw [goodB_zero, h0]; rfl)
      have d0 : ¬ (0 : Int) < (s.size : Int) := by omega
      go_enter Tryd.func3, Tryd.ntmps3
      go_wp2_with fail
      refine A.out.mono ?_
      rintro e w1 ⟨rfl, hbel1⟩
      have HB1 := hide hbel1
      clear hbel1
      go_upto_region 7 with fail
      go_loop [5, 31] (fun g i => Gooding s s.size g i) (fun _ i => s.size - (intOf i).toNat)
      case atStart => exact ⟨0, Nat.zero_le _, rfl, HG0.out⟩
      case round =>
        obtain ⟨k, hk, rfl, rfl⟩ := hrel
        by_cases hlt : k < s.size
        · exfalso
          omega
        · obtain rfl : k = s.size := by omega
          rw [goodB_end (s := s) (k := s.size) (fun _ => rfl)]
          cases hn : namedL (strL s) with
          | true =>
            exfalso
            have := (named_all hn).1
            rw [strL_length] at this
            omega
          | false =>
            have hE : fpE (strL s) l = 8 := by unfold fpE; rw [hn]; rfl
            unfold FPutDone at P
            rw [hE] at P
            rw [hn] at N
            obtain ⟨gn, hget⟩ := names_get (strL s) l (by rw [strL_length]; omega) hn (by omega)
            clear hE
            go_wp2_with fail
            refine (P.out _ (HV.out.below HB1.out) (HK.out.on HB1.out)).mono ?_
            rintro e w2 ⟨v2, rfl, -, hnil, hbel2⟩
            obtain rfl := hnil (by decide)
            have HB2 := hide (below_on HB1.out hbel2)
            clear hnil hbel2
            go_wp2_with fail
            refine (N.out _).mono ?_
            rintro e w3 ⟨rfl, rfl⟩
            go_wp2_with fail
            refine (PA.out _ (HV.out.below HB2.out) (HK.out.on HB2.out)).mono ?_
            rintro e w4 ⟨v4, rfl, hm4, -, hbel4⟩
            have hm4 := hm4 trivial
            have HB4 := hide (below_on HB2.out hbel4)
            obtain ⟨b4, cap4, rfl, hq1, hq2, hq3, hA4⟩ := hm4
            have HQ : Hid (w.heap.size ≤ b4) := hide (by have := HB2.out.size; omega)
            have c4 := hA4.cell0 4 (by have := HFL.out; omega)
            have f4 := hA4.free0 4 (by have := HFL.out; omega)
            have hF24 : 24 ≤ F.length := by have := HFL.out; omega
            have HA5 := hide (hA4.set0 4 (by omega) 0)
            have HB5 : Hid (Below w.heap.size w (w4.setCell ⟨b4, 4, none⟩ (.int .u8 0))) := hide (HB4.out.setCell HQ.out _)
            clear hbel4 hA4 hq3
            generalize F.getD 4 0 = z4 at *
            go_upto_region 20 with fail
            clear c4 f4
            generalize w4.setCell ⟨b4, 4, none⟩ (.int .u8 0) = W5 at *
            have HT5 : Hid (W5.there b4 4 12) := hide (fun j hj => by have := HA5.out.2 (4 + j) (by rw [List.length_set]; omega); rwa [Nat.zero_add] at this)
            go_upto_region 21 with (refine wp_copy_str rfl (.tmp 87) (.tmp 88) rfl b4 4 12 _ rfl s rfl (by omega) HT5.out ?_)
            have HA6 := hide (HA5.out.over 4 (strL s) (by rw [List.length_set, strL_length]; omega))
            have HB6 := hide (below_sets HQ.out (vals .u8 (strL s)) 4 _ HB5.out)
            generalize W5.setCells b4 4 (vals .u8 (strL s)) = W6 at *
            rw [HOV.out _ _ rfl rfl] at HA6
            have hV6 : Bytes W6 (.slice (some ⟨b4, 0, none⟩) F.length cap4) (headL (strL s) l.length (chk l) ++ l) := by
              have hl6 : (headL (strL s) l.length (chk l) ++ l).length = F.length := by rw [List.length_append, headL_length (by rw [strL_length]; omega), HFL.out]
              exact ⟨_, _, by rw [hl6], by rw [hl6]; exact hq1, hq2, by simp, fun _ => ⟨b4, 0, rfl, fun i hi => HA6.out.cell i hi⟩⟩
            have HV6 := hide hV6
            have hFI : (24 : Int) + (l.length : Int) = (F.length : Int) := by have := HFL.out; omega
            rw [hFI] at gn
            unfold GetDone at G
            rw [gn] at G
            clear hV6 HA5 HB5 HT5 hFI gn
            rcases hget with ⟨-, g1, g2, g3⟩ | ⟨g1, g2, g3, g4⟩
            · rw [g1, g2, g3, str_nil] at G
              clear g1 g2 g3
              go_wp2_with fail
              refine (G.out _ _ HV6.out (HK.out.on HB6.out)).mono ?_
              rintro e w7 ⟨v7, rfl, hown7, hbel7⟩
              obtain ⟨a7, cap7, rfl, -⟩ := hown7.bytes.form
              have HB7 := hide (below_on HB6.out hbel7)
              clear hown7 hbel7
              go_wp2
              go_ret
              exact ⟨rfl, HB7.out⟩
            · rw [g1, g4] at G
              have hst := strL_str _ (named_byte g2)
              have NC := hide (fun wx => named_any (strOfNums (geC (headL (strL s) l.length (chk l) ++ l))) wx (by rw [strOfNums_size]; have := (named_all g2).2.1; omega))
              have hneq : ((strOfNums (geC (headL (strL s) l.length (chk l) ++ l))).toList == s.toList) = false := by
                rw [str_beq, hst]
                exact decide_eq_false g3
              rw [hst, g2] at NC
              clear g1 g2 g3 g4 hst
              generalize strOfNums (geC (headL (strL s) l.length (chk l) ++ l)) = gc at *
              go_wp2_with fail
              refine (G.out _ _ HV6.out (HK.out.on HB6.out)).mono ?_
              rintro e w7 ⟨v7, rfl, hown7, hbel7⟩
              have HB7 := hide (below_on HB6.out hbel7)
              have HV7 := hide hown7.bytes
              clear hown7 hbel7
              go_wp2_with fail
              refine (NC.out _).mono ?_
              rintro e w8 ⟨rfl, rfl⟩
              go_wp2_with fail
              refine (SM.out _ _ _ HV7.out (HV.out.below HB7.out)).mono ?_
              rintro e w9 ⟨rfl, nn, rfl⟩
              go_wp2
              go_ret
              exact ⟨rfl, HB7.out.trans ⟨rfl, rfl, rfl, Nat.le_refl _, fun _ _ => rfl⟩⟩
    · have HG0 : Hid (Value.bool true = .bool (goodB s 0)) := hide (by rw [goodB_zero, decide_eq_true h0, decide_eq_true (show s.size ≤ 12 by omega)]; rfl)
      have d0 : (0 : Int) < (s.size : Int) := by omega
      go_enter Tryd.func3, Tryd.ntmps3
      go_wp2_with fail
      refine A.out.mono ?_
      rintro e w1 ⟨rfl, hbel1⟩
      have HB1 := hide hbel1
      clear hbel1
      go_upto_region 7 with fail
      go_loop [5, 31] (fun g i => Gooding s s.size g i) (fun _ i => s.size - (intOf i).toNat)
      case atStart => exact ⟨0, Nat.zero_le _, rfl, HG0.out⟩
      case round =>
        obtain ⟨k, hk, rfl, rfl⟩ := hrel
        by_cases hlt : k < s.size
        · cases hg : goodB s k with
          | false =>
            have HN := hide (goodB_off hg)
            clear hg
            go_wp2
            go_round
            case rel => exact ⟨k + 1, hlt, by go_num, by rw [HN.out]⟩
            case measure => simp [intOf]; omega
          | true =>
            have hb := strL_byte s ((strL s).getD k 0) (by simp [List.getD, strL_length, hlt])
            have hat := strL_at s k hlt
            have HN := hide (goodB_next hg hlt)
            clear hg
            generalize (strL s).getD k 0 = z at *
            obtain ⟨hb0, hb1⟩ := hb
            by_cases hz1 : 97 ≤ z
            · by_cases hz2 : z ≤ 122
              · have HL : Hid (goodB s (k + 1) = true) := hide (by rw [HN.out]; simp [letterB, hz1, hz2])
                go_wp2
                go_round
                case rel => exact ⟨k + 1, hlt, by go_num, by rw [HL.out]⟩
                case measure => simp [intOf]; omega
              · have HL : Hid (goodB s (k + 1) = false) := hide (by rw [HN.out]; simp [letterB, hz1, hz2])
                have hz2' : decide (z ≤ 122) = false := decide_eq_false hz2
                go_wp2
                go_round
                case rel => exact ⟨k + 1, hlt, by go_num, by rw [HL.out]⟩
                case measure => simp [intOf]; omega
            · have HL : Hid (goodB s (k + 1) = false) := hide (by rw [HN.out]; simp [letterB, hz1])
              have hz1' : decide (97 ≤ z) = false := decide_eq_false hz1
              go_wp2
              go_round
              case rel => exact ⟨k + 1, hlt, by go_num, by rw [HL.out]⟩
              case measure => simp [intOf]; omega
        · obtain rfl : k = s.size := by omega
          rw [goodB_end (s := s) (k := s.size) (fun _ => rfl)]
          cases hn : namedL (strL s) with
          | true =>
            obtain ⟨-, -, hE, hL⟩ : namedL (strL s) = true ∧ l.length ≤ 2048 ∧ fpE (strL s) l = 0 ∧ fpL (strL s) l = frameL (strL s) l := by
              rcases fp_cases (strL s) l with ⟨h, -⟩ | ⟨-, h, -⟩ | h
              · rw [hn] at h; cases h
              · omega
              · exact h
            unfold FPutDone at P
            rw [hE, hL] at P
            rw [hn] at N
            have hFl := frameL_length hn l
            clear hn hE hL HOV HFL PA
            generalize frameL (strL s) l = F2 at *
            have hF2 : (0 : Int) < (F2.length : Int) := by omega
            clear hFl
            go_wp2_with fail
            refine (P.out _ (HV.out.below HB1.out) (HK.out.on HB1.out)).mono ?_
            rintro e w2 ⟨v2, rfl, hm2, -, hbel2⟩
            have hm2 := hm2 trivial
            have HB2 := hide (below_on HB1.out hbel2)
            obtain ⟨b2, cap2, rfl, -⟩ := hm2
            clear hbel2
            generalize F2.length = q2 at *
            go_wp2_with fail
            refine (N.out _).mono ?_
            rintro e w3 ⟨rfl, rfl⟩
            go_wp2
            go_ret
            exact ⟨rfl, HB2.out⟩
          | false =>
            have hE : fpE (strL s) l = 8 := by unfold fpE; rw [hn]; rfl
            unfold FPutDone at P
            rw [hE] at P
            rw [hn] at N
            obtain ⟨gn, hget⟩ := names_get (strL s) l (by rw [strL_length]; omega) hn (by omega)
            clear hE
            go_wp2_with fail
            refine (P.out _ (HV.out.below HB1.out) (HK.out.on HB1.out)).mono ?_
            rintro e w2 ⟨v2, rfl, -, hnil, hbel2⟩
            obtain rfl := hnil (by decide)
            have HB2 := hide (below_on HB1.out hbel2)
            clear hnil hbel2
            go_wp2_with fail
            refine (N.out _).mono ?_
            rintro e w3 ⟨rfl, rfl⟩
            go_wp2_with fail
            refine (PA.out _ (HV.out.below HB2.out) (HK.out.on HB2.out)).mono ?_
            rintro e w4 ⟨v4, rfl, hm4, -, hbel4⟩
            have hm4 := hm4 trivial
            have HB4 := hide (below_on HB2.out hbel4)
            obtain ⟨b4, cap4, rfl, hq1, hq2, hq3, hA4⟩ := hm4
            have HQ : Hid (w.heap.size ≤ b4) := hide (by have := HB2.out.size; omega)
            have c4 := hA4.cell0 4 (by have := HFL.out; omega)
            have f4 := hA4.free0 4 (by have := HFL.out; omega)
            have hF24 : 24 ≤ F.length := by have := HFL.out; omega
            have HA5 := hide (hA4.set0 4 (by omega) 0)
            have HB5 : Hid (Below w.heap.size w (w4.setCell ⟨b4, 4, none⟩ (.int .u8 0))) := hide (HB4.out.setCell HQ.out _)
            clear hbel4 hA4 hq3
            generalize F.getD 4 0 = z4 at *
            go_upto_region 20 with fail
            clear c4 f4
            generalize w4.setCell ⟨b4, 4, none⟩ (.int .u8 0) = W5 at *
            have HT5 : Hid (W5.there b4 4 12) := hide (fun j hj => by have := HA5.out.2 (4 + j) (by rw [List.length_set]; omega); rwa [Nat.zero_add] at this)
            go_upto_region 21 with (refine wp_copy_str rfl (.tmp 87) (.tmp 88) rfl b4 4 12 _ rfl s rfl (by omega) HT5.out ?_)
            have HA6 := hide (HA5.out.over 4 (strL s) (by rw [List.length_set, strL_length]; omega))
            have HB6 := hide (below_sets HQ.out (vals .u8 (strL s)) 4 _ HB5.out)
            generalize W5.setCells b4 4 (vals .u8 (strL s)) = W6 at *
            rw [HOV.out _ _ rfl rfl] at HA6
            have hV6 : Bytes W6 (.slice (some ⟨b4, 0, none⟩) F.length cap4) (headL (strL s) l.length (chk l) ++ l) := by
              have hl6 : (headL (strL s) l.length (chk l) ++ l).length = F.length := by rw [List.length_append, headL_length (by rw [strL_length]; omega), HFL.out]
              exact ⟨_, _, by rw [hl6], by rw [hl6]; exact hq1, hq2, by simp, fun _ => ⟨b4, 0, rfl, fun i hi => HA6.out.cell i hi⟩⟩
            have HV6 := hide hV6
            have hFI : (24 : Int) + (l.length : Int) = (F.length : Int) := by have := HFL.out; omega
            rw [hFI] at gn
            unfold GetDone at G
            rw [gn] at G
            clear hV6 HA5 HB5 HT5 hFI gn
            rcases hget with ⟨-, g1, g2, g3⟩ | ⟨g1, g2, g3, g4⟩
            · rw [g1, g2, g3, str_nil] at G
              clear g1 g2 g3
              go_wp2_with fail
              refine (G.out _ _ HV6.out (HK.out.on HB6.out)).mono ?_
              rintro e w7 ⟨v7, rfl, hown7, hbel7⟩
              obtain ⟨a7, cap7, rfl, -⟩ := hown7.bytes.form
              have HB7 := hide (below_on HB6.out hbel7)
              clear hown7 hbel7
              go_wp2
              go_ret
              exact ⟨rfl, HB7.out⟩
            · rw [g1, g4] at G
              have hst := strL_str _ (named_byte g2)
              have NC := hide (fun wx => named_any (strOfNums (geC (headL (strL s) l.length (chk l) ++ l))) wx (by rw [strOfNums_size]; have := (named_all g2).2.1; omega))
              have hneq : ((strOfNums (geC (headL (strL s) l.length (chk l) ++ l))).toList == s.toList) = false := by
                rw [str_beq, hst]
                exact decide_eq_false g3
              rw [hst, g2] at NC
              clear g1 g2 g3 g4 hst
              generalize strOfNums (geC (headL (strL s) l.length (chk l) ++ l)) = gc at *
              go_wp2_with fail
              refine (G.out _ _ HV6.out (HK.out.on HB6.out)).mono ?_
              rintro e w7 ⟨v7, rfl, hown7, hbel7⟩
              have HB7 := hide (below_on HB6.out hbel7)
              have HV7 := hide hown7.bytes
              clear hown7 hbel7
              go_wp2_with fail
              refine (NC.out _).mono ?_
              rintro e w8 ⟨rfl, rfl⟩
              go_wp2_with fail
              refine (SM.out _ _ _ HV7.out (HV.out.below HB7.out)).mono ?_
              rintro e w9 ⟨rfl, nn, rfl⟩
              go_wp2
              go_ret
              exact ⟨rfl, HB7.out.trans ⟨rfl, rfl, rfl, Nat.le_refl _, fun _ _ => rfl⟩⟩

set_option maxRecDepth 100000 in
theorem frameNames_lifted (os : Os) (started : os.Started) (H : Type) (enc : TypeId × Value → H) :
    ReturnsInHanded {} Tryd.checked os 3 .any (fun w args => (Rows.frameNamesSpec.pre enc Tryd.prog Tryd.f3 [] false w args ∧ laidMetH Tryd.prog laid3 w) ∧ sizedMet enc Tryd.prog Tryd.f3 (OpenSpec.ofChange Rows.frameNamesSpec) false w args)
      (Rows.frameNamesSpec.post enc Tryd.prog Tryd.f3 false true false false) := by
  refine returnsInHanded_of_change_and (C := Tryd.checked) (X := fun w _ => laidMetH Tryd.prog laid3 w) (fun _ _ _ hh h => h.of_heap hh) own started (by kernel_rfl) Tryd.func3
    (ChangeSpec.witness_shaped (enc := enc) (C := Tryd.checked) (os := os) (X := fun w _ => laidMetH Tryd.prog laid3 w) false (World.laidAll Tryd.prog os laid3) #[.string ⟨#[]⟩, .slice none 0 0] 8 (World.laidAll_os _ _ _) (World.shaped_of_ZipB (by kernel_rfl) (by kernel_rfl)) (by kernel_rfl) (by kernel_rfl) (by kernel_rfl) (laid_met os _)) ?_
  intro W base args ds gs before hval0 hW _ _ hL _
  have hval : ∀ (j : Nat) t v, Tryd.f3.params[j]? = some t → args[j]? = some v → Value.okWide Tryd.prog W .any base t v := hval0
  have hW' := hW
  obtain ⟨p, q, hA0, hV, rfl, hfz, hnd⟩ := hW
  have hA : DataW.TrodAll enc Tryd.prog W 0 (fun _ => true) true Tryd.f3.params.toList args.toList ds p := hA0
  rw [Tryd.params3] at hA hval
  obtain ⟨v0, vs0, d0, ds0, p0, q0, hargs, rfl, rfl, h0, r0⟩ := trodAll_cons hA
  obtain ⟨v1, vs1, d1, ds1, p1, q1, rfl, rfl, rfl, h1, r1⟩ := trodAll_cons r0
  obtain ⟨rfl, rfl, rfl⟩ := trodAll_nil r1
  obtain rfl : args = #[v0, v1] := by cases args; simp_all
  obtain ⟨rfl, rfl⟩ := trodVars_none hV
  obtain ⟨a0, rfl, rfl, rfl, w0⟩ := Go.ChangeMaps.open_string Tryd.underlying9 (hval 0 9 v0 rfl rfl) h0
  obtain ⟨b1, len1, cap1, rfl⟩ := okWide_slice Tryd.underlying22 (hval 1 22 v1 rfl rfl)
  have k1 := h1
  have lt1 : ∀ x ∈ p1, x.block < W.heap.size := by obtain ⟨m, hm⟩ := k1; exact DataW.trod_lt m _ _ _ hm
  obtain ⟨l1, s1, w1⟩ : ∃ l, Bytes W (.slice b1 len1 cap1) l ∧ ∀ z ∈ l, Byte z := by
    obtain ⟨fuel, hf⟩ := h1
    rcases open_ints Tryd.underlying22 Tryd.underlying5 (by kernel_rfl) hf with ⟨hcs, _⟩ | ⟨x, l, c, zs, hcs, _, hl, hm, hz, _, hcell, hwz⟩
    · simp [Value.cells] at hcs
      obtain ⟨rfl, rfl, rfl⟩ := hcs
      exact ⟨[], Bytes.nil _, by simp⟩
    · simp [Value.cells] at hcs
      obtain ⟨rfl, rfl, rfl⟩ := hcs
      exact bytes_row hl hm (by simpa using hz) hcell hwz
  clear hA0 hval0
  refine (frameNames_walk (w := W) (ks_of_laid hL) a0 (by simpa [maxLen] using w0) _ l1 w1 s1).mono fun e W' ⟨he, bel⟩ => ?_
  subst he
  exact ⟨_, rfl, _, _, _, [], _, [], hW', trodAll_mk1 (shut_bool Tryd.underlying4 _), (trodAll_cons_mk (Go.ChangeMaps.shut_string Tryd.underlying9 w0) (trodAll_cons_mk (Below.trod laidOut (by kernel_rfl) (of_decide_eq_true (by kernel_rfl)) k1 bel lt1) trodAll_mk0)), rfl, bel.frame _, fun h => by cases h⟩

theorem frameNames_holds : Rows.FrameNamesSaid :=
  OpenClaim.holds_of_wide 3 Tryd.f3 rfl rfl rfl rfl rfl rfl rfl ⟨rfl, rfl, rfl, rfl, rfl⟩ rfl rfl rfl rfl rfl (by kernel_rfl) Tryd.func3 (by kernel_rfl)
    (of_decide_eq_true (by kernel_rfl)) (by unfold Func.isWrapper; first | (rw [if_pos (by decide +kernel)]; kernel_rfl) | (rw [if_neg (by decide +kernel)]; exact ⟨rfl, rfl⟩))
    (fun os started H enc _ => frameNames_lifted os started H enc)
#print axioms frameNames_holds
theorem frameNames_card : Rows.FrameNamesCardSaid :=
  Claim7.holds_tied_plain_at .later [] [.data, .data, .pinned] true (true, "3f758ebdcbe3ce3d18b17f7fbddeee6375379576326756be94e2623fb14cde6f") false
    frameNames_holds (fun _ h => by cases h) (by kernel_rfl) (fun _ h => by cases h) frameNames_row_tie rfl ⟨rfl, rfl⟩ (by kernel_rfl) rfl
    (fun f fn hf hfn => by
      obtain rfl : f = 3 := Option.some.inj ((show Tryd.prog.funcNamed "pappus/pappuslaw05.FrameNames" = some 3 by kernel_rfl).symm.trans hf) |>.symm
      obtain rfl : fn = Tryd.f3 := (Option.some.inj (Tryd.func3.symm.trans hfn)).symm
      exact ⟨by kernel_rfl, fun j t ht => by
        rw [Tryd.params3] at ht
        have hm : t ∈ [9, 22] := by simpa using Array.mem_of_getElem? ht
        have hall : ([9, 22].all fun u => !Tryd.prog.wantsStandIn u) = true := by kernel_rfl
        exact (show Tryd.prog.wantsStandIn t = false by simpa using List.all_eq_true.1 hall t hm)⟩)
    (by kernel_rfl)
#print axioms frameNames_card
end Go.Proofs.YtbhninaaeeoamabDoor
