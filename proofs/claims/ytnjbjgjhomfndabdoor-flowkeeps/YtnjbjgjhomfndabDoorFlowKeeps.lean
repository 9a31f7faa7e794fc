/-
  FlowKeeps: of whatever two messages and place: what is fed is neither changed nor kept, and two flows are apart: the call returns true, and the arguments read as before.
-/
import Derived.Test.YtnjbjgjhomfndabDoorFrLaw
import Derived.Test.YtnjbjgjhomfndabDoorFlAlive
import Derived.Test.YtnjbjgjhomfndabDoorFlMsg
namespace Go.Proofs.YtnjbjgjhomfndabDoor
open Go.ChangeShapes Go.WideShapes Go.ChangeAt Go.RowKit

/-- A list of one item that has just been built. -/
theorem items_made (w : World) (s : ByteArray) (bv : Value) (l : List Int) (h : Bytes w bv l) : ItemsAt (w.alloc (.cells #[.string s, bv, .int .i64 0] 37)) (.slice (some ⟨w.heap.size, 0, none⟩) 1 1) [⟨strL s, l, 0⟩] := by
  refine ⟨_, _, rfl, by simp, by omega, fun _ => ⟨w.heap.size, 0, rfl, fun i x hx => ?_⟩⟩
  obtain ⟨hi, e⟩ := List.getElem?_eq_some_iff.1 hx
  have hi0 : i = 0 := by simp at hi; omega
  subst hi0
  simp only [List.getElem_cons_zero] at e
  subst e
  have hr := range_new w [.string s, bv, .int .i64 0] 37
  refine ⟨bv, ?_, ?_, ?_, h.alloc _⟩
  · show _ = some (Value.string (strOfNums (strL s)))
    rw [str_strL]
    exact hr 0 _ rfl
  · exact hr 1 _ rfl
  · exact hr 2 _ rfl
/-- What holds at the head of a round. -/
def Zeroing (w0 : World) (b : Nat) (F : List Int) (k : Nat) (i : Value) (wr : World) : Prop := ∃ j : Nat, j ≤ k ∧ i = .int .i64 j ∧ Arr wr b 0 .u8 (List.replicate j 0 ++ F.drop j) ∧ Besides b b w0 wr ∧ wr.heap.size = w0.heap.size
theorem zeros_next {F : List Int} {j : Nat} (h : j < F.length) : (List.replicate j 0 ++ F.drop j).set j 0 = List.replicate (j + 1) (0 : Int) ++ F.drop (j + 1) := by
  rw [List.set_append, if_neg (by simp), List.length_replicate, Nat.sub_self, List.drop_eq_getElem_cons h, List.set_cons_zero, List.replicate_succ', List.append_assoc]
  rfl

set_option maxRecDepth 100000 in
set_option maxHeartbeats 2000000 in
theorem flowKeeps_walk {w : World} (hk : Ks w) (a : ByteArray × List Int) (ha : MsgOk a) (av : Value) (hav : Bytes w av a.2) (b : ByteArray × List Int) (hb : MsgOk b) (bv : Value) (hbv : Bytes w bv b.2) (t : Int) (ht : 0 ≤ t ∧ t < 65536) :
    Calls Tryd.prog 3 #[.agg #[.string a.1, av], .agg #[.string b.1, bv], .int .u16 t] w fun e w' => e = .returned (.bool true) ∧ Below w.heap.size w w' := by
  obtain ⟨sa, la⟩ := a
  obtain ⟨sb, lb⟩ := b
  obtain ⟨hsa, hla⟩ := ha
  obtain ⟨hsb, hlb⟩ := hb
  simp only at hsa hla hsb hlb hav hbv
  obtain ⟨aa, ac, rfl, ha1, ha2⟩ := hav.form
  obtain ⟨ba, bc, rfl, hb1, hb2⟩ := hbv.form
  have hB0 : Below w.heap.size w ((w.alloc (.cells #[.string sa, .slice aa la.length ac] 24)).alloc (.cells #[.string sb, .slice ba lb.length bc] 24)) := ((Below.refl _ _).alloc (Nat.le_refl _) _).alloc (by rw [alloc_size]; omega) _
  have hrA := range_on (range_new w [.string sa, .slice aa la.length ac] 24) ((Below.refl _ _).alloc (Nat.le_refl _) (.cells #[.string sb, .slice ba lb.length bc] 24))
  have hrB := range_new (w.alloc (.cells #[.string sa, .slice aa la.length ac] 24)) [.string sb, .slice ba lb.length bc] 24
  rw [alloc_size] at hrB
  have HRA := hide hrA
  have HRB := hide hrB
  have HB0 := hide hB0
  have HS0 : Hid (((w.alloc (.cells #[.string sa, .slice aa la.length ac] 24)).alloc (.cells #[.string sb, .slice ba lb.length bc] 24)).heap.size = w.heap.size + 2) := hide (by rw [alloc_size, alloc_size])
  have HK := hide (hk.on hB0)
  have HAV := hide (hav.below hB0)
  have HBV := hide (hbv.below hB0)
  have HSA := hide (And.intro hsa hla)
  have HSB := hide (And.intro hsb hlb)
  have A := hide (alive_any _ (hk.on hB0))
  obtain ⟨t0, t1⟩ := ht
  clear hk hav hbv hB0 hrA hrB hsa hla hsb hlb
  go_enter Tryd.func3, Tryd.ntmps3
  go_upto_region 1 with fail
  generalize (w.alloc (.cells #[.string sa, .slice aa la.length ac] 24)).alloc (.cells #[.string sb, .slice ba lb.length bc] 24) = W at *
  generalize hg0 : w.heap.size = g0 at *
  have HG0 := hide hg0
  clear hg0
  go_wp2_with fail
  refine A.out.mono ?_
  rintro e w1 ⟨rfl, hb1'⟩
  have HB1 := hide hb1'
  have P1 := hide (fput_any w1 sa (.slice aa la.length ac) la (HAV.out.below hb1') (HK.out.on hb1') HSA.out.1)
  have hA1 := range_on HRA.out hb1'
  have a0 : w1.cell? ⟨g0, 0, none⟩ = some (.string sa) := hA1 0 _ rfl
  have a1 : w1.cell? ⟨g0, 1, none⟩ = some (.slice aa la.length ac) := hA1 1 _ rfl
  have HB01 := hide (HB0.out.trans (hb1'.mono (by have := HS0.out; omega)))
  clear hb1' hA1 A
  unfold FPutDone at P1
  go_wp2_with fail
  refine P1.out.mono ?_
  rintro e w2 ⟨vx, rfl, hmx, hnx, hbx⟩
  have HB2 := hide (below_on HB1.out hbx)
  have P2 := hide (fput_any w2 sb (.slice ba lb.length bc) lb (HBV.out.below HB2.out) (HK.out.on HB2.out) HSB.out.1)
  have hB2 := range_on HRB.out HB2.out
  have b0 : w2.cell? ⟨g0 + 1, 0, none⟩ = some (.string sb) := hB2 0 _ rfl
  have b1 : w2.cell? ⟨g0 + 1, 1, none⟩ = some (.slice ba lb.length bc) := hB2 1 _ rfl
  have HMX := hide (And.intro hmx (And.intro hnx hbx))
  clear hmx hnx hbx hB2 P1
  unfold FPutDone at P2
  go_wp2_with fail
  refine P2.out.mono ?_
  rintro e w3 ⟨vy, rfl, hmy, hny, hby⟩
  have HB3 := hide (below_on HB2.out hby)
  have HB03 : Hid (Below g0 w w3) := hide (HB0.out.trans (HB3.out.mono (by have := HS0.out; omega)))
  have HMY := hide (And.intro hmy hby)
  clear hmy hny hby P2 a0 a1 b0 b1
  by_cases hEa : fpE (strL sa) la = 0
  case neg =>
    have hne : (fpE (strL sa) la == 0) = false := beq_eq_false_iff_ne.2 hEa
    generalize fpE (strL sa) la = Ea at *
    generalize fpE (strL sb) lb = Eb at *
    clear HMX HMY
    go_wp2
    go_ret
    exact ⟨rfl, by rw [HG0.out]; exact HB03.out⟩
  by_cases hEb : fpE (strL sb) lb = 0
  case neg =>
    have hne : (fpE (strL sb) lb == 0) = false := beq_eq_false_iff_ne.2 hEb
    rw [hEa]
    generalize fpE (strL sb) lb = Eb at *
    clear HMX HMY
    go_wp2
    go_ret
    exact ⟨rfl, by rw [HG0.out]; exact HB03.out⟩
  obtain ⟨hna, hal⟩ : namedL (strL sa) = true ∧ la.length ≤ 2048 := by
    rcases fp_cases (strL sa) la with ⟨-, h'⟩ | ⟨-, -, h'⟩ | ⟨h1, h2, -⟩
    · omega
    · omega
    · exact ⟨h1, h2⟩
  obtain ⟨hnb, hbl⟩ : namedL (strL sb) = true ∧ lb.length ≤ 2048 := by
    rcases fp_cases (strL sb) lb with ⟨-, h'⟩ | ⟨-, -, h'⟩ | ⟨h1, h2, -⟩
    · omega
    · omega
    · exact ⟨h1, h2⟩
  obtain ⟨hmx, -, hbx⟩ := HMX.out
  obtain ⟨hmy, hby⟩ := HMY.out
  have hmx := hmx hEa
  have hmy := hmy hEb
  have hfa : fpL (strL sa) la = frameL (strL sa) la := by unfold fpL frameL; rw [if_pos hEa]
  have hfb : fpL (strL sb) lb = frameL (strL sb) lb := by unfold fpL frameL; rw [if_pos hEb]
  rw [hfa] at hmx
  rw [hfb] at hmy
  rw [hEa, hEb]
  have hFal : (frameL (strL sa) la).length = 24 + la.length := frameL_length hna la
  have hFbl : (frameL (strL sb) lb).length = 24 + lb.length := frameL_length hnb lb
  have HFAB := hide (frameL_byte hna HSA.out.2)
  have HFBB := hide (frameL_byte hnb HSB.out.2)
  obtain ⟨kk, hkk⟩ : ∃ kk : Nat, t % ((frameL (strL sa) la).length : Int) = (kk : Int) := ⟨(t % ((frameL (strL sa) la).length : Int)).toNat, (Int.toNat_of_nonneg (Int.emod_nonneg _ (by omega))).symm⟩
  have hkl : kk < (frameL (strL sa) la).length := by have := Int.emod_lt_of_pos t (show (0 : Int) < ((frameL (strL sa) la).length : Int) by omega); omega
  have hk1 : t.tmod ((frameL (strL sa) la).length : Int) = (kk : Int) := by rw [Int.tmod_eq_emod_of_nonneg t0, hkk]
  have R1 : Hid (FRuns false [] ((frameL (strL sa) la).take kk) [] ((frameL (strL sa) la).take kk) false) := hide (Or.inl ⟨rfl, .short (frame_cut hna hal kk (by omega))⟩)
  have R2 : Hid (FRuns false ((frameL (strL sa) la).take kk) ((frameL (strL sa) la).drop kk) [⟨strL sa, la, 0⟩] [] false) := hide (Or.inl ⟨rfl, by
    rw [List.take_append_drop]
    have := runs_frame hna hal runs_nil
    rwa [List.append_nil] at this⟩)
  have R3 : Hid (FRuns false [] (frameL (strL sb) lb) [⟨strL sb, lb, 0⟩] [] false) := hide (Or.inl ⟨rfl, by
    have := runs_frame hnb hbl runs_nil
    rwa [List.append_nil] at this⟩)
  have hFa2 : (frameL (strL sa) la).length ≤ 2072 := by omega
  have hFb2 : (frameL (strL sb) lb).length ≤ 2072 := by omega
  have hF0 : (((frameL (strL sa) la).length : Int) == 0) = false := beq_eq_false_iff_ne.2 (by omega)
  generalize hFA : frameL (strL sa) la = FA at *
  generalize hFB : frameL (strL sb) lb = FB at *
  obtain ⟨b2, cap2, rfl, hq1, hq2, hq3, hAx⟩ := hmx
  obtain ⟨b3, cap3, rfl, hq4, hq5, hq6, hAy⟩ := hmy
  have HAX := hide (hAx.on hby)
  have HAY := hide hAy
  have HBL : Hid (w1.heap.size ≤ b2 ∧ b2 < w3.heap.size ∧ w2.heap.size ≤ b3 ∧ b3 < w3.heap.size ∧ W.heap.size ≤ w1.heap.size ∧ w1.heap.size ≤ w2.heap.size ∧ w2.heap.size ≤ w3.heap.size) := hide ⟨hq3, Nat.lt_of_lt_of_le (hAx.lt (by omega)) hby.size, hq6, hAy.lt (by omega), HB1.out.size, hbx.size, hby.size⟩
  have hkI : (kk : Int) < (FA.length : Int) := by omega
  have SM := hide (fun wx p q (h : Bytes wx p FA) (j : Bytes wx q FA) => same_any FA FA p q wx h j)
  rw [decide_eq_true rfl] at SM
  have NW := hide new_any
  clear hmx hmy hbx hby hAx hAy hfa hfb hna hal hnb hbl hEa hEb hkk hFal hFbl HMX HMY hFA hFB hq3 hq6
  have hVX3 := HAX.out.bytesL (by omega)
  have HVX3 : Hid (Bytes w3 (.slice (some ⟨b2, 0, none⟩) FA.length cap2) FA) := hide ⟨_, _, rfl, hq1, hq2, by simp, fun _ => ⟨b2, 0, rfl, fun i hi => HAX.out.cell i hi⟩⟩
  have HVY3 : Hid (Bytes w3 (.slice (some ⟨b3, 0, none⟩) FB.length cap3) FB) := hide ⟨_, _, rfl, hq4, hq5, by simp, fun _ => ⟨b3, 0, rfl, fun i hi => HAY.out.cell i hi⟩⟩
  clear hVX3
  go_wp2_with (at_builtin; refine wp_append rfl (.tmp 48) (.tmp 49) rfl w3.heap.size _ [] rfl (Own.made _ _ (Nat.le_refl _)) _ FA rfl (HVX3.out.alloc _) ?c1 ?c2 ?_)
  case c1 => simp; omega
  case c2 => simp
  intro v4 w4 ho4 hb4
  have HB34 : Hid (Below w3.heap.size w3 w4) := hide (((Below.refl _ _).alloc (Nat.le_refl _) _).trans hb4)
  have HV4 := hide ho4.bytes
  obtain ⟨wa4, wc4, rfl, -, -⟩ := ho4.bytes.form
  clear ho4 hb4
  go_wp2_with fail
  refine (NW.out _).mono ?_
  rintro e w5 ⟨rfl, hG5, hs5, hb5⟩
  have HG5 := hide hG5
  have HS5 := hide hs5
  have HB35 := hide (below_on HB34.out hb5)
  have HB45 := hide hb5
  have HS34 := hide HB34.out.size
  clear hG5 hs5 hb5 HB34
  go_wp2_with fail
  refine (NW.out _).mono ?_
  rintro e w6 ⟨rfl, hH6, hs6, hb6⟩
  obtain ⟨pg, hpg⟩ : ∃ pg, pg = w4.heap.size := ⟨_, rfl⟩
  obtain ⟨ph, hph⟩ : ∃ ph, ph = w5.heap.size := ⟨_, rfl⟩
  have hG6 := HG5.out.on hb6
  rw [← hpg] at hG6 ⊢
  rw [← hph] at hH6 ⊢
  have HB36 := hide (below_on HB35.out hb6)
  have HPP : Hid (w3.heap.size ≤ pg ∧ ph = pg + 1 ∧ w6.heap.size = pg + 2 ∧ w4.heap.size = pg) := hide ⟨by rw [hpg]; exact HS34.out, by rw [hph, HS5.out, hpg], by rw [hs6, HS5.out, hpg], hpg.symm⟩
  have HB46 := hide (below_on HB45.out hb6)
  have HH6 := hide hH6
  clear hs6 hb6 hpg hph HS34 HS5 HG5 HB45 HB35
  obtain ⟨a7, hrun7, hhead7⟩ := head_of (some ⟨b2, 0, none⟩) FA.length cap2 kk .i64 (by omega) hq1
  obtain ⟨a9, c9, hrun9, htail9⟩ := tail_of (some ⟨b2, 0, none⟩) FA.length cap2 kk .i64 (by omega)
  have HRUN7 := hide hrun7
  have HRUN9 := hide hrun9
  have HTAIL9 := hide htail9
  have hbw : Below W.heap.size W w6 := HB3.out.trans (HB36.out.mono HB3.out.size)
  have HKS6 : Hid (Keeps (off pg pg) w6 Ks) := hide (HK.out.old hbw fun g hg => by have := HBL.out; have := HPP.out; exact ⟨by omega, by omega⟩)
  have HKX6 : Hid (Keeps (off pg pg) w6 fun w => Bytes w (.slice (some ⟨b2, 0, none⟩) FA.length cap2) FA) := hide (HVX3.out.old HB36.out fun g hg => by have := HPP.out; exact ⟨by omega, by omega⟩)
  have FE := hide (feed_any w6 pg pg [] false (.slice a7 kk cap2) (FA.take kk) _ _ _ hG6 (by simp) (fun z hz => HFAB.out z (List.mem_of_mem_take hz)) (HKX6.out.map fun w h => hhead7 w _ h) HKS6.out R1.out (by simp; omega))
  have HBW6 := hide hbw
  clear hG6 hrun7 hhead7 hrun9 htail9 hbw
  go_wp2_with (refine wp_upto rfl (.tmp 54) (.tmp 55) rfl _ _ _ rfl rfl HRUN7.out ?_)
  refine FE.out.mono ?_
  rintro e w7 ⟨v7, q7, rfl, hG7, hBs7, hq7, hI7⟩
  obtain ⟨ia7, ic7, rfl, -⟩ := hI7.read.none
  have hpp := HPP.out
  have hq7' : q7 = pg ∨ w6.heap.size ≤ q7 := by omega
  have hH7 : Flw w7 ph ph [] false := HH6.out.beside hBs7 (by omega) (by omega) (by omega) (by omega)
  have hB37 : Below w3.heap.size w3 w7 := HB36.out.trans (hBs7.ground (by omega) (by omega) (by omega))
  have hBW7 : Below W.heap.size W w7 := HB3.out.trans (hB37.mono HB3.out.size)
  have hB47 : Below w4.heap.size w4 w7 := HB46.out.trans (hBs7.ground (by omega) (by omega) (by omega))
  have hbl := HBL.out
  have FE8 := hide (feed_any w7 ph ph [] false (.slice (some ⟨b3, 0, none⟩) FB.length cap3) FB _ _ _ hH7 (by simp) HFBB.out (HVY3.out.old hB37 fun g hg => ⟨by omega, by omega⟩) (HK.out.old hBW7 fun g hg => ⟨by omega, by omega⟩) R3.out (by simp; omega))
  have HM7 := hide (And.intro hG7 (And.intro hq7' (And.intro hB37 (And.intro hB47 (And.intro hBW7 hBs7.size)))))
  clear hG7 hBs7 hq7 hq7' hI7 hpp hH7 hB37 hB47 hBW7 hbl FE HKX6 HKS6 HH6 HBW6 HB36 HB46
  go_wp2_with fail
  refine FE8.out.mono ?_
  rintro e w8 ⟨v8, q8, rfl, hH8, hBs8, hq8, hI8⟩
  obtain ⟨ia8, ic8, rfl, -, -⟩ := hI8.length
  have hpp := HPP.out
  have hbl := HBL.out
  obtain ⟨hG7, hq7, hB37, hB47, hBW7, hs7⟩ := HM7.out
  have hG8 : Flw w8 pg q7 (FA.take kk) false := hG7.beside hBs8 (by omega) (by omega) (by omega) (by omega)
  have hB38 : Below w3.heap.size w3 w8 := hB37.trans (hBs8.ground (by omega) (by omega) (by omega))
  have hB48 : Below w4.heap.size w4 w8 := hB47.trans (hBs8.ground (by omega) (by omega) (by omega))
  have hVX8 := HVX3.out.below hB38
  have hV48 := HV4.out.below hB48
  have SM8 := hide (SM.out w8 _ _ hVX8 hV48)
  have HA8 := hide (HAX.out.on hB38)
  have HI8 := hide hI8
  have HG8 := hide hG8
  have HB38 := hide hB38
  have HW8 : Hid (w7.heap.size ≤ w8.heap.size ∧ w6.heap.size ≤ w7.heap.size ∧ (q7 = pg ∨ w6.heap.size ≤ q7) ∧ q7 < w7.heap.size ∧ (q8 = ph ∨ w7.heap.size ≤ q8)) := hide ⟨hBs8.size, hs7, hq7, hG7.lt.2, by omega⟩
  clear hG7 hq7 hB37 hB47 hBW7 hs7 hH8 hBs8 hq8 hI8 hpp hbl hG8 hB38 hB48 hVX8 hV48 FE8 HM7 HV4 HVX3 HVY3 HAY HAX SM
  go_wp2_with fail
  refine SM8.out.mono ?_
  rintro e w9' ⟨rfl, nn, rfl⟩
  have hd9 : Below w8.heap.size w8 (w8.drewN nn) := ⟨rfl, rfl, rfl, Nat.le_refl _, fun _ _ => rfl⟩
  have HA9 := hide (HA8.out.on hd9)
  have HG9 := hide (HG8.out.on hd9)
  have HI9 := hide (HI8.out.below hd9)
  have HB39 := hide (below_on HB38.out hd9)
  have HW9 : Hid ((w8.drewN nn).heap.size = w8.heap.size) := hide rfl
  clear hd9 HA8 HG8 HI8 HB38 SM8
  generalize w8.drewN nn = w9 at *
  have HS : Hid (Zeroing w9 b2 FA kk (.int .i64 0) w9) := hide ⟨0, by omega, rfl, by simpa using HA9.out, Besides.refl _ _ _, rfl⟩
  go_wp2_with fail
  go_loopw [71] (fun i wr => Zeroing w9 b2 FA kk i wr) (fun i _ => kk - (intOf i).toNat)
  case atStart => exact HS.out
  case round =>
    clear HS
    obtain ⟨j, hj, rfl, hAr, hBz, hsz⟩ := hrel
    by_cases hlt : j < kk
    · have hll : (List.replicate j (0 : Int) ++ FA.drop j).length = FA.length := by simp; omega
      have c0 := hAr.cell0 j (by omega)
      have c1 := hAr.free0 j (by omega)
      have R : Hid (Zeroing w9 b2 FA kk (.int .i64 ((j + 1 : Nat) : Int)) (wr.setCell ⟨b2, j, none⟩ (.int .u8 0))) := hide ⟨j + 1, by omega, rfl, by
        have := hAr.set0 j (by omega) 0
        rwa [zeros_next (by omega)] at this, hBz.set ⟨b2, j, none⟩ (Or.inl rfl) _, by rw [size_setCell]; exact hsz⟩
      have hjI : (j : Int) < (kk : Int) := by omega
      have hjF : (j : Int) < (FA.length : Int) := by omega
      clear hAr hBz hsz hll
      go_wp2
      go_roundw
      case rel => first | exact R.out | ((repeat apply Exists.intro); exact ⟨R.out, rfl⟩)
      case measure => simp [intOf]; omega
    · have hj2 : (kk : Int) ≤ (j : Int) := by omega
      have hjk : j = kk := by omega
      rw [hjk] at hAr
      have hpp := HPP.out
      have hbl := HBL.out
      have hw8 := HW8.out
      have hw9 := HW9.out
      have hll : (List.replicate kk (0 : Int) ++ FA.drop kk).length = FA.length := by simp; omega
      have hbX : Bytes wr (.slice (some ⟨b2, 0, none⟩) FA.length cap2) (List.replicate kk 0 ++ FA.drop kk) := ⟨_, _, by rw [hll], by omega, hq2, by simp, fun _ => ⟨b2, 0, rfl, fun i hi => hAr.cell i hi⟩⟩
      have hdr : (List.replicate kk (0 : Int) ++ FA.drop kk).drop kk = FA.drop kk := by
        conv => lhs; rw [show kk = (List.replicate kk (0 : Int)).length by simp]
        rw [List.length_replicate, List.drop_append_of_le_length (by simp)]
        simp
      have hKX : Keeps (off pg q7) wr fun w => Bytes w (.slice a9 (FA.length - kk) c9) (FA.drop kk) := (hbX.keeps (P := off pg q7) fun k hk => by
        have hk : b2 = k := by simpa [Value.ownBlock] using hk
        exact ⟨by omega, by omega⟩).map fun w' h => by
          have := HTAIL9.out w' _ h
          rwa [hdr] at this
      have hBWr : Below W.heap.size W wr := (HB3.out.trans (HB39.out.mono HB3.out.size)).trans (hBz.ground (by omega) (by omega) (by omega))
      have hGr : Flw wr pg q7 (FA.take kk) false := HG9.out.beside hBz (by omega) (by omega) (by omega) (by omega)
      have hIr : Items wr w7.heap.size (fun g => g < w7.heap.size ∨ g = q8) (.slice ia8 [(⟨strL sb, lb, 0⟩ : It)].length ic8) [⟨strL sb, lb, 0⟩] := HI9.out.move (by omega) (fun g hg ha => by
        have h1 : ¬ g < w7.heap.size := fun h => ha (Or.inl h)
        exact hBz.block g hg (by omega) (by omega)) (fun _ _ h => h)
      have FE := hide (feed_any wr pg q7 (FA.take kk) false (.slice a9 (FA.length - kk) c9) (FA.drop kk) _ _ _ hGr (fun z hz => HFAB.out z (List.mem_of_mem_take hz)) (fun z hz => HFAB.out z (List.mem_of_mem_drop hz)) hKX (HK.out.old hBWr fun g hg => ⟨by omega, by omega⟩) R2.out (by simp; omega))
      have HBWR := hide hBWr
      have HIR := hide hIr
      have HSR : Hid (wr.heap.size = w8.heap.size) := hide (by omega)
      clear hjk hAr hBz hsz hpp hbl hw8 hw9 hll hbX hdr hKX hBWr hGr hIr HA9 HG9 HI9
      go_wp2_with (refine wp_from rfl (.tmp 79) (.tmp 80) rfl _ _ _ rfl rfl HRUN9.out ?_)
      refine FE.out.mono ?_
      rintro e w10 ⟨v10, q10, rfl, hG10, hBs10, hq10, hI10⟩
      have hpp := HPP.out
      have hbl := HBL.out
      have hw8 := HW8.out
      have hsr := HSR.out
      have hBW10 : Below W.heap.size W w10 := HBWR.out.trans (hBs10.ground (by omega) (by omega) (by omega))
      have hAr := range_on HRA.out hBW10
      have x0 : w10.cell? ⟨g0, 0, none⟩ = some (.string sa) := hAr 0 _ rfl
      have x1 : w10.cell? ⟨g0, 1, none⟩ = some (.slice aa la.length ac) := hAr 1 _ rfl
      have hal11 : Below w10.heap.size w10 (w10.alloc (.cells #[.string sa, .slice aa la.length ac, .int .i64 0] 37)) := (Below.refl _ _).alloc (Nat.le_refl _) _
      have SM11 := hide (same6_any [⟨strL sa, la, 0⟩] v10 _ _ (hI10.read.below hal11) (items_made w10 sa (.slice aa la.length ac) la (HAV.out.below hBW10)))
      have hI8' : Items w10 w7.heap.size (fun g => g < w7.heap.size ∨ g = q8) (.slice ia8 [(⟨strL sb, lb, 0⟩ : It)].length ic8) [⟨strL sb, lb, 0⟩] := HIR.out.move hBs10.size (fun g hg ha => by
        have h1 : ¬ g < w7.heap.size := fun h => ha (Or.inl h)
        exact hBs10.block g hg (by omega) (by omega)) (fun _ _ h => h)
      have HI11 := hide (hI8'.below hal11)
      have HBW11 := hide (below_on hBW10 hal11)
      obtain ⟨ia10, ic10, rfl, -, -⟩ := hI10.length
      clear hG10 hBs10 hq10 hI10 hpp hbl hw8 hsr hBW10 hAr hal11 hI8' FE HIR HBWR
      go_wp2_with fail
      refine SM11.out.mono ?_
      rintro e w12 ⟨rfl, hb12⟩
      have hBW12 := below_on HBW11.out hb12
      have hBr := range_on HRB.out hBW12
      have y0 : w12.cell? ⟨g0 + 1, 0, none⟩ = some (.string sb) := hBr 0 _ rfl
      have y1 : w12.cell? ⟨g0 + 1, 1, none⟩ = some (.slice ba lb.length bc) := hBr 1 _ rfl
      have hal13 : Below w12.heap.size w12 (w12.alloc (.cells #[.string sb, .slice ba lb.length bc, .int .i64 0] 37)) := (Below.refl _ _).alloc (Nat.le_refl _) _
      have SM13 := hide (same6_any [⟨strL sb, lb, 0⟩] (.slice ia8 [(⟨strL sb, lb, 0⟩ : It)].length ic8) _ _ ((HI11.out.below hb12).read.below hal13) (items_made w12 sb (.slice ba lb.length bc) lb (HBV.out.below hBW12)))
      have HB13 := hide (below_on hBW12 hal13)
      clear hb12 hBW12 hBr hal13 HI11 HBW11 SM11 x0 x1
      simp only [List.length_cons, List.length_nil, Nat.zero_add] at SM13
      go_wp2_with fail
      refine SM13.out.mono ?_
      rintro e w14 ⟨rfl, hb14⟩
      have HB14 : Hid (Below w.heap.size w w14) := hide (by rw [HG0.out]; exact HB0.out.trans ((below_on HB13.out hb14).mono (by have := HS0.out; omega)))
      clear hb14
      go_wp2
      go_ret
      exact ⟨rfl, HB14.out⟩

set_option maxRecDepth 100000 in
theorem flowKeeps_lifted (os : Os) (started : os.Started) (H : Type) (enc : TypeId × Value → H) :
    ReturnsInHanded {} Tryd.checked os 3 .any (fun w args => (Rows.flowKeepsSpec.pre enc Tryd.prog Tryd.f3 [] false w args ∧ laidMetH Tryd.prog laid3 w) ∧ sizedMet enc Tryd.prog Tryd.f3 (OpenSpec.ofChange Rows.flowKeepsSpec) false w args)
      (Rows.flowKeepsSpec.post enc Tryd.prog Tryd.f3 false true false false) := by
  refine returnsInHanded_of_change_and (C := Tryd.checked) (X := fun w _ => laidMetH Tryd.prog laid3 w) (fun _ _ _ hh h => h.of_heap hh) own started (by kernel_rfl) Tryd.func3
    (ChangeSpec.witness_shaped (enc := enc) (C := Tryd.checked) (os := os) (X := fun w _ => laidMetH Tryd.prog laid3 w) false (World.laidAll Tryd.prog os laid3) #[.agg #[.string ⟨#[]⟩, .slice none 0 0], .agg #[.string ⟨#[]⟩, .slice none 0 0], .int .u16 0] 8 (World.laidAll_os _ _ _) (World.shaped_of_ZipB (by kernel_rfl) (by kernel_rfl)) (by kernel_rfl) (by kernel_rfl) (by kernel_rfl) (laid_met os _)) ?_
  intro W base args ds gs before hval0 hW _ _ hL _
  have hval : ∀ (j : Nat) t v, Tryd.f3.params[j]? = some t → args[j]? = some v → Value.okWide Tryd.prog W .any base t v := hval0
  have hW' := hW
  obtain ⟨p, q, hA0, hV, rfl, hfz, hnd⟩ := hW
  have hA : DataW.TrodAll enc Tryd.prog W 0 (fun _ => true) true Tryd.f3.params.toList args.toList ds p := hA0
  rw [Tryd.params3] at hA hval
  obtain ⟨v0, vs0, d0, ds0, p0, q0, hargs, rfl, rfl, h0, r0⟩ := trodAll_cons hA
  obtain ⟨v1, vs1, d1, ds1, p1, q1, rfl, rfl, rfl, h1, r1⟩ := trodAll_cons r0
  obtain ⟨v2, vs2, d2, ds2, p2, q2, rfl, rfl, rfl, h2, r2⟩ := trodAll_cons r1
  obtain ⟨rfl, rfl, rfl⟩ := trodAll_nil r2
  obtain rfl : args = #[v0, v1, v2] := by cases args; simp_all
  obtain ⟨rfl, rfl⟩ := trodVars_none hV
  have k0 := h0
  have lt0 : ∀ x ∈ p0, x.block < W.heap.size := by obtain ⟨m, hm⟩ := k0; exact DataW.trod_lt m _ _ _ hm
  obtain ⟨c0, u0, y0, z0, n0, rfl, _, _, t0, j0⟩ := Joins.open_agg2 Tryd.underlying24 (by kernel_rfl) (by kernel_rfl) (hval 0 24 v0 rfl rfl) h0
  obtain ⟨m0, rfl, s0, w0⟩ := msg_cells Tryd.underlying9 Tryd.underlying22 Tryd.underlying5 (by kernel_rfl) (fun _ => rfl) t0 j0
  have k1 := h1
  have lt1 : ∀ x ∈ p1, x.block < W.heap.size := by obtain ⟨m, hm⟩ := k1; exact DataW.trod_lt m _ _ _ hm
  obtain ⟨c1, u1, y1, z1, n1, rfl, _, _, t1, j1⟩ := Joins.open_agg2 Tryd.underlying24 (by kernel_rfl) (by kernel_rfl) (hval 1 24 v1 rfl rfl) h1
  obtain ⟨m1, rfl, s1, w1⟩ := msg_cells Tryd.underlying9 Tryd.underlying22 Tryd.underlying5 (by kernel_rfl) (fun _ => rfl) t1 j1
  obtain ⟨a2, rfl, rfl, rfl, w2⟩ := open_int Tryd.underlying25 (hval 2 25 v2 rfl rfl) h2
  clear hA0 hval0
  refine (flowKeeps_walk (w := W) (ks_of_laid hL) m0 w0 _ s0 m1 w1 _ s1 a2 (short_of_wf w2)).mono fun e W' ⟨he, bel⟩ => ?_
  subst he
  exact ⟨_, rfl, _, _, _, [], _, [], hW', trodAll_mk1 (shut_bool Tryd.underlying4 _), (trodAll_cons_mk (Below.trod laidOut (by kernel_rfl) (of_decide_eq_true (by kernel_rfl)) k0 bel lt0) (trodAll_cons_mk (Below.trod laidOut (by kernel_rfl) (of_decide_eq_true (by kernel_rfl)) k1 bel lt1) (trodAll_cons_mk (shut_int Tryd.underlying25 w2) trodAll_mk0))), rfl, bel.frame _, fun h => by cases h⟩

theorem flowKeeps_holds : Rows.FlowKeepsSaid :=
  OpenClaim.holds_of_wide 3 Tryd.f3 rfl rfl rfl rfl rfl rfl rfl ⟨rfl, rfl, rfl, rfl, rfl⟩ rfl rfl rfl rfl rfl (by kernel_rfl) Tryd.func3 (by kernel_rfl)
    (of_decide_eq_true (by kernel_rfl)) (by unfold Func.isWrapper; first | (rw [if_pos (by decide +kernel)]; kernel_rfl) | (rw [if_neg (by decide +kernel)]; exact ⟨rfl, rfl⟩))
    (fun os started H enc _ => flowKeeps_lifted os started H enc)
#print axioms flowKeeps_holds
theorem flowKeeps_card : Rows.FlowKeepsCardSaid :=
  Claim7.holds_tied_plain_at .later [] [.data, .data, .pinned] true (true, "32bee5e0744e9f46e7e24edb28dc49cc563c90220e8943840688d0fdb6351931") false
    flowKeeps_holds (fun _ h => by cases h) (by kernel_rfl) (fun _ h => by cases h) flowKeeps_row_tie rfl ⟨rfl, rfl⟩ (by kernel_rfl) rfl
    (fun f fn hf hfn => by
      obtain rfl : f = 3 := Option.some.inj ((show Tryd.prog.funcNamed "pappus/pappuslaw06.FlowKeeps" = some 3 by kernel_rfl).symm.trans hf) |>.symm
      obtain rfl : fn = Tryd.f3 := (Option.some.inj (Tryd.func3.symm.trans hfn)).symm
      exact ⟨by kernel_rfl, fun j t ht => by
        rw [Tryd.params3] at ht
        have hm : t ∈ [24, 24, 25] := by simpa using Array.mem_of_getElem? ht
        have hall : ([24, 24, 25].all fun u => !Tryd.prog.wantsStandIn u) = true := by kernel_rfl
        exact (show Tryd.prog.wantsStandIn t = false by simpa using List.all_eq_true.1 hall t hm)⟩)
    (by kernel_rfl)
#print axioms flowKeeps_card
end Go.Proofs.YtnjbjgjhomfndabDoor
