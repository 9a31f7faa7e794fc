/-
  FlowSpoilt: of whatever three messages and place: a frame that is spoilt in its body, between two others, is told as that, and the others come, where the document's checks of both bodies differ: the call returns true, and the arguments read as before.
-/
import Derived.Test.YtnjbjgjhomfndaaDoorFrLaw
import Derived.Test.YtnjbjgjhomfndaaDoorFlAlive
import Derived.Test.YtnjbjgjhomfndaaDoorFlMsg
import Derived.Test.YtnjbjgjhomfndaaDoorThree
import Derived.Test.YtnjbjgjhomfndaaDoorFrTurn
import Derived.Test.YtnjbjgjhomfndaaDoorKitA
import Derived.Test.YtnjbjgjhomfndaaDoorRefSha
import Derived.Deep.DeepCutAuto
namespace Go.Proofs.YtnjbjgjhomfndaaDoor
open Go.ChangeShapes Go.WideShapes Go.ChangeAt Go.RowKit

/-- A message in its box. -/
def Pair (w : World) (p : Nat) (s : ByteArray) (v : Value) : Prop := w.cell? ⟨p, 0, none⟩ = some (.string s) ∧ w.cell? ⟨p, 1, none⟩ = some v
theorem Pair.on {w w' : World} {p : Nat} {s : ByteArray} {v : Value} (h : Pair w p s v) (hb : Below w.heap.size w w') : Pair w' p s v :=
  ⟨(hb.cell (World.block_lt_of_cell? _ _ h.1)).trans h.1, (hb.cell (World.block_lt_of_cell? _ _ h.2)).trans h.2⟩
theorem Pair.new (w : World) (s : ByteArray) (v : Value) (t : TypeId) : Pair (w.alloc (.cells #[.string s, v] t)) w.heap.size s v := by
  have h := range_new w [.string s, v] t
  exact ⟨h 0 _ rfl, h 1 _ rfl⟩
/-- The three boxes. -/
def Boxes (w : World) (sa sb sc : ByteArray) (x y z : Value) (s5 s6 s7 : Value) (wx : World) : Prop :=
  ∃ p5 p6 p7 : Nat, s5 = .pointer (some ⟨p5, 0, none⟩) ∧ s6 = .pointer (some ⟨p6, 0, none⟩) ∧ s7 = .pointer (some ⟨p7, 0, none⟩) ∧ Pair wx p5 sa x ∧ Pair wx p6 sb y ∧ Pair wx p7 sc z ∧ Below w.heap.size w wx

theorem three_new (w : World) (s1 s2 s3 : ByteArray) (v1 v2 v3 : Value) (t : TypeId) :
    Pair (((w.alloc (.cells #[.string s1, v1] t)).alloc (.cells #[.string s2, v2] t)).alloc (.cells #[.string s3, v3] t)).drew w.heap.size s1 v1 ∧ Pair (((w.alloc (.cells #[.string s1, v1] t)).alloc (.cells #[.string s2, v2] t)).alloc (.cells #[.string s3, v3] t)).drew (w.heap.size + 1) s2 v2 ∧
    Pair (((w.alloc (.cells #[.string s1, v1] t)).alloc (.cells #[.string s2, v2] t)).alloc (.cells #[.string s3, v3] t)).drew (w.heap.size + 1 + 1) s3 v3 ∧ Below w.heap.size w (((w.alloc (.cells #[.string s1, v1] t)).alloc (.cells #[.string s2, v2] t)).alloc (.cells #[.string s3, v3] t)).drew := by
  have b1 : Below w.heap.size w (w.alloc (.cells #[.string s1, v1] t)) := (Below.refl _ _).alloc (Nat.le_refl _) _
  have b2 : Below (w.alloc (.cells #[.string s1, v1] t)).heap.size (w.alloc (.cells #[.string s1, v1] t)) ((w.alloc (.cells #[.string s1, v1] t)).alloc (.cells #[.string s2, v2] t)) := (Below.refl _ _).alloc (Nat.le_refl _) _
  have b3 : Below ((w.alloc (.cells #[.string s1, v1] t)).alloc (.cells #[.string s2, v2] t)).heap.size ((w.alloc (.cells #[.string s1, v1] t)).alloc (.cells #[.string s2, v2] t)) (((w.alloc (.cells #[.string s1, v1] t)).alloc (.cells #[.string s2, v2] t)).alloc (.cells #[.string s3, v3] t)).drew := ((Below.refl _ _).alloc (Nat.le_refl _) _).drew
  have p1 := (Pair.new w s1 v1 t).on (below_on b2 b3)
  have p2 := (Pair.new (w.alloc (.cells #[.string s1, v1] t)) s2 v2 t).on b3
  have p3 := (Pair.new ((w.alloc (.cells #[.string s1, v1] t)).alloc (.cells #[.string s2, v2] t)) s3 v3 t).on (Below.refl _ _).drew
  rw [alloc_size] at p2
  rw [alloc_size, alloc_size] at p3
  exact ⟨p1, p2, p3, below_on b1 (below_on b2 b3)⟩

theorem boxes_abc (w : World) (sa sb sc : ByteArray) (x y z : Value) (t : TypeId) : Boxes w sa sb sc x y z (.pointer (some ⟨w.heap.size, 0, none⟩)) (.pointer (some ⟨w.heap.size + 1, 0, none⟩)) (.pointer (some ⟨w.heap.size + 1 + 1, 0, none⟩)) (((w.alloc (.cells #[.string sa, x] t)).alloc (.cells #[.string sb, y] t)).alloc (.cells #[.string sc, z] t)).drew := by
  have T := three_new w sa sb sc x y z t
  exact ⟨_, _, _, rfl, rfl, rfl, T.1, T.2.1, T.2.2.1, T.2.2.2⟩
theorem boxes_acb (w : World) (sa sb sc : ByteArray) (x y z : Value) (t : TypeId) : Boxes w sa sb sc x y z (.pointer (some ⟨w.heap.size, 0, none⟩)) (.pointer (some ⟨w.heap.size + 1 + 1, 0, none⟩)) (.pointer (some ⟨w.heap.size + 1, 0, none⟩)) (((w.alloc (.cells #[.string sa, x] t)).alloc (.cells #[.string sc, z] t)).alloc (.cells #[.string sb, y] t)).drew := by
  have T := three_new w sa sc sb x z y t
  exact ⟨_, _, _, rfl, rfl, rfl, T.1, T.2.2.1, T.2.1, T.2.2.2⟩
theorem boxes_bac (w : World) (sa sb sc : ByteArray) (x y z : Value) (t : TypeId) : Boxes w sa sb sc x y z (.pointer (some ⟨w.heap.size + 1, 0, none⟩)) (.pointer (some ⟨w.heap.size, 0, none⟩)) (.pointer (some ⟨w.heap.size + 1 + 1, 0, none⟩)) (((w.alloc (.cells #[.string sb, y] t)).alloc (.cells #[.string sa, x] t)).alloc (.cells #[.string sc, z] t)).drew := by
  have T := three_new w sb sa sc y x z t
  exact ⟨_, _, _, rfl, rfl, rfl, T.2.1, T.1, T.2.2.1, T.2.2.2⟩
theorem boxes_bca (w : World) (sa sb sc : ByteArray) (x y z : Value) (t : TypeId) : Boxes w sa sb sc x y z (.pointer (some ⟨w.heap.size + 1 + 1, 0, none⟩)) (.pointer (some ⟨w.heap.size, 0, none⟩)) (.pointer (some ⟨w.heap.size + 1, 0, none⟩)) (((w.alloc (.cells #[.string sb, y] t)).alloc (.cells #[.string sc, z] t)).alloc (.cells #[.string sa, x] t)).drew := by
  have T := three_new w sb sc sa y z x t
  exact ⟨_, _, _, rfl, rfl, rfl, T.2.2.1, T.1, T.2.1, T.2.2.2⟩
theorem boxes_cab (w : World) (sa sb sc : ByteArray) (x y z : Value) (t : TypeId) : Boxes w sa sb sc x y z (.pointer (some ⟨w.heap.size + 1, 0, none⟩)) (.pointer (some ⟨w.heap.size + 1 + 1, 0, none⟩)) (.pointer (some ⟨w.heap.size, 0, none⟩)) (((w.alloc (.cells #[.string sc, z] t)).alloc (.cells #[.string sa, x] t)).alloc (.cells #[.string sb, y] t)).drew := by
  have T := three_new w sc sa sb z x y t
  exact ⟨_, _, _, rfl, rfl, rfl, T.2.1, T.2.2.1, T.1, T.2.2.2⟩
theorem boxes_cba (w : World) (sa sb sc : ByteArray) (x y z : Value) (t : TypeId) : Boxes w sa sb sc x y z (.pointer (some ⟨w.heap.size + 1 + 1, 0, none⟩)) (.pointer (some ⟨w.heap.size + 1, 0, none⟩)) (.pointer (some ⟨w.heap.size, 0, none⟩)) (((w.alloc (.cells #[.string sc, z] t)).alloc (.cells #[.string sb, y] t)).alloc (.cells #[.string sa, x] t)).drew := by
  have T := three_new w sc sb sa z y x t
  exact ⟨_, _, _, rfl, rfl, rfl, T.2.2.1, T.2.1, T.1, T.2.2.2⟩

/-- A list of three items that has just been built. -/
theorem three_made (w : World) (s1 s3 : ByteArray) (v1 v3 : Value) (l1 l3 : List Int) (h1 : Bytes w v1 l1) (h3 : Bytes w v3 l3) :
    ItemsAt (w.alloc (.cells #[.string s1, v1, .int .i64 0, .string ⟨#[]⟩, .slice none 0 0, .int .i64 7, .string s3, v3, .int .i64 0] 52)) (.slice (some ⟨w.heap.size, 0, none⟩) 3 3) [⟨strL s1, l1, 0⟩, ⟨[], [], 7⟩, ⟨strL s3, l3, 0⟩] := by
  have hr := range_new w [.string s1, v1, .int .i64 0, .string ⟨#[]⟩, .slice none 0 0, .int .i64 7, .string s3, v3, .int .i64 0] 52
  refine ⟨_, _, rfl, by simp, by omega, fun _ => ⟨w.heap.size, 0, rfl, fun i x hx => ?_⟩⟩
  obtain ⟨hi, e⟩ := List.getElem?_eq_some_iff.1 hx
  have hi3 : i = 0 ∨ i = 1 ∨ i = 2 := by simp at hi; omega
  rcases hi3 with rfl | rfl | rfl
  · subst e
    refine ⟨v1, ?_, hr 1 _ rfl, hr 2 _ rfl, h1.alloc _⟩
    show _ = some (Value.string (strOfNums (strL s1)))
    rw [str_strL]
    exact hr 0 _ rfl
  · subst e
    exact ⟨.slice none 0 0, hr 3 _ rfl, hr 4 _ rfl, hr 5 _ rfl, Bytes.nil _⟩
  · subst e
    refine ⟨v3, ?_, hr 7 _ rfl, hr 8 _ rfl, h3.alloc _⟩
    show _ = some (Value.string (strOfNums (strL s3)))
    rw [str_strL]
    exact hr 6 _ rfl

set_option maxRecDepth 100000 in
set_option maxHeartbeats 1000000 in
theorem flowSpoilt_walk {w : World} (hk : Ks w) (a : ByteArray × List Int) (ha : MsgOk a) (xv : Value) (hx : Bytes w xv a.2) (b : ByteArray × List Int) (hb : MsgOk b) (yv : Value) (hy : Bytes w yv b.2) (c : ByteArray × List Int) (hc : MsgOk c) (zv : Value) (hz : Bytes w zv c.2) (t : Int) (ht : 0 ≤ t ∧ t < 65536) :
    Calls Tryd.prog 6 #[.agg #[.string a.1, xv, .string b.1, yv, .string c.1, zv], .int .u16 t] w fun e w' => e = .returned (.bool true) ∧ Below w.heap.size w w' := by
  obtain ⟨sa, la⟩ := a
  obtain ⟨sb, lb⟩ := b
  obtain ⟨sc, lc⟩ := c
  obtain ⟨hsa, hla⟩ := ha
  obtain ⟨hsb, hlb⟩ := hb
  obtain ⟨hsc, hlc⟩ := hc
  simp only at hsa hla hsb hlb hsc hlc hx hy hz
  obtain ⟨xa, xc, rfl, hx1, hx2⟩ := hx.form
  obtain ⟨ya, yc, rfl, hy1, hy2⟩ := hy.form
  obtain ⟨za, zc, rfl, hz1, hz2⟩ := hz.form
  have hB0 : Below w.heap.size w (w.alloc (.cells #[.string sa, .slice xa la.length xc, .string sb, .slice ya lb.length yc, .string sc, .slice za lc.length zc] 45)) := (Below.refl _ _).alloc (Nat.le_refl _) _
  have HR0 := hide (range_new w [.string sa, .slice xa la.length xc, .string sb, .slice ya lb.length yc, .string sc, .slice za lc.length zc] 45)
  have HB0 := hide hB0
  have HS0 := hide (alloc_size w (.cells #[.string sa, .slice xa la.length xc, .string sb, .slice ya lb.length yc, .string sc, .slice za lc.length zc] 45))
  have HK := hide (hk.on hB0)
  have HX := hide (hx.below hB0)
  have HY := hide (hy.below hB0)
  have HZ := hide (hz.below hB0)
  have HSA := hide (And.intro hsa hla)
  have HSB := hide (And.intro hsb hlb)
  have HSC := hide (And.intro hsc hlc)
  have A := hide (alive_any _ (hk.on hB0))
  obtain ⟨t0, t1⟩ := ht
  clear hk hx hy hz hB0 hsa hla hsb hlb hsc hlc
  go_enter Tryd.func6, Tryd.ntmps6
  go_upto_region 1 with fail
  generalize w.alloc (.cells #[.string sa, .slice xa la.length xc, .string sb, .slice ya lb.length yc, .string sc, .slice za lc.length zc] 45) = W at *
  generalize hg0 : w.heap.size = g0 at *
  have HG0 := hide hg0
  clear hg0
  go_wp2_with fail
  refine A.out.mono ?_
  rintro e w1 ⟨rfl, hb1⟩
  have HB1 := hide hb1
  have hr1 := range_on HR0.out hb1
  have HC1 : Hid (∀ wx, Below w1.heap.size w1 wx → Below w1.heap.size w1 wx ∧ wx.cell? ⟨g0, 0, none⟩ = some (.string sa) ∧ wx.cell? ⟨g0, 1, none⟩ = some (.slice xa la.length xc) ∧ wx.cell? ⟨g0, 2, none⟩ = some (.string sb) ∧ wx.cell? ⟨g0, 3, none⟩ = some (.slice ya lb.length yc) ∧ wx.cell? ⟨g0, 4, none⟩ = some (.string sc) ∧ wx.cell? ⟨g0, 5, none⟩ = some (.slice za lc.length zc)) := hide (fun wx hb => by
    have h := range_on hr1 hb
    exact ⟨hb, by simpa using h 0 _ rfl, by simpa using h 1 _ rfl, by simpa using h 2 _ rfl, by simpa using h 3 _ rfl, by simpa using h 4 _ rfl, by simpa using h 5 _ rfl⟩)
  clear hb1 hr1 A
  go_upto_region 3 with fail
  go_cut [5, 6, 7] (fun s5 s6 s7 wx => Boxes w1 sa sb sc (.slice xa la.length xc) (.slice ya lb.length yc) (.slice za lc.length zc) s5 s6 s7 wx)
  case first =>
    go_region_held3 (fun wx => Below w1.heap.size w1 wx ∧ wx.cell? ⟨g0, 0, none⟩ = some (.string sa) ∧ wx.cell? ⟨g0, 1, none⟩ = some (.slice xa la.length xc) ∧ wx.cell? ⟨g0, 2, none⟩ = some (.string sb) ∧ wx.cell? ⟨g0, 3, none⟩ = some (.slice ya lb.length yc) ∧ wx.cell? ⟨g0, 4, none⟩ = some (.string sc) ∧ wx.cell? ⟨g0, 5, none⟩ = some (.slice za lc.length zc))
      (((with_reducible refine HC1.out _ ?_); (repeat (with_reducible first | exact Below.refl _ _ | refine Below.drew ?_ | refine below_alloc ?_ _ | fail))))
      (fail)
    all_goals
      go_wp2_with fail
      go_meet
      case rel =>
        with_reducible first
        | exact boxes_abc _ _ _ _ _ _ _ _
        | exact boxes_acb _ _ _ _ _ _ _ _
        | exact boxes_bac _ _ _ _ _ _ _ _
        | exact boxes_bca _ _ _ _ _ _ _ _
        | exact boxes_cab _ _ _ _ _ _ _ _
        | exact boxes_cba _ _ _ _ _ _ _ _
  case rest =>
    obtain ⟨p5, p6, p7, rfl, rfl, rfl, h5, h6, h7, hbc⟩ := hcut
    have HBc := hide (below_on HB1.out hbc)
    have HP5 := hide h5
    have HP6 := hide h6
    have HP7 := hide h7
    have k0 := h5.1
    have k1 := h5.2
    clear h5 h6 h7 hbc HC1
    have P1 := hide (fput_any wc sa (.slice xa la.length xc) la (HX.out.below HBc.out) (HK.out.on HBc.out) HSA.out.1)
    unfold FPutDone at P1
    go_wp2_with fail
    refine P1.out.mono ?_
    rintro e w2 ⟨vx, rfl, hmx, hnx, hbx⟩
    have HB2 := hide (below_on HBc.out hbx)
    have HQ6 := hide (HP6.out.on hbx)
    have k2 := HQ6.out.1
    have k3 := HQ6.out.2
    have P2 := hide (fput_any w2 sb (.slice ya lb.length yc) lb (HY.out.below HB2.out) (HK.out.on HB2.out) HSB.out.1)
    have HMX := hide (And.intro hmx hbx)
    have HQ5 := hide (HP5.out.on hbx)
    have HQ7 := hide (HP7.out.on hbx)
    clear hmx hnx hbx P1 k0 k1 HP5 HP6 HP7
    unfold FPutDone at P2
    go_wp2_with fail
    refine P2.out.mono ?_
    rintro e w3 ⟨vy, rfl, hmy, hny, hby⟩
    have HB3 := hide (below_on HB2.out hby)
    have HP7 := hide (HQ7.out.on hby)
    have k0 := HP7.out.1
    have k1 := HP7.out.2
    have P3 := hide (fput_any w3 sc (.slice za lc.length zc) lc (HZ.out.below HB3.out) (HK.out.on HB3.out) HSC.out.1)
    have HMY := hide (And.intro hmy hby)
    have HP5 := hide (HQ5.out.on hby)
    have HP6 := hide (HQ6.out.on hby)
    clear hmy hny hby P2 k2 k3
    unfold FPutDone at P3
    go_wp2_with fail
    refine P3.out.mono ?_
    rintro e w4 ⟨vz, rfl, hmz, hnz, hbz⟩
    have HB4 := hide (below_on HB3.out hbz)
    have HB04 : Hid (Below g0 w w4) := hide (HB0.out.trans (HB4.out.mono (by have := HS0.out; omega)))
    have HMZ := hide (And.intro hmz hbz)
    have k61 := (HP6.out.on hbz).2
    clear hmz hnz hbz P3 k0 k1 HP5 HP6 HP7
    by_cases hEa : fpE (strL sa) la = 0
    case neg =>
      have hne : (fpE (strL sa) la == 0) = false := beq_eq_false_iff_ne.2 hEa
      generalize fpE (strL sa) la = Ea at *
      generalize fpE (strL sb) lb = Eb at *
      generalize fpE (strL sc) lc = Ec at *
      clear HMX HMY HMZ
      go_wp2
      go_ret
      exact ⟨rfl, by rw [HG0.out]; exact HB04.out⟩
    by_cases hEb : fpE (strL sb) lb = 0
    case neg =>
      have hne : (fpE (strL sb) lb == 0) = false := beq_eq_false_iff_ne.2 hEb
      rw [hEa]
      generalize fpE (strL sb) lb = Eb at *
      generalize fpE (strL sc) lc = Ec at *
      clear HMX HMY HMZ
      go_wp2
      go_ret
      exact ⟨rfl, by rw [HG0.out]; exact HB04.out⟩
    by_cases hEc : fpE (strL sc) lc = 0
    case neg =>
      have hne : (fpE (strL sc) lc == 0) = false := beq_eq_false_iff_ne.2 hEc
      rw [hEa, hEb]
      generalize fpE (strL sc) lc = Ec at *
      clear HMX HMY HMZ
      go_wp2
      go_ret
      exact ⟨rfl, by rw [HG0.out]; exact HB04.out⟩
    by_cases hl0 : lb.length = 0
    · rw [hEa, hEb, hEc]
      rw [hl0] at k61
      clear HMX HMY HMZ
      go_wp2
      go_ret
      exact ⟨rfl, by rw [HG0.out]; exact HB04.out⟩
    have hlI : ((lb.length : Int) == 0) = false := beq_eq_false_iff_ne.2 (by omega)
    have hok : ∀ {s : ByteArray} {l : List Int}, fpE (strL s) l = 0 → namedL (strL s) = true ∧ l.length ≤ 2048 ∧ fpL (strL s) l = frameL (strL s) l := by
      intro s l h
      have hf : fpL (strL s) l = frameL (strL s) l := by unfold fpL frameL; rw [if_pos h]
      rcases fp_cases (strL s) l with ⟨-, h'⟩ | ⟨-, -, h'⟩ | ⟨h1, h2, -⟩
      · omega
      · omega
      · exact ⟨h1, h2, hf⟩
    obtain ⟨hna, hal, hfa⟩ := hok hEa
    obtain ⟨hnb, hbl, hfb⟩ := hok hEb
    obtain ⟨hnc, hcl, hfc⟩ := hok hEc
    obtain ⟨hmx, hbx⟩ := HMX.out
    obtain ⟨hmy, hby⟩ := HMY.out
    obtain ⟨hmz, hbz⟩ := HMZ.out
    have hmx := hmx hEa
    have hmy := hmy hEb
    have hmz := hmz hEc
    rw [hfa] at hmx
    rw [hfb] at hmy
    rw [hfc] at hmz
    rw [hEa, hEb, hEc]
    -- the place, the bit
    obtain ⟨i, hi⟩ : ∃ i : Nat, t / 8 % (lb.length : Int) = (i : Int) := ⟨(t / 8 % (lb.length : Int)).toNat, (Int.toNat_of_nonneg (Int.emod_nonneg _ (by omega))).symm⟩
    have hil : i < lb.length := by have := Int.emod_lt_of_pos (t / 8) (show (0 : Int) < (lb.length : Int) by omega); omega
    obtain ⟨q, hq⟩ : ∃ q : Int, t / 8 = q := ⟨_, rfl⟩
    obtain ⟨n, hn⟩ : ∃ n : Nat, 24 + i = n := ⟨_, rfl⟩
    have hq0 : 0 ≤ q := by omega
    have hq8 : q < 8192 := by omega
    have hq1 : IntKind.u16.wrap (t.tdiv 8) = q := by rw [Int.tdiv_eq_ediv_of_nonneg (by omega), hq]; simp [IntKind.wrap, IntKind.bits, IntKind.signed]; omega
    rw [hq] at hi
    have hq2 : q.tmod (lb.length : Int) = (i : Int) := by rw [Int.tmod_eq_emod_of_nonneg hq0, hi]
    obtain ⟨X, hX⟩ : ∃ X, X = bits .xor .u8 ((frameL (strL sb) lb).getD (n) 0) ((2 : Int) ^ (t % 8).toNat % 256) := ⟨_, rfl⟩
    have hXb : Byte X := by rw [hX]; exact byte_of_wf (wf_bits _ _ _ _)
    have HFBB : Hid (∀ z ∈ (frameL (strL sb) lb).set (n) X, Byte z) := hide (fun z hz => by
      rcases List.mem_or_eq_of_mem_set hz with h | h
      · exact frameL_byte hnb HSB.out.2 z h
      · subst h; exact hXb)
    have HFAB := hide (frameL_byte hna HSA.out.2)
    have HFCB := hide (frameL_byte hnc HSC.out.2)
    obtain ⟨t1', t2', t3'⟩ := turned_body hnb hbl (X := X) (i := n) (by omega)
    have hni : n - 24 = i := by omega
    have hFal : (frameL (strL sa) la).length = 24 + la.length := frameL_length hna la
    have hFbl : (frameL (strL sb) lb).length = 24 + lb.length := frameL_length hnb lb
    have hFcl : (frameL (strL sc) lc).length = 24 + lc.length := frameL_length hnc lc
    have HTL : Hid (((frameL (strL sb) lb).set (n) X).drop 24 = lb.set i X) := hide (by
      rw [t1', hni, ← headL_length (c := strL sb) (named_all hnb).2.1 lb.length (chk lb), List.drop_left])
    rw [hni] at t2'
    have HRUN : Hid (¬ chk (lb.set i X) = chk lb → Runs (frameL (strL sa) la ++ (frameL (strL sb) lb).set (n) X ++ frameL (strL sc) lc) [⟨strL sa, la, 0⟩, ⟨[], [], 7⟩, ⟨strL sc, lc, 0⟩] [] false) := hide (fun hne => by
      rw [if_neg hne] at t2'
      have hc := runs_frame hnc hcl runs_nil
      rw [List.append_nil] at hc
      obtain ⟨e1, e2, e3, e4⟩ := ge_more HFBB.out (by omega) (frameL (strL sc) lc)
      have hd : ((frameL (strL sb) lb).set (n) X ++ frameL (strL sc) lc).drop (geN ((frameL (strL sb) lb).set (n) X ++ frameL (strL sc) lc)).toNat = frameL (strL sc) lc := by
        rw [e4, t3', show ((24 : Int) + (lb.length : Int)).toNat = ((frameL (strL sb) lb).set (n) X).length by rw [List.length_set, hFbl]; omega, List.drop_left]
      have hy := Runs.next (r := (frameL (strL sb) lb).set (n) X ++ frameL (strL sc) lc) (Or.inr (Or.inl (by rw [e1]; exact t2'))) (by rw [hd]; exact hc)
      have g1 : geC ((frameL (strL sb) lb).set (n) X) = [] := by unfold geC; rw [if_neg (by omega)]
      have g2 : geB ((frameL (strL sb) lb).set (n) X) = [] := by unfold geB; rw [if_neg (by omega)]
      rw [e1, e2, e3, t2', g1, g2] at hy
      have := runs_frame hna hal hy
      rwa [← List.append_assoc] at this)
    have hFa2 : (frameL (strL sa) la).length ≤ 2072 := by omega
    have HFL := hide hFbl
    have hFb2 : (frameL (strL sb) lb).length ≤ 2072 := by omega
    have hFb24 : 24 ≤ (frameL (strL sb) lb).length := by omega
    have hFc2 : (frameL (strL sc) lc).length ≤ 2072 := by omega
    generalize hFA : frameL (strL sa) la = FA at *
    generalize hFB : frameL (strL sb) lb = FB at *
    generalize hFC : frameL (strL sc) lc = FC at *
    obtain ⟨b1, cap1, rfl, hu1, hu2, hu3, hAx⟩ := hmx
    obtain ⟨b2, cap2, rfl, hu4, hu5, hu6, hAy⟩ := hmy
    obtain ⟨b3, cap3, rfl, hu7, hu8, hu9, hAz⟩ := hmz
    have hnF : n < FB.length := by omega
    have hnI : (24 : Int) + (i : Int) = (n : Int) := by omega
    have hnL : (n : Int) < (FB.length : Int) := by omega
    have hA4 := hAy.on hbz
    have c0 := hA4.cell0 n hnF
    have c1 := hA4.free0 n hnF
    obtain ⟨z0, hz0⟩ : ∃ z, FB.getD n 0 = z := ⟨_, rfl⟩
    rw [hz0] at hX c0
    have hb24 : Below w2.heap.size w2 w4 := below_on hby hbz
    have hb25 : Below w2.heap.size w2 (w4.setCell ⟨b2, n, none⟩ (.int .u8 X)) := hb24.setCell hu6 _
    have hVx : Bytes (w4.setCell ⟨b2, n, none⟩ (.int .u8 X)) (.slice (some ⟨b1, 0, none⟩) FA.length cap1) FA := Bytes.below ⟨_, _, rfl, hu1, hu2, by simp, fun _ => ⟨b1, 0, rfl, fun k hk => hAx.cell k hk⟩⟩ hb25
    have hVy : Bytes (w4.setCell ⟨b2, n, none⟩ (.int .u8 X)) (.slice (some ⟨b2, 0, none⟩) FB.length cap2) (FB.set n X) := by
      have := hA4.set0 n hnF X
      exact ⟨_, _, by rw [List.length_set], by rw [List.length_set]; exact hu4, hu5, by simp, fun _ => ⟨b2, 0, rfl, fun k hk => this.cell k hk⟩⟩
    have hb2l : b2 < w3.heap.size := hAy.lt (by omega)
    have hVz : Bytes (w4.setCell ⟨b2, n, none⟩ (.int .u8 X)) (.slice (some ⟨b3, 0, none⟩) FC.length cap3) FC := by
      have h4 : Bytes w4 (.slice (some ⟨b3, 0, none⟩) FC.length cap3) FC := ⟨_, _, rfl, hu7, hu8, by simp, fun _ => ⟨b3, 0, rfl, fun k hk => hAz.cell k hk⟩⟩
      have hK : Keeps (off b2 b2) w4 fun w => Bytes w (.slice (some ⟨b3, 0, none⟩) FC.length cap3) FC := h4.keeps (P := off b2 b2) fun k hk => by
        have hk : b3 = k := by simpa [Value.ownBlock] using hk
        exact ⟨by omega, by omega⟩
      exact (hK.besides ((Besides.refl b2 b2 w4).set ⟨b2, n, none⟩ (Or.inl rfl) _) (Or.inl rfl)).self
    have HVX := hide hVx
    have HVY := hide hVy
    have HVZ := hide hVz
    have HB5 := hide hb25
    have HXX := hide hX
    have HB05 : Hid (Below W.heap.size W (w4.setCell ⟨b2, n, none⟩ (.int .u8 X))) := hide (below_on HB2.out hb25)
    clear hmx hmy hmz hbx hby hbz hAx hAy hAz hA4 hb24 hb25 hVx hVy hVz hb2l hX hu3 hu6 hu9 hna hal hnb hnc hcl hfa hfb hfc hEa hEb hEc HMX HMY HMZ hFal hFbl hFcl hFA hFB hFC hXb t1' t2' t3' hni hi hq hok HBc HB3
    go_upto_region 10 with fail
    rw [← HXX.out]
    generalize w4.setCell ⟨b2, n, none⟩ (.int .u8 X) = W5 at *
    clear c0 c1 k61
    have hbd := HVY.out.mid 24 FB.length (by omega) (by omega) (by have := HFL.out; omega) (FB.length - 24) (cap2 - 24) rfl rfl
    rw [HTL.out, Nat.zero_add] at hbd
    have hbe : (lb.set i X).take (FB.length - 24) = lb.set i X := List.take_of_length_le (by rw [List.length_set]; have := HFL.out; omega)
    rw [hbe] at hbd
    have RY : Hid (Calls Tryd.prog 19 #[_] W5.drew fun e w' => e = .returned (.int .u32 (chk (lb.set i X))) ∧ Below W5.drew.heap.size W5.drew w') := hide (rcheck_any W5.drew _ _ (hbd.below (Below.refl _ _).drew) (by rw [List.length_set]; omega))
    have RB : Hid (∀ wx, Below W.heap.size W wx → Calls Tryd.prog 19 #[.slice ya lb.length yc] wx fun e w' => e = .returned (.int .u32 (chk lb)) ∧ Below wx.heap.size wx w') := hide (fun wx hb => rcheck_any wx _ _ (HY.out.below hb) (by omega))
    have HC5 : Hid (∀ wx, Below W5.heap.size W5 wx → Below W5.heap.size W5 wx ∧ wx.cell? ⟨p6, 1, none⟩ = some (.slice ya lb.length yc)) := hide (fun wx hb => ⟨hb, (HQ6.out.on (below_on HB5.out hb)).2⟩)
    have hs1 : (24 : Int) ≤ (FB.length : Int) := by omega
    have hs2 : (FB.length : Int) ≤ (cap2 : Int) := by omega
    have hs3 : ¬ cap2 = 24 := by have := HFL.out; omega
    clear hbd hbe
    generalize hck1 : chk (lb.set i X) = ck1 at *
    generalize hck2 : chk lb = ck2 at *
    go_cut [85] (fun s wx => s = .bool (ck1 == ck2) ∧ Below W5.heap.size W5 wx)
    case first =>
      go_region_held3 (fun wx => Below W5.heap.size W5 wx ∧ wx.cell? ⟨p6, 1, none⟩ = some (.slice ya lb.length yc))
        (((with_reducible refine HC5.out _ ?_); (repeat (with_reducible first | exact hb7 | exact hb6 | exact Below.refl _ _ | refine Below.drew ?_ | fail))))
        (first
          | (go_at_call 19; (with_reducible refine RY.out.mono ?_); rintro e w6 ⟨rfl, hb6'⟩; have hb6 : Below W5.heap.size W5 w6 := below_on (Below.refl _ _).drew hb6')
          | (go_at_call 19; (with_reducible refine (RB.out _ (below_on HB05.out hb6)).mono ?_); rintro e w7 ⟨rfl, hb7'⟩; have hb7 : Below W5.heap.size W5 w7 := below_on hb6 hb7'))
      all_goals
        have HB7 := hide hb7
        clear hb7
        go_wp2_with fail
        go_meet
        case rel => exact ⟨rfl, HB7.out⟩
    case rest =>
      obtain ⟨rfl, hb6⟩ := hcut
      have HB26 := hide (below_on HB5.out hb6)
      have HBW6 := hide (below_on HB05.out hb6)
      have HVX6 := hide (HVX.out.below hb6)
      have HVY6 := hide (HVY.out.below hb6)
      have HVZ6 := hide (HVZ.out.below hb6)
      clear hb6 RY RB HC5 HVX HVY HVZ HB5 HB05 HTL
      by_cases hck : ck1 = ck2
      · have HB06 : Hid (Below w.heap.size w wc) := hide (by rw [HG0.out]; exact HB0.out.trans (HBW6.out.mono (by have := HS0.out; omega)))
        subst hck
        rw [beq_self_eq_true]
        go_wp2
        go_ret
        exact ⟨rfl, HB06.out⟩
      have hR := HRUN.out hck
      have HR := hide hR
      have hckb : (ck1 == ck2) = false := beq_eq_false_iff_ne.2 hck
      rw [hckb]
      have NW := hide new_any
      obtain ⟨FY, hFY⟩ : ∃ FY, FY = FB.set n X := ⟨_, rfl⟩
      have hFYl : FB.length = FY.length := by rw [hFY, List.length_set]
      rw [← hFY] at HR HFBB HVY6
      have hFY2 : FY.length ≤ 2072 := by omega
      rw [hFYl] at HVY6 ⊢
      clear hR hckb hck hck1 hck2 HRUN hFY hFYl hFb2 hFb24 hnF hnL hs1 hs2 hu4 HFL
      go_wp2_with fail
      refine (NW.out _).mono ?_
      rintro e w7 ⟨rfl, hG7, hs7, hb7⟩
      obtain ⟨p, hp⟩ : ∃ p, p = wc.heap.size := ⟨_, rfl⟩
      rw [← hp] at hG7 ⊢
      have HG7 := hide hG7
      have HP : Hid (p = wc.heap.size ∧ w7.heap.size = p + 1) := hide ⟨hp, by omega⟩
      have HB27 := hide (below_on HB26.out hb7)
      have HVX7 := hide (HVX6.out.below hb7)
      have HVY7 := hide (HVY6.out.below hb7)
      have HVZ7 := hide (HVZ6.out.below hb7)
      clear hG7 hs7 hb7 hp HVX6 HVY6 HVZ6 NW
      go_wp2_with (at_builtin; refine wp_append rfl (.tmp 87) (.tmp 88) rfl w7.heap.size _ [] rfl (Own.made _ _ (Nat.le_refl _)) _ FA rfl (HVX7.out.alloc _) ?c1 ?c2 ?_)
      case c1 => simp; omega
      case c2 => simp
      intro v8 w8 ho8 hb8
      have hb78 : Below w7.heap.size w7 w8 := ((Below.refl _ _).alloc (Nat.le_refl _) _).trans hb8
      obtain ⟨va8, vc8, rfl, -, -⟩ := ho8.bytes.form
      have HO8 := hide ho8
      have HB78 := hide hb78
      have HVY8 := hide (HVY7.out.below hb78)
      have HS8 := hide hb78.size
      clear ho8 hb8 hb78 HVX7 HVY7
      go_wp2_with (at_builtin; refine wp_append rfl (.tmp 89) (.tmp 90) rfl w7.heap.size _ FA rfl HO8.out _ FY rfl HVY8.out ?c1 ?c2 ?_)
      case c1 => omega
      case c2 => exact HS8.out
      intro v9 w9 ho9 hb9
      have hb79 : Below w7.heap.size w7 w9 := HB78.out.trans hb9
      obtain ⟨FX, hFX⟩ : ∃ FX, FX = FA ++ FY := ⟨_, rfl⟩
      have hFXl : FX.length = FA.length + FY.length := by rw [hFX, List.length_append]
      rw [← hFX] at ho9
      have HFX := hide hFX
      have hFX2 : FX.length ≤ 4144 := by omega
      obtain ⟨va9, vc9, rfl, -, -⟩ := ho9.bytes.form
      have HO9 := hide ho9
      have HB79 := hide hb79
      have HVZ9 := hide (HVZ7.out.below hb79)
      have HS9 := hide hb79.size
      clear ho9 hb9 hb79 HVZ7 HVY8 HO8 HB78 HS8 hFX hFXl
      go_wp2_with (at_builtin; refine wp_append rfl (.tmp 91) (.tmp 92) rfl w7.heap.size _ FX rfl HO9.out _ FC rfl HVZ9.out ?c1 ?c2 ?_)
      case c1 => omega
      case c2 => exact HS9.out
      intro v10 w10 ho10 hb10
      have hb710 : Below w7.heap.size w7 w10 := HB79.out.trans hb10
      obtain ⟨F, hF⟩ : ∃ F, F = FX ++ FC := ⟨_, rfl⟩
      have hFl : F.length = FX.length + FC.length := by rw [hF, List.length_append]
      rw [← hF] at ho10
      have hRF : Runs F [⟨strL sa, la, 0⟩, ⟨[], [], 7⟩, ⟨strL sc, lc, 0⟩] [] false := by
        rw [hF, HFX.out]
        exact HR.out
      have hbyte : ∀ z ∈ F, Byte z := fun z hz => by
        rw [hF, HFX.out] at hz
        rcases List.mem_append.1 hz with h | h
        · rcases List.mem_append.1 h with h | h
          · exact HFAB.out z h
          · exact HFBB.out z h
        · exact HFCB.out z h
      have hpp := HP.out
      have hb210 : Below w2.heap.size w2 w10 := below_on HB27.out hb710
      have hbW10 : Below W.heap.size W w10 := below_on HB2.out hb210
      have hW6 := HBW6.out.size
      have hG10 := HG7.out.on hb710
      have FE := hide (feed_any w10 p p [] false v10 F _ _ _ hG10 (by simp) hbyte (ho10.keeps fun k hk1 _ => ⟨by omega, by omega⟩) (HK.out.old hbW10 fun g hg => ⟨by omega, by omega⟩) (Or.inl ⟨rfl, hRF⟩) (by simp; omega))
      have HB210 := hide hb210
      have HS6 := hide HB26.out.size
      obtain ⟨va10, vc10, rfl, -, -⟩ := ho10.bytes.form
      have HSZ : Hid (p < w10.heap.size ∧ w2.heap.size ≤ p) := hide ⟨hG10.lt.1, by have := HB26.out.size; omega⟩
      clear ho10 hb10 hb710 hF hFl hRF hbyte hpp hb210 hbW10 hW6 hG10 HG7 HO9 HB79 HVZ9 HS9 HR HFX HFAB HFBB HFCB
      go_wp2_with fail
      refine FE.out.mono ?_
      rintro e w11 ⟨v11, q11, rfl, hG11, hBs11, hq11, hI11⟩
      have hsz := HSZ.out
      have hb211 : Below w2.heap.size w2 w11 := HB210.out.trans (hBs11.ground (by omega) (by omega) (by omega))
      have x0 := (HQ5.out.on hb211).1
      have x1 := (HQ5.out.on hb211).2
      have x2 := (HQ7.out.on hb211).1
      have x3 := (HQ7.out.on hb211).2
      have hbW11 : Below W.heap.size W w11 := below_on HB2.out hb211
      have SM := hide (same6_any [⟨strL sa, la, 0⟩, ⟨[], [], 7⟩, ⟨strL sc, lc, 0⟩] v11 _ _ (hI11.read.below ((Below.refl _ _).alloc (Nat.le_refl _) _)) (three_made w11 sa sc _ _ la lc (HX.out.below hbW11) (HZ.out.below hbW11)))
      have HBW11 := hide hbW11
      obtain ⟨ia11, ic11, rfl, -, -⟩ := hI11.length
      clear hG11 hBs11 hq11 hI11 hsz hb211 hbW11 FE HB210
      go_wp2_with fail
      refine SM.out.mono ?_
      rintro e w12 ⟨rfl, hb12⟩
      have HB12 : Hid (Below w.heap.size w w12) := hide (by
        rw [HG0.out]
        exact HB0.out.trans ((below_on HBW11.out (below_on ((Below.refl _ _).alloc (Nat.le_refl _) _) hb12)).mono (by have := HS0.out; omega)))
      clear hb12 SM
      go_wp2
      go_ret
      exact ⟨rfl, HB12.out⟩

set_option maxRecDepth 100000 in
theorem flowSpoilt_lifted (os : Os) (started : os.Started) (H : Type) (enc : TypeId × Value → H) :
    ReturnsInHanded {} Tryd.checked os 6 .any (fun w args => (Rows.flowSpoiltSpec.pre enc Tryd.prog Tryd.f6 [] false w args ∧ laidMetH Tryd.prog laid3 w) ∧ sizedMet enc Tryd.prog Tryd.f6 (OpenSpec.ofChange Rows.flowSpoiltSpec) false w args)
      (Rows.flowSpoiltSpec.post enc Tryd.prog Tryd.f6 false true false false) := by
  refine returnsInHanded_of_change_and (C := Tryd.checked) (X := fun w _ => laidMetH Tryd.prog laid3 w) (fun _ _ _ hh h => h.of_heap hh) own started (by kernel_rfl) Tryd.func6
    (ChangeSpec.witness_shaped (enc := enc) (C := Tryd.checked) (os := os) (X := fun w _ => laidMetH Tryd.prog laid3 w) false (World.laidAll Tryd.prog os laid3) #[.agg #[.string ⟨#[]⟩, .slice none 0 0, .string ⟨#[]⟩, .slice none 0 0, .string ⟨#[]⟩, .slice none 0 0], .int .u16 0] 8 (World.laidAll_os _ _ _) (World.shaped_of_ZipB (by kernel_rfl) (by kernel_rfl)) (by kernel_rfl) (by kernel_rfl) (by kernel_rfl) (laid_met os _)) ?_
  intro W base args ds gs before hval0 hW _ _ hL _
  have hval : ∀ (j : Nat) t v, Tryd.f6.params[j]? = some t → args[j]? = some v → Value.okWide Tryd.prog W .any base t v := hval0
  have hW' := hW
  obtain ⟨p, q, hA0, hV, rfl, hfz, hnd⟩ := hW
  have hA : DataW.TrodAll enc Tryd.prog W 0 (fun _ => true) true Tryd.f6.params.toList args.toList ds p := hA0
  rw [Tryd.params6] at hA hval
  obtain ⟨v0, vs0, d0, ds0, p0, q0, hargs, rfl, rfl, h0, r0⟩ := trodAll_cons hA
  obtain ⟨v1, vs1, d1, ds1, p1, q1, rfl, rfl, rfl, h1, r1⟩ := trodAll_cons r0
  obtain ⟨rfl, rfl, rfl⟩ := trodAll_nil r1
  obtain rfl : args = #[v0, v1] := by cases args; simp_all
  obtain ⟨rfl, rfl⟩ := trodVars_none hV
  have k0 := h0
  have lt0 : ∀ x ∈ p0, x.block < W.heap.size := by obtain ⟨m, hm⟩ := k0; exact DataW.trod_lt m _ _ _ hm
  obtain ⟨a0, b0, c0, x0, y0, z0, rfl, ⟨s0, t0⟩, ⟨u0, j0⟩, m0, n0⟩ := three_came Tryd.underlying45 (by kernel_rfl) ⟨rfl, rfl⟩ ⟨rfl, rfl⟩ ⟨rfl, rfl⟩ (by kernel_rfl) Tryd.underlying43 ⟨rfl, rfl⟩ ⟨rfl, rfl⟩ (by kernel_rfl) (by kernel_rfl) Tryd.underlying9 Tryd.underlying28 Tryd.underlying5 (by kernel_rfl) (fun _ => rfl) (hval 0 45 v0 rfl rfl) h0
  obtain ⟨a1, rfl, rfl, rfl, w1⟩ := open_int Tryd.underlying36 (hval 1 36 v1 rfl rfl) h1
  clear hA0 hval0
  refine (flowSpoilt_walk (w := W) (ks_of_laid hL) a0 t0 _ s0 b0 j0 _ u0 c0 n0 _ m0 a1 (short_of_wf w1)).mono fun e W' ⟨he, bel⟩ => ?_
  subst he
  exact ⟨_, rfl, _, _, _, [], _, [], hW', trodAll_mk1 (shut_bool Tryd.underlying4 _), (trodAll_cons_mk (Below.trod laidOut (by kernel_rfl) (of_decide_eq_true (by kernel_rfl)) k0 bel lt0) (trodAll_cons_mk (shut_int Tryd.underlying36 w1) trodAll_mk0)), rfl, bel.frame _, fun h => by cases h⟩

theorem flowSpoilt_holds : Rows.FlowSpoiltSaid :=
  OpenClaim.holds_of_wide 6 Tryd.f6 rfl rfl rfl rfl rfl rfl rfl ⟨rfl, rfl, rfl, rfl, rfl⟩ rfl rfl rfl rfl rfl (by kernel_rfl) Tryd.func6 (by kernel_rfl)
    (of_decide_eq_true (by kernel_rfl)) (by unfold Func.isWrapper; first | (rw [if_pos (by decide +kernel)]; kernel_rfl) | (rw [if_neg (by decide +kernel)]; exact ⟨rfl, rfl⟩))
    (fun os started H enc _ => flowSpoilt_lifted os started H enc)
#print axioms flowSpoilt_holds
theorem flowSpoilt_card : Rows.FlowSpoiltCardSaid :=
  Claim7.holds_tied_plain_at .later [] [.data, .data, .pinned] true (true, "8364c1d0cfa2ab96fb62bcc5beefd4505f8925a4338fe93582091888f38a8326") false
    flowSpoilt_holds (fun _ h => by cases h) (by kernel_rfl) (fun _ h => by cases h) flowSpoilt_row_tie rfl ⟨rfl, rfl⟩ (by kernel_rfl) rfl
    (fun f fn hf hfn => by
      obtain rfl : f = 6 := Option.some.inj ((show Tryd.prog.funcNamed "pappus/pappuslaw06.FlowSpoilt" = some 6 by kernel_rfl).symm.trans hf) |>.symm
      obtain rfl : fn = Tryd.f6 := (Option.some.inj (Tryd.func6.symm.trans hfn)).symm
      exact ⟨by kernel_rfl, fun j t ht => by
        rw [Tryd.params6] at ht
        have hm : t ∈ [45, 36] := by simpa using Array.mem_of_getElem? ht
        have hall : ([45, 36].all fun u => !Tryd.prog.wantsStandIn u) = true := by kernel_rfl
        exact (show Tryd.prog.wantsStandIn t = false by simpa using List.all_eq_true.1 hall t hm)⟩)
    (by kernel_rfl)
#print axioms flowSpoilt_card
end Go.Proofs.YtnjbjgjhomfndaaDoor
