import Derived.Test.YtjmifgdjmaelfaaDoorFrName
import Derived.Test.YtjmifgdjmaelfaaDoorFrPure
import Derived.Test.YtjmifgdjmaelfaaDoorKitA
import Derived.Test.YtjmifgdjmaelfaaDoorOctNum
/-
  What frame.magic, frame.firstOf and frame.headOf answer at this program.
-/
namespace Go.Proofs.YtjmifgdjmaelfaaDoor
open Go.RowKit

theorem info_4 : (Tryd.prog.info? 132).map (·.size) = some 4 := by kernel_rfl
theorem info_24 : (Tryd.prog.info? 102).map (·.size) = some 24 := by kernel_rfl

set_option maxRecDepth 100000 in
theorem magic_any (w : World) :
    Calls Tryd.prog 98 #[] w fun e w' => e = .returned (.agg (vals .u8 magicL).toArray) ∧ Below w.heap.size w w' := by
  have HT : Hid ((w.alloc (.cells #[.int .u8 0, .int .u8 0, .int .u8 0, .int .u8 0] 132)).there w.heap.size 0 4) := hide (Arr.new w .u8 (List.replicate 4 0) 132).2
  have HB := hide ((Below.refl w.heap.size w).alloc (Nat.le_refl _) (.cells #[.int .u8 0, .int .u8 0, .int .u8 0, .int .u8 0] 132))
  go_enter Tryd.func98, Tryd.ntmps98
  go_wp2_with (refine wp_store_arr rfl 132 (.tmp 0) (.tmp 1) rfl _ 0 .u8 magicL rfl rfl 4 HT.out info_4 rfl ?_)
  refine ret_arr 0 132 rfl _ 0 rfl .u8 magicL (Arr.put HT.out) _ Tryd.underlying132 rfl 4 info_4 rfl rfl ⟨rfl, below_sets (Nat.le_refl _) _ _ _ HB.out⟩

theorem head_fill (c : List Int) (hc : c.length ≤ 12) (n s : Int) (z1 z2 z3 z4 : List Int) (h1 : z1 = (List.replicate 24 0).take 0 ++ (magicL ++ (List.replicate 24 (0 : Int)).drop (0 + magicL.length)))
    (h2 : z2 = z1.take 4 ++ (c ++ z1.drop (4 + c.length))) (h3 : z3 = z2.take 16 ++ (put 4 n ++ z2.drop (16 + (put 4 n).length))) (h4 : z4 = z3.take 20 ++ (put 4 s ++ z3.drop (20 + (put 4 s).length))) : z4 = headL c n s := by
  have e1 : z1 = magicL ++ List.replicate 20 0 := h1
  have e2 : z2 = magicL ++ c ++ List.replicate (12 - c.length) 0 ++ List.replicate 8 0 := by
    rw [h2, e1]
    simp only [List.take_append, List.drop_append, show magicL.length = 4 from rfl]
    have : (4 + c.length - 4) = c.length := by omega
    rw [this, List.drop_replicate, show List.drop (4 + c.length) magicL = [] from List.drop_eq_nil_of_le (by simp [magicL]), show List.take 4 magicL = magicL from rfl]
    have h20 : 20 - c.length = (12 - c.length) + 8 := by omega
    rw [h20, ← List.replicate_append_replicate]
    simp
  have l2 : (magicL ++ c ++ List.replicate (12 - c.length) 0).length = 16 := by simp [magicL]; omega
  have e3 : z3 = magicL ++ c ++ List.replicate (12 - c.length) 0 ++ put 4 n ++ List.replicate 4 0 := by
    rw [h3, e2, put_length, List.take_left' l2, List.drop_append, l2, List.drop_eq_nil_of_le (by rw [l2]; omega)]
    simp
  have l3 : (magicL ++ c ++ List.replicate (12 - c.length) 0 ++ put 4 n).length = 20 := by rw [List.length_append, l2, put_length]
  rw [h4, e3, put_length, List.take_left' l3, List.drop_append, l3, List.drop_eq_nil_of_le (by rw [l3]; omega)]
  simp [headL]

theorem zeros24 (w : World) : Below w.heap.size w ((w.alloc (.cells #[.int .u8 0, .int .u8 0, .int .u8 0, .int .u8 0, .int .u8 0, .int .u8 0, .int .u8 0, .int .u8 0, .int .u8 0, .int .u8 0, .int .u8 0, .int .u8 0, .int .u8 0, .int .u8 0, .int .u8 0, .int .u8 0, .int .u8 0, .int .u8 0, .int .u8 0, .int .u8 0, .int .u8 0, .int .u8 0, .int .u8 0, .int .u8 0] 102)).alloc (.cells #[.int .u8 0, .int .u8 0, .int .u8 0, .int .u8 0, .int .u8 0, .int .u8 0, .int .u8 0, .int .u8 0, .int .u8 0, .int .u8 0, .int .u8 0, .int .u8 0, .int .u8 0, .int .u8 0, .int .u8 0, .int .u8 0, .int .u8 0, .int .u8 0, .int .u8 0, .int .u8 0, .int .u8 0, .int .u8 0, .int .u8 0, .int .u8 0] 102)) ∧
    Arr ((w.alloc (.cells #[.int .u8 0, .int .u8 0, .int .u8 0, .int .u8 0, .int .u8 0, .int .u8 0, .int .u8 0, .int .u8 0, .int .u8 0, .int .u8 0, .int .u8 0, .int .u8 0, .int .u8 0, .int .u8 0, .int .u8 0, .int .u8 0, .int .u8 0, .int .u8 0, .int .u8 0, .int .u8 0, .int .u8 0, .int .u8 0, .int .u8 0, .int .u8 0] 102)).alloc (.cells #[.int .u8 0, .int .u8 0, .int .u8 0, .int .u8 0, .int .u8 0, .int .u8 0, .int .u8 0, .int .u8 0, .int .u8 0, .int .u8 0, .int .u8 0, .int .u8 0, .int .u8 0, .int .u8 0, .int .u8 0, .int .u8 0, .int .u8 0, .int .u8 0, .int .u8 0, .int .u8 0, .int .u8 0, .int .u8 0, .int .u8 0, .int .u8 0] 102)) w.heap.size 0 .u8 (List.replicate 24 0) ∧
    Arr ((w.alloc (.cells #[.int .u8 0, .int .u8 0, .int .u8 0, .int .u8 0, .int .u8 0, .int .u8 0, .int .u8 0, .int .u8 0, .int .u8 0, .int .u8 0, .int .u8 0, .int .u8 0, .int .u8 0, .int .u8 0, .int .u8 0, .int .u8 0, .int .u8 0, .int .u8 0, .int .u8 0, .int .u8 0, .int .u8 0, .int .u8 0, .int .u8 0, .int .u8 0] 102)).alloc (.cells #[.int .u8 0, .int .u8 0, .int .u8 0, .int .u8 0, .int .u8 0, .int .u8 0, .int .u8 0, .int .u8 0, .int .u8 0, .int .u8 0, .int .u8 0, .int .u8 0, .int .u8 0, .int .u8 0, .int .u8 0, .int .u8 0, .int .u8 0, .int .u8 0, .int .u8 0, .int .u8 0, .int .u8 0, .int .u8 0, .int .u8 0, .int .u8 0] 102)) (w.heap.size + 1) 0 .u8 (List.replicate 24 0) ∧
    ((w.alloc (.cells #[.int .u8 0, .int .u8 0, .int .u8 0, .int .u8 0, .int .u8 0, .int .u8 0, .int .u8 0, .int .u8 0, .int .u8 0, .int .u8 0, .int .u8 0, .int .u8 0, .int .u8 0, .int .u8 0, .int .u8 0, .int .u8 0, .int .u8 0, .int .u8 0, .int .u8 0, .int .u8 0, .int .u8 0, .int .u8 0, .int .u8 0, .int .u8 0] 102)).alloc (.cells #[.int .u8 0, .int .u8 0, .int .u8 0, .int .u8 0, .int .u8 0, .int .u8 0, .int .u8 0, .int .u8 0, .int .u8 0, .int .u8 0, .int .u8 0, .int .u8 0, .int .u8 0, .int .u8 0, .int .u8 0, .int .u8 0, .int .u8 0, .int .u8 0, .int .u8 0, .int .u8 0, .int .u8 0, .int .u8 0, .int .u8 0, .int .u8 0] 102)).heap.size = w.heap.size + 2 := by
  have hA0 := (Arr.new w .u8 (List.replicate 24 0) 102).alloc (.cells #[.int .u8 0, .int .u8 0, .int .u8 0, .int .u8 0, .int .u8 0, .int .u8 0, .int .u8 0, .int .u8 0, .int .u8 0, .int .u8 0, .int .u8 0, .int .u8 0, .int .u8 0, .int .u8 0, .int .u8 0, .int .u8 0, .int .u8 0, .int .u8 0, .int .u8 0, .int .u8 0, .int .u8 0, .int .u8 0, .int .u8 0, .int .u8 0] 102)
  have hA1 := Arr.new (w.alloc (.cells #[.int .u8 0, .int .u8 0, .int .u8 0, .int .u8 0, .int .u8 0, .int .u8 0, .int .u8 0, .int .u8 0, .int .u8 0, .int .u8 0, .int .u8 0, .int .u8 0, .int .u8 0, .int .u8 0, .int .u8 0, .int .u8 0, .int .u8 0, .int .u8 0, .int .u8 0, .int .u8 0, .int .u8 0, .int .u8 0, .int .u8 0, .int .u8 0] 102)) .u8 (List.replicate 24 0) 102
  rw [alloc_size] at hA1
  exact ⟨((Below.refl _ _).alloc (Nat.le_refl _) _).alloc (by rw [alloc_size]; omega) _, hA0, hA1, by rw [alloc_size, alloc_size]⟩
theorem magic_new (w : World) : Below w.heap.size w ((w.alloc (.cells #[.int .u8 0, .int .u8 0, .int .u8 0, .int .u8 0] 132)).setCells w.heap.size 0 (vals .u8 magicL)) ∧ Arr ((w.alloc (.cells #[.int .u8 0, .int .u8 0, .int .u8 0, .int .u8 0] 132)).setCells w.heap.size 0 (vals .u8 magicL)) w.heap.size 0 .u8 magicL ∧
    (w.alloc (.cells #[.int .u8 0, .int .u8 0, .int .u8 0, .int .u8 0] 132)).there w.heap.size 0 4 := by
  have hA0 := Arr.new w .u8 (List.replicate 4 0) 132
  exact ⟨below_sets (Nat.le_refl _) _ _ _ ((Below.refl _ _).alloc (Nat.le_refl _) _), Arr.put hA0.2, hA0.2⟩
theorem chk_word (l : List Int) : 0 ≤ chk l ∧ chk l < 4294967296 := by
  have key : ∀ x y, 0 ≤ bits .or .u32 x y ∧ bits .or .u32 x y < 4294967296 := fun x y => by
    simp only [bits]
    rw [wrap_u32]
    omega
  exact key _ _

set_option maxRecDepth 100000 in
set_option maxHeartbeats 1000000 in
theorem headOf_any (w : World) (s : ByteArray) (v : Value) (l : List Int) (hv : Bytes w v l) (hk : Ks w) (hs : s.size ≤ 12) (hl : l.length ≤ 2048) :
    Calls Tryd.prog 76 #[.string s, v] w fun e w' => e = .returned (.agg (vals .u8 (headL (strL s) l.length (chk l))).toArray) ∧ Below w.heap.size w w' := by
  have M := hide (fun wx => magic_any wx)
  have C := hide (fun wx (h : Bytes wx v l) (k : Ks wx) => shaCheck_any wx v l h k (by omega))
  have P1 := hide (fun wx => put_any (l.length : Int) 4 wx ⟨by omega, by omega⟩)
  obtain ⟨ck0, ck1⟩ := chk_word l
  have P2 := hide (fun wx => put_any (chk l) 4 wx ⟨by omega, by omega⟩)
  have e1 : putL (l.length : Int) 4 = put 4 l.length := by unfold putL; rw [if_pos ⟨rfl, by simp; omega⟩]; rfl
  have e2 : putL (chk l) 4 = put 4 (chk l) := by unfold putL; rw [if_pos ⟨rfl, by simp; omega⟩]; rfl
  rw [e1] at P1
  rw [e2] at P2
  change Hid (∀ wx, Bytes wx v l → Ks wx → Calls Tryd.prog 99 #[v] wx fun e w' => e = .returned (.int .u32 (chk l)) ∧ Below wx.heap.size wx w') at C
  have HF := hide (head_fill (strL s) (by rw [strL_length]; exact hs) l.length (chk l))
  have HV := hide hv
  have HK := hide hk
  obtain ⟨a, cap, rfl, hc1, hc2⟩ := hv.form
  clear hv hk e1 e2
  generalize chk l = ck at *
  generalize putE (l.length : Int) 4 = pe1 at *
  generalize putE ck 4 = pe2 at *
  have hz := zeros24 w
  go_enter Tryd.func76, Tryd.ntmps76
  go_upto_region 2 with fail
  generalize (w.alloc (.cells #[.int .u8 0, .int .u8 0, .int .u8 0, .int .u8 0, .int .u8 0, .int .u8 0, .int .u8 0, .int .u8 0, .int .u8 0, .int .u8 0, .int .u8 0, .int .u8 0, .int .u8 0, .int .u8 0, .int .u8 0, .int .u8 0, .int .u8 0, .int .u8 0, .int .u8 0, .int .u8 0, .int .u8 0, .int .u8 0, .int .u8 0, .int .u8 0] 102)).alloc (.cells #[.int .u8 0, .int .u8 0, .int .u8 0, .int .u8 0, .int .u8 0, .int .u8 0, .int .u8 0, .int .u8 0, .int .u8 0, .int .u8 0, .int .u8 0, .int .u8 0, .int .u8 0, .int .u8 0, .int .u8 0, .int .u8 0, .int .u8 0, .int .u8 0, .int .u8 0, .int .u8 0, .int .u8 0, .int .u8 0, .int .u8 0, .int .u8 0] 102) = W0 at *
  obtain ⟨hB0, hT0, hA0, hsz0⟩ := hz
  have HB0 := hide hB0
  have HT0 := hide hT0
  have HA0 := hide hA0
  have HZ0 := hide hsz0
  clear hB0 hT0 hA0 hsz0
  go_wp2_with fail
  refine (M.out _).mono ?_
  rintro e w1 ⟨rfl, hbel1⟩
  have hm := magic_new w1
  go_upto_region 3 with (refine wp_store_arr rfl 132 (.tmp 6) (.tmp 11) rfl _ 0 .u8 magicL rfl rfl 4 hm.2.2 info_4 rfl ?_)
  have HM := hide (below_on hbel1 hm.1)
  have HA1 : Hid (Arr _ w1.heap.size 0 .u8 magicL) := hide hm.2.1
  have HG1 : Hid (w.heap.size + 2 ≤ w1.heap.size) := hide (by have := hbel1.size; have := HZ0.out; omega)
  clear hm hbel1
  generalize (w1.alloc (.cells #[.int .u8 0, .int .u8 0, .int .u8 0, .int .u8 0] 132)).setCells w1.heap.size 0 (vals .u8 magicL) = W2 at *
  generalize w1.heap.size = g6 at *
  have HB2 := hide (below_on HB0.out HM.out)
  have HT2 := hide (HT0.out.on HM.out)
  have HA2 := hide (HA0.out.on HM.out)
  have HGS : Hid (g6 ≤ W2.heap.size) := hide (Nat.le_of_lt (HA1.out.lt (by decide)))
  clear HM HT0 HA0 HB0 HZ0
  go_wp2_with fail
  refine (P1.out _).mono ?_
  rintro e w3 ⟨v3, rfl, hown3, hbel3⟩
  have HB3 := hide (below_on HB2.out hbel3)
  have HT3 := hide (HT2.out.on hbel3)
  have HA3 := hide (HA2.out.on hbel3)
  have HM3 := hide (HA1.out.on hbel3)
  have HV3 := hide ((hown3.mine (by rw [put_length]; omega)).low HGS.out)
  have HGS3 : Hid (g6 ≤ w3.heap.size) := hide (by have := hbel3.size; have := HGS.out; omega)
  clear HB2 HT2 HA2 HA1 hown3 hbel3 P1
  go_wp2_with fail
  refine (C.out _ (HV.out.below HB3.out) (HK.out.on HB3.out)).mono ?_
  rintro e w4 ⟨rfl, hbel4⟩
  have HB4 := hide (below_on HB3.out hbel4)
  have HT4 := hide (HT3.out.on hbel4)
  have HA4 := hide (HA3.out.on hbel4)
  have HM4 := hide (HM3.out.on hbel4)
  have HV4 := hide (HV3.out.on hbel4)
  have HGS4 : Hid (g6 ≤ w4.heap.size) := hide (by have := hbel4.size; have := HGS3.out; omega)
  clear HB3 HT3 HA3 HM3 HV3 hbel4 C
  go_wp2_with fail
  refine (P2.out _).mono ?_
  rintro e w5 ⟨v5, rfl, hown5, hbel5⟩
  have HB5 := hide (below_on HB4.out hbel5)
  have HT5 := hide (HT4.out.on hbel5)
  have HA5 := hide (HA4.out.on hbel5)
  have HM5 := hide (HM4.out.on hbel5)
  have HV5 := hide (HV4.out.on hbel5)
  have HU5 := hide ((hown5.mine (by rw [put_length]; omega)).low HGS4.out)
  clear HB4 HT4 HA4 HM4 HV4 hown5 hbel5 P2
  go_upto_region 5 with fail
  have HG5 : Hid (w.heap.size ≤ w.heap.size + 1 ∧ w.heap.size + 1 ≠ w.heap.size ∧ w.heap.size + 1 < g6) := hide ⟨by omega, by omega, by have := HG1.out; omega⟩
  generalize w.heap.size + 1 = g5 at *
  have HTH : Hid (w5.there g5 0 24) := hide HA5.out.2
  have HMB : Hid (Bytes w5.drew (.slice (some ⟨g6, 0, none⟩) 4 4) magicL) := hide (HM5.out.drew.bytes (by decide))
  have HMT : Hid (magicL = magicL.take (min magicL.length 24)) := hide (by decide)
  go_region_held3 (fun wx => wx.there g5 0 24) (with_reducible (first | exact World.there_setCells (w := w5.drew) ((World.there_drew w5 g5 0 24).2 HTH.out) _ _ _ | exact (World.there_drew w5 g5 0 24).2 HTH.out | fail))
    ((refine step_copy rfl (.tmp 26) (.tmp 27) rfl g5 0 24 24 rfl _ magicL rfl HMB.out (by decide) magicL HMT.out HTH.out ?_))
  have HA6 := hide (HA5.out.drew.over 0 magicL (by decide))
  have HB6 : Hid (Below w.heap.size w (w5.drew.setCells g5 0 (vals .u8 magicL))) := hide (below_sets HG5.out.1 _ _ _ HB5.out.drew)
  have HT6 : Hid (Arr (w5.drew.setCells g5 0 (vals .u8 magicL)) w.heap.size 0 .u8 (List.replicate 24 0)) := hide (HT5.out.drew.apart _ _ _ (Or.inl (Ne.symm HG5.out.2.1)))
  have HV6 := hide (HV5.out.drew.apart (b' := g5) 0 (vals .u8 magicL) HG5.out.2.2)
  have HU6 := hide (HU5.out.drew.apart (b' := g5) 0 (vals .u8 magicL) HG5.out.2.2)
  clear HA5 HB5 HT5 HV5 HU5 HTH HMB HMT HM5
  rename_i hHeld
  clear hHeld
  generalize w5.drew.setCells g5 0 (vals .u8 magicL) = W6 at *
  obtain ⟨z1, h1⟩ : ∃ z, z = (List.replicate 24 0).take 0 ++ (magicL ++ (List.replicate 24 (0 : Int)).drop (0 + magicL.length)) := ⟨_, rfl⟩
  rw [← h1] at HA6
  have HZ1 : Hid (z1.length = 24) := hide (by rw [h1]; decide)
  have HF := hide (HF.out z1 · · · h1)
  clear h1
  -- the name
  have HT6d : Hid (W6.there g5 4 20) := hide (fun j hj => by have := HA6.out.2 (4 + j) (by rw [HZ1.out]; omega); rwa [Nat.zero_add] at this)
  go_upto_region 7 with (refine wp_copy_str rfl (.tmp 29) (.tmp 30) rfl g5 4 20 20 rfl s rfl (by omega) HT6d.out ?_)
  have HA7 := hide (HA6.out.over 4 (strL s) (by rw [HZ1.out, strL_length]; omega))
  have HB7 := hide (below_sets HG5.out.1 (vals .u8 (strL s)) 4 _ HB6.out)
  have HT7 : Hid (Arr (W6.setCells g5 4 (vals .u8 (strL s))) w.heap.size 0 .u8 (List.replicate 24 0)) := hide (HT6.out.apart _ _ _ (Or.inl (Ne.symm HG5.out.2.1)))
  have HV7 := hide (HV6.out.apart (b' := g5) 4 (vals .u8 (strL s)) HG5.out.2.2)
  have HU7 := hide (HU6.out.apart (b' := g5) 4 (vals .u8 (strL s)) HG5.out.2.2)
  clear HA6 HB6 HT6 HV6 HU6 HT6d
  generalize W6.setCells g5 4 (vals .u8 (strL s)) = W7 at *
  obtain ⟨z2, h2⟩ : ∃ z, z = z1.take 4 ++ (strL s ++ z1.drop (4 + (strL s).length)) := ⟨_, rfl⟩
  rw [← h2] at HA7
  have HZ2 : Hid (z2.length = 24) := hide (by rw [h2]; simp [HZ1.out, strL_length]; omega)
  have HF := hide (HF.out z2 · · h2)
  clear h2
  -- how many bytes the body has
  have HT7d : Hid (W7.there g5 16 8) := hide (fun j hj => by have := HA7.out.2 (16 + j) (by rw [HZ2.out]; omega); rwa [Nat.zero_add] at this)
  go_upto_region 8 with (refine wp_copy rfl (.tmp 32) (.tmp 33) rfl g5 16 8 8 rfl v3 _ rfl HV7.out.bytes (by rw [put_length]; omega) HT7d.out ?_)
  have HA8 := hide (HA7.out.over 16 (put 4 (l.length : Int)) (by rw [HZ2.out, put_length]; omega))
  have HB8 := hide (below_sets HG5.out.1 (vals .u8 (put 4 (l.length : Int))) 16 _ HB7.out)
  have HT8 : Hid (Arr (W7.setCells g5 16 (vals .u8 (put 4 (l.length : Int)))) w.heap.size 0 .u8 (List.replicate 24 0)) := hide (HT7.out.apart _ _ _ (Or.inl (Ne.symm HG5.out.2.1)))
  have HU8 := hide (HU7.out.apart (b' := g5) 16 (vals .u8 (put 4 (l.length : Int))) HG5.out.2.2)
  clear HA7 HB7 HT7 HV7 HU7 HT7d
  generalize W7.setCells g5 16 (vals .u8 (put 4 (l.length : Int))) = W8 at *
  obtain ⟨z3, h3⟩ : ∃ z, z = z2.take 16 ++ (put 4 (l.length : Int) ++ z2.drop (16 + (put 4 (l.length : Int)).length)) := ⟨_, rfl⟩
  rw [← h3] at HA8
  have HZ3 : Hid (z3.length = 24) := hide (by rw [h3]; simp [HZ2.out, put_length])
  have HF := hide (HF.out z3 · h3)
  clear h3
  -- its check
  have HT8d : Hid (W8.there g5 20 4) := hide (fun j hj => by have := HA8.out.2 (20 + j) (by rw [HZ3.out]; omega); rwa [Nat.zero_add] at this)
  go_upto_region 9 with (refine wp_copy rfl (.tmp 35) (.tmp 36) rfl g5 20 4 4 rfl v5 _ rfl HU8.out.bytes (by rw [put_length]; omega) HT8d.out ?_)
  have HA9 := hide (HA8.out.over 20 (put 4 ck) (by rw [HZ3.out, put_length]; omega))
  have HB9 := hide (below_sets HG5.out.1 (vals .u8 (put 4 ck)) 20 _ HB8.out)
  have HT9 : Hid (Arr (W8.setCells g5 20 (vals .u8 (put 4 ck))) w.heap.size 0 .u8 (List.replicate 24 0)) := hide (HT8.out.apart _ _ _ (Or.inl (Ne.symm HG5.out.2.1)))
  clear HA8 HB8 HT8 HU8 HT8d
  generalize W8.setCells g5 20 (vals .u8 (put 4 ck)) = W9 at *
  obtain ⟨z4, h4⟩ : ∃ z, z = z3.take 20 ++ (put 4 ck ++ z3.drop (20 + (put 4 ck).length)) := ⟨_, rfl⟩
  rw [← h4] at HA9
  have HZ4 : Hid (z4.length = 24) := hide (by rw [h4]; simp [HZ3.out, put_length])
  have HF := hide (HF.out z4 h4)
  clear h4
  have HT9t : Hid (W9.there w.heap.size 0 24) := hide HT9.out.2
  go_wp2_with (first | (refine wp_load_arr rfl 102 (.tmp 5) rfl g5 0 rfl .u8 z4 HA9.out _ Tryd.underlying102 rfl 24 info_24 HZ4.out ?_) | (refine wp_store_arr rfl 102 (.tmp 4) (.tmp 38) rfl _ 0 .u8 z4 rfl rfl 24 HT9t.out info_24 HZ4.out ?_))
  refine ret_arr 4 102 rfl _ 0 rfl .u8 z4 (Arr.put (by rw [HZ4.out]; exact HT9t.out)) _ Tryd.underlying102 rfl 24 info_24 HZ4.out rfl ⟨by rw [HF.out], below_sets (Nat.le_refl _) _ _ _ HB9.out⟩

end Go.Proofs.YtjmifgdjmaelfaaDoor

/-
  What frame.Put answers at this program, whatever the command and the body.
-/
namespace Go.Proofs.YtjmifgdjmaelfaaDoor
open Go.RowKit

/-- What Put comes to. -/
def FPutDone (w : World) (c l : List Int) (e : Ending) (w' : World) : Prop :=
  ∃ v', e = .returned (.tuple #[v', .int .i64 (fpE c l)]) ∧ (fpE c l = 0 → Mine w' w.heap.size v' (fpL c l)) ∧ (¬ fpE c l = 0 → v' = .slice none 0 0) ∧ Below w.heap.size w w'
theorem fputDone_bad {w w' : World} {c l : List Int} {z : Int} (h : fpE c l = z) (hz : ¬ z = 0) (hb : Below w.heap.size w w') : FPutDone w c l (.returned (.tuple #[.slice none 0 0, .int .i64 z])) w' := by
  subst h
  exact ⟨_, rfl, fun q => absurd q hz, fun _ => rfl, hb⟩
theorem FPutDone.bytes {w : World} {c l : List Int} {e : Ending} {w' : World} (h : FPutDone w c l e w') : ∃ v', e = .returned (.tuple #[v', .int .i64 (fpE c l)]) ∧ Bytes w' v' (fpL c l) ∧ Below w.heap.size w w' := by
  obtain ⟨v', he, h1, h2, h3⟩ := h
  refine ⟨v', he, ?_, h3⟩
  by_cases hz : fpE c l = 0
  · exact (h1 hz).bytes
  · rw [h2 hz, fpL, if_neg hz]
    exact Bytes.nil _

theorem head_new (w : World) (H : List Int) (hl : H.length = 24) : Below w.heap.size w ((w.alloc (.cells #[.int .u8 0, .int .u8 0, .int .u8 0, .int .u8 0, .int .u8 0, .int .u8 0, .int .u8 0, .int .u8 0, .int .u8 0, .int .u8 0, .int .u8 0, .int .u8 0, .int .u8 0, .int .u8 0, .int .u8 0, .int .u8 0, .int .u8 0, .int .u8 0, .int .u8 0, .int .u8 0, .int .u8 0, .int .u8 0, .int .u8 0, .int .u8 0] 102)).setCells w.heap.size 0 (vals .u8 H)) ∧ Arr ((w.alloc (.cells #[.int .u8 0, .int .u8 0, .int .u8 0, .int .u8 0, .int .u8 0, .int .u8 0, .int .u8 0, .int .u8 0, .int .u8 0, .int .u8 0, .int .u8 0, .int .u8 0, .int .u8 0, .int .u8 0, .int .u8 0, .int .u8 0, .int .u8 0, .int .u8 0, .int .u8 0, .int .u8 0, .int .u8 0, .int .u8 0, .int .u8 0, .int .u8 0] 102)).setCells w.heap.size 0 (vals .u8 H)) w.heap.size 0 .u8 H ∧
    (w.alloc (.cells #[.int .u8 0, .int .u8 0, .int .u8 0, .int .u8 0, .int .u8 0, .int .u8 0, .int .u8 0, .int .u8 0, .int .u8 0, .int .u8 0, .int .u8 0, .int .u8 0, .int .u8 0, .int .u8 0, .int .u8 0, .int .u8 0, .int .u8 0, .int .u8 0, .int .u8 0, .int .u8 0, .int .u8 0, .int .u8 0, .int .u8 0, .int .u8 0] 102)).there w.heap.size 0 24 := by
  have hA0 := Arr.new w .u8 (List.replicate 24 0) 102
  exact ⟨below_sets (Nat.le_refl _) _ _ _ ((Below.refl _ _).alloc (Nat.le_refl _) _), Arr.put (by rw [hl]; exact hA0.2), hA0.2⟩

set_option maxRecDepth 100000 in
set_option maxHeartbeats 1000000 in
theorem fput_any (w : World) (s : ByteArray) (v : Value) (l : List Int) (hv : Bytes w v l) (hk : Ks w) (hs : s.size ≤ 9223372036854775807) :
    Calls Tryd.prog 56 #[.string s, v] w fun e w' => FPutDone w (strL s) l e w' := by
  have N := hide (named_any s w hs)
  cases hn : namedL (strL s) with
  | false =>
    have HD := hide (fputDone_bad (w := w) (c := strL s) (l := l) (z := 8) (by unfold fpE; rw [hn]; simp) (by omega) (Below.refl _ _))
    rw [hn] at N
    obtain ⟨a, cap, rfl, hc1, hc2⟩ := hv.form
    clear hv hk hn
    go_enter Tryd.func56, Tryd.ntmps56
    go_wp2_with fail
    refine N.out.mono ?_
    rintro e w' ⟨rfl, rfl⟩
    go_wp2
    go_ret2
    exact HD.out
  | true =>
    by_cases hl : l.length ≤ 2048
    · have hna := named_all hn
      rw [strL_length] at hna
      have HO := hide (headOf_any w s v l hv hk (by omega) hl)
      have HL := hide (headL_length (c := strL s) (by rw [strL_length]; omega) l.length (chk l))
      have hE : fpE (strL s) l = 0 := by unfold fpE; rw [hn, if_pos hl]; rfl
      have HE := hide hE
      have HFL : Hid (fpL (strL s) l = headL (strL s) l.length (chk l) ++ l) := hide (by unfold fpL; rw [if_pos hE])
      have HV := hide hv
      rw [hn] at N
      obtain ⟨a, cap, rfl, hc1, hc2⟩ := hv.form
      have hlb : (l.length : Int) ≤ 2048 := by omega
      clear hv hk hn hna hE
      generalize headL (strL s) l.length (chk l) = H at *
      go_enter Tryd.func56, Tryd.ntmps56
      go_wp2_with fail
      refine N.out.mono ?_
      rintro e w' ⟨rfl, rfl⟩
      go_wp2_with fail
      refine HO.out.mono ?_
      rintro e w1 ⟨rfl, hbel1⟩
      have hh := head_new w1 H HL.out
      go_upto_region 6 with (refine wp_store_arr rfl 102 (.tmp 6) (.tmp 15) rfl _ 0 .u8 H rfl rfl 24 hh.2.2 info_24 HL.out ?_)
      have HB2 := hide (below_on hbel1 hh.1)
      have HA2 : Hid (Arr _ w1.heap.size 0 .u8 H) := hide hh.2.1
      have HG := hide hbel1.size
      clear hh hbel1
      generalize (w1.alloc (.cells #[.int .u8 0, .int .u8 0, .int .u8 0, .int .u8 0, .int .u8 0, .int .u8 0, .int .u8 0, .int .u8 0, .int .u8 0, .int .u8 0, .int .u8 0, .int .u8 0, .int .u8 0, .int .u8 0, .int .u8 0, .int .u8 0, .int .u8 0, .int .u8 0, .int .u8 0, .int .u8 0, .int .u8 0, .int .u8 0, .int .u8 0, .int .u8 0] 102)).setCells w1.heap.size 0 (vals .u8 H) = W2 at *
      generalize w1.heap.size = g at *
      have HS : Hid (Value.slice (some ⟨g, 0, none⟩) 24 24 = .slice (some ⟨g, 0, none⟩) H.length H.length) := hide (by rw [HL.out])
      go_wp2_with (at_builtin; refine wp_append_full rfl (.tmp 16) (.tmp 17) rfl w'.heap.size g H HS.out HA2.out HG.out _ l rfl (HV.out.below HB2.out) (by rw [HL.out]; omega) HB2.out.size ?_)
      intro v' w3 hm hb
      have HR : Hid (FPutDone w' (strL s) l (.returned (.tuple #[v', .int .i64 0])) w3) := hide ⟨v', by rw [HE.out], fun _ => by rw [HFL.out]; exact hm, fun q => absurd HE.out q, HB2.out.trans hb⟩
      clear hm hb
      go_wp2
      go_ret2
      exact HR.out
    · have HD := hide (fputDone_bad (w := w) (c := strL s) (l := l) (z := 5) (by unfold fpE; rw [hn, if_neg hl]; rfl) (by omega) (Below.refl _ _))
      rw [hn] at N
      obtain ⟨a, cap, rfl, hc1, hc2⟩ := hv.form
      have hlb : 2048 < (l.length : Int) := by omega
      clear hv hk hn
      go_enter Tryd.func56, Tryd.ntmps56
      go_wp2_with fail
      refine N.out.mono ?_
      rintro e w' ⟨rfl, rfl⟩
      go_wp2
      go_ret2
      exact HD.out

end Go.Proofs.YtjmifgdjmaelfaaDoor
