import Derived.Test.YtjmifgdjmaelfabDoorFrName
import Derived.Test.YtjmifgdjmaelfabDoorFrPure
import Derived.Test.YtjmifgdjmaelfabDoorKitA
import Derived.Test.YtjmifgdjmaelfabDoorOctNum
import Derived.Test.YtjmifgdjmaelfabDoorKit
import Derived.Test.YtjmifgdjmaelfabDoorOctGet
import Derived.Test.YtjmifgdjmaelfabDoorTxWr
import Derived.Deep.RegionHeld3
/-
  What frame.magic, frame.firstOf and frame.headOf answer at this program.
-/
namespace Go.Proofs.YtjmifgdjmaelfabDoor
open Go.RowKit

theorem info_4 : (Tryd.prog.info? 75).map (·.size) = some 4 := by kernel_rfl
theorem info_24 : (Tryd.prog.info? 73).map (·.size) = some 24 := by kernel_rfl

set_option maxRecDepth 100000 in
theorem magic_any (w : World) :
    Calls Tryd.prog 29 #[] w fun e w' => e = .returned (.agg (vals .u8 magicL).toArray) ∧ Below w.heap.size w w' := by
  have HT : Hid ((w.alloc (.cells #[.int .u8 0, .int .u8 0, .int .u8 0, .int .u8 0] 75)).there w.heap.size 0 4) := hide (Arr.new w .u8 (List.replicate 4 0) 75).2
  have HB := hide ((Below.refl w.heap.size w).alloc (Nat.le_refl _) (.cells #[.int .u8 0, .int .u8 0, .int .u8 0, .int .u8 0] 75))
  go_enter Tryd.func29, Tryd.ntmps29
  go_wp2_with (refine wp_store_arr rfl 75 (.tmp 0) (.tmp 1) rfl _ 0 .u8 magicL rfl rfl 4 HT.out info_4 rfl ?_)
  refine ret_arr 0 75 rfl _ 0 rfl .u8 magicL (Arr.put HT.out) _ Tryd.underlying75 rfl 4 info_4 rfl rfl ⟨rfl, below_sets (Nat.le_refl _) _ _ _ HB.out⟩

set_option maxRecDepth 100000 in
theorem firstOf_any (w : World) (v : Value) (l : List Int) (hv : Bytes w v l) (hl : 4 ≤ l.length) :
    Calls Tryd.prog 28 #[v] w fun e w' => e = .returned (.agg (vals .u8 (l.take 4)).toArray) ∧ Below w.heap.size w w' := by
  have hA0 := (Arr.new w .u8 (List.replicate 4 0) 75).alloc (.cells #[.int .u8 0, .int .u8 0, .int .u8 0, .int .u8 0] 75)
  have hA1 := Arr.new (w.alloc (.cells #[.int .u8 0, .int .u8 0, .int .u8 0, .int .u8 0] 75)) .u8 (List.replicate 4 0) 75
  rw [alloc_size] at hA1
  have hB : Below w.heap.size w ((w.alloc (.cells #[.int .u8 0, .int .u8 0, .int .u8 0, .int .u8 0] 75)).alloc (.cells #[.int .u8 0, .int .u8 0, .int .u8 0, .int .u8 0] 75)) := ((Below.refl _ _).alloc (Nat.le_refl _) _).alloc (by rw [alloc_size]; omega) _
  have HL : Hid ((l.take 4).length = 4) := hide (by simp; omega)
  have hV := hv.below hB
  have hT0 : ((w.alloc (.cells #[.int .u8 0, .int .u8 0, .int .u8 0, .int .u8 0] 75)).alloc (.cells #[.int .u8 0, .int .u8 0, .int .u8 0, .int .u8 0] 75)).there w.heap.size 0 4 := hA0.2
  have hT1 : ((w.alloc (.cells #[.int .u8 0, .int .u8 0, .int .u8 0, .int .u8 0] 75)).alloc (.cells #[.int .u8 0, .int .u8 0, .int .u8 0, .int .u8 0] 75)).there (w.heap.size + 1) 0 4 := hA1.2
  have HALL := hide (And.intro hB (And.intro hV (And.intro hT0 hT1)))
  have HLL := hide hl
  obtain ⟨a, cap, rfl, hc1, hc2⟩ := hv.form
  clear hA0 hA1 hB hV hv hT0 hT1 hl
  go_enter Tryd.func28, Tryd.ntmps28
  go_upto_region 2 with fail
  generalize (w.alloc (.cells #[.int .u8 0, .int .u8 0, .int .u8 0, .int .u8 0] 75)).alloc (.cells #[.int .u8 0, .int .u8 0, .int .u8 0, .int .u8 0] 75) = W at *
  have HA : Hid (Arr (W.setCells (w.heap.size + 1) 0 (vals .u8 (l.take 4))) (w.heap.size + 1) 0 .u8 (l.take 4)) := hide (Arr.put (by rw [HL.out]; exact HALL.out.2.2.2))
  have HT : Hid ((W.setCells (w.heap.size + 1) 0 (vals .u8 (l.take 4))).there w.heap.size 0 4) := hide (World.there_setCells HALL.out.2.2.1 _ _ _)
  have HB : Hid (Below w.heap.size w (W.setCells (w.heap.size + 1) 0 (vals .u8 (l.take 4)))) := hide (below_sets (by omega) _ _ _ HALL.out.1)
  generalize hx : l.take 4 = x at *
  have HX := hide hx
  clear hx
  go_wp2_with (first | (refine wp_copy_head rfl (.tmp 4) (.tmp 5) rfl _ 0 4 4 rfl _ l rfl HALL.out.2.1 HLL.out (by omega) HALL.out.2.2.2 ?_; rw [HX.out]) | (refine wp_load_arr rfl 75 (.tmp 3) rfl _ 0 rfl .u8 x HA.out _ Tryd.underlying75 rfl 4 info_4 HL.out ?_) | (refine wp_store_arr rfl 75 (.tmp 2) (.tmp 7) rfl _ 0 .u8 x rfl rfl 4 HT.out info_4 HL.out ?_))
  refine ret_arr 2 75 rfl _ 0 rfl .u8 x (Arr.put (by rw [HL.out]; exact HT.out)) _ Tryd.underlying75 rfl 4 info_4 HL.out rfl ⟨by rw [HX.out], below_sets (Nat.le_refl _) _ _ _ HB.out⟩

/-- What a head is filled up to. -/
theorem head_fill (c : List Int) (hc : c.length ≤ 12) (n s : Int) (z1 z2 z3 z4 : List Int) (h1 : z1 = (List.replicate 24 0).take 0 ++ (magicL ++ (List.replicate 24 (0 : Int)).drop (0 + magicL.length)))
    (h2 : z2 = z1.take 4 ++ (c ++ z1.drop (4 + c.length))) (h3 : z3 = z2.take 16 ++ (put 4 n ++ z2.drop (16 + (put 4 n).length))) (h4 : z4 = z3.take 20 ++ (put 4 s ++ z3.drop (20 + (put 4 s).length))) : z4 = headL c n s := by
  have e1 : z1 = magicL ++ List.replicate 20 0 := h1
  have e2 : z2 = magicL ++ c ++ List.replicate (12 - c.length) 0 ++ List.replicate 8 0 := by
    rw [h2, e1]
    simp only [List.take_append, List.drop_append, show magicL.length = 4 from rfl]
    have : (4 + c.length - 4) = c.length := by omega
    rw [this, List.drop_replicate, show List.drop (4 + c.length) magicL = [] from List.drop_eq_nil_of_le (by simp [magicL]), show List.take 4 magicL = magicL from rfl]
    have h20 : 20 - c.length = (12 - c.length) + 8 := by omega
    rw [h20, ← List.replicate_append_replicate]
    simp
  have l2 : (magicL ++ c ++ List.replicate (12 - c.length) 0).length = 16 := by simp [magicL]; omega
  have e3 : z3 = magicL ++ c ++ List.replicate (12 - c.length) 0 ++ put 4 n ++ List.replicate 4 0 := by
    rw [h3, e2, put_length, List.take_left' l2, List.drop_append, l2, List.drop_eq_nil_of_le (by rw [l2]; omega)]
    simp
  have l3 : (magicL ++ c ++ List.replicate (12 - c.length) 0 ++ put 4 n).length = 20 := by rw [List.length_append, l2, put_length]
  rw [h4, e3, put_length, List.take_left' l3, List.drop_append, l3, List.drop_eq_nil_of_le (by rw [l3]; omega)]
  simp [headL]

theorem zeros24 (w : World) : Below w.heap.size w ((w.alloc (.cells #[.int .u8 0, .int .u8 0, .int .u8 0, .int .u8 0, .int .u8 0, .int .u8 0, .int .u8 0, .int .u8 0, .int .u8 0, .int .u8 0, .int .u8 0, .int .u8 0, .int .u8 0, .int .u8 0, .int .u8 0, .int .u8 0, .int .u8 0, .int .u8 0, .int .u8 0, .int .u8 0, .int .u8 0, .int .u8 0, .int .u8 0, .int .u8 0] 73)).alloc (.cells #[.int .u8 0, .int .u8 0, .int .u8 0, .int .u8 0, .int .u8 0, .int .u8 0, .int .u8 0, .int .u8 0, .int .u8 0, .int .u8 0, .int .u8 0, .int .u8 0, .int .u8 0, .int .u8 0, .int .u8 0, .int .u8 0, .int .u8 0, .int .u8 0, .int .u8 0, .int .u8 0, .int .u8 0, .int .u8 0, .int .u8 0, .int .u8 0] 73)) ∧
    Arr ((w.alloc (.cells #[.int .u8 0, .int .u8 0, .int .u8 0, .int .u8 0, .int .u8 0, .int .u8 0, .int .u8 0, .int .u8 0, .int .u8 0, .int .u8 0, .int .u8 0, .int .u8 0, .int .u8 0, .int .u8 0, .int .u8 0, .int .u8 0, .int .u8 0, .int .u8 0, .int .u8 0, .int .u8 0, .int .u8 0, .int .u8 0, .int .u8 0, .int .u8 0] 73)).alloc (.cells #[.int .u8 0, .int .u8 0, .int .u8 0, .int .u8 0, .int .u8 0, .int .u8 0, .int .u8 0, .int .u8 0, .int .u8 0, .int .u8 0, .int .u8 0, .int .u8 0, .int .u8 0, .int .u8 0, .int .u8 0, .int .u8 0, .int .u8 0, .int .u8 0, .int .u8 0, .int .u8 0, .int .u8 0, .int .u8 0, .int .u8 0, .int .u8 0] 73)) w.heap.size 0 .u8 (List.replicate 24 0) ∧
    Arr ((w.alloc (.cells #[.int .u8 0, .int .u8 0, .int .u8 0, .int .u8 0, .int .u8 0, .int .u8 0, .int .u8 0, .int .u8 0, .int .u8 0, .int .u8 0, .int .u8 0, .int .u8 0, .int .u8 0, .int .u8 0, .int .u8 0, .int .u8 0, .int .u8 0, .int .u8 0, .int .u8 0, .int .u8 0, .int .u8 0, .int .u8 0, .int .u8 0, .int .u8 0] 73)).alloc (.cells #[.int .u8 0, .int .u8 0, .int .u8 0, .int .u8 0, .int .u8 0, .int .u8 0, .int .u8 0, .int .u8 0, .int .u8 0, .int .u8 0, .int .u8 0, .int .u8 0, .int .u8 0, .int .u8 0, .int .u8 0, .int .u8 0, .int .u8 0, .int .u8 0, .int .u8 0, .int .u8 0, .int .u8 0, .int .u8 0, .int .u8 0, .int .u8 0] 73)) (w.heap.size + 1) 0 .u8 (List.replicate 24 0) ∧
    ((w.alloc (.cells #[.int .u8 0, .int .u8 0, .int .u8 0, .int .u8 0, .int .u8 0, .int .u8 0, .int .u8 0, .int .u8 0, .int .u8 0, .int .u8 0, .int .u8 0, .int .u8 0, .int .u8 0, .int .u8 0, .int .u8 0, .int .u8 0, .int .u8 0, .int .u8 0, .int .u8 0, .int .u8 0, .int .u8 0, .int .u8 0, .int .u8 0, .int .u8 0] 73)).alloc (.cells #[.int .u8 0, .int .u8 0, .int .u8 0, .int .u8 0, .int .u8 0, .int .u8 0, .int .u8 0, .int .u8 0, .int .u8 0, .int .u8 0, .int .u8 0, .int .u8 0, .int .u8 0, .int .u8 0, .int .u8 0, .int .u8 0, .int .u8 0, .int .u8 0, .int .u8 0, .int .u8 0, .int .u8 0, .int .u8 0, .int .u8 0, .int .u8 0] 73)).heap.size = w.heap.size + 2 := by
  have hA0 := (Arr.new w .u8 (List.replicate 24 0) 73).alloc (.cells #[.int .u8 0, .int .u8 0, .int .u8 0, .int .u8 0, .int .u8 0, .int .u8 0, .int .u8 0, .int .u8 0, .int .u8 0, .int .u8 0, .int .u8 0, .int .u8 0, .int .u8 0, .int .u8 0, .int .u8 0, .int .u8 0, .int .u8 0, .int .u8 0, .int .u8 0, .int .u8 0, .int .u8 0, .int .u8 0, .int .u8 0, .int .u8 0] 73)
  have hA1 := Arr.new (w.alloc (.cells #[.int .u8 0, .int .u8 0, .int .u8 0, .int .u8 0, .int .u8 0, .int .u8 0, .int .u8 0, .int .u8 0, .int .u8 0, .int .u8 0, .int .u8 0, .int .u8 0, .int .u8 0, .int .u8 0, .int .u8 0, .int .u8 0, .int .u8 0, .int .u8 0, .int .u8 0, .int .u8 0, .int .u8 0, .int .u8 0, .int .u8 0, .int .u8 0] 73)) .u8 (List.replicate 24 0) 73
  rw [alloc_size] at hA1
  exact ⟨((Below.refl _ _).alloc (Nat.le_refl _) _).alloc (by rw [alloc_size]; omega) _, hA0, hA1, by rw [alloc_size, alloc_size]⟩
theorem magic_new (w : World) : Below w.heap.size w ((w.alloc (.cells #[.int .u8 0, .int .u8 0, .int .u8 0, .int .u8 0] 75)).setCells w.heap.size 0 (vals .u8 magicL)) ∧ Arr ((w.alloc (.cells #[.int .u8 0, .int .u8 0, .int .u8 0, .int .u8 0] 75)).setCells w.heap.size 0 (vals .u8 magicL)) w.heap.size 0 .u8 magicL ∧
    (w.alloc (.cells #[.int .u8 0, .int .u8 0, .int .u8 0, .int .u8 0] 75)).there w.heap.size 0 4 := by
  have hA0 := Arr.new w .u8 (List.replicate 4 0) 75
  exact ⟨below_sets (Nat.le_refl _) _ _ _ ((Below.refl _ _).alloc (Nat.le_refl _) _), Arr.put hA0.2, hA0.2⟩
theorem chk_word (l : List Int) : 0 ≤ chk l ∧ chk l < 4294967296 := by
  have key : ∀ x y, 0 ≤ bits .or .u32 x y ∧ bits .or .u32 x y < 4294967296 := fun x y => by
    simp only [bits]
    rw [wrap_u32]
    omega
  exact key _ _

set_option maxRecDepth 100000 in
set_option maxHeartbeats 1000000 in
theorem headOf_any (w : World) (s : ByteArray) (v : Value) (l : List Int) (hv : Bytes w v l) (hk : Ks w) (hs : s.size ≤ 12) (hl : l.length ≤ 2048) :
    Calls Tryd.prog 27 #[.string s, v] w fun e w' => e = .returned (.agg (vals .u8 (headL (strL s) l.length (chk l))).toArray) ∧ Below w.heap.size w w' := by
  have M := hide (fun wx => magic_any wx)
  have C := hide (fun wx (h : Bytes wx v l) (k : Ks wx) => shaCheck_any wx v l h k (by omega))
  have P1 := hide (fun wx => put_any (l.length : Int) 4 wx ⟨by omega, by omega⟩)
  obtain ⟨ck0, ck1⟩ := chk_word l
  have P2 := hide (fun wx => put_any (chk l) 4 wx ⟨by omega, by omega⟩)
  have e1 : putL (l.length : Int) 4 = put 4 l.length := by unfold putL; rw [if_pos ⟨rfl, by simp; omega⟩]; rfl
  have e2 : putL (chk l) 4 = put 4 (chk l) := by unfold putL; rw [if_pos ⟨rfl, by simp; omega⟩]; rfl
  rw [e1] at P1
  rw [e2] at P2
  change Hid (∀ wx, Bytes wx v l → Ks wx → Calls Tryd.prog 14 #[v] wx fun e w' => e = .returned (.int .u32 (chk l)) ∧ Below wx.heap.size wx w') at C
  have HF := hide (head_fill (strL s) (by rw [strL_length]; exact hs) l.length (chk l))
  have HV := hide hv
  have HK := hide hk
  obtain ⟨a, cap, rfl, hc1, hc2⟩ := hv.form
  clear hv hk e1 e2
  generalize chk l = ck at *
  generalize putE (l.length : Int) 4 = pe1 at *
  generalize putE ck 4 = pe2 at *
  have hz := zeros24 w
  go_enter Tryd.func27, Tryd.ntmps27
  go_upto_region 2 with fail
  generalize (w.alloc (.cells #[.int .u8 0, .int .u8 0, .int .u8 0, .int .u8 0, .int .u8 0, .int .u8 0, .int .u8 0, .int .u8 0, .int .u8 0, .int .u8 0, .int .u8 0, .int .u8 0, .int .u8 0, .int .u8 0, .int .u8 0, .int .u8 0, .int .u8 0, .int .u8 0, .int .u8 0, .int .u8 0, .int .u8 0, .int .u8 0, .int .u8 0, .int .u8 0] 73)).alloc (.cells #[.int .u8 0, .int .u8 0, .int .u8 0, .int .u8 0, .int .u8 0, .int .u8 0, .int .u8 0, .int .u8 0, .int .u8 0, .int .u8 0, .int .u8 0, .int .u8 0, .int .u8 0, .int .u8 0, .int .u8 0, .int .u8 0, .int .u8 0, .int .u8 0, .int .u8 0, .int .u8 0, .int .u8 0, .int .u8 0, .int .u8 0, .int .u8 0] 73) = W0 at *
  obtain ⟨hB0, hT0, hA0, hsz0⟩ := hz
  have HB0 := hide hB0
  have HT0 := hide hT0
  have HA0 := hide hA0
  have HZ0 := hide hsz0
  clear hB0 hT0 hA0 hsz0
  go_wp2_with fail
  refine (M.out _).mono ?_
  rintro e w1 ⟨rfl, hbel1⟩
  have hm := magic_new w1
  go_upto_region 3 with (refine wp_store_arr rfl 75 (.tmp 6) (.tmp 11) rfl _ 0 .u8 magicL rfl rfl 4 hm.2.2 info_4 rfl ?_)
  have HM := hide (below_on hbel1 hm.1)
  have HA1 : Hid (Arr _ w1.heap.size 0 .u8 magicL) := hide hm.2.1
  have HG1 : Hid (w.heap.size + 2 ≤ w1.heap.size) := hide (by have := hbel1.size; have := HZ0.out; omega)
  clear hm hbel1
  generalize (w1.alloc (.cells #[.int .u8 0, .int .u8 0, .int .u8 0, .int .u8 0] 75)).setCells w1.heap.size 0 (vals .u8 magicL) = W2 at *
  generalize w1.heap.size = g6 at *
  have HB2 := hide (below_on HB0.out HM.out)
  have HT2 := hide (HT0.out.on HM.out)
  have HA2 := hide (HA0.out.on HM.out)
  have HGS : Hid (g6 ≤ W2.heap.size) := hide (Nat.le_of_lt (HA1.out.lt (by decide)))
  clear HM HT0 HA0 HB0 HZ0
  go_wp2_with fail
  refine (P1.out _).mono ?_
  rintro e w3 ⟨v3, rfl, hown3, hbel3⟩
  have HB3 := hide (below_on HB2.out hbel3)
  have HT3 := hide (HT2.out.on hbel3)
  have HA3 := hide (HA2.out.on hbel3)
  have HM3 := hide (HA1.out.on hbel3)
  have HV3 := hide ((hown3.mine (by rw [put_length]; omega)).low HGS.out)
  have HGS3 : Hid (g6 ≤ w3.heap.size) := hide (by have := hbel3.size; have := HGS.out; omega)
  clear HB2 HT2 HA2 HA1 hown3 hbel3 P1
  go_wp2_with fail
  refine (C.out _ (HV.out.below HB3.out) (HK.out.on HB3.out)).mono ?_
  rintro e w4 ⟨rfl, hbel4⟩
  have HB4 := hide (below_on HB3.out hbel4)
  have HT4 := hide (HT3.out.on hbel4)
  have HA4 := hide (HA3.out.on hbel4)
  have HM4 := hide (HM3.out.on hbel4)
  have HV4 := hide (HV3.out.on hbel4)
  have HGS4 : Hid (g6 ≤ w4.heap.size) := hide (by have := hbel4.size; have := HGS3.out; omega)
  clear HB3 HT3 HA3 HM3 HV3 hbel4 C
  go_wp2_with fail
  refine (P2.out _).mono ?_
  rintro e w5 ⟨v5, rfl, hown5, hbel5⟩
  have HB5 := hide (below_on HB4.out hbel5)
  have HT5 := hide (HT4.out.on hbel5)
  have HA5 := hide (HA4.out.on hbel5)
  have HM5 := hide (HM4.out.on hbel5)
  have HV5 := hide (HV4.out.on hbel5)
  have HU5 := hide ((hown5.mine (by rw [put_length]; omega)).low HGS4.out)
  clear HB4 HT4 HA4 HM4 HV4 hown5 hbel5 P2
  go_upto_region 5 with fail
  have HG5 : Hid (w.heap.size ≤ w.heap.size + 1 ∧ w.heap.size + 1 ≠ w.heap.size ∧ w.heap.size + 1 < g6) := hide ⟨by omega, by omega, by have := HG1.out; omega⟩
  generalize w.heap.size + 1 = g5 at *
  have HTH : Hid (w5.there g5 0 24) := hide HA5.out.2
  have HMB : Hid (Bytes w5.drew (.slice (some ⟨g6, 0, none⟩) 4 4) magicL) := hide (HM5.out.drew.bytes (by decide))
  have HMT : Hid (magicL = magicL.take (min magicL.length 24)) := hide (by decide)
  go_region_held3 (fun wx => wx.there g5 0 24) (with_reducible (first | exact World.there_setCells (w := w5.drew) ((World.there_drew w5 g5 0 24).2 HTH.out) _ _ _ | exact (World.there_drew w5 g5 0 24).2 HTH.out | fail))
    ((refine step_copy rfl (.tmp 26) (.tmp 27) rfl g5 0 24 24 rfl _ magicL rfl HMB.out (by decide) magicL HMT.out HTH.out ?_))
  have HA6 := hide (HA5.out.drew.over 0 magicL (by decide))
  have HB6 : Hid (Below w.heap.size w (w5.drew.setCells g5 0 (vals .u8 magicL))) := hide (below_sets HG5.out.1 _ _ _ HB5.out.drew)
  have HT6 : Hid (Arr (w5.drew.setCells g5 0 (vals .u8 magicL)) w.heap.size 0 .u8 (List.replicate 24 0)) := hide (HT5.out.drew.apart _ _ _ (Or.inl (Ne.symm HG5.out.2.1)))
  have HV6 := hide (HV5.out.drew.apart (b' := g5) 0 (vals .u8 magicL) HG5.out.2.2)
  have HU6 := hide (HU5.out.drew.apart (b' := g5) 0 (vals .u8 magicL) HG5.out.2.2)
  clear HA5 HB5 HT5 HV5 HU5 HTH HMB HMT HM5
  rename_i hHeld
  clear hHeld
  generalize w5.drew.setCells g5 0 (vals .u8 magicL) = W6 at *
  obtain ⟨z1, h1⟩ : ∃ z, z = (List.replicate 24 0).take 0 ++ (magicL ++ (List.replicate 24 (0 : Int)).drop (0 + magicL.length)) := ⟨_, rfl⟩
  rw [← h1] at HA6
  have HZ1 : Hid (z1.length = 24) := hide (by rw [h1]; decide)
  have HF := hide (HF.out z1 · · · h1)
  clear h1
  -- the name
  have HT6d : Hid (W6.there g5 4 20) := hide (fun j hj => by have := HA6.out.2 (4 + j) (by rw [HZ1.out]; omega); rwa [Nat.zero_add] at this)
  go_upto_region 7 with (refine wp_copy_str rfl (.tmp 29) (.tmp 30) rfl g5 4 20 20 rfl s rfl (by omega) HT6d.out ?_)
  have HA7 := hide (HA6.out.over 4 (strL s) (by rw [HZ1.out, strL_length]; omega))
  have HB7 := hide (below_sets HG5.out.1 (vals .u8 (strL s)) 4 _ HB6.out)
  have HT7 : Hid (Arr (W6.setCells g5 4 (vals .u8 (strL s))) w.heap.size 0 .u8 (List.replicate 24 0)) := hide (HT6.out.apart _ _ _ (Or.inl (Ne.symm HG5.out.2.1)))
  have HV7 := hide (HV6.out.apart (b' := g5) 4 (vals .u8 (strL s)) HG5.out.2.2)
  have HU7 := hide (HU6.out.apart (b' := g5) 4 (vals .u8 (strL s)) HG5.out.2.2)
  clear HA6 HB6 HT6 HV6 HU6 HT6d
  generalize W6.setCells g5 4 (vals .u8 (strL s)) = W7 at *
  obtain ⟨z2, h2⟩ : ∃ z, z = z1.take 4 ++ (strL s ++ z1.drop (4 + (strL s).length)) := ⟨_, rfl⟩
  rw [← h2] at HA7
  have HZ2 : Hid (z2.length = 24) := hide (by rw [h2]; simp [HZ1.out, strL_length]; omega)
  have HF := hide (HF.out z2 · · h2)
  clear h2
  -- how many bytes the body has
  have HT7d : Hid (W7.there g5 16 8) := hide (fun j hj => by have := HA7.out.2 (16 + j) (by rw [HZ2.out]; omega); rwa [Nat.zero_add] at this)
  go_upto_region 8 with (refine wp_copy rfl (.tmp 32) (.tmp 33) rfl g5 16 8 8 rfl v3 _ rfl HV7.out.bytes (by rw [put_length]; omega) HT7d.out ?_)
  have HA8 := hide (HA7.out.over 16 (put 4 (l.length : Int)) (by rw [HZ2.out, put_length]; omega))
  have HB8 := hide (below_sets HG5.out.1 (vals .u8 (put 4 (l.length : Int))) 16 _ HB7.out)
  have HT8 : Hid (Arr (W7.setCells g5 16 (vals .u8 (put 4 (l.length : Int)))) w.heap.size 0 .u8 (List.replicate 24 0)) := hide (HT7.out.apart _ _ _ (Or.inl (Ne.symm HG5.out.2.1)))
  have HU8 := hide (HU7.out.apart (b' := g5) 16 (vals .u8 (put 4 (l.length : Int))) HG5.out.2.2)
  clear HA7 HB7 HT7 HV7 HU7 HT7d
  generalize W7.setCells g5 16 (vals .u8 (put 4 (l.length : Int))) = W8 at *
  obtain ⟨z3, h3⟩ : ∃ z, z = z2.take 16 ++ (put 4 (l.length : Int) ++ z2.drop (16 + (put 4 (l.length : Int)).length)) := ⟨_, rfl⟩
  rw [← h3] at HA8
  have HZ3 : Hid (z3.length = 24) := hide (by rw [h3]; simp [HZ2.out, put_length])
  have HF := hide (HF.out z3 · h3)
  clear h3
  -- its check
  have HT8d : Hid (W8.there g5 20 4) := hide (fun j hj => by have := HA8.out.2 (20 + j) (by rw [HZ3.out]; omega); rwa [Nat.zero_add] at this)
  go_upto_region 9 with (refine wp_copy rfl (.tmp 35) (.tmp 36) rfl g5 20 4 4 rfl v5 _ rfl HU8.out.bytes (by rw [put_length]; omega) HT8d.out ?_)
  have HA9 := hide (HA8.out.over 20 (put 4 ck) (by rw [HZ3.out, put_length]; omega))
  have HB9 := hide (below_sets HG5.out.1 (vals .u8 (put 4 ck)) 20 _ HB8.out)
  have HT9 : Hid (Arr (W8.setCells g5 20 (vals .u8 (put 4 ck))) w.heap.size 0 .u8 (List.replicate 24 0)) := hide (HT8.out.apart _ _ _ (Or.inl (Ne.symm HG5.out.2.1)))
  clear HA8 HB8 HT8 HU8 HT8d
  generalize W8.setCells g5 20 (vals .u8 (put 4 ck)) = W9 at *
  obtain ⟨z4, h4⟩ : ∃ z, z = z3.take 20 ++ (put 4 ck ++ z3.drop (20 + (put 4 ck).length)) := ⟨_, rfl⟩
  rw [← h4] at HA9
  have HZ4 : Hid (z4.length = 24) := hide (by rw [h4]; simp [HZ3.out, put_length])
  have HF := hide (HF.out z4 h4)
  clear h4
  have HT9t : Hid (W9.there w.heap.size 0 24) := hide HT9.out.2
  go_wp2_with (first | (refine wp_load_arr rfl 73 (.tmp 5) rfl g5 0 rfl .u8 z4 HA9.out _ Tryd.underlying73 rfl 24 info_24 HZ4.out ?_) | (refine wp_store_arr rfl 73 (.tmp 4) (.tmp 38) rfl _ 0 .u8 z4 rfl rfl 24 HT9t.out info_24 HZ4.out ?_))
  refine ret_arr 4 73 rfl _ 0 rfl .u8 z4 (Arr.put (by rw [HZ4.out]; exact HT9t.out)) _ Tryd.underlying73 rfl 24 info_24 HZ4.out rfl ⟨by rw [HF.out], below_sets (Nat.le_refl _) _ _ _ HB9.out⟩

end Go.Proofs.YtjmifgdjmaelfabDoor

/-
  What frame.Put answers at this program, whatever the command and the body.
-/
namespace Go.Proofs.YtjmifgdjmaelfabDoor
open Go.RowKit

/-- What Put comes to. -/
def FPutDone (w : World) (c l : List Int) (e : Ending) (w' : World) : Prop :=
  ∃ v', e = .returned (.tuple #[v', .int .i64 (fpE c l)]) ∧ (fpE c l = 0 → Mine w' w.heap.size v' (fpL c l)) ∧ (¬ fpE c l = 0 → v' = .slice none 0 0) ∧ Below w.heap.size w w'
theorem fputDone_bad {w w' : World} {c l : List Int} {z : Int} (h : fpE c l = z) (hz : ¬ z = 0) (hb : Below w.heap.size w w') : FPutDone w c l (.returned (.tuple #[.slice none 0 0, .int .i64 z])) w' := by
  subst h
  exact ⟨_, rfl, fun q => absurd q hz, fun _ => rfl, hb⟩
theorem FPutDone.bytes {w : World} {c l : List Int} {e : Ending} {w' : World} (h : FPutDone w c l e w') : ∃ v', e = .returned (.tuple #[v', .int .i64 (fpE c l)]) ∧ Bytes w' v' (fpL c l) ∧ Below w.heap.size w w' := by
  obtain ⟨v', he, h1, h2, h3⟩ := h
  refine ⟨v', he, ?_, h3⟩
  by_cases hz : fpE c l = 0
  · exact (h1 hz).bytes
  · rw [h2 hz, fpL, if_neg hz]
    exact Bytes.nil _

theorem head_new (w : World) (H : List Int) (hl : H.length = 24) : Below w.heap.size w ((w.alloc (.cells #[.int .u8 0, .int .u8 0, .int .u8 0, .int .u8 0, .int .u8 0, .int .u8 0, .int .u8 0, .int .u8 0, .int .u8 0, .int .u8 0, .int .u8 0, .int .u8 0, .int .u8 0, .int .u8 0, .int .u8 0, .int .u8 0, .int .u8 0, .int .u8 0, .int .u8 0, .int .u8 0, .int .u8 0, .int .u8 0, .int .u8 0, .int .u8 0] 73)).setCells w.heap.size 0 (vals .u8 H)) ∧ Arr ((w.alloc (.cells #[.int .u8 0, .int .u8 0, .int .u8 0, .int .u8 0, .int .u8 0, .int .u8 0, .int .u8 0, .int .u8 0, .int .u8 0, .int .u8 0, .int .u8 0, .int .u8 0, .int .u8 0, .int .u8 0, .int .u8 0, .int .u8 0, .int .u8 0, .int .u8 0, .int .u8 0, .int .u8 0, .int .u8 0, .int .u8 0, .int .u8 0, .int .u8 0] 73)).setCells w.heap.size 0 (vals .u8 H)) w.heap.size 0 .u8 H ∧
    (w.alloc (.cells #[.int .u8 0, .int .u8 0, .int .u8 0, .int .u8 0, .int .u8 0, .int .u8 0, .int .u8 0, .int .u8 0, .int .u8 0, .int .u8 0, .int .u8 0, .int .u8 0, .int .u8 0, .int .u8 0, .int .u8 0, .int .u8 0, .int .u8 0, .int .u8 0, .int .u8 0, .int .u8 0, .int .u8 0, .int .u8 0, .int .u8 0, .int .u8 0] 73)).there w.heap.size 0 24 := by
  have hA0 := Arr.new w .u8 (List.replicate 24 0) 73
  exact ⟨below_sets (Nat.le_refl _) _ _ _ ((Below.refl _ _).alloc (Nat.le_refl _) _), Arr.put (by rw [hl]; exact hA0.2), hA0.2⟩

set_option maxRecDepth 100000 in
set_option maxHeartbeats 1000000 in
theorem fput_any (w : World) (s : ByteArray) (v : Value) (l : List Int) (hv : Bytes w v l) (hk : Ks w) (hs : s.size ≤ 9223372036854775807) :
    Calls Tryd.prog 12 #[.string s, v] w fun e w' => FPutDone w (strL s) l e w' := by
  have N := hide (named_any s w hs)
  cases hn : namedL (strL s) with
  | false =>
    have HD := hide (fputDone_bad (w := w) (c := strL s) (l := l) (z := 8) (by unfold fpE; rw [hn]; simp) (by omega) (Below.refl _ _))
    rw [hn] at N
    obtain ⟨a, cap, rfl, hc1, hc2⟩ := hv.form
    clear hv hk hn
    go_enter Tryd.func12, Tryd.ntmps12
    go_wp2_with fail
    refine N.out.mono ?_
    rintro e w' ⟨rfl, rfl⟩
    go_wp2
    go_ret2
    exact HD.out
  | true =>
    by_cases hl : l.length ≤ 2048
    · have hna := named_all hn
      rw [strL_length] at hna
      have HO := hide (headOf_any w s v l hv hk (by omega) hl)
      have HL := hide (headL_length (c := strL s) (by rw [strL_length]; omega) l.length (chk l))
      have hE : fpE (strL s) l = 0 := by unfold fpE; rw [hn, if_pos hl]; rfl
      have HE := hide hE
      have HFL : Hid (fpL (strL s) l = headL (strL s) l.length (chk l) ++ l) := hide (by unfold fpL; rw [if_pos hE])
      have HV := hide hv
      rw [hn] at N
      obtain ⟨a, cap, rfl, hc1, hc2⟩ := hv.form
      have hlb : (l.length : Int) ≤ 2048 := by omega
      clear hv hk hn hna hE
      generalize headL (strL s) l.length (chk l) = H at *
      go_enter Tryd.func12, Tryd.ntmps12
      go_wp2_with fail
      refine N.out.mono ?_
      rintro e w' ⟨rfl, rfl⟩
      go_wp2_with fail
      refine HO.out.mono ?_
      rintro e w1 ⟨rfl, hbel1⟩
      have hh := head_new w1 H HL.out
      go_upto_region 6 with (refine wp_store_arr rfl 73 (.tmp 6) (.tmp 15) rfl _ 0 .u8 H rfl rfl 24 hh.2.2 info_24 HL.out ?_)
      have HB2 := hide (below_on hbel1 hh.1)
      have HA2 : Hid (Arr _ w1.heap.size 0 .u8 H) := hide hh.2.1
      have HG := hide hbel1.size
      clear hh hbel1
      generalize (w1.alloc (.cells #[.int .u8 0, .int .u8 0, .int .u8 0, .int .u8 0, .int .u8 0, .int .u8 0, .int .u8 0, .int .u8 0, .int .u8 0, .int .u8 0, .int .u8 0, .int .u8 0, .int .u8 0, .int .u8 0, .int .u8 0, .int .u8 0, .int .u8 0, .int .u8 0, .int .u8 0, .int .u8 0, .int .u8 0, .int .u8 0, .int .u8 0, .int .u8 0] 73)).setCells w1.heap.size 0 (vals .u8 H) = W2 at *
      generalize w1.heap.size = g at *
      have HS : Hid (Value.slice (some ⟨g, 0, none⟩) 24 24 = .slice (some ⟨g, 0, none⟩) H.length H.length) := hide (by rw [HL.out])
      go_wp2_with (at_builtin; refine wp_append_full rfl (.tmp 16) (.tmp 17) rfl w'.heap.size g H HS.out HA2.out HG.out _ l rfl (HV.out.below HB2.out) (by rw [HL.out]; omega) HB2.out.size ?_)
      intro v' w3 hm hb
      have HR : Hid (FPutDone w' (strL s) l (.returned (.tuple #[v', .int .i64 0])) w3) := hide ⟨v', by rw [HE.out], fun _ => by rw [HFL.out]; exact hm, fun q => absurd HE.out q, HB2.out.trans hb⟩
      clear hm hb
      go_wp2
      go_ret2
      exact HR.out
    · have HD := hide (fputDone_bad (w := w) (c := strL s) (l := l) (z := 5) (by unfold fpE; rw [hn, if_neg hl]; rfl) (by omega) (Below.refl _ _))
      rw [hn] at N
      obtain ⟨a, cap, rfl, hc1, hc2⟩ := hv.form
      have hlb : 2048 < (l.length : Int) := by omega
      clear hv hk hn
      go_enter Tryd.func12, Tryd.ntmps12
      go_wp2_with fail
      refine N.out.mono ?_
      rintro e w' ⟨rfl, rfl⟩
      go_wp2
      go_ret2
      exact HD.out

end Go.Proofs.YtjmifgdjmaelfabDoor

/-
  What bytes.TrimRight (at a nought) and frame.nameOf answer at this program.
-/
namespace Go.Proofs.YtjmifgdjmaelfabDoor
open Go.RowKit

theorem mem_trimR {l : List Int} {z : Int} (h : z ∈ trimR l) : z ∈ l := by
  unfold trimR at h
  have h1 := List.mem_reverse.1 h
  exact List.mem_reverse.1 ((List.dropWhile_sublist _).subset h1)
theorem trimR_le (l : List Int) : (trimR l).length ≤ l.length := by
  unfold trimR
  rw [List.length_reverse]
  have := (List.dropWhile_sublist (fun z : Int => z == 0) (l := l.reverse)).length_le
  simpa using this

/-- A slice of bytes, cut at its end. -/
theorem upto_some (b off n cap m : Nat) (hm : m ≤ n) (hn : n ≤ cap) (w : World) :
    (Instr.slice 31 (.slice (some ⟨b, off, none⟩) n cap) none (some (.int .i64 (m : Int))) none).run Tryd.prog w = .ok (.slice (some ⟨b, off, none⟩) m cap) w := by
  rw [run_slice_h w 31 _ n cap (by rw [Tryd.underlying31]; kernel_rfl) .i64 (m : Int) (by omega) (by omega)]
  have e : (sizeOf (Tryd.prog.elem 31)).run Tryd.prog w = .ok 1 w := by kernel_rfl
  rw [e]
  simp [Result.andThen, sliced, Addr.add]
/-- Bytes as a string. -/
theorem conv_any {w : World} {v : Value} {l : List Int} (hv : Bytes w v l) : (convert 31 9 v).run Tryd.prog w = .ok (.string (strOfNums l)) w := by
  rcases Nat.eq_zero_or_pos l.length with h0 | h0
  · obtain rfl : l = [] := List.length_eq_zero_iff.1 h0
    obtain ⟨a, cap, rfl, _⟩ := hv.empty
    rw [run_convert_bytes_string w 31 9 5 _ 0 cap Tryd.underlying31 Tryd.underlying5 Tryd.underlying9]
    cases a with
    | none => simp [Conv.bytesToString]; rfl
    | some a =>
      rw [run_bytesToString w a 0 cap [] (run_loadCells_list (P := Tryd.prog) w a [] (by simp))]
      rfl
  · obtain ⟨b, off, cap, rfl, h1, h2, hc⟩ := hv.lies h0
    exact run_convert_bytes_arg w 31 5 Tryd.underlying31 Tryd.underlying5 b off l.length cap l rfl hc 9 Tryd.underlying9

/-- What holds at the head of a round of trimRightByte. -/
def Trimming (l : List Int) (b off cap : Nat) (v : Value) : Prop := ∃ k : Nat, k ≤ l.length ∧ v = .slice (some ⟨b, off, none⟩) k cap ∧ trimR (l.take k) = trimR l
set_option maxHeartbeats 400000 in
theorem trimByte_some (l : List Int) (b off cap : Nat) (w : World) (hcap : l.length ≤ cap) (hmax : cap ≤ 9223372036854775807)
    (hc : ∀ i, i < l.length → w.cell? ⟨b, off + i, none⟩ = some (.int .u8 (l.getD i 0))) :
    Calls Tryd.prog 61 #[.slice (some ⟨b, off, none⟩) l.length cap, .int .u8 0] w fun e w' => e = .returned (.slice (some ⟨b, off, none⟩) (trimR l).length cap) ∧ trimR l = l.take (trimR l).length ∧ w' = w := by
  have HC := hide hc
  clear hc
  go_enter Tryd.func61, Tryd.ntmps61
  go_wp2
  go_loop [0] (fun v => Trimming l b off cap v) (fun v => match v with | .slice _ n _ => n | _ => 0)
  case atStart => exact ⟨l.length, Nat.le_refl _, rfl, by rw [List.take_length]⟩
  case round =>
    obtain ⟨k, hk, rfl, htr⟩ := hrel
    rcases Nat.eq_zero_or_pos k with rfl | hpos
    · have HT : Hid (trimR l = []) := hide (by rw [← htr, List.take_zero]; rfl)
      clear htr
      go_wp2
      go_ret
      exact ⟨by rw [HT.out]; rfl, by rw [HT.out]; simp, rfl⟩
    · obtain ⟨m, rfl⟩ : ∃ m, k = m + 1 := ⟨k - 1, by omega⟩
      have hm : m < l.length := by omega
      have hcell := HC.out m hm
      have hsp : l.take (m + 1) = l.take m ++ [l.getD m 0] := by
        rw [List.take_succ_eq_append_getElem hm]
        simp [List.getD, hm]
      have hwr : IntKind.i64.wrap (((m + 1 : Nat) : Int) - 1) = (m : Int) := by
        simp [IntKind.wrap, IntKind.bits, IntKind.signed]
        omega
      rw [hsp] at htr
      generalize hz : l.getD m 0 = z at *
      by_cases h0 : z = 0
      · subst h0
        have HN : Hid (trimR (l.take m) = trimR l) := hide (by rw [← htr, trimR_zero])
        clear htr hsp hz
        go_wp2
        exact ⟨⟨m, by omega, rfl, HN.out⟩, Nat.lt_succ_self m⟩
      · have HT : Hid (trimR l = l.take (m + 1)) := hide (by rw [← htr, trimR_other _ _ h0, hsp])
        have h0' : (z == 0) = false := by simpa using h0
        clear htr hsp hz
        go_wp2
        go_ret
        have hlen : (trimR l).length = m + 1 := by rw [HT.out]; simp; omega
        exact ⟨by rw [hlen]; rfl, by rw [hlen]; exact HT.out, rfl⟩

set_option maxRecDepth 100000 in
set_option maxHeartbeats 400000 in
/-- bytes.TrimRight, at a nought. -/
theorem trim_any (l : List Int) (v : Value) (w : World) (hv : Bytes w v l) :
    Calls Tryd.prog 48 #[v, .string ⟨#[0]⟩] w fun e w' => ∃ v', e = .returned v' ∧ (∀ w0, Bytes w0 v l → Bytes w0 v' (trimR l)) ∧ w' = w := by
  rcases Nat.eq_zero_or_pos l.length with h0 | h0
  · obtain rfl : l = [] := List.length_eq_zero_iff.1 h0
    obtain ⟨a, cap, rfl, _⟩ := hv.empty
    clear hv
    go_enter Tryd.func48, Tryd.ntmps48
    go_wp2
    go_ret
    exact ⟨_, rfl, fun _ h => h, rfl⟩
  · obtain ⟨b, off, cap, rfl, h1, h2, hc⟩ := hv.lies h0
    have T := hide (trimByte_some l b off cap w h1 h2 hc)
    have HL := hide (trimR_le l)
    have h0' : ((l.length : Int) == 0) = false := beq_eq_false_iff_ne.2 (by omega)
    clear hv hc
    go_enter Tryd.func48, Tryd.ntmps48
    go_wp2_with fail
    refine T.out.mono ?_
    rintro e w' ⟨rfl, htk, rfl⟩
    have HK := hide htk
    clear htk
    go_wp2
    go_ret
    refine ⟨_, rfl, fun w0 h => ?_, rfl⟩
    have := h.take (trimR l).length HL.out
    rwa [← HK.out] at this

set_option maxRecDepth 100000 in
set_option maxHeartbeats 400000 in
/-- frame.nameOf. -/
theorem nameOf_any (t : List Int) (v : Value) (w : World) (hv : Bytes w v t) (hb : ∀ z ∈ t, Byte z) (hl : t.length ≤ 1000000) :
    Calls Tryd.prog 31 #[v] w fun e w' => e = .returned (.string (strOfNums (nameL t))) ∧ w' = w := by
  have T := hide (trim_any t v w hv)
  have hst : strL (strOfNums (trimR t)) = trimR t := strL_str _ fun z hz => hb z (mem_trimR hz)
  have N := hide (named_any (strOfNums (trimR t)) w (by have := trimR_le t; rw [strOfNums_size]; omega))
  rw [hst] at N
  have HV := hide hv
  obtain ⟨a, cap, rfl, hc1, hc2⟩ := hv.form
  unfold nameL
  cases hn : namedL (trimR t) with
  | false =>
    rw [hn] at N
    rw [if_neg (by decide)]
    clear hv hst hn hb
    go_enter Tryd.func31, Tryd.ntmps31
    go_wp2_with fail
    refine T.out.mono ?_
    rintro e w' ⟨v', rfl, hall, rfl⟩
    have hconv := conv_any (hall _ HV.out)
    obtain ⟨a', cap', rfl, _⟩ := (hall _ HV.out).form
    clear hall
    obtain ⟨S, hS⟩ : ∃ S, S = strOfNums (trimR t) := ⟨_, rfl⟩
    rw [← hS] at hconv N
    have HS := hide hS
    clear hS
    go_wp2_with fail
    refine N.out.mono ?_
    rintro e w' ⟨rfl, rfl⟩
    go_wp2
    go_ret
    exact ⟨rfl, rfl⟩
  | true =>
    rw [hn] at N
    rw [if_pos rfl]
    clear hv hst hn hb
    go_enter Tryd.func31, Tryd.ntmps31
    go_wp2_with fail
    refine T.out.mono ?_
    rintro e w' ⟨v', rfl, hall, rfl⟩
    have hconv := conv_any (hall _ HV.out)
    obtain ⟨a', cap', rfl, _⟩ := (hall _ HV.out).form
    clear hall
    obtain ⟨S, hS⟩ : ∃ S, S = strOfNums (trimR t) := ⟨_, rfl⟩
    rw [← hS] at hconv N
    have HS := hide hS
    clear hS
    go_wp2_with fail
    refine N.out.mono ?_
    rintro e w' ⟨rfl, rfl⟩
    go_wp2
    go_ret
    exact ⟨by rw [← HS.out]; rfl, rfl⟩

end Go.Proofs.YtjmifgdjmaelfabDoor

/-
  What frame.Head answers at this program, whatever the bytes.
-/
namespace Go.Proofs.YtjmifgdjmaelfabDoor
open Go.RowKit

/-- A header as a value. -/
def hdrV (c : List Int) (n s : Int) : Value := .agg #[.string (strOfNums c), .int .i64 n, .int .u32 s]
/-- What Head comes to. -/
def HeadDone (w : World) (l : List Int) (e : Ending) (w' : World) : Prop :=
  e = .returned (.tuple #[hdrV (hdC l) (hdN l) (hdS l), .int .i64 (hdE l)]) ∧ Below w.heap.size w w'
theorem headDone_bad {w w' : World} {l : List Int} {z : Int} (h : hdE l = z) (hz : ¬ z = 0) (hb : Below w.heap.size w w') : HeadDone w l (.returned (.tuple #[.agg #[.string ⟨#[]⟩, .int .i64 0, .int .u32 0], .int .i64 z])) w' := by
  subst h
  refine ⟨?_, hb⟩
  unfold hdC hdN hdS
  rw [if_neg hz, if_neg hz, if_neg hz]
  rfl
theorem hdr_one {c : ByteArray} {n s : Int} : ∀ v ∈ [Value.string c, .int .i64 n, .int .u32 s], v.oneCell' = true := by simp [Value.oneCell']
theorem info_hdr : (Tryd.prog.info? 54).map (·.size) = some 3 := by kernel_rfl
theorem get4 (t : List Int) (h : t.length = 4) : getX t = num t ∧ getE t = 0 := by
  unfold getX getE
  rw [h]
  exact ⟨rfl, rfl⟩
theorem num4 (t : List Int) (h : t.length = 4) (hb : ∀ z ∈ t, Byte z) : 0 ≤ num t ∧ num t < 4294967296 := by
  have h1 := num_nonneg t hb
  have h2 := num_lt t hb
  rw [h] at h2
  exact ⟨h1, by simpa using h2⟩

set_option maxRecDepth 100000 in
set_option maxHeartbeats 1000000 in
theorem head_not (w : World) (v : Value) (l : List Int) (hv : Bytes w v l) (h24 : ¬ l.length = 24) :
    Calls Tryd.prog 13 #[v] w fun e w' => HeadDone w l e w' := by
  have hE : hdE l = 2 := by unfold hdE; rw [if_neg h24]
  have HD := hide (fun w' => headDone_bad (w := w) (w' := w') hE (by omega))
  obtain ⟨a, cap, rfl, hc1, hc2⟩ := hv.form
  have h24' : ((l.length : Int) == 24) = false := beq_eq_false_iff_ne.2 (by omega)
  clear hv hE
  go_enter Tryd.func13, Tryd.ntmps13
  go_wp2
  exact ret_row_tmp 2 3 54 rfl _ 0 rfl [.string ⟨#[]⟩, .int .i64 0, .int .u32 0] (range_new w _ _) _ Tryd.underlying54 rfl info_hdr _ rfl rfl (HD.out _ ((Below.refl _ _).alloc (Nat.le_refl _) _))

theorem eql4 (xs ys : List Int) (hx : xs.length = 4) (hy : ys.length = 4) (w : World) : (Op.equalIn 10000 75 (.agg (vals .u8 xs).toArray) (.agg (vals .u8 ys).toArray)).run Tryd.prog w = .ok (decide (xs = ys)) w :=
  eql_arr w 75 5 4 .u8 Tryd.underlying75 Tryd.underlying5 (fun _ => by kernel_rfl) xs ys hx hy

set_option maxRecDepth 100000 in
set_option maxHeartbeats 1000000 in
theorem head_24 (w : World) (v : Value) (l : List Int) (hv : Bytes w v l) (hb : ∀ z ∈ l, Byte z) (h24 : l.length = 24) :
    Calls Tryd.prog 13 #[v] w fun e w' => HeadDone w l e w' := by
  obtain ⟨b, off, cap, rfl, hc1, hc2, -⟩ := hv.lies (by omega)
  have F := hide (fun wx (h : Bytes wx (.slice (some ⟨b, off, none⟩) l.length cap) l) => firstOf_any wx _ l h (by omega))
  have M := hide (fun wx => magic_any wx)
  have HT : Hid ((l.take 4).length = 4) := hide (by simp; omega)
  have HQ := hide (eql4 (l.take 4) magicL HT.out rfl)
  have HV := hide hv
  have HR := hide (there_new w #[.string ⟨#[]⟩, .int .i64 0, .int .u32 0] 54)
  have HB0 := hide ((Below.refl w.heap.size w).alloc (Nat.le_refl _) (.cells #[.string ⟨#[]⟩, .int .i64 0, .int .u32 0] 54))
  by_cases hm : l.take 4 = magicL
  · have l1 : ((l.drop 16).take 4).length = 4 := by simp; omega
    have l2 : (l.drop 20).length = 4 := by simp; omega
    have b1 : ∀ z ∈ (l.drop 16).take 4, Byte z := fun z hz => hb z (List.mem_of_mem_drop (List.mem_of_mem_take hz))
    have b2 : ∀ z ∈ l.drop 20, Byte z := fun z hz => hb z (List.mem_of_mem_drop hz)
    have b3 : ∀ z ∈ (l.drop 4).take 12, Byte z := fun z hz => hb z (List.mem_of_mem_drop (List.mem_of_mem_take hz))
    have G1 := hide (fun wx p (h : Bytes wx p ((l.drop 16).take 4)) => get_any _ p wx h b1)
    rw [(get4 _ l1).1, (get4 _ l1).2] at G1
    obtain ⟨n0, n1⟩ := num4 _ l1 b1
    have S1 := hide (fun wx (h : Bytes wx (.slice (some ⟨b, off, none⟩) 24 cap) l) => h.mid 16 20 (by omega) (by omega) (by omega) 4 (cap - 16) rfl rfl)
    by_cases hn : num ((l.drop 16).take 4) ≤ 2048
    · have hE : hdE l = 0 := by unfold hdE; rw [if_pos h24, if_pos hm, if_pos hn]
      have G2 := hide (fun wx p (h : Bytes wx p (l.drop 20)) => get_any _ p wx h b2)
      rw [(get4 _ l2).1, (get4 _ l2).2] at G2
      obtain ⟨s0, s1⟩ := num4 _ l2 b2
      have S2 : Hid (∀ wx, Bytes wx (.slice (some ⟨b, off, none⟩) 24 cap) l → Bytes wx (.slice (some ⟨b, off + 20, none⟩) 4 (cap - 20)) (l.drop 20)) := hide (fun wx h => by
        have := h.mid 20 24 (by omega) (by omega) (by omega) 4 (cap - 20) rfl rfl
        rwa [List.take_of_length_le (by omega)] at this)
      have S3 := hide (fun wx (h : Bytes wx (.slice (some ⟨b, off, none⟩) 24 cap) l) => h.mid 4 16 (by omega) (by omega) (by omega) 12 (cap - 4) rfl rfl)
      have N := hide (fun wx p (h : Bytes wx p ((l.drop 4).take 12)) => nameOf_any _ p wx h b3 (by simp; omega))
      have HD : Hid (∀ w', Below w.heap.size w w' → HeadDone w l (.returned (.tuple #[.agg #[.string (strOfNums (nameL ((l.drop 4).take 12))), .int .i64 (num ((l.drop 16).take 4)), .int .u32 (num (l.drop 20))], .int .i64 0])) w') := hide (fun w' hb => by
        refine ⟨?_, hb⟩
        unfold hdC hdN hdS
        rw [hE, if_pos rfl, if_pos rfl, if_pos rfl]
        rfl)
      rw [decide_eq_true hm] at HQ
      rw [h24] at *
      clear hv hE l1 l2 b1 b2 b3 hb hm
      generalize (l.drop 4).take 12 = t at *
      generalize hx : num ((l.drop 16).take 4) = x at *
      generalize (l.drop 16).take 4 = t1 at *
      generalize hy : num (l.drop 20) = y at *
      generalize l.drop 20 = t2 at *
      generalize l.take 4 = t4 at *
      clear hx hy
      go_enter Tryd.func13, Tryd.ntmps13
      go_upto_region 3 with fail
      generalize w.alloc (.cells #[.string ⟨#[]⟩, .int .i64 0, .int .u32 0] 54) = W0 at *
      go_wp2_with fail
      refine (F.out _ (HV.out.below HB0.out)).mono ?_
      rintro e w1 ⟨rfl, hbel1⟩
      have HB1 := hide (below_on HB0.out hbel1)
      have HR1 := hide (there_on HR.out hbel1)
      clear hbel1 HR HB0
      go_wp2_with fail
      refine (M.out _).mono ?_
      rintro e w2 ⟨rfl, hbel2⟩
      have HB2 := hide (below_on HB1.out hbel2)
      have HR2 : Hid (w2.there w.heap.size 0 3) := hide (there_on HR1.out hbel2)
      have hq := HQ.out w2
      clear hbel2 HR1 HB1
      go_wp2_with fail
      refine (G1.out _ _ (S1.out _ (HV.out.below HB2.out))).mono ?_
      rintro e w' ⟨rfl, rfl⟩
      go_wp2_with fail
      refine (G2.out _ _ (S2.out _ (HV.out.below HB2.out))).mono ?_
      rintro e w3 ⟨rfl, rfl⟩
      go_wp2_with fail
      refine (N.out _ _ (S3.out _ (HV.out.below HB2.out))).mono ?_
      rintro e w4 ⟨rfl, rfl⟩
      generalize strOfNums (nameL t) = S at *
      go_wp2_with (refine wp_store_row rfl 54 (.tmp 2) (.tmp 39) rfl _ 0 [.string S, .int .i64 x, .int .u32 y] rfl rfl HR2.out info_hdr hdr_one ?_)
      refine ret_row_tmp 2 3 54 rfl _ 0 rfl [.string S, .int .i64 x, .int .u32 y] (World.rangeAt_setCells_same _ _ _ _ HR2.out) _ Tryd.underlying54 rfl info_hdr (.int .i64 0) rfl rfl (HD.out _ (below_sets (Nat.le_refl _) _ _ _ HB2.out))
    · have hE : hdE l = 5 := by unfold hdE; rw [if_pos h24, if_pos hm, if_neg hn]
      have HD := hide (fun w' => headDone_bad (w := w) (w' := w') hE (by omega))
      have hn' : 2048 < num ((l.drop 16).take 4) := by omega
      rw [decide_eq_true hm] at HQ
      rw [h24] at *
      clear hv hE l1 l2 b1 b2 b3 hb hm hn
      generalize num ((l.drop 16).take 4) = x at *
      generalize (l.drop 16).take 4 = t1 at *
      generalize l.take 4 = t4 at *
      go_enter Tryd.func13, Tryd.ntmps13
      go_upto_region 3 with fail
      generalize w.alloc (.cells #[.string ⟨#[]⟩, .int .i64 0, .int .u32 0] 54) = W0 at *
      go_wp2_with fail
      refine (F.out _ (HV.out.below HB0.out)).mono ?_
      rintro e w1 ⟨rfl, hbel1⟩
      have HB1 := hide (below_on HB0.out hbel1)
      have HR1 := hide (there_on HR.out hbel1)
      clear hbel1 HR HB0
      go_wp2_with fail
      refine (M.out _).mono ?_
      rintro e w2 ⟨rfl, hbel2⟩
      have HB2 := hide (below_on HB1.out hbel2)
      have HR2 : Hid (w2.there w.heap.size 0 3) := hide (there_on HR1.out hbel2)
      have hq := HQ.out w2
      clear hbel2 HR1 HB1
      go_wp2_with fail
      refine (G1.out _ _ (S1.out _ (HV.out.below HB2.out))).mono ?_
      rintro e w' ⟨rfl, rfl⟩
      go_wp2_with (refine wp_store_row rfl 54 (.tmp 2) (.tmp 25) rfl _ 0 [.string ⟨#[]⟩, .int .i64 0, .int .u32 0] rfl rfl HR2.out info_hdr hdr_one ?_)
      refine ret_row_tmp 2 3 54 rfl _ 0 rfl [.string ⟨#[]⟩, .int .i64 0, .int .u32 0] (World.rangeAt_setCells_same _ _ _ _ HR2.out) _ Tryd.underlying54 rfl info_hdr (.int .i64 5) rfl rfl (HD.out _ (below_sets (Nat.le_refl _) _ _ _ HB2.out))
  · have hE : hdE l = 6 := by unfold hdE; rw [if_pos h24, if_neg hm]
    have HD := hide (fun w' => headDone_bad (w := w) (w' := w') hE (by omega))
    rw [decide_eq_false hm] at HQ
    rw [h24] at *
    clear hv hE hb hm
    generalize l.take 4 = t4 at *
    go_enter Tryd.func13, Tryd.ntmps13
    go_upto_region 3 with fail
    generalize w.alloc (.cells #[.string ⟨#[]⟩, .int .i64 0, .int .u32 0] 54) = W0 at *
    go_wp2_with fail
    refine (F.out _ (HV.out.below HB0.out)).mono ?_
    rintro e w1 ⟨rfl, hbel1⟩
    have HB1 := hide (below_on HB0.out hbel1)
    have HR1 := hide (there_on HR.out hbel1)
    clear hbel1 HR HB0
    go_wp2_with fail
    refine (M.out _).mono ?_
    rintro e w2 ⟨rfl, hbel2⟩
    have HB2 := hide (below_on HB1.out hbel2)
    have HR2 : Hid (w2.there w.heap.size 0 3) := hide (there_on HR1.out hbel2)
    have hq := HQ.out w2
    clear hbel2 HR1 HB1
    go_wp2_with (refine wp_store_row rfl 54 (.tmp 2) (.tmp 16) rfl _ 0 [.string ⟨#[]⟩, .int .i64 0, .int .u32 0] rfl rfl HR2.out info_hdr hdr_one ?_)
    refine ret_row_tmp 2 3 54 rfl _ 0 rfl [.string ⟨#[]⟩, .int .i64 0, .int .u32 0] (World.rangeAt_setCells_same _ _ _ _ HR2.out) _ Tryd.underlying54 rfl info_hdr (.int .i64 6) rfl rfl (HD.out _ (below_sets (Nat.le_refl _) _ _ _ HB2.out))

theorem head_any (w : World) (v : Value) (l : List Int) (hv : Bytes w v l) (hb : ∀ z ∈ l, Byte z) :
    Calls Tryd.prog 13 #[v] w fun e w' => HeadDone w l e w' := by
  by_cases h : l.length = 24
  · exact head_24 w v l hv hb h
  · exact head_not w v l hv h

end Go.Proofs.YtjmifgdjmaelfabDoor

/-
  What frame.Get answers at this program, whatever the bytes.
-/
namespace Go.Proofs.YtjmifgdjmaelfabDoor
open Go.RowKit

/-- What Get comes to. -/
def FGetDone (w : World) (l : List Int) (e : Ending) (w' : World) : Prop :=
  ∃ v', e = .returned (.tuple #[.string (strOfNums (geC l)), v', .int .i64 (geN l), .int .i64 (geE l)]) ∧ Own w' w.heap.size v' (geB l) ∧ Below w.heap.size w w'
theorem fgetDone_bad {w w' : World} {l : List Int} {n z : Int} (hE : geE l = z) (hz : ¬ z = 0) (hN : geN l = n) (hb : Below w.heap.size w w') :
    FGetDone w l (.returned (.tuple #[.string ⟨#[]⟩, .slice none 0 0, .int .i64 n, .int .i64 z])) w' := by
  subst hE hN
  refine ⟨.slice none 0 0, ?_, ?_, hb⟩
  · unfold geC
    rw [if_neg hz]
    rfl
  · unfold geB
    rw [if_neg hz]
    exact Own.nil _ _
theorem geN_bad {l : List Int} (h0 : ¬ geE l = 0) (h7 : ¬ geE l = 7) (h8 : ¬ geE l = 8) : geN l = 0 := by
  unfold geN
  rw [if_neg (by omega)]

set_option maxRecDepth 100000 in
theorem get_short (w : World) (v : Value) (l : List Int) (hv : Bytes w v l) (h : l.length < 24) :
    Calls Tryd.prog 7 #[v] w fun e w' => FGetDone w l e w' := by
  have hE : geE l = 4 := by unfold geE; rw [if_pos h]
  have HD := hide (fgetDone_bad (w := w) (w' := w) hE (by omega) (geN_bad (by omega) (by omega) (by omega)) (Below.refl _ _))
  obtain ⟨a, cap, rfl, hc1, hc2⟩ := hv.form
  clear hv hE
  go_enter Tryd.func7, Tryd.ntmps7
  go_wp2
  exact ret_tmp4 2 3 4 5 rfl _ _ _ _ rfl rfl rfl rfl rfl HD.out

/-- The header in its box. -/
theorem box_hdr (w : World) (c : ByteArray) (n s : Int) : Below w.heap.size w (w.alloc (.cells #[.string c, .int .i64 n, .int .u32 s] 54)) ∧
    ∀ wx, Below (w.alloc (.cells #[.string c, .int .i64 n, .int .u32 s] 54)).heap.size (w.alloc (.cells #[.string c, .int .i64 n, .int .u32 s] 54)) wx →
      wx.cell? ⟨w.heap.size, 0, none⟩ = some (.string c) ∧ wx.cell? ⟨w.heap.size, 1, none⟩ = some (.int .i64 n) ∧ wx.cell? ⟨w.heap.size, 2, none⟩ = some (.int .u32 s) := by
  refine ⟨(Below.refl _ _).alloc (Nat.le_refl _) _, fun wx hb => ?_⟩
  have hr := range_on (range_new w [.string c, .int .i64 n, .int .u32 s] 54) hb
  have h0 := hr 0 _ rfl
  have h1 := hr 1 _ rfl
  have h2 := hr 2 _ rfl
  exact ⟨by simpa using h0, by simpa using h1, by simpa using h2⟩

set_option maxRecDepth 100000 in
set_option maxHeartbeats 1000000 in
theorem fget_bad (w : World) (v : Value) (l : List Int) (hv : Bytes w v l) (hb : ∀ z ∈ l, Byte z) (h : ¬ l.length < 24) (hh : ¬ hdE (l.take 24) = 0) :
    Calls Tryd.prog 7 #[v] w fun e w' => FGetDone w l e w' := by
  have hE : geE l = hdE (l.take 24) := by unfold geE; rw [if_neg h, if_neg hh]
  have hk : hdE (l.take 24) = 5 ∨ hdE (l.take 24) = 6 ∨ hdE (l.take 24) = 2 := by
    unfold hdE at hh ⊢
    split <;> (try split) <;> (try split) <;> simp_all
  have HD := hide (fun w' => fgetDone_bad (w := w) (w' := w') hE hh (geN_bad (by omega) (by omega) (by omega)))
  obtain ⟨b, off, cap, rfl, hc1, hc2, -⟩ := hv.lies (by omega)
  have HH := hide (fun wx p (k : Bytes wx p (l.take 24)) => head_any wx p (l.take 24) k (fun z hz => hb z (List.mem_of_mem_take hz)))
  have S := hide (hv.take 24 (by omega))
  have hne : (hdE (l.take 24) == 0) = false := beq_eq_false_iff_ne.2 hh
  clear hv hE hb hk
  unfold HeadDone at HH
  simp only [hdrV] at HH
  generalize hdE (l.take 24) = z at *
  generalize strOfNums (hdC (l.take 24)) = c at *
  generalize hdN (l.take 24) = n at *
  generalize hdS (l.take 24) = sm at *
  have h24 : 24 ≤ l.length := by omega
  go_enter Tryd.func7, Tryd.ntmps7
  go_wp2_with fail
  refine (HH.out _ _ S.out).mono ?_
  rintro e w1 ⟨rfl, hbel1⟩
  have HB := hide (below_on hbel1 (box_hdr w1 c n sm).1)
  clear hbel1
  go_wp2
  exact ret_tmp4 2 3 4 5 rfl _ _ _ _ rfl rfl rfl rfl rfl (HD.out _ HB.out)

theorem hdN_range (t : List Int) (hb : ∀ z ∈ t, Byte z) : 0 ≤ hdN t ∧ hdN t ≤ 2048 := by
  unfold hdN
  split
  · rename_i h
    have h1 := num_nonneg ((t.drop 16).take 4) (fun z hz => hb z (List.mem_of_mem_drop (List.mem_of_mem_take hz)))
    unfold hdE at h
    split at h <;> (try split at h) <;> (try split at h) <;> simp_all
  · exact ⟨by omega, by omega⟩

set_option maxRecDepth 100000 in
set_option maxHeartbeats 1000000 in
theorem fget_cut (w : World) (v : Value) (l : List Int) (hv : Bytes w v l) (hb : ∀ z ∈ l, Byte z) (h : ¬ l.length < 24) (hh : hdE (l.take 24) = 0) (hcut : (l.length : Int) < 24 + hdN (l.take 24)) :
    Calls Tryd.prog 7 #[v] w fun e w' => FGetDone w l e w' := by
  have hE : geE l = 4 := by unfold geE; rw [if_neg h, if_pos hh, if_pos hcut]
  have HD := hide (fun w' => fgetDone_bad (w := w) (w' := w') hE (by omega) (geN_bad (by omega) (by omega) (by omega)))
  obtain ⟨b, off, cap, rfl, hc1, hc2, -⟩ := hv.lies (by omega)
  have HH := hide (fun wx p (k : Bytes wx p (l.take 24)) => head_any wx p (l.take 24) k (fun z hz => hb z (List.mem_of_mem_take hz)))
  have S := hide (hv.take 24 (by omega))
  have HV := hide hv
  obtain ⟨n, hn⟩ : ∃ n : Nat, hdN (l.take 24) = n := ⟨(hdN (l.take 24)).toNat, by have := (hdN_range (l.take 24) (fun z hz => hb z (List.mem_of_mem_take hz))).1; omega⟩
  have hn2 : n ≤ 2048 := by have := (hdN_range (l.take 24) (fun z hz => hb z (List.mem_of_mem_take hz))).2; omega
  clear hv hE hb
  unfold HeadDone at HH
  simp only [hdrV] at HH
  rw [hh, hn] at HH
  rw [hn] at hcut
  generalize strOfNums (hdC (l.take 24)) = c at *
  generalize hdS (l.take 24) = sm at *
  have h24 : 24 ≤ l.length := by omega
  clear hh hn
  go_enter Tryd.func7, Tryd.ntmps7
  go_wp2_with fail
  refine (HH.out _ _ S.out).mono ?_
  rintro e w1 ⟨rfl, hbel1⟩
  have HB := hide (below_on hbel1 (box_hdr w1 c n sm).1)
  clear hbel1
  go_wp2
  exact ret_tmp4 2 3 4 5 rfl _ _ _ _ rfl rfl rfl rfl rfl (HD.out _ HB.out)

set_option maxRecDepth 100000 in
set_option maxHeartbeats 1000000 in
theorem get_noname (w : World) (v : Value) (l : List Int) (hv : Bytes w v l) (hb : ∀ z ∈ l, Byte z) (h : ¬ l.length < 24) (hh : hdE (l.take 24) = 0) (hcut : ¬ (l.length : Int) < 24 + hdN (l.take 24)) (hc : hdC (l.take 24) = []) :
    Calls Tryd.prog 7 #[v] w fun e w' => FGetDone w l e w' := by
  have hE : geE l = 8 := by unfold geE; rw [if_neg h, if_pos hh, if_neg hcut, if_pos hc]
  have hN : geN l = 24 + hdN (l.take 24) := by unfold geN; rw [if_pos (by omega)]
  have HD := hide (fun w' => fgetDone_bad (w := w) (w' := w') hE (by omega) hN)
  obtain ⟨b, off, cap, rfl, hc1, hc2, -⟩ := hv.lies (by omega)
  have HH := hide (fun wx p (k : Bytes wx p (l.take 24)) => head_any wx p (l.take 24) k (fun z hz => hb z (List.mem_of_mem_take hz)))
  have S := hide (hv.take 24 (by omega))
  have HV := hide hv
  obtain ⟨n, hn⟩ : ∃ n : Nat, hdN (l.take 24) = n := ⟨(hdN (l.take 24)).toNat, by have := (hdN_range (l.take 24) (fun z hz => hb z (List.mem_of_mem_take hz))).1; omega⟩
  have hn2 : n ≤ 2048 := by have := (hdN_range (l.take 24) (fun z hz => hb z (List.mem_of_mem_take hz))).2; omega
  clear hv hE hb hN
  unfold HeadDone at HH
  simp only [hdrV] at HH
  rw [hh, hn, hc, str_nil] at HH
  rw [hn] at hcut HD
  generalize hdS (l.take 24) = sm at *
  have h24 : 24 ≤ l.length := by omega
  clear hh hn hc
  go_enter Tryd.func7, Tryd.ntmps7
  go_wp2_with fail
  refine (HH.out _ _ S.out).mono ?_
  rintro e w1 ⟨rfl, hbel1⟩
  have HB := hide (below_on hbel1 (box_hdr w1 ⟨#[]⟩ n sm).1)
  clear hbel1
  go_wp2
  exact ret_tmp4 2 3 4 5 rfl _ _ _ _ rfl rfl rfl rfl rfl (HD.out _ HB.out)

set_option maxRecDepth 100000 in
set_option maxHeartbeats 1000000 in
theorem get_body (w : World) (v : Value) (l : List Int) (hv : Bytes w v l) (hb : ∀ z ∈ l, Byte z) (hk : Ks w) (h : ¬ l.length < 24) (hh : hdE (l.take 24) = 0) (hcut : ¬ (l.length : Int) < 24 + hdN (l.take 24)) (hc : ¬ hdC (l.take 24) = []) :
    Calls Tryd.prog 7 #[v] w fun e w' => FGetDone w l e w' := by
  obtain ⟨b, off, cap, rfl, hc1, hc2, -⟩ := hv.lies (by omega)
  have HH := hide (fun wx p (k : Bytes wx p (l.take 24)) => head_any wx p (l.take 24) k (fun z hz => hb z (List.mem_of_mem_take hz)))
  have S := hide (hv.take 24 (by omega))
  have HV := hide hv
  obtain ⟨n, hn⟩ : ∃ n : Nat, hdN (l.take 24) = n := ⟨(hdN (l.take 24)).toNat, by have := (hdN_range (l.take 24) (fun z hz => hb z (List.mem_of_mem_take hz))).1; omega⟩
  have hn2 : n ≤ 2048 := by have := (hdN_range (l.take 24) (fun z hz => hb z (List.mem_of_mem_take hz))).2; omega
  have hbl : bodyL l = (l.drop 24).take n := by unfold bodyL; rw [hn]; rfl
  have hlen : ((l.drop 24).take n).length = n := by simp; omega
  have hcs : (strOfNums (hdC (l.take 24))).toList.isEmpty = false := by
    rw [ByteArray.toList_eq, strOfNums_data]
    cases hq : hdC (l.take 24) with
    | nil => exact absurd hq hc
    | cons => rfl
  have h24 : 24 ≤ l.length := by omega
  have BD : Hid (∀ wx, Bytes wx (.slice (some ⟨b, off, none⟩) l.length cap) l → Bytes wx (.slice (if cap = 24 then some ⟨b, off, none⟩ else some ⟨b, off + 24, none⟩) (24 + n - 24) (cap - 24)) ((l.drop 24).take n)) := hide (fun wx k => by
    have := (k.drop 24 (by omega)).take n (by omega)
    rw [show 24 + n - 24 = n by omega]
    simpa [Addr.add] using this)
  have CK := hide (fun wx p (k : Bytes wx p ((l.drop 24).take n)) (j : Ks wx) => shaCheck_any wx p _ k j (by omega))
  change Hid (∀ wx p, Bytes wx p ((l.drop 24).take n) → Ks wx → Calls Tryd.prog 14 #[p] wx fun e w' => e = .returned (.int .u32 (chk ((l.drop 24).take n))) ∧ Below wx.heap.size wx w') at CK
  have CL := hide (fun wx p (k : Bytes wx p ((l.drop 24).take n)) => clone_any _ p wx k (by omega))
  have HK := hide hk
  by_cases hsum : chk (bodyL l) = hdS (l.take 24)
  · have hE : geE l = 0 := by unfold geE; rw [if_neg h, if_pos hh, if_neg hcut, if_neg hc, if_pos hsum]
    have HD : Hid (∀ v' w', Own w' w.heap.size v' ((l.drop 24).take n) → Below w.heap.size w w' → FGetDone w l (.returned (.tuple #[.string (strOfNums (hdC (l.take 24))), v', .int .i64 (24 + n), .int .i64 0])) w') := hide (fun v' w' ho hbl' => by
      refine ⟨v', ?_, ?_, hbl'⟩
      · unfold geC geN
        rw [hE, if_pos rfl, if_pos (Or.inl rfl), hn]
      · unfold geB
        rw [if_pos hE, hbl]
        exact ho)
    rw [hbl] at hsum
    unfold HeadDone at HH
    simp only [hdrV] at HH
    rw [hh, hn, ← hsum] at HH
    rw [hn] at hcut
    clear hv hE hb hbl hh hn hc hk hsum
    generalize strOfNums (hdC (l.take 24)) = c at *
    generalize chk ((l.drop 24).take n) = sm at *
    generalize (l.drop 24).take n = body at *
    go_enter Tryd.func7, Tryd.ntmps7
    go_wp2_with fail
    refine (HH.out _ _ S.out).mono ?_
    rintro e w1 ⟨rfl, hbel1⟩
    have hx := box_hdr w1 c n sm
    go_upto_region 12 with fail
    have HB := hide (below_on hbel1 hx.1)
    have HC := hide hx.2
    clear hx hbel1
    generalize w1.alloc (.cells #[.string c, .int .i64 n, .int .u32 sm] 54) = W at *
    generalize w1.heap.size = g at *
    generalize hpv : Value.slice (if cap = 24 then some (⟨b, off, none⟩ : Addr) else some ⟨b, off + 24, none⟩) (24 + n - 24) (cap - 24) = pv at *
    clear hpv
    have HCC : Hid (∀ wx, Below W.heap.size W wx → Below W.heap.size W wx ∧ wx.cell? ⟨g, 2, none⟩ = some (.int .u32 sm)) := hide (fun wx h => ⟨h, (HC.out wx h).2.2⟩)
    go_region_held3 (fun wx => Below W.heap.size W wx ∧ wx.cell? ⟨g, 2, none⟩ = some (.int .u32 sm))
      (((with_reducible refine HCC.out _ ?_); (repeat (with_reducible first | exact hb3 | exact Below.refl _ _ | refine Below.drew ?_ | fail))))
      (first
        | (go_at_call 14; refine (CK.out _ _ (BD.out _ (HV.out.below (below_on HB.out (Below.refl _ _).drew))) (HK.out.on (below_on HB.out (Below.refl _ _).drew))).mono ?_; rintro e w3 ⟨rfl, hb3'⟩; have hb3 : Below W.heap.size W w3 := below_on (Below.refl _ _).drew hb3'))
    have HB3 := hide (below_on HB.out hb3)
    have HC3 : Hid (∀ wx, Below w3.heap.size w3 wx → Below w3.heap.size w3 wx ∧ wx.cell? ⟨g, 0, none⟩ = some (.string c)) := hide (fun wx h => ⟨h, (HC.out wx (below_on hb3 h)).1⟩)
    rename_i hHeld
    clear hHeld hb3 hb3'
    go_upto_region 14 with fail
    go_region_held3 (fun wx => Below w3.heap.size w3 wx ∧ wx.cell? ⟨g, 0, none⟩ = some (.string c))
      (((with_reducible refine HC3.out _ ?_); (repeat (with_reducible first | exact hb4 | exact Below.refl _ _ | refine Below.drew ?_ | fail))))
      (first
        | (go_at_call 15; refine (CL.out _ _ (BD.out _ (HV.out.below (below_on HB3.out (Below.refl _ _).drew)))).mono ?_; rintro e w4 ⟨v4, rfl, hown4, hb4'⟩; have hb4 : Below w3.heap.size w3 w4 := below_on (Below.refl _ _).drew hb4'))
    have HR := hide (HD.out v4 w4 (hown4.low HB3.out.size) (below_on HB3.out hb4))
    clear hown4 hb4 hb4'
    go_wp2
    exact ret_tmp4 2 3 4 5 rfl _ _ _ _ rfl rfl rfl rfl rfl HR.out
  · have hE : geE l = 7 := by unfold geE; rw [if_neg h, if_pos hh, if_neg hcut, if_neg hc, if_neg hsum]
    have hN : geN l = 24 + hdN (l.take 24) := by unfold geN; rw [if_pos (by omega)]
    have HD := hide (fun w' => fgetDone_bad (w := w) (w' := w') hE (by omega) hN)
    rw [hbl] at hsum
    unfold HeadDone at HH
    simp only [hdrV] at HH
    rw [hh, hn] at HH
    rw [hn] at hcut HD
    clear hv hE hb hbl hh hn hc hk hN
    generalize strOfNums (hdC (l.take 24)) = c at *
    have hne : (chk ((l.drop 24).take n) == hdS (l.take 24)) = false := beq_eq_false_iff_ne.2 hsum
    clear hsum
    generalize chk ((l.drop 24).take n) = ck at *
    generalize hdS (l.take 24) = sm at *
    generalize (l.drop 24).take n = body at *
    go_enter Tryd.func7, Tryd.ntmps7
    go_wp2_with fail
    refine (HH.out _ _ S.out).mono ?_
    rintro e w1 ⟨rfl, hbel1⟩
    have hx := box_hdr w1 c n sm
    go_upto_region 12 with fail
    have HB := hide (below_on hbel1 hx.1)
    have HC := hide hx.2
    clear hx hbel1
    generalize w1.alloc (.cells #[.string c, .int .i64 n, .int .u32 sm] 54) = W at *
    generalize w1.heap.size = g at *
    generalize hpv : Value.slice (if cap = 24 then some (⟨b, off, none⟩ : Addr) else some ⟨b, off + 24, none⟩) (24 + n - 24) (cap - 24) = pv at *
    clear hpv
    have HCC : Hid (∀ wx, Below W.heap.size W wx → Below W.heap.size W wx ∧ wx.cell? ⟨g, 2, none⟩ = some (.int .u32 sm)) := hide (fun wx h => ⟨h, (HC.out wx h).2.2⟩)
    go_region_held3 (fun wx => Below W.heap.size W wx ∧ wx.cell? ⟨g, 2, none⟩ = some (.int .u32 sm))
      (((with_reducible refine HCC.out _ ?_); (repeat (with_reducible first | exact hb3 | exact Below.refl _ _ | refine Below.drew ?_ | fail))))
      (first
        | (go_at_call 14; refine (CK.out _ _ (BD.out _ (HV.out.below (below_on HB.out (Below.refl _ _).drew))) (HK.out.on (below_on HB.out (Below.refl _ _).drew))).mono ?_; rintro e w3 ⟨rfl, hb3'⟩; have hb3 : Below W.heap.size W w3 := below_on (Below.refl _ _).drew hb3'))
    have HB3 := hide (below_on HB.out hb3)
    clear hb3
    go_wp2
    exact ret_tmp4 2 3 4 5 rfl _ _ _ _ rfl rfl rfl rfl rfl (HD.out _ HB3.out)

theorem fget_any (w : World) (v : Value) (l : List Int) (hv : Bytes w v l) (hb : ∀ z ∈ l, Byte z) (hk : Ks w) :
    Calls Tryd.prog 7 #[v] w fun e w' => FGetDone w l e w' := by
  by_cases h : l.length < 24
  · exact get_short w v l hv h
  · by_cases hh : hdE (l.take 24) = 0
    · by_cases hcut : (l.length : Int) < 24 + hdN (l.take 24)
      · exact fget_cut w v l hv hb h hh hcut
      · by_cases hc : hdC (l.take 24) = []
        · exact get_noname w v l hv hb h hh hcut hc
        · exact get_body w v l hv hb hk h hh hcut hc
    · exact fget_bad w v l hv hb h hh

end Go.Proofs.YtjmifgdjmaelfabDoor
