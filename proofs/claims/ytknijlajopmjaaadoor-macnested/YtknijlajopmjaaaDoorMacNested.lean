/-
  MacNested: of whatever key of up to 64 bytes and whatever bytes, the sum under the key is the sum of the turned key and the sum of the key, turned otherwise, and the bytes: the call returns true, and the arguments read as before.
-/
import Derived.Test.YtknijlajopmjaaaDoorMacAlive
import Derived.Test.YtknijlajopmjaaaDoorShaLaw
import Derived.Test.YtknijlajopmjaaaDoorCame
namespace Go.Proofs.YtknijlajopmjaaaDoor
open Go.ChangeShapes Go.WideShapes Go.ChangeAt Go.RowKit

/-- What holds at the head of a round: the first j bytes of both blocks are turned. -/
def Nesting (w : World) (g : Nat) (kb : List Int) (kk : List Int) (n : Nat) (i : Value) (wr : World) : Prop :=
  ∃ j : Nat, j ≤ 64 ∧ i = .int .i64 j ∧ Below w.heap.size w wr ∧ Arr wr w.heap.size 0 .u8 kk ∧ Arr wr g 0 .u8 (xorPart kb 54 j) ∧ Arr wr (g + 1) 0 .u8 (xorPart kb 92 j) ∧ n ≤ 64
theorem nested_mac (k m : List Int) (hk : k.length ≤ 64) : macI k m = digest (xorB (k ++ List.replicate (64 - k.length) 0) 92 ++ digest (xorB (k ++ List.replicate (64 - k.length) 0) 54 ++ m)) := by
  have h : keyI k = k ++ List.replicate (64 - k.length) 0 := by
    have : shortI k = k := by simp [shortI]; omega
    rw [keyI, this]
  rw [macI, innerI, h]
theorem upto64 (g m : Nat) (hm : m ≤ 64) (w : World) : (Instr.sliceAt 40 (.pointer (some ⟨g, 0, none⟩)) none (some (.int .i64 (m : Int))) none).run Tryd.prog w = .ok (.slice (some ⟨g, 0, none⟩) m 64) w := by
  have ht : Tryd.prog.underlying 40 = some (.array (Tryd.prog.arrayLen 40) (Tryd.prog.elem 40)) := by rw [Tryd.underlying40]; kernel_rfl
  have hl : Tryd.prog.arrayLen 40 = 64 := by kernel_rfl
  have e : (sizeOf (Tryd.prog.elem 40)).run Tryd.prog w = .ok 1 w := by kernel_rfl
  rw [run_sliceAt_array_h w 40 _ ht .i64 (m : Int) (by omega) (by rw [hl]; omega), e, hl]
  simp [Result.andThen, slicedAt, Addr.add_mid]

/-- mac.Sum of one piece, in the list that the call itself lays. -/
theorem mac_one (w : World) (kv p : Value) (k l : List Int) (hkv : Bytes w kv k) (h : Bytes w p l) (hk : Ks w) (hl : l.length ≤ 10000000) (hks : k.length ≤ 10000000) :
    Calls Tryd.prog 11 #[kv, .slice (some ⟨w.heap.size, 0, none⟩) 1 1] (w.alloc (.cells #[p] 22)) fun e w' => e = .returned (.agg (vals .u8 (macI k l)).toArray) ∧ Below w.heap.size w w' :=
  (mac_flat _ _ k _ [l] l (hkv.alloc _) (by simp) (Parts.one w p l h) (hk.alloc _) hl hks).mono (by
    rintro e w' ⟨rfl, hb⟩
    exact ⟨rfl, box1 hb⟩)
theorem Arr.upto {w : World} {b m : Nat} {l : List Int} (h : Arr w b 0 .u8 l) (hl : l.length = 64) (hm : m ≤ 64) : Bytes w (.slice (some ⟨b, 0, none⟩) m 64) (l.take m) := (h.bytes64 hl).take m hm

/-- A sum under a key, the lists of whose call and of the next one are laid in whatever order. -/
theorem two_boxes (W : World) (kv lv ov iv : Value) (l OO II MM : List Int) (hl : Bytes W lv l) (ho : Bytes W ov OO) (hi : Bytes W iv II)
    (MS : ∀ wx v, Below W.heap.size W wx → Parts wx v [l] → Calls Tryd.prog 11 #[kv, v] wx fun e w' => e = .returned (.agg (vals .u8 MM).toArray) ∧ Below wx.heap.size wx w') :
    Calls Tryd.prog 11 #[kv, .slice (some ⟨W.heap.size, 0, none⟩) 1 1] (W.alloc (.cells #[lv] 22)).drew (fun e w' => e = .returned (.agg (vals .u8 MM).toArray) ∧ Below W.heap.size W w') ∧
    Calls Tryd.prog 11 #[kv, .slice (some ⟨W.heap.size, 0, none⟩) 1 1] ((W.alloc (.cells #[lv] 22)).alloc (.cells #[ov, iv] 22)).drew (fun e w' => e = .returned (.agg (vals .u8 MM).toArray) ∧ Below W.heap.size W w' ∧ Parts w' (.slice (some ⟨W.heap.size + 1, 0, none⟩) 2 2) [OO, II]) ∧
    Calls Tryd.prog 11 #[kv, .slice (some ⟨W.heap.size + 1, 0, none⟩) 1 1] ((W.alloc (.cells #[ov, iv] 22)).alloc (.cells #[lv] 22)).drew (fun e w' => e = .returned (.agg (vals .u8 MM).toArray) ∧ Below W.heap.size W w' ∧ Parts w' (.slice (some ⟨W.heap.size, 0, none⟩) 2 2) [OO, II]) := by
  have b1 : ∀ o : Obj, Below W.heap.size W (W.alloc o).drew := fun o => ((Below.refl _ _).alloc (Nat.le_refl _) _).drew
  have b2 : ∀ o o' : Obj, Below W.heap.size W ((W.alloc o).alloc o').drew := fun o o' => (((Below.refl _ _).alloc (Nat.le_refl _) _).alloc (by rw [alloc_size]; omega) _).drew
  refine ⟨?_, ?_, ?_⟩
  · refine (MS _ _ (b1 _) ((Parts.one W _ _ hl).below (Below.refl _ _).drew)).mono ?_
    rintro e w' ⟨rfl, hb⟩
    exact ⟨rfl, below_on (b1 _) hb⟩
  · refine (MS _ _ (b2 _ _) ((Parts.one W _ _ hl).below ((Below.refl _ _).alloc (Nat.le_refl _) _).drew)).mono ?_
    rintro e w' ⟨rfl, hb⟩
    have hq := Parts.two (W.alloc (.cells #[lv] 22)) ov iv OO II (ho.alloc _) (hi.alloc _)
    rw [alloc_size] at hq
    exact ⟨rfl, below_on (b2 _ _) hb, (hq.below (Below.refl _ _).drew).below hb⟩
  · have hq := Parts.one (W.alloc (.cells #[ov, iv] 22)) lv l (hl.alloc _)
    rw [alloc_size] at hq
    refine (MS _ _ (b2 _ _) (hq.below (Below.refl _ _).drew)).mono ?_
    rintro e w' ⟨rfl, hb⟩
    exact ⟨rfl, below_on (b2 _ _) hb, ((Parts.two W ov iv OO II ho hi).below ((Below.refl _ _).alloc (Nat.le_refl _) _).drew).below hb⟩

set_option maxRecDepth 100000 in
set_option maxHeartbeats 1000000 in
theorem macNested_walk {w : World} (hk : Ks w) (kk : List Int) (hkl : kk.length = 64) (_ : ∀ z ∈ kk, Byte z) (n : Int) (hn : Byte n) (v : Value) (l : List Int) (_ : ∀ z ∈ l, Byte z) (hv : Bytes w v l) :
    Calls Tryd.prog 5 #[.agg (vals .u8 kk).toArray, .int .u8 n, v] w fun e w' => e = .returned (.bool true) ∧ Below w.heap.size w w' := by
  have hB0 := (Below.refl w.heap.size w).alloc (Nat.le_refl _) (.cells (vals .u8 kk).toArray 40)
  have HA0 := hide (Arr.new w .u8 kk 40)
  have A := hide (malive_any _ (hk.on hB0))
  have HB0 := hide hB0
  have HK := hide hk
  have HKL := hide hkl
  have HV := hide hv
  obtain ⟨a, cap, rfl, hc1, hc2⟩ := hv.form
  obtain ⟨hn0, hn1⟩ := hn
  clear hk hB0 hkl hv
  by_cases hbig : 2000 < l.length
  · have hb : (2000 : Int) < (l.length : Int) := by omega
    clear hbig
    go_enter Tryd.func5, Tryd.ntmps5
    go_wp2_with fail
    refine A.out.mono ?_
    rintro e w1 ⟨rfl, hbel1⟩
    have HB1 := hide (below_on HB0.out hbel1)
    clear hbel1
    go_wp2
    go_ret
    exact ⟨rfl, HB1.out⟩
  · have hb : (l.length : Int) ≤ 2000 := by omega
    have HLL : Hid (l.length ≤ 2000) := hide (by omega)
    obtain ⟨m, hm⟩ : ∃ m : Nat, n % 65 = (m : Int) := ⟨(n % 65).toNat, by omega⟩
    have hm64 : m ≤ 64 := by omega
    have hsl := fun wx => upto64 w.heap.size m hm64 wx
    have HM := hide hm64
    obtain ⟨K0, hK0⟩ : ∃ K0, K0 = kk.take m := ⟨_, rfl⟩
    have hKm : K0.length = m := by rw [hK0]; simp; rw [HKL.out]; omega
    obtain ⟨KB, hKB⟩ : ∃ KB, KB = K0 ++ List.replicate (64 - K0.length) 0 := ⟨_, rfl⟩
    have hKBl : KB.length = 64 := by rw [hKB]; simp; omega
    have HKBL := hide hKBl
    have HKM := hide hKm
    have HK0 := hide hK0
    have HKB := hide hKB
    have EQ0 := nested_mac K0 l (by omega)
    rw [← hKB] at EQ0
    have HEQ := hide EQ0
    have HXL := hide ((xorB_length KB 54).trans hKBl)
    have HYL := hide ((xorB_length KB 92).trans hKBl)
    have HDL := hide (digest_length (xorB KB 54 ++ l))
    clear hbig hK0 hKB hKBl hKm hm64 EQ0
    go_enter Tryd.func5, Tryd.ntmps5
    go_wp2_with fail
    refine A.out.mono ?_
    rintro e w1 ⟨rfl, hbel1⟩
    have HB1 := hide (below_on HB0.out hbel1)
    have HA1 := hide (HA0.out.on hbel1)
    clear hbel1 A HA0 HB0
    go_upto_region 7 with fail
    have hbn := blocks_new w1
    generalize (w1.alloc (.cells #[.int .u8 0, .int .u8 0, .int .u8 0, .int .u8 0, .int .u8 0, .int .u8 0, .int .u8 0, .int .u8 0, .int .u8 0, .int .u8 0, .int .u8 0, .int .u8 0, .int .u8 0, .int .u8 0, .int .u8 0, .int .u8 0, .int .u8 0, .int .u8 0, .int .u8 0, .int .u8 0, .int .u8 0, .int .u8 0, .int .u8 0, .int .u8 0, .int .u8 0, .int .u8 0, .int .u8 0, .int .u8 0, .int .u8 0, .int .u8 0, .int .u8 0, .int .u8 0, .int .u8 0, .int .u8 0, .int .u8 0, .int .u8 0, .int .u8 0, .int .u8 0, .int .u8 0, .int .u8 0, .int .u8 0, .int .u8 0, .int .u8 0, .int .u8 0, .int .u8 0, .int .u8 0, .int .u8 0, .int .u8 0, .int .u8 0, .int .u8 0, .int .u8 0, .int .u8 0, .int .u8 0, .int .u8 0, .int .u8 0, .int .u8 0, .int .u8 0, .int .u8 0, .int .u8 0, .int .u8 0, .int .u8 0, .int .u8 0, .int .u8 0, .int .u8 0] 40)).alloc (.cells #[.int .u8 0, .int .u8 0, .int .u8 0, .int .u8 0, .int .u8 0, .int .u8 0, .int .u8 0, .int .u8 0, .int .u8 0, .int .u8 0, .int .u8 0, .int .u8 0, .int .u8 0, .int .u8 0, .int .u8 0, .int .u8 0, .int .u8 0, .int .u8 0, .int .u8 0, .int .u8 0, .int .u8 0, .int .u8 0, .int .u8 0, .int .u8 0, .int .u8 0, .int .u8 0, .int .u8 0, .int .u8 0, .int .u8 0, .int .u8 0, .int .u8 0, .int .u8 0, .int .u8 0, .int .u8 0, .int .u8 0, .int .u8 0, .int .u8 0, .int .u8 0, .int .u8 0, .int .u8 0, .int .u8 0, .int .u8 0, .int .u8 0, .int .u8 0, .int .u8 0, .int .u8 0, .int .u8 0, .int .u8 0, .int .u8 0, .int .u8 0, .int .u8 0, .int .u8 0, .int .u8 0, .int .u8 0, .int .u8 0, .int .u8 0, .int .u8 0, .int .u8 0, .int .u8 0, .int .u8 0, .int .u8 0, .int .u8 0, .int .u8 0, .int .u8 0] 40) = W at *
    have hgl : w.heap.size < w1.heap.size := HA1.out.lt (by rw [HKL.out]; omega)
    have HB2 := hide (below_on HB1.out hbn.1)
    have HA2 := hide (HA1.out.on hbn.1)
    have HY1 := hide ((HA1.out.on hbn.1).upto HKL.out HM.out)
    rw [← HK0.out] at HY1
    have HT2 : Hid (W.there w1.heap.size 0 64) := hide (by simpa using hbn.2.1.2)
    have hz1 := zeros_over hbn.2.1 K0 (by rw [HKM.out]; exact HM.out)
    rw [← HKB.out] at hz1
    have hB3 : Below w.heap.size w (W.setCells w1.heap.size 0 (vals .u8 K0)) := below_sets (by omega) _ _ _ HB2.out
    have hA3 : Arr (W.setCells w1.heap.size 0 (vals .u8 K0)) w.heap.size 0 .u8 kk := HA2.out.apart _ _ _ (Or.inl (by omega))
    have hZ3 : Arr (W.setCells w1.heap.size 0 (vals .u8 K0)) (w1.heap.size + 1) 0 .u8 (List.replicate 64 0) := hbn.2.2.apart _ _ _ (Or.inl (by omega))
    have hK0l : K0.length ≤ 64 := by rw [HKM.out]; exact HM.out
    have HK0L := hide hK0l
    go_upto_region 8 with (refine wp_copy rfl (.tmp 21) (.tmp 22) rfl _ 0 64 64 rfl _ K0 rfl HY1.out HK0L.out HT2.out ?_)
    generalize W.setCells w1.heap.size 0 (vals .u8 K0) = W3 at *
    have HY3 := hide (hA3.upto HKL.out HM.out)
    rw [← HK0.out] at HY3
    have HT3 : Hid (W3.there (w1.heap.size + 1) 0 64) := hide (by simpa using hZ3.2)
    have hz2 := zeros_over hZ3 K0 hK0l
    rw [← HKB.out] at hz2
    have HS : Hid (Nesting w w1.heap.size KB kk m (.int .i64 0) (W3.setCells (w1.heap.size + 1) 0 (vals .u8 K0))) := hide ⟨0, by omega, rfl, below_sets (by omega) _ _ _ hB3, hA3.apart _ _ _ (Or.inl (by omega)), by rw [xorPart_zero]; exact hz1.apart _ _ _ (Or.inl (by omega)), by rw [xorPart_zero]; exact hz2, HM.out⟩
    go_upto_region 9 with (refine wp_copy rfl (.tmp 24) (.tmp 25) rfl _ 0 64 64 rfl _ K0 rfl HY3.out HK0L.out HT3.out ?_)
    generalize W3.setCells (w1.heap.size + 1) 0 (vals .u8 K0) = W4 at *
    have HGL := hide hgl
    clear hbn hB3 hA3 hZ3 hz1 hz2 hK0l HB2 HA2 HY1 HT2 HY3 HT3 HB1 HA1 hsl hgl
    generalize w1.heap.size = g at *
    go_wp2
    go_loopw [27] (fun i wr => Nesting w g KB kk m i wr) (fun i _ => 64 - (intOf i).toNat)
    case atStart => exact HS.out
    case round =>
      clear HS
      obtain ⟨k, hk64, rfl, hB, hA, hX, hY, -⟩ := hrel
      by_cases hlt : k < 64
      · have hkl : k < KB.length := by rw [HKBL.out]; exact hlt
        have hp1 : k < (xorPart KB 54 k).length := by rw [xorPart_length]; exact hkl
        have hp2 : k < (xorPart KB 92 k).length := by rw [xorPart_length]; exact hkl
        have c0 := hX.cell0 k hp1
        have c1 := hX.free0 k hp1
        rw [xorPart_get KB 54 k hkl] at c0
        have hY' := hY.beside ⟨g, k, none⟩ (.int .u8 (bits .xor .u8 (KB.getD k 0) 54)) (Or.inl (by simp))
        have d0 := hY'.cell0 k hp2
        have d1 := hY'.free0 k hp2
        rw [xorPart_get KB 92 k hkl] at d0
        have R : Hid (Nesting w g KB kk m (.int .i64 ((k + 1 : Nat) : Int)) ((wr.setCell ⟨g, k, none⟩ (.int .u8 (bits .xor .u8 (KB.getD k 0) 54))).setCell ⟨g + 1, k, none⟩ (.int .u8 (bits .xor .u8 (KB.getD k 0) 92)))) := by
          have hg := HGL.out
          refine hide ⟨k + 1, by omega, rfl, (hB.setCell (by show w.heap.size ≤ g; omega) _).setCell (by show w.heap.size ≤ g + 1; omega) _, (hA.beside _ _ (Or.inl (by simp; omega))).beside _ _ (Or.inl (by simp; omega)), ?_, ?_, HM.out⟩
          · rw [← xorPart_set KB 54 k hkl]
            exact (hX.set0 k hp1 _).beside _ _ (Or.inl (by simp))
          · rw [← xorPart_set KB 92 k hkl]
            exact hY'.set0 k hp2 _
        have bk : (k : Int) < 64 := by omega
        clear hB hA hX hY hY' hkl hp1 hp2
        generalize KB.getD k 0 = z at *
        go_wp2
        go_roundw
        case rel => first | exact R.out | ((repeat apply Exists.intro); exact ⟨R.out, rfl⟩)
        case measure => simp [intOf]; omega
      · obtain rfl : k = 64 := by omega
        rw [xorPart_all KB 54 64 (by rw [HKBL.out]; omega)] at hX
        rw [xorPart_all KB 92 64 (by rw [HKBL.out]; omega)] at hY
        have hV := HV.out.below hB
        have hK := HK.out.on hB
        have S1 := hide (sum_two wr _ _ _ _ (hX.bytes64 HXL.out) hV hK (by rw [List.length_append, HXL.out]; have := HLL.out; omega))
        have hY0 := hA.upto HKL.out HM.out
        rw [← HK0.out] at hY0
        have HB5 := hide hB
        have HV5 := hide hV
        have HK5 := hide hK
        have HY5 := hide (hY.bytes64 HYL.out)
        have HZ5 := hide hY0
        have S2 := hide (fun wx v (h : Parts wx v [xorB KB 92, digest (xorB KB 54 ++ l)]) (j : Ks wx) => sum_flat wx v [xorB KB 92, digest (xorB KB 54 ++ l)] (xorB KB 92 ++ digest (xorB KB 54 ++ l)) (by simp) h j (by rw [List.length_append, HYL.out, HDL.out]; omega))
        rw [← HEQ.out] at S2
        have HML : Hid ((macI K0 l).length = 32) := hide (digest_length _)
        have MS := hide (fun wx p v (h1 : Bytes wx p K0) (h2 : Parts wx v [l]) (j : Ks wx) => mac_flat wx p K0 v [l] l h1 (by simp) h2 j (by have := HLL.out; omega) (by rw [HKM.out]; have := HM.out; omega))
        clear hB hA hX hY hV hK hY0 hlt hk64 HEQ
        generalize macI K0 l = MM at *
        generalize digest (xorB KB 54 ++ l) = II at *
        generalize xorB KB 92 = OO at *
        generalize xorB KB 54 = NN at *
        go_wp2_with fail
        refine S1.out.mono ?_
        rintro e w6 ⟨rfl, hbel6⟩
        have HB6 := hide (below_on HB5.out hbel6)
        have HV6 := hide (HV5.out.below hbel6)
        have HY6 := hide (HY5.out.below hbel6)
        have HZ6 := hide (HZ5.out.below hbel6)
        have KP := hide (hash_kept w6 II HDL.out)
        clear hbel6 S1 HB5 HV5 HY5 HZ5 HK5
        go_upto_region 16 with (refine wp_store_arr rfl 27 (.tmp 11) (.tmp 44) rfl _ 0 .u8 II rfl rfl 32 (hash_there _) info_h HDL.out ?_)
        generalize (w6.alloc (.cells #[.int .u8 0, .int .u8 0, .int .u8 0, .int .u8 0, .int .u8 0, .int .u8 0, .int .u8 0, .int .u8 0, .int .u8 0, .int .u8 0, .int .u8 0, .int .u8 0, .int .u8 0, .int .u8 0, .int .u8 0, .int .u8 0, .int .u8 0, .int .u8 0, .int .u8 0, .int .u8 0, .int .u8 0, .int .u8 0, .int .u8 0, .int .u8 0, .int .u8 0, .int .u8 0, .int .u8 0, .int .u8 0, .int .u8 0, .int .u8 0, .int .u8 0, .int .u8 0] 27)).setCells w6.heap.size 0 (vals .u8 II) = W7 at *
        have HB7 := hide (below_on HB6.out KP.out.1)
        have HV7 := hide (HV6.out.below KP.out.1)
        have HY7 := hide (HY6.out.below KP.out.1)
        have HZ7 := hide (HZ6.out.below KP.out.1)
        have HI7 := hide (KP.out.2.bytes32 HDL.out)
        have HK7 := hide (HK.out.on HB7.out)
        clear KP HB6 HV6 HY6 HZ6
        generalize w6.heap.size = g6 at *
        have EQ := fun wx => eql_hash MM HML.out wx
        have MD := two_boxes W7 (.slice (some ⟨w.heap.size, 0, none⟩) m 64) (.slice a l.length cap) (.slice (some ⟨g + 1, 0, none⟩) 64 64) (.slice (some ⟨g6, 0, none⟩) 32 32) l OO II MM HV7.out HY7.out HI7.out (fun wx v hx hp => MS.out wx _ v (HZ7.out.below hx) hp (HK7.out.on hx))
        have M1 := hide MD.1
        have M2 := hide MD.2.1
        have M3 := hide MD.2.2
        have HW1 : Hid (Below W7.heap.size W7 ((W7.alloc (.cells #[.slice a l.length cap] 22)).alloc (.cells #[.slice (some ⟨g + 1, 0, none⟩) 64 64, .slice (some ⟨g6, 0, none⟩) 32 32] 22)).drew) := hide ((((Below.refl _ _).alloc (Nat.le_refl _) _).alloc (by rw [alloc_size]; omega) _).drew)
        have HW2 : Hid (Below W7.heap.size W7 ((W7.alloc (.cells #[.slice (some ⟨g + 1, 0, none⟩) 64 64, .slice (some ⟨g6, 0, none⟩) 32 32] 22)).alloc (.cells #[.slice a l.length cap] 22)).drew) := hide ((((Below.refl _ _).alloc (Nat.le_refl _) _).alloc (by rw [alloc_size]; omega) _).drew)
        clear MS MD
        go_wp2_with fail
        go_region_held3 (fun wx => Below W7.heap.size W7 wx)
          (with_reducible (first | exact hb9 | exact hb8 | exact Below.refl _ _ | exact (Below.refl _ _).drew | exact ((Below.refl _ _).alloc (Nat.le_refl _) _).drew | exact HW1.out | exact HW2.out | exact hb8.alloc hb8.size _ | fail))
          (first
            | (go_at_call 11; (with_reducible refine M1.out.mono ?_); rintro e w8 ⟨rfl, hb8⟩)
            | (go_at_call 11; (with_reducible refine M2.out.mono ?_); rintro e w8 ⟨rfl, hb8, hp8⟩)
            | (go_at_call 11; (with_reducible refine M3.out.mono ?_); rintro e w8 ⟨rfl, hb8, hp8⟩)
            | (go_at_call 18; (with_reducible refine (S2.out _ _ hp8 (HK7.out.on hb8)).mono ?_); rintro e w9 ⟨rfl, hbel9⟩; have hb9 : Below W7.heap.size W7 w9 := below_on hb8 hbel9)
            | (go_at_call 18; refine (S2.out _ _ (Parts.two w8 _ _ _ _ (HY7.out.below hb8) (HI7.out.below hb8)) (HK7.out.on (hb8.alloc hb8.size _))).mono ?_; rintro e w9 ⟨rfl, hbel9⟩; have hb9 : Below W7.heap.size W7 w9 := below_on (hb8.alloc hb8.size _) hbel9))
        all_goals go_wp2
        all_goals go_ret
        all_goals exact ⟨rfl, below_on HB7.out hb9⟩

set_option maxRecDepth 100000 in
theorem macNested_lifted (os : Os) (started : os.Started) (H : Type) (enc : TypeId × Value → H) :
    ReturnsInHanded {} Tryd.checked os 5 .any (fun w args => (Rows.macNestedSpec.pre enc Tryd.prog Tryd.f5 [] false w args ∧ laidMetH Tryd.prog laid1 w) ∧ sizedMet enc Tryd.prog Tryd.f5 (OpenSpec.ofChange Rows.macNestedSpec) false w args)
      (Rows.macNestedSpec.post enc Tryd.prog Tryd.f5 false true false false) := by
  refine returnsInHanded_of_change_and (C := Tryd.checked) (X := fun w _ => laidMetH Tryd.prog laid1 w) (fun _ _ _ hh h => h.of_heap hh) own started (by kernel_rfl) Tryd.func5
    (ChangeSpec.witness_shaped (enc := enc) (C := Tryd.checked) (os := os) (X := fun w _ => laidMetH Tryd.prog laid1 w) false (World.doorLaid Tryd.prog 14 os) #[.agg #[.int .u8 0, .int .u8 0, .int .u8 0, .int .u8 0, .int .u8 0, .int .u8 0, .int .u8 0, .int .u8 0, .int .u8 0, .int .u8 0, .int .u8 0, .int .u8 0, .int .u8 0, .int .u8 0, .int .u8 0, .int .u8 0, .int .u8 0, .int .u8 0, .int .u8 0, .int .u8 0, .int .u8 0, .int .u8 0, .int .u8 0, .int .u8 0, .int .u8 0, .int .u8 0, .int .u8 0, .int .u8 0, .int .u8 0, .int .u8 0, .int .u8 0, .int .u8 0, .int .u8 0, .int .u8 0, .int .u8 0, .int .u8 0, .int .u8 0, .int .u8 0, .int .u8 0, .int .u8 0, .int .u8 0, .int .u8 0, .int .u8 0, .int .u8 0, .int .u8 0, .int .u8 0, .int .u8 0, .int .u8 0, .int .u8 0, .int .u8 0, .int .u8 0, .int .u8 0, .int .u8 0, .int .u8 0, .int .u8 0, .int .u8 0, .int .u8 0, .int .u8 0, .int .u8 0, .int .u8 0, .int .u8 0, .int .u8 0, .int .u8 0, .int .u8 0], .int .u8 0, .slice none 0 0] 8 rfl (World.shaped_of_RefB (by kernel_rfl) (by kernel_rfl)) (by kernel_rfl) (by kernel_rfl) (by kernel_rfl) (door_met os _)) ?_
  intro W base args ds gs before hval0 hW _ _ hL _
  have hval : ∀ (j : Nat) t v, Tryd.f5.params[j]? = some t → args[j]? = some v → Value.okWide Tryd.prog W .any base t v := hval0
  have hW' := hW
  obtain ⟨p, q, hA0, hV, rfl, hfz, hnd⟩ := hW
  have hA : DataW.TrodAll enc Tryd.prog W 0 (fun _ => true) true Tryd.f5.params.toList args.toList ds p := hA0
  rw [Tryd.params5] at hA hval
  obtain ⟨v0, vs0, d0, ds0, p0, q0, hargs, rfl, rfl, h0, r0⟩ := trodAll_cons hA
  obtain ⟨v1, vs1, d1, ds1, p1, q1, rfl, rfl, rfl, h1, r1⟩ := trodAll_cons r0
  obtain ⟨v2, vs2, d2, ds2, p2, q2, rfl, rfl, rfl, h2, r2⟩ := trodAll_cons r1
  obtain ⟨rfl, rfl, rfl⟩ := trodAll_nil r2
  obtain rfl : args = #[v0, v1, v2] := by cases args; simp_all
  obtain ⟨rfl, rfl⟩ := trodVars_none hV
  have k0 := h0
  have lt0 : ∀ x ∈ p0, x.block < W.heap.size := by obtain ⟨m, hm⟩ := k0; exact DataW.trod_lt m _ _ _ hm
  obtain ⟨l0, rfl, n0, w0⟩ := arr_came (k := .u8) (n := 64) Tryd.underlying40 Tryd.underlying5 (by kernel_rfl) (by kernel_rfl) (hval 0 40 v0 rfl rfl) h0
  obtain ⟨a1, rfl, rfl, rfl, w1⟩ := open_int Tryd.underlying5 (hval 1 5 v1 rfl rfl) h1
  obtain ⟨b2, len2, cap2, rfl⟩ := okWide_slice Tryd.underlying22 (hval 2 22 v2 rfl rfl)
  have k2 := h2
  have lt2 : ∀ x ∈ p2, x.block < W.heap.size := by obtain ⟨m, hm⟩ := k2; exact DataW.trod_lt m _ _ _ hm
  obtain ⟨l2, s2, w2⟩ : ∃ l, Bytes W (.slice b2 len2 cap2) l ∧ ∀ z ∈ l, Byte z := by
    obtain ⟨fuel, hf⟩ := h2
    rcases open_ints Tryd.underlying22 Tryd.underlying5 (by kernel_rfl) hf with ⟨hcs, _⟩ | ⟨x, l, c, zs, hcs, _, hl, hm, hz, _, hcell, hwz⟩
    · simp [Value.cells] at hcs
      obtain ⟨rfl, rfl, rfl⟩ := hcs
      exact ⟨[], Bytes.nil _, by simp⟩
    · simp [Value.cells] at hcs
      obtain ⟨rfl, rfl, rfl⟩ := hcs
      exact bytes_row hl hm (by simpa using hz) hcell hwz
  clear hA0 hval0
  refine (macNested_walk (w := W) (ks_of_laid hL) l0 n0 (fun z hz => byte_of_wf (w0 z hz)) a1 (byte_of_wf w1) _ l2 w2 s2).mono fun e W' ⟨he, bel⟩ => ?_
  subst he
  exact ⟨_, rfl, _, _, _, [], _, [], hW', trodAll_mk1 (shut_bool Tryd.underlying4 _), (trodAll_cons_mk (Below.trod laidOut (by kernel_rfl) (of_decide_eq_true (by kernel_rfl)) k0 bel lt0) (trodAll_cons_mk (shut_int Tryd.underlying5 w1) (trodAll_cons_mk (Below.trod laidOut (by kernel_rfl) (of_decide_eq_true (by kernel_rfl)) k2 bel lt2) trodAll_mk0))), rfl, bel.frame _, fun h => by cases h⟩

theorem macNested_holds : Rows.MacNestedSaid :=
  OpenClaim.holds_of_wide 5 Tryd.f5 rfl rfl rfl rfl rfl rfl rfl ⟨rfl, rfl, rfl, rfl, rfl⟩ rfl rfl rfl rfl rfl (by kernel_rfl) Tryd.func5 (by kernel_rfl)
    (of_decide_eq_true (by kernel_rfl)) (by unfold Func.isWrapper; first | (rw [if_pos (by decide +kernel)]; kernel_rfl) | (rw [if_neg (by decide +kernel)]; exact ⟨rfl, rfl⟩))
    (fun os started H enc _ => macNested_lifted os started H enc)
#print axioms macNested_holds
theorem macNested_card : Rows.MacNestedCardSaid :=
  Claim7.holds_tied_plain_at .later [] [.data] true (true, "173da7fa971a5d4b19b9988b9cc45fa2aa5c8cacbb2b37105ebacdc430575515") false
    macNested_holds (fun _ h => by cases h) (by kernel_rfl) (fun _ h => by cases h) macNested_row_tie rfl ⟨rfl, rfl⟩ (by kernel_rfl) rfl
    (fun f fn hf hfn => by
      obtain rfl : f = 5 := Option.some.inj ((show Tryd.prog.funcNamed "pappus/pappuslaw04.MacNested" = some 5 by kernel_rfl).symm.trans hf) |>.symm
      obtain rfl : fn = Tryd.f5 := (Option.some.inj (Tryd.func5.symm.trans hfn)).symm
      exact ⟨by kernel_rfl, fun j t ht => by
        rw [Tryd.params5] at ht
        have hm : t ∈ [40, 5, 22] := by simpa using Array.mem_of_getElem? ht
        have hall : ([40, 5, 22].all fun u => !Tryd.prog.wantsStandIn u) = true := by kernel_rfl
        exact (show Tryd.prog.wantsStandIn t = false by simpa using List.all_eq_true.1 hall t hm)⟩)
    (by kernel_rfl)
#print axioms macNested_card
end Go.Proofs.YtknijlajopmjaaaDoor
