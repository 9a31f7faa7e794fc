/-
  MacLong: of whatever key and bytes, a key of more than 64 bytes is as good as its sum, a shorter one as good as with noughts behind it: the call returns true, and the arguments read as before.
-/
import Derived.Test.YtknijlajopmjaaaDoorMacAlive
import Derived.Test.YtknijlajopmjaaaDoorShaLaw
import Derived.Test.YtknijlajopmjaaaDoorZeros
namespace Go.Proofs.YtknijlajopmjaaaDoor
open Go.ChangeShapes Go.WideShapes Go.ChangeAt Go.RowKit

theorem mac_long (k m : List Int) (hk : 64 < k.length) : macI (digest k) m = macI k m := by
  have h1 : shortI k = digest k := by simp [shortI]; omega
  have h2 : shortI (digest k) = digest k := by simp [shortI, digest_length]
  have h : keyI (digest k) = keyI k := by rw [keyI, keyI, h1, h2]
  rw [macI, innerI, h]
  rfl
theorem mac_short (k m : List Int) (j : Nat) (hk : k.length + j ≤ 64) : macI (k ++ List.replicate j 0) m = macI k m := by
  have h1 : shortI k = k := by simp [shortI]; omega
  have h2 : shortI (k ++ List.replicate j 0) = k ++ List.replicate j 0 := by simp [shortI]; omega
  have h : keyI (k ++ List.replicate j 0) = keyI k := by
    rw [keyI, keyI, h1, h2, List.append_assoc, List.replicate_append_replicate]
    congr 2
    simp
    omega
  rw [macI, innerI, h]
  rfl
/-- A sum under a key, the lists of whose call and of the next one are laid in whatever order. -/
theorem two_lists (W : World) (kv lv : Value) (l MM : List Int) (hl : Bytes W lv l)
    (MS : ∀ wx v, Below W.heap.size W wx → Parts wx v [l] → Calls Tryd.prog 11 #[kv, v] wx fun e w' => e = .returned (.agg (vals .u8 MM).toArray) ∧ Below wx.heap.size wx w') :
    Calls Tryd.prog 11 #[kv, .slice (some ⟨W.heap.size, 0, none⟩) 1 1] (W.alloc (.cells #[lv] 22)).drew (fun e w' => e = .returned (.agg (vals .u8 MM).toArray) ∧ Below W.heap.size W w') ∧
    Calls Tryd.prog 11 #[kv, .slice (some ⟨W.heap.size, 0, none⟩) 1 1] ((W.alloc (.cells #[lv] 22)).alloc (.cells #[lv] 22)).drew (fun e w' => e = .returned (.agg (vals .u8 MM).toArray) ∧ Below W.heap.size W w' ∧ Parts w' (.slice (some ⟨W.heap.size + 1, 0, none⟩) 1 1) [l]) ∧
    Calls Tryd.prog 11 #[kv, .slice (some ⟨W.heap.size + 1, 0, none⟩) 1 1] ((W.alloc (.cells #[lv] 22)).alloc (.cells #[lv] 22)).drew (fun e w' => e = .returned (.agg (vals .u8 MM).toArray) ∧ Below W.heap.size W w' ∧ Parts w' (.slice (some ⟨W.heap.size, 0, none⟩) 1 1) [l]) := by
  have b1 : ∀ o : Obj, Below W.heap.size W (W.alloc o).drew := fun o => ((Below.refl _ _).alloc (Nat.le_refl _) _).drew
  have b2 : ∀ o o' : Obj, Below W.heap.size W ((W.alloc o).alloc o').drew := fun o o' => (((Below.refl _ _).alloc (Nat.le_refl _) _).alloc (by rw [alloc_size]; omega) _).drew
  have hq := Parts.one (W.alloc (.cells #[lv] 22)) lv l (hl.alloc _)
  rw [alloc_size] at hq
  have hq := hq.below (Below.refl _ _).drew
  have hp := (Parts.one W _ _ hl).below ((Below.refl _ _).alloc (Nat.le_refl _) (.cells #[lv] 22)).drew
  refine ⟨?_, ?_, ?_⟩
  · refine (MS _ _ (b1 _) ((Parts.one W _ _ hl).below (Below.refl _ _).drew)).mono ?_
    rintro e w' ⟨rfl, hb⟩
    exact ⟨rfl, below_on (b1 _) hb⟩
  · refine (MS _ _ (b2 _ _) hp).mono ?_
    rintro e w' ⟨rfl, hb⟩
    exact ⟨rfl, below_on (b2 _ _) hb, hq.below hb⟩
  · refine (MS _ _ (b2 _ _) hq).mono ?_
    rintro e w' ⟨rfl, hb⟩
    exact ⟨rfl, below_on (b2 _ _) hb, hp.below hb⟩
/-- What holds at the head of a round. -/
def Longing (w : World) (n0 : Nat) (i : Value) (wr : World) : Prop := ∃ n : Nat, n0 ≤ n ∧ n ≤ 71 ∧ i = .int .i64 n ∧ Below w.heap.size w wr

set_option maxRecDepth 100000 in
set_option maxHeartbeats 1000000 in
theorem macLong_walk {w : World} (hk : Ks w) (kv : Value) (k : List Int) (_ : ∀ z ∈ k, Byte z) (hkv : Bytes w kv k) (v : Value) (l : List Int) (_ : ∀ z ∈ l, Byte z) (hv : Bytes w v l) :
    Calls Tryd.prog 6 #[kv, v] w fun e w' => e = .returned (.bool true) ∧ Below w.heap.size w w' := by
  have A := hide (malive_any _ hk)
  have HK := hide hk
  have HV := hide hv
  have HU := hide hkv
  obtain ⟨ka, kcap, rfl, hkc1, hkc2⟩ := hkv.form
  obtain ⟨a, cap, rfl, hc1, hc2⟩ := hv.form
  clear hk hv hkv
  by_cases h1 : 2000 < k.length
  · have hb : (2000 : Int) < (k.length : Int) := by omega
    clear h1
    go_enter Tryd.func6, Tryd.ntmps6
    go_wp2_with fail
    refine A.out.mono ?_
    rintro e w1 ⟨rfl, hbel1⟩
    have HB1 := hide hbel1
    clear hbel1
    go_wp2
    go_ret
    exact ⟨rfl, HB1.out⟩
  by_cases h2 : 2000 < l.length
  · have hb : (2000 : Int) < (l.length : Int) := by omega
    have hb' : (k.length : Int) ≤ 2000 := by omega
    clear h2 h1
    go_enter Tryd.func6, Tryd.ntmps6
    go_wp2_with fail
    refine A.out.mono ?_
    rintro e w1 ⟨rfl, hbel1⟩
    have HB1 := hide hbel1
    clear hbel1
    go_wp2
    go_ret
    exact ⟨rfl, HB1.out⟩
  have b1 : (k.length : Int) ≤ 2000 := by omega
  have b2 : (l.length : Int) ≤ 2000 := by omega
  have HS : Hid (k.length ≤ 2000 ∧ l.length ≤ 2000) := hide (by omega)
  have HML : Hid ((macI k l).length = 32) := hide (digest_length _)
  have MS := hide (fun wx p v (h1 : Bytes wx p k) (h2 : Parts wx v [l]) (j : Ks wx) => mac_flat wx p k v [l] l h1 (by simp) h2 j (by have := HS.out; omega) (by have := HS.out; omega))
  clear h1 h2
  by_cases h3 : 64 < k.length
  · have b3 : (64 : Int) < (k.length : Int) := by omega
    have S1 := hide (fun wx p (h : Bytes wx p k) (j : Ks wx) => sum_one wx p k h j (by have := HS.out; omega))
    have HDL := hide (digest_length k)
    have MT := hide (fun wx p v (h1 : Bytes wx p (digest k)) (h2 : Parts wx v [l]) (j : Ks wx) => mac_flat wx p (digest k) v [l] l h1 (by simp) h2 j (by have := HS.out; omega) (by rw [digest_length]; omega))
    rw [mac_long k l h3] at MT
    clear h3
    generalize macI k l = MM at *
    generalize digest k = D at *
    go_enter Tryd.func6, Tryd.ntmps6
    go_wp2_with fail
    refine A.out.mono ?_
    rintro e w1 ⟨rfl, hbel1⟩
    have HB1 := hide hbel1
    have HV1 := hide (HV.out.below hbel1)
    have HU1 := hide (HU.out.below hbel1)
    clear hbel1 A
    go_wp2_with fail
    refine (S1.out w1 _ HU1.out (HK.out.on HB1.out)).mono ?_
    rintro e w2 ⟨rfl, hbel2⟩
    have HB2 := hide (below_on HB1.out hbel2)
    have HV2 := hide (HV1.out.below hbel2)
    have HU2 := hide (HU1.out.below hbel2)
    have KP := hide (hash_kept w2 D HDL.out)
    clear hbel2 S1 HB1 HV1 HU1
    go_upto_region 7 with (refine wp_store_arr rfl 27 (.tmp 5) (.tmp 23) rfl _ 0 .u8 D rfl rfl 32 (hash_there _) info_h HDL.out ?_)
    generalize (w2.alloc (.cells #[.int .u8 0, .int .u8 0, .int .u8 0, .int .u8 0, .int .u8 0, .int .u8 0, .int .u8 0, .int .u8 0, .int .u8 0, .int .u8 0, .int .u8 0, .int .u8 0, .int .u8 0, .int .u8 0, .int .u8 0, .int .u8 0, .int .u8 0, .int .u8 0, .int .u8 0, .int .u8 0, .int .u8 0, .int .u8 0, .int .u8 0, .int .u8 0, .int .u8 0, .int .u8 0, .int .u8 0, .int .u8 0, .int .u8 0, .int .u8 0, .int .u8 0, .int .u8 0] 27)).setCells w2.heap.size 0 (vals .u8 D) = W7 at *
    have HB7 := hide (below_on HB2.out KP.out.1)
    have HV7 := hide (HV2.out.below KP.out.1)
    have HU7 := hide (HU2.out.below KP.out.1)
    have HD7 := hide (KP.out.2.bytes32 HDL.out)
    have HK7 := hide (HK.out.on HB7.out)
    clear KP HB2 HV2 HU2
    generalize w2.heap.size = g2 at *
    have EQ := fun wx => eql_hash MM HML.out wx
    have MD := two_lists W7 (.slice ka k.length kcap) (.slice a l.length cap) l MM HV7.out (fun wx v hx hp => MS.out wx _ v (HU7.out.below hx) hp (HK7.out.on hx))
    have M1 := hide MD.1
    have M2 := hide MD.2.1
    have M3 := hide MD.2.2
    have HW1 : Hid (Below W7.heap.size W7 ((W7.alloc (.cells #[.slice a l.length cap] 22)).alloc (.cells #[.slice a l.length cap] 22)).drew) := hide ((((Below.refl _ _).alloc (Nat.le_refl _) _).alloc (by rw [alloc_size]; omega) _).drew)
    have MX := hide (fun wx v (hx : Below W7.heap.size W7 wx) (hp : Parts wx v [l]) => MT.out wx _ v (HD7.out.below hx) hp (HK7.out.on hx))
    clear MS MD MT
    go_wp2_with fail
    go_region_held3 (fun wx => Below W7.heap.size W7 wx)
      (with_reducible (first | exact hb9 | exact hb8 | exact Below.refl _ _ | exact (Below.refl _ _).drew | exact ((Below.refl _ _).alloc (Nat.le_refl _) _).drew | exact HW1.out | exact hb8.alloc hb8.size _ | fail))
      (first
        | (go_at_call 11; (with_reducible refine M1.out.mono ?_); rintro e w8 ⟨rfl, hb8⟩)
        | (go_at_call 11; (with_reducible refine M2.out.mono ?_); rintro e w8 ⟨rfl, hb8, hp8⟩)
        | (go_at_call 11; (with_reducible refine M3.out.mono ?_); rintro e w8 ⟨rfl, hb8, hp8⟩)
        | (go_at_call 11; (with_reducible refine (MX.out _ _ hb8 hp8).mono ?_); rintro e w9 ⟨rfl, hbel9⟩; have hb9 : Below W7.heap.size W7 w9 := below_on hb8 hbel9)
        | (go_at_call 11; (with_reducible refine (MX.out _ _ (hb8.alloc hb8.size _) (Parts.one w8 _ _ (HV7.out.below hb8))).mono ?_); rintro e w9 ⟨rfl, hbel9⟩; have hb9 : Below W7.heap.size W7 w9 := below_on (hb8.alloc hb8.size _) hbel9))
    all_goals go_wp2
    all_goals go_ret
    all_goals exact ⟨rfl, below_on HB7.out hb9⟩
  · have b3 : (k.length : Int) ≤ 64 := by omega
    have HS3 : Hid (k.length ≤ 64) := hide (by omega)
    clear h3
    go_enter Tryd.func6, Tryd.ntmps6
    go_wp2_with fail
    refine A.out.mono ?_
    rintro e w1 ⟨rfl, hbel1⟩
    have HS1 : Hid (Longing w k.length (.int .i64 k.length) w1) := hide ⟨k.length, Nat.le_refl _, by have := HS3.out; omega, rfl, hbel1⟩
    clear hbel1 A
    go_wp2_with fail
    go_loopw [6] (fun i wr => Longing w k.length i wr) (fun i _ => 72 - (intOf i).toNat)
    case atStart => exact HS1.out
    case round =>
      clear HS1
      obtain ⟨n, hn0, hn1, rfl, hB⟩ := hrel
      have HB := hide hB
      clear hB
      by_cases hlt : n ≤ 64
      · have hn64 : (n : Int) ≤ 64 := by omega
        obtain ⟨q, hq⟩ : ∃ q : Nat, n = k.length + q := ⟨n - k.length, by omega⟩
        have hsub : (n : Int) - (k.length : Int) = (q : Int) := by omega
        have hq64 : (q : Int) ≤ 64 := by omega
        have HQ : Hid (k.length + q ≤ 64) := hide (by omega)
        have MT := hide (fun wx p v (h1 : Bytes wx p (k ++ List.replicate q 0)) (h2 : Parts wx v [l]) (j : Ks wx) => mac_flat wx p (k ++ List.replicate q 0) v [l] l h1 (by simp) h2 j (by have := HS.out; omega) (by rw [List.length_append, List.length_replicate]; have := HQ.out; omega))
        rw [mac_short k l q HQ.out] at MT
        have HLEN : Hid ((k ++ List.replicate q 0).length = n) := hide (by rw [List.length_append, List.length_replicate]; omega)
        have HW := hide (HU.out.below HB.out)
        have HO := hide (Own.made wr wr.heap.size (Nat.le_refl _))
        have HWA := hide (HW.out.alloc (.cells #[] 5))
        clear hq hlt
        have hn1' : Hid (n ≤ 64 ∧ k.length ≤ n) := hide (by omega)
        generalize macI k l = MM at *
        have EQ := fun wx => eql_hash MM HML.out wx
        go_wp2_with (refine wp_append rfl (.tmp 39) (.tmp 40) rfl wr.heap.size _ [] rfl HO.out _ k rfl HWA.out (by have := HS3.out; simp; omega) (by rw [alloc_size]; omega) ?_)
        intro v1 w2 ho1 hb1
        have HO1 : Hid (Own w2 wr.heap.size v1 k) := hide (by simpa using ho1)
        have HB2 : Hid (Below wr.heap.size wr w2) := hide (((Below.refl _ _).alloc (Nat.le_refl _) _).trans hb1)
        clear ho1 hb1
        go_wp2_with (refine wp_append_zeros rfl (.tmp 41) (.tmp 45) rfl wr.heap.size _ k rfl HO1.out q rfl (by have := HQ.out; omega) HB2.out.size ?_)
        intro v2 w3 ho2 hb2
        have HO2 := hide ho2.bytes
        have HB3 : Hid (Below w.heap.size w w3) := hide (below_on HB.out (HB2.out.trans hb2))
        have hf := ho2.bytes.form
        rw [HLEN.out] at hf
        obtain ⟨a2, cap2, rfl, -, -⟩ := hf
        clear ho2 hb2
        have HV3 := hide (HV.out.below HB3.out)
        have HU3 := hide (HU.out.below HB3.out)
        have X1 := hide (MT.out _ _ _ (HO2.out.alloc _) (Parts.one w3 _ _ HV3.out) ((HK.out.on HB3.out).alloc _))
        go_wp2_with fail
        refine X1.out.mono ?_
        rintro e w4 ⟨rfl, hbel4⟩
        have hbel4 := box1 hbel4
        have HB4 := hide (below_on HB3.out hbel4)
        have X2 := hide (MS.out _ _ _ ((HU3.out.below hbel4).alloc _) (Parts.one w4 _ _ (HV3.out.below hbel4)) ((HK.out.on HB4.out).alloc _))
        clear hbel4 X1
        go_wp2_with fail
        refine X2.out.mono ?_
        rintro e w5 ⟨rfl, hbel5⟩
        have hbel5 := box1 hbel5
        have R : Hid (Longing w k.length (.int .i64 ((n + 7 : Nat) : Int)) w5) := hide ⟨n + 7, by have := hn1'.out; omega, by have := hn1'.out; omega, rfl, below_on HB4.out hbel5⟩
        clear hbel5 X2
        go_wp2
        go_roundw
        case rel => first | exact R.out | ((repeat apply Exists.intro); exact ⟨R.out, rfl⟩)
        case measure => simp [intOf]; omega
      · have hn64 : (64 : Int) < (n : Int) := by omega
        clear hlt
        go_wp2
        go_ret
        exact ⟨rfl, HB.out⟩

set_option maxRecDepth 100000 in
theorem macLong_lifted (os : Os) (started : os.Started) (H : Type) (enc : TypeId × Value → H) :
    ReturnsInHanded {} Tryd.checked os 6 .any (fun w args => (Rows.macLongSpec.pre enc Tryd.prog Tryd.f6 [] false w args ∧ laidMetH Tryd.prog laid1 w) ∧ sizedMet enc Tryd.prog Tryd.f6 (OpenSpec.ofChange Rows.macLongSpec) false w args)
      (Rows.macLongSpec.post enc Tryd.prog Tryd.f6 false true false false) := by
  refine returnsInHanded_of_change_and (C := Tryd.checked) (X := fun w _ => laidMetH Tryd.prog laid1 w) (fun _ _ _ hh h => h.of_heap hh) own started (by kernel_rfl) Tryd.func6
    (ChangeSpec.witness_shaped (enc := enc) (C := Tryd.checked) (os := os) (X := fun w _ => laidMetH Tryd.prog laid1 w) false (World.doorLaid Tryd.prog 14 os) #[.slice none 0 0, .slice none 0 0] 8 rfl (World.shaped_of_RefB (by kernel_rfl) (by kernel_rfl)) (by kernel_rfl) (by kernel_rfl) (by kernel_rfl) (door_met os _)) ?_
  intro W base args ds gs before hval0 hW _ _ hL _
  have hval : ∀ (j : Nat) t v, Tryd.f6.params[j]? = some t → args[j]? = some v → Value.okWide Tryd.prog W .any base t v := hval0
  have hW' := hW
  obtain ⟨p, q, hA0, hV, rfl, hfz, hnd⟩ := hW
  have hA : DataW.TrodAll enc Tryd.prog W 0 (fun _ => true) true Tryd.f6.params.toList args.toList ds p := hA0
  rw [Tryd.params6] at hA hval
  obtain ⟨v0, vs0, d0, ds0, p0, q0, hargs, rfl, rfl, h0, r0⟩ := trodAll_cons hA
  obtain ⟨v1, vs1, d1, ds1, p1, q1, rfl, rfl, rfl, h1, r1⟩ := trodAll_cons r0
  obtain ⟨rfl, rfl, rfl⟩ := trodAll_nil r1
  obtain rfl : args = #[v0, v1] := by cases args; simp_all
  obtain ⟨rfl, rfl⟩ := trodVars_none hV
  obtain ⟨b0, len0, cap0, rfl⟩ := okWide_slice Tryd.underlying22 (hval 0 22 v0 rfl rfl)
  have k0 := h0
  have lt0 : ∀ x ∈ p0, x.block < W.heap.size := by obtain ⟨m, hm⟩ := k0; exact DataW.trod_lt m _ _ _ hm
  obtain ⟨l0, s0, w0⟩ : ∃ l, Bytes W (.slice b0 len0 cap0) l ∧ ∀ z ∈ l, Byte z := by
    obtain ⟨fuel, hf⟩ := h0
    rcases open_ints Tryd.underlying22 Tryd.underlying5 (by kernel_rfl) hf with ⟨hcs, _⟩ | ⟨x, l, c, zs, hcs, _, hl, hm, hz, _, hcell, hwz⟩
    · simp [Value.cells] at hcs
      obtain ⟨rfl, rfl, rfl⟩ := hcs
      exact ⟨[], Bytes.nil _, by simp⟩
    · simp [Value.cells] at hcs
      obtain ⟨rfl, rfl, rfl⟩ := hcs
      exact bytes_row hl hm (by simpa using hz) hcell hwz
  obtain ⟨b1, len1, cap1, rfl⟩ := okWide_slice Tryd.underlying22 (hval 1 22 v1 rfl rfl)
  have k1 := h1
  have lt1 : ∀ x ∈ p1, x.block < W.heap.size := by obtain ⟨m, hm⟩ := k1; exact DataW.trod_lt m _ _ _ hm
  obtain ⟨l1, s1, w1⟩ : ∃ l, Bytes W (.slice b1 len1 cap1) l ∧ ∀ z ∈ l, Byte z := by
    obtain ⟨fuel, hf⟩ := h1
    rcases open_ints Tryd.underlying22 Tryd.underlying5 (by kernel_rfl) hf with ⟨hcs, _⟩ | ⟨x, l, c, zs, hcs, _, hl, hm, hz, _, hcell, hwz⟩
    · simp [Value.cells] at hcs
      obtain ⟨rfl, rfl, rfl⟩ := hcs
      exact ⟨[], Bytes.nil _, by simp⟩
    · simp [Value.cells] at hcs
      obtain ⟨rfl, rfl, rfl⟩ := hcs
      exact bytes_row hl hm (by simpa using hz) hcell hwz
  clear hA0 hval0
  refine (macLong_walk (w := W) (ks_of_laid hL) _ l0 w0 s0 _ l1 w1 s1).mono fun e W' ⟨he, bel⟩ => ?_
  subst he
  exact ⟨_, rfl, _, _, _, [], _, [], hW', trodAll_mk1 (shut_bool Tryd.underlying4 _), (trodAll_cons_mk (Below.trod laidOut (by kernel_rfl) (of_decide_eq_true (by kernel_rfl)) k0 bel lt0) (trodAll_cons_mk (Below.trod laidOut (by kernel_rfl) (of_decide_eq_true (by kernel_rfl)) k1 bel lt1) trodAll_mk0)), rfl, bel.frame _, fun h => by cases h⟩

theorem macLong_holds : Rows.MacLongSaid :=
  OpenClaim.holds_of_wide 6 Tryd.f6 rfl rfl rfl rfl rfl rfl rfl ⟨rfl, rfl, rfl, rfl, rfl⟩ rfl rfl rfl rfl rfl (by kernel_rfl) Tryd.func6 (by kernel_rfl)
    (of_decide_eq_true (by kernel_rfl)) (by unfold Func.isWrapper; first | (rw [if_pos (by decide +kernel)]; kernel_rfl) | (rw [if_neg (by decide +kernel)]; exact ⟨rfl, rfl⟩))
    (fun os started H enc _ => macLong_lifted os started H enc)
#print axioms macLong_holds
theorem macLong_card : Rows.MacLongCardSaid :=
  Claim7.holds_tied_plain_at .later [] [.data] true (true, "173da7fa971a5d4b19b9988b9cc45fa2aa5c8cacbb2b37105ebacdc430575515") false
    macLong_holds (fun _ h => by cases h) (by kernel_rfl) (fun _ h => by cases h) macLong_row_tie rfl ⟨rfl, rfl⟩ (by kernel_rfl) rfl
    (fun f fn hf hfn => by
      obtain rfl : f = 6 := Option.some.inj ((show Tryd.prog.funcNamed "pappus/pappuslaw04.MacLong" = some 6 by kernel_rfl).symm.trans hf) |>.symm
      obtain rfl : fn = Tryd.f6 := (Option.some.inj (Tryd.func6.symm.trans hfn)).symm
      exact ⟨by kernel_rfl, fun j t ht => by
        rw [Tryd.params6] at ht
        have hm : t ∈ [22, 22] := by simpa using Array.mem_of_getElem? ht
        have hall : ([22, 22].all fun u => !Tryd.prog.wantsStandIn u) = true := by kernel_rfl
        exact (show Tryd.prog.wantsStandIn t = false by simpa using List.all_eq_true.1 hall t hm)⟩)
    (by kernel_rfl)
#print axioms macLong_card
end Go.Proofs.YtknijlajopmjaaaDoor
