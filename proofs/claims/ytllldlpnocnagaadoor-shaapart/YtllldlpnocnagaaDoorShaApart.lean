/-
  ShaApart: two hashers are apart, and what is written to them is neither changed nor kept: whatever the bytes, the call returns true, and they read as before.
-/
import Derived.Test.YtllldlpnocnagaaDoorShaRows
import Derived.Deep.DeepCutAuto
namespace Go.Proofs.YtllldlpnocnagaaDoor
open Go.ChangeShapes Go.WideShapes Go.ChangeAt Go.RowKit

/-- What stands while both are written: j bytes of the first, k of the second. -/
def Apart (w : World) (vx vy : Value) (bx byy gg gh : Nat) (l l' : List Int) (j k : Nat) (wr : World) : Prop :=
  Rowed wr vx bx (bumped l j) ∧ Rowed wr vy byy (bumped l' k) ∧ Hashes wr gg (l.take j) ∧ Hashes wr gh (l'.take k) ∧ Below w.heap.size w wr
def Aparting (w : World) (vx vy : Value) (bx byy gg gh : Nat) (l l' : List Int) (n : Nat) (i : Value) (wr : World) : Prop := ∃ k : Nat, k ≤ n ∧ i = .int .i64 k ∧ Apart w vx vy bx byy gg gh l l' k k wr
theorem Rowed.only {w w' : World} {v : Value} {b g : Nat} {l : List Int} (h : Rowed w v b l) (ho : Only g w w') (hne : b ≠ g) : Rowed w' v b l := ⟨h.1, h.2.only ho hne⟩
theorem Rowed.on {w w' : World} {v : Value} {b : Nat} {l : List Int} (h : Rowed w v b l) (hb : Below w.heap.size w w') : Rowed w' v b l := ⟨h.1, h.2.on hb⟩

set_option maxRecDepth 100000 in
set_option maxHeartbeats 2000000 in
theorem shaApart_walk {w : World} (hk : Ks w) (v : Value) (l : List Int) (_ : ∀ z ∈ l, Byte z) (hv : Bytes w v l) (v' : Value) (l' : List Int) (_ : ∀ z ∈ l', Byte z) (hv' : Bytes w v' l') :
    Calls Tryd.prog 8 #[v, v'] w fun e w' => e = .returned (.bool true) ∧ Below w.heap.size w w' := by
  have HK := hide hk
  have HV := hide hv
  have HV' := hide hv'
  have hk0 := hk.lt
  have A := hide (alive_any w hk)
  obtain ⟨a, cap, rfl, hc1, hc2⟩ := hv.form
  obtain ⟨a', cap', rfl, hc1', hc2'⟩ := hv'.form
  clear hk hv hv'
  by_cases hbig : 1000 < l.length
  · have hb : decide ((1000 : Int) < (l.length : Int)) = true := decide_eq_true (by omega)
    clear hbig
    go_enter Tryd.func8, Tryd.ntmps8
    go_wp2_with fail
    refine A.out.mono ?_
    rintro e w1 ⟨rfl, hbel1⟩
    have HB1 := hide hbel1
    clear hbel1
    go_wp2
    go_ret
    exact ⟨rfl, HB1.out⟩
  by_cases hbig' : 1000 < l'.length
  · have hb : decide ((1000 : Int) < (l.length : Int)) = false := decide_eq_false (by omega)
    have hb' : decide ((1000 : Int) < (l'.length : Int)) = true := decide_eq_true (by omega)
    clear hbig hbig'
    go_enter Tryd.func8, Tryd.ntmps8
    go_wp2_with fail
    refine A.out.mono ?_
    rintro e w1 ⟨rfl, hbel1⟩
    have HB1 := hide hbel1
    clear hbel1
    go_wp2
    go_ret
    exact ⟨rfl, HB1.out⟩
  have hb : decide ((1000 : Int) < (l.length : Int)) = false := decide_eq_false (by omega)
  have hb' : decide ((1000 : Int) < (l'.length : Int)) = false := decide_eq_false (by omega)
  have HN : Hid (l.length ≤ 1000 ∧ l'.length ≤ 1000) := hide ⟨by omega, by omega⟩
  clear hbig hbig'
  have HL1 := hide (digest_length l)
  have HL2 := hide (digest_length l')
  go_enter Tryd.func8, Tryd.ntmps8
  go_wp2_with fail
  refine A.out.mono ?_
  rintro e w1 ⟨rfl, hbel1⟩
  have HB1 := hide hbel1
  have HV1 := hide (HV.out.below hbel1)
  have HV1' := hide (HV'.out.below hbel1)
  clear hbel1 A
  go_wp2_with (at_builtin; refine wp_append rfl (.tmp 24) (.tmp 25) rfl w1.heap.size _ [] rfl (Own.made w1 _ (Nat.le_refl _)) _ l rfl (HV1.out.alloc _) ?c1 ?c2 ?_)
  case c1 => have := HN.out; simp; omega
  case c2 => rw [alloc_size]; omega
  intro vx w2 hown2 hbel2
  obtain ⟨bx, hbx1, hbx2, hrx⟩ := Rowed.of hown2 (by have := hbel2.size; rw [alloc_size] at this; omega)
  have HB2 := hide (below_on HB1.out (((Below.refl _ _).alloc (Nat.le_refl _) _).trans hbel2))
  have HV2' := hide (HV1'.out.below (((Below.refl _ _).alloc (Nat.le_refl _) _).trans hbel2))
  have HRX := hide hrx
  have HGA : Hid (w.heap.size ≤ bx) := hide (Nat.le_trans HB1.out.size hbx1)
  have HGB := hide hbx2
  clear hown2 hbel2 hrx hbx1 hbx2 HB1 HV1 HV1'
  go_wp2_with (at_builtin; refine wp_append rfl (.tmp 27) (.tmp 28) rfl w2.heap.size _ [] rfl (Own.made w2 _ (Nat.le_refl _)) _ l' rfl (HV2'.out.alloc _) ?c3 ?c4 ?_)
  case c3 => have := HN.out; simp; omega
  case c4 => rw [alloc_size]; omega
  intro vy w3 hown3 hbel3
  obtain ⟨byy, hby1, hby2, hry⟩ := Rowed.of hown3 (by have := hbel3.size; rw [alloc_size] at this; omega)
  have hbel3' := ((Below.refl _ _).alloc (Nat.le_refl _) _).trans hbel3
  have HB3 := hide (below_on HB2.out hbel3')
  have HRX3 := hide (HRX.out.on hbel3')
  have HRY := hide hry
  have HGC : Hid (bx < byy) := hide (Nat.lt_of_lt_of_le HGB.out hby1)
  have HGD := hide hby2
  clear hown3 hbel3 hbel3' hry hby1 hby2 HB2 HV2' HRX HGB
  go_wp2_with fail
  refine (new_any w3).mono ?_
  rintro e w4 ⟨rfl, h4, hbel4⟩
  have HB4 := hide (below_on HB3.out hbel4)
  have HRX4 := hide (HRX3.out.on hbel4)
  have HRY4 := hide (HRY.out.on hbel4)
  have HH4 := hide h4
  clear h4 hbel4 HB3 HRX3 HRY
  generalize w3.heap.size = gg at *
  go_wp2_with fail
  refine (new_any w4).mono ?_
  rintro e w5 ⟨rfl, h5, hbel5⟩
  have HGE : Hid (gg < w4.heap.size) := hide HH4.out.lt
  have HS : Hid (Aparting w vx vy bx byy gg w4.heap.size l l' (max l.length l'.length) (.int .i64 0) w5) := by
    refine hide ⟨0, by omega, rfl, ?_, ?_, ?_, ?_, below_on HB4.out hbel5⟩
    · rw [bumped_zero]; exact HRX4.out.on hbel5
    · rw [bumped_zero]; exact HRY4.out.on hbel5
    · exact HH4.out.on hbel5
    · exact h5
  clear h5 hbel5 HB4 HRX4 HRY4 HH4
  generalize w4.heap.size = gh at *
  obtain ⟨ax, cx, rfl, hx1, hx2, hx3⟩ : ∃ (ax : Option Addr) (cx : Nat), vx = .slice ax l.length cx ∧ l.length ≤ cx ∧ cx ≤ 9223372036854775807 ∧ (0 < l.length → ax = some ⟨bx, 0, none⟩) := by
    obtain ⟨_, _, _, hr, _⟩ := HS.out
    have := hr.form
    rwa [bumped_length] at this
  obtain ⟨ay, cy, rfl, hy1, hy2, hy3⟩ : ∃ (ay : Option Addr) (cy : Nat), vy = .slice ay l'.length cy ∧ l'.length ≤ cy ∧ cy ≤ 9223372036854775807 ∧ (0 < l'.length → ay = some ⟨byy, 0, none⟩) := by
    obtain ⟨_, _, _, _, hr, _⟩ := HS.out
    have := hr.form
    rwa [bumped_length] at this
  obtain ⟨n, hn⟩ : ∃ n, n = max l.length l'.length := ⟨_, rfl⟩
  rw [← hn] at HS
  have hmax : (if l.length < l'.length then (l'.length : Int) else (l.length : Int)) = (n : Int) := by split <;> omega
  have HNN := hide hn
  clear hn
  go_wp2
  have HD : Hid (bx ≠ gg ∧ bx ≠ gh ∧ byy ≠ gg ∧ byy ≠ gh ∧ gg ≠ gh ∧ bx ≠ byy ∧ gg ≠ 0 ∧ gh ≠ 0 ∧ w.heap.size ≤ gg ∧ w.heap.size ≤ gh ∧ w.heap.size ≤ byy) := hide (by
    have := HGA.out
    have := HGC.out
    have := HGD.out
    have := HGE.out
    omega)
  go_loopw [37] (fun i wr => Aparting w (.slice ax l.length cx) (.slice ay l'.length cy) bx byy gg gh l l' n i wr) (fun i _ => n - (intOf i).toNat)
  case atStart => exact HS.out
  case round =>
    clear HS
    obtain ⟨k, hkn, rfl, hAp⟩ := hrel
    have HAP := hide hAp
    clear hAp
    by_cases hlt : k < n
    · go_upto_if 43 with fail
      go_cut [] (fun wx => Apart w (.slice ax l.length cx) (.slice ay l'.length cy) bx byy gg gh l l' (k + 1) k wx)
      case first =>
        obtain ⟨hrx, hry, hgx, hgy, hB⟩ := HAP.out
        by_cases hkl : k < l.length
        · obtain rfl := hx3 (by omega)
          obtain ⟨k1, hk1⟩ : ∃ k1, k1 = k + 1 := ⟨_, rfl⟩
          obtain ⟨ap, cp, hp1, hp2⟩ := byte_of (some ⟨bx, 0, none⟩) l.length cx k k1 hk1 (by omega) hx1
          have hbl := bumped_length l k
          have hsrc : Src wr gg (.slice ap 1 cp) [l.getD k 0] := fun w' ho => by
            have h1 := hp2 w' (bumped l k) ((hrx.2.only ho HD.out.1).bytesAt hbl hx1 hx2)
            have h2 : ((bumped l k).drop k).take 1 = [l.getD k 0] := by
              rw [List.drop_eq_getElem_cons (by omega)]
              have := bumped_get l k hkl
              simp [List.getD, hbl, hkl] at this
              simp [List.getD, hkl, this]
            rwa [h2] at h1
          have WR := hide (write_one wr gg (l.take k) (.slice ap 1 cp) [l.getD k 0] hgx hsrc (HK.out.on hB) HD.out.2.2.2.2.2.2.1 (by have := HN.out; simp; omega))
          rw [← take_one l k hkl] at WR
          have HP1 := hide hp1
          have HRX := hide hrx
          have HRY := hide hry
          have HGY := hide hgy
          have HB := hide hB
          have hw1 : IntKind.i64.wrap ((k : Int) + 1) = (k1 : Int) := wrap_small (by omega) (by have := HN.out; omega)
          have hk1e : (k : Int) + 1 = (k1 : Int) := by omega
          obtain ⟨ba, oa, ca, ea, -, -, hca⟩ := HV.out.lies (by omega)
          simp only [Value.slice.injEq, true_and] at ea
          obtain ⟨rfl, rfl⟩ := ea
          have HCA := hide (hca k hkl)
          have hba : ba < w.heap.size := World.block_lt_of_cell? _ _ (hca k hkl)
          have hkt : decide ((k : Int) < (l.length : Int)) = true := decide_eq_true (by omega)
          clear hrx hry hgx hgy hB hsrc hp1 hp2 hbl hca hk1
          go_wp2_with (first | (refine wp_between rfl (.tmp 45) (.tmp 46) (.tmp 48) rfl _ _ _ _ rfl rfl rfl HP1.out ?_) | (go_at_call 21; refine WR.out.mono ?_; rintro e w6 ⟨rfl, h6, o6⟩))
          have hB6 := HB.out.trans (o6.ground HD.out.2.2.2.2.2.2.2.2.1)
          have hr6 := HRX.out.only o6 HD.out.1
          have hy6 := HRY.out.only o6 HD.out.2.2.1
          have hg6 := HGY.out.beside o6 (Ne.symm HD.out.2.2.2.2.1)
          have hbl := bumped_length l k
          have c0 := hr6.2.cell0 k (by omega)
          have f0 := hr6.2.free0 k (by omega)
          rw [bumped_get l k hkl] at c0
          have c1 : w6.cell? ⟨ba, oa + k, none⟩ = some (.int .u8 (l.getD k 0)) := (hB6.cell (p := ⟨ba, oa + k, none⟩) hba).trans HCA.out
          have R : Hid (Apart w (.slice (some ⟨bx, 0, none⟩) l.length cx) (.slice ay l'.length cy) bx byy gg gh l l' (k + 1) k (w6.setCell ⟨bx, k, none⟩ (.int .u8 ((l.getD k 0 + 1) % 256))).drew) := by
            have hlt2 : bx ≠ gg := HD.out.1
            refine hide ⟨⟨⟨_, _, by rw [bumped_length], by rw [bumped_length]; exact hx1, hx2, fun _ => rfl⟩, ?_⟩, ⟨hy6.1, (hy6.2.beside _ _ (Or.inl HD.out.2.2.2.2.2.1)).drew⟩, ?_, ?_, (hB6.setCell HGA.out _).drew⟩
            · rw [← bumped_set l k hkl]
              exact (hr6.2.set0 k (by omega) _).drew
            · exact h6.heap (Below.heap_setCell w6 ⟨bx, k, none⟩ _ gg (Ne.symm hlt2))
            · exact hg6.heap (Below.heap_setCell w6 ⟨bx, k, none⟩ _ gh (Ne.symm HD.out.2.1))
          have hkl2 : (k : Int) < (l.length : Int) := by omega
          clear h6 o6 hB6 hr6 hy6 hg6 hbl WR HRX HRY HGY HB HAP
          generalize l.getD k 0 = z at *
          go_region_held3 (fun wx => wx.cell? ⟨bx, k, none⟩ = some (.int .u8 z) ∧ wx.cell? ⟨ba, oa + k, none⟩ = some (.int .u8 z)) (first | exact ⟨c0, c1⟩ | (go_keep; done)) (fail)
          go_wp2
          go_meet
          case rel => exact R.out
        · have hkt : decide ((k : Int) < (l.length : Int)) = false := decide_eq_false (by omega)
          have R : Hid (Apart w (.slice ax l.length cx) (.slice ay l'.length cy) bx byy gg gh l l' (k + 1) k wr) := by
            refine hide ⟨?_, hry, ?_, hgy, hB⟩
            · rw [bumped_more l k (by omega)]; exact hrx
            · rw [take_more l k (by omega)]; exact hgx
          clear hrx hry hgx hgy hB
          go_wp2
          go_meet
          case rel => exact R.out
      case rest =>
        have HAP2 := hide hcut
        clear hcut HAP
        obtain ⟨hrx, hry, hgx, hgy, hB⟩ := HAP2.out
        by_cases hkl : k < l'.length
        · obtain rfl := hy3 (by omega)
          obtain ⟨k1, hk1⟩ : ∃ k1, k1 = k + 1 := ⟨_, rfl⟩
          obtain ⟨ap, cp, hp1, hp2⟩ := byte_of (some ⟨byy, 0, none⟩) l'.length cy k k1 hk1 (by omega) hy1
          have hbl := bumped_length l' k
          have hsrc : Src wc gh (.slice ap 1 cp) [l'.getD k 0] := fun w' ho => by
            have h1 := hp2 w' (bumped l' k) ((hry.2.only ho HD.out.2.2.2.1).bytesAt hbl hy1 hy2)
            have h2 : ((bumped l' k).drop k).take 1 = [l'.getD k 0] := by
              rw [List.drop_eq_getElem_cons (by omega)]
              have := bumped_get l' k hkl
              simp [List.getD, hbl, hkl] at this
              simp [List.getD, hkl, this]
            rwa [h2] at h1
          have WR := hide (write_one wc gh (l'.take k) (.slice ap 1 cp) [l'.getD k 0] hgy hsrc (HK.out.on hB) HD.out.2.2.2.2.2.2.2.1 (by have := HN.out; simp; omega))
          rw [← take_one l' k hkl] at WR
          have HP1 := hide hp1
          have HRX := hide hrx
          have HRY := hide hry
          have HGX := hide hgx
          have HB := hide hB
          have hw1 : IntKind.i64.wrap ((k : Int) + 1) = (k1 : Int) := wrap_small (by omega) (by have := HN.out; omega)
          have hk1e : (k : Int) + 1 = (k1 : Int) := by omega
          have hkt : decide ((k : Int) < (l'.length : Int)) = true := decide_eq_true (by omega)
          have HK1 := hide hk1
          clear hrx hry hgx hgy hB hsrc hp1 hp2 hbl hk1
          go_wp2_with (first | (refine wp_between rfl (.tmp 72) (.tmp 73) (.tmp 75) rfl _ _ _ _ rfl rfl rfl HP1.out ?_) | (go_at_call 21; refine WR.out.mono ?_; rintro e w6 ⟨rfl, h6, o6⟩; (have hB6 := HB.out.trans (o6.ground HD.out.2.2.2.2.2.2.2.2.2.1)); (have hr6 := HRY.out.only o6 HD.out.2.2.2.1); (have c0 := hr6.2.cell0 k (by rw [bumped_length]; exact hkl)); (have f0 := hr6.2.free0 k (by rw [bumped_length]; exact hkl)); rw [bumped_get l' k hkl] at c0))
          have R : Hid (Aparting w (.slice ax l.length cx) (.slice (some ⟨byy, 0, none⟩) l'.length cy) bx byy gg gh l l' n (.int .i64 (k1 : Int)) (w6.setCell ⟨byy, k, none⟩ (.int .u8 ((l'.getD k 0 + 1) % 256)))) := by
            have hx6 := HRX.out.only o6 HD.out.2.1
            have hg6 := HGX.out.beside o6 HD.out.2.2.2.2.1
            refine hide ⟨k + 1, by omega, by rw [HK1.out], ⟨hx6.1, hx6.2.beside _ _ (Or.inl (Ne.symm HD.out.2.2.2.2.2.1))⟩, ⟨⟨_, _, by rw [bumped_length], by rw [bumped_length]; exact hy1, hy2, fun _ => rfl⟩, ?_⟩, ?_, ?_, hB6.setCell HD.out.2.2.2.2.2.2.2.2.2.2 _⟩
            · rw [← bumped_set l' k hkl]
              exact hr6.2.set0 k (by rw [bumped_length]; exact hkl) _
            · exact hg6.heap (Below.heap_setCell w6 ⟨byy, k, none⟩ _ gg (Ne.symm HD.out.2.2.1))
            · exact h6.heap (Below.heap_setCell w6 ⟨byy, k, none⟩ _ gh (Ne.symm HD.out.2.2.2.1))
          have hge : l'.getD k 0 = l'[k] := by simp [List.getD, hkl]
          rw [hge] at R
          go_roundw
          case rel => first | exact R.out | ((repeat apply Exists.intro); exact ⟨R.out, rfl⟩)
          case measure => have := HK1.out; simp [intOf]; omega
        · have hkt : decide ((k : Int) < (l'.length : Int)) = false := decide_eq_false (by omega)
          have R : Hid (Aparting w (.slice ax l.length cx) (.slice ay l'.length cy) bx byy gg gh l l' n (.int .i64 ((k + 1 : Nat) : Int)) wc) := by
            refine hide ⟨k + 1, by omega, rfl, hrx, ?_, hgx, ?_, hB⟩
            · rw [bumped_more l' k (by omega)]; exact hry
            · rw [take_more l' k (by omega)]; exact hgy
          clear hrx hry hgx hgy hB
          go_wp2
          go_roundw
          case rel => first | exact R.out | ((repeat apply Exists.intro); exact ⟨R.out, rfl⟩)
          case measure => simp [intOf]; omega
    · obtain ⟨-, -, hgx, hgy, hB⟩ := HAP.out
      rw [List.take_of_length_le (by have := HNN.out; omega)] at hgx hgy
      have HB5 := hide hB
      have HH5 := hide hgx
      have HI5 := hide hgy
      clear hgx hgy hB HAP
      go_wp2_with fail
      refine (hsum_any wr gg l HH5.out (HK.out.on HB5.out) (by have := HN.out; omega)).mono ?_
      rintro e w6 ⟨rfl, hbel6⟩
      have HB6 := hide (below_on HB5.out hbel6)
      have HI6 := hide (HI5.out.on hbel6)
      have KP := hide (hash_kept w6 (digest l) HL1.out)
      clear hbel6
      go_wp2_with (refine wp_store_arr rfl 28 (.tmp 10) (.tmp 89) rfl _ 0 .u8 (digest l) rfl rfl 32 (hash_there _) info_h HL1.out ?_)
      generalize (w6.alloc (.cells #[.int .u8 0, .int .u8 0, .int .u8 0, .int .u8 0, .int .u8 0, .int .u8 0, .int .u8 0, .int .u8 0, .int .u8 0, .int .u8 0, .int .u8 0, .int .u8 0, .int .u8 0, .int .u8 0, .int .u8 0, .int .u8 0, .int .u8 0, .int .u8 0, .int .u8 0, .int .u8 0, .int .u8 0, .int .u8 0, .int .u8 0, .int .u8 0, .int .u8 0, .int .u8 0, .int .u8 0, .int .u8 0, .int .u8 0, .int .u8 0, .int .u8 0, .int .u8 0] 28)).setCells w6.heap.size 0 (vals .u8 (digest l)) = W7 at *
      have HB7 := hide (below_on HB6.out KP.out.1)
      have HI7 := hide (HI6.out.on KP.out.1)
      have HX7 := hide KP.out.2
      clear KP
      generalize w6.heap.size = g10 at *
      refine (hsum_any W7 gh l' HI7.out (HK.out.on HB7.out) (by have := HN.out; omega)).mono ?_
      rintro e w8 ⟨rfl, hbel8⟩
      have HB8 := hide (below_on HB7.out hbel8)
      have HX8 := hide (HX7.out.on hbel8)
      have KP := hide (hash_kept w8 (digest l') HL2.out)
      clear hbel8
      go_wp2_with (refine wp_store_arr rfl 28 (.tmp 12) (.tmp 94) rfl _ 0 .u8 (digest l') rfl rfl 32 (hash_there _) info_h HL2.out ?_)
      generalize (w8.alloc (.cells #[.int .u8 0, .int .u8 0, .int .u8 0, .int .u8 0, .int .u8 0, .int .u8 0, .int .u8 0, .int .u8 0, .int .u8 0, .int .u8 0, .int .u8 0, .int .u8 0, .int .u8 0, .int .u8 0, .int .u8 0, .int .u8 0, .int .u8 0, .int .u8 0, .int .u8 0, .int .u8 0, .int .u8 0, .int .u8 0, .int .u8 0, .int .u8 0, .int .u8 0, .int .u8 0, .int .u8 0, .int .u8 0, .int .u8 0, .int .u8 0, .int .u8 0, .int .u8 0] 28)).setCells w8.heap.size 0 (vals .u8 (digest l')) = W at *
      have HB := hide (below_on HB8.out KP.out.1)
      have HX := hide (HX8.out.on KP.out.1)
      have HY := hide KP.out.2
      have HKW := hide (HK.out.on HB.out)
      have HVW := hide (HV.out.below HB.out)
      have HVW' := hide (HV'.out.below HB.out)
      clear KP
      generalize w8.heap.size = g12 at *
      have S1 := hide (sum_drew W _ l HVW.out HKW.out (by have := HN.out; omega))
      have S2 := hide (fun wx (h : Below W.heap.size W wx) => sum_one wx _ l' (HVW'.out.below h) (HKW.out.on h) (by have := HN.out; omega))
      generalize digest l' = D2 at *
      generalize digest l = D1 at *
      have EQ1 := fun wx => eql_hash D1 HL1.out wx
      have EQ2 := fun wx => eql_hash D2 HL2.out wx
      have hu28 := Tryd.underlying28
      have hi28 : (Tryd.prog.info? 28).map (·.size) = some (vals .u8 D1).length := by rw [vals_length, HL1.out]; exact info_h
      have hi28' : (Tryd.prog.info? 28).map (·.size) = some (vals .u8 D2).length := by rw [vals_length, HL2.out]; exact info_h
      have HC : Hid (∀ wx, Below W.heap.size W wx → wx.rangeAt g10 0 (vals .u8 D1) ∧ wx.rangeAt g12 0 (vals .u8 D2)) := hide (fun wx hx => ⟨(HX.out.on hx).1, (HY.out.on hx).1⟩)
      refine wp_region_noPanic ?_
      refine wp_region_held_drew (S := fun wx => wx.rangeAt g10 0 (vals .u8 D1) ∧ wx.rangeAt g12 0 (vals .u8 D2)) (by kernel_rfl) (HC.out _ (Below.drew (Below.refl _ _))) (fun hHeld => ?_)
      refine wpAnyH_take (i := 0) (oi := { dst := some 96, op := Op.move (Operand.tmp 11), type := 39, pos := "law.go:127", after := #[], guard := none }) (v := .int .i64 0) rfl (by kernel_rfl) (by kernel_rfl) (by kernel_rfl) (fun _ _ _ h => h) (Or.inl ⟨by rfl, fun w _ => by go_simp⟩) (by assumption) ?_
      simp only [Act.put, List.setIfInBounds_toArray, List.set_cons_zero, List.set_cons_succ]
      refine wpAnyH_take (i := 1) (oi := { dst := some 97, op := Op.binOp BinOp.eql 39 (Operand.tmp 96) (Operand.const (Value.int IntKind.i64 0)) 39, type := 4, pos := "law.go:127", after := #[{ on := 0, ground := Ground.data }], guard := none }) (v := .bool true) rfl (by kernel_rfl) (by kernel_rfl) (by kernel_rfl) (fun _ _ _ h => h) (Or.inl ⟨by rfl, fun w _ => by go_simp⟩) (by assumption) ?_
      simp only [Act.put, List.setIfInBounds_toArray, List.set_cons_zero, List.set_cons_succ]
      refine wpAnyH_take (i := 2) (oi := { dst := some 98, op := Op.move (Operand.tmp 97), type := 4, pos := "law.go:127", after := #[{ on := 1, ground := Ground.data }], guard := none }) (v := .bool true) rfl (by kernel_rfl) (by kernel_rfl) (by kernel_rfl) (fun _ _ _ h => h) (Or.inl ⟨by rfl, fun w _ => by go_simp⟩) (by assumption) ?_
      simp only [Act.put, List.setIfInBounds_toArray, List.set_cons_zero, List.set_cons_succ]
      refine wpAnyH_take (i := 3) (oi := { dst := some 99, op := Op.move (Operand.tmp 13), type := 39, pos := "law.go:127", after := #[{ on := 2, ground := Ground.guard }], guard := some (2, true) }) (v := .int .i64 0) rfl (by kernel_rfl) (by kernel_rfl) (by kernel_rfl) (fun _ _ _ h => h) (Or.inl ⟨by rfl, fun w _ => by go_simp⟩) (by assumption) ?_
      simp only [Act.put, List.setIfInBounds_toArray, List.set_cons_zero, List.set_cons_succ]
      refine wpAnyH_take (i := 4) (oi := { dst := some 100, op := Op.binOp BinOp.eql 39 (Operand.tmp 99) (Operand.const (Value.int IntKind.i64 0)) 39, type := 4, pos := "law.go:127", after := #[{ on := 3, ground := Ground.data }, { on := 2, ground := Ground.guard }], guard := some (2, true) }) (v := .bool true) rfl (by kernel_rfl) (by kernel_rfl) (by kernel_rfl) (fun _ _ _ h => h) (Or.inl ⟨by rfl, fun w _ => by go_simp⟩) (by assumption) ?_
      simp only [Act.put, List.setIfInBounds_toArray, List.set_cons_zero, List.set_cons_succ]
      refine wpAnyH_take (i := 5) (oi := { dst := some 101, op := Op.pick (Operand.tmp 98) (Operand.tmp 100) (Operand.const (Value.bool false)), type := 4, pos := "law.go:127", after := #[{ on := 2, ground := Ground.data }, { on := 4, ground := Ground.data }], guard := none }) (v := .bool true) rfl (by kernel_rfl) (by kernel_rfl) (by kernel_rfl) (fun _ _ _ h => h) (Or.inl ⟨by rfl, fun w _ => by go_simp⟩) (by assumption) ?_
      simp only [Act.put, List.setIfInBounds_toArray, List.set_cons_zero, List.set_cons_succ]
      refine wpAnyH_take (i := 6) (oi := { dst := some 102, op := Op.move (Operand.tmp 101), type := 4, pos := "law.go:127", after := #[{ on := 5, ground := Ground.data }, { on := 2, ground := Ground.chain }], guard := none }) (v := .bool true) rfl (by kernel_rfl) (by kernel_rfl) (by kernel_rfl) (fun _ _ _ h => h) (Or.inl ⟨by rfl, fun w _ => by go_simp⟩) (by assumption) ?_
      simp only [Act.put, List.setIfInBounds_toArray, List.set_cons_zero, List.set_cons_succ]
      refine wpAnyH_take (i := 7) (oi := { dst := some 103, op := Op.load 28 (Operand.tmp 10), type := 28, pos := "law.go:127", after := #[{ on := 6, ground := Ground.guard }], guard := some (6, true) }) (v := .agg (vals .u8 D1).toArray) rfl (by kernel_rfl) (by kernel_rfl) (by kernel_rfl) (fun _ _ _ h => h) (yieldsIf_load_mid (by rfl) 28 (.tmp 10) rfl g10 0 rfl (vals .u8 D1) _ (fun w h => h.1) hu28 rfl hi28) (by assumption) ?_
      simp only [Act.put, List.setIfInBounds_toArray, List.set_cons_zero, List.set_cons_succ]
      refine wpAnyH_take (i := 8) (oi := { dst := some 104, op := Op.move (Operand.tmp 0), type := 25, pos := "law.go:127", after := #[{ on := 6, ground := Ground.guard }], guard := some (6, true) }) (v := .slice a l.length cap) rfl (by kernel_rfl) (by kernel_rfl) (by kernel_rfl) (fun _ _ _ h => h) (Or.inl ⟨by rfl, fun w _ => by go_simp⟩) (by assumption) ?_
      simp only [Act.put, List.setIfInBounds_toArray, List.set_cons_zero, List.set_cons_succ]
      refine wpAnyH_ready (rs := [9]) (by kernel_rfl) (by simp) (AllReadyH.cons (o := { dst := some 105, op := Op.buildSlice 22 1 #[(0, Operand.tmp 104)], type := 22, pos := "law.go:127", after := #[{ on := 8, ground := Ground.data }, { on := 6, ground := Ground.guard }], guard := some (6, true) }) rfl (fun K hK => ?_) AllReadyH.nil)
      go_simp
      refine hK.out _ _ ?_ (fun hHeld => ?_)
      · exact HC.out _ (Below.drew (below_alloc (Below.refl _ _) _))
      clear hK K
      refine wpAnyH_ready (rs := [10]) (by kernel_rfl) (by simp) (AllReadyH.cons (o := { dst := some 106, op := Op.call { callee := Callee.value (Operand.func 12), args := #[Operand.tmp 105], argTypes := #[22] }, type := 28, pos := "law.go:127", after := #[{ on := 9, ground := Ground.data }, { on := 6, ground := Ground.chain }, { on := 6, ground := Ground.guard }], guard := some (6, true) }) rfl (fun K hK => ?_) AllReadyH.nil)
      go_simp
      refine S1.out.mono ?_
      rintro e wa ⟨rfl, hb6⟩
      refine hK.out _ _ (HC.out _ hb6) (fun hHeld => ?_)
      clear hK K
      refine wpAnyH_take (i := 11) (oi := { dst := some 107, op := Op.binOp BinOp.eql 28 (Operand.tmp 103) (Operand.tmp 106) 28, type := 4, pos := "law.go:127", after := #[{ on := 7, ground := Ground.data }, { on := 10, ground := Ground.data }, { on := 6, ground := Ground.guard }], guard := some (6, true) }) (v := .bool true) rfl (by kernel_rfl) (by kernel_rfl) (by kernel_rfl) (fun _ _ _ h => h) (Or.inl ⟨by rfl, fun w _ => by go_simp⟩) (by assumption) ?_
      simp only [Act.put, List.setIfInBounds_toArray, List.set_cons_zero, List.set_cons_succ]
      refine wpAnyH_take (i := 12) (oi := { dst := some 108, op := Op.pick (Operand.tmp 102) (Operand.tmp 107) (Operand.const (Value.bool false)), type := 4, pos := "law.go:127", after := #[{ on := 6, ground := Ground.data }, { on := 11, ground := Ground.data }], guard := none }) (v := .bool true) rfl (by kernel_rfl) (by kernel_rfl) (by kernel_rfl) (fun _ _ _ h => h) (Or.inl ⟨by rfl, fun w _ => by go_simp⟩) (by assumption) ?_
      simp only [Act.put, List.setIfInBounds_toArray, List.set_cons_zero, List.set_cons_succ]
      refine wpAnyH_take (i := 13) (oi := { dst := some 109, op := Op.move (Operand.tmp 108), type := 4, pos := "law.go:127", after := #[{ on := 12, ground := Ground.data }, { on := 10, ground := Ground.chain }], guard := none }) (v := .bool true) rfl (by kernel_rfl) (by kernel_rfl) (by kernel_rfl) (fun _ _ _ h => h) (Or.inl ⟨by rfl, fun w _ => by go_simp⟩) (by assumption) ?_
      simp only [Act.put, List.setIfInBounds_toArray, List.set_cons_zero, List.set_cons_succ]
      refine wpAnyH_take (i := 14) (oi := { dst := some 110, op := Op.load 28 (Operand.tmp 12), type := 28, pos := "law.go:127", after := #[{ on := 13, ground := Ground.guard }], guard := some (13, true) }) (v := .agg (vals .u8 D2).toArray) rfl (by kernel_rfl) (by kernel_rfl) (by kernel_rfl) (fun _ _ _ h => h) (yieldsIf_load_mid (by rfl) 28 (.tmp 12) rfl g12 0 rfl (vals .u8 D2) _ (fun w h => h.2) hu28 rfl hi28') (by assumption) ?_
      simp only [Act.put, List.setIfInBounds_toArray, List.set_cons_zero, List.set_cons_succ]
      refine wpAnyH_take (i := 15) (oi := { dst := some 111, op := Op.move (Operand.tmp 1), type := 25, pos := "law.go:127", after := #[{ on := 13, ground := Ground.guard }], guard := some (13, true) }) (v := .slice a' l'.length cap') rfl (by kernel_rfl) (by kernel_rfl) (by kernel_rfl) (fun _ _ _ h => h) (Or.inl ⟨by rfl, fun w _ => by go_simp⟩) (by assumption) ?_
      simp only [Act.put, List.setIfInBounds_toArray, List.set_cons_zero, List.set_cons_succ]
      refine wpAnyH_ready (rs := [16]) (by kernel_rfl) (by simp) (AllReadyH.cons (o := { dst := some 112, op := Op.buildSlice 22 1 #[(0, Operand.tmp 111)], type := 22, pos := "law.go:127", after := #[{ on := 15, ground := Ground.data }, { on := 13, ground := Ground.guard }], guard := some (13, true) }) rfl (fun K hK => ?_) AllReadyH.nil)
      go_simp
      refine hK.out _ _ ?_ (fun hHeld => ?_)
      · exact HC.out _ (below_alloc hb6 _)
      clear hK K
      refine wpAnyH_ready (rs := [17]) (by kernel_rfl) (by simp) (AllReadyH.cons (o := { dst := some 113, op := Op.call { callee := Callee.value (Operand.func 12), args := #[Operand.tmp 112], argTypes := #[22] }, type := 28, pos := "law.go:127", after := #[{ on := 16, ground := Ground.data }, { on := 13, ground := Ground.chain }, { on := 13, ground := Ground.guard }], guard := some (13, true) }) rfl (fun K hK => ?_) AllReadyH.nil)
      go_simp
      refine (S2.out _ hb6).mono ?_
      rintro e wb ⟨rfl, hbel7⟩
      have hb7 : Below W.heap.size W wb := below_on hb6 hbel7
      refine hK.out _ _ (HC.out _ hb7) (fun hHeld => ?_)
      clear hK K
      refine wpAnyH_take (i := 18) (oi := { dst := some 114, op := Op.binOp BinOp.eql 28 (Operand.tmp 110) (Operand.tmp 113) 28, type := 4, pos := "law.go:127", after := #[{ on := 14, ground := Ground.data }, { on := 17, ground := Ground.data }, { on := 13, ground := Ground.guard }], guard := some (13, true) }) (v := .bool true) rfl (by kernel_rfl) (by kernel_rfl) (by kernel_rfl) (fun _ _ _ h => h) (Or.inl ⟨by rfl, fun w _ => by go_simp⟩) (by assumption) ?_
      simp only [Act.put, List.setIfInBounds_toArray, List.set_cons_zero, List.set_cons_succ]
      refine wpAnyH_take (i := 19) (oi := { dst := some 115, op := Op.pick (Operand.tmp 109) (Operand.tmp 114) (Operand.const (Value.bool false)), type := 4, pos := "law.go:127", after := #[{ on := 13, ground := Ground.data }, { on := 18, ground := Ground.data }], guard := none }) (v := .bool true) rfl (by kernel_rfl) (by kernel_rfl) (by kernel_rfl) (fun _ _ _ h => h) (Or.inl ⟨by rfl, fun w _ => by go_simp⟩) (by assumption) ?_
      simp only [Act.put, List.setIfInBounds_toArray, List.set_cons_zero, List.set_cons_succ]
      refine wpAnyH_take (i := 20) (oi := { dst := some 4, op := Op.assign (Operand.tmp 115), type := 4, pos := "law.go:127", after := #[{ on := 19, ground := Ground.data }, { on := 17, ground := Ground.chain }, { on := 0, ground := Ground.phase }, { on := 1, ground := Ground.phase }, { on := 2, ground := Ground.phase }, { on := 3, ground := Ground.phase }, { on := 4, ground := Ground.phase }, { on := 5, ground := Ground.phase }, { on := 6, ground := Ground.phase }, { on := 7, ground := Ground.phase }, { on := 8, ground := Ground.phase }, { on := 9, ground := Ground.phase }, { on := 10, ground := Ground.phase }, { on := 11, ground := Ground.phase }, { on := 12, ground := Ground.phase }, { on := 13, ground := Ground.phase }, { on := 14, ground := Ground.phase }, { on := 15, ground := Ground.phase }, { on := 16, ground := Ground.phase }, { on := 17, ground := Ground.phase }, { on := 18, ground := Ground.phase }, { on := 19, ground := Ground.phase }], guard := none }) (v := .bool true) rfl (by kernel_rfl) (by kernel_rfl) (by kernel_rfl) (fun _ _ _ h => h) (Or.inl ⟨by rfl, fun w _ => by go_simp⟩) (by assumption) ?_
      simp only [Act.put, List.setIfInBounds_toArray, List.set_cons_zero, List.set_cons_succ]
      refine wpAnyH_done (by kernel_rfl) ?_ _
      refine NoPanic.normal ?_
      go_wp2
      go_ret
      exact ⟨rfl, below_on HB.out hb7⟩

set_option maxRecDepth 100000 in
theorem shaApart_lifted (os : Os) (started : os.Started) (H : Type) (enc : TypeId × Value → H) :
    ReturnsInHanded {} Tryd.checked os 8 .any (fun w args => (Rows.shaApartSpec.pre enc Tryd.prog Tryd.f8 [] false w args ∧ laidMetH Tryd.prog laid1 w) ∧ sizedMet enc Tryd.prog Tryd.f8 (OpenSpec.ofChange Rows.shaApartSpec) false w args)
      (Rows.shaApartSpec.post enc Tryd.prog Tryd.f8 false true false false) := by
  refine returnsInHanded_of_change_and (C := Tryd.checked) (X := fun w _ => laidMetH Tryd.prog laid1 w) (fun _ _ _ hh h => h.of_heap hh) own started (by kernel_rfl) Tryd.func8
    (ChangeSpec.witness_shaped (enc := enc) (C := Tryd.checked) (os := os) (X := fun w _ => laidMetH Tryd.prog laid1 w) false (World.doorLaid Tryd.prog 14 os) #[.slice none 0 0, .slice none 0 0] 8 rfl (World.shaped_of_RefB (by kernel_rfl) (by kernel_rfl)) (by kernel_rfl) (by kernel_rfl) (by kernel_rfl) (door_met os _)) ?_
  intro W base args ds gs before hval0 hW _ _ hL _
  have hval : ∀ (j : Nat) t v, Tryd.f8.params[j]? = some t → args[j]? = some v → Value.okWide Tryd.prog W .any base t v := hval0
  have hW' := hW
  obtain ⟨p, q, hA0, hV, rfl, hfz, hnd⟩ := hW
  have hA : DataW.TrodAll enc Tryd.prog W 0 (fun _ => true) true Tryd.f8.params.toList args.toList ds p := hA0
  rw [Tryd.params8] at hA hval
  obtain ⟨v0, vs0, d0, ds0, p0, q0, hargs, rfl, rfl, h0, r0⟩ := trodAll_cons hA
  obtain ⟨v1, vs1, d1, ds1, p1, q1, rfl, rfl, rfl, h1, r1⟩ := trodAll_cons r0
  obtain ⟨rfl, rfl, rfl⟩ := trodAll_nil r1
  obtain rfl : args = #[v0, v1] := by cases args; simp_all
  obtain ⟨rfl, rfl⟩ := trodVars_none hV
  obtain ⟨b0, len0, cap0, rfl⟩ := okWide_slice Tryd.underlying25 (hval 0 25 v0 rfl rfl)
  have k0 := h0
  have lt0 : ∀ x ∈ p0, x.block < W.heap.size := by obtain ⟨m, hm⟩ := k0; exact DataW.trod_lt m _ _ _ hm
  obtain ⟨l0, s0, w0⟩ : ∃ l, Bytes W (.slice b0 len0 cap0) l ∧ ∀ z ∈ l, Byte z := by
    obtain ⟨fuel, hf⟩ := h0
    rcases open_ints Tryd.underlying25 Tryd.underlying5 (by kernel_rfl) hf with ⟨hcs, _⟩ | ⟨x, l, c, zs, hcs, _, hl, hm, hz, _, hcell, hwz⟩
    · simp [Value.cells] at hcs
      obtain ⟨rfl, rfl, rfl⟩ := hcs
      exact ⟨[], Bytes.nil _, by simp⟩
    · simp [Value.cells] at hcs
      obtain ⟨rfl, rfl, rfl⟩ := hcs
      exact bytes_row hl hm (by simpa using hz) hcell hwz
  obtain ⟨b1, len1, cap1, rfl⟩ := okWide_slice Tryd.underlying25 (hval 1 25 v1 rfl rfl)
  have k1 := h1
  have lt1 : ∀ x ∈ p1, x.block < W.heap.size := by obtain ⟨m, hm⟩ := k1; exact DataW.trod_lt m _ _ _ hm
  obtain ⟨l1, s1, w1⟩ : ∃ l, Bytes W (.slice b1 len1 cap1) l ∧ ∀ z ∈ l, Byte z := by
    obtain ⟨fuel, hf⟩ := h1
    rcases open_ints Tryd.underlying25 Tryd.underlying5 (by kernel_rfl) hf with ⟨hcs, _⟩ | ⟨x, l, c, zs, hcs, _, hl, hm, hz, _, hcell, hwz⟩
    · simp [Value.cells] at hcs
      obtain ⟨rfl, rfl, rfl⟩ := hcs
      exact ⟨[], Bytes.nil _, by simp⟩
    · simp [Value.cells] at hcs
      obtain ⟨rfl, rfl, rfl⟩ := hcs
      exact bytes_row hl hm (by simpa using hz) hcell hwz
  clear hA0 hval0
  refine (shaApart_walk (w := W) (ks_of_laid hL) _ l0 w0 s0 _ l1 w1 s1).mono fun e W' ⟨he, bel⟩ => ?_
  subst he
  exact ⟨_, rfl, _, _, _, [], _, [], hW', trodAll_mk1 (shut_bool Tryd.underlying4 _), (trodAll_cons_mk (Below.trod laidOut (by kernel_rfl) (of_decide_eq_true (by kernel_rfl)) k0 bel lt0) (trodAll_cons_mk (Below.trod laidOut (by kernel_rfl) (of_decide_eq_true (by kernel_rfl)) k1 bel lt1) trodAll_mk0)), rfl, bel.frame _, fun h => by cases h⟩

theorem shaApart_holds : Rows.ShaApartSaid :=
  OpenClaim.holds_of_wide 8 Tryd.f8 rfl rfl rfl rfl rfl rfl rfl ⟨rfl, rfl, rfl, rfl, rfl⟩ rfl rfl rfl rfl rfl (by kernel_rfl) Tryd.func8 (by kernel_rfl)
    (of_decide_eq_true (by kernel_rfl)) (by unfold Func.isWrapper; first | (rw [if_pos (by decide +kernel)]; kernel_rfl) | (rw [if_neg (by decide +kernel)]; exact ⟨rfl, rfl⟩))
    (fun os started H enc _ => shaApart_lifted os started H enc)
#print axioms shaApart_holds
theorem shaApart_card : Rows.ShaApartCardSaid :=
  Claim7.holds_tied_plain_at .later [] [.data] true (true, "34bf6f512d100cf8a2d92042fc1f1bd857a1573d03b0dbff5ca3c1d95d8d5be7") false
    shaApart_holds (fun _ h => by cases h) (by kernel_rfl) (fun _ h => by cases h) shaApart_row_tie rfl ⟨rfl, rfl⟩ (by kernel_rfl) rfl
    (fun f fn hf hfn => by
      obtain rfl : f = 8 := Option.some.inj ((show Tryd.prog.funcNamed "pappus/pappuslaw03.ShaApart" = some 8 by kernel_rfl).symm.trans hf) |>.symm
      obtain rfl : fn = Tryd.f8 := (Option.some.inj (Tryd.func8.symm.trans hfn)).symm
      exact ⟨by kernel_rfl, fun j t ht => by
        rw [Tryd.params8] at ht
        have hm : t ∈ [25, 25] := by simpa using Array.mem_of_getElem? ht
        have hall : ([25, 25].all fun u => !Tryd.prog.wantsStandIn u) = true := by kernel_rfl
        exact (show Tryd.prog.wantsStandIn t = false by simpa using List.all_eq_true.1 hall t hm)⟩)
    (by kernel_rfl)
#print axioms shaApart_card
end Go.Proofs.YtllldlpnocnagaaDoor
