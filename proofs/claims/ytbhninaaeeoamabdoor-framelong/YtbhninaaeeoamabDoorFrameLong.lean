/-
  FrameLong: of whatever told length and bytes behind: a body that is told too long is refused with its head, another one is read: the call returns true, and the arguments read as before.
-/
import Derived.Test.YtbhninaaeeoamabDoorFrLaw
import Derived.Test.YtbhninaaeeoamabDoorFrAlive
import Derived.Test.YtbhninaaeeoamabDoorFrPutNil
import Derived.Test.YtbhninaaeeoamabDoorFrLong
namespace Go.Proofs.YtbhninaaeeoamabDoor
open Go.ChangeShapes Go.WideShapes Go.ChangeAt Go.RowKit

/-- What holds at the head of a round. -/
def Longing (w : World) (b : Nat) (x ck : Int) (i : Value) (wr : World) : Prop :=
  ∃ k : Nat, k ≤ 4 ∧ i = .int .i64 k ∧ Arr wr b 0 .u8 (longL x ck k) ∧ Below w.heap.size w wr

set_option maxRecDepth 100000 in
set_option maxHeartbeats 1000000 in
theorem frameLong_walk {w : World} (hk : Ks w) (x : Int) (hx : 0 ≤ x ∧ x < 4294967296) (v : Value) (r : List Int) (hb : ∀ z ∈ r, Byte z) (hv : Bytes w v r) :
    Calls Tryd.prog 4 #[.int .u32 x, v] w fun e w' => e = .returned (.bool true) ∧ Below w.heap.size w w' := by
  have HV := hide hv
  have HK := hide hk
  have A := hide (alive_any w hk)
  obtain ⟨a, cap, rfl, hc1, hc2⟩ := hv.form
  by_cases hbig : 4000 < r.length
  · have hbi : (4000 : Int) < (r.length : Int) := by omega
    clear hv hk hb
    go_enter Tryd.func4, Tryd.ntmps4
    go_wp2_with fail
    refine A.out.mono ?_
    rintro e w1 ⟨rfl, hbel1⟩
    have HB1 := hide hbel1
    clear hbel1
    go_wp2
    go_ret
    exact ⟨rfl, HB1.out⟩
  have hbi : (r.length : Int) ≤ 4000 := by omega
  have P := hide (fun wx (k : Ks wx) => fput_nil wx txB k (by decide) tx_named)
  have hckw := chk_word []
  have H := hide (fun wx p (h : Bytes wx p (headL (strL txB) x (chk []))) => head_any wx p _ h (headL_byte (strL_byte txB) x _))
  have G := hide (fun wx p (h : Bytes wx p (headL (strL txB) x (chk []) ++ r)) (k : Ks wx) => fget_any wx p _ h (fun z hz => by
    rcases List.mem_append.1 hz with h | h
    · exact headL_byte (strL_byte txB) x _ z h
    · exact hb z h) k)
  unfold HeadDone at H
  unfold GetDone at G
  simp only [hdrV] at H
  have HBIG := hide (fun h => long_big hx h (ck := chk []))
  have HSM := hide (fun h => long_small hx h hckw)
  have HX := hide hx
  obtain ⟨x0, x1⟩ := hx
  clear hv hk hb hbig hckw
  generalize chk [] = ck at *
  go_enter Tryd.func4, Tryd.ntmps4
  go_wp2_with fail
  refine A.out.mono ?_
  rintro e w1 ⟨rfl, hbel1⟩
  have HB1 := hide hbel1
  clear hbel1
  go_wp2_with fail
  refine (P.out _ (HK.out.on HB1.out)).mono ?_
  rintro e w2 ⟨b, rfl, hbb, hA, hbel2⟩
  have HBB : Hid (w.heap.size ≤ b) := hide (by have := HB1.out.size; omega)
  have HS : Hid (Longing w b x ck (.int .i64 ((0 : Nat) : Int)) w2) := hide ⟨0, by omega, rfl, by rw [longL_start]; exact hA, below_on HB1.out hbel2⟩
  clear hbel2 hA hbb P A
  go_wp2_with fail
  go_loopw [25] (fun i wr => Longing w b x ck i wr) (fun i _ => 4 - (intOf i).toNat)
  case atStart => exact HS.out
  case round =>
    clear HS
    obtain ⟨k, hk4, rfl, hA, hbel⟩ := hrel
    by_cases hlt : k < 4
    · have hlen := longL_length x ck k hk4
      have c0 := hA.cell0 (16 + k) (by omega)
      have f0 := hA.free0 (16 + k) (by omega)
      have hnx : Arr (wr.setCell ⟨b, 16 + k, none⟩ (.int .u8 ((put 4 x).getD k 0))) b 0 .u8 (longL x ck (k + 1)) := by
        rw [← longL_next x ck k hlt]
        exact hA.set0 (16 + k) (by omega) _
      have HR : Hid (Longing w b x ck (.int .i64 ((k + 1 : Nat) : Int)) (wr.setCell ⟨b, 16 + k, none⟩ (.int .u8 ((put 4 x).getD k 0)))) := hide ⟨k + 1, by omega, rfl, hnx, hbel.setCell HBB.out _⟩
      clear hnx hA hbel hlen
      generalize (longL x ck k).getD (16 + k) 0 = z0 at *
      rcases (show k = 0 ∨ k = 1 ∨ k = 2 ∨ k = 3 by omega) with rfl | rfl | rfl | rfl
      · rw [show (put 4 x).getD 0 0 = x % 256 from rfl] at HR
        go_wp2
        exact ⟨HR.out, by decide⟩
      · rw [show (put 4 x).getD 1 0 = x / 256 % 256 from rfl] at HR
        go_wp2
        exact ⟨HR.out, by decide⟩
      · rw [show (put 4 x).getD 2 0 = x / 65536 % 256 by show x / 256 / 256 % 256 = _; omega] at HR
        go_wp2
        exact ⟨HR.out, by decide⟩
      · rw [show (put 4 x).getD 3 0 = x / 16777216 by show x / 256 / 256 / 256 % 256 = _; omega] at HR
        go_wp2
        exact ⟨HR.out, by decide⟩
    · obtain rfl : k = 4 := by omega
      rw [longL_end] at hA
      have HL : Hid ((headL (strL txB) x ck).length = 24) := hide (headL_length (by decide) _ _)
      have hb24 := hA.bytes (by rw [HL.out]; omega)
      rw [HL.out] at hb24
      have HB24 := hide hb24
      have HA := hide hA
      have HB3 := hide hbel
      clear hb24 hA hbel hlt hk4
      by_cases hbg : 2048 < x
      · obtain ⟨e1, e2, e3, e4, e5⟩ := HBIG.out hbg
        have e6 := (get_none (Or.inr (Or.inl (e5 r)))).2.2
        rw [e1, e2, e3, e4, str_nil] at H
        rw [e5 r, e6] at G
        clear e1 e2 e3 e4 e5 e6 HSM HBIG
        generalize headL (strL txB) x ck = L at *
        generalize strOfNums (geC (L ++ r)) = gc at *
        go_wp2_with fail
        refine (H.out _ _ HB24.out).mono ?_
        rintro e w4 ⟨rfl, hbel4⟩
        have hx := box_hdr w4 ⟨#[]⟩ 0 0
        have HX4 := hide hx.2
        have HB4 := hide (below_on (below_on HB3.out hbel4) hx.1)
        have HA4 := hide (HA.out.on (below_on hbel4 hx.1))
        clear hx hbel4
        go_upto_region 14 with fail
        generalize w4.alloc (.cells #[.string ⟨#[]⟩, .int .i64 0, .int .u32 0] 35) = W4 at *
        generalize w4.heap.size = g4 at *
        have HLS : Hid (Value.slice (some ⟨b, 0, none⟩) 24 24 = .slice (some ⟨b, 0, none⟩) L.length L.length) := hide (by rw [HL.out])
        go_wp2_with (at_builtin; refine wp_append_grown rfl (.tmp 45) (.tmp 46) rfl w.heap.size b L HLS.out HA4.out HBB.out _ r rfl (HV.out.below HB4.out) ?c1 HB4.out.size ?_)
        case c1 => rw [HL.out]; omega
        intro v5 w5 hm5 hbel5
        have HB5 := hide (below_on HB4.out hbel5)
        have HV5 := hide hm5.bytes
        have HX5 := hide (fun wx h => HX4.out wx (below_on hbel5 h))
        clear hm5 hbel5
        go_wp2_with fail
        refine (G.out _ _ HV5.out (HK.out.on HB5.out)).mono ?_
        rintro e w6 ⟨v6, rfl, hown6, hbel6⟩
        have HB6 := hide (below_on HB5.out hbel6)
        obtain ⟨c0, c1, c2⟩ := HX5.out _ hbel6
        clear hown6 hbel6
        go_wp2
        go_ret
        exact ⟨rfl, HB6.out⟩
      · obtain ⟨e1, e2, e3, e5⟩ := HSM.out (by omega)
        have e6 := e5 r
        rw [e1, e2, e3, str_strL] at H
        clear e1 e2 e3 e5 HSM HBIG
        generalize headL (strL txB) x ck = L at *
        generalize strOfNums (geC (L ++ r)) = gc at *
        generalize geN (L ++ r) = gn at *
        generalize geE (L ++ r) = ge at *
        generalize hdS L = sm at *
        have HE6 := hide e6
        clear e6
        have htx : txB.toList = [116, 120] := by rw [ByteArray.toList_eq]; rfl
        go_wp2_with fail
        refine (H.out _ _ HB24.out).mono ?_
        rintro e w4 ⟨rfl, hbel4⟩
        have hx := box_hdr w4 txB x sm
        have HX4 := hide hx.2
        have HB4 := hide (below_on (below_on HB3.out hbel4) hx.1)
        have HA4 := hide (HA.out.on (below_on hbel4 hx.1))
        clear hx hbel4
        go_upto_region 14 with fail
        generalize w4.alloc (.cells #[.string txB, .int .i64 x, .int .u32 sm] 35) = W4 at *
        generalize w4.heap.size = g4 at *
        have HLS : Hid (Value.slice (some ⟨b, 0, none⟩) 24 24 = .slice (some ⟨b, 0, none⟩) L.length L.length) := hide (by rw [HL.out])
        go_wp2_with (at_builtin; refine wp_append_grown rfl (.tmp 45) (.tmp 46) rfl w.heap.size b L HLS.out HA4.out HBB.out _ r rfl (HV.out.below HB4.out) ?c1 HB4.out.size ?_)
        case c1 => rw [HL.out]; omega
        intro v5 w5 hm5 hbel5
        have HB5 := hide (below_on HB4.out hbel5)
        have HV5 := hide hm5.bytes
        have HX5 := hide (fun wx h => HX4.out wx (below_on hbel5 h))
        clear hm5 hbel5
        go_wp2_with fail
        refine (G.out _ _ HV5.out (HK.out.on HB5.out)).mono ?_
        rintro e w6 ⟨v6, rfl, hown6, hbel6⟩
        have HB6 := hide (below_on HB5.out hbel6)
        obtain ⟨c0, c1, c2⟩ := HX5.out _ hbel6
        clear hown6 hbel6
        by_cases hr : (r.length : Int) < x
        · have e4 : ge = 4 := HE6.out.1 hr
          subst e4
          go_wp2
          go_ret
          exact ⟨rfl, HB6.out⟩
        · have e4 : (ge == 4) = false := beq_eq_false_iff_ne.2 (HE6.out.2 (by omega))
          have hr' : decide ((r.length : Int) < x) = false := decide_eq_false hr
          go_wp2
          go_ret
          exact ⟨rfl, HB6.out⟩

set_option maxRecDepth 100000 in
theorem frameLong_lifted (os : Os) (started : os.Started) (H : Type) (enc : TypeId × Value → H) :
    ReturnsInHanded {} Tryd.checked os 4 .any (fun w args => (Rows.frameLongSpec.pre enc Tryd.prog Tryd.f4 [] false w args ∧ laidMetH Tryd.prog laid3 w) ∧ sizedMet enc Tryd.prog Tryd.f4 (OpenSpec.ofChange Rows.frameLongSpec) false w args)
      (Rows.frameLongSpec.post enc Tryd.prog Tryd.f4 false true false false) := by
  refine returnsInHanded_of_change_and (C := Tryd.checked) (X := fun w _ => laidMetH Tryd.prog laid3 w) (fun _ _ _ hh h => h.of_heap hh) own started (by kernel_rfl) Tryd.func4
    (ChangeSpec.witness_shaped (enc := enc) (C := Tryd.checked) (os := os) (X := fun w _ => laidMetH Tryd.prog laid3 w) false (World.laidAll Tryd.prog os laid3) #[.int .u32 0, .slice none 0 0] 8 (World.laidAll_os _ _ _) (World.shaped_of_ZipB (by kernel_rfl) (by kernel_rfl)) (by kernel_rfl) (by kernel_rfl) (by kernel_rfl) (laid_met os _)) ?_
  intro W base args ds gs before hval0 hW _ _ hL _
  have hval : ∀ (j : Nat) t v, Tryd.f4.params[j]? = some t → args[j]? = some v → Value.okWide Tryd.prog W .any base t v := hval0
  have hW' := hW
  obtain ⟨p, q, hA0, hV, rfl, hfz, hnd⟩ := hW
  have hA : DataW.TrodAll enc Tryd.prog W 0 (fun _ => true) true Tryd.f4.params.toList args.toList ds p := hA0
  rw [Tryd.params4] at hA hval
  obtain ⟨v0, vs0, d0, ds0, p0, q0, hargs, rfl, rfl, h0, r0⟩ := trodAll_cons hA
  obtain ⟨v1, vs1, d1, ds1, p1, q1, rfl, rfl, rfl, h1, r1⟩ := trodAll_cons r0
  obtain ⟨rfl, rfl, rfl⟩ := trodAll_nil r1
  obtain rfl : args = #[v0, v1] := by cases args; simp_all
  obtain ⟨rfl, rfl⟩ := trodVars_none hV
  obtain ⟨a0, rfl, rfl, rfl, w0⟩ := open_int Tryd.underlying32 (hval 0 32 v0 rfl rfl) h0
  obtain ⟨b1, len1, cap1, rfl⟩ := okWide_slice Tryd.underlying22 (hval 1 22 v1 rfl rfl)
  have k1 := h1
  have lt1 : ∀ x ∈ p1, x.block < W.heap.size := by obtain ⟨m, hm⟩ := k1; exact DataW.trod_lt m _ _ _ hm
  obtain ⟨l1, s1, w1⟩ : ∃ l, Bytes W (.slice b1 len1 cap1) l ∧ ∀ z ∈ l, Byte z := by
    obtain ⟨fuel, hf⟩ := h1
    rcases open_ints Tryd.underlying22 Tryd.underlying5 (by kernel_rfl) hf with ⟨hcs, _⟩ | ⟨x, l, c, zs, hcs, _, hl, hm, hz, _, hcell, hwz⟩
    · simp [Value.cells] at hcs
      obtain ⟨rfl, rfl, rfl⟩ := hcs
      exact ⟨[], Bytes.nil _, by simp⟩
    · simp [Value.cells] at hcs
      obtain ⟨rfl, rfl, rfl⟩ := hcs
      exact bytes_row hl hm (by simpa using hz) hcell hwz
  clear hA0 hval0
  refine (frameLong_walk (w := W) (ks_of_laid hL) a0 (u32_of_wf w0) _ l1 w1 s1).mono fun e W' ⟨he, bel⟩ => ?_
  subst he
  exact ⟨_, rfl, _, _, _, [], _, [], hW', trodAll_mk1 (shut_bool Tryd.underlying4 _), (trodAll_cons_mk (shut_int Tryd.underlying32 w0) (trodAll_cons_mk (Below.trod laidOut (by kernel_rfl) (of_decide_eq_true (by kernel_rfl)) k1 bel lt1) trodAll_mk0)), rfl, bel.frame _, fun h => by cases h⟩

theorem frameLong_holds : Rows.FrameLongSaid :=
  OpenClaim.holds_of_wide 4 Tryd.f4 rfl rfl rfl rfl rfl rfl rfl ⟨rfl, rfl, rfl, rfl, rfl⟩ rfl rfl rfl rfl rfl (by kernel_rfl) Tryd.func4 (by kernel_rfl)
    (of_decide_eq_true (by kernel_rfl)) (by unfold Func.isWrapper; first | (rw [if_pos (by decide +kernel)]; kernel_rfl) | (rw [if_neg (by decide +kernel)]; exact ⟨rfl, rfl⟩))
    (fun os started H enc _ => frameLong_lifted os started H enc)
#print axioms frameLong_holds
theorem frameLong_card : Rows.FrameLongCardSaid :=
  Claim7.holds_tied_plain_at .later [] [.data, .data, .pinned] true (true, "3f758ebdcbe3ce3d18b17f7fbddeee6375379576326756be94e2623fb14cde6f") false
    frameLong_holds (fun _ h => by cases h) (by kernel_rfl) (fun _ h => by cases h) frameLong_row_tie rfl ⟨rfl, rfl⟩ (by kernel_rfl) rfl
    (fun f fn hf hfn => by
      obtain rfl : f = 4 := Option.some.inj ((show Tryd.prog.funcNamed "pappus/pappuslaw05.FrameLong" = some 4 by kernel_rfl).symm.trans hf) |>.symm
      obtain rfl : fn = Tryd.f4 := (Option.some.inj (Tryd.func4.symm.trans hfn)).symm
      exact ⟨by kernel_rfl, fun j t ht => by
        rw [Tryd.params4] at ht
        have hm : t ∈ [32, 22] := by simpa using Array.mem_of_getElem? ht
        have hall : ([32, 22].all fun u => !Tryd.prog.wantsStandIn u) = true := by kernel_rfl
        exact (show Tryd.prog.wantsStandIn t = false by simpa using List.all_eq_true.1 hall t hm)⟩)
    (by kernel_rfl)
#print axioms frameLong_card
end Go.Proofs.YtbhninaaeeoamabDoor
