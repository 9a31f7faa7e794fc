/-
  Proved: for every slice of slices of bytes and every byte the law OctetUnpacks answers true, and its arguments read as they did. No condition.
-/
import Derived.Test.YtkdlpnhpokcbiabOctLaw
import Derived.Test.YtkdlpnhpokcbiabUnpack
import Derived.Test.YtkdlpnhpokcbiabHeavy
namespace Go.Proofs.Ytkdlpnhpokcbiab
open Go.ChangeShapes Go.WideShapes Go.ChangeAt Go.RowKit

theorem flat_byte : ∀ (L : List (List Int)), (∀ p ∈ L, ∀ z ∈ p, Byte z) → ∀ z ∈ flat L, Byte z
  | [], _ => by simp [flat]
  | p :: L, h => by
    intro z hz
    simp only [flat, List.mem_append] at hz
    rcases hz with (hz | hz) | hz
    · exact var_byte _ (by omega) z hz
    · exact h p (by simp) z hz
    · exact flat_byte L (fun q hq => h q (by simp [hq])) z hz
theorem pack_byte (L : List (List Int)) (h : ∀ p ∈ L, ∀ z ∈ p, Byte z) : ∀ z ∈ pack L, Byte z := by
  intro z hz
  simp only [pack, List.mem_append] at hz
  rcases hz with hz | hz
  · exact var_byte _ (by omega) z hz
  · exact flat_byte L h z hz
theorem part_le_total : ∀ (L : List (List Int)), ∀ p ∈ L, p.length ≤ total L
  | [], p, h => by simp at h
  | q :: L, p, h => by
    simp only [List.mem_cons] at h
    simp only [total]
    rcases h with rfl | h
    · omega
    · have := part_le_total L p h
      omega
theorem pack_pos (L : List (List Int)) : 1 ≤ (pack L).length := by
  have := var_pos (L.length : Int)
  unfold pack
  rw [List.length_append]
  omega

/-- What the calls of the law come to, where the parts are few and short. -/
def Facts (L : List (List Int)) (more : Int) (b : List Int) : Prop :=
  (b.length ≤ 110000) ∧
  (1 ≤ b.length) ∧
  (∀ w v, Parts w v L → Calls Try.prog 7 #[v] w fun e w' => ∃ v', e = .returned v' ∧ Own w' w.heap.size v' b ∧ Below w.heap.size w w') ∧
  (∀ v w, Bytes w v b → Calls Try.prog 8 #[v, .int .i64 (L.length : Int)] w fun e w' => ∃ v', e = .returned (.tuple #[v', .int .i64 0]) ∧ Parts w' v' L ∧ Below w.heap.size w w') ∧
  (∀ v w, Bytes w v (b ++ [more]) → Calls Try.prog 8 #[v, .int .i64 (L.length : Int)] w fun e w' => ∃ v', e = .returned (.tuple #[v', .int .i64 5]) ∧ Below w.heap.size w w') ∧
  (∀ v w, Bytes w v (b.take (b.length - 1)) → Calls Try.prog 8 #[v, .int .i64 (L.length : Int)] w fun e w' => ∃ v', e = .returned (.tuple #[v', .int .i64 4]) ∧ Below w.heap.size w w') ∧
  (∀ v w, Bytes w v b → Calls Try.prog 8 #[v, .int .i64 ((L.length : Int) - 1)] w fun e w' => ∃ v', e = .returned (.tuple #[v', .int .i64 5]) ∧ Below w.heap.size w w')
theorem unpack_word {l : List Int} {most z : Int} {v : Value} {w : World} (hz : unpackE l most = z) (h : Calls Try.prog 8 #[v, .int .i64 most] w fun e w' => UnpackDone w l most e w') :
    Calls Try.prog 8 #[v, .int .i64 most] w fun e w' => ∃ v', e = .returned (.tuple #[v', .int .i64 z]) ∧ Below w.heap.size w w' := by
  refine h.mono ?_
  rintro e w' ⟨v', rfl, _, hb⟩
  exact ⟨v', by rw [hz], hb⟩
theorem facts (L : List (List Int)) (more : Int) (hl : ∀ p ∈ L, ∀ z ∈ p, Byte z) (hmore : Byte more) (h1 : L.length ≤ 1000) (h2 : total L ≤ 100000) : Facts L more (pack L) := by
  have hp1 : ∀ p ∈ L, p.length ≤ 1000000 := fun p hp => by have := part_le_total L p hp; omega
  have hpl := pack_le L h1 h2
  have hpb := pack_byte L hl
  obtain ⟨q1, q2⟩ := unpack_packed L L.length h1 hp1 (by omega) []
  rw [List.append_nil] at q1 q2
  have q2 := q2 rfl
  rw [if_pos rfl] at q1
  have q3 := (unpack_packed L L.length h1 hp1 (by omega) [more]).1
  rw [if_neg (by simp)] at q3
  have q4 := unpack_cut L L.length h1 hp1 (by omega)
  have q5 := unpack_few L ((L.length : Int) - 1) h1 (by omega)
  refine ⟨hpl, pack_pos L, fun w v h => pack_any L v w h (by omega), fun v w h => ?_, fun v w h => unpack_word q3 (unpack_any (pack L ++ [more]) v (L.length : Int) w h (fun z hz => ?_) (by simp; omega) ⟨by omega, by omega⟩),
    fun v w h => unpack_word q4 (unpack_any _ v (L.length : Int) w h (fun z hz => hpb z (List.mem_of_mem_take hz)) (by simp; omega) ⟨by omega, by omega⟩), fun v w h => unpack_word q5 (unpack_any (pack L) v ((L.length : Int) - 1) w h hpb (by omega) ⟨by omega, by omega⟩)⟩
  · have h' := unpack_any (pack L) v (L.length : Int) w h hpb (by omega) ⟨by omega, by omega⟩
    unfold UnpackDone at h'
    rw [q1, q2] at h'
    exact h'
  · rcases List.mem_append.1 hz with h | h
    · exact hpb z h
    · simp at h; subst h; exact hmore

set_option maxHeartbeats 1000000 in
theorem unpacks_law {w : World} (v : Value) (L : List (List Int)) (hl : ∀ p ∈ L, ∀ z ∈ p, Byte z) (hv : Parts w v L) (more : Int) (hmore : Byte more) :
    Calls Try.prog 3 #[v, .int .u8 more] w fun e w' => e = .returned (.bool true) ∧ Below w.heap.size w w' := by
  have HV := hide hv
  obtain ⟨a, cap, rfl, _, hmax⟩ := hv.form
  have HF := hide (fun h1 h2 => facts L more hl hmore h1 h2)
  have hmod : more % 256 = more := by have := hmore.1; have := hmore.2; omega
  clear hl hv hmore
  go_enter Try.func3, Try.ntmps3
  go_wp2_with fail
  refine (alive_any _).mono ?_
  rintro e w1 ⟨rfl, hbel⟩
  have HB1 := hide hbel
  have HV1 := hide (HV.out.below hbel)
  clear hbel
  go_wp2_with fail
  refine (heavy_any L _ _ HV1.out).mono ?_
  rintro e w' ⟨rfl, rfl | ⟨rfl, h1, h2⟩⟩
  · go_wp2
    go_ret
    exact ⟨rfl, HB1.out⟩
  have F := hide (HF.out h1 h2)
  clear HF h2
  generalize pack L = b at *
  have hpl := F.out.1
  have hpp := F.out.2.1
  go_wp2_with fail
  refine (F.out.2.2.1 _ _ HV1.out).mono ?_
  rintro e w2 ⟨bv, rfl, hown, hbel⟩
  obtain ⟨g, off, c2, rfl, hc2, hm2, _⟩ := hown.bytes.lies (by omega)
  have HK2 := hide hown.bytes
  have HV2 := hide (HV1.out.below hbel)
  have HB2 := hide (below_on HB1.out hbel)
  clear hown hbel
  go_wp2_with fail
  refine (F.out.2.2.2.1 _ _ HK2.out).mono ?_
  rintro e w3 ⟨gv, rfl, hparts, hbel⟩
  have HG3 := hide hparts
  have HK3 := hide (HK2.out.below hbel)
  have HV3 := hide (HV2.out.below hbel)
  have HB3 := hide (below_on HB2.out hbel)
  clear hparts hbel
  go_wp2_with (at_builtin; refine wp_append rfl (.tmp 28) (.tmp 29) rfl w3.heap.size _ [] rfl (Own.made _ _ (Nat.le_refl _)) _ b rfl (HK3.out.alloc _) ?c1 ?c2 ?_)
  case c1 => first | omega | (simp; omega)
  case c2 => simp
  intro v4 w4 hown4 hbel4
  have HO4 := hide hown4
  have HD4 : Hid (Below w3.heap.size w3 w4) := ((Below.refl _ _).alloc (Nat.le_refl _) _).trans hbel4
  clear hown4 hbel4
  go_wp2_with (at_builtin; refine wp_append rfl (.tmp 30) (.tmp 32) rfl w3.heap.size _ _ rfl (HO4.out.alloc _) _ [more] rfl (Bytes.one _ _) ?c3 ?c4 ?_)
  case c3 => first | omega | (simp; omega)
  case c4 => have := HD4.out.size; simp; omega
  intro v5 w5 hown5 hbel5
  have HO5 := hide hown5.bytes
  have HD5 : Hid (Below w3.heap.size w3 w5) := (HD4.out.alloc HD4.out.size _).trans hbel5
  clear hown5 hbel5
  go_wp2_with fail
  refine (F.out.2.2.2.2.1 _ _ HO5.out).mono ?_
  rintro e w6 ⟨gv', rfl, hbel⟩
  have HD6 := hide (below_on HD5.out hbel)
  have HK6 := hide (HK3.out.below HD6.out)
  have HG6 := hide (HG3.out.below HD6.out)
  have HV6 := hide (HV3.out.below HD6.out)
  have HB6 := hide (below_on HB3.out HD6.out)
  clear hbel
  go_wp2_with fail
  refine (sameAll_self L _ _ _ HG6.out HV6.out).mono ?_
  rintro e w7 ⟨rfl, hbel⟩
  have HK7 := hide (HK6.out.below hbel)
  have HB7 := hide (below_on HB6.out hbel)
  clear hbel
  have hbn : (((b.length : Nat) : Int) == 0) = false := by rw [beq_eq_false_iff_ne]; omega
  have hcz : ¬ c2 = 0 := by omega
  have hk1 : ((b.length : Int) - 1) = ((b.length - 1 : Nat) : Int) := by omega
  have hk2 : ((b.length - 1 : Nat) : Int) ≤ (c2 : Int) := by omega
  have HT := hide (HK7.out.take (b.length - 1) (by omega))
  go_wp2_with fail
  refine (F.out.2.2.2.2.2.1 _ _ HT.out).mono ?_
  rintro e w8 ⟨gv'', rfl, hbel⟩
  have HK8 := hide (HK7.out.below hbel)
  have HB8 := hide (below_on HB7.out hbel)
  clear hbel
  go_wp2_with fail
  refine (F.out.2.2.2.2.2.2 _ _ HK8.out).mono ?_
  rintro e w9 ⟨gv3, rfl, hbel⟩
  have HB9 := hide (below_on HB8.out hbel)
  clear hbel
  go_wp2
  go_ret
  exact ⟨rfl, HB9.out⟩

set_option maxRecDepth 100000 in
theorem octetUnpacks_lifted (os : Os) (started : os.Started) (H : Type) (enc : TypeId × Value → H) :
    ReturnsInHanded {} Try.checked os 3 .any (Rows.octetUnpacksSpec.pre6 enc Try.prog Try.f3 Rows.octetUnpacksRow.domain false) (Rows.octetUnpacksSpec.post enc Try.prog Try.f3 false true false false) := by
  refine returnsInHanded_of_change (C := Try.checked) own started (by kernel_rfl) Try.func3
    (ChangeSpec.witness6 (enc := enc) (C := Try.checked) false ⟨#[], #[.slice none 0 0, .int .u8 0], []⟩ 8 (by kernel_rfl) (by kernel_rfl) (by kernel_rfl) (by kernel_rfl)) ?_
  intro W base args ds gs before hval0 hW hcnd _
  have hval : ∀ (j : Nat) t v, Try.f3.params[j]? = some t → args[j]? = some v → Value.okWide Try.prog W .any base t v := hval0
  have hW' := hW
  obtain ⟨p, q, hA0, hV, rfl, hfz, hnd⟩ := hW
  have hA : DataW.TrodAll enc Try.prog W 0 (fun _ => true) true Try.f3.params.toList args.toList ds p := hA0
  rw [Try.params3] at hA hval
  obtain ⟨v0, vs0, d0, ds0, p0, q0, hargs, rfl, rfl, h0, r0⟩ := trodAll_cons hA
  obtain ⟨v1, vs1, d1, ds1, p1, q1, rfl, rfl, rfl, h1, r1⟩ := trodAll_cons r0
  obtain ⟨rfl, rfl, rfl⟩ := trodAll_nil r1
  obtain rfl : args = #[v0, v1] := by cases args; simp_all
  obtain ⟨rfl, rfl⟩ := trodVars_none hV
  obtain ⟨b0, len0, cap0, rfl⟩ := okWide_slice Try.underlying22 (hval 0 22 v0 rfl rfl)
  have k0 := h0
  have lt0 : ∀ x ∈ p0, x.block < W.heap.size := by obtain ⟨m, hm⟩ := k0; exact DataW.trod_lt m _ _ _ hm
  obtain ⟨l0, s0, w0⟩ : ∃ l, Parts W (.slice b0 len0 cap0) l ∧ ∀ p ∈ l, ∀ z ∈ p, Byte z := by
    obtain ⟨fuel, hf⟩ := h0
    rcases Go.Deep.open_int_rows Try.underlying22 Try.underlying25 Try.underlying5 (by kernel_rfl) (by kernel_rfl) hf with ⟨hcs, _⟩ | ⟨a, len, cap, A, L, C, Z, hcs, _, hl, hm, _, hrows⟩
    · simp [Value.cells] at hcs
      obtain ⟨rfl, rfl, rfl⟩ := hcs
      exact ⟨[], Parts.none _, by simp⟩
    · simp [Value.cells] at hcs
      obtain ⟨rfl, rfl, rfl⟩ := hcs
      exact parts_row hl hm hrows
  obtain ⟨a1, rfl, rfl, rfl, w1⟩ := open_int Try.underlying5 (hval 1 5 v1 rfl rfl) h1
  clear hA0 hval0
  refine (unpacks_law (w := W) _ l0 w0 s0 a1 (byte_of_wf w1)).mono fun e W' ⟨he, bel⟩ => ?_
  subst he
  exact ⟨_, rfl, _, _, _, [], _, [], hW', trodAll_mk1 (shut_bool Try.underlying4 _), (trodAll_cons_mk (Below.trod laidOut (by kernel_rfl) (of_decide_eq_true (by kernel_rfl)) k0 bel lt0) (trodAll_cons_mk (shut_int Try.underlying5 w1) trodAll_mk0)), rfl, bel.frame _, fun h => by cases h⟩

theorem octetUnpacks_holds : Rows.OctetUnpacksSaid :=
  OpenClaim.holds_of_wide 3 Try.f3 rfl rfl rfl rfl rfl rfl rfl ⟨rfl, rfl, rfl, rfl, rfl⟩ rfl rfl rfl rfl rfl (by kernel_rfl) Try.func3 (by kernel_rfl)
    (of_decide_eq_true (by kernel_rfl)) (by unfold Func.isWrapper; first | (rw [if_pos (by decide +kernel)]; kernel_rfl) | (rw [if_neg (by decide +kernel)]; exact ⟨rfl, rfl⟩))
    (fun os started H enc _ => octetUnpacks_lifted os started H enc)
#print axioms octetUnpacks_holds
end Go.Proofs.Ytkdlpnhpokcbiab
