/-
  What mac.Route answers at this program.
-/
import Derived.Test.YtknijlajopmjaaaDoorMacSum
import Derived.Test.YtknijlajopmjaaaDoorMacPick
namespace Go.Proofs.YtknijlajopmjaaaDoor
open Go.RowKit

theorem digest_byte (m : List Int) : ∀ z ∈ digest m, Byte z := by
  intro z hz
  obtain ⟨x, -, hx⟩ := List.mem_flatMap.1 hz
  simp only [outI, List.mem_cons, List.not_mem_nil, or_false] at hx
  unfold Byte
  rcases hx with rfl | rfl | rfl | rfl <;> omega
/-- What Route answers. -/
def routeB (s n : Int) : Prop := s < 0 ∨ 64 < s ∨ n < 1
instance (s n : Int) : Decidable (routeB s n) := by unfold routeB; exact inferInstance
def routeX (salt : List Int) (ep s n : Int) : Int := if routeB s n then 0 else pickX (macI salt (put 8 ep ++ put 2 s)) n
def routeE (s n : Int) : Int := if routeB s n then 2 else 0

set_option maxRecDepth 100000 in
set_option maxHeartbeats 1000000 in
theorem route_any (salt : List Int) (ep s n : Int) (w : World) (hl : salt.length = 32) (hep : Word ep) (hs : -9223372036854775808 ≤ s ∧ s ≤ 9223372036854775807) (hn : -9223372036854775808 ≤ n ∧ n ≤ 9223372036854775807) (hk : Ks w) :
    Calls Tryd.prog 14 #[.agg (vals .u8 salt).toArray, .int .u64 ep, .int .i64 s, .int .i64 n] w fun e w' => e = .returned (.tuple #[.int .i64 (routeX salt ep s n), .int .i64 (routeE s n)]) ∧ Below w.heap.size w w' := by
  have hB0 := (Below.refl w.heap.size w).alloc (Nat.le_refl _) (.cells (vals .u8 salt).toArray 27)
  have HB0 := hide hB0
  unfold routeX routeE
  by_cases hbad : routeB s n
  · rw [if_pos hbad, if_pos hbad]
    clear hl hep hk hB0
    by_cases h1 : s < 0
    · clear hbad
      go_enter Tryd.func14, Tryd.ntmps14
      go_wp2
      go_ret2
      exact ⟨rfl, HB0.out⟩
    · have h1' : 0 ≤ s := by omega
      by_cases h2 : 64 < s
      · clear hbad h1
        go_enter Tryd.func14, Tryd.ntmps14
        go_wp2
        go_ret2
        exact ⟨rfl, HB0.out⟩
      · have h2' : s ≤ 64 := by omega
        have h3 : n < 1 := by
          rcases hbad with h | h | h
          · omega
          · omega
          · exact h
        clear hbad h1 h2
        go_enter Tryd.func14, Tryd.ntmps14
        go_wp2
        go_ret2
        exact ⟨rfl, HB0.out⟩
  · rw [if_neg hbad, if_neg hbad]
    have h1' : 0 ≤ s := by unfold routeB at hbad; omega
    have h2' : s ≤ 64 := by unfold routeB at hbad; omega
    have h3' : 1 ≤ n := by unfold routeB at hbad; omega
    have p8 : putL ep 8 = put 8 ep := by
      have : ep < 256 ^ (Int.toNat 8) := by have := hep.2; rw [show (256 : Int) ^ (Int.toNat 8) = 18446744073709551616 by decide]; exact this
      rw [putL, if_pos ⟨rfl, this⟩]
      rfl
    have p2 : putL s 2 = put 2 s := by
      have : s < 256 ^ (Int.toNat 2) := by rw [show (256 : Int) ^ (Int.toNat 2) = 65536 by decide]; omega
      rw [putL, if_pos ⟨rfl, this⟩]
      rfl
    have U8 := hide (fun wx => put_any ep 8 wx hep)
    have U2 := hide (fun wx => put_any s 2 wx ⟨by omega, by omega⟩)
    rw [p8] at U8
    rw [p2] at U2
    have HA0 := hide ((Arr.new w .u8 salt 27).bytes32 hl)
    have HK0 := hide (hk.on hB0)
    have MS := hide (fun wx p q (h0 : Bytes wx (.slice (some ⟨w.heap.size, 0, none⟩) 32 32) salt) (h1 : Bytes wx p (put 8 ep)) (h2 : Bytes wx q (put 2 s)) (j : Ks wx) =>
      mac_flat _ _ salt _ [put 8 ep, put 2 s] (put 8 ep ++ put 2 s) (h0.alloc (.cells #[p, q] 22)) (by simp) (Parts.two wx p q _ _ h1 h2) (j.alloc _) (by rw [List.length_append, put_length, put_length]; omega) (by omega))
    have PK := hide (fun wx => pick_any (macI salt (put 8 ep ++ put 2 s)) n wx (digest_length _) (digest_byte _) hn)
    rw [show pickE n = 0 by rw [pickE, if_neg (by omega)]] at PK
    have l8 := put_length 8 ep
    have l2 := put_length 2 s
    clear hbad hk hB0 hl hep p8 p2
    generalize pickX (macI salt (put 8 ep ++ put 2 s)) n = X at *
    generalize macI salt (put 8 ep ++ put 2 s) = MM at *
    obtain ⟨B8, hB8⟩ : ∃ B, B = put 8 ep := ⟨_, rfl⟩
    obtain ⟨B2, hB2⟩ : ∃ B, B = put 2 s := ⟨_, rfl⟩
    rw [← hB8] at l8 U8 MS
    rw [← hB2] at l2 U2 MS
    clear hB8 hB2
    have hw : IntKind.u64.wrap s = s := by simp [IntKind.wrap, IntKind.bits, IntKind.signed]; omega
    go_enter Tryd.func14, Tryd.ntmps14
    go_wp2_with fail
    refine (U8.out _).mono ?_
    rintro e w1 ⟨v1, rfl, ho1, hbel1⟩
    have HB1 := hide (below_on HB0.out hbel1)
    have HA1 := hide (HA0.out.below hbel1)
    have HV1 := hide ho1.bytes
    have HK1 := hide (HK0.out.on hbel1)
    have hf1 := ho1.bytes.form
    rw [l8] at hf1
    obtain ⟨a1, cap1, rfl, -, -⟩ := hf1
    clear hbel1 ho1 HB0 HA0 U8
    generalize putE ep 8 = E1 at *
    go_wp2_with fail
    refine (U2.out _).mono ?_
    rintro e w2 ⟨v2, rfl, ho2, hbel2⟩
    have HB2 := hide (below_on HB1.out hbel2)
    have HA2 := hide (HA1.out.below hbel2)
    have HV2 := hide (HV1.out.below hbel2)
    have HU2 := hide ho2.bytes
    have HK2 := hide (HK1.out.on hbel2)
    have hf2 := ho2.bytes.form
    rw [l2] at hf2
    obtain ⟨a2, cap2, rfl, -, -⟩ := hf2
    clear hbel2 ho2 HB1 HA1 HV1 HK1 U2
    generalize putE s 2 = E2 at *
    go_wp2_with fail
    refine (MS.out w2 _ _ HA2.out HV2.out HU2.out HK2.out).mono ?_
    rintro e w3 ⟨rfl, hbel3⟩
    have HB3 := hide (below_on HB2.out (box1 hbel3))
    clear hbel3 MS
    go_wp2_with fail
    refine (PK.out w3).mono ?_
    rintro e w4 ⟨rfl, hbel4⟩
    have HB4 := hide (below_on HB3.out hbel4)
    clear hbel4
    go_wp2
    go_ret2
    exact ⟨rfl, HB4.out⟩

end Go.Proofs.YtknijlajopmjaaaDoor
