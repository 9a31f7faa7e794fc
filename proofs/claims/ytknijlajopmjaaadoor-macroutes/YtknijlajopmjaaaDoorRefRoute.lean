/-
  What pappusref04.Pick and Route answer at this program: the very same as the program's own.
-/
import Derived.Test.YtknijlajopmjaaaDoorRefMac
import Derived.Test.YtknijlajopmjaaaDoorRefOct
import Derived.Test.YtknijlajopmjaaaDoorMacRoute
namespace Go.Proofs.YtknijlajopmjaaaDoor
open Go.RowKit

/-- A row of the call's own stays while old memory does. -/
theorem Own.on {w w' : World} {base : Nat} {v : Value} {l : List Int} (h : Own w base v l) (hb : Below w.heap.size w w') : Own w' base v l := by
  refine ⟨h.1, ?_⟩
  rcases h.2 with h0 | ⟨g, cap, cur, e, hbg, hg, rest⟩
  · exact .inl h0
  · exact .inr ⟨g, cap, cur, e, hbg, (hb.block g (Array.getElem?_eq_some_iff.1 hg).1).trans hg, rest⟩
/-- Bytes that lie below. -/
theorem Bytes.lows {w w' : World} {g B n cap : Nat} {l : List Int} (h : Bytes w (.slice (some ⟨g, 0, none⟩) n cap) l) (hb : Below B w w') (hg : g < B) : Bytes w' (.slice (some ⟨g, 0, none⟩) n cap) l := by
  obtain ⟨a, c, h1, h2, h3, h4, h5⟩ := h
  refine ⟨a, c, h1, h2, h3, h4, fun hl => ?_⟩
  obtain ⟨b, off, e, hc⟩ := h5 hl
  cases h1
  cases e
  exact ⟨_, _, rfl, fun i hi => (hb.cell (p := ⟨_, _, none⟩) hg).trans (hc i hi)⟩

set_option maxRecDepth 100000 in
theorem rpick_any (h : List Int) (n : Int) (w : World) (hl : h.length = 32) (hb : ∀ z ∈ h, Byte z) (hn : -9223372036854775808 ≤ n ∧ n ≤ 9223372036854775807) :
    Calls Tryd.prog 17 #[.agg (vals .u8 h).toArray, .int .i64 n] w fun e w' => e = .returned (.tuple #[.int .i64 (pickX h n), .int .i64 (pickE n)]) ∧ Below w.heap.size w w' := by
  have hbel := (Below.refl w.heap.size w).alloc (Nat.le_refl _) (.cells (vals .u8 h).toArray 27)
  unfold pickX pickE
  by_cases h1 : n < 1
  · rw [if_pos h1, if_pos h1]
    have HB := hide hbel
    clear hbel hb hl
    go_enter Tryd.func17, Tryd.ntmps17
    go_wp2
    go_ret2
    exact ⟨rfl, HB.out⟩
  · rw [if_neg h1, if_neg h1]
    have h1' : 1 ≤ n := by omega
    have h8 : (h.take 8).length = 8 := by simp; omega
    have hb8 : ∀ z ∈ h.take 8, Byte z := fun z hz => hb z (List.mem_of_mem_take hz)
    have G := rget_any (h.take 8) _ _ (((Arr.new w .u8 h 27).bytes32 hl).take 8 (by omega)) hb8
    rw [show getX (h.take 8) = num (h.take 8) by rw [getX, h8]; rfl, show getE (h.take 8) = 0 by rw [getE, h8]; rfl] at G
    obtain ⟨x0, x1⟩ := num_word (h.take 8) hb8 (by omega)
    have G := hide G
    have HB := hide hbel
    have hm0 := Int.emod_nonneg (num (h.take 8)) (show n ≠ 0 by omega)
    have hm1 := Int.emod_lt_of_pos (num (h.take 8)) (show 0 < n by omega)
    clear hbel hb hl h8 hb8 h1
    generalize num (h.take 8) = X at *
    have hw : IntKind.u64.wrap n = n := by simp [IntKind.wrap, IntKind.bits, IntKind.signed]; omega
    have hn0 : (n == 0) = false := by simp; omega
    go_enter Tryd.func17, Tryd.ntmps17
    go_wp2_with fail
    refine G.out.mono ?_
    rintro e w' ⟨rfl, rfl⟩
    go_wp2
    go_ret2
    exact ⟨rfl, HB.out⟩

set_option maxRecDepth 100000 in
set_option maxHeartbeats 1000000 in
theorem rroute_any (salt : List Int) (ep s n : Int) (w : World) (hl : salt.length = 32) (hep : Word ep) (hs : -9223372036854775808 ≤ s ∧ s ≤ 9223372036854775807) (hn : -9223372036854775808 ≤ n ∧ n ≤ 9223372036854775807) :
    Calls Tryd.prog 15 #[.agg (vals .u8 salt).toArray, .int .u64 ep, .int .i64 s, .int .i64 n] w fun e w' => e = .returned (.tuple #[.int .i64 (routeX salt ep s n), .int .i64 (routeE s n)]) ∧ Below w.heap.size w w' := by
  have hB0 := (Below.refl w.heap.size w).alloc (Nat.le_refl _) (.cells (vals .u8 salt).toArray 27)
  have HB0 := hide hB0
  unfold routeX routeE
  by_cases hbad : routeB s n
  · rw [if_pos hbad, if_pos hbad]
    clear hl hep hB0
    by_cases h1 : s < 0
    · clear hbad
      go_enter Tryd.func15, Tryd.ntmps15
      go_wp2
      go_ret2
      exact ⟨rfl, HB0.out⟩
    · have h1' : 0 ≤ s := by omega
      by_cases h2 : 64 < s
      · clear hbad h1
        go_enter Tryd.func15, Tryd.ntmps15
        go_wp2
        go_ret2
        exact ⟨rfl, HB0.out⟩
      · have h2' : s ≤ 64 := by omega
        have h3 : n < 1 := by
          rcases hbad with h | h | h
          · omega
          · omega
          · exact h
        clear hbad h1 h2
        go_enter Tryd.func15, Tryd.ntmps15
        go_wp2
        go_ret2
        exact ⟨rfl, HB0.out⟩
  · rw [if_neg hbad, if_neg hbad]
    have h1' : 0 ≤ s := by unfold routeB at hbad; omega
    have h2' : s ≤ 64 := by unfold routeB at hbad; omega
    have h3' : 1 ≤ n := by unfold routeB at hbad; omega
    have p8 : putL ep 8 = put 8 ep := by
      have : ep < 256 ^ (Int.toNat 8) := by have := hep.2; rw [show (256 : Int) ^ (Int.toNat 8) = 18446744073709551616 by decide]; exact this
      rw [putL, if_pos ⟨rfl, this⟩]
      rfl
    have p2 : putL s 2 = put 2 s := by
      have : s < 256 ^ (Int.toNat 2) := by rw [show (256 : Int) ^ (Int.toNat 2) = 65536 by decide]; omega
      rw [putL, if_pos ⟨rfl, this⟩]
      rfl
    have U8 := hide (fun wx => rput_any ep 8 wx hep)
    have U2 := hide (fun wx => rput_any s 2 wx ⟨by omega, by omega⟩)
    rw [p8] at U8
    rw [p2] at U2
    have HA0 := hide ((Arr.new w .u8 salt 27).bytes32 hl)
    have MS := hide (fun wx p (h0 : Bytes wx (.slice (some ⟨w.heap.size, 0, none⟩) 32 32) salt) (h1 : Bytes wx p (put 8 ep ++ put 2 s)) => rmac_any wx _ salt p (put 8 ep ++ put 2 s) h0 h1 (by omega) (by rw [List.length_append, put_length, put_length]; omega))
    have PK := hide (fun wx => rpick_any (macI salt (put 8 ep ++ put 2 s)) n wx (digest_length _) (digest_byte _) hn)
    rw [show pickE n = 0 by rw [pickE, if_neg (by omega)]] at PK
    have l8 := put_length 8 ep
    have l2 := put_length 2 s
    clear hbad hB0 hl hep p8 p2
    generalize pickX (macI salt (put 8 ep ++ put 2 s)) n = X at *
    generalize macI salt (put 8 ep ++ put 2 s) = MM at *
    obtain ⟨B8, hB8⟩ : ∃ B, B = put 8 ep := ⟨_, rfl⟩
    obtain ⟨B2, hB2⟩ : ∃ B, B = put 2 s := ⟨_, rfl⟩
    rw [← hB8] at l8 U8 MS
    rw [← hB2] at l2 U2 MS
    clear hB8 hB2
    have hw : IntKind.u64.wrap s = s := by simp [IntKind.wrap, IntKind.bits, IntKind.signed]; omega
    go_enter Tryd.func15, Tryd.ntmps15
    go_wp2_with fail
    refine (U8.out _).mono ?_
    rintro e w1 ⟨v1, rfl, ho1, hbel1⟩
    have HB1 := hide (below_on HB0.out hbel1)
    have HA1 := hide (HA0.out.below hbel1)
    have HO1 := hide ho1
    have hf1 := ho1.bytes.form
    rw [l8] at hf1
    obtain ⟨a1, cap1, rfl, -, -⟩ := hf1
    have HS0 := hide hbel1.size
    have HGB0 : Hid (w.heap.size < (w.alloc (.cells (vals .u8 salt).toArray 27)).heap.size) := hide (by rw [alloc_size]; omega)
    clear hbel1 ho1 HA0 U8
    generalize putE ep 8 = E1 at *
    go_wp2_with fail
    refine (U2.out _).mono ?_
    rintro e w2 ⟨v2, rfl, ho2, hbel2⟩
    have hb12 := hbel2
    have HB2 := hide (below_on HB1.out hbel2)
    have HA2 := hide (HA1.out.below hbel2)
    have HO2 := hide (HO1.out.on hbel2)
    have HU2 := hide ho2.bytes
    have HS2 := hide (Nat.le_trans HS0.out hbel2.size)
    have hf2 := ho2.bytes.form
    rw [l2] at hf2
    obtain ⟨a2, cap2, rfl, -, -⟩ := hf2
    have HLL : Hid (B8.length + B2.length ≤ 1000000) := hide (by rw [l8, l2]; omega)
    have HP2 : Hid (0 < B2.length) := hide (by rw [l2]; omega)
    have HGW : Hid (w.heap.size ≤ (w.alloc (.cells (vals .u8 salt).toArray 27)).heap.size) := hide (by rw [alloc_size]; omega)
    clear hbel2 ho2 HB1 HA1 HO1 U2 hb12 HS0 HB0
    generalize putE s 2 = E2 at *
    generalize (w.alloc (.cells (vals .u8 salt).toArray 27)).heap.size = base at *
    have HGB : Hid (w.heap.size < base) := hide (by have := HGB0.out; omega)
    go_wp2_with fail
    go_region_held3 (fun wx => Below w.heap.size w wx)
      (with_reducible (first | exact hb5 | exact hb4 | exact hb3 | exact HB2.out | exact HB2.out.drew | fail))
      (first
        | (refine step_append rfl (.tmp 36) (.tmp 37) rfl base _ B8 rfl HO2.out.drew _ B2 rfl HU2.out.drew HP2.out HLL.out HS2.out ?_; intro v3 w3 ho3 hbel3; have hb3 : Below w.heap.size w w3 := HB2.out.drew.trans (hbel3.mono HGW.out); have hA3 := HA2.out.drew.lows hbel3 HGB.out)
        | (go_at_call 12; refine (MS.out _ _ hA3 ho3.bytes).mono ?_; rintro e w4 ⟨rfl, hbel4⟩; have hb4 : Below w.heap.size w w4 := below_on hb3 hbel4)
        | (go_at_call 17; refine (PK.out _).mono ?_; rintro e w5 ⟨rfl, hbel5⟩; have hb5 : Below w.heap.size w w5 := below_on hb4 hbel5))
    all_goals go_wp2
    all_goals go_ret2
    all_goals exact ⟨rfl, hb5⟩

end Go.Proofs.YtknijlajopmjaaaDoor
