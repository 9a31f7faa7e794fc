/-
  What pappusref04.block answers at this program.
-/
import Derived.Test.YtknijlajopmjaaaDoorMacBlk
import Derived.Test.YtknijlajopmjaaaDoorRefDig
import Derived.Lib.SmallJoins
namespace Go.Proofs.YtknijlajopmjaaaDoor
open Go.RowKit

/-- What holds at the head of a round. -/
def RBlk (W : World) (KK : List Int) (x : Int) (v i : Value) (wr : World) : Prop := ∃ k : Nat, k ≤ 64 ∧ i = .int .i64 k ∧ Own wr W.heap.size v ((xorB KK x).take k) ∧ Below W.heap.size W wr
theorem xor_next (KK : List Int) (x : Int) (k : Nat) (h : k < KK.length) : (xorB KK x).take (k + 1) = (xorB KK x).take k ++ [bits .xor .u8 (KK.getD k 0) x] := by
  have h' : k < (xorB KK x).length := by rw [xorB_length]; exact h
  rw [List.take_succ_eq_append_getElem h']
  simp [xorB, List.getD, h]
theorem pad_get (kk : List Int) (k : Nat) (h : k < kk.length) : (kk ++ List.replicate (64 - kk.length) 0).getD k 0 = kk.getD k 0 := by
  simp only [List.getD, List.getElem?_append_left h]
theorem pad_zero (kk : List Int) (k : Nat) (h : kk.length ≤ k) (hk : k < 64) : (kk ++ List.replicate (64 - kk.length) 0).getD k 0 = 0 := by
  simp only [List.getD, List.getElem?_append_right h]
  rw [List.getElem?_replicate, if_pos (by omega)]
  rfl

set_option maxRecDepth 100000 in
set_option maxHeartbeats 1000000 in
theorem rblk_short (w : World) (v : Value) (kk : List Int) (x : Int) (hv : Bytes w v kk) (hs : kk.length ≤ 64) :
    Calls Tryd.prog 25 #[v, .int .u8 x] w fun e w' => ∃ v', e = .returned v' ∧ Own w' w.heap.size v' (xorB (keyI kk) x) ∧ Below w.heap.size w w' := by
  have hsh : shortI kk = kk := by simp [shortI]; omega
  obtain ⟨KK, hKK⟩ : ∃ KK, KK = kk ++ List.replicate (64 - kk.length) 0 := ⟨_, rfl⟩
  have HEK : Hid (xorB KK x = xorB (keyI kk) x) := hide (by rw [hKK, keyI, hsh])
  have HKL : Hid (KK.length = 64) := hide (by rw [hKK]; simp; omega)
  have HKG : Hid (∀ k, k < kk.length → KK.getD k 0 = kk.getD k 0) := hide (fun k hk => by rw [hKK]; exact pad_get kk k hk)
  have HKZ : Hid (∀ k, kk.length ≤ k → k < 64 → KK.getD k 0 = 0) := hide (fun k h1 h2 => by rw [hKK]; exact pad_zero kk k h1 h2)
  have HKV := hide hv
  have hb : (kk.length : Int) ≤ 64 := by omega
  have HS : Hid (RBlk w KK x (.slice none 0 0) (.int .i64 0) w) := hide ⟨0, by omega, rfl, by simpa using Own.nil w w.heap.size, Below.refl _ _⟩
  obtain ⟨a, cap, rfl, hc1, hc2⟩ := hv.form
  clear hv hs hsh hKK
  go_enter Tryd.func25, Tryd.ntmps25
  go_wp2_with fail
  go_loopw [6, 15] (fun v i wr => RBlk w KK x v i wr) (fun _ i _ => 64 - (intOf i).toNat)
  case atStart => exact HS.out
  case round =>
    clear HS
    obtain ⟨k, hk, rfl, hO, hB⟩ := hrel
    obtain ⟨T, hT⟩ : ∃ T, T = (xorB KK x).take k := ⟨_, rfl⟩
    rw [← hT] at hO
    have HT := hide hT
    have HO := hide hO
    have HB := hide hB
    obtain ⟨a1, cap1, rfl, -, -⟩ := hO.bytes.form
    have HTL : Hid (T.length ≤ 64) := hide (by rw [hT]; simp; omega)
    clear hO hB hT
    by_cases hlt : k < 64
    · have hk64 : (k : Int) < 64 := by omega
      have HNX := hide (xor_next KK x k (by rw [HKL.out]; exact hlt))
      rw [← HT.out] at HNX
      have R := hide (fun v' w' (ho' : Own w' w.heap.size v' (T ++ [bits .xor .u8 (KK.getD k 0) x])) (hb' : Below w.heap.size wr w') => show RBlk w KK x v' (.int .i64 ((k + 1 : Nat) : Int)) w' from ⟨k + 1, by omega, rfl, by rw [HNX.out]; exact ho', HB.out.trans hb'⟩)
      by_cases hin : k < kk.length
      · obtain ⟨b, off, cap', e, -, -, hc⟩ := HKV.out.lies (by omega)
        simp only [Value.slice.injEq, true_and] at e
        obtain ⟨rfl, rfl⟩ := e
        have c0 : wr.cell? ⟨b, off + k, none⟩ = some (.int .u8 (kk.getD k 0)) := (HB.out.cell (p := ⟨b, off + k, none⟩) (World.block_lt_of_cell? _ _ (hc k hin))).trans (hc k hin)
        have HZ := hide (HKG.out k hin)
        rw [HZ.out] at R
        have hin' : (k : Int) < (kk.length : Int) := by omega
        clear hc
        generalize kk.getD k 0 = z at *
        go_wp2_with (at_builtin; refine wp_append rfl (.tmp 26) (.tmp 30) rfl w.heap.size _ T rfl (HO.out.alloc _) _ _ rfl (Bytes.one _ _) ?c1 ?c2 ?_)
        case c1 => have := HTL.out; simp; omega
        case c2 => have := HB.out.size; rw [alloc_size]; omega
        intro v' w' ho' hb'
        have RR := hide (R.out v' w' ho' (((Below.refl w.heap.size wr).alloc HB.out.size _).trans hb'))
        clear ho' hb'
        go_wp2
        go_roundw
        case rel => first | exact RR.out | ((repeat apply Exists.intro); exact ⟨RR.out, rfl⟩)
        case measure => simp [intOf]; omega
      · have HZ := hide (HKZ.out k (by omega) hlt)
        rw [HZ.out] at R
        have hin' : (kk.length : Int) ≤ (k : Int) := by omega
        go_wp2_with (at_builtin; refine wp_append rfl (.tmp 26) (.tmp 30) rfl w.heap.size _ T rfl (HO.out.alloc _) _ _ rfl (Bytes.one _ _) ?c1 ?c2 ?_)
        case c1 => have := HTL.out; simp; omega
        case c2 => have := HB.out.size; rw [alloc_size]; omega
        intro v' w' ho' hb'
        have RR := hide (R.out v' w' ho' (((Below.refl w.heap.size wr).alloc HB.out.size _).trans hb'))
        clear ho' hb'
        go_wp2
        go_roundw
        case rel => first | exact RR.out | ((repeat apply Exists.intro); exact ⟨RR.out, rfl⟩)
        case measure => simp [intOf]; omega
    · obtain rfl : k = 64 := by omega
      have HTX : Hid (T = xorB KK x) := hide (by rw [HT.out, List.take_of_length_le (by rw [xorB_length, HKL.out]; omega)])
      go_wp2
      go_ret
      refine ⟨_, rfl, ?_, HB.out⟩
      rw [← HEK.out, ← HTX.out]
      exact HO.out

set_option maxRecDepth 100000 in
set_option maxHeartbeats 1000000 in
theorem rblk_long (w : World) (v : Value) (k0 : List Int) (x : Int) (hv : Bytes w v k0) (hs : 64 < k0.length) (hsz : k0.length ≤ 5000) :
    Calls Tryd.prog 25 #[v, .int .u8 x] w fun e w' => ∃ v', e = .returned v' ∧ Own w' w.heap.size v' (xorB (keyI k0) x) ∧ Below w.heap.size w w' := by
  have hsh : shortI k0 = digest k0 := by simp [shortI]; omega
  have SM := hide (rsum_any w v k0 hv hsz)
  have hdl := digest_length k0
  obtain ⟨kk, hkk⟩ : ∃ kk, kk = digest k0 := ⟨_, rfl⟩
  rw [← hkk] at hdl SM
  obtain ⟨KK, hKK⟩ : ∃ KK, KK = kk ++ List.replicate (64 - kk.length) 0 := ⟨_, rfl⟩
  have HEK : Hid (xorB KK x = xorB (keyI k0) x) := hide (by rw [hKK, keyI, hsh, hkk])
  have HKL : Hid (KK.length = 64) := hide (by rw [hKK]; simp; omega)
  have HKG : Hid (∀ k, k < kk.length → KK.getD k 0 = kk.getD k 0) := hide (fun k hk => by rw [hKK]; exact pad_get kk k hk)
  have HKZ : Hid (∀ k, kk.length ≤ k → k < 64 → KK.getD k 0 = 0) := hide (fun k h1 h2 => by rw [hKK]; exact pad_zero kk k h1 h2)
  have HDL := hide hdl
  have hb : (64 : Int) < (k0.length : Int) := by omega
  obtain ⟨a, cap, rfl, hc1, hc2⟩ := hv.form
  clear hv hs hsh hKK hkk hdl
  go_enter Tryd.func25, Tryd.ntmps25
  go_wp2_with fail
  refine SM.out.mono ?_
  rintro e w1 ⟨rfl, hbel1⟩
  have KP := hide (hash_kept w1 kk HDL.out)
  have HB1 := hide hbel1
  clear hbel1 SM
  go_upto_region 3 with (refine wp_store_arr rfl 27 (.tmp 5) (.tmp 13) rfl _ 0 .u8 kk rfl rfl 32 (hash_there _) info_h HDL.out ?_)
  generalize (w1.alloc (.cells #[.int .u8 0, .int .u8 0, .int .u8 0, .int .u8 0, .int .u8 0, .int .u8 0, .int .u8 0, .int .u8 0, .int .u8 0, .int .u8 0, .int .u8 0, .int .u8 0, .int .u8 0, .int .u8 0, .int .u8 0, .int .u8 0, .int .u8 0, .int .u8 0, .int .u8 0, .int .u8 0, .int .u8 0, .int .u8 0, .int .u8 0, .int .u8 0, .int .u8 0, .int .u8 0, .int .u8 0, .int .u8 0, .int .u8 0, .int .u8 0, .int .u8 0, .int .u8 0] 27)).setCells w1.heap.size 0 (vals .u8 kk) = W at *
  have HBW := hide (below_on HB1.out KP.out.1)
  have hKV := KP.out.2.bytes (by rw [HDL.out]; omega)
  rw [show (Value.slice (some ⟨w1.heap.size, 0, none⟩) kk.length kk.length) = .slice (some ⟨w1.heap.size, 0, none⟩) 32 32 by rw [HDL.out]] at hKV
  have HKV := hide hKV
  have HS : Hid (RBlk W KK x (.slice none 0 0) (.int .i64 0) W) := hide ⟨0, by omega, rfl, by simpa using Own.nil W W.heap.size, Below.refl _ _⟩
  have hlen32 : (kk.length : Int) = 32 := by rw [HDL.out]; rfl
  clear KP HB1 hKV
  generalize w1.heap.size = g1 at *
  go_wp2_with fail
  go_loopw [6, 15] (fun v i wr => RBlk W KK x v i wr) (fun _ i _ => 64 - (intOf i).toNat)
  case atStart => exact HS.out
  case round =>
    clear HS
    obtain ⟨k, hk, rfl, hO, hB⟩ := hrel
    obtain ⟨T, hT⟩ : ∃ T, T = (xorB KK x).take k := ⟨_, rfl⟩
    rw [← hT] at hO
    have HT := hide hT
    have HO := hide hO
    have HB := hide hB
    obtain ⟨a1, cap1, rfl, -, -⟩ := hO.bytes.form
    have HTL : Hid (T.length ≤ 64) := hide (by rw [hT]; simp; omega)
    clear hO hB hT
    by_cases hlt : k < 64
    · have hk64 : (k : Int) < 64 := by omega
      have HNX := hide (xor_next KK x k (by rw [HKL.out]; exact hlt))
      rw [← HT.out] at HNX
      have R := hide (fun v' w' (ho' : Own w' W.heap.size v' (T ++ [bits .xor .u8 (KK.getD k 0) x])) (hb' : Below W.heap.size wr w') => show RBlk W KK x v' (.int .i64 ((k + 1 : Nat) : Int)) w' from ⟨k + 1, by omega, rfl, by rw [HNX.out]; exact ho', HB.out.trans hb'⟩)
      by_cases hin : k < kk.length
      · obtain ⟨b, off, cap', e, -, -, hc⟩ := HKV.out.lies (by omega)
        simp only [Value.slice.injEq, Option.some.injEq, Addr.mk.injEq, and_true] at e
        obtain ⟨⟨rfl, rfl⟩, -, rfl⟩ := e
        have c0 : wr.cell? ⟨g1, k, none⟩ = some (.int .u8 (kk.getD k 0)) := by
          have := (HB.out.cell (p := ⟨g1, 0 + k, none⟩) (World.block_lt_of_cell? _ _ (hc k hin))).trans (hc k hin)
          rwa [Nat.zero_add] at this
        have HZ := hide (HKG.out k hin)
        rw [HZ.out] at R
        have hin' : (k : Int) < 32 := by omega
        clear hc
        generalize kk.getD k 0 = z at *
        go_wp2_with (at_builtin; refine wp_append rfl (.tmp 26) (.tmp 30) rfl W.heap.size _ T rfl (HO.out.alloc _) _ _ rfl (Bytes.one _ _) ?c1 ?c2 ?_)
        case c1 => have := HTL.out; simp; omega
        case c2 => have := HB.out.size; rw [alloc_size]; omega
        intro v' w' ho' hb'
        have RR := hide (R.out v' w' ho' (((Below.refl W.heap.size wr).alloc HB.out.size _).trans hb'))
        clear ho' hb'
        go_wp2
        go_roundw
        case rel => first | exact RR.out | ((repeat apply Exists.intro); exact ⟨RR.out, rfl⟩)
        case measure => simp [intOf]; omega
      · have HZ := hide (HKZ.out k (by omega) hlt)
        rw [HZ.out] at R
        have hin' : (32 : Int) ≤ (k : Int) := by omega
        go_wp2_with (at_builtin; refine wp_append rfl (.tmp 26) (.tmp 30) rfl W.heap.size _ T rfl (HO.out.alloc _) _ _ rfl (Bytes.one _ _) ?c1 ?c2 ?_)
        case c1 => have := HTL.out; simp; omega
        case c2 => have := HB.out.size; rw [alloc_size]; omega
        intro v' w' ho' hb'
        have RR := hide (R.out v' w' ho' (((Below.refl W.heap.size wr).alloc HB.out.size _).trans hb'))
        clear ho' hb'
        go_wp2
        go_roundw
        case rel => first | exact RR.out | ((repeat apply Exists.intro); exact ⟨RR.out, rfl⟩)
        case measure => simp [intOf]; omega
    · obtain rfl : k = 64 := by omega
      have HTX : Hid (T = xorB KK x) := hide (by rw [HT.out, List.take_of_length_le (by rw [xorB_length, HKL.out]; omega)])
      go_wp2
      go_ret
      refine ⟨_, rfl, ?_, below_on HBW.out HB.out⟩
      rw [← HEK.out, ← HTX.out]
      exact Joins.ownsRow_le HO.out HBW.out.size

/-- pappusref04.block. -/
theorem rblk_any (w : World) (v : Value) (k0 : List Int) (x : Int) (hv : Bytes w v k0) (hsz : k0.length ≤ 5000) :
    Calls Tryd.prog 25 #[v, .int .u8 x] w fun e w' => ∃ v', e = .returned v' ∧ Own w' w.heap.size v' (xorB (keyI k0) x) ∧ Below w.heap.size w w' := by
  by_cases h : k0.length ≤ 64
  · exact rblk_short w v k0 x hv h
  · exact rblk_long w v k0 x hv (by omega) hsz

end Go.Proofs.YtknijlajopmjaaaDoor
