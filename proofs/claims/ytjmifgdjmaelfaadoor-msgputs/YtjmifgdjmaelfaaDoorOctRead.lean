/-
  What octet.Read answers at this program, whatever the bytes.
-/
import Derived.Test.YtjmifgdjmaelfaaDoorOctAdd
import Derived.Test.YtjmifgdjmaelfaaDoorOctNum
namespace Go.Proofs.YtjmifgdjmaelfaaDoor
open Go.RowKit

theorem read_none (a : Option Addr) (cap : Nat) (w : World) :
    Calls Tryd.prog 80 #[.slice a 0 cap] w fun e w' => e = .returned (.tuple #[.int .u64 0, .int .i64 0, .int .i64 4]) ∧ w' = w := by
  go_enter Tryd.func80, Tryd.ntmps80
  go_wp2
  go_ret3
  exact ⟨rfl, rfl⟩

set_option maxHeartbeats 4000000 in
theorem read_some (l : List Int) (b off cap : Nat) (w : World) (hv : Bytes w (.slice (some ⟨b, off, none⟩) l.length cap) l) (hl : ∀ z ∈ l, Byte z) (hp : 0 < l.length) (hcap : l.length ≤ cap) (hmax : cap ≤ 9223372036854775807)
    (hc : w.cell? ⟨b, off, none⟩ = some (.int .u8 (l.getD 0 0))) :
    Calls Tryd.prog 80 #[.slice (some ⟨b, off, none⟩) l.length cap] w fun e w' => e = .returned (.tuple #[.int .u64 (readX l), .int .i64 (readN l), .int .i64 (readE l)]) ∧ w' = w := by
  have HV := hide hv
  have HL := hide hl
  have hbyte := hl (l.getD 0 0) (by simp [List.getD, hp])
  obtain ⟨hc0, hc1⟩ := hbyte
  have hne : ¬ l.length = 0 := by omega
  have hne' : ((l.length : Int) == 0) = false := by simpa using hne
  clear hv hl
  rcases behind_cases (l.getD 0 0) with ⟨-, hbe⟩ | ⟨-, hbe⟩ | ⟨-, hbe⟩ | ⟨-, -, -, hbe⟩
  · -- 2 bytes behind the first one
    have hb : behind (l.getD 0 0) = 2 := hbe
    have hlead : lead l = 3 := by unfold lead; rw [hb]; rfl
    have B := hide (fun w => behind_any (l.getD 0 0) w)
    rw [hb] at B
    unfold readX readN readE
    rw [hlead]
    by_cases hlt : l.length < 3
    · rw [if_pos hlt, if_pos hlt, if_pos hlt]
      have hlt' : (l.length : Int) < 3 := by omega
      clear hb hlead hbe hlt
      generalize l.getD 0 0 = c at *
      generalize l.length = n at *
      go_enter Tryd.func80, Tryd.ntmps80
      go_wp2_with fail
      refine (B.out _).mono ?_
      rintro e w' ⟨rfl, rfl⟩
      go_wp2
      go_ret3
      exact ⟨rfl, rfl⟩
    · have h1 : ¬ ((3 : Nat) = 1) := by omega
      rw [if_neg hlt, if_neg hlt, if_neg hlt, if_neg h1, if_neg h1, if_neg h1]
      clear h1
      have hlt' : ¬ (l.length : Int) < 3 := by omega
      have hcap1 : ¬ cap = 1 := by omega
      have hmid : mid l = num ((l.take 3).drop 1) := by unfold mid; rw [hlead]
      have hlm : ((l.take 3).drop 1).length = 2 := by simp; omega
      have hvm : Bytes w (.slice (some ⟨b, off + 1, none⟩) 2 (cap - 1)) ((l.take 3).drop 1) := by
        have h := (HV.out.take 3 (by omega)).drop 1 (by omega)
        rw [if_neg hcap1] at h
        exact h
      have N := hide (number_any _ _ w hvm (fun z hz => HL.out z (List.mem_of_mem_take (List.mem_of_mem_drop hz))) (by omega) (by omega))
      rw [← hmid] at N
      have S := hide (fun w => size_any (mid l) w)
      clear hmid hlm hvm hb hlead hbe
      have e : (((3 : Nat)) : Int) = 3 := rfl
      rw [e]
      clear e
      by_cases hs : size (mid l) = 3
      · rw [if_neg (not_not_intro hs), if_neg (not_not_intro hs), if_neg (not_not_intro hs)]
        rw [hs] at S
        clear hs hlt
        generalize mid l = x at *
        generalize l.getD 0 0 = c at *
        generalize l.length = n at *
        go_enter Tryd.func80, Tryd.ntmps80
        go_wp2_with fail
        refine (B.out _).mono ?_
        rintro e w' ⟨rfl, rfl⟩
        go_wp2_with fail
        refine N.out.mono ?_
        rintro e w' ⟨rfl, rfl⟩
        go_wp2_with fail
        refine (S.out _).mono ?_
        rintro e w' ⟨rfl, rfl⟩
        go_wp2
        go_ret3
        exact ⟨rfl, rfl⟩
      · rw [if_pos hs, if_pos hs, if_pos hs]
        clear hlt
        have hs' : (size (mid l) == 3) = false := by simpa using hs
        clear hs
        generalize size (mid l) = y at *
        generalize mid l = x at *
        generalize l.getD 0 0 = c at *
        generalize l.length = n at *
        go_enter Tryd.func80, Tryd.ntmps80
        go_wp2_with fail
        refine (B.out _).mono ?_
        rintro e w' ⟨rfl, rfl⟩
        go_wp2_with fail
        refine N.out.mono ?_
        rintro e w' ⟨rfl, rfl⟩
        go_wp2_with fail
        refine (S.out _).mono ?_
        rintro e w' ⟨rfl, rfl⟩
        go_wp2
        go_ret3
        exact ⟨rfl, rfl⟩
  · -- 4 bytes behind the first one
    have hb : behind (l.getD 0 0) = 4 := hbe
    have hlead : lead l = 5 := by unfold lead; rw [hb]; rfl
    have B := hide (fun w => behind_any (l.getD 0 0) w)
    rw [hb] at B
    unfold readX readN readE
    rw [hlead]
    by_cases hlt : l.length < 5
    · rw [if_pos hlt, if_pos hlt, if_pos hlt]
      have hlt' : (l.length : Int) < 5 := by omega
      clear hb hlead hbe hlt
      generalize l.getD 0 0 = c at *
      generalize l.length = n at *
      go_enter Tryd.func80, Tryd.ntmps80
      go_wp2_with fail
      refine (B.out _).mono ?_
      rintro e w' ⟨rfl, rfl⟩
      go_wp2
      go_ret3
      exact ⟨rfl, rfl⟩
    · have h1 : ¬ ((5 : Nat) = 1) := by omega
      rw [if_neg hlt, if_neg hlt, if_neg hlt, if_neg h1, if_neg h1, if_neg h1]
      clear h1
      have hlt' : ¬ (l.length : Int) < 5 := by omega
      have hcap1 : ¬ cap = 1 := by omega
      have hmid : mid l = num ((l.take 5).drop 1) := by unfold mid; rw [hlead]
      have hlm : ((l.take 5).drop 1).length = 4 := by simp; omega
      have hvm : Bytes w (.slice (some ⟨b, off + 1, none⟩) 4 (cap - 1)) ((l.take 5).drop 1) := by
        have h := (HV.out.take 5 (by omega)).drop 1 (by omega)
        rw [if_neg hcap1] at h
        exact h
      have N := hide (number_any _ _ w hvm (fun z hz => HL.out z (List.mem_of_mem_take (List.mem_of_mem_drop hz))) (by omega) (by omega))
      rw [← hmid] at N
      have S := hide (fun w => size_any (mid l) w)
      clear hmid hlm hvm hb hlead hbe
      have e : (((5 : Nat)) : Int) = 5 := rfl
      rw [e]
      clear e
      by_cases hs : size (mid l) = 5
      · rw [if_neg (not_not_intro hs), if_neg (not_not_intro hs), if_neg (not_not_intro hs)]
        rw [hs] at S
        clear hs hlt
        generalize mid l = x at *
        generalize l.getD 0 0 = c at *
        generalize l.length = n at *
        go_enter Tryd.func80, Tryd.ntmps80
        go_wp2_with fail
        refine (B.out _).mono ?_
        rintro e w' ⟨rfl, rfl⟩
        go_wp2_with fail
        refine N.out.mono ?_
        rintro e w' ⟨rfl, rfl⟩
        go_wp2_with fail
        refine (S.out _).mono ?_
        rintro e w' ⟨rfl, rfl⟩
        go_wp2
        go_ret3
        exact ⟨rfl, rfl⟩
      · rw [if_pos hs, if_pos hs, if_pos hs]
        clear hlt
        have hs' : (size (mid l) == 5) = false := by simpa using hs
        clear hs
        generalize size (mid l) = y at *
        generalize mid l = x at *
        generalize l.getD 0 0 = c at *
        generalize l.length = n at *
        go_enter Tryd.func80, Tryd.ntmps80
        go_wp2_with fail
        refine (B.out _).mono ?_
        rintro e w' ⟨rfl, rfl⟩
        go_wp2_with fail
        refine N.out.mono ?_
        rintro e w' ⟨rfl, rfl⟩
        go_wp2_with fail
        refine (S.out _).mono ?_
        rintro e w' ⟨rfl, rfl⟩
        go_wp2
        go_ret3
        exact ⟨rfl, rfl⟩
  · -- 8 bytes behind the first one
    have hb : behind (l.getD 0 0) = 8 := hbe
    have hlead : lead l = 9 := by unfold lead; rw [hb]; rfl
    have B := hide (fun w => behind_any (l.getD 0 0) w)
    rw [hb] at B
    unfold readX readN readE
    rw [hlead]
    by_cases hlt : l.length < 9
    · rw [if_pos hlt, if_pos hlt, if_pos hlt]
      have hlt' : (l.length : Int) < 9 := by omega
      clear hb hlead hbe hlt
      generalize l.getD 0 0 = c at *
      generalize l.length = n at *
      go_enter Tryd.func80, Tryd.ntmps80
      go_wp2_with fail
      refine (B.out _).mono ?_
      rintro e w' ⟨rfl, rfl⟩
      go_wp2
      go_ret3
      exact ⟨rfl, rfl⟩
    · have h1 : ¬ ((9 : Nat) = 1) := by omega
      rw [if_neg hlt, if_neg hlt, if_neg hlt, if_neg h1, if_neg h1, if_neg h1]
      clear h1
      have hlt' : ¬ (l.length : Int) < 9 := by omega
      have hcap1 : ¬ cap = 1 := by omega
      have hmid : mid l = num ((l.take 9).drop 1) := by unfold mid; rw [hlead]
      have hlm : ((l.take 9).drop 1).length = 8 := by simp; omega
      have hvm : Bytes w (.slice (some ⟨b, off + 1, none⟩) 8 (cap - 1)) ((l.take 9).drop 1) := by
        have h := (HV.out.take 9 (by omega)).drop 1 (by omega)
        rw [if_neg hcap1] at h
        exact h
      have N := hide (number_any _ _ w hvm (fun z hz => HL.out z (List.mem_of_mem_take (List.mem_of_mem_drop hz))) (by omega) (by omega))
      rw [← hmid] at N
      have S := hide (fun w => size_any (mid l) w)
      clear hmid hlm hvm hb hlead hbe
      have e : (((9 : Nat)) : Int) = 9 := rfl
      rw [e]
      clear e
      by_cases hs : size (mid l) = 9
      · rw [if_neg (not_not_intro hs), if_neg (not_not_intro hs), if_neg (not_not_intro hs)]
        rw [hs] at S
        clear hs hlt
        generalize mid l = x at *
        generalize l.getD 0 0 = c at *
        generalize l.length = n at *
        go_enter Tryd.func80, Tryd.ntmps80
        go_wp2_with fail
        refine (B.out _).mono ?_
        rintro e w' ⟨rfl, rfl⟩
        go_wp2_with fail
        refine N.out.mono ?_
        rintro e w' ⟨rfl, rfl⟩
        go_wp2_with fail
        refine (S.out _).mono ?_
        rintro e w' ⟨rfl, rfl⟩
        go_wp2
        go_ret3
        exact ⟨rfl, rfl⟩
      · rw [if_pos hs, if_pos hs, if_pos hs]
        clear hlt
        have hs' : (size (mid l) == 9) = false := by simpa using hs
        clear hs
        generalize size (mid l) = y at *
        generalize mid l = x at *
        generalize l.getD 0 0 = c at *
        generalize l.length = n at *
        go_enter Tryd.func80, Tryd.ntmps80
        go_wp2_with fail
        refine (B.out _).mono ?_
        rintro e w' ⟨rfl, rfl⟩
        go_wp2_with fail
        refine N.out.mono ?_
        rintro e w' ⟨rfl, rfl⟩
        go_wp2_with fail
        refine (S.out _).mono ?_
        rintro e w' ⟨rfl, rfl⟩
        go_wp2
        go_ret3
        exact ⟨rfl, rfl⟩
  · have hlead : lead l = 1 := by unfold lead; rw [hbe]; rfl
    have B := hide (fun w => behind_any (l.getD 0 0) w)
    rw [hbe] at B
    unfold readX readN readE
    have h1 : ¬ l.length < 1 := by omega
    have h2 : (1 : Nat) = 1 := rfl
    rw [hlead, if_neg h1, if_neg h1, if_neg h1, if_pos h2, if_pos h2, if_pos h2]
    clear h1 h2
    have hlt' : ¬ (l.length : Int) < 1 := by omega
    clear hlead hbe
    generalize l.getD 0 0 = c at *
    generalize l.length = n at *
    go_enter Tryd.func80, Tryd.ntmps80
    go_wp2_with fail
    refine (B.out _).mono ?_
    rintro e w' ⟨rfl, rfl⟩
    go_wp2
    go_ret3
    exact ⟨rfl, rfl⟩

theorem read_any (l : List Int) (v : Value) (w : World) (hv : Bytes w v l) (hl : ∀ z ∈ l, Byte z) :
    Calls Tryd.prog 80 #[v] w fun e w' => e = .returned (.tuple #[.int .u64 (readX l), .int .i64 (readN l), .int .i64 (readE l)]) ∧ w' = w := by
  rcases Nat.eq_zero_or_pos l.length with h0 | h0
  · obtain rfl : l = [] := List.length_eq_zero_iff.1 h0
    obtain ⟨a, cap, rfl, _⟩ := hv.empty
    exact read_none a cap w
  · obtain ⟨b, off, cap, rfl, h1, h2, hc⟩ := hv.lies h0
    exact read_some l b off cap w hv hl h0 h1 h2 (hc 0 h0)
end Go.Proofs.YtjmifgdjmaelfaaDoor
