/-
  What pappusref02.Var and Read answer at this program: the very same as the program's own.
-/
import Derived.Test.YtjmifgdjmaelfaaRefVar
import Derived.Test.YtjmifgdjmaelfaaRefOctG
import Derived.Test.YtjmifgdjmaelfaaTxP
import Derived.Deep.RegionHeld3
namespace Go.Proofs.Ytjmifgdjmaelfaa
open Go.RowKit

theorem below_trans {w a b : World} (h : Below w.heap.size w a) (k : Below a.heap.size a b) : Below w.heap.size w b := h.trans (k.mono h.size)
set_option maxHeartbeats 8000000 in
theorem rread_some (l : List Int) (b off cap : Nat) (w : World) (hv : Bytes w (.slice (some ⟨b, off, none⟩) l.length cap) l) (hl : ∀ z ∈ l, Byte z) (hp : 0 < l.length) (hcap : l.length ≤ cap) (hmax : cap ≤ 9223372036854775807)
    (hc : w.cell? ⟨b, off, none⟩ = some (.int .u8 (l.getD 0 0))) :
    Calls Try.prog 38 #[.slice (some ⟨b, off, none⟩) l.length cap] w fun e w' => e = .returned (.tuple #[.int .u64 (readX l), .int .i64 (readN l), .int .i64 (readE l)]) ∧ Below w.heap.size w w' := by
  have HV := hide hv
  have HL := hide hl
  have hbyte := hl (l.getD 0 0) (by simp [List.getD, hp])
  obtain ⟨hc0, hc1⟩ := hbyte
  have hne : ¬ l.length = 0 := by omega
  have hne' : ((l.length : Int) == 0) = false := by simpa using hne
  clear hv hl
  rcases behind_cases (l.getD 0 0) with ⟨hcc, hbe⟩ | ⟨hcc, hbe⟩ | ⟨hcc, hbe⟩ | ⟨-, -, -, hbe⟩
  · have hlead : lead l = 3 := by unfold lead; rw [hbe]; rfl
    have HC := hide hcc
    have B := hide (fun w => wide_any (l.getD 0 0) w)
    rw [hbe] at B
    clear hcc
    by_cases hlt : l.length < 3
    · unfold readX readN readE
      rw [hlead, if_pos hlt, if_pos hlt, if_pos hlt]
      have hlt' : (l.length : Int) < 3 := by omega
      clear hlead hbe hlt
      generalize l.getD 0 0 = c at *
      generalize l.length = n at *
      go_enter Try.func38, Try.ntmps38
      go_wp2_with fail
      refine (B.out _).mono ?_
      rintro e w' ⟨rfl, rfl⟩
      go_wp2
      go_ret3
      exact ⟨rfl, Below.refl _ _⟩
    · have HR := hide (read_long l 2 HL.out hlead (by omega) (by omega) ⟨fun _ => HC.out, by omega, by omega⟩)
      have hlt' : ¬ (l.length : Int) < 3 := by omega
      have hcap1 : ¬ cap = 1 := by omega
      have hcapn : (3 : Int) ≤ (cap : Int) := by omega
      have hcap0 : ¬ cap = 0 := by omega
      have hwr : IntKind.i64.wrap 3 = 3 := by decide
      have hmid : mid l = num ((l.take 3).drop 1) := by unfold mid; rw [hlead]
      have hlm : ((l.take 3).drop 1).length = 2 := by simp; omega
      have hqb : ∀ z ∈ (l.take 3).drop 1, Byte z := fun z hz => HL.out z (List.mem_of_mem_take (List.mem_of_mem_drop hz))
      have hvm : Bytes w (.slice (some ⟨b, off + 1, none⟩) 2 (cap - 1)) ((l.take 3).drop 1) := by
        have h := (HV.out.take 3 (by omega)).drop 1 (by omega)
        rw [if_neg hcap1] at h
        exact h
      have G := hide (rget_any _ _ w hvm hqb)
      have e1 : getX ((l.take 3).drop 1) = mid l := by unfold getX; rw [hlm, hmid]; rfl
      have e2 : getE ((l.take 3).drop 1) = 0 := by unfold getE; rw [hlm]; rfl
      have HM : Hid (Word (mid l)) := by rw [hmid]; exact rnum_word _ hqb (by omega)
      have HT := hide (HV.out.take 3 (by omega))
      rw [e1, e2] at G
      clear e1 e2 hmid hlm hqb hvm hlead hbe hlt
      generalize readX l = rx at *
      generalize readN l = rn at *
      generalize readE l = re at *
      generalize mid l = x at *
      generalize l.getD 0 0 = c at *
      generalize l.take 3 = q at *
      generalize l.length = n at *
      have V := hide (fun w => rvar_any w x HM.out)
      have SM := hide (fun v v' w h1 h2 => same_any (var x) q v v' w h1 h2)
      generalize decide (var x = q) = d at *
      go_enter Try.func38, Try.ntmps38
      go_wp2_with fail
      refine (B.out _).mono ?_
      rintro e w' ⟨rfl, rfl⟩
      go_wp2_with fail
      refine G.out.mono ?_
      rintro e w' ⟨rfl, rfl⟩
      go_wp2_with fail
      go_region_held3 (fun wx => Below w'.heap.size w' wx) (first | assumption | exact (Below.refl _ _).drew | exact below_drewN (by assumption) _)
        (first
          | (go_at_call 55; refine (V.out _).mono ?_; rintro e wv ⟨vv, rfl, hown, hbel⟩; have hb2 : Below w'.heap.size w' wv := below_trans (by assumption) hbel)
          | (go_at_call 21; refine (SM.out _ _ _ (Own.bytes (by assumption)) (HT.out.below (by assumption))).mono ?_; rintro e wv ⟨rfl, nn, rfl⟩))
      rcases HR.out with ⟨rfl, rfl, rfl, rfl⟩ | ⟨rfl, rfl, rfl, rfl⟩
      all_goals
        go_wp2
        go_ret3
        exact ⟨rfl, by assumption⟩
  · have hlead : lead l = 5 := by unfold lead; rw [hbe]; rfl
    have HC := hide hcc
    have B := hide (fun w => wide_any (l.getD 0 0) w)
    rw [hbe] at B
    clear hcc
    by_cases hlt : l.length < 5
    · unfold readX readN readE
      rw [hlead, if_pos hlt, if_pos hlt, if_pos hlt]
      have hlt' : (l.length : Int) < 5 := by omega
      clear hlead hbe hlt
      generalize l.getD 0 0 = c at *
      generalize l.length = n at *
      go_enter Try.func38, Try.ntmps38
      go_wp2_with fail
      refine (B.out _).mono ?_
      rintro e w' ⟨rfl, rfl⟩
      go_wp2
      go_ret3
      exact ⟨rfl, Below.refl _ _⟩
    · have HR := hide (read_long l 4 HL.out hlead (by omega) (by omega) ⟨by omega, fun _ => HC.out, by omega⟩)
      have hlt' : ¬ (l.length : Int) < 5 := by omega
      have hcap1 : ¬ cap = 1 := by omega
      have hcapn : (5 : Int) ≤ (cap : Int) := by omega
      have hcap0 : ¬ cap = 0 := by omega
      have hwr : IntKind.i64.wrap 5 = 5 := by decide
      have hmid : mid l = num ((l.take 5).drop 1) := by unfold mid; rw [hlead]
      have hlm : ((l.take 5).drop 1).length = 4 := by simp; omega
      have hqb : ∀ z ∈ (l.take 5).drop 1, Byte z := fun z hz => HL.out z (List.mem_of_mem_take (List.mem_of_mem_drop hz))
      have hvm : Bytes w (.slice (some ⟨b, off + 1, none⟩) 4 (cap - 1)) ((l.take 5).drop 1) := by
        have h := (HV.out.take 5 (by omega)).drop 1 (by omega)
        rw [if_neg hcap1] at h
        exact h
      have G := hide (rget_any _ _ w hvm hqb)
      have e1 : getX ((l.take 5).drop 1) = mid l := by unfold getX; rw [hlm, hmid]; rfl
      have e2 : getE ((l.take 5).drop 1) = 0 := by unfold getE; rw [hlm]; rfl
      have HM : Hid (Word (mid l)) := by rw [hmid]; exact rnum_word _ hqb (by omega)
      have HT := hide (HV.out.take 5 (by omega))
      rw [e1, e2] at G
      clear e1 e2 hmid hlm hqb hvm hlead hbe hlt
      generalize readX l = rx at *
      generalize readN l = rn at *
      generalize readE l = re at *
      generalize mid l = x at *
      generalize l.getD 0 0 = c at *
      generalize l.take 5 = q at *
      generalize l.length = n at *
      have V := hide (fun w => rvar_any w x HM.out)
      have SM := hide (fun v v' w h1 h2 => same_any (var x) q v v' w h1 h2)
      generalize decide (var x = q) = d at *
      go_enter Try.func38, Try.ntmps38
      go_wp2_with fail
      refine (B.out _).mono ?_
      rintro e w' ⟨rfl, rfl⟩
      go_wp2_with fail
      refine G.out.mono ?_
      rintro e w' ⟨rfl, rfl⟩
      go_wp2_with fail
      go_region_held3 (fun wx => Below w'.heap.size w' wx) (first | assumption | exact (Below.refl _ _).drew | exact below_drewN (by assumption) _)
        (first
          | (go_at_call 55; refine (V.out _).mono ?_; rintro e wv ⟨vv, rfl, hown, hbel⟩; have hb2 : Below w'.heap.size w' wv := below_trans (by assumption) hbel)
          | (go_at_call 21; refine (SM.out _ _ _ (Own.bytes (by assumption)) (HT.out.below (by assumption))).mono ?_; rintro e wv ⟨rfl, nn, rfl⟩))
      rcases HR.out with ⟨rfl, rfl, rfl, rfl⟩ | ⟨rfl, rfl, rfl, rfl⟩
      all_goals
        go_wp2
        go_ret3
        exact ⟨rfl, by assumption⟩
  · have hlead : lead l = 9 := by unfold lead; rw [hbe]; rfl
    have HC := hide hcc
    have B := hide (fun w => wide_any (l.getD 0 0) w)
    rw [hbe] at B
    clear hcc
    by_cases hlt : l.length < 9
    · unfold readX readN readE
      rw [hlead, if_pos hlt, if_pos hlt, if_pos hlt]
      have hlt' : (l.length : Int) < 9 := by omega
      clear hlead hbe hlt
      generalize l.getD 0 0 = c at *
      generalize l.length = n at *
      go_enter Try.func38, Try.ntmps38
      go_wp2_with fail
      refine (B.out _).mono ?_
      rintro e w' ⟨rfl, rfl⟩
      go_wp2
      go_ret3
      exact ⟨rfl, Below.refl _ _⟩
    · have HR := hide (read_long l 8 HL.out hlead (by omega) (by omega) ⟨by omega, by omega, fun _ => HC.out⟩)
      have hlt' : ¬ (l.length : Int) < 9 := by omega
      have hcap1 : ¬ cap = 1 := by omega
      have hcapn : (9 : Int) ≤ (cap : Int) := by omega
      have hcap0 : ¬ cap = 0 := by omega
      have hwr : IntKind.i64.wrap 9 = 9 := by decide
      have hmid : mid l = num ((l.take 9).drop 1) := by unfold mid; rw [hlead]
      have hlm : ((l.take 9).drop 1).length = 8 := by simp; omega
      have hqb : ∀ z ∈ (l.take 9).drop 1, Byte z := fun z hz => HL.out z (List.mem_of_mem_take (List.mem_of_mem_drop hz))
      have hvm : Bytes w (.slice (some ⟨b, off + 1, none⟩) 8 (cap - 1)) ((l.take 9).drop 1) := by
        have h := (HV.out.take 9 (by omega)).drop 1 (by omega)
        rw [if_neg hcap1] at h
        exact h
      have G := hide (rget_any _ _ w hvm hqb)
      have e1 : getX ((l.take 9).drop 1) = mid l := by unfold getX; rw [hlm, hmid]; rfl
      have e2 : getE ((l.take 9).drop 1) = 0 := by unfold getE; rw [hlm]; rfl
      have HM : Hid (Word (mid l)) := by rw [hmid]; exact rnum_word _ hqb (by omega)
      have HT := hide (HV.out.take 9 (by omega))
      rw [e1, e2] at G
      clear e1 e2 hmid hlm hqb hvm hlead hbe hlt
      generalize readX l = rx at *
      generalize readN l = rn at *
      generalize readE l = re at *
      generalize mid l = x at *
      generalize l.getD 0 0 = c at *
      generalize l.take 9 = q at *
      generalize l.length = n at *
      have V := hide (fun w => rvar_any w x HM.out)
      have SM := hide (fun v v' w h1 h2 => same_any (var x) q v v' w h1 h2)
      generalize decide (var x = q) = d at *
      go_enter Try.func38, Try.ntmps38
      go_wp2_with fail
      refine (B.out _).mono ?_
      rintro e w' ⟨rfl, rfl⟩
      go_wp2_with fail
      refine G.out.mono ?_
      rintro e w' ⟨rfl, rfl⟩
      go_wp2_with fail
      go_region_held3 (fun wx => Below w'.heap.size w' wx) (first | assumption | exact (Below.refl _ _).drew | exact below_drewN (by assumption) _)
        (first
          | (go_at_call 55; refine (V.out _).mono ?_; rintro e wv ⟨vv, rfl, hown, hbel⟩; have hb2 : Below w'.heap.size w' wv := below_trans (by assumption) hbel)
          | (go_at_call 21; refine (SM.out _ _ _ (Own.bytes (by assumption)) (HT.out.below (by assumption))).mono ?_; rintro e wv ⟨rfl, nn, rfl⟩))
      rcases HR.out with ⟨rfl, rfl, rfl, rfl⟩ | ⟨rfl, rfl, rfl, rfl⟩
      all_goals
        go_wp2
        go_ret3
        exact ⟨rfl, by assumption⟩
  · have hlead : lead l = 1 := by unfold lead; rw [hbe]; rfl
    have B := hide (fun w => wide_any (l.getD 0 0) w)
    rw [hbe] at B
    unfold readX readN readE
    have h1 : ¬ l.length < 1 := by omega
    have h2 : (1 : Nat) = 1 := rfl
    rw [hlead, if_neg h1, if_neg h1, if_neg h1, if_pos h2, if_pos h2, if_pos h2]
    clear h1 h2 hlead hbe
    generalize l.getD 0 0 = c at *
    generalize l.length = n at *
    go_enter Try.func38, Try.ntmps38
    go_wp2_with fail
    refine (B.out _).mono ?_
    rintro e w' ⟨rfl, rfl⟩
    go_wp2
    go_ret3
    exact ⟨rfl, Below.refl _ _⟩

theorem rread_none (a : Option Addr) (cap : Nat) (w : World) :
    Calls Try.prog 38 #[.slice a 0 cap] w fun e w' => e = .returned (.tuple #[.int .u64 0, .int .i64 0, .int .i64 4]) ∧ Below w.heap.size w w' := by
  go_enter Try.func38, Try.ntmps38
  go_wp2
  go_ret3
  exact ⟨rfl, Below.refl _ _⟩
theorem rread_any (l : List Int) (v : Value) (w : World) (hv : Bytes w v l) (hl : ∀ z ∈ l, Byte z) :
    Calls Try.prog 38 #[v] w fun e w' => e = .returned (.tuple #[.int .u64 (readX l), .int .i64 (readN l), .int .i64 (readE l)]) ∧ Below w.heap.size w w' := by
  rcases Nat.eq_zero_or_pos l.length with h0 | h0
  · obtain rfl : l = [] := List.length_eq_zero_iff.1 h0
    obtain ⟨a, cap, rfl, _⟩ := hv.empty
    exact rread_none a cap w
  · obtain ⟨b, off, cap, rfl, h1, h2, hc⟩ := hv.lies h0
    exact rread_some l b off cap w hv hl h0 h1 h2 (hc 0 h0)
end Go.Proofs.Ytjmifgdjmaelfaa
