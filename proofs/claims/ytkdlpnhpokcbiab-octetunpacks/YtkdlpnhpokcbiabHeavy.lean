/-
  What pappuslaw02.heavy and pappusref02.SameAll answer at this program.
-/
import Derived.Test.YtkdlpnhpokcbiabParts
import Derived.Test.YtkdlpnhpokcbiabSame
namespace Go.Proofs.Ytkdlpnhpokcbiab
open Go.RowKit

theorem total_take (L : List (List Int)) (k : Nat) (h : k < L.length) : total (L.take (k + 1)) = total (L.take k) + (L.getD k []).length := by
  induction L generalizing k with
  | nil => simp at h
  | cons p L ih =>
    cases k with
    | zero => simp [total]
    | succ k =>
      have := ih k (by simpa using h)
      simp only [List.take_succ_cons, total, this]
      simp [List.getD]
      omega
/-- What holds at the head of a round of heavy. -/
def Weighed (L : List (List Int)) (n i : Value) : Prop := ∃ k : Nat, k ≤ L.length ∧ i = .int .i64 k ∧ n = .int .i64 (total (L.take k) : Nat) ∧ total (L.take k) ≤ 100000
/-- What heavy comes to. -/
def HeavyDone (w : World) (L : List (List Int)) (e : Ending) (w' : World) : Prop := w' = w ∧ (e = .returned (.bool true) ∨ (e = .returned (.bool false) ∧ L.length ≤ 1000 ∧ total L ≤ 100000))

set_option maxHeartbeats 400000 in
theorem heavy_some (L : List (List Int)) (b off cap : Nat) (w : World) (hn : L.length ≤ 1000)
    (hc : ∀ i, i < L.length → ∃ p, w.cell? ⟨b, off + i, none⟩ = some p ∧ Bytes w p (L.getD i [])) :
    Calls Try.prog 6 #[.slice (some ⟨b, off, none⟩) L.length cap] w fun e w' => HeavyDone w L e w' := by
  have HC := hide hc
  have hn1 : ¬ (1000 : Int) < (L.length : Int) := by omega
  clear hc
  go_enter Try.func6, Try.ntmps6
  go_wp2
  go_loop [3, 11] (fun n i => Weighed L n i) (fun _ i => L.length - (intOf i).toNat)
  case atStart => exact ⟨0, Nat.zero_le _, rfl, rfl, by simp [total]⟩
  case round =>
    obtain ⟨k, hk, rfl, rfl, ht⟩ := hrel
    by_cases hlt : k < L.length
    · obtain ⟨p, hcell, hbytes⟩ := HC.out k hlt
      obtain ⟨a', cap', rfl, hc1, hc2⟩ := hbytes.form
      have HT := hide (total_take L k hlt)
      clear hbytes
      generalize hs : total (L.take k) = s at *
      generalize hm : (L.getD k []).length = m at *
      have HS := hide hs
      have HM := hide hm
      clear hs hm
      by_cases hbig : m ≤ 100000
      · by_cases hov : s + m ≤ 100000
        · have h1 : ¬ (100000 : Int) < (s : Int) + (m : Int) := by omega
          have R : Hid (Weighed L (.int .i64 ((s : Int) + (m : Int))) (.int .i64 ((k : Int) + 1))) := by
            refine ⟨k + 1, hlt, by go_num, congrArg _ ?_, ?_⟩
            · rw [HT.out]; omega
            · rw [HT.out]; omega
          go_wp2
          go_round
          case rel => exact R.out
          case measure => simp [intOf]; omega
        · have h1 : (100000 : Int) < (s : Int) + (m : Int) := by omega
          go_wp2
          go_ret
          exact ⟨rfl, Or.inl rfl⟩
      · have h1 : (100000 : Int) < (s : Int) + 100001 := by omega
        have h2 : ¬ (m : Int) ≤ 100001 ∨ (m : Int) = 100001 := by omega
        rcases h2 with h2 | h2
        · go_wp2
          go_ret
          exact ⟨rfl, Or.inl rfl⟩
        · go_wp2
          go_ret
          exact ⟨rfl, Or.inl rfl⟩
    · have R : Hid (HeavyDone w L (.returned (.bool false)) w) := ⟨rfl, Or.inr ⟨rfl, hn, by rw [List.take_of_length_le (by omega)] at ht; exact ht⟩⟩
      clear ht
      generalize total (L.take k) = s at *
      go_wp2
      go_ret
      exact R.out
theorem heavy_none (a : Option Addr) (cap : Nat) (w : World) :
    Calls Try.prog 6 #[.slice a 0 cap] w fun e w' => HeavyDone w [] e w' := by
  have R : Hid (HeavyDone w [] (.returned (.bool false)) w) := ⟨rfl, Or.inr ⟨rfl, by simp, by simp [total]⟩⟩
  go_enter Try.func6, Try.ntmps6
  go_wp2
  go_loop [3, 11] (fun n i => n = .int .i64 0 ∧ i = .int .i64 0) (fun _ _ => 0)
  case atStart => exact ⟨rfl, rfl⟩
  case round =>
    obtain ⟨rfl, rfl⟩ := hrel
    go_wp2
    go_ret
    exact R.out
theorem heavy_many (L : List (List Int)) (a : Option Addr) (n cap : Nat) (w : World) (hn : 1000 < n) :
    Calls Try.prog 6 #[.slice a n cap] w fun e w' => HeavyDone w L e w' := by
  have h1 : (1000 : Int) < (n : Int) := by omega
  go_enter Try.func6, Try.ntmps6
  go_wp2
  go_ret
  exact ⟨rfl, Or.inl rfl⟩
theorem heavy_any (L : List (List Int)) (v : Value) (w : World) (hv : Parts w v L) :
    Calls Try.prog 6 #[v] w fun e w' => HeavyDone w L e w' := by
  rcases Nat.eq_zero_or_pos L.length with h0 | h0
  · obtain rfl : L = [] := List.length_eq_zero_iff.1 h0
    obtain ⟨a, cap, rfl, _⟩ := hv.empty
    exact heavy_none a cap w
  · by_cases hn : L.length ≤ 1000
    · obtain ⟨b, off, cap, rfl, h1, h2, hc⟩ := hv.lies h0
      exact heavy_some L b off cap w hn hc
    · obtain ⟨a, cap, rfl, _⟩ := hv.form
      exact heavy_many L a _ cap w (by omega)

/-- What holds at the head of a round of SameAll. -/
def SamedAll (w : World) (L M : List (List Int)) (i : Value) (wr : World) : Prop := ∃ k n : Nat, k ≤ L.length ∧ i = .int .i64 k ∧ L.take k = M.take k ∧ wr = w.drewN n
theorem take_next_all {L M : List (List Int)} {k : Nat} (h : k < L.length) (hm : M.length = L.length) (he : L.take k = M.take k) (hx : L.getD k [] = M.getD k []) : L.take (k + 1) = M.take (k + 1) := by
  have h' : k < M.length := by omega
  rw [List.take_succ_eq_append_getElem h, List.take_succ_eq_append_getElem h', he]
  simp only [List.getD, List.getElem?_eq_getElem h, List.getElem?_eq_getElem h', Option.getD_some] at hx
  rw [hx]
theorem Bytes.drawn {w : World} {v : Value} {l : List Int} (h : Bytes w v l) (n : Nat) : Bytes (w.drewN n) v l := h.below (below_drewN (Below.refl _ _) n)

set_option maxHeartbeats 400000 in
theorem sameAll_some (L M : List (List Int)) (b off cap b' off' cap' : Nat) (w : World) (hlm : M.length = L.length) (hmax : L.length ≤ 9223372036854775807)
    (hc : ∀ i, i < L.length → ∃ p, w.cell? ⟨b, off + i, none⟩ = some p ∧ Bytes w p (L.getD i [])) (hc' : ∀ i, i < M.length → ∃ p, w.cell? ⟨b', off' + i, none⟩ = some p ∧ Bytes w p (M.getD i [])) :
    Calls Try.prog 9 #[.slice (some ⟨b, off, none⟩) L.length cap, .slice (some ⟨b', off', none⟩) L.length cap'] w fun e w' => e = .returned (.bool (decide (L = M))) ∧ ∃ n, w' = w.drewN n := by
  have HC := hide hc
  have HC' := hide hc'
  have HM := hide hlm
  clear hc hc' hlm
  go_enter Try.func9, Try.ntmps9
  go_wp2
  go_loopw [13] (fun i wr => SamedAll w L M i wr) (fun i _ => L.length - (intOf i).toNat)
  case atStart => exact ⟨0, 0, Nat.zero_le _, rfl, by simp, rfl⟩
  case round =>
    obtain ⟨k, n, hk, rfl, heq, hwr⟩ := hrel
    have HE := hide heq
    have HW := hide hwr
    clear heq hwr
    by_cases hlt : k < L.length
    · obtain ⟨p, hcell0, hp0⟩ := HC.out k hlt
      obtain ⟨p', hcell0', hp0'⟩ := HC'.out k (by rw [HM.out]; exact hlt)
      have hcell : wr.cell? ⟨b, off + k, none⟩ = some p := by rw [HW.out]; exact hcell0
      have hcell' : wr.cell? ⟨b', off' + k, none⟩ = some p' := by rw [HW.out]; exact hcell0'
      have hp : Bytes wr p (L.getD k []) := by rw [HW.out]; exact hp0.drawn n
      have hp' : Bytes wr p' (M.getD k []) := by rw [HW.out]; exact hp0'.drawn n
      clear hcell0 hcell0' hp0 hp0'
      have S := hide (fun m => same_any (L.getD k []) (M.getD k []) p p' (wr.drewN m) (hp.drawn m) (hp'.drawn m))
      clear hp hp'
      by_cases hxy : L.getD k [] = M.getD k []
      · rw [decide_eq_true hxy] at S
        have HN : Hid (L.take (k + 1) = M.take (k + 1)) := take_next_all hlt HM.out HE.out hxy
        clear hxy
        go_wp2
        go_quiet ((go_at_call 10; exact Calls.quiet_of (S.out _)))
        go_wp2
        go_roundw
        case rel => exact ⟨k + 1, _, hlt, by go_num, HN.out, by rw [HW.out]; exact World.drewN_drewN _ _ _⟩
        case measure => simp [intOf]; omega
      · rw [decide_eq_false hxy] at S
        have HN : Hid (decide (L = M) = false) := decide_eq_false fun e => hxy (by rw [e])
        clear hxy
        go_wp2
        go_quiet ((go_at_call 10; exact Calls.quiet_of (S.out _)))
        go_wp2
        go_ret
        refine ⟨?_, ?_⟩
        · rw [HN.out]; rfl
        · exact ⟨_, by rw [HW.out]; exact World.drewN_drewN _ _ _⟩
    · obtain rfl : k = L.length := by omega
      have HN : Hid (decide (L = M) = true) := by
        refine decide_eq_true ?_
        have h1 := HE.out
        rw [List.take_of_length_le (Nat.le_refl _), List.take_of_length_le (by rw [HM.out]; omega)] at h1
        exact h1
      go_wp2
      go_ret
      refine ⟨?_, _, HW.out⟩
      rw [HN.out]
      rfl

theorem sameAll_none (a a' : Option Addr) (cap cap' : Nat) (w : World) :
    Calls Try.prog 9 #[.slice a 0 cap, .slice a' 0 cap'] w fun e w' => e = .returned (.bool true) ∧ ∃ n, w' = w.drewN n := by
  go_enter Try.func9, Try.ntmps9
  go_wp2
  go_loop [13] (fun i => i = .int .i64 0) (fun _ => 0)
  case atStart => rfl
  case round =>
    obtain rfl := hrel
    go_wp2
    go_ret
    exact ⟨rfl, 0, rfl⟩
theorem sameAll_not (a a' : Option Addr) (n n' cap cap' : Nat) (w : World) (h : ¬ n = n') :
    Calls Try.prog 9 #[.slice a n cap, .slice a' n' cap'] w fun e w' => e = .returned (.bool false) ∧ ∃ n, w' = w.drewN n := by
  have h' : ((n : Int) == (n' : Int)) = false := by simp; omega
  go_enter Try.func9, Try.ntmps9
  go_wp2
  go_ret
  exact ⟨rfl, 0, rfl⟩
theorem sameAll_any (L M : List (List Int)) (v v' : Value) (w : World) (hv : Parts w v L) (hv' : Parts w v' M) :
    Calls Try.prog 9 #[v, v'] w fun e w' => e = .returned (.bool (decide (L = M))) ∧ ∃ n, w' = w.drewN n := by
  by_cases hlm : L.length = M.length
  · rcases Nat.eq_zero_or_pos L.length with h0 | h0
    · obtain rfl : L = [] := List.length_eq_zero_iff.1 h0
      obtain rfl : M = [] := List.length_eq_zero_iff.1 hlm.symm
      obtain ⟨a, cap, rfl, _⟩ := hv.empty
      obtain ⟨a', cap', rfl, _⟩ := hv'.empty
      exact sameAll_none a a' cap cap' w
    · obtain ⟨b, off, cap, rfl, h1, h2, hc⟩ := hv.lies h0
      obtain ⟨b', off', cap', rfl, _, _, hc'⟩ := hv'.lies (by omega)
      rw [← hlm]
      exact sameAll_some L M b off cap b' off' cap' w hlm.symm (by omega) hc hc'
  · obtain ⟨a, cap, rfl, _⟩ := hv.form
    obtain ⟨a', cap', rfl, _⟩ := hv'.form
    have e : decide (L = M) = false := decide_eq_false fun e => hlm (by rw [e])
    rw [e]
    exact sameAll_not a a' _ _ cap cap' w hlm
theorem sameAll_self (L : List (List Int)) (v v' : Value) (w : World) (hv : Parts w v L) (hv' : Parts w v' L) :
    Calls Try.prog 9 #[v, v'] w fun e w' => e = .returned (.bool true) ∧ Below w.heap.size w w' := by
  refine (sameAll_any L L v v' w hv hv').mono ?_
  rintro e w' ⟨rfl, n, rfl⟩
  exact ⟨by rw [decide_eq_true rfl], below_drewN (Below.refl _ _) n⟩
end Go.Proofs.Ytkdlpnhpokcbiab
