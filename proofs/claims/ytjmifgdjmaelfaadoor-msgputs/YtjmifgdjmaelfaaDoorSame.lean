/-
  What pappusref02.Same answers at this program, whatever the bytes.
-/
import Derived.Test.YtjmifgdjmaelfaaDoorKit
import Derived.Deep.QuietTactic
namespace Go.Proofs.YtjmifgdjmaelfaaDoor
open Go.RowKit

/-- What holds at the head of a round of Same. -/
def Samed (w : World) (l m : List Int) (i : Value) (wr : World) : Prop := ∃ k n : Nat, k ≤ l.length ∧ i = .int .i64 k ∧ l.take k = m.take k ∧ wr = w.drewN n

theorem take_next {l m : List Int} {k : Nat} (h : k < l.length) (hm : m.length = l.length) (he : l.take k = m.take k) (hx : l.getD k 0 = m.getD k 0) : l.take (k + 1) = m.take (k + 1) := by
  have h' : k < m.length := by omega
  rw [List.take_succ_eq_append_getElem h, List.take_succ_eq_append_getElem h', he]
  simp only [List.getD, List.getElem?_eq_getElem h, List.getElem?_eq_getElem h', Option.getD_some] at hx
  rw [hx]
set_option maxHeartbeats 1000000 in
theorem same_some (l m : List Int) (b off cap b' off' cap' : Nat) (w : World) (hlm : m.length = l.length) (hp : 0 < l.length) (hmax : l.length ≤ 9223372036854775807)
    (hc : ∀ i, i < l.length → w.cell? ⟨b, off + i, none⟩ = some (.int .u8 (l.getD i 0))) (hc' : ∀ i, i < m.length → w.cell? ⟨b', off' + i, none⟩ = some (.int .u8 (m.getD i 0))) :
    Calls Tryd.prog 17 #[.slice (some ⟨b, off, none⟩) l.length cap, .slice (some ⟨b', off', none⟩) l.length cap'] w fun e w' => e = .returned (.bool (decide (l = m))) ∧ ∃ n, w' = w.drewN n := by
  have HC := hide hc
  have HC' := hide hc'
  have HM := hide hlm
  clear hc hc' hlm
  go_enter Tryd.func17, Tryd.ntmps17
  go_wp2
  go_loopw [13] (fun i wr => Samed w l m i wr) (fun i _ => l.length - (intOf i).toNat)
  case atStart => exact ⟨0, 0, Nat.zero_le _, rfl, by simp, rfl⟩
  case round =>
    obtain ⟨k, n, hk, rfl, heq, rfl⟩ := hrel
    have HE := hide heq
    clear heq
    by_cases hlt : k < l.length
    · have hcell := HC.out k hlt
      have hcell' := HC'.out k (by rw [HM.out]; exact hlt)
      generalize hx : l.getD k 0 = x at *
      generalize hy : m.getD k 0 = y at *
      have HX := hide hx
      have HY := hide hy
      clear hx hy
      by_cases hxy : x = y
      · subst hxy
        have HN : Hid (l.take (k + 1) = m.take (k + 1)) := take_next hlt HM.out HE.out (HX.out.trans HY.out.symm)
        go_wp2
        go_quiet (fail)
        go_wp2
        go_roundw
        case rel => exact ⟨k + 1, _, hlt, by go_num, HN.out, rfl⟩
        case measure => simp [intOf]; omega
      · have hne : (x == y) = false := by simpa using hxy
        have HN : Hid (decide (l = m) = false) := by
          refine decide_eq_false fun e => hxy ?_
          have h1 := HX.out
          have h2 := HY.out
          rw [e] at h1
          exact h1.symm.trans h2
        clear hxy
        go_wp2
        go_quiet (fail)
        go_wp2
        go_ret
        refine ⟨?_, _, World.drewN_drewN _ _ _⟩
        rw [HN.out]
        rfl
    · obtain rfl : k = l.length := by omega
      have HN : Hid (decide (l = m) = true) := by
        refine decide_eq_true ?_
        have h1 := HE.out
        rw [List.take_of_length_le (Nat.le_refl _), List.take_of_length_le (by rw [HM.out]; omega)] at h1
        exact h1
      go_wp2
      go_ret
      refine ⟨?_, _, rfl⟩
      rw [HN.out]
      rfl

theorem same_none (a a' : Option Addr) (cap cap' : Nat) (w : World) :
    Calls Tryd.prog 17 #[.slice a 0 cap, .slice a' 0 cap'] w fun e w' => e = .returned (.bool true) ∧ ∃ n, w' = w.drewN n := by
  go_enter Tryd.func17, Tryd.ntmps17
  go_wp2
  go_loop [13] (fun i => i = .int .i64 0) (fun _ => 0)
  case atStart => rfl
  case round =>
    obtain rfl := hrel
    go_wp2
    go_ret
    exact ⟨rfl, 0, rfl⟩
theorem same_not (a a' : Option Addr) (n n' cap cap' : Nat) (w : World) (h : ¬ n = n') :
    Calls Tryd.prog 17 #[.slice a n cap, .slice a' n' cap'] w fun e w' => e = .returned (.bool false) ∧ ∃ n, w' = w.drewN n := by
  have h' : ((n : Int) == (n' : Int)) = false := by simp; omega
  go_enter Tryd.func17, Tryd.ntmps17
  go_wp2
  go_ret
  exact ⟨rfl, 0, rfl⟩

theorem same_any (l m : List Int) (v v' : Value) (w : World) (hv : Bytes w v l) (hv' : Bytes w v' m) :
    Calls Tryd.prog 17 #[v, v'] w fun e w' => e = .returned (.bool (decide (l = m))) ∧ ∃ n, w' = w.drewN n := by
  by_cases hlm : l.length = m.length
  · rcases Nat.eq_zero_or_pos l.length with h0 | h0
    · obtain rfl : l = [] := List.length_eq_zero_iff.1 h0
      obtain rfl : m = [] := List.length_eq_zero_iff.1 hlm.symm
      obtain ⟨a, cap, rfl, _⟩ := hv.empty
      obtain ⟨a', cap', rfl, _⟩ := hv'.empty
      exact same_none a a' cap cap' w
    · obtain ⟨b, off, cap, rfl, h1, h2, hc⟩ := hv.lies h0
      obtain ⟨b', off', cap', rfl, _, _, hc'⟩ := hv'.lies (by omega)
      rw [← hlm]
      exact same_some l m b off cap b' off' cap' w hlm.symm h0 (by omega) hc hc'
  · obtain ⟨a, cap, rfl, _⟩ := hv.form
    obtain ⟨a', cap', rfl, _⟩ := hv'.form
    have e : decide (l = m) = false := decide_eq_false fun e => hlm (by rw [e])
    rw [e]
    exact same_not a a' _ _ cap cap' w hlm
end Go.Proofs.YtjmifgdjmaelfaaDoor
