/-
  What pappuslaw03.heavy answers at this program.
-/
import Derived.Test.YtiialpnackjakaaDoorShaApi
namespace Go.Proofs.YtiialpnackjakaaDoor
open Go.RowKit

/-- How many bytes pieces have. -/
def total (L : List (List Int)) : Nat := L.flatten.length
theorem total_take (L : List (List Int)) (k : Nat) (h : k < L.length) : total (L.take (k + 1)) = total (L.take k) + (L.getD k []).length := by
  rw [total, total, flat_part L k h, List.length_append]
/-- What holds at the head of a round of heavy. -/
def Weighed (L : List (List Int)) (n i : Value) : Prop := ∃ k : Nat, k ≤ L.length ∧ i = .int .i64 k ∧ n = .int .i64 (total (L.take k) : Nat) ∧ total (L.take k) ≤ 4000
/-- What heavy comes to. -/
def HeavyDone (w : World) (L : List (List Int)) (e : Ending) (w' : World) : Prop := w' = w ∧ (e = .returned (.bool true) ∨ (e = .returned (.bool false) ∧ L.length ≤ 200 ∧ total L ≤ 4000))

set_option maxHeartbeats 400000 in
theorem heavy_some (L : List (List Int)) (b off cap : Nat) (w : World) (hn : L.length ≤ 200)
    (hc : ∀ i, i < L.length → ∃ p, w.cell? ⟨b, off + i, none⟩ = some p ∧ Bytes w p (L.getD i [])) :
    Calls Tryd.prog 6 #[.slice (some ⟨b, off, none⟩) L.length cap] w fun e w' => HeavyDone w L e w' := by
  have HC := hide hc
  have hn1 : ¬ (200 : Int) < (L.length : Int) := by omega
  clear hc
  go_enter Tryd.func6, Tryd.ntmps6
  go_wp2
  go_loop [3, 11] (fun n i => Weighed L n i) (fun _ i => L.length - (intOf i).toNat)
  case atStart => exact ⟨0, Nat.zero_le _, rfl, rfl, by simp [total]⟩
  case round =>
    obtain ⟨k, hk, rfl, rfl, ht⟩ := hrel
    by_cases hlt : k < L.length
    · obtain ⟨p, hcell, hbytes⟩ := HC.out k hlt
      obtain ⟨a', cap', rfl, hc1, hc2⟩ := hbytes.form
      have HT := hide (total_take L k hlt)
      clear hbytes
      generalize hs : total (L.take k) = s at *
      generalize hm : (L.getD k []).length = m at *
      have HS := hide hs
      have HM := hide hm
      clear hs hm
      by_cases hbig : m ≤ 4000
      · by_cases hov : s + m ≤ 4000
        · have h1 : ¬ (4000 : Int) < (s : Int) + (m : Int) := by omega
          have R : Hid (Weighed L (.int .i64 ((s : Int) + (m : Int))) (.int .i64 ((k : Int) + 1))) := by
            refine ⟨k + 1, hlt, by go_num, congrArg _ ?_, ?_⟩
            · rw [HT.out]; omega
            · rw [HT.out]; omega
          go_wp2
          go_round
          case rel => exact R.out
          case measure => simp [intOf]; omega
        · have h1 : (4000 : Int) < (s : Int) + (m : Int) := by omega
          go_wp2
          go_ret
          exact ⟨rfl, Or.inl rfl⟩
      · have h1 : (4000 : Int) < (s : Int) + 4001 := by omega
        have h2 : ¬ (m : Int) ≤ 4001 ∨ (m : Int) = 4001 := by omega
        rcases h2 with h2 | h2
        · go_wp2
          go_ret
          exact ⟨rfl, Or.inl rfl⟩
        · go_wp2
          go_ret
          exact ⟨rfl, Or.inl rfl⟩
    · have R : Hid (HeavyDone w L (.returned (.bool false)) w) := ⟨rfl, Or.inr ⟨rfl, hn, by rw [List.take_of_length_le (by omega)] at ht; exact ht⟩⟩
      clear ht
      generalize total (L.take k) = s at *
      go_wp2
      go_ret
      exact R.out
theorem heavy_none (a : Option Addr) (cap : Nat) (w : World) :
    Calls Tryd.prog 6 #[.slice a 0 cap] w fun e w' => HeavyDone w [] e w' := by
  have R : Hid (HeavyDone w [] (.returned (.bool false)) w) := ⟨rfl, Or.inr ⟨rfl, by simp, by simp [total]⟩⟩
  go_enter Tryd.func6, Tryd.ntmps6
  go_wp2
  go_loop [3, 11] (fun n i => n = .int .i64 0 ∧ i = .int .i64 0) (fun _ _ => 0)
  case atStart => exact ⟨rfl, rfl⟩
  case round =>
    obtain ⟨rfl, rfl⟩ := hrel
    go_wp2
    go_ret
    exact R.out
theorem heavy_many (L : List (List Int)) (a : Option Addr) (n cap : Nat) (w : World) (hn : 200 < n) :
    Calls Tryd.prog 6 #[.slice a n cap] w fun e w' => HeavyDone w L e w' := by
  have h1 : (200 : Int) < (n : Int) := by omega
  go_enter Tryd.func6, Tryd.ntmps6
  go_wp2
  go_ret
  exact ⟨rfl, Or.inl rfl⟩
theorem heavy_any (L : List (List Int)) (v : Value) (w : World) (hv : Parts w v L) :
    Calls Tryd.prog 6 #[v] w fun e w' => HeavyDone w L e w' := by
  rcases Nat.eq_zero_or_pos L.length with h0 | h0
  · obtain rfl : L = [] := List.length_eq_zero_iff.1 h0
    obtain ⟨a, cap, rfl, _⟩ := hv.empty
    exact heavy_none a cap w
  · by_cases hn : L.length ≤ 200
    · obtain ⟨b, off, cap, rfl, h1, h2, hc⟩ := hv.lies h0
      exact heavy_some L b off cap w hn hc
    · obtain ⟨a, cap, rfl, _⟩ := hv.form
      exact heavy_many L a _ cap w (by omega)

end Go.Proofs.YtiialpnackjakaaDoor
