/-
  What the document's Sum and Later (pappusref01) answer at this program, whatever numbers the slice bears.
-/
import Derived.Test.YtbeegcpmpgdbnaaDoorCalA
namespace Go.Proofs.YtbeegcpmpgdbnaaDoor
open Go.RowKit Go.Shelf

/-- What a round needs of the numbers: the list's next one, and what adding it comes to. -/
theorem round_num (t : Int) (l : List Int) (k : Nat) (hl : ∀ z ∈ l, Word z) (hlt : k < l.length) :
    ∃ z : Int, l.getD k 0 = z ∧ 0 ≤ z ∧ z < 18446744073709551616 ∧ t + tot (l.take (k + 1)) = t + tot (l.take k) + z ∧ (18446744073709551616 ≤ t + tot (l.take k) + z → 18446744073709551616 ≤ t + tot l) := by
  have hz := hl (l.getD k 0) (by simp [List.getD, hlt])
  have h1 := tot_snoc l k hlt
  have h2 := tot_take l (k + 1) (fun z hz => (hl z hz).1)
  exact ⟨l.getD k 0, rfl, hz.1, hz.2, by omega, by omega⟩
theorem start_num (t : Int) (l : List Int) (k : Nat) (ht : 0 ≤ t) (hl : ∀ z ∈ l, Word z) : 0 ≤ t + tot (l.take k) := by
  have := tot_nonneg (l.take k) (fun z hz => (hl z (List.mem_of_mem_take hz)).1)
  omega

set_option maxHeartbeats 1000000 in
theorem rsum_slice (l : List Int) (b off cap : Nat) (w : World) (hl : ∀ z ∈ l, Word z) (hlen : l.length ≤ 9223372036854775807) (hc : Bears w b off l) :
    Calls Tryd.prog 29 #[.slice (some ⟨b, off, none⟩) l.length cap] w fun e w' => e = .returned (.tuple #[.int .u64 (csumV l), .int .i64 (sumE l)]) ∧ w' = w := by
  have HL := hide hl
  have HC := hide hc
  clear hl hc
  go_enter Tryd.func29, Tryd.ntmps29
  go_wp2
  go_loop [4, 9] (fun x i => Added 0 l x i) (fun _ i => l.length - (intOf i).toNat)
  case atStart => exact ⟨0, Nat.zero_le _, rfl, by simp [tot], by simp [tot]⟩
  case round =>
    obtain ⟨k, hk, rfl, rfl, hfit⟩ := hrel
    have hS0 := start_num 0 l k (by omega) HL.out
    by_cases hlt : k < l.length
    · obtain ⟨z, hz, hz0, hz1, hn, ho⟩ := round_num 0 l k HL.out hlt
      have hcell := HC.out k hlt
      rw [hz] at hcell
      have HN := hide hn
      have HO := hide ho
      clear hn ho hz
      generalize hS : 0 + tot (l.take k) = S at *
      have HS := hide hS
      clear hS
      by_cases hov : S + z < 18446744073709551616
      · have e1 : ¬ 18446744073709551615 - S < z := by omega
        go_wp2
        go_round
        case rel => exact ⟨k + 1, hlt, by go_num, congrArg _ (by rw [HN.out]), by rw [HN.out]; omega⟩
        case measure => simp [intOf]; omega
      · have e1 : 18446744073709551615 - S < z := by omega
        have HE := hide (sum_not (l := l) (by have := HO.out (by omega); omega))
        go_wp2
        go_ret2
        refine ⟨?_, rfl⟩
        rw [HE.out.1, HE.out.2]
        rfl
    · have hkl : l.take k = l := List.take_of_length_le (by omega)
      rw [hkl] at hfit hS0 ⊢
      have HE := hide (sum_fit (l := l) (by omega))
      rw [Int.zero_add] at *
      go_wp2
      go_ret2
      refine ⟨?_, rfl⟩
      rw [HE.out.1, HE.out.2]
      rfl
theorem rsum_nil (a : Option Addr) (cap : Nat) (w : World) :
    Calls Tryd.prog 29 #[.slice a 0 cap] w fun e w' => e = .returned (.tuple #[.int .u64 (csumV []), .int .i64 (sumE [])]) ∧ w' = w := by
  obtain ⟨h1, h2⟩ := sum_fit (l := []) (by simp [tot])
  rw [h1, h2]
  simp only [tot]
  go_enter Tryd.func29, Tryd.ntmps29
  go_wp2
  go_loop [4, 9] (fun x i => x = .int .u64 0 ∧ i = .int .i64 0) (fun _ _ => 0)
  case atStart => exact ⟨rfl, rfl⟩
  case round =>
    obtain ⟨rfl, rfl⟩ := hrel
    go_wp2
    go_ret2
    exact ⟨rfl, rfl⟩
theorem crsum_any (l : List Int) (v : Value) (w : World) (hl : ∀ z ∈ l, Word z) (hv : Slice w v l) :
    Calls Tryd.prog 29 #[v] w fun e w' => e = .returned (.tuple #[.int .u64 (csumV l), .int .i64 (sumE l)]) ∧ w' = w := by
  rcases hv with ⟨a, cap, rfl, rfl⟩ | ⟨b, off, cap, rfl, hc, hlen⟩
  · exact rsum_nil a cap w
  · exact rsum_slice l b off cap w hl hlen hc

end Go.Proofs.YtbeegcpmpgdbnaaDoor
