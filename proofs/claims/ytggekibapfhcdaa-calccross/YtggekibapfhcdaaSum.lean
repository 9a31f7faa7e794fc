/-
  What calc.add, calc.Sum and calc.Later answer at this program, whatever numbers the slice bears.
-/
import Derived.Test.YtggekibapfhcdaaCmp
import Derived.LoopTactic
import Derived.Outline
namespace Go.Proofs.Ytggekibapfhcdaa
open Go.RowKit Go.Shelf

/-- The slice bears the list. -/
def Bears (w : World) (b off : Nat) (l : List Int) : Prop := ∀ i, i < l.length → w.cell? ⟨b, off + i, none⟩ = some (.int .u64 (l.getD i 0))
/-- What holds at a round's head. -/
def Added (t : Int) (l : List Int) (x i : Value) : Prop := ∃ k : Nat, k ≤ l.length ∧ i = .int .i64 k ∧ x = .int .u64 (t + tot (l.take k)) ∧ t + tot (l.take k) < 18446744073709551616

set_option maxHeartbeats 1000000 in
theorem add_slice (t : Int) (l : List Int) (b off cap : Nat) (w : World) (ht : Word t) (hl : ∀ z ∈ l, Word z) (hlen : l.length ≤ 9223372036854775807) (hc : Bears w b off l) :
    Calls Try.prog 20 #[.int .u64 t, .slice (some ⟨b, off, none⟩) l.length cap] w fun e w' => e = .returned (.tuple #[.int .u64 (addV t l), .bool (addB t l)]) ∧ w' = w := by
  have hpos : ∀ z ∈ l, 0 ≤ z := fun z hz => (hl z hz).1
  obtain ⟨ht0, ht1⟩ := ht
  have HL := hide hl
  have HP := hide hpos
  have HC := hide hc
  clear hl hpos hc
  go_enter Try.func20, Try.ntmps20
  go_wp2
  go_loop [0, 12] (fun x i => Added t l x i) (fun _ i => l.length - (intOf i).toNat)
  case atStart => exact ⟨0, Nat.zero_le _, rfl, by simp [tot], by simp [tot]; omega⟩
  case round =>
    obtain ⟨k, hk, rfl, rfl, hfit⟩ := hrel
    have hs0 := tot_nonneg (l.take k) (fun z hz => HP.out z (List.mem_of_mem_take hz))
    have HT : Hid (tot (l.take k) ≤ tot l) := tot_take l k HP.out
    generalize hS : t + tot (l.take k) = S at *
    have HS := hide hS
    have hS0 : 0 ≤ S := by omega
    clear hS
    by_cases hlt : k < l.length
    · have hz := HL.out (l.getD k 0) (by simp [List.getD, hlt])
      obtain ⟨hz0, hz1⟩ := hz
      have hcell := HC.out k hlt
      have HN : Hid (tot (l.take (k + 1)) = tot (l.take k) + l.getD k 0) := tot_snoc l k hlt
      have HT1 : Hid (tot (l.take (k + 1)) ≤ tot l) := tot_take l (k + 1) HP.out
      generalize hzz : l.getD k 0 = z at *
      clear hzz
      by_cases hov : S + z < 18446744073709551616
      · have e1 : (S + z) % 18446744073709551616 = S + z := by omega
        have e2 : (S + z) / 18446744073709551616 = 0 := by omega
        have HO := hide hov
        go_wp2_with (simp only [add64 S z hS0 hz0])
        go_round
        case rel => exact ⟨k + 1, hlt, by go_num, congrArg _ (by rw [HN.out, ← HS.out]; omega), by rw [HN.out]; have := HS.out; have := HO.out; omega⟩
        case measure => simp [intOf]; omega
      · have e1 : (S + z) / 18446744073709551616 = 1 := by omega
        have HE : Hid (18446744073709551616 ≤ t + tot l) := by
          show 18446744073709551616 ≤ t + tot l
          have h1 := HN.out; have h2 := HT1.out; have h3 := HS.out
          omega
        go_wp2_with (simp only [add64 S z hS0 hz0])
        go_ret2
        refine ⟨?_, rfl⟩
        rw [addV_over HE.out, addB_over HE.out]
        rfl
    · have hkl : l.take k = l := List.take_of_length_le (by omega)
      rw [hkl] at HS
      clear hkl
      have HO := hide hfit
      go_wp2
      go_ret2
      refine ⟨?_, rfl⟩
      rw [addV_fits (by rw [HS.out]; exact HO.out), addB_fits (by rw [HS.out]; exact HO.out), HS.out]
      rfl

theorem add_nil (t : Int) (a : Option Addr) (cap : Nat) (w : World) (ht : Word t) :
    Calls Try.prog 20 #[.int .u64 t, .slice a 0 cap] w fun e w' => e = .returned (.tuple #[.int .u64 (addV t []), .bool (addB t [])]) ∧ w' = w := by
  rw [addV_fits (by simp only [tot]; have := ht.2; omega), addB_fits (by simp only [tot]; have := ht.2; omega)]
  simp only [tot, Int.add_zero]
  go_enter Try.func20, Try.ntmps20
  go_wp2
  go_loop [0, 12] (fun x i => x = .int .u64 t ∧ i = .int .i64 0) (fun _ _ => 0)
  case atStart => exact ⟨rfl, rfl⟩
  case round =>
    obtain ⟨rfl, rfl⟩ := hrel
    go_wp2
    go_ret2
    exact ⟨rfl, rfl⟩

/-- A slice that bears a list: no matter where, for an empty one, or some place. -/
def Slice (w : World) (v : Value) (l : List Int) : Prop := (∃ (a : Option Addr) (cap : Nat), v = .slice a 0 cap ∧ l = []) ∨ ∃ b off cap : Nat, v = .slice (some ⟨b, off, none⟩) l.length cap ∧ Bears w b off l ∧ l.length ≤ 9223372036854775807

theorem add_any (t : Int) (l : List Int) (v : Value) (w : World) (ht : Word t) (hl : ∀ z ∈ l, Word z) (hv : Slice w v l) :
    Calls Try.prog 20 #[.int .u64 t, v] w fun e w' => e = .returned (.tuple #[.int .u64 (addV t l), .bool (addB t l)]) ∧ w' = w := by
  rcases hv with ⟨a, cap, rfl, rfl⟩ | ⟨b, off, cap, rfl, hc, hlen⟩
  · exact add_nil t a cap w ht
  · exact add_slice t l b off cap w ht hl hlen hc

/-- calc.Sum, where the sum is a number. -/
theorem sum_fits (l : List Int) (v : Value) (w : World) (hl : ∀ z ∈ l, Word z) (hv : Slice w v l) (hf : tot l < 18446744073709551616) :
    Calls Try.prog 10 #[v] w fun e w' => e = .returned (.tuple #[.int .u64 (tot l), .int .i64 0]) ∧ w' = w := by
  have D := hide (add_any 0 l v w ⟨by omega, by omega⟩ hl hv)
  rw [addV_fits (by omega), addB_fits (by omega), Int.zero_add] at D
  clear hl hv hf
  generalize tot l = s at *
  go_enter Try.func10, Try.ntmps10
  go_wp2_with fail
  refine D.out.mono ?_
  rintro e w' ⟨rfl, rfl⟩
  go_wp2
  go_ret2
  exact ⟨rfl, rfl⟩
theorem sum_over (l : List Int) (v : Value) (w : World) (hl : ∀ z ∈ l, Word z) (hv : Slice w v l) (hf : 18446744073709551616 ≤ tot l) :
    Calls Try.prog 10 #[v] w fun e w' => e = .returned (.tuple #[.int .u64 0, .int .i64 3]) ∧ w' = w := by
  have D := hide (add_any 0 l v w ⟨by omega, by omega⟩ hl hv)
  rw [addV_over (by omega), addB_over (by omega)] at D
  clear hl hv hf
  go_enter Try.func10, Try.ntmps10
  go_wp2_with fail
  refine D.out.mono ?_
  rintro e w' ⟨rfl, rfl⟩
  go_wp2
  go_ret2
  exact ⟨rfl, rfl⟩
/-- calc.Later: the time, or the greatest number. -/
def laterV (t : Int) (l : List Int) : Int := if t + tot l < 18446744073709551616 then t + tot l else 18446744073709551615
theorem laterV_fits {t : Int} {l : List Int} (h : t + tot l < 18446744073709551616) : laterV t l = t + tot l := by simp [laterV, h]
theorem laterV_over {t : Int} {l : List Int} (h : 18446744073709551616 ≤ t + tot l) : laterV t l = 18446744073709551615 := by
  have : ¬ t + tot l < 18446744073709551616 := by omega
  simp [laterV, this]
theorem later_any (t : Int) (l : List Int) (v : Value) (w : World) (ht : Word t) (hl : ∀ z ∈ l, Word z) (hv : Slice w v l) :
    Calls Try.prog 12 #[.int .u64 t, v] w fun e w' => e = .returned (.int .u64 (laterV t l)) ∧ w' = w := by
  have D := hide (add_any t l v w ht hl hv)
  by_cases h : t + tot l < 18446744073709551616
  · rw [addV_fits h, addB_fits h] at D
    rw [laterV_fits h]
    clear hl hv h ht
    generalize t + tot l = s at *
    go_enter Try.func12, Try.ntmps12
    go_wp2_with fail
    refine D.out.mono ?_
    rintro e w' ⟨rfl, rfl⟩
    go_wp2
    go_ret
    exact ⟨rfl, rfl⟩
  · rw [addV_over (by omega), addB_over (by omega)] at D
    rw [laterV_over (by omega)]
    clear hl hv h ht
    go_enter Try.func12, Try.ntmps12
    go_wp2_with fail
    refine D.out.mono ?_
    rintro e w' ⟨rfl, rfl⟩
    go_wp2
    go_ret
    exact ⟨rfl, rfl⟩

theorem Slice.form {w : World} {v : Value} {l : List Int} (h : Slice w v l) : ∃ (a : Option Addr) (cap : Nat), v = .slice a l.length cap := by
  rcases h with ⟨a, cap, rfl, rfl⟩ | ⟨b, off, cap, rfl, _, _⟩
  · exact ⟨a, cap, rfl⟩
  · exact ⟨_, cap, rfl⟩

/-- The sum, and whether it is one. -/
def sumV (l : List Int) : Int := if tot l < 18446744073709551616 then tot l else 0
def sumE (l : List Int) : Int := if tot l < 18446744073709551616 then 0 else 3
theorem sum_fit {l : List Int} (h : tot l < 18446744073709551616) : sumV l = tot l ∧ sumE l = 0 := by simp [sumV, sumE, h]
theorem sum_not {l : List Int} (h : 18446744073709551616 ≤ tot l) : sumV l = 0 ∧ sumE l = 3 := by
  have : ¬ tot l < 18446744073709551616 := by omega
  simp [sumV, sumE, this]
theorem sum_any (l : List Int) (v : Value) (w : World) (hl : ∀ z ∈ l, Word z) (hv : Slice w v l) :
    Calls Try.prog 10 #[v] w fun e w' => e = .returned (.tuple #[.int .u64 (sumV l), .int .i64 (sumE l)]) ∧ w' = w := by
  by_cases h : tot l < 18446744073709551616
  · obtain ⟨h1, h2⟩ := sum_fit h
    rw [h1, h2]; exact sum_fits l v w hl hv h
  · obtain ⟨h1, h2⟩ := sum_not (l := l) (by omega)
    rw [h1, h2]; exact sum_over l v w hl hv (by omega)

end Go.Proofs.Ytggekibapfhcdaa
