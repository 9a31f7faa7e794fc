import Derived.Test.YtbeegcpmpgdbnaaDoorShelf
import Derived.Test.YtbeegcpmpgdbnaaDoorKit
import Derived.WalkKit
import Derived.WalkSpells
import Derived.Laws.Externs
import Derived.Shelf.Spec.BitsCarry
import Derived.LoopTactic
import Derived.Outline
/-
  Plain numbers, with no word of the program: the comparison of two products, the two steps of a long division by halves, sums that stop.
-/
namespace Go.Proofs.YtbeegcpmpgdbnaaDoor

/-- How two numbers compare. -/
def cmpI (x y : Int) : Int := if x < y then -1 else if y < x then 1 else 0
theorem cmpI_lt {x y : Int} (h : x < y) : cmpI x y = -1 := by simp [cmpI, h]
theorem cmpI_gt {x y : Int} (h : y < x) : cmpI x y = 1 := by
  have : ¬ x < y := by omega
  simp [cmpI, h, this]
theorem cmpI_eq {x y : Int} (h : x = y) : cmpI x y = 0 := by
  subst h; simp [cmpI]
theorem cmpI_cases (x y : Int) : (x < y ∧ cmpI x y = -1) ∨ (x = y ∧ cmpI x y = 0) ∨ (y < x ∧ cmpI x y = 1) := by
  rcases Int.lt_trichotomy x y with h | h | h
  · exact Or.inl ⟨h, cmpI_lt h⟩
  · exact Or.inr (Or.inl ⟨h, cmpI_eq h⟩)
  · exact Or.inr (Or.inr ⟨h, cmpI_gt h⟩)
theorem cmpI_hi {x y : Nat} (h : x / 18446744073709551616 ≠ y / 18446744073709551616) :
    cmpI ((x / 18446744073709551616 : Nat) : Int) ((y / 18446744073709551616 : Nat) : Int) = cmpI (x : Int) (y : Int) := by
  rcases Nat.lt_trichotomy (x / 18446744073709551616) (y / 18446744073709551616) with g | g | g
  · rw [cmpI_lt (by omega), cmpI_lt (by omega)]
  · exact absurd g h
  · rw [cmpI_gt (by omega), cmpI_gt (by omega)]
theorem cmpI_lo {x y : Nat} (h : x / 18446744073709551616 = y / 18446744073709551616) :
    cmpI ((x % 18446744073709551616 : Nat) : Int) ((y % 18446744073709551616 : Nat) : Int) = cmpI (x : Int) (y : Int) := by
  rcases Nat.lt_trichotomy (x % 18446744073709551616) (y % 18446744073709551616) with g | g | g
  · rw [cmpI_lt (by omega), cmpI_lt (by omega)]
  · rw [cmpI_eq (by omega), cmpI_eq (by omega)]
  · rw [cmpI_gt (by omega), cmpI_gt (by omega)]

/-! One digit of a long division: U and u over a and b (a whole number of two halves over one that is at least half full), in base B. -/
theorem dig_top {a b U B : Nat} (hb : b < B) (hU : U < a * B + b) (ha : B ≤ 2 * a) : U / a ≤ B + 1 := by
  have h : U < a * (B + 2) := by rw [Nat.mul_add]; omega
  have := Nat.div_lt_of_lt_mul h
  omega
theorem dig_lt {a b U u B : Nat} (hU : U < a * B + b) (hu : u < B) : (U * B + u) / (a * B + b) < B := by
  apply Nat.div_lt_of_lt_mul
  have h1 : (U + 1) * B ≤ (a * B + b) * B := Nat.mul_le_mul_right B hU
  rw [Nat.add_mul] at h1
  omega
theorem dig_ge {a b U u B : Nat} (ha : 0 < a) (hu : u < B) : (U * B + u) / (a * B + b) ≤ U / a := by
  rw [Nat.le_div_iff_mul_le ha]
  have hB : 0 < B := by omega
  generalize hQ : (U * B + u) / (a * B + b) = Q
  have h1 : Q * (a * B + b) ≤ U * B + u := by rw [← hQ]; exact Nat.div_mul_le_self _ _
  rw [Nat.mul_add, ← Nat.mul_assoc] at h1
  have h2 : Q * a * B < (U + 1) * B := by rw [Nat.add_mul]; omega
  have := Nat.lt_of_mul_lt_mul_right h2
  omega
theorem dig_down {a b U u B q r : Nat} (hY : 0 < a * B + b) (hU : U < a * B + b) (hu : u < B) (h : q * a + r = U) (ht : B ≤ q ∨ B * r + u < q * b) :
    (U * B + u) / (a * B + b) < q := by
  rcases ht with ht | ht
  · exact Nat.lt_of_lt_of_le (dig_lt hU hu) ht
  · rw [Nat.div_lt_iff_lt_mul hY, ← h, Nat.mul_add, Nat.add_mul, ← Nat.mul_assoc, Nat.mul_comm r B]
    omega
theorem dig_end {a b U u B q r : Nat} (hY : 0 < a * B + b) (h : q * a + r = U) (hQ : (U * B + u) / (a * B + b) ≤ q) (ht : q * b ≤ B * r + u) :
    (U * B + u) / (a * B + b) = q := by
  refine Nat.le_antisymm hQ ?_
  rw [Nat.le_div_iff_mul_le hY, ← h, Nat.mul_add, Nat.add_mul, ← Nat.mul_assoc, Nat.mul_comm r B]
  omega
theorem dig_full {b u B q r : Nat} (hb : b < B) (hq : q ≤ B) (hr : B ≤ r) : q * b ≤ B * r + u := by
  have h1 : q * b ≤ B * b := Nat.mul_le_mul_right b hq
  have h2 : B * b ≤ B * r := Nat.mul_le_mul_left B (by omega)
  omega
theorem dig_two {X Y B u : Nat} (hY : 0 < Y) : (X * B + u) / Y = X / Y * B + (X % Y * B + u) / Y := by
  have h : X * B + u = Y * (X / Y * B) + (X % Y * B + u) := by
    have e := Nat.div_add_mod X Y
    have e2 : X * B = (Y * (X / Y) + X % Y) * B := by rw [e]
    rw [e2, Nat.add_mul, Nat.mul_assoc]
    omega
  rw [h, Nat.mul_add_div hY]

/-- A guess of a digit that isn't too low. -/
def Guess (a b U u B q r : Nat) : Prop := q * a + r = U ∧ q ≤ B + 1 ∧ (U * B + u) / (a * B + b) ≤ q
theorem guess_start {a b U u B : Nat} (hb : b < B) (hU : U < a * B + b) (ha : B ≤ 2 * a) (hu : u < B) : Guess a b U u B (U / a) (U % a) :=
  ⟨by rw [Nat.mul_comm]; exact Nat.div_add_mod U a, dig_top hb hU ha, dig_ge (by omega) hu⟩
/-- A round: the guess is lowered by one and goes on, or is lowered and done, or is done as it is. -/
theorem guess_round {a b U u B q r : Nat} (hb : b < B) (hU : U < a * B + b) (hu : u < B) (h : Guess a b U u B q r) :
    (∃ k, q = k + 1 ∧ r + a < B ∧ B ≤ k + 1 ∧ Guess a b U u B k (r + a)) ∨
    (∃ k, q = k + 1 ∧ r + a < B ∧ k + 1 < B ∧ B * r + u < (k + 1) * b ∧ Guess a b U u B k (r + a)) ∨
    (∃ k, q = k + 1 ∧ B ≤ r + a ∧ B ≤ k + 1 ∧ k ≤ B ∧ (U * B + u) / (a * B + b) = k) ∨
    (∃ k, q = k + 1 ∧ B ≤ r + a ∧ k + 1 < B ∧ B * r + u < (k + 1) * b ∧ (U * B + u) / (a * B + b) = k) ∨
    (∃ k, q = k ∧ k < B ∧ k * b ≤ B * r + u ∧ (U * B + u) / (a * B + b) = k) := by
  obtain ⟨h1, h2, h3⟩ := h
  have hY : 0 < a * B + b := by omega
  by_cases c1 : B ≤ q
  · obtain ⟨k, rfl⟩ : ∃ k, q = k + 1 := ⟨q - 1, by omega⟩
    have hd := dig_down hY hU hu h1 (Or.inl c1)
    have hs : k * a + (r + a) = U := by rw [Nat.add_mul] at h1; omega
    by_cases c2 : r + a < B
    · exact Or.inl ⟨k, rfl, c2, c1, hs, by omega, by omega⟩
    · exact Or.inr (Or.inr (Or.inl ⟨k, rfl, by omega, c1, by omega, dig_end hY hs (by omega) (dig_full hb (by omega) (by omega))⟩))
  · by_cases c3 : B * r + u < q * b
    · obtain ⟨k, rfl⟩ : ∃ k, q = k + 1 := ⟨q - 1, by
        rcases Nat.eq_zero_or_pos q with e | e
        · rw [e, Nat.zero_mul] at c3; omega
        · omega⟩
      have hd := dig_down hY hU hu h1 (Or.inr c3)
      have hs : k * a + (r + a) = U := by rw [Nat.add_mul] at h1; omega
      by_cases c2 : r + a < B
      · exact Or.inr (Or.inl ⟨k, rfl, c2, by omega, c3, hs, by omega, by omega⟩)
      · exact Or.inr (Or.inr (Or.inr (Or.inl ⟨k, rfl, by omega, by omega, c3, dig_end hY hs (by omega) (dig_full hb (by omega) (by omega))⟩)))
    · exact Or.inr (Or.inr (Or.inr (Or.inr ⟨q, rfl, by omega, by omega, dig_end hY h1 h3 (by omega)⟩)))

/-! Sums. -/
def tot : List Int → Int
  | [] => 0
  | x :: l => x + tot l
theorem tot_append (a b : List Int) : tot (a ++ b) = tot a + tot b := by
  induction a with
  | nil => simp [tot]
  | cons x l ih => simp only [List.cons_append, tot, ih]; omega
theorem tot_snoc (l : List Int) (k : Nat) (h : k < l.length) : tot (l.take (k + 1)) = tot (l.take k) + l.getD k 0 := by
  rw [List.take_succ_eq_append_getElem h, tot_append]
  simp [tot, List.getD, h]
theorem tot_nonneg (l : List Int) (h : ∀ z ∈ l, 0 ≤ z) : 0 ≤ tot l := by
  induction l with
  | nil => simp [tot]
  | cons x l ih =>
    have h1 := h x (by simp)
    have h2 := ih (fun z hz => h z (by simp [hz]))
    simp only [tot]; omega
theorem tot_take (l : List Int) (k : Nat) (h : ∀ z ∈ l, 0 ≤ z) : tot (l.take k) ≤ tot l := by
  have e : tot l = tot (l.take k) + tot (l.drop k) := by rw [← tot_append, List.take_append_drop]
  have := tot_nonneg (l.drop k) (fun z hz => h z (List.mem_of_mem_drop hz))
  omega
/-- What adding comes to, and whether it fits. -/
def addV (t : Int) (l : List Int) : Int := if t + tot l < 18446744073709551616 then t + tot l else 0
def addB (t : Int) (l : List Int) : Bool := decide (t + tot l < 18446744073709551616)
theorem addV_fits {t : Int} {l : List Int} (h : t + tot l < 18446744073709551616) : addV t l = t + tot l := by simp [addV, h]
theorem addB_fits {t : Int} {l : List Int} (h : t + tot l < 18446744073709551616) : addB t l = true := by simp [addB, h]
theorem addV_over {t : Int} {l : List Int} (h : 18446744073709551616 ≤ t + tot l) : addV t l = 0 := by
  have : ¬ t + tot l < 18446744073709551616 := by omega
  simp [addV, this]
theorem addB_over {t : Int} {l : List Int} (h : 18446744073709551616 ≤ t + tot l) : addB t l = false := by
  have : ¬ t + tot l < 18446744073709551616 := by omega
  simp [addB, this]

end Go.Proofs.YtbeegcpmpgdbnaaDoor

/-
  What calc.Cmp, math/bits.Add64 and cmp.Compare answer at this program, whatever the numbers.
-/
namespace Go.Proofs.YtbeegcpmpgdbnaaDoor
open Go.RowKit Go.Shelf

theorem add64 (x y : Int) (hx : 0 ≤ x) (hy : 0 ≤ y) (w : World) : (callFunc 49 #[.int .u64 x, .int .u64 y, .int .u64 0]).run Tryd.prog w =
    .ok (.value (.tuple #[.int .u64 ((x + y) % 18446744073709551616), .int .u64 ((x + y) / 18446744073709551616)])) w := by
  obtain ⟨x, rfl⟩ := Int.eq_ofNat_of_zero_le hx
  obtain ⟨y, rfl⟩ := Int.eq_ofNat_of_zero_le hy
  rw [run_callFunc_extern Tryd.func49 (by kernel_rfl) (by kernel_rfl) (by kernel_rfl) (e := add64Entry) (by kernel_rfl), run_add64 (x : Int) (y : Int) 0 (by omega) (by omega) (by omega) (by omega)]
  simp only [Result.andThen]
  congr 5 <;> omega

theorem compare_any (x y : Int) (w : World) :
    Calls Tryd.prog 61 #[.int .u64 x, .int .u64 y] w fun e w' => e = .returned (.int .i64 (cmpI x y)) ∧ w' = w := by
  rcases cmpI_cases x y with ⟨h, hc⟩ | ⟨h, hc⟩ | ⟨h, hc⟩
  · rw [hc]
    clear hc
    go_enter Tryd.func61, Tryd.ntmps61
    go_wp2
    go_ret
    exact ⟨rfl, rfl⟩
  · rw [hc]
    clear hc
    subst h
    go_enter Tryd.func61, Tryd.ntmps61
    go_wp2
    go_ret
    exact ⟨rfl, rfl⟩
  · rw [hc]
    clear hc
    have h' : ¬ x < y := by omega
    go_enter Tryd.func61, Tryd.ntmps61
    go_wp2
    go_ret
    exact ⟨rfl, rfl⟩

/-- calc.Cmp: two whole products, compared. -/
theorem cmp_any (a b c d : Int) (ha : Word a) (hb : Word b) (hc : Word c) (hd : Word d) (w : World) :
    Calls Tryd.prog 54 #[.int .u64 a, .int .u64 b, .int .u64 c, .int .u64 d] w fun e w' => e = .returned (.int .i64 (cmpI (a * b) (c * d))) ∧ w' = w := by
  obtain ⟨ha0, ha1⟩ := ha; obtain ⟨hb0, hb1⟩ := hb; obtain ⟨hc0, hc1⟩ := hc; obtain ⟨hd0, hd1⟩ := hd
  obtain ⟨a, rfl⟩ := Int.eq_ofNat_of_zero_le ha0
  obtain ⟨b, rfl⟩ := Int.eq_ofNat_of_zero_le hb0
  obtain ⟨c, rfl⟩ := Int.eq_ofNat_of_zero_le hc0
  obtain ⟨d, rfl⟩ := Int.eq_ofNat_of_zero_le hd0
  rw [← Int.natCast_mul, ← Int.natCast_mul]
  have m1 := fun w => Tryd.bits_Mul64 a b (by omega) (by omega) w
  have m2 := fun w => Tryd.bits_Mul64 c d (by omega) (by omega) w
  have M1 := hide m1
  have M2 := hide m2
  clear m1 m2 ha0 ha1 hb0 hb1 hc0 hc1 hd0 hd1
  by_cases h : a * b / 18446744073709551616 = c * d / 18446744073709551616
  · have e1 := cmpI_lo h
    rw [← e1]
    clear e1
    generalize a * b / 18446744073709551616 = h1 at *
    generalize a * b % 18446744073709551616 = l1 at *
    generalize c * d / 18446744073709551616 = h2 at *
    generalize c * d % 18446744073709551616 = l2 at *
    subst h
    go_enter Tryd.func54, Tryd.ntmps54
    go_wp2_with fail
    refine (M1.out _).mono ?_
    rintro e w' ⟨rfl, rfl⟩
    go_wp2_with fail
    refine (M2.out _).mono ?_
    rintro e w' ⟨rfl, rfl⟩
    go_wp2_with fail
    refine (compare_any _ _ _).mono ?_
    rintro e w' ⟨rfl, rfl⟩
    go_wp2
    go_ret
    exact ⟨rfl, rfl⟩
  · have e1 := cmpI_hi h
    rw [← e1]
    clear e1
    have hne : (((a * b / 18446744073709551616 : Nat) : Int) == ((c * d / 18446744073709551616 : Nat) : Int)) = false := by
      rw [beq_eq_false_iff_ne]; omega
    generalize a * b / 18446744073709551616 = h1 at *
    generalize a * b % 18446744073709551616 = l1 at *
    generalize c * d / 18446744073709551616 = h2 at *
    generalize c * d % 18446744073709551616 = l2 at *
    clear h
    go_enter Tryd.func54, Tryd.ntmps54
    go_wp2_with fail
    refine (M1.out _).mono ?_
    rintro e w' ⟨rfl, rfl⟩
    go_wp2_with fail
    refine (M2.out _).mono ?_
    rintro e w' ⟨rfl, rfl⟩
    go_wp2_with fail
    refine (compare_any _ _ _).mono ?_
    rintro e w' ⟨rfl, rfl⟩
    go_wp2
    go_ret
    exact ⟨rfl, rfl⟩

end Go.Proofs.YtbeegcpmpgdbnaaDoor

/-
  What calc.add, calc.Sum and calc.Later answer at this program, whatever numbers the slice bears.
-/
namespace Go.Proofs.YtbeegcpmpgdbnaaDoor
open Go.RowKit Go.Shelf

/-- The slice bears the list. -/
def Bears (w : World) (b off : Nat) (l : List Int) : Prop := ∀ i, i < l.length → w.cell? ⟨b, off + i, none⟩ = some (.int .u64 (l.getD i 0))
/-- What holds at a round's head. -/
def Added (t : Int) (l : List Int) (x i : Value) : Prop := ∃ k : Nat, k ≤ l.length ∧ i = .int .i64 k ∧ x = .int .u64 (t + tot (l.take k)) ∧ t + tot (l.take k) < 18446744073709551616

set_option maxHeartbeats 1000000 in
theorem add_slice (t : Int) (l : List Int) (b off cap : Nat) (w : World) (ht : Word t) (hl : ∀ z ∈ l, Word z) (hlen : l.length ≤ 9223372036854775807) (hc : Bears w b off l) :
    Calls Tryd.prog 42 #[.int .u64 t, .slice (some ⟨b, off, none⟩) l.length cap] w fun e w' => e = .returned (.tuple #[.int .u64 (addV t l), .bool (addB t l)]) ∧ w' = w := by
  have hpos : ∀ z ∈ l, 0 ≤ z := fun z hz => (hl z hz).1
  obtain ⟨ht0, ht1⟩ := ht
  have HL := hide hl
  have HP := hide hpos
  have HC := hide hc
  clear hl hpos hc
  go_enter Tryd.func42, Tryd.ntmps42
  go_wp2
  go_loop [0, 12] (fun x i => Added t l x i) (fun _ i => l.length - (intOf i).toNat)
  case atStart => exact ⟨0, Nat.zero_le _, rfl, by simp [tot], by simp [tot]; omega⟩
  case round =>
    obtain ⟨k, hk, rfl, rfl, hfit⟩ := hrel
    have hs0 := tot_nonneg (l.take k) (fun z hz => HP.out z (List.mem_of_mem_take hz))
    have HT : Hid (tot (l.take k) ≤ tot l) := tot_take l k HP.out
    generalize hS : t + tot (l.take k) = S at *
    have HS := hide hS
    have hS0 : 0 ≤ S := by omega
    clear hS
    by_cases hlt : k < l.length
    · have hz := HL.out (l.getD k 0) (by simp [List.getD, hlt])
      obtain ⟨hz0, hz1⟩ := hz
      have hcell := HC.out k hlt
      have HN : Hid (tot (l.take (k + 1)) = tot (l.take k) + l.getD k 0) := tot_snoc l k hlt
      have HT1 : Hid (tot (l.take (k + 1)) ≤ tot l) := tot_take l (k + 1) HP.out
      generalize hzz : l.getD k 0 = z at *
      clear hzz
      by_cases hov : S + z < 18446744073709551616
      · have e1 : (S + z) % 18446744073709551616 = S + z := by omega
        have e2 : (S + z) / 18446744073709551616 = 0 := by omega
        have HO := hide hov
        go_wp2_with (simp only [add64 S z hS0 hz0])
        go_round
        case rel => exact ⟨k + 1, hlt, by go_num, congrArg _ (by rw [HN.out, ← HS.out]; omega), by rw [HN.out]; have := HS.out; have := HO.out; omega⟩
        case measure => simp [intOf]; omega
      · have e1 : (S + z) / 18446744073709551616 = 1 := by omega
        have HE : Hid (18446744073709551616 ≤ t + tot l) := by
          show 18446744073709551616 ≤ t + tot l
          have h1 := HN.out; have h2 := HT1.out; have h3 := HS.out
          omega
        go_wp2_with (simp only [add64 S z hS0 hz0])
        go_ret2
        refine ⟨?_, rfl⟩
        rw [addV_over HE.out, addB_over HE.out]
        rfl
    · have hkl : l.take k = l := List.take_of_length_le (by omega)
      rw [hkl] at HS
      clear hkl
      have HO := hide hfit
      go_wp2
      go_ret2
      refine ⟨?_, rfl⟩
      rw [addV_fits (by rw [HS.out]; exact HO.out), addB_fits (by rw [HS.out]; exact HO.out), HS.out]
      rfl

theorem add_nil (t : Int) (a : Option Addr) (cap : Nat) (w : World) (ht : Word t) :
    Calls Tryd.prog 42 #[.int .u64 t, .slice a 0 cap] w fun e w' => e = .returned (.tuple #[.int .u64 (addV t []), .bool (addB t [])]) ∧ w' = w := by
  rw [addV_fits (by simp only [tot]; have := ht.2; omega), addB_fits (by simp only [tot]; have := ht.2; omega)]
  simp only [tot, Int.add_zero]
  go_enter Tryd.func42, Tryd.ntmps42
  go_wp2
  go_loop [0, 12] (fun x i => x = .int .u64 t ∧ i = .int .i64 0) (fun _ _ => 0)
  case atStart => exact ⟨rfl, rfl⟩
  case round =>
    obtain ⟨rfl, rfl⟩ := hrel
    go_wp2
    go_ret2
    exact ⟨rfl, rfl⟩

/-- A slice that bears a list: no matter where, for an empty one, or some place. -/
def Slice (w : World) (v : Value) (l : List Int) : Prop := (∃ (a : Option Addr) (cap : Nat), v = .slice a 0 cap ∧ l = []) ∨ ∃ b off cap : Nat, v = .slice (some ⟨b, off, none⟩) l.length cap ∧ Bears w b off l ∧ l.length ≤ 9223372036854775807

theorem cadd_any (t : Int) (l : List Int) (v : Value) (w : World) (ht : Word t) (hl : ∀ z ∈ l, Word z) (hv : Slice w v l) :
    Calls Tryd.prog 42 #[.int .u64 t, v] w fun e w' => e = .returned (.tuple #[.int .u64 (addV t l), .bool (addB t l)]) ∧ w' = w := by
  rcases hv with ⟨a, cap, rfl, rfl⟩ | ⟨b, off, cap, rfl, hc, hlen⟩
  · exact add_nil t a cap w ht
  · exact add_slice t l b off cap w ht hl hlen hc

/-- calc.Sum, where the sum is a number. -/
theorem sum_fits (l : List Int) (v : Value) (w : World) (hl : ∀ z ∈ l, Word z) (hv : Slice w v l) (hf : tot l < 18446744073709551616) :
    Calls Tryd.prog 25 #[v] w fun e w' => e = .returned (.tuple #[.int .u64 (tot l), .int .i64 0]) ∧ w' = w := by
  have D := hide (cadd_any 0 l v w ⟨by omega, by omega⟩ hl hv)
  rw [addV_fits (by omega), addB_fits (by omega), Int.zero_add] at D
  clear hl hv hf
  generalize tot l = s at *
  go_enter Tryd.func25, Tryd.ntmps25
  go_wp2_with fail
  refine D.out.mono ?_
  rintro e w' ⟨rfl, rfl⟩
  go_wp2
  go_ret2
  exact ⟨rfl, rfl⟩
theorem sum_over (l : List Int) (v : Value) (w : World) (hl : ∀ z ∈ l, Word z) (hv : Slice w v l) (hf : 18446744073709551616 ≤ tot l) :
    Calls Tryd.prog 25 #[v] w fun e w' => e = .returned (.tuple #[.int .u64 0, .int .i64 3]) ∧ w' = w := by
  have D := hide (cadd_any 0 l v w ⟨by omega, by omega⟩ hl hv)
  rw [addV_over (by omega), addB_over (by omega)] at D
  clear hl hv hf
  go_enter Tryd.func25, Tryd.ntmps25
  go_wp2_with fail
  refine D.out.mono ?_
  rintro e w' ⟨rfl, rfl⟩
  go_wp2
  go_ret2
  exact ⟨rfl, rfl⟩
theorem Slice.form {w : World} {v : Value} {l : List Int} (h : Slice w v l) : ∃ (a : Option Addr) (cap : Nat), v = .slice a l.length cap := by
  rcases h with ⟨a, cap, rfl, rfl⟩ | ⟨b, off, cap, rfl, _, _⟩
  · exact ⟨a, cap, rfl⟩
  · exact ⟨_, cap, rfl⟩

/-- The sum, and whether it is one. -/
def csumV (l : List Int) : Int := if tot l < 18446744073709551616 then tot l else 0
def sumE (l : List Int) : Int := if tot l < 18446744073709551616 then 0 else 3
theorem sum_fit {l : List Int} (h : tot l < 18446744073709551616) : csumV l = tot l ∧ sumE l = 0 := by simp [csumV, sumE, h]
theorem sum_not {l : List Int} (h : 18446744073709551616 ≤ tot l) : csumV l = 0 ∧ sumE l = 3 := by
  have : ¬ tot l < 18446744073709551616 := by omega
  simp [csumV, sumE, this]
theorem csum_any (l : List Int) (v : Value) (w : World) (hl : ∀ z ∈ l, Word z) (hv : Slice w v l) :
    Calls Tryd.prog 25 #[v] w fun e w' => e = .returned (.tuple #[.int .u64 (csumV l), .int .i64 (sumE l)]) ∧ w' = w := by
  by_cases h : tot l < 18446744073709551616
  · obtain ⟨h1, h2⟩ := sum_fit h
    rw [h1, h2]; exact sum_fits l v w hl hv h
  · obtain ⟨h1, h2⟩ := sum_not (l := l) (by omega)
    rw [h1, h2]; exact sum_over l v w hl hv (by omega)

end Go.Proofs.YtbeegcpmpgdbnaaDoor
