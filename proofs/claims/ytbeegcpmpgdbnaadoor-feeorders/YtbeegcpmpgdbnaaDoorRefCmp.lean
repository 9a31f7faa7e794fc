/-
  What the document's Cmp (pappusref01) answers at this program, whatever the four numbers: how the two products compare.
-/
import Derived.Test.YtbeegcpmpgdbnaaDoorTimes
namespace Go.Proofs.YtbeegcpmpgdbnaaDoor
open Go.RowKit Go.Shelf

/-- The world with six boxes more. -/
def Six (w w' : World) : Prop := ∃ o1 o2 o3 o4 o5 o6 : Array Value, w' = (((((w.alloc (.cells o1 101)).alloc (.cells o2 101)).alloc (.cells o3 101)).alloc (.cells o4 101)).alloc (.cells o5 101)).alloc (.cells o6 101)

set_option maxHeartbeats 2000000 in
theorem rcmp_halves (a b c d h1 l1 h2 l2 k : Int)
    (T1 : Hid (∀ w, Calls Tryd.prog 52 #[.int .u64 a, .int .u64 b] w fun e w' => e = .returned (.agg #[.int .u64 h1, .int .u64 l1]) ∧ ∃ o1 o2 : Array Value, w' = (w.alloc (.cells o1 101)).alloc (.cells o2 101)))
    (T2 : Hid (∀ w, Calls Tryd.prog 52 #[.int .u64 c, .int .u64 d] w fun e w' => e = .returned (.agg #[.int .u64 h2, .int .u64 l2]) ∧ ∃ o1 o2 : Array Value, w' = (w.alloc (.cells o1 101)).alloc (.cells o2 101)))
    (hway : (h1 < h2 ∧ k = -1) ∨ (h1 = h2 ∧ l1 < l2 ∧ k = -1) ∨ (h1 = h2 ∧ l1 = l2 ∧ k = 0) ∨ (h2 < h1 ∧ k = 1) ∨ (h1 = h2 ∧ l2 < l1 ∧ k = 1)) (w : World) :
    Calls Tryd.prog 38 #[.int .u64 a, .int .u64 b, .int .u64 c, .int .u64 d] w fun e w' => e = .returned (.int .i64 k) ∧ Six w w' := by
  rcases hway with ⟨h, rfl⟩ | ⟨rfl, h, rfl⟩ | ⟨rfl, rfl, rfl⟩ | ⟨h, rfl⟩ | ⟨rfl, h, rfl⟩
  · have hne : (h1 == h2) = false := by rw [beq_eq_false_iff_ne]; omega
    go_enter Tryd.func38, Tryd.ntmps38
    go_wp2_with fail
    refine (T1.out _).mono ?_
    rintro e w' ⟨rfl, o1, o2, rfl⟩
    go_wp2_with fail
    refine (T2.out _).mono ?_
    rintro e w' ⟨rfl, o3, o4, rfl⟩
    go_wp2
    go_ret
    exact ⟨rfl, _, _, _, _, _, _, rfl⟩
  · have hne : (l1 == l2) = false := by rw [beq_eq_false_iff_ne]; omega
    go_enter Tryd.func38, Tryd.ntmps38
    go_wp2_with fail
    refine (T1.out _).mono ?_
    rintro e w' ⟨rfl, o1, o2, rfl⟩
    go_wp2_with fail
    refine (T2.out _).mono ?_
    rintro e w' ⟨rfl, o3, o4, rfl⟩
    go_wp2
    go_ret
    exact ⟨rfl, _, _, _, _, _, _, rfl⟩
  · go_enter Tryd.func38, Tryd.ntmps38
    go_wp2_with fail
    refine (T1.out _).mono ?_
    rintro e w' ⟨rfl, o1, o2, rfl⟩
    go_wp2_with fail
    refine (T2.out _).mono ?_
    rintro e w' ⟨rfl, o3, o4, rfl⟩
    go_wp2
    go_ret
    exact ⟨rfl, _, _, _, _, _, _, rfl⟩
  · have hne : (h1 == h2) = false := by rw [beq_eq_false_iff_ne]; omega
    have hn2 : ¬ h1 < h2 := by omega
    go_enter Tryd.func38, Tryd.ntmps38
    go_wp2_with fail
    refine (T1.out _).mono ?_
    rintro e w' ⟨rfl, o1, o2, rfl⟩
    go_wp2_with fail
    refine (T2.out _).mono ?_
    rintro e w' ⟨rfl, o3, o4, rfl⟩
    go_wp2
    go_ret
    exact ⟨rfl, _, _, _, _, _, _, rfl⟩
  · have hne : (l1 == l2) = false := by rw [beq_eq_false_iff_ne]; omega
    have hn2 : ¬ l1 < l2 := by omega
    go_enter Tryd.func38, Tryd.ntmps38
    go_wp2_with fail
    refine (T1.out _).mono ?_
    rintro e w' ⟨rfl, o1, o2, rfl⟩
    go_wp2_with fail
    refine (T2.out _).mono ?_
    rintro e w' ⟨rfl, o3, o4, rfl⟩
    go_wp2
    go_ret
    exact ⟨rfl, _, _, _, _, _, _, rfl⟩

theorem rcmp_any (a b c d : Nat) (ha : a < 18446744073709551616) (hb : b < 18446744073709551616) (hc : c < 18446744073709551616) (hd : d < 18446744073709551616) (w : World) :
    Calls Tryd.prog 38 #[.int .u64 a, .int .u64 b, .int .u64 c, .int .u64 d] w fun e w' => e = .returned (.int .i64 (cmpI ((a : Int) * b) ((c : Int) * d))) ∧ Six w w' := by
  refine rcmp_halves a b c d _ _ _ _ _ (hide fun w => times_any a b ha hb w) (hide fun w => times_any c d hc hd w) ?_ w
  rw [← Int.natCast_mul, ← Int.natCast_mul]
  have h := cmpI_cases ((a * b : Nat) : Int) ((c * d : Nat) : Int)
  omega

end Go.Proofs.YtbeegcpmpgdbnaaDoor
