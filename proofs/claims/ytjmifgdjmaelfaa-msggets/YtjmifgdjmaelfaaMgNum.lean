/-
  What msg.addNumber, number and sized answer at this program.
-/
import Derived.Test.YtjmifgdjmaelfaaMgA
import Derived.Test.YtjmifgdjmaelfaaOctGet
import Derived.Test.YtjmifgdjmaelfaaTxWr
namespace Go.Proofs.Ytjmifgdjmaelfaa
open Go.RowKit

theorem sized_any (a : Option Addr) (len cap n : Nat) (w : World) :
    Calls Try.prog 51 #[.slice a len cap, .int .i64 n] w fun e w' => e = .returned (.int .i64 (sizedE len n)) ∧ w' = w := by
  by_cases h1 : len < n
  · have e1 : (len : Int) < (n : Int) := by omega
    have R := hide (sizedE_less h1)
    go_enter Try.func51, Try.ntmps51
    go_wp2
    go_ret
    exact ⟨by rw [R.out]; rfl, rfl⟩
  · have e1 : ¬ (len : Int) < (n : Int) := by omega
    by_cases h2 : n < len
    · have e2 : (n : Int) < (len : Int) := by omega
      have R := hide (sizedE_more h2)
      go_enter Try.func51, Try.ntmps51
      go_wp2
      go_ret
      exact ⟨by rw [R.out]; rfl, rfl⟩
    · obtain rfl : len = n := by omega
      have R := hide (sizedE_same len)
      go_enter Try.func51, Try.ntmps51
      go_wp2
      go_ret
      exact ⟨by rw [R.out]; rfl, rfl⟩
theorem mnumber_any (l : List Int) (v : Value) (w : World) (hv : Bytes w v l) (hl : AllB l) (hn : l.length = 0 ∨ l.length = 1 ∨ l.length = 4 ∨ l.length = 8) :
    Calls Try.prog 53 #[v] w fun e w' => e = .returned (.int .u64 (num l)) ∧ w' = w := by
  have G := hide (get_any l v w hv hl)
  have e1 : getX l = num l := by
    unfold getX
    rcases hn with h | h | h | h
    · obtain rfl := List.length_eq_zero_iff.1 h
      rfl
    · rw [h]; rfl
    · rw [h]; rfl
    · rw [h]; rfl
  rw [e1] at G
  clear hv hl hn e1
  go_enter Try.func53, Try.ntmps53
  go_wp2_with fail
  refine G.out.mono ?_
  rintro e w1 ⟨rfl, rfl⟩
  go_wp2
  go_ret
  exact ⟨rfl, rfl⟩
theorem maddNumber_any (w : World) (base : Nat) (v : Value) (l : List Int) (x : Int) (n : Nat) (hn : n = 0 ∨ n = 1 ∨ n = 4 ∨ n = 8) (hx0 : 0 ≤ x) (hx : x < 256 ^ n) (hown : Own w base v l) (hb : base ≤ w.heap.size) (hl : l.length ≤ 900000) :
    Calls Try.prog 63 #[v, .int .u64 x, .int .i64 n] w fun e w' => ∃ v', e = .returned v' ∧ Own w' base v' (l ++ put n x) ∧ Grew w w' v v' := by
  have hw : Word x := by
    rcases hn with rfl | rfl | rfl | rfl <;> (simp at hx; exact ⟨hx0, by omega⟩)
  have P := hide (put_any x n w hw)
  have e1 : putL x n = put n x := by
    unfold putL
    rcases hn with rfl | rfl | rfl | rfl
    · rfl
    · rw [if_pos ⟨rfl, by simpa using hx⟩]; rfl
    · rw [if_pos ⟨rfl, by simpa using hx⟩]; rfl
    · rw [if_pos ⟨rfl, by simpa using hx⟩]; rfl
  rw [e1] at P
  have HP : Hid ((put n x).length ≤ 8) := hide (by rw [put_length]; omega)
  generalize put n x = m at *
  generalize putE x n = pe at *
  generalize (n : Int) = N at *
  have HO := hide hown
  clear e1 hown hx hw hn
  go_enter Try.func63, Try.ntmps63
  go_wp2_with fail
  refine P.out.mono ?_
  rintro e w1 ⟨v1, rfl, hown1, hbel1⟩
  have HO1 := hide (HO.out.on hbel1)
  have HM := hide hown1.bytes
  have HB1 := hide hbel1
  clear hown1 hbel1
  go_wp2_with (at_builtin; refine wp_append_by rfl _ _ rfl base _ l rfl HO1.out _ m rfl HM.out ?c1 ?c2 ?_)
  case c1 => have := HP.out; omega
  case c2 => exact Nat.le_trans hb HB1.out.size
  intro v2 w2 hown2 hg2
  have R : Hid (Own w2 base v2 (l ++ m) ∧ Grew w w2 v v2) := hide ⟨hown2, (Grew.of_below v HB1.out).trans hg2⟩
  clear hown2 hg2
  go_wp2
  go_ret
  exact ⟨_, rfl, R.out⟩

end Go.Proofs.Ytjmifgdjmaelfaa
