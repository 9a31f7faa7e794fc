/-
  The document's examples hold at this program: pappuslaw02.alive answers true, and nothing that was there has turned.
-/
import Derived.Test.YtkdlpnhpokcbiaaOctRead
import Derived.Test.YtkdlpnhpokcbiaaSame
import Derived.Test.YtkdlpnhpokcbiaaParts
namespace Go.Proofs.Ytkdlpnhpokcbiaa
open Go.RowKit

theorem below_on {w a b : World} (h : Below w.heap.size w a) (k : Below a.heap.size a b) : Below w.heap.size w b := h.trans (k.mono h.size)
theorem below_box {w a b : World} {o : Obj} (h : Below w.heap.size w a) (k : Below (a.alloc o).heap.size (a.alloc o) b) : Below w.heap.size w b :=
  below_on (h.alloc h.size o) k
theorem box1 {a b : World} {o : Obj} (k : Below (a.alloc o).heap.size (a.alloc o) b) : Below a.heap.size a b := below_box (Below.refl _ _) k
theorem box2 {a b : World} {o o' : Obj} (k : Below ((a.alloc o).alloc o').heap.size ((a.alloc o).alloc o') b) : Below a.heap.size a b := box1 (box1 k)
theorem two_boxes (w : World) (o o' : Obj) : Below w.heap.size w ((w.alloc o).alloc o') := ((Below.refl _ _).alloc (Nat.le_refl _) _).alloc (by simp) _
theorem same_is (l m : List Int) (v v' : Value) (w : World) (hv : Bytes w v l) (hv' : Bytes w v' m) :
    Calls Try.prog 14 #[v, v'] w fun e w' => e = .returned (.bool (decide (l = m))) ∧ Below w.heap.size w w' := by
  refine (same_any l m v v' w hv hv').mono ?_
  rintro e w' ⟨rfl, n, rfl⟩
  exact ⟨rfl, below_drewN (Below.refl _ _) n⟩
theorem same_self (l : List Int) (v v' : Value) (w : World) (hv : Bytes w v l) (hv' : Bytes w v' l) :
    Calls Try.prog 14 #[v, v'] w fun e w' => e = .returned (.bool true) ∧ Below w.heap.size w w' := by
  have h := same_is l l v v' w hv hv'
  rw [decide_eq_true rfl] at h
  exact h

theorem made2 (w : World) (a b : Int) : Bytes (w.alloc (.cells #[.int .u8 a, .int .u8 b] 5)) (.slice (some ⟨w.heap.size, 0, none⟩) 2 2) [a, b] := Bytes.made w _ _ 2 rfl (by omega) rfl
theorem made2_on (w : World) (o : Obj) (a b : Int) : Bytes ((w.alloc o).alloc (.cells #[.int .u8 a, .int .u8 b] 5)) (.slice (some ⟨w.heap.size + 1, 0, none⟩) 2 2) [a, b] := by
  have h := made2 (w.alloc o) a b
  have e : (w.alloc o).heap.size = w.heap.size + 1 := by simp
  rw [e] at h
  exact h
theorem made3 (w : World) (a b c : Int) : Bytes (w.alloc (.cells #[.int .u8 a, .int .u8 b, .int .u8 c] 5)) (.slice (some ⟨w.heap.size, 0, none⟩) 3 3) [a, b, c] := Bytes.made w _ _ 3 rfl (by omega) rfl
theorem made5 (w : World) (a b c d e : Int) : Bytes (w.alloc (.cells #[.int .u8 a, .int .u8 b, .int .u8 c, .int .u8 d, .int .u8 e] 5)) (.slice (some ⟨w.heap.size, 0, none⟩) 5 5) [a, b, c, d, e] := Bytes.made w _ _ 5 rfl (by omega) rfl
theorem ex_parts (w : World) : Parts ((w.alloc (.cells #[.int .u8 97, .int .u8 98] 5)).alloc (.cells #[.slice (some ⟨w.heap.size, 0, none⟩) 2 2, .slice none 0 0] 23)) (.slice (some ⟨w.heap.size + 1, 0, none⟩) 2 2) [[97, 98], []] := by
  refine ⟨_, _, rfl, Nat.le_refl _, by simp, by simp, fun _ => ⟨_, _, rfl, fun i hi => ?_⟩⟩
  match i, hi with
  | 0, _ => exact ⟨_, by simp, (Bytes.made w _ [97, 98] 2 rfl (by omega) rfl).alloc _⟩
  | 1, _ => exact ⟨_, by simp, Bytes.nil _⟩

set_option maxHeartbeats 400000 in
theorem alive_any (w : World) :
    Calls Try.prog 9 #[] w fun e w' => e = .returned (.bool true) ∧ Below w.heap.size w w' := by
  have P := hide (put_any 258 2 w ⟨by omega, by omega⟩)
  have e1 : putL 258 2 = [2, 1] := by decide
  have e2 : putE 258 2 = 0 := by decide
  rw [e1, e2] at P
  have K := hide (fun w v h => pack_any [[97, 98], []] v w h (by decide))
  have e3 : pack [[97, 98], []] = [2, 2, 97, 98, 0] := by decide
  rw [e3] at K
  have Rd := hide (fun v w h => read_any [253, 252, 0] v w h (by intro z hz; simp at hz; rcases hz with rfl | rfl | rfl <;> exact ⟨by omega, by omega⟩))
  have e4 : readX [253, 252, 0] = 0 := by decide
  have e5 : readN [253, 252, 0] = 0 := by decide
  have e6 : readE [253, 252, 0] = 6 := by decide
  rw [e4, e5, e6] at Rd
  have V := hide (fun w => octVar_any w 253 ⟨by omega, by omega⟩)
  have e7 : var 253 = [253, 253, 0] := by decide
  rw [e7] at V
  have Z := hide (fun w => size_any 252 w)
  have e8 : size 252 = 1 := by decide
  rw [e8] at Z
  clear e1 e2 e3 e4 e5 e6 e7 e8
  go_enter Try.func9, Try.ntmps9
  go_wp2_with fail
  refine P.out.mono ?_
  rintro e w1 ⟨a, rfl, hown, hbel⟩
  have HA := hide hown.bytes
  have HB1 := hide hbel
  clear hown hbel
  go_wp2_with fail
  refine (K.out _ _ (ex_parts w1)).mono ?_
  rintro e w2 ⟨p, rfl, hown, hbel⟩
  have HP := hide hown.bytes
  have hb2 := box2 hbel
  have HA2 := hide (HA.out.below hb2)
  have HB2 := hide (below_on HB1.out hb2)
  clear hown hbel hb2
  go_wp2_with fail
  refine (Rd.out _ _ (made3 w2 253 252 0)).mono ?_
  rintro e w' ⟨rfl, rfl⟩
  go_wp2_with fail
  refine (same_self [2, 1] _ _ _ (HA2.out.below (two_boxes _ _ _)) (made2_on _ _ 2 1)).mono ?_
  rintro e w3 ⟨rfl, hbel⟩
  have hb3 := box2 hbel
  have HP3 := hide (HP.out.below hb3)
  have HB3 := hide (below_on HB2.out hb3)
  clear hbel hb3
  go_wp2_with fail
  refine (V.out _).mono ?_
  rintro e w4 ⟨q, rfl, hown, hbel⟩
  have HQ := hide hown.bytes
  have HP4 := hide (HP3.out.below hbel)
  have HB4 := hide (below_on HB3.out hbel)
  clear hown hbel
  go_wp2_with fail
  refine (same_self [253, 253, 0] _ _ _ (HQ.out.alloc _) (made3 _ 253 253 0)).mono ?_
  rintro e w5 ⟨rfl, hbel⟩
  have hb5 := box1 hbel
  have HP5 := hide (HP4.out.below hb5)
  have HB5 := hide (below_on HB4.out hb5)
  clear hbel hb5
  go_wp2_with fail
  refine (same_self [2, 2, 97, 98, 0] _ _ _ (HP5.out.alloc _) (made5 _ 2 2 97 98 0)).mono ?_
  rintro e w6 ⟨rfl, hbel⟩
  have HB6 := hide (below_on HB5.out (box1 hbel))
  clear hbel
  go_wp2_with fail
  refine (Z.out _).mono ?_
  rintro e w' ⟨rfl, rfl⟩
  go_wp2
  go_ret
  exact ⟨rfl, HB6.out⟩
end Go.Proofs.Ytkdlpnhpokcbiaa
