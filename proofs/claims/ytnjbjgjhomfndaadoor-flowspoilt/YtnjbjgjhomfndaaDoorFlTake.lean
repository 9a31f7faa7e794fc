/-
  What (*flow.Flow).take comes to at this program.
-/
import Derived.Test.YtnjbjgjhomfndaaDoorFlMem
import Derived.Test.YtnjbjgjhomfndaaDoorKit
namespace Go.Proofs.YtnjbjgjhomfndaaDoor
open Go.RowKit

/-- 'copy', of as many bytes as there is room for. -/
theorem wp_copy_min {w : World} {ops : Array Oper} {rest : List Oper} {o : Oper} {a : Act} {Q : Exit → Act → World → Prop} (hgd : o.guard = none) (d s : Operand)
    (ho : o.op = .call { callee := .builtin .copy, args := #[d, s], argTypes := #[28, 28] }) (b off dLen dCap : Nat) (hd : a.eval d = .slice (some ⟨b, off, none⟩) dLen dCap)
    (src : Value) (l : List Int) (hs : a.eval s = src) (hsrc : Bytes w src l) (hp : 0 < dLen) (ht : w.there b off dLen) (n : Nat) (hn : n = min dLen l.length)
    (h : wpList Tryd.prog ops Q rest (a.put o.dst (.int .i64 n)) (w.setCells b off (vals .u8 (l.take n)))) : wpList Tryd.prog ops Q (o :: rest) a w := by
  subst hn
  by_cases hl : l.length ≤ dLen
  · rw [Nat.min_eq_right hl, List.take_length] at h
    exact wp_copy hgd d s ho b off dLen dCap hd src l hs hsrc hl ht h
  · rw [Nat.min_eq_left (by omega)] at h
    exact wp_copy_head hgd d s ho b off dLen dCap hd src l hs hsrc (by omega) hp ht h
theorem from_of (p n m : Nat) (hm : m < n) : ∀ w, (Instr.slice 28 (.slice (some ⟨p, 0, none⟩) n n) (some (.int .i64 (m : Int))) none none).run Tryd.prog w = .ok (.slice (some ⟨p, m, none⟩) (n - m) (n - m)) w := fun w => by
  rw [run_slice_l w 28 _ n n (by rw [Tryd.underlying28]; kernel_rfl) .i64 (m : Int) (by omega) (by omega)]
  have e : (sizeOf (Tryd.prog.elem 28)).run Tryd.prog w = .ok 1 w := by kernel_rfl
  rw [e]
  have hne : ¬ n = m := by omega
  simp [Result.andThen, sliced, Addr.add_mid, hne]

theorem over_take {r x hd : List Int} (h : hd.take r.length = r) : (hd.take r.length ++ (x ++ hd.drop (r.length + x.length))).take (r ++ x).length = r ++ x := by
  rw [h, ← List.append_assoc, List.take_left]
theorem there_part {w : World} {b n : Nat} (h : w.there b 0 n) (o k : Nat) (hk : o + k ≤ n) : w.there b o k := fun j hj => by
  have := h (o + j) (by omega)
  rwa [Nat.zero_add] at this

/-- What take comes to. -/
def TakeDone (w : World) (p q : Nat) (r b : List Int) (e : Ending) (w' : World) : Prop :=
  e = .returned (.int .i64 (min (room r) b.length : Nat)) ∧ Mid w' p q (r ++ b.take (min (room r) b.length)) ∧ Besides p q w w' ∧ w'.heap.size = w.heap.size

set_option maxRecDepth 100000 in
set_option maxHeartbeats 1000000 in
theorem ftake_any (w : World) (p q : Nat) (r : List Int) (bv : Value) (b : List Int) (hf : Flw w p q r false) (hb : Bytes w bv b) (hp : 0 < b.length) :
    Calls Tryd.prog 22 #[.pointer (some ⟨p, 0, none⟩), bv] w fun e w' => TakeDone w p q r b e w' := by
  rcases hf with ⟨h, -⟩ | ⟨-, hge, hd, fv, hA, ⟨h24, hhd, rfl, rfl⟩ | ⟨h24, hhd, hE, hqp, B, ⟨rfl, hB⟩, hBN, hlt, hBr⟩⟩
  · cases h
  · have hroom : room r = 24 - r.length := by unfold room; rw [if_pos h24]
    obtain ⟨n, hn⟩ : ∃ n, n = min (24 - r.length) b.length := ⟨_, rfl⟩
    have hxl : (b.take n).length = n := by rw [List.length_take]; omega
    have HC := hide (hA.copied r.length (b.take n) (by omega))
    have hc25 := HC.out.2.2.1
    have hf25 := there_free HC.out.2.2.2.2.1 25 (by omega)
    have HD : Hid (TakeDone w q q r b (.returned (.int .i64 n)) ((w.setCells q r.length (vals .u8 (b.take n))).setCell ⟨q, 25, none⟩ (.int .i64 ((r.length : Int) + n)))) := hide (by
      unfold TakeDone
      rw [hroom, ← hn]
      refine ⟨rfl, ⟨_, _, ?_, Or.inl ⟨?_, over_take hhd, rfl, rfl⟩⟩, ?_, ?_⟩
      · have := HC.out.waits ((r.length : Int) + n)
        rw [show (((r ++ b.take n).length : Nat) : Int) = (r.length : Int) + n by rw [List.length_append, hxl]; omega]
        exact this
      · rw [List.length_append]; omega
      · exact ((Besides.refl q q w).sets (Or.inl rfl) _ _ _).set _ (Or.inl rfl) _
      · rw [size_setCell, size_setCells])
    have HT := hide (there_part hA.2.2.2.2.1 r.length (24 - r.length) (by omega))
    have HS := hide (from_of q 24 r.length h24)
    have HV := hide hb
    have h0 := hA.2.2.1
    have hr24 : ((r.length : Int)) < 24 := by omega
    obtain ⟨a, cap, rfl, hq1, hq2⟩ := hb.form
    clear hge hA hhd hroom hb
    generalize r.length = m at *
    go_enter Tryd.func22, Tryd.ntmps22
    have hnm : (m : Int) + n ≤ 24 := by omega
    have HN := hide hn
    clear hn hxl
    go_wp2_with (first
      | (refine wp_from rfl (.tmp 24) (.tmp 25) rfl _ _ _ rfl rfl HS.out ?_)
      | (refine wp_copy_min rfl (.tmp 26) (.tmp 27) rfl q m (24 - m) (24 - m) rfl (.slice a b.length cap) b rfl HV.out (by omega) HT.out n HN.out ?_))
    go_ret
    exact HD.out
  · have hroom : room r = B.length - (r.length - 24) := by unfold room; rw [if_neg (by omega), hhd, ← hBN]; simp; omega
    obtain ⟨m, hm⟩ : ∃ m, m = r.length - 24 := ⟨_, rfl⟩
    rw [← hm] at hroom hBr
    obtain ⟨n, hn⟩ : ∃ n, n = min (B.length - m) b.length := ⟨_, rfl⟩
    have hxl : (b.take n).length = n := by rw [List.length_take]; omega
    have hB2 : B.length ≤ 2048 := by have := hdN_upto hd; omega
    have HC := hide (hA.apart q m (vals .u8 (b.take n)) hqp)
    have hc25 := HC.out.2.2.1
    have hf25 := there_free HC.out.2.2.2.2.1 25 (by omega)
    have hD : TakeDone w p q r b (.returned (.int .i64 n)) ((w.setCells q m (vals .u8 (b.take n))).setCell ⟨p, 25, none⟩ (.int .i64 ((r.length : Int) + n))) := by
      unfold TakeDone
      rw [hroom, ← hn]
      have hl1 : (r ++ b.take n).length = r.length + n := by rw [List.length_append, hxl]
      have hml : (r.drop 24).length = m := by rw [List.length_drop]; omega
      have hBm : B.take m = r.drop 24 := hBr
      refine ⟨rfl, ⟨hd, .slice (some ⟨q, 0, none⟩) B.length B.length, ?_, Or.inr ⟨?_, ?_, hE, hqp, B.take m ++ (b.take n ++ B.drop (m + (b.take n).length)), ⟨?_, ?_⟩, ?_, ?_, ?_⟩⟩, ?_, ?_⟩
      · have := HC.out.waits ((r.length : Int) + n)
        rw [show (((r ++ b.take n).length : Nat) : Int) = (r.length : Int) + n by rw [hl1]; omega]
        exact this
      · rw [hl1]; omega
      · rw [take24 (by omega), hhd]
      · rw [show (B.take m ++ (b.take n ++ B.drop (m + (b.take n).length))).length = B.length by simp; omega]
      · exact (hB.over m (b.take n) (by omega)).beside _ _ (Or.inl hqp.symm)
      · rw [← hBN]; simp; omega
      · rw [hl1]; simp; omega
      · rw [hl1, List.drop_append_of_le_length (by omega), hBm, ← List.append_assoc, show r.length + n - 24 = (r.drop 24 ++ b.take n).length by rw [List.length_append, hml, hxl]; omega, List.take_left]
      · exact ((Besides.refl p q w).sets (Or.inr rfl) _ _ _).set _ (Or.inl rfl) _
      · rw [size_setCell, size_setCells]
    have HD := hide hD
    clear hD
    have HT := hide (there_part hB.2 m (B.length - m) (by omega))
    have HS := hide (from_of q B.length m (by omega))
    have HV := hide hb
    have h0 := hA.2.2.1
    have h1 := hA.2.1
    have hr24 : 24 ≤ ((r.length : Int)) := by omega
    have hrm : (r.length : Int) - 24 = (m : Int) := by omega
    have hmb : m < B.length := by omega
    have hrl : r.length ≤ 2072 := by omega
    obtain ⟨a, cap, rfl, hq1, hq2⟩ := hb.form
    clear hge hA hhd hroom hb hBr hE hBN hB hm h24 hlt
    generalize B.length = K at *
    generalize r.length = R at *
    go_enter Tryd.func22, Tryd.ntmps22
    have hnm : (R : Int) + n ≤ 100000 := by omega
    have HN := hide hn
    clear hn hxl
    go_wp2_with (first
      | (refine wp_from rfl (.tmp 24) (.tmp 25) rfl _ _ _ rfl rfl HS.out ?_)
      | (refine wp_copy_min rfl (.tmp 26) (.tmp 27) rfl q m (K - m) (K - m) rfl (.slice a b.length cap) b rfl HV.out (by omega) HT.out n HN.out ?_))
    go_ret
    exact HD.out

end Go.Proofs.YtnjbjgjhomfndaaDoor
