/-
  Parts: a slice of slices of bytes in memory; parts, packed, as plain lists.
-/
import Derived.Test.YtkdlpnhpokcbiaaOctAdd
import Derived.Test.YtkdlpnhpokcbiaaUnp
namespace Go.Proofs.Ytkdlpnhpokcbiaa
open Go.RowKit

/-- How many bytes the parts have. -/
def total : List (List Int) → Nat
  | [] => 0
  | p :: r => p.length + total r
theorem var_le (x : Int) : (var x).length ≤ 9 := by
  have h := var_length x
  rcases size_cases x with ⟨_, e⟩ | ⟨_, _, e⟩ | ⟨_, _, e⟩ | ⟨_, e⟩ <;> omega
theorem var_pos (x : Int) : 1 ≤ (var x).length := by
  have h := var_length x
  rcases size_cases x with ⟨_, e⟩ | ⟨_, _, e⟩ | ⟨_, _, e⟩ | ⟨_, e⟩ <;> omega
theorem flat_le : ∀ L : List (List Int), (flat L).length ≤ 9 * L.length + total L
  | [] => by simp [flat, total]
  | p :: r => by
    have := flat_le r
    have := var_le p.length
    simp only [flat, total, List.length_append, List.length_cons]
    omega
theorem pack_le (L : List (List Int)) (h1 : L.length ≤ 1000) (h2 : total L ≤ 100000) : (pack L).length ≤ 110000 := by
  have := flat_le L
  have := var_le L.length
  unfold pack
  rw [List.length_append]
  omega
theorem drop_next {α : Type} (L : List α) (d : α) (k : Nat) (h : k < L.length) : L.drop k = L.getD k d :: L.drop (k + 1) := by
  rw [List.drop_eq_getElem_cons h]
  simp [List.getD, h]

/-- The slice bears parts, each of which bears its bytes. -/
def Parts (w : World) (v : Value) (L : List (List Int)) : Prop :=
  ∃ (a : Option Addr) (cap : Nat), v = .slice a L.length cap ∧ L.length ≤ cap ∧ cap ≤ 9223372036854775807 ∧ (a = none → cap = 0) ∧
    (0 < L.length → ∃ b off : Nat, a = some ⟨b, off, none⟩ ∧ ∀ i, i < L.length → ∃ p, w.cell? ⟨b, off + i, none⟩ = some p ∧ Bytes w p (L.getD i []))
theorem Parts.form {w : World} {v : Value} {L : List (List Int)} (h : Parts w v L) : ∃ (a : Option Addr) (cap : Nat), v = .slice a L.length cap ∧ L.length ≤ cap ∧ cap ≤ 9223372036854775807 := by
  obtain ⟨a, cap, h1, h2, h3, _⟩ := h
  exact ⟨a, cap, h1, h2, h3⟩
theorem Parts.lies {w : World} {v : Value} {L : List (List Int)} (h : Parts w v L) (hl : 0 < L.length) :
    ∃ b off cap : Nat, v = .slice (some ⟨b, off, none⟩) L.length cap ∧ L.length ≤ cap ∧ cap ≤ 9223372036854775807 ∧ ∀ i, i < L.length → ∃ p, w.cell? ⟨b, off + i, none⟩ = some p ∧ Bytes w p (L.getD i []) := by
  obtain ⟨a, cap, h1, h2, h3, _, h5⟩ := h
  obtain ⟨b, off, rfl, hc⟩ := h5 hl
  exact ⟨b, off, cap, h1, h2, h3, hc⟩
theorem Parts.empty {w : World} {v : Value} (h : Parts w v []) : ∃ (a : Option Addr) (cap : Nat), v = .slice a 0 cap ∧ cap ≤ 9223372036854775807 := by
  obtain ⟨a, cap, h1, _, h3, _⟩ := h
  exact ⟨a, cap, h1, h3⟩
theorem Parts.at {w w' : World} {v : Value} {L : List (List Int)} (h : Parts w v L) (hb : ∀ p : Addr, p.block < w.heap.size → w'.cell? p = w.cell? p) : Parts w' v L := by
  obtain ⟨a, cap, h1, h2, h3, h4, h5⟩ := h
  refine ⟨a, cap, h1, h2, h3, h4, fun hl => ?_⟩
  obtain ⟨b, off, rfl, hc⟩ := h5 hl
  refine ⟨b, off, rfl, fun i hi => ?_⟩
  obtain ⟨p, hp, hq⟩ := hc i hi
  exact ⟨p, (hb _ (World.block_lt_of_cell? _ _ hp)).trans hp, hq.at hb⟩
theorem Parts.below {w w' : World} {v : Value} {L : List (List Int)} (h : Parts w v L) (hb : Below w.heap.size w w') : Parts w' v L := h.at fun _ hp => hb.cell hp
theorem Parts.none (w : World) : Parts w (.slice .none 0 0) [] := ⟨.none, 0, rfl, by simp, by simp, fun _ => rfl, by simp⟩
theorem word_len {n : Nat} (h : n ≤ 9223372036854775807) : Word (n : Int) := ⟨by omega, by omega⟩

/-- What holds at the head of a round of Pack. -/
def Packing (w : World) (L : List (List Int)) (v i : Value) (wr : World) : Prop :=
  ∃ (k : Nat) (done : List Int), k ≤ L.length ∧ i = .int .i64 k ∧ Own wr w.heap.size v done ∧ done ++ flat (L.drop k) = pack L ∧ Below w.heap.size w wr
theorem packing_room {L : List (List Int)} {k : Nat} {done : List Int} (hk : k < L.length) (h : done ++ flat (L.drop k) = pack L) : done.length + (var (L.getD k []).length).length + (L.getD k []).length ≤ (pack L).length := by
  rw [← h, drop_next L [] k hk]
  simp only [flat, List.length_append]
  omega
theorem packing_next {w wr : World} {L : List (List Int)} {k : Nat} {done : List Int} {v : Value} (hk : k < L.length) (h : done ++ flat (L.drop k) = pack L) (ho : Own wr w.heap.size v (done ++ (var (L.getD k []).length ++ L.getD k []))) (hb : Below w.heap.size w wr) :
    Packing w L v (.int .i64 ((k + 1 : Nat) : Int)) wr := by
  refine ⟨k + 1, _, hk, rfl, ho, ?_, hb⟩
  rw [← h, drop_next L [] k hk]
  simp [flat]

set_option maxHeartbeats 2000000 in
theorem pack_some (L : List (List Int)) (b off cap : Nat) (w : World) (hmax : L.length ≤ 9223372036854775807) (hroom : (pack L).length ≤ 800000) (hpos : 0 < L.length)
    (hc : ∀ i, i < L.length → ∃ p, w.cell? ⟨b, off + i, none⟩ = some p ∧ Bytes w p (L.getD i [])) :
    Calls Try.prog 23 #[.slice (some ⟨b, off, none⟩) L.length cap] w fun e w' => ∃ v', e = .returned v' ∧ Own w' w.heap.size v' (pack L) ∧ Below w.heap.size w w' := by
  have HC := hide hc
  have V := hide (octVar_any w L.length (word_len hmax))
  have hbw : b < w.heap.size := by
    obtain ⟨p, hp, _⟩ := hc 0 hpos
    exact World.block_lt_of_cell? _ _ hp
  clear hc
  go_enter Try.func23, Try.ntmps23
  go_wp2_with fail
  refine V.out.mono ?_
  rintro e w1 ⟨v1, rfl, hown, hbel⟩
  have HO := hide hown
  have HB := hide hbel
  clear hown hbel
  go_wp2_with fail
  go_loopw [3, 12] (fun v i wr => Packing w L v i wr) (fun _ i _ => L.length - (intOf i).toNat)
  case atStart => exact ⟨0, _, Nat.zero_le _, rfl, HO.out, rfl, HB.out⟩
  case round =>
    obtain ⟨k, done, hk, rfl, hown, heq, hbel⟩ := hrel
    by_cases hlt : k < L.length
    · obtain ⟨p, hcell0, hbytes0⟩ := HC.out k hlt
      have hcell := (hbel.cell (p := ⟨b, off + k, none⟩) hbw).trans hcell0
      have HR := hide (packing_room hlt heq)
      obtain ⟨a', cap', rfl, hc1, hc2⟩ := hbytes0.form
      have HP := hide hbytes0
      have A := hide (addVar_any wr w.heap.size _ done (L.getD k []).length (word_len (by omega)) hown hbel.size (by have := HR.out; have := var_pos (L.getD k []).length; have := var_le (L.getD k []).length; omega))
      have HE := hide heq
      have HB2 := hide hbel
      clear hown heq hbel hcell0 hbytes0
      generalize hq : L.getD k [] = q at *
      have HQ := hide hq
      clear hq
      go_wp2_with fail
      refine A.out.mono ?_
      rintro e w2 ⟨v2, rfl, hown2, hbel2⟩
      have HO2 := hide hown2
      have HB3 := hide (HB2.out.trans hbel2)
      have HP2 := hide (HP.out.below HB3.out)
      clear hown2 hbel2
      go_wp2_with (at_builtin; refine wp_append rfl _ _ rfl w.heap.size _ _ rfl HO2.out _ q rfl HP2.out ?c1 ?c2 ?_)
      case c1 => have := HR.out; rw [List.length_append]; omega
      case c2 => exact HB3.out.size
      intro v3 w3 hown3 hbel3
      have ho3 : Own w3 w.heap.size v3 (done ++ (var (L.getD k []).length ++ L.getD k [])) := by
        rw [HQ.out]
        exact hown3
      have R : Hid (Packing w L v3 (.int .i64 ((k + 1 : Nat) : Int)) w3) := packing_next hlt HE.out ho3 (HB3.out.trans hbel3)
      clear ho3
      clear hown3 hbel3
      go_wp2
      go_roundw
      case rel => first | exact R.out | ((repeat apply Exists.intro); exact ⟨R.out, rfl⟩)
      case measure => simp [intOf]; omega
    · obtain rfl : k = L.length := by omega
      have R : Hid (Own wr w.heap.size _ (pack L) ∧ Below w.heap.size w wr) := ⟨by rw [List.drop_length, flat, List.append_nil] at heq; rw [← heq]; exact hown, hbel⟩
      clear hown heq hbel
      go_wp2
      go_ret
      exact ⟨_, rfl, R.out⟩

theorem pack_none (a : Option Addr) (cap : Nat) (w : World) :
    Calls Try.prog 23 #[.slice a 0 cap] w fun e w' => ∃ v', e = .returned v' ∧ Own w' w.heap.size v' (pack []) ∧ Below w.heap.size w w' := by
  have V := hide (octVar_any w 0 ⟨by omega, by omega⟩)
  have e : pack [] = var 0 := by simp [pack, flat]
  rw [e]
  clear e
  go_enter Try.func23, Try.ntmps23
  go_wp2_with fail
  refine V.out.mono ?_
  rintro e w1 ⟨v1, rfl, R⟩
  have R := hide R
  go_wp2_with fail
  go_loopw [3, 12] (fun v i wr => v = v1 ∧ i = .int .i64 0 ∧ wr = w1) (fun _ _ _ => 0)
  case atStart => exact ⟨rfl, rfl, rfl⟩
  case round =>
    obtain ⟨rfl, rfl, rfl⟩ := hrel
    go_wp2
    go_ret
    exact ⟨_, rfl, R.out⟩

theorem pack_any (L : List (List Int)) (v : Value) (w : World) (hv : Parts w v L) (hroom : (pack L).length ≤ 800000) :
    Calls Try.prog 23 #[v] w fun e w' => ∃ v', e = .returned v' ∧ Own w' w.heap.size v' (pack L) ∧ Below w.heap.size w w' := by
  rcases Nat.eq_zero_or_pos L.length with h0 | h0
  · obtain rfl : L = [] := List.length_eq_zero_iff.1 h0
    obtain ⟨a, cap, rfl, _⟩ := hv.empty
    exact pack_none a cap w
  · obtain ⟨b, off, cap, rfl, h1, h2, hc⟩ := hv.lies h0
    exact pack_some L b off cap w (by omega) hroom h0 hc
end Go.Proofs.Ytkdlpnhpokcbiaa
