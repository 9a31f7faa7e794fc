/-
  What (*sha.Hasher).Write does at this program.
-/
import Derived.Test.YtbhninaaeeoamabDoorShaEnd
import Derived.Test.YtbhninaaeeoamabDoorLists
namespace Go.Proofs.YtbhninaaeeoamabDoor
open Go.RowKit

/-- A hasher's cells at first. -/
def zeroCells : List Value := cellsOf 0 (List.replicate 8 0) (List.replicate 64 0)
theorem zero_hasher : (∀ w, (zeroValue 69).run Tryd.prog w = .ok (.agg zeroCells.toArray) w) ∧ (Tryd.prog.info? 69).map (·.size) = some 73 := zero_of_info (by kernel_rfl)
theorem Hashes.new (w : World) : Hashes (w.alloc (.cells zeroCells.toArray 69)) w.heap.size [] :=
  ⟨_, _, HashAt.new w 0 _ _ _ (by simp) (by simp), Begins.nil _ (by simp), Or.inl rfl⟩
/-- A list of pieces that do not lie in block b. -/
def SrcAll (w : World) (b : Nat) (v : Value) (L : List (List Int)) : Prop :=
  ∃ (a : Option Addr) (cap : Nat), v = .slice a L.length cap ∧ L.length ≤ cap ∧ cap ≤ 9223372036854775807 ∧
    (0 < L.length → ∃ b' off : Nat, a = some ⟨b', off, none⟩ ∧ b' ≠ b ∧ ∀ i, i < L.length → ∃ p, w.cell? ⟨b', off + i, none⟩ = some p ∧ Src w b p (L.getD i []))
theorem SrcAll.on {w w' : World} {b : Nat} {v : Value} {L : List (List Int)} (h : SrcAll w b v L) (ho : Only b w w') : SrcAll w' b v L := by
  obtain ⟨a, cap, h1, h2, h3, h4⟩ := h
  refine ⟨a, cap, h1, h2, h3, fun hl => ?_⟩
  obtain ⟨b', off, rfl, hne, hc⟩ := h4 hl
  refine ⟨b', off, rfl, hne, fun i hi => ?_⟩
  obtain ⟨p, hp, hq⟩ := hc i hi
  exact ⟨p, (ho.cell _ hne (World.block_lt_of_cell? _ _ hp)).trans hp, hq.on ho⟩
theorem SrcAll.old {w0 w : World} {b : Nat} {v : Value} {L : List (List Int)} (h : Parts w0 v L) (hb : Below w0.heap.size w0 w) (hB : w0.heap.size ≤ b) : SrcAll w b v L := by
  obtain ⟨a, cap, h1, h2, h3, _, h5⟩ := h
  refine ⟨a, cap, h1, h2, h3, fun hl => ?_⟩
  obtain ⟨b', off, rfl, hc⟩ := h5 hl
  have hlt : b' < w0.heap.size := by obtain ⟨p, hp, _⟩ := hc 0 hl; exact World.block_lt_of_cell? _ _ hp
  refine ⟨b', off, rfl, by omega, fun i hi => ?_⟩
  obtain ⟨p, hp, hq⟩ := hc i hi
  exact ⟨p, (hb.cell (p := ⟨b', off + i, none⟩) hlt).trans hp, Src.old hq hb hB⟩
theorem Src.alloc {w : World} {b : Nat} {v : Value} {l : List Int} (h : Src w b v l) (hb : b < w.heap.size) (o : Obj) : Src (w.alloc o) b v l := h.on (Only.of_below ((Below.refl _ _).alloc (Nat.le_refl _) o) (Nat.le_of_lt hb))
theorem SrcAll.one {w : World} {b : Nat} {p : Value} {l : List Int} (h : Src w b p l) (hb : b < w.heap.size) : SrcAll (w.alloc (.cells #[p] 22)) b (.slice (some ⟨w.heap.size, 0, none⟩) 1 1) [l] := by
  refine ⟨_, _, rfl, Nat.le_refl _, by omega, fun _ => ⟨_, _, rfl, by omega, fun i hi => ?_⟩⟩
  obtain rfl : i = 0 := by simp at hi; omega
  exact ⟨p, by rw [cell_of_row _ _ _ _ 22 (0, 0) (heap_alloc_new w _)]; rfl, h.alloc hb _⟩
theorem SrcAll.two {w : World} {b : Nat} {p q : Value} {l m : List Int} (h : Src w b p l) (k : Src w b q m) (hb : b < w.heap.size) : SrcAll (w.alloc (.cells #[p, q] 22)) b (.slice (some ⟨w.heap.size, 0, none⟩) 2 2) [l, m] := by
  refine ⟨_, _, rfl, Nat.le_refl _, by omega, fun _ => ⟨_, _, rfl, by omega, fun i hi => ?_⟩⟩
  rcases (show i = 0 ∨ i = 1 by simp at hi; omega) with rfl | rfl
  · exact ⟨p, by rw [cell_of_row _ _ _ _ 22 (0, 0) (heap_alloc_new w _)]; rfl, h.alloc hb _⟩
  · exact ⟨q, by rw [cell_of_row _ _ _ _ 22 (0, 0) (heap_alloc_new w _)]; rfl, k.alloc hb _⟩
/-- What holds at the head of a round of Write. -/
def Writing (w : World) (b : Nat) (m : List Int) (v : Value) (L : List (List Int)) (i : Value) (wr : World) : Prop :=
  ∃ k : Nat, k ≤ L.length ∧ i = .int .i64 k ∧ Hashes wr b (m ++ (L.take k).flatten) ∧ SrcAll wr b v L ∧ Only b w wr

theorem flat_part (L : List (List Int)) (k : Nat) (hk : k < L.length) : (L.take (k + 1)).flatten = (L.take k).flatten ++ L.getD k [] := by
  rw [List.take_succ_eq_append_getElem hk, List.flatten_append]
  simp [List.getD, hk]
theorem flat_more (L : List (List Int)) (k : Nat) (hk : k < L.length) : (L.take k).flatten.length + (L.getD k []).length ≤ L.flatten.length := by
  have h := flat_part L k hk
  have e : L.flatten = (L.take (k + 1)).flatten ++ (L.drop (k + 1)).flatten := by rw [← List.flatten_append, List.take_append_drop]
  rw [e, h]
  simp
set_option maxRecDepth 100000 in
set_option maxHeartbeats 1000000 in
theorem write_any (w : World) (b : Nat) (m : List Int) (v : Value) (L : List (List Int)) (hH : Hashes w b m) (hS : SrcAll w b v L) (hk : Ks w) (hb : b ≠ 2) (hsz : m.length + L.flatten.length ≤ 1000000000) :
    Calls Tryd.prog 29 #[.pointer (some ⟨b, 0, none⟩), v] w fun e w' => e = .returned (.int .i64 0) ∧ Hashes w' b (m ++ L.flatten) ∧ Only b w w' := by
  have HK := hide hk
  have HW : Hid (Writing w b m v L (.int .i64 0) w) := hide ⟨0, by omega, rfl, by simpa using hH, hS, Only.refl _ _⟩
  obtain ⟨a, cap, rfl, hc1, hc2, -⟩ := hS
  clear hH hk
  go_enter Tryd.func29, Tryd.ntmps29
  go_wp2
  go_loopw [11] (fun i wr => Writing w b m (.slice a L.length cap) L i wr) (fun i _ => L.length - (intOf i).toNat)
  case atStart => exact HW.out
  case round =>
    clear HW
    obtain ⟨k, hkl, rfl, hH, hS, hO⟩ := hrel
    by_cases hlt : k < L.length
    · have HS := hide hS
      obtain ⟨a', cap', e, -, -, h4⟩ := hS
      obtain ⟨b', off, ea, hne, hc⟩ := h4 (by omega)
      obtain ⟨p, hp, hq⟩ := hc k hlt
      simp only [Value.slice.injEq, true_and] at e
      obtain ⟨rfl, rfl⟩ := e
      subst ea
      have hfm := flat_more L k hlt
      have TK := hide (take_any wr b p (L.getD k []) (m ++ (L.take k).flatten) hH hq (HK.out.only hO hb) hb (by rw [List.length_append]; omega))
      have HO := hide hO
      clear hc hq hH hO h4 hfm
      go_wp2_with fail
      refine TK.out.mono ?_
      rintro e w1 ⟨rfl, h1, o1⟩
      have R : Hid (Writing w b m (.slice (some ⟨b', off, none⟩) L.length cap) L (.int .i64 ((k + 1 : Nat) : Int)) w1) := by
        refine hide ⟨k + 1, by omega, rfl, ?_, HS.out.on o1, HO.out.trans o1⟩
        rw [flat_part L k hlt, ← List.append_assoc]
        exact h1.hashes
      clear h1 o1
      go_wp2
      go_roundw
      case rel => first | exact R.out | ((repeat apply Exists.intro); exact ⟨R.out, rfl⟩)
      case measure => simp [intOf]; omega
    · rw [List.take_of_length_le (by omega)] at hH
      have R := hide (And.intro hH hO)
      clear hH hO hS
      go_wp2
      go_ret
      exact ⟨rfl, R.out⟩

end Go.Proofs.YtbhninaaeeoamabDoor
