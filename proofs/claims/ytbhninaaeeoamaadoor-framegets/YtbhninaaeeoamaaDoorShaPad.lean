/-
  Bytes padded by appends; a block cut out of them; a sum's numbers read back: plain facts, and what the document's First answers at this program.
-/
import Derived.Test.YtbhninaaeeoamaaDoorShaOne
namespace Go.Proofs.YtbhninaaeeoamaaDoor
open Go.RowKit

theorem wraps_u32 (n : Int) (h₀ : 0 ≤ n) (h₁ : n < 2 ^ 32) : IntKind.u32.wrap n = n := by
  simp [IntKind.wrap, IntKind.bits, IntKind.signed]
  omega
/-- Four bytes of a number make the number. -/
theorem word_out (x : Int) (h0 : 0 ≤ x) (h1 : x < 4294967296) : wordI (x / 16777216 % 256) (x / 65536 % 256) (x / 256 % 256) (x % 256) = x := by
  have e0 : IntKind.u32.wrap (IntKind.u32.wrap (x / 16777216 % 256) * 16777216) = x / 16777216 % 256 * 16777216 := by rw [wraps_u32 (x / 16777216 % 256) (by omega) (by omega), wraps_u32 (x / 16777216 % 256 * 16777216) (by omega) (by omega)]
  have e1 : IntKind.u32.wrap (IntKind.u32.wrap (x / 65536 % 256) * 65536) = x / 65536 % 256 * 65536 := by rw [wraps_u32 (x / 65536 % 256) (by omega) (by omega), wraps_u32 (x / 65536 % 256 * 65536) (by omega) (by omega)]
  have e2 : IntKind.u32.wrap (IntKind.u32.wrap (x / 256 % 256) * 256) = x / 256 % 256 * 256 := by rw [wraps_u32 (x / 256 % 256) (by omega) (by omega), wraps_u32 (x / 256 % 256 * 256) (by omega) (by omega)]
  have e3 : IntKind.u32.wrap (x % 256) = x % 256 := wraps_u32 _ (by omega) (by omega)
  unfold wordI
  rw [e0, e1, e2, e3,
    bits_join .u32 32 (by decide) wraps_u32 24 (x / 16777216 % 256 * 16777216) (x / 65536 % 256 * 65536) (by omega) (by omega) (by omega) (by omega) (by omega) (by omega),
    bits_join .u32 32 (by decide) wraps_u32 16 _ (x / 256 % 256 * 256) (by omega) (by omega) (by omega) (by omega) (by omega) (by omega),
    bits_join .u32 32 (by decide) wraps_u32 8 _ (x % 256) (by omega) (by omega) (by omega) (by omega) (by omega) (by omega)]
  omega
theorem out_get : ∀ (s : List Int) (k i : Nat), k < s.length → i < 4 → (s.flatMap outI).getD (4 * k + i) 0 = (outI (s.getD k 0)).getD i 0
  | [], k, i, h, _ => by simp at h
  | z :: s, 0, i, _, hi => by
    simp only [List.flatMap_cons, List.getD]
    rw [List.getElem?_append_left (by simp [outI]; omega)]
    simp
  | z :: s, k + 1, i, h, hi => by
    have ih := out_get s k i (by simpa using h) hi
    simp only [List.flatMap_cons, List.getD] at ih ⊢
    rw [List.getElem?_append_right (by simp [outI]; omega), show 4 * (k + 1) + i - (outI z).length = 4 * k + i by simp [outI]; omega]
    simpa using ih
theorem zip_range : ∀ (s m : List Int) (k : Nat), k < (List.zipWith addI s m).length → 0 ≤ (List.zipWith addI s m).getD k 0 ∧ (List.zipWith addI s m).getD k 0 < 4294967296
  | [], _, k, h => by simp at h
  | _ :: _, [], k, h => by simp at h
  | a :: s, b :: m, 0, _ => by simp [addI]; omega
  | a :: s, b :: m, k + 1, h => by
    have := zip_range s m k (by simpa using h)
    simpa using this
theorem blocks_range (s l : List Int) (n k : Nat) (hs : s.length = 8) (hk : k < 8) : 0 ≤ (blocksI s l (n + 1)).getD k 0 ∧ (blocksI s l (n + 1)).getD k 0 < 4294967296 :=
  zip_range _ _ k (by have := blockI_length (blocksI s l n) ((l.drop (64 * n)).take 64) (blocksI_length s l hs n); unfold blockI at this; omega)
/-- The padded bytes fill whole blocks. -/
theorem padded_whole (n : Nat) : ∃ q, n + (tailI n).length = 64 * (q + 1) := by
  have h1 : (tailI n).length = 1 + gap n + 8 := tailTo_length n (gap n) 8 (by omega)
  have h2 := gap_mod n
  refine ⟨(n + (1 + gap n) + 8) / 64 - 1, ?_⟩
  omega
theorem count_small (n : Nat) (h : n ≤ 4000) : countI (8 * n) = [0, 0, 0, 0, 0, 8 * (n : Int) / 65536, 8 * (n : Int) / 256, 8 * (n : Int) % 256] := by
  simp only [countI, List.cons.injEq, and_true]
  omega
theorem pad_not (n j : Nat) (h : j < gap n) : (n + (1 + j)) % 64 ≠ 56 := by have := gap_not n j h; omega
theorem pad_end (n : Nat) : (n + (1 + gap n)) % 64 = 56 := by have := gap_mod n; omega
theorem rfirst_any (w : World) : Calls Tryd.prog 43 #[] w fun e w' => e = .returned (.agg (vals .u32 firstI).toArray) ∧ Below w.heap.size w w' := by
  go_enter Tryd.func43, Tryd.ntmps43
  go_wp2
  refine ret_arr 0 74 rfl _ 0 rfl .u32 firstI (Arr.new w .u32 firstI 74) _ Tryd.underlying74 rfl 8 info_s rfl rfl ⟨rfl, (Below.refl _ _).alloc (Nat.le_refl _) _⟩
/-- A block cut out of bytes. -/
theorem mid_of (a : Option Addr) (n cap lo hi : Nat) (hhi : hi = lo + 64) (hlo : hi ≤ n) (hn : n ≤ cap) :
    ∃ a1 c1, (∀ w, (Instr.slice 22 (.slice a n cap) (some (.int .i64 (lo : Int))) (some (.int .i64 (hi : Int))) none).run Tryd.prog w = .ok (.slice a1 64 c1) w) ∧ ∀ (w0 : World) (r : List Int), Bytes w0 (.slice a n cap) r → Bytes w0 (.slice a1 64 c1) ((r.drop lo).take 64) := by
  refine ⟨if cap = lo then a else a.map (·.add lo), cap - lo, fun w => ?_, fun w0 r h => ?_⟩
  · rw [run_slice_lh w 22 _ n cap (by rw [Tryd.underlying22]; kernel_rfl) .i64 .i64 (lo : Int) (hi : Int) (by omega) (by omega) (by omega)]
    have e : (sizeOf (Tryd.prog.elem 22)).run Tryd.prog w = .ok 1 w := by kernel_rfl
    rw [e]
    simp [Result.andThen, sliced]
    omega
  · exact (h.drop lo (by omega)).take 64 (by omega)
theorem slice_all64 (b : Nat) (w : World) : (Instr.sliceAt 76 (.pointer (some ⟨b, 0, none⟩)) none none none).run Tryd.prog w = .ok (.slice (some ⟨b, 0, none⟩) 64 64) w := by
  have ht : Tryd.prog.underlying 76 = some (.array (Tryd.prog.arrayLen 76) (Tryd.prog.elem 76)) := by rw [Tryd.underlying76]; kernel_rfl
  have hl : Tryd.prog.arrayLen 76 = 64 := by kernel_rfl
  have e : (sizeOf (Tryd.prog.elem 76)).run Tryd.prog w = .ok 1 w := by kernel_rfl
  rw [run_sliceAt_array_all w 76 _ ht, e, hl]
  simp [Result.andThen, slicedAt, Addr.add_mid]

end Go.Proofs.YtbhninaaeeoamaaDoor
