import Derived.WalkKit
import Derived.Laws.BitsAllLaws
import Derived.KernelRfl
import Derived.Laws.CopyOwn
import Derived.Test.YtbeegcpmpgdbnaaDoorKitA
import Derived.Test.YtbeegcpmpgdbnaaDoorKit
import Derived.Deep.RegionHeld3
import Derived.BigQuiet
import Derived.WalkLawsBesides
import Derived.Deep.DeepCutAuto
/-
  Sums of 256 bits as plain functions of lists of numbers, with no word of the program: the numbers of a block, the 64 steps, a block taken into a state, bytes padded.
-/
namespace Go.Proofs.YtbeegcpmpgdbnaaDoor

/-- The bits of x, n places towards the lower ones; those that fall out come in above. -/
def turnI (x : Int) (n : Nat) : Int := bits .or .u32 (x / 2 ^ n) (x * 2 ^ (32 - n) % 4294967296)
def xorI (x y : Int) : Int := bits .xor .u32 x y
def andI (x y : Int) : Int := bits .and .u32 x y
def notI (x : Int) : Int := bits .xor .u32 (if IntKind.u32.signed = true then -1 else IntKind.u32.max) x
def addI (x y : Int) : Int := (x + y) % 4294967296
/-- Four bytes as a number, the highest first. -/
def wordI (a b c d : Int) : Int :=
  bits .or .u32 (bits .or .u32 (bits .or .u32 (IntKind.u32.wrap (IntKind.u32.wrap a * 16777216)) (IntKind.u32.wrap (IntKind.u32.wrap b * 65536))) (IntKind.u32.wrap (IntKind.u32.wrap c * 256))) (IntKind.u32.wrap d)
def low0 (x : Int) : Int := xorI (xorI (turnI x 7) (turnI x 18)) (x / 8)
def low1 (x : Int) : Int := xorI (xorI (turnI x 17) (turnI x 19)) (x / 1024)
/-- W's next number, out of those before it, the last one first. -/
def nextI (l : List Int) : Int := addI (addI (addI (low1 (l.getD 1 0)) (l.getD 6 0)) (low0 (l.getD 14 0))) (l.getD 15 0)
/-- The first n of W's numbers, the last one first. -/
def back (bs : List Int) : Nat → List Int
  | 0 => []
  | n + 1 => (if n < 16 then wordI (bs.getD (4 * n) 0) (bs.getD (4 * n + 1) 0) (bs.getD (4 * n + 2) 0) (bs.getD (4 * n + 3) 0) else nextI (back bs n)) :: back bs n
/-- W. -/
def sched (bs : List Int) : List Int := (back bs 64).reverse

/-- Eight numbers. -/
structure St where
  a : Int
  b : Int
  c : Int
  d : Int
  e : Int
  f : Int
  g : Int
  h : Int
def St.list (s : St) : List Int := [s.a, s.b, s.c, s.d, s.e, s.f, s.g, s.h]
def stOf (l : List Int) : St := ⟨l.getD 0 0, l.getD 1 0, l.getD 2 0, l.getD 3 0, l.getD 4 0, l.getD 5 0, l.getD 6 0, l.getD 7 0⟩
def pI (k x : Int) (s : St) : Int :=
  addI (addI (addI (addI s.h (xorI (xorI (turnI s.e 6) (turnI s.e 11)) (turnI s.e 25))) (xorI (andI s.e s.f) (andI (notI s.e) s.g))) k) x
def qI (s : St) : Int := addI (xorI (xorI (turnI s.a 2) (turnI s.a 13)) (turnI s.a 22)) (xorI (xorI (andI s.a s.b) (andI s.a s.c)) (andI s.b s.c))
/-- One step. -/
def rnd (k x : Int) (s : St) : St := ⟨addI (pI k x s) (qI s), s.a, s.b, s.c, addI s.d (pI k x s), s.e, s.f, s.g⟩
def K : List Int := [1116352408, 1899447441, 3049323471, 3921009573, 961987163, 1508970993, 2453635748, 2870763221, 3624381080, 310598401, 607225278, 1426881987, 1925078388, 2162078206, 2614888103, 3248222580, 3835390401, 4022224774, 264347078, 604807628, 770255983, 1249150122, 1555081692, 1996064986, 2554220882, 2821834349, 2952996808, 3210313671, 3336571891, 3584528711, 113926993, 338241895, 666307205, 773529912, 1294757372, 1396182291, 1695183700, 1986661051, 2177026350, 2456956037, 2730485921, 2820302411, 3259730800, 3345764771, 3516065817, 3600352804, 4094571909, 275423344, 430227734, 506948616, 659060556, 883997877, 958139571, 1322822218, 1537002063, 1747873779, 1955562222, 2024104815, 2227730452, 2361852424, 2428436474, 2756734187, 3204031479, 3329325298]
/-- The state behind the first n steps. -/
def steps (ws : List Int) (s : St) : Nat → St
  | 0 => s
  | n + 1 => rnd (K.getD n 0) (ws.getD n 0) (steps ws s n)
/-- A block taken into a state. -/
def blockI (s bs : List Int) : List Int := List.zipWith addI s (steps (sched bs) (stOf s) 64).list
/-- The first state. -/
def firstI : List Int := [1779033703, 3144134277, 1013904242, 2773480762, 1359893119, 2600822924, 528734635, 1541459225]
/-- The first n whole blocks of l, taken in one behind the other. -/
def blocksI (s l : List Int) : Nat → List Int
  | 0 => s
  | n + 1 => blockI (blocksI s l n) ((l.drop (64 * n)).take 64)
/-- The state behind the full blocks of bytes. -/
def stateOf (m : List Int) : List Int := blocksI firstI m (m.length / 64)
/-- How many bytes 0 stand behind the 0x80. -/
def gap (n : Nat) : Nat := (119 - n % 64) % 64
/-- A number of 64 bits as bytes, the highest first. -/
def countI (n : Int) : List Int := [n / 72057594037927936 % 256, n / 281474976710656 % 256, n / 1099511627776 % 256, n / 4294967296 % 256, n / 16777216 % 256, n / 65536 % 256, n / 256 % 256, n % 256]
def tailI (n : Nat) : List Int := 128 :: List.replicate (gap n) 0 ++ countI (8 * n)
def outI (x : Int) : List Int := [x / 16777216 % 256, x / 65536 % 256, x / 256 % 256, x % 256]
/-- The sum. -/
def digest (l : List Int) : List Int := (stateOf (l ++ tailI l.length)).flatMap outI

theorem digest_abc : digest [97, 98, 99] = [186, 120, 22, 191, 143, 1, 207, 234, 65, 65, 64, 222, 93, 174, 34, 35, 176, 3, 97, 163, 150, 23, 122, 156, 180, 16, 255, 97, 242, 0, 21, 173] := by kernel_rfl

theorem blockI_length (s bs : List Int) (hs : s.length = 8) : (blockI s bs).length = 8 := by simp [blockI, St.list, hs]
theorem blocksI_length (s l : List Int) (hs : s.length = 8) : ∀ n, (blocksI s l n).length = 8
  | 0 => hs
  | n + 1 => blockI_length _ _ (blocksI_length s l hs n)
theorem stateOf_length (m : List Int) : (stateOf m).length = 8 := blocksI_length _ _ rfl _
theorem blocksI_append (s l x : List Int) : ∀ n, 64 * n ≤ l.length → blocksI s (l ++ x) n = blocksI s l n
  | 0, _ => rfl
  | n + 1, h => by
    simp only [blocksI]
    rw [blocksI_append s l x n (by omega), List.drop_append_of_le_length (by omega), List.take_append_of_le_length (by simp; omega)]
/-- A piece that does not fill the block. -/
theorem stateOf_less (m x : List Int) (h : m.length % 64 + x.length < 64) : stateOf (m ++ x) = stateOf m := by
  have e : (m ++ x).length / 64 = m.length / 64 := by simp; omega
  rw [stateOf, e, blocksI_append _ _ _ _ (by omega)]
  rfl
/-- A piece that fills the block. -/
theorem stateOf_full (m x : List Int) (h : m.length % 64 + x.length = 64) : stateOf (m ++ x) = blockI (stateOf m) (m.drop (64 * (m.length / 64)) ++ x) := by
  have e : (m ++ x).length / 64 = m.length / 64 + 1 := by simp; omega
  rw [stateOf, e]
  simp only [blocksI]
  rw [blocksI_append _ _ _ _ (by omega), List.drop_append_of_le_length (by omega), List.take_of_length_le (by simp; omega)]
  rfl
/-- What a hasher's block begins with. -/
def Begins (blk m : List Int) : Prop := blk.length = 64 ∧ blk.take (m.length % 64) = m.drop (64 * (m.length / 64))
theorem Begins.less {blk m x : List Int} (h : Begins blk m) (hx : m.length % 64 + x.length < 64) : Begins (splice blk (m.length % 64) x) (m ++ x) := by
  obtain ⟨h1, h2⟩ := h
  refine ⟨by rw [length_splice _ _ _ (by omega)]; exact h1, ?_⟩
  have e1 : (m ++ x).length / 64 = m.length / 64 := by simp; omega
  have e2 : (m ++ x).length % 64 = m.length % 64 + x.length := by simp; omega
  have e3 : (blk.take (m.length % 64)).length = m.length % 64 := by simp; omega
  rw [e1, e2, List.drop_append_of_le_length (by omega), ← h2, splice, ← List.append_assoc, List.take_append_of_le_length (by simp; omega), List.take_of_length_le (by simp; omega)]
theorem Begins.full {blk m x : List Int} (h : Begins blk m) (hx : m.length % 64 + x.length = 64) : splice blk (m.length % 64) x = m.drop (64 * (m.length / 64)) ++ x ∧ Begins (splice blk (m.length % 64) x) (m ++ x) := by
  obtain ⟨h1, h2⟩ := h
  have e2 : (m ++ x).length % 64 = 0 := by simp; omega
  refine ⟨?_, by rw [length_splice _ _ _ (by omega)]; exact h1, ?_⟩
  · rw [← h2, splice, List.drop_of_length_le (by omega), List.append_nil]
  · rw [e2, List.take_zero, List.drop_of_length_le (by simp; omega)]

end Go.Proofs.YtbeegcpmpgdbnaaDoor

/-
  A hasher in memory: its count, its state, its block; what turns while bytes are written to it. Nothing here speaks of one function.
-/
namespace Go.Proofs.YtbeegcpmpgdbnaaDoor
open Go.RowKit

/-- Of the old blocks only block b turns. -/
def Only (b : Nat) (w w' : World) : Prop := Below b w w' ∧ ∀ k, b < k → k < w.heap.size → w'.heap[k]? = w.heap[k]?
theorem Only.refl (b : Nat) (w : World) : Only b w w := ⟨Below.refl _ _, fun _ _ _ => rfl⟩
theorem Only.trans {b : Nat} {w w1 w2 : World} (h : Only b w w1) (k : Only b w1 w2) : Only b w w2 :=
  ⟨h.1.trans k.1, fun i hi hl => (k.2 i hi (Nat.lt_of_lt_of_le hl h.1.size)).trans (h.2 i hi hl)⟩
theorem Only.of_below {b : Nat} {w w' : World} (h : Below w.heap.size w w') (hb : b ≤ w.heap.size) : Only b w w' := ⟨h.mono hb, fun i _ hl => h.block i hl⟩
theorem Only.set {b : Nat} {w w' : World} (h : Only b w w') (o : Nat) (v : Value) : Only b w (w'.setCell ⟨b, o, none⟩ v) :=
  ⟨h.1.setCell (Nat.le_refl _) v, fun i hi hl => (Below.heap_setCell w' ⟨b, o, none⟩ v i (by simp; omega)).trans (h.2 i hi hl)⟩
theorem Only.sets {b : Nat} {w : World} : ∀ (vs : List Value) (o : Nat) (w' : World), Only b w w' → Only b w (w'.setCells b o vs)
  | [], _, _, h => h
  | v :: vs, o, _, h => Only.sets vs (o + 1) _ (h.set o v)
theorem Only.drew {b : Nat} {w w' : World} (h : Only b w w') : Only b w w'.drew := ⟨h.1.drew, h.2⟩
theorem Only.size {b : Nat} {w w' : World} (h : Only b w w') : w.heap.size ≤ w'.heap.size := h.1.size
theorem Only.heap {b : Nat} {w w' : World} (h : Only b w w') (k : Nat) (hk : k ≠ b) (hl : k < w.heap.size) : w'.heap[k]? = w.heap[k]? := by
  rcases Nat.lt_or_gt_of_ne hk with h1 | h1
  · exact h.1.block k h1
  · exact h.2 k h1 hl
theorem Only.cell {b : Nat} {w w' : World} (h : Only b w w') (p : Addr) (hk : p.block ≠ b) (hl : p.block < w.heap.size) : w'.cell? p = w.cell? p := World.cell?_of_block (w := w) (h.heap p.block hk hl)
theorem Only.frozen {b : Nat} {w w' : World} (h : Only b w w') (p : Addr) (hk : p.block ≠ b) (hl : p.block < w.heap.size) : w'.frozen? p = w.frozen? p := World.frozen?_of_block (w := w) (h.heap p.block hk hl)
theorem Only.ground {b B : Nat} {w w' : World} (h : Only b w w') (hB : B ≤ b) : Below B w w' := h.1.mono hB

/-- Bytes that do not lie in block b. -/
def Src (w : World) (b : Nat) (v : Value) (l : List Int) : Prop := ∀ w', Only b w w' → Bytes w' v l
theorem Src.bytes {w : World} {b : Nat} {v : Value} {l : List Int} (h : Src w b v l) : Bytes w v l := h w (Only.refl _ _)
theorem Src.on {w w' : World} {b : Nat} {v : Value} {l : List Int} (h : Src w b v l) (ho : Only b w w') : Src w' b v l := fun w2 h2 => h w2 (ho.trans h2)
theorem Src.drop {w : World} {b : Nat} {a : Option Addr} {n cap : Nat} {l : List Int} (h : Src w b (.slice a n cap) l) (k : Nat) (hk : k ≤ n) :
    Src w b (.slice (if cap = k then a else a.map (·.add k)) (n - k) (cap - k)) (l.drop k) := fun w' h' => (h w' h').drop k hk
/-- Bytes that were there before the block was. -/
theorem Src.old {w0 w : World} {b : Nat} {v : Value} {l : List Int} (h : Bytes w0 v l) (hb : Below w0.heap.size w0 w) (hB : w0.heap.size ≤ b) : Src w b v l :=
  fun _ h' => h.below (hb.trans (h'.ground hB))
theorem Src.own {w : World} {b base : Nat} {v : Value} {l : List Int} (h : Own w base v l) (hB : b < base) : Src w b v l := by
  intro w' h'
  have hb := h.bytes
  obtain ⟨_, h0 | ⟨g, cap, cur, rfl, hbg, hg, -⟩⟩ := id h
  · obtain ⟨rfl, h0⟩ := h0
    obtain rfl : l = [] := List.length_eq_zero_iff.1 h0
    exact Bytes.nil _
  · obtain ⟨a, c, h1, h2, h3, h4, h5⟩ := hb
    refine ⟨a, c, h1, h2, h3, h4, fun hl => ?_⟩
    obtain ⟨b', off, rfl, hc⟩ := h5 hl
    refine ⟨b', off, rfl, fun i hi => (h'.cell _ ?_ (World.block_lt_of_cell? _ _ (hc i hi))).trans (hc i hi)⟩
    simp only [Value.slice.injEq, Option.some.injEq, Addr.mk.injEq] at h1
    show b' ≠ b
    omega

/-- A hasher: its count, its state, its block. -/
def HashAt (w : World) (b : Nat) (size : Int) (st blk : List Int) : Prop :=
  w.cell? ⟨b, 0, none⟩ = some (.int .u64 size) ∧ w.frozen? ⟨b, 0, none⟩ = false ∧ Arr w b 1 .u32 st ∧ Arr w b 9 .u8 blk ∧ st.length = 8 ∧ blk.length = 64
/-- It holds the bytes m, and is under way. -/
def Under (w : World) (b : Nat) (m : List Int) : Prop := ∃ blk, HashAt w b m.length (stateOf m) blk ∧ Begins blk m
/-- It holds the bytes m. -/
def Hashes (w : World) (b : Nat) (m : List Int) : Prop := ∃ st blk, HashAt w b m.length st blk ∧ Begins blk m ∧ (m = [] ∨ st = stateOf m)
theorem Under.hashes {w : World} {b : Nat} {m : List Int} (h : Under w b m) : Hashes w b m := by
  obtain ⟨blk, h1, h2⟩ := h
  exact ⟨_, blk, h1, h2, Or.inr rfl⟩
theorem HashAt.lt {w : World} {b : Nat} {size : Int} {st blk : List Int} (h : HashAt w b size st blk) : b < w.heap.size := World.block_lt_of_cell? _ _ h.1
theorem HashAt.heap {w w' : World} {b : Nat} {size : Int} {st blk : List Int} (h : HashAt w b size st blk) (e : w'.heap[b]? = w.heap[b]?) : HashAt w' b size st blk := by
  obtain ⟨h1, h2, h3, h4, h5, h6⟩ := h
  have hc : ∀ i, w'.cell? ⟨b, i, none⟩ = w.cell? ⟨b, i, none⟩ := fun i => World.cell?_of_block (w := w) e
  have hf : ∀ i, w'.frozen? ⟨b, i, none⟩ = w.frozen? ⟨b, i, none⟩ := fun i => World.frozen?_of_block (w := w) e
  exact ⟨(hc 0).trans h1, (hf 0).trans h2, h3.at (fun i _ => hc _) (fun i _ => hf _), h4.at (fun i _ => hc _) (fun i _ => hf _), h5, h6⟩
theorem HashAt.on {w w' : World} {b : Nat} {size : Int} {st blk : List Int} (h : HashAt w b size st blk) (hb : Below w.heap.size w w') : HashAt w' b size st blk := h.heap (hb.block b h.lt)
theorem HashAt.beside {w w' : World} {b b' : Nat} {size : Int} {st blk : List Int} (h : HashAt w b size st blk) (ho : Only b' w w') (hne : b ≠ b') : HashAt w' b size st blk := h.heap (ho.heap b hne h.lt)
theorem Hashes.heap {w w' : World} {b : Nat} {m : List Int} (h : Hashes w b m) (e : w'.heap[b]? = w.heap[b]?) : Hashes w' b m := by
  obtain ⟨st, blk, h1, h2⟩ := h
  exact ⟨st, blk, h1.heap e, h2⟩
theorem Hashes.lt {w : World} {b : Nat} {m : List Int} (h : Hashes w b m) : b < w.heap.size := by
  obtain ⟨st, blk, h1, -⟩ := h
  exact h1.lt
theorem Hashes.on {w w' : World} {b : Nat} {m : List Int} (h : Hashes w b m) (hb : Below w.heap.size w w') : Hashes w' b m := h.heap (hb.block b h.lt)
theorem Hashes.beside {w w' : World} {b b' : Nat} {m : List Int} (h : Hashes w b m) (ho : Only b' w w') (hne : b ≠ b') : Hashes w' b m := h.heap (ho.heap b hne h.lt)

/-- The cells of a hasher. -/
def cellsOf (size : Int) (st blk : List Int) : List Value := .int .u64 size :: (vals .u32 st ++ vals .u8 blk)
theorem HashAt.range {w : World} {b : Nat} {size : Int} {st blk : List Int} (h : HashAt w b size st blk) : w.rangeAt b 0 (cellsOf size st blk) := by
  obtain ⟨h1, -, h3, h4, h5, h6⟩ := h
  intro j v hv
  rw [Nat.zero_add]
  cases j with
  | zero =>
    simp only [cellsOf, List.getElem?_cons_zero, Option.some.injEq] at hv
    rw [← hv]
    exact h1
  | succ j =>
    simp only [cellsOf, List.getElem?_cons_succ] at hv
    by_cases hj : j < 8
    · rw [List.getElem?_append_left (by rw [vals_length]; omega)] at hv
      have := h3.1 j v hv
      rwa [Nat.add_comm] at this
    · rw [List.getElem?_append_right (by rw [vals_length]; omega), vals_length, h5] at hv
      have := h4.1 (j - 8) v hv
      rwa [show 9 + (j - 8) = j + 1 by omega] at this
theorem HashAt.new (w : World) (size : Int) (st blk : List Int) (t : TypeId) (h5 : st.length = 8) (h6 : blk.length = 64) : HashAt (w.alloc (.cells (cellsOf size st blk).toArray t)) w.heap.size size st blk := by
  have hc : ∀ j, (w.alloc (.cells (cellsOf size st blk).toArray t)).cell? ⟨w.heap.size, j, none⟩ = (cellsOf size st blk)[j]? := fun j => by
    rw [cell_of_row _ _ _ _ t (0, 0) (heap_alloc_new w _)]
    simp
  have hf : ∀ j, (w.alloc (.cells (cellsOf size st blk).toArray t)).frozen? ⟨w.heap.size, j, none⟩ = false := fun j => frozen_of_row _ _ _ _ t (heap_alloc_new w _)
  have e1 : ∀ j, j < 8 → (cellsOf size st blk)[1 + j]? = (vals .u32 st)[j]? := fun j hj => by
    rw [Nat.add_comm]
    simp only [cellsOf, List.getElem?_cons_succ]
    rw [List.getElem?_append_left (by rw [vals_length]; omega)]
  have e2 : ∀ j, (cellsOf size st blk)[9 + j]? = (vals .u8 blk)[j]? := fun j => by
    rw [show 9 + j = (8 + j) + 1 by omega]
    simp only [cellsOf, List.getElem?_cons_succ]
    rw [List.getElem?_append_right (by rw [vals_length]; omega), vals_length, show 8 + j - st.length = j by omega]
  refine ⟨hc 0, hf 0, ⟨fun j v hv => ?_, fun j hj => ⟨?_, hf _⟩⟩, ⟨fun j v hv => ?_, fun j hj => ⟨?_, hf _⟩⟩, h5, h6⟩
  · have hj : j < 8 := by have := (List.getElem?_eq_some_iff.1 hv).1; rw [vals_length] at this; omega
    rw [hc, e1 j hj]
    exact hv
  · rw [hc, e1 j (by omega), vals_get .u32 st j hj]
    rfl
  · rw [hc, e2]
    exact hv
  · rw [hc, e2, vals_get .u8 blk j hj]
    rfl
theorem HashAt.box {w : World} {b : Nat} {size : Int} {st blk : List Int} (h : HashAt w b size st blk) (t : TypeId) : HashAt (w.alloc (.cells (cellsOf size st blk).toArray t)) w.heap.size size st blk := HashAt.new w size st blk t h.2.2.2.2.1 h.2.2.2.2.2
theorem cellsOf_length (size : Int) (st blk : List Int) (h5 : st.length = 8) (h6 : blk.length = 64) : (cellsOf size st blk).length = 73 := by simp [cellsOf, vals, h5, h6]
theorem Begins.nil (blk : List Int) (h : blk.length = 64) : Begins blk [] := ⟨h, by simp⟩

/-- Bytes go into the block. -/
theorem HashAt.copied {w : World} {b : Nat} {size : Int} {st blk : List Int} (h : HashAt w b size st blk) (p : Nat) (x : List Int) (hx : p + x.length ≤ 64) : HashAt (w.setCells b (9 + p) (vals .u8 x)) b size st (splice blk p x) := by
  obtain ⟨h1, h2, h3, h4, h5, h6⟩ := h
  refine ⟨?_, by rw [World.frozen?_setCells]; exact h2, h3.apart _ _ _ (Or.inr (Or.inl (by omega))), ⟨fun j v hv => ?_, ?_⟩, h5, by rw [length_splice _ _ _ (by omega)]; exact h6⟩
  · rw [World.cell?_setCells_out _ _ _ _ _ (fun _ _ => Or.inl (by show 0 < 9 + p; omega))]
    exact h1
  · have hl : (splice blk p x).length = 64 := by rw [length_splice _ _ _ (by omega)]; exact h6
    have hj : j < 64 := by have := (List.getElem?_eq_some_iff.1 hv).1; rw [vals_length] at this; omega
    have hth : ∀ i, i < (vals .u8 x).length → (w.cell? ⟨b, 9 + p + i, none⟩).isSome = true := fun i hi => by
      rw [vals_length] at hi
      rw [Nat.add_assoc]
      exact (h4.2 (p + i) (by omega)).1
    have hg : v = .int .u8 ((splice blk p x).getD j 0) := by
      rw [vals_get .u8 _ j (by omega)] at hv
      exact (Option.some.inj hv).symm
    rw [hg]
    by_cases hin : p ≤ j ∧ j < p + x.length
    · have hi : j - p < (vals .u8 x).length := by rw [vals_length]; omega
      have := World.cell?_setCells_in b (vals .u8 x) (9 + p) w hth (j - p) hi
      rw [show 9 + p + (j - p) = 9 + j by omega] at this
      rw [this]
      have e : (splice blk p x).getD j 0 = x.getD (j - p) 0 := by
        simp only [splice, List.getD]
        rw [List.getElem?_append_right (by simp; omega), List.getElem?_append_left (by simp; omega)]
        simp
        rw [show min p blk.length = p by omega]
      rw [e]
      simp [vals, List.getD]
      rw [List.getElem?_eq_getElem (by omega)]
      rfl
    · rw [World.cell?_setCells_out _ _ _ _ _ (fun _ _ => by rw [vals_length]; show 9 + j < 9 + p ∨ 9 + p + x.length ≤ 9 + j; omega), h4.cell j (by omega)]
      congr 2
      simp only [splice, List.getD]
      by_cases hjp : j < p
      · rw [List.getElem?_append_left (by simp; omega), List.getElem?_take_of_lt hjp]
      · rw [List.getElem?_append_right (by simp; omega), List.getElem?_append_right (by simp; omega), List.getElem?_drop]
        simp
        congr 2
        omega
  · rw [length_splice _ _ _ (by omega)]
    exact World.there_setCells h4.2 _ _ _
/-- The count is written. -/
theorem HashAt.counted {w : World} {b : Nat} {size : Int} {st blk : List Int} (h : HashAt w b size st blk) (n : Int) : HashAt (w.setCell ⟨b, 0, none⟩ (.int .u64 n)) b n st blk := by
  obtain ⟨h1, h2, h3, h4, h5, h6⟩ := h
  exact ⟨World.cell?_setCell_same _ _ _ h1, by rw [World.frozen?_setCell]; exact h2, h3.beside _ _ (Or.inr (Or.inl (by simp))), h4.beside _ _ (Or.inr (Or.inl (by simp))), h5, h6⟩
/-- The state is written. -/
theorem HashAt.stated {w : World} {b : Nat} {size : Int} {st blk : List Int} (h : HashAt w b size st blk) (st' : List Int) (h' : st'.length = 8) : HashAt (w.setCells b 1 (vals .u32 st')) b size st' blk := by
  obtain ⟨h1, h2, h3, h4, h5, h6⟩ := h
  refine ⟨?_, by rw [World.frozen?_setCells]; exact h2, Arr.put (by rw [h', ← h5]; exact h3.2), h4.apart _ _ _ (Or.inr (Or.inr (by rw [vals_length]; omega))), h', h6⟩
  rw [World.cell?_setCells_out _ _ _ _ _ (fun _ _ => Or.inl (by show 0 < 1; omega))]
  exact h1

end Go.Proofs.YtbeegcpmpgdbnaaDoor

/-
  What sha.turn answers at this program.
-/
namespace Go.Proofs.YtbeegcpmpgdbnaaDoor
open Go.RowKit

theorem turn_any (x : Int) (n : Nat) (w : World) (h2 : 0 < n) (h3 : n < 32) :
    Calls Tryd.prog 71 #[.int .u32 x, .int .u64 n] w fun e w' => e = .returned (.int .u32 (turnI x n)) ∧ w' = w := by
  unfold turnI
  go_enter Tryd.func71, Tryd.ntmps71
  go_wp2
  go_ret
  exact ⟨rfl, rfl⟩
theorem turn_int (x m : Int) (w : World) (h2 : 0 < m) (h3 : m < 32) :
    Calls Tryd.prog 71 #[.int .u32 x, .int .u64 m] w fun e w' => e = .returned (.int .u32 (turnI x m.toNat)) ∧ w' = w := by
  obtain ⟨n, rfl⟩ : ∃ n : Nat, m = n := ⟨m.toNat, by omega⟩
  rw [Int.toNat_natCast]
  exact turn_any x n w (by omega) (by omega)

end Go.Proofs.YtbeegcpmpgdbnaaDoor

/-
  What sha.spread answers at this program.
-/
namespace Go.Proofs.YtbeegcpmpgdbnaaDoor
open Go.RowKit

theorem back_length (bs : List Int) : ∀ n, (back bs n).length = n
  | 0 => rfl
  | n + 1 => by simp [back, back_length bs n]
/-- An array of 64 numbers of which those of l stand, the last one first. -/
def padded (l : List Int) : List Int := l.reverse ++ List.replicate (64 - l.length) 0
theorem padded_length {l : List Int} (h : l.length ≤ 64) : (padded l).length = 64 := by simp [padded]; omega
theorem padded_get {l : List Int} (j : Nat) (h : j < l.length) : (padded l).getD (l.length - 1 - j) 0 = l.getD j 0 := by
  have h1 : l.length - 1 - j < l.reverse.length := by simp; omega
  simp only [padded, List.getD, List.getElem?_append_left h1, List.getElem?_reverse (by omega : l.length - 1 - j < l.length)]
  rw [show l.length - 1 - (l.length - 1 - j) = j by omega]
theorem padded_set {l : List Int} (h : l.length < 64) (z : Int) : (padded l).set l.length z = padded (z :: l) := by
  have h1 : 64 - l.length = (64 - (z :: l).length) + 1 := by simp; omega
  simp only [padded, List.reverse_cons, List.append_assoc]
  rw [h1, List.set_append_right _ _ (by simp)]
  simp [List.replicate_succ]
theorem padded_full {l : List Int} (h : l.length = 64) : padded l = l.reverse := by simp [padded, h]

/-- What holds at the head of a round of the loops. -/
def Spread (w : World) (bs : List Int) (k : Nat) (wr : World) : Prop :=
  Below w.heap.size w wr ∧ Arr wr w.heap.size 0 .u8 bs ∧ Arr wr (w.heap.size + 1) 0 .u32 (List.replicate 64 0) ∧ Arr wr (w.heap.size + 1 + 1) 0 .u32 (padded (back bs k))
def Spread1 (w : World) (bs : List Int) (i : Value) (wr : World) : Prop := ∃ k : Nat, k ≤ 16 ∧ i = .int .i64 k ∧ Spread w bs k wr
def Spread2 (w : World) (bs : List Int) (i : Value) (wr : World) : Prop := ∃ k : Nat, 16 ≤ k ∧ k ≤ 64 ∧ i = .int .i64 k ∧ Spread w bs k wr
theorem Spread.next {w wr : World} {bs : List Int} {k : Nat} (h : Spread w bs k wr) (hk : k < 64) (z : Int) (hz : back bs (k + 1) = z :: back bs k) : Spread w bs (k + 1) (wr.setCell ⟨w.heap.size + 1 + 1, k, none⟩ (.int .u32 z)).drew := by
  obtain ⟨h1, h2, h3, h4⟩ := h
  refine ⟨(h1.setCell (by simp; omega) _).drew, (h2.beside _ _ (Or.inl (by simp; omega))).drew, (h3.beside _ _ (Or.inl (by simp))).drew, ?_⟩
  have hl := back_length bs k
  have := h4.set0 k (by rw [padded_length] <;> omega) z
  rw [show (padded (back bs k)).set k z = padded (z :: back bs k) by rw [← padded_set (by omega), hl]] at this
  rw [hz]
  exact this.drew
theorem Spread.drew {w wr : World} {bs : List Int} {k : Nat} (h : Spread w bs k wr) : Spread w bs k wr.drew := ⟨h.1.drew, h.2.1.drew, h.2.2.1.drew, h.2.2.2.drew⟩
theorem Spread.start (w : World) (bs : List Int) (cs ds : Array Value) (hc : cs = (vals .u32 (List.replicate 64 0)).toArray) (hd : ds = (vals .u32 (List.replicate 64 0)).toArray) (t t' t'' : TypeId) :
    Spread w bs 0 (((w.alloc (.cells (vals .u8 bs).toArray t)).alloc (.cells cs t')).alloc (.cells ds t'')) := by
  subst hc hd
  refine ⟨(((Below.refl _ _).alloc (Nat.le_refl _) _).alloc (by rw [alloc_size]; omega) _).alloc (by rw [alloc_size, alloc_size]; omega) _, ((Arr.new w .u8 bs t).alloc _).alloc _, ?_, ?_⟩
  · have := (Arr.new (w.alloc (.cells (vals .u8 bs).toArray t)) .u32 (List.replicate 64 0) t').alloc (.cells (vals .u32 (List.replicate 64 0)).toArray t'')
    rwa [alloc_size] at this
  · have := Arr.new ((w.alloc (.cells (vals .u8 bs).toArray t)).alloc (.cells (vals .u32 (List.replicate 64 0)).toArray t')) .u32 (List.replicate 64 0) t''
    rwa [alloc_size, alloc_size] at this

theorem info_w : (Tryd.prog.info? 91).map (·.size) = some 64 := by kernel_rfl
set_option maxHeartbeats 1000000 in
theorem spread_any (bs : List Int) (w : World) (hb : bs.length = 64) :
    Calls Tryd.prog 68 #[.agg (vals .u8 bs).toArray] w fun e w' => e = .returned (.agg (vals .u32 (sched bs)).toArray) ∧ Below w.heap.size w w' := by
  have HL := hide hb
  have T7 := hide (fun x w => turn_any x 7 w (by omega) (by omega))
  have T18 := hide (fun x w => turn_any x 18 w (by omega) (by omega))
  have T17 := hide (fun x w => turn_any x 17 w (by omega) (by omega))
  have T19 := hide (fun x w => turn_any x 19 w (by omega) (by omega))
  clear hb
  go_enter Tryd.func68, Tryd.ntmps68
  go_wp2
  go_loopw [10] (fun i wr => Spread1 w bs i wr) (fun i _ => 16 - (intOf i).toNat)
  case atStart => exact ⟨0, by omega, rfl, Spread.start w bs _ _ rfl rfl _ _ _⟩
  case round =>
    obtain ⟨k, hk, rfl, hS⟩ := hrel
    have HS := hide hS
    by_cases hlt : k < 16
    · have R := hide (fun z hz => Spread.next hS (by omega) z hz)
      obtain ⟨-, hB, -, hW⟩ := hS
      have c0 := hB.cell0 (4 * k) (by have := HL.out; omega)
      have c1 := hB.cell0 (4 * k + 1) (by have := HL.out; omega)
      have c2 := hB.cell0 (4 * k + 2) (by have := HL.out; omega)
      have c3 := hB.cell0 (4 * k + 3) (by have := HL.out; omega)
      have hkl : k < (padded (back bs k)).length := by rw [padded_length (by rw [back_length]; omega)]; omega
      have c4 := hW.cell0 k hkl
      have c5 := hW.free0 k hkl
      have HN : Hid (back bs (k + 1) = wordI (bs.getD (4 * k) 0) (bs.getD (4 * k + 1) 0) (bs.getD (4 * k + 2) 0) (bs.getD (4 * k + 3) 0) :: back bs k) := by
        refine hide ?_
        simp only [back, if_pos hlt]
      clear hB hW hkl
      generalize bs.getD (4 * k) 0 = x0 at *
      generalize bs.getD (4 * k + 1) 0 = x1 at *
      generalize bs.getD (4 * k + 2) 0 = x2 at *
      generalize bs.getD (4 * k + 3) 0 = x3 at *
      generalize (padded (back bs k)).getD k 0 = x4 at *
      obtain ⟨q0, hq0⟩ : ∃ q, q = 4 * k := ⟨_, rfl⟩
      obtain ⟨q1, hq1⟩ : ∃ q, q = 4 * k + 1 := ⟨_, rfl⟩
      obtain ⟨q2, hq2⟩ : ∃ q, q = 4 * k + 2 := ⟨_, rfl⟩
      obtain ⟨q3, hq3⟩ : ∃ q, q = 4 * k + 3 := ⟨_, rfl⟩
      rw [← hq0] at c0
      rw [← hq1] at c1
      rw [← hq2] at c2
      rw [← hq3] at c3
      have e0 : IntKind.i64.wrap (4 * (k : Int)) = (q0 : Int) := wrap_small (by omega) (by omega)
      have e1 : IntKind.i64.wrap ((q0 : Int) + 1) = (q1 : Int) := wrap_small (by omega) (by omega)
      have e2 : IntKind.i64.wrap ((q0 : Int) + 2) = (q2 : Int) := wrap_small (by omega) (by omega)
      have e3 : IntKind.i64.wrap ((q0 : Int) + 3) = (q3 : Int) := wrap_small (by omega) (by omega)
      have b0 : (q0 : Int) < 64 := by omega
      have b1 : (q1 : Int) < 64 := by omega
      have b2 : (q2 : Int) < 64 := by omega
      have b3 : (q3 : Int) < 64 := by omega
      have b4 : (k : Int) < 64 := by omega
      have HG : Hid (w.heap.size + 1 + 1 ≠ w.heap.size) := hide (by omega)
      clear hq0 hq1 hq2 hq3
      generalize hg0 : w.heap.size = g0 at *
      generalize hg2 : g0 + 1 + 1 = g2 at *
      clear hg0 hg2
      go_wp2
      go_region_held3 (fun wx => wx.cell? ⟨g0, q0, none⟩ = some (.int .u8 x0) ∧ wx.cell? ⟨g0, q1, none⟩ = some (.int .u8 x1) ∧ wx.cell? ⟨g0, q2, none⟩ = some (.int .u8 x2) ∧ wx.cell? ⟨g0, q3, none⟩ = some (.int .u8 x3)) (first | exact ⟨cell_keep c0 HG.out, cell_keep c1 HG.out, cell_keep c2 HG.out, cell_keep c3 HG.out⟩ | (go_keep; done)) (fail)
      go_wp2
      go_roundw
      case rel => exact ⟨k + 1, by omega, by go_num, R.out _ HN.out⟩
      case measure => simp [intOf]; omega
    · obtain rfl : k = 16 := by omega
      clear hlt hk HS
      have HS := hide hS
      clear hS
      go_wp2
      go_loopw [5] (fun i wr => Spread2 w bs i wr) (fun i _ => 64 - (intOf i).toNat)
      case atStart => exact ⟨16, by omega, by omega, rfl, HS.out⟩
      case round =>
        clear HS
        obtain ⟨k, hk0, hk, rfl, hS⟩ := hrel
        by_cases hlt : k < 64
        · have R := hide (fun (wx : World) (hx : Spread w bs k wx) (z : Int) (hz : back bs (k + 1) = z :: back bs k) => Spread.next hx hlt z hz)
          have HS := hide hS
          obtain ⟨-, -, -, hW⟩ := hS
          have hl : (padded (back bs k)).length = 64 := by rw [padded_length (by rw [back_length]; omega)]
          obtain ⟨q2, hq2⟩ : ∃ q, q = k - 2 := ⟨_, rfl⟩
          obtain ⟨q7, hq7⟩ : ∃ q, q = k - 7 := ⟨_, rfl⟩
          obtain ⟨q15, hq15⟩ : ∃ q, q = k - 15 := ⟨_, rfl⟩
          obtain ⟨q16, hq16⟩ : ∃ q, q = k - 16 := ⟨_, rfl⟩
          have c2 := hW.cell0 q2 (by omega)
          have c7 := hW.cell0 q7 (by omega)
          have c15 := hW.cell0 q15 (by omega)
          have c16 := hW.cell0 q16 (by omega)
          have c4 := hW.cell0 k (by omega)
          have c5 := hW.free0 k (by omega)
          have hbl := back_length bs k
          have p2 := padded_get (l := back bs k) 1 (by omega)
          have p7 := padded_get (l := back bs k) 6 (by omega)
          have p15 := padded_get (l := back bs k) 14 (by omega)
          have p16 := padded_get (l := back bs k) 15 (by omega)
          rw [hbl, show k - 1 - 1 = q2 by omega] at p2
          rw [hbl, show k - 1 - 6 = q7 by omega] at p7
          rw [hbl, show k - 1 - 14 = q15 by omega] at p15
          rw [hbl, show k - 1 - 15 = q16 by omega] at p16
          have HN : Hid (back bs (k + 1) = nextI (back bs k) :: back bs k) := by
            refine hide ?_
            simp only [back, if_neg (show ¬ k < 16 by omega)]
          rw [show nextI (back bs k) = addI (addI (addI (low1 ((back bs k).getD 1 0)) ((back bs k).getD 6 0)) (low0 ((back bs k).getD 14 0))) ((back bs k).getD 15 0) from rfl, ← p2, ← p7, ← p15, ← p16] at HN
          clear hW hl hbl p2 p7 p15 p16
          generalize (padded (back bs k)).getD q2 0 = x2 at *
          generalize (padded (back bs k)).getD q7 0 = x7 at *
          generalize (padded (back bs k)).getD q15 0 = x15 at *
          generalize (padded (back bs k)).getD q16 0 = x16 at *
          generalize (padded (back bs k)).getD k 0 = x4 at *
          have e2 : IntKind.i64.wrap ((k : Int) - 2) = (q2 : Int) := wrap_small (by omega) (by omega)
          have e7 : IntKind.i64.wrap ((k : Int) - 7) = (q7 : Int) := wrap_small (by omega) (by omega)
          have e15 : IntKind.i64.wrap ((k : Int) - 15) = (q15 : Int) := wrap_small (by omega) (by omega)
          have e16 : IntKind.i64.wrap ((k : Int) - 16) = (q16 : Int) := wrap_small (by omega) (by omega)
          have b2 : (q2 : Int) < 64 := by omega
          have b7 : (q7 : Int) < 64 := by omega
          have b15 : (q15 : Int) < 64 := by omega
          have b16 : (q16 : Int) < 64 := by omega
          have b4 : (k : Int) < 64 := by omega
          have n2 : Hid (k ≠ q2 ∧ k ≠ q7 ∧ k ≠ q15 ∧ k ≠ q16) := hide (by omega)
          clear hq2 hq7 hq15 hq16
          generalize hg0 : w.heap.size = g0 at *
          generalize hg2 : g0 + 1 + 1 = g2 at *
          clear hg0 hg2
          go_wp2
          go_region_held3 (fun wx => wx.cell? ⟨g2, q15, none⟩ = some (.int .u32 x15) ∧ wx.cell? ⟨g2, q2, none⟩ = some (.int .u32 x2)) (first | (go_keep; done)) (fail)
          go_wp2_with fail
          refine (T7.out _ _).mono ?_
          rintro e w1 ⟨rfl, rfl⟩
          go_wp2_with fail
          refine (T18.out _ _).mono ?_
          rintro e w1 ⟨rfl, rfl⟩
          go_wp2_with fail
          refine (T17.out _ _).mono ?_
          rintro e w1 ⟨rfl, rfl⟩
          go_wp2_with fail
          refine (T19.out _ _).mono ?_
          rintro e w1 ⟨rfl, rfl⟩
          go_wp2_with fail
          go_region_held3 (fun wx => wx.cell? ⟨g2, q7, none⟩ = some (.int .u32 x7) ∧ wx.cell? ⟨g2, q16, none⟩ = some (.int .u32 x16)) (first | exact ⟨cell_keep2 c7 n2.out.2.1, cell_keep2 c16 n2.out.2.2.2⟩ | (go_keep; done)) (fail)
          have RR : Hid (Spread2 w bs (.int .i64 ((k + 1 : Nat) : Int)) (wr.setCell ⟨g2, k, none⟩ (.int .u32 (addI (addI (addI (low1 x2) x7) (low0 x15)) x16))).drew.drew) := hide ⟨k + 1, by omega, by omega, rfl, R.out _ HS.out.drew _ HN.out⟩
          go_wp2
          go_roundw
          case rel => first | exact RR.out | ((repeat apply Exists.intro); exact ⟨RR.out, rfl⟩)
          case measure => simp [intOf]; omega
        · obtain rfl : k = 64 := by omega
          clear hlt hk
          obtain ⟨hbel, -, hR, hW⟩ := hS
          rw [padded_full (back_length bs 64)] at hW
          have HR : Hid (wr.there (w.heap.size + 1) 0 64) := hide (by simpa using hR.2)
          have HW := hide hW
          have HN : Hid ((back bs 64).reverse.length = 64) := hide (by simp [back_length])
          have HB := hide hbel
          clear hR hW hbel
          go_wp2_with (first | (refine wp_load_arr rfl 91 (.tmp 3) rfl _ 0 rfl .u32 _ HW.out _ Tryd.underlying91 rfl 64 info_w HN.out ?_) | (refine wp_store_arr rfl 91 (.tmp 2) (.tmp 88) rfl _ 0 .u32 (back bs 64).reverse rfl rfl 64 HR.out info_w HN.out ?_))
          refine ret_arr 2 91 rfl _ 0 rfl .u32 (back bs 64).reverse (Arr.put (by rw [HN.out]; exact HR.out)) _ Tryd.underlying91 rfl 64 info_w HN.out rfl ⟨rfl, below_sets (by omega) _ _ _ HB.out⟩

end Go.Proofs.YtbeegcpmpgdbnaaDoor

/-
  What sha.mix answers at this program, where the table of constants holds.
-/
namespace Go.Proofs.YtbeegcpmpgdbnaaDoor
open Go.RowKit

/-- The program's table of constants, as it was laid. -/
def Ks (w : World) : Prop := ∀ i, i < 64 → w.cell? ⟨2, i, none⟩ = some (.int .u32 (K.getD i 0))
theorem Ks.on {w w' : World} (h : Ks w) (hb : Below w.heap.size w w') : Ks w' := fun i hi => (hb.cell (World.block_lt_of_cell? _ _ (h i hi))).trans (h i hi)
theorem Ks.lt {w : World} (h : Ks w) : 2 < w.heap.size := World.block_lt_of_cell? _ _ (h 0 (by omega))

/-- What holds at the head of a round. -/
def Mixing (w : World) (ws : List Int) (s : St) (a b c d e f g h i : Value) (wr : World) : Prop :=
  ∃ k : Nat, k ≤ 64 ∧ i = .int .i64 k ∧ a = .int .u32 (steps ws s k).a ∧ b = .int .u32 (steps ws s k).b ∧ c = .int .u32 (steps ws s k).c ∧ d = .int .u32 (steps ws s k).d ∧
    e = .int .u32 (steps ws s k).e ∧ f = .int .u32 (steps ws s k).f ∧ g = .int .u32 (steps ws s k).g ∧ h = .int .u32 (steps ws s k).h ∧
    Below w.heap.size w wr ∧ Arr wr (w.heap.size + 1) 0 .u32 ws ∧ Arr wr (w.heap.size + 1 + 1) 0 .u32 (List.replicate 8 0)

theorem Mixing.next {w wr : World} {ws : List Int} {s : St} {k : Nat} (hk : k < 64) (hbel : Below w.heap.size w wr) (hW : Arr wr (w.heap.size + 1) 0 .u32 ws) (hR : Arr wr (w.heap.size + 1 + 1) 0 .u32 (List.replicate 8 0)) (n : Nat)
    (A B C D E F G H : Int) (he : rnd (K.getD k 0) (ws.getD k 0) (steps ws s k) = ⟨A, B, C, D, E, F, G, H⟩) :
    Mixing w ws s (.int .u32 A) (.int .u32 B) (.int .u32 C) (.int .u32 D) (.int .u32 E) (.int .u32 F) (.int .u32 G) (.int .u32 H) (.int .i64 ((k + 1 : Nat) : Int)) (wr.drewN n) := by
  have hb : Below wr.heap.size wr (wr.drewN n) := ⟨rfl, rfl, rfl, Nat.le_refl _, fun _ _ => rfl⟩
  have hs : steps ws s (k + 1) = ⟨A, B, C, D, E, F, G, H⟩ := he
  refine ⟨k + 1, by omega, rfl, ?_⟩
  rw [hs]
  exact ⟨rfl, rfl, rfl, rfl, rfl, rfl, rfl, rfl, below_on' hbel hb (Nat.le_refl _), hW.on hb, hR.on hb⟩
theorem Mixing.start (w : World) (s : St) (ws : List Int) (cs : Array Value) (hc : cs = (vals .u32 (List.replicate 8 0)).toArray) (t t' t'' : TypeId) :
    Below w.heap.size w (((w.alloc (.cells (vals .u32 s.list).toArray t)).alloc (.cells (vals .u32 ws).toArray t')).alloc (.cells cs t'')) ∧
    Arr (((w.alloc (.cells (vals .u32 s.list).toArray t)).alloc (.cells (vals .u32 ws).toArray t')).alloc (.cells cs t'')) w.heap.size 0 .u32 s.list ∧
    Arr (((w.alloc (.cells (vals .u32 s.list).toArray t)).alloc (.cells (vals .u32 ws).toArray t')).alloc (.cells cs t'')) (w.heap.size + 1) 0 .u32 ws ∧
    Arr (((w.alloc (.cells (vals .u32 s.list).toArray t)).alloc (.cells (vals .u32 ws).toArray t')).alloc (.cells cs t'')) (w.heap.size + 1 + 1) 0 .u32 (List.replicate 8 0) := by
  subst hc
  refine ⟨(((Below.refl _ _).alloc (Nat.le_refl _) _).alloc (by rw [alloc_size]; omega) _).alloc (by rw [alloc_size, alloc_size]; omega) _, ((Arr.new w .u32 s.list t).alloc _).alloc _, ?_, ?_⟩
  · have := (Arr.new (w.alloc (.cells (vals .u32 s.list).toArray t)) .u32 ws t').alloc (.cells (vals .u32 (List.replicate 8 0)).toArray t'')
    rwa [alloc_size] at this
  · have := Arr.new ((w.alloc (.cells (vals .u32 s.list).toArray t)).alloc (.cells (vals .u32 ws).toArray t')) .u32 (List.replicate 8 0) t''
    rwa [alloc_size, alloc_size] at this
theorem info_s : (Tryd.prog.info? 72).map (·.size) = some 8 := by kernel_rfl

set_option maxRecDepth 100000 in
set_option maxHeartbeats 1000000 in
theorem mix_any (s : St) (ws : List Int) (w : World) (hw : ws.length = 64) (hk : Ks w) :
    Calls Tryd.prog 67 #[.agg (vals .u32 s.list).toArray, .agg (vals .u32 ws).toArray] w fun e w' => e = .returned (.agg (vals .u32 (steps ws s 64).list).toArray) ∧ Below w.heap.size w w' := by
  have HK := hide hk
  have HW := hide hw
  have hk0 := hk.lt
  have T := hide (fun x m w h2 h3 => turn_int x m w h2 h3)
  clear hk hw
  go_enter Tryd.func67, Tryd.ntmps67
  go_wp2
  obtain ⟨W, hW⟩ : ∃ W, W = (((w.alloc (.cells (vals .u32 s.list).toArray 72)).alloc (.cells (vals .u32 ws).toArray 91)).alloc (.cells #[.int .u32 0, .int .u32 0, .int .u32 0, .int .u32 0, .int .u32 0, .int .u32 0, .int .u32 0, .int .u32 0] 72)) := ⟨_, rfl⟩
  rw [← hW]
  have hst := Mixing.start w s ws #[.int .u32 0, .int .u32 0, .int .u32 0, .int .u32 0, .int .u32 0, .int .u32 0, .int .u32 0, .int .u32 0] rfl 72 91 72
  rw [← hW] at hst
  obtain ⟨hbel, hA, hWs, hR⟩ := hst
  clear hW
  have c0 : W.cell? ⟨w.heap.size, 0, none⟩ = some (.int .u32 s.a) := hA.cell0 0 (by simp [St.list])
  have c1 : W.cell? ⟨w.heap.size, 1, none⟩ = some (.int .u32 s.b) := hA.cell0 1 (by simp [St.list])
  have c2 : W.cell? ⟨w.heap.size, 2, none⟩ = some (.int .u32 s.c) := hA.cell0 2 (by simp [St.list])
  have c3 : W.cell? ⟨w.heap.size, 3, none⟩ = some (.int .u32 s.d) := hA.cell0 3 (by simp [St.list])
  have c4 : W.cell? ⟨w.heap.size, 4, none⟩ = some (.int .u32 s.e) := hA.cell0 4 (by simp [St.list])
  have c5 : W.cell? ⟨w.heap.size, 5, none⟩ = some (.int .u32 s.f) := hA.cell0 5 (by simp [St.list])
  have c6 : W.cell? ⟨w.heap.size, 6, none⟩ = some (.int .u32 s.g) := hA.cell0 6 (by simp [St.list])
  have c7 : W.cell? ⟨w.heap.size, 7, none⟩ = some (.int .u32 s.h) := hA.cell0 7 (by simp [St.list])
  have HB := hide hbel
  have HA := hide (And.intro hWs hR)
  clear hbel hA hWs hR
  go_quiet (fail)
  have HS : Hid (Mixing w ws s (.int .u32 s.a) (.int .u32 s.b) (.int .u32 s.c) (.int .u32 s.d) (.int .u32 s.e) (.int .u32 s.f) (.int .u32 s.g) (.int .u32 s.h) (.int .i64 ((0 : Nat) : Int)) (W.drewN nq)) := by
    have hb : Below W.heap.size W (W.drewN nq) := ⟨rfl, rfl, rfl, Nat.le_refl _, fun _ _ => rfl⟩
    exact hide ⟨0, by omega, rfl, rfl, rfl, rfl, rfl, rfl, rfl, rfl, rfl, below_on' HB.out hb (Nat.le_refl _), HA.out.1.on hb, HA.out.2.on hb⟩
  clear c0 c1 c2 c3 c4 c5 c6 c7 HB HA
  go_wp2
  go_loopw [5, 6, 7, 8, 9, 10, 11, 12, 32] (fun a b c d e f g h i wr => Mixing w ws s a b c d e f g h i wr) (fun _ _ _ _ _ _ _ _ i _ => 64 - (intOf i).toNat)
  case atStart => exact HS.out
  case round =>
    clear HS
    obtain ⟨k, hk, rfl, rfl, rfl, rfl, rfl, rfl, rfl, rfl, rfl, hbel, hWs, hR⟩ := hrel
    by_cases hlt : k < 64
    · have R : Hid (∀ (n : Nat) (A B C D E F G H : Int), rnd (K.getD k 0) (ws.getD k 0) ⟨(steps ws s k).a, (steps ws s k).b, (steps ws s k).c, (steps ws s k).d, (steps ws s k).e, (steps ws s k).f, (steps ws s k).g, (steps ws s k).h⟩ = ⟨A, B, C, D, E, F, G, H⟩ →
          Mixing w ws s (.int .u32 A) (.int .u32 B) (.int .u32 C) (.int .u32 D) (.int .u32 E) (.int .u32 F) (.int .u32 G) (.int .u32 H) (.int .i64 ((k + 1 : Nat) : Int)) (wr.drewN n)) := hide (fun n A B C D E F G H he => Mixing.next (s := s) hlt hbel hWs hR n A B C D E F G H he)
      have cw := hWs.cell0 k (by have := HW.out; omega)
      have ck : wr.cell? ⟨2, k, none⟩ = some (.int .u32 (K.getD k 0)) := (hbel.cell (p := ⟨2, k, none⟩) hk0).trans (HK.out k hlt)
      have bk : (k : Int) < 64 := by omega
      clear hbel hWs hR
      generalize ws.getD k 0 = x at *
      generalize K.getD k 0 = y at *
      generalize (steps ws s k).a = A at *
      generalize (steps ws s k).b = B at *
      generalize (steps ws s k).c = C at *
      generalize (steps ws s k).d = D at *
      generalize (steps ws s k).e = E at *
      generalize (steps ws s k).f = F at *
      generalize (steps ws s k).g = G at *
      generalize (steps ws s k).h = H at *
      go_wp2
      go_quiet ((go_at_call 71; exact Calls.quiet_of_same (T.out _ _ _ (by decide) (by decide))))
      go_wp2_with (go_at_call 71; refine (T.out _ _ _ (by decide) (by decide)).mono ?_; rintro e w1 ⟨rfl, rfl⟩)
      go_roundw
      case rel =>
        refine (show Mixing w ws s (.int .u32 _) (.int .u32 _) (.int .u32 _) (.int .u32 _) (.int .u32 _) (.int .u32 _) (.int .u32 _) (.int .u32 _) (.int .i64 ((k + 1 : Nat) : Int)) _ from R.out _ _ _ _ _ _ _ _ _ ?_)
        simp [rnd, pI, qI, addI, xorI, andI, notI]
      case measure => simp [intOf]; omega
    · obtain rfl : k = 64 := by omega
      have HR : Hid (wr.there (w.heap.size + 1 + 1) 0 8) := hide (by simpa using hR.2)
      have HB := hide hbel
      clear hlt hk hbel hWs hR
      generalize hS : steps ws s 64 = S at *
      have HSS := hide hS
      clear hS
      go_wp2_with (first | (refine wp_store_arr rfl 72 (.tmp 4) (.tmp 103) rfl _ 0 .u32 S.list rfl rfl 8 HR.out info_s rfl ?_))
      refine ret_arr 4 72 rfl _ 0 rfl .u32 S.list (Arr.put (by exact HR.out)) _ Tryd.underlying72 rfl 8 info_s rfl rfl ⟨by rw [HSS.out], below_sets (by omega) _ _ _ HB.out⟩

end Go.Proofs.YtbeegcpmpgdbnaaDoor

/-
  What sha.Block answers at this program: the plain block.
-/
namespace Go.Proofs.YtbeegcpmpgdbnaaDoor
open Go.RowKit

theorem index_arr (zs : List Int) (hz : zs.length = 8) (k : Nat) (hk : k < 8) (w : World) : (Instr.index 72 (.agg (vals .u32 zs).toArray) (.int .i64 k)).run Tryd.prog w = .ok (.int .u32 (zs.getD k 0)) w := by
  simp [Instr.index, run_underlying Tryd.underlying72, asIntOf, go_sem]
  rw [if_pos hk, vals_get .u32 zs k (by omega)]
  rfl
theorem St.of (s : List Int) (h : s.length = 8) : (stOf s).list = s := by
  match s, h with
  | [_, _, _, _, _, _, _, _], _ => rfl
/-- The state of which the first k numbers are summed up. -/
def part (s m : List Int) (k : Nat) : List Int := (List.zipWith addI s m).take k ++ s.drop k
theorem part_length (s m : List Int) (h : s.length = m.length) (k : Nat) (hk : k ≤ s.length) : (part s m k).length = s.length := by simp [part]; omega
theorem part_get (s m : List Int) (h : s.length = m.length) (k : Nat) (hk : k < s.length) : (part s m k).getD k 0 = s.getD k 0 := by
  have h1 : ((List.zipWith addI s m).take k).length = k := by simp; omega
  simp only [part, List.getD]
  rw [List.getElem?_append_right (by omega), h1, Nat.sub_self, List.getElem?_drop, Nat.add_zero]
theorem part_set (s m : List Int) (h : s.length = m.length) (k : Nat) (hk : k < s.length) : (part s m k).set k (addI (s.getD k 0) (m.getD k 0)) = part s m (k + 1) := by
  have h1 : ((List.zipWith addI s m).take k).length = k := by simp; omega
  have h2 : k < (List.zipWith addI s m).length := by simp; omega
  have h3 : (List.zipWith addI s m)[k] = addI (s.getD k 0) (m.getD k 0) := by
    simp [List.getD, hk, show k < m.length by omega]
  simp only [part]
  rw [List.set_append_right _ _ (by omega), h1, Nat.sub_self, List.drop_eq_getElem_cons hk, List.set_cons_zero, List.take_succ_eq_append_getElem h2, h3, List.append_assoc]
  rfl
theorem part_zero (s m : List Int) : part s m 0 = s := by simp [part]
theorem part_all (s m : List Int) (h : s.length = m.length) (n : Nat) (hn : n = s.length) : part s m n = List.zipWith addI s m := by
  subst hn
  rw [part, List.drop_length, List.append_nil, List.take_of_length_le (by simp; omega)]
/-- What holds at the head of a round. -/
def Blocking (w : World) (g : Nat) (s m : List Int) (i : Value) (wr : World) : Prop :=
  ∃ k : Nat, k ≤ 8 ∧ i = .int .i64 k ∧ Below w.heap.size w wr ∧ Arr wr g 0 .u32 (part s m k) ∧ Arr wr (g + 1 + 1) 0 .u32 (List.replicate 8 0)
theorem Blocking.next {w wr : World} {g : Nat} {s m : List Int} {k : Nat} (hs : s.length = 8) (hm : m.length = 8) (hg : w.heap.size ≤ g) (hk : k < 8) (hbel : Below w.heap.size w wr) (hA : Arr wr g 0 .u32 (part s m k)) (hR : Arr wr (g + 1 + 1) 0 .u32 (List.replicate 8 0)) :
    Blocking w g s m (.int .i64 ((k + 1 : Nat) : Int)) (wr.setCell ⟨g, k, none⟩ (.int .u32 (addI (s.getD k 0) (m.getD k 0)))) := by
  refine ⟨k + 1, by omega, rfl, hbel.setCell hg _, ?_, hR.beside _ _ (Or.inl (by simp; omega))⟩
  rw [← part_set s m (by omega) k (by omega)]
  exact hA.set0 k (by rw [part_length] <;> omega) _
theorem Blocking.start (w : World) (s : St) (bs : List Int) (cs : Array Value) (hc : cs = (vals .u32 (List.replicate 8 0)).toArray) (t t' t'' : TypeId) :
    Below w.heap.size w (((w.alloc (.cells (vals .u32 s.list).toArray t)).alloc (.cells (vals .u8 bs).toArray t')).alloc (.cells cs t'')) ∧
    Arr (((w.alloc (.cells (vals .u32 s.list).toArray t)).alloc (.cells (vals .u8 bs).toArray t')).alloc (.cells cs t'')) w.heap.size 0 .u32 s.list ∧
    Arr (((w.alloc (.cells (vals .u32 s.list).toArray t)).alloc (.cells (vals .u8 bs).toArray t')).alloc (.cells cs t'')) (w.heap.size + 1) 0 .u8 bs ∧
    Arr (((w.alloc (.cells (vals .u32 s.list).toArray t)).alloc (.cells (vals .u8 bs).toArray t')).alloc (.cells cs t'')) (w.heap.size + 1 + 1) 0 .u32 (List.replicate 8 0) := by
  subst hc
  refine ⟨(((Below.refl _ _).alloc (Nat.le_refl _) _).alloc (by rw [alloc_size]; omega) _).alloc (by rw [alloc_size, alloc_size]; omega) _, ((Arr.new w .u32 s.list t).alloc _).alloc _, ?_, ?_⟩
  · have := (Arr.new (w.alloc (.cells (vals .u32 s.list).toArray t)) .u8 bs t').alloc (.cells (vals .u32 (List.replicate 8 0)).toArray t'')
    rwa [alloc_size] at this
  · have := Arr.new ((w.alloc (.cells (vals .u32 s.list).toArray t)).alloc (.cells (vals .u8 bs).toArray t')) .u32 (List.replicate 8 0) t''
    rwa [alloc_size, alloc_size] at this
theorem info_b : (Tryd.prog.info? 74).map (·.size) = some 64 := by kernel_rfl

/-- A new box of eight numbers, still as it was made. -/
def EightAt (w : World) (b : Nat) : Prop := Arr w b 0 .u32 (List.replicate 8 0)
theorem eight_new {w w' : World} (h : Below (w.alloc (.cells #[.int .u32 0, .int .u32 0, .int .u32 0, .int .u32 0, .int .u32 0, .int .u32 0, .int .u32 0, .int .u32 0] 72)).heap.size (w.alloc (.cells #[.int .u32 0, .int .u32 0, .int .u32 0, .int .u32 0, .int .u32 0, .int .u32 0, .int .u32 0, .int .u32 0] 72)) w') : EightAt w' w.heap.size :=
  (Arr.new w .u32 (List.replicate 8 0) 72).on h
theorem below_alloc {w w' : World} (h : Below w.heap.size w w') (o : Obj) : Below w.heap.size w (w'.alloc o) := h.alloc h.size o
theorem eight_drew {w w' : World} (h : Below (w.alloc (.cells #[.int .u32 0, .int .u32 0, .int .u32 0, .int .u32 0, .int .u32 0, .int .u32 0, .int .u32 0, .int .u32 0] 72)).drew.heap.size (w.alloc (.cells #[.int .u32 0, .int .u32 0, .int .u32 0, .int .u32 0, .int .u32 0, .int .u32 0, .int .u32 0, .int .u32 0] 72)).drew w') : EightAt w' w.heap.size :=
  (Arr.new w .u32 (List.replicate 8 0) 72).drew.on h
theorem eight_on {w w' : World} {b : Nat} (h : Below w.heap.size w w') (e : EightAt w b) : EightAt w' b := Arr.on e h
theorem eight_store (w : World) (b : Nat) (m : St) (e : EightAt w b) : (storeCells ⟨b, 0, none⟩ (vals .u32 m.list) 0).run Tryd.prog w = .ok () (w.setCells b 0 (vals .u32 m.list)) :=
  run_storeCells_cells b 0 (vals .u32 m.list) 0 w (fun j hj => by simpa using (e.2 j (by simpa [vals, St.list] using hj)).1) (fun j hj => by simpa using (e.2 j (by simpa [vals, St.list] using hj)).2) (fun v hv => by
    simp only [vals, List.mem_map] at hv
    obtain ⟨z, _, rfl⟩ := hv
    rfl)
theorem eight_store2 (w : World) (m : St) : (storeCells ⟨w.heap.size, 0, none⟩ (vals .u32 m.list) 0).run Tryd.prog (w.alloc (.cells #[.int .u32 0, .int .u32 0, .int .u32 0, .int .u32 0, .int .u32 0, .int .u32 0, .int .u32 0, .int .u32 0] 72)) =
    .ok () ((w.alloc (.cells #[.int .u32 0, .int .u32 0, .int .u32 0, .int .u32 0, .int .u32 0, .int .u32 0, .int .u32 0, .int .u32 0] 72)).setCells w.heap.size 0 (vals .u32 m.list)) :=
  eight_store _ _ m (eight_new (Below.refl _ _))
theorem block_meet {w W wq : World} {b5 : Nat} {s M : St} (HB : Below w.heap.size w W) (HA : Arr W w.heap.size 0 .u32 s.list ∧ Arr W (w.heap.size + 1 + 1) 0 .u32 (List.replicate 8 0)) (HZ : W.heap.size = w.heap.size + 1 + 1 + 1)
    (hq : Below W.heap.size W wq) (e : EightAt wq b5) (h5 : W.heap.size ≤ b5) :
    ∃ b, (Value.pointer (some ⟨b5, 0, none⟩)) = .pointer (some ⟨b, 0, none⟩) ∧ b ≠ w.heap.size ∧ b ≠ w.heap.size + 1 + 1 ∧ Arr (wq.setCells b5 0 (vals .u32 M.list)) b 0 .u32 M.list ∧ Blocking w w.heap.size s.list M.list (.int .i64 ((0 : Nat) : Int)) (wq.setCells b5 0 (vals .u32 M.list)) := by
  refine ⟨b5, rfl, by omega, by omega, Arr.put e.2, 0, by omega, rfl, below_sets (by omega) _ _ _ (below_on' HB hq (Nat.le_refl _)), ?_, (HA.2.on hq).apart _ _ _ (Or.inl (by omega))⟩
  rw [part_zero]
  exact (HA.1.on hq).apart _ _ _ (Or.inl (by omega))

set_option maxRecDepth 100000 in
set_option maxHeartbeats 1000000 in
theorem block_st (s : St) (bs : List Int) (w : World) (hb : bs.length = 64) (hk : Ks w) :
    Calls Tryd.prog 63 #[.agg (vals .u32 s.list).toArray, .agg (vals .u8 bs).toArray] w fun e w' => e = .returned (.agg (vals .u32 (List.zipWith addI s.list (steps (sched bs) s 64).list)).toArray) ∧ Below w.heap.size w w' := by
  have HK := hide hk
  have hk0 := hk.lt
  have SP := hide (fun w => spread_any bs w hb)
  have MX : Hid (∀ w, Ks w → Calls Tryd.prog 67 #[.agg (vals .u32 s.list).toArray, .agg (vals .u32 (sched bs)).toArray] w fun e w' => e = .returned (.agg (vals .u32 (steps (sched bs) s 64).list).toArray) ∧ Below w.heap.size w w') :=
    hide (fun w h => mix_any s (sched bs) w (by simp [sched, back_length]) h)
  have IX := hide (fun k hk w => index_arr (steps (sched bs) s 64).list rfl k hk w)
  clear hk
  generalize hM : steps (sched bs) s 64 = M at *
  have HM := hide hM
  clear hM
  generalize sched bs = ws at *
  have ST := fun (wx : World) (b : Nat) (h : EightAt wx b) => eight_store wx b M h
  have ST2 := fun (wx : World) => eight_store2 wx M
  go_enter Tryd.func63, Tryd.ntmps63
  go_wp2
  obtain ⟨W, hW⟩ : ∃ W, W = (((w.alloc (.cells (vals .u32 s.list).toArray 72)).alloc (.cells (vals .u8 bs).toArray 74)).alloc (.cells #[.int .u32 0, .int .u32 0, .int .u32 0, .int .u32 0, .int .u32 0, .int .u32 0, .int .u32 0, .int .u32 0] 72)) := ⟨_, rfl⟩
  rw [← hW]
  have hst := Blocking.start w s bs #[.int .u32 0, .int .u32 0, .int .u32 0, .int .u32 0, .int .u32 0, .int .u32 0, .int .u32 0, .int .u32 0] rfl 72 74 72
  rw [← hW] at hst
  have HZ : Hid (W.heap.size = w.heap.size + 1 + 1 + 1) := hide (by rw [hW, alloc_size, alloc_size, alloc_size])
  clear hW
  obtain ⟨hbel, hA, hB, hR⟩ := hst
  have HS : Hid (∀ wx, Below W.heap.size W wx → Below W.heap.size W wx ∧ wx.cell? ⟨w.heap.size, 0, none⟩ = some (.int .u32 s.a) ∧ wx.cell? ⟨w.heap.size, 1, none⟩ = some (.int .u32 s.b) ∧ wx.cell? ⟨w.heap.size, 2, none⟩ = some (.int .u32 s.c) ∧ wx.cell? ⟨w.heap.size, 3, none⟩ = some (.int .u32 s.d)
      ∧ wx.cell? ⟨w.heap.size, 4, none⟩ = some (.int .u32 s.e) ∧ wx.cell? ⟨w.heap.size, 5, none⟩ = some (.int .u32 s.f) ∧ wx.cell? ⟨w.heap.size, 6, none⟩ = some (.int .u32 s.g) ∧ wx.cell? ⟨w.heap.size, 7, none⟩ = some (.int .u32 s.h) ∧ wx.rangeAt (w.heap.size + 1) 0 (vals .u8 bs)) := hide (fun wx hx =>
    have h := hA.on hx
    ⟨hx, h.cell0 0 (by simp [St.list]), h.cell0 1 (by simp [St.list]), h.cell0 2 (by simp [St.list]), h.cell0 3 (by simp [St.list]), h.cell0 4 (by simp [St.list]), h.cell0 5 (by simp [St.list]), h.cell0 6 (by simp [St.list]), h.cell0 7 (by simp [St.list]), (hB.on hx).1⟩)
  have HA := hide (And.intro hA hR)
  have HB := hide hbel
  have HKW := hide (HK.out.on hbel)
  have hi34 : (Tryd.prog.info? 74).map (·.size) = some (vals .u8 bs).length := by rw [vals_length, hb]; exact info_b
  have hu34 := Tryd.underlying74
  clear hbel hA hB hR
  go_cut [5] (fun s5 wx => ∃ b5, s5 = .pointer (some ⟨b5, 0, none⟩) ∧ b5 ≠ w.heap.size ∧ b5 ≠ w.heap.size + 1 + 1 ∧ Arr wx b5 0 .u32 M.list ∧ Blocking w w.heap.size s.list M.list (.int .i64 ((0 : Nat) : Int)) wx)
  case first =>
    go_region_held3 (fun wx => Below W.heap.size W wx ∧ wx.cell? ⟨w.heap.size, 0, none⟩ = some (.int .u32 s.a) ∧ wx.cell? ⟨w.heap.size, 1, none⟩ = some (.int .u32 s.b) ∧ wx.cell? ⟨w.heap.size, 2, none⟩ = some (.int .u32 s.c) ∧ wx.cell? ⟨w.heap.size, 3, none⟩ = some (.int .u32 s.d)
        ∧ wx.cell? ⟨w.heap.size, 4, none⟩ = some (.int .u32 s.e) ∧ wx.cell? ⟨w.heap.size, 5, none⟩ = some (.int .u32 s.f) ∧ wx.cell? ⟨w.heap.size, 6, none⟩ = some (.int .u32 s.g) ∧ wx.cell? ⟨w.heap.size, 7, none⟩ = some (.int .u32 s.h) ∧ wx.rangeAt (w.heap.size + 1) 0 (vals .u8 bs))
      (((with_reducible refine HS.out _ ?_); (repeat (with_reducible first | exact hb2 | exact hb1 | exact Below.refl _ _ | refine Below.drew ?_ | refine below_alloc ?_ _ | refine below_sets hb2.size _ _ _ ?_ | refine below_sets hb1.size _ _ _ ?_ | refine below_sets (Nat.le_refl _) _ _ _ ?_ | fail))))
      (first
        | (go_at_call 68; refine (SP.out _).mono ?_; rintro e w1 ⟨rfl, hbel1⟩; (try (with_reducible have z1 := eight_drew hbel1)); have hb1 : Below W.heap.size W w1 := (by with_reducible (first | exact below_on' (Below.drew (Below.refl _ _)) hbel1 (Nat.le_refl _) | exact below_on' (Below.drew (below_alloc (Below.refl _ _) _)) hbel1 (Nat.le_refl _))))
        | (go_at_call 67; refine (MX.out _ (HKW.out.on (by with_reducible (first | exact hb1 | exact below_alloc hb1 _)))).mono ?_; rintro e w2 ⟨rfl, hbel2⟩; (try (with_reducible have z2 := eight_new hbel2)); (try (with_reducible have z2 := eight_on hbel2 z1)); have hb2 : Below W.heap.size W w2 := (by with_reducible (first | exact below_on' hb1 hbel2 (Nat.le_refl _) | exact below_on' (below_alloc hb1 _) hbel2 (Nat.le_refl _)))))
    all_goals
      go_wp2_with fail
      go_meet
      case rel =>
        first
        | exact block_meet HB.out HA.out HZ.out hb2 z2 hb1.size
        | exact block_meet HB.out HA.out HZ.out hb2 z2 (Nat.le_refl _)
        | exact block_meet HB.out HA.out HZ.out (below_alloc hb2 _) (eight_new (Below.refl _ _)) hb2.size
  case rest =>
    obtain ⟨b5, rfl, hn1, hn2, hM, hBl⟩ := hcut
    have HM5 := hide hM
    have HBl := hide hBl
    have HN : Hid (b5 ≠ w.heap.size ∧ b5 ≠ w.heap.size + 1 + 1) := hide ⟨hn1, hn2⟩
    clear hM hBl hn1 hn2 HS HA HB HKW HZ
    go_wp2_with (first | (refine wp_load_arr rfl 72 (.tmp 5) rfl _ 0 rfl .u32 _ HM5.out _ Tryd.underlying72 rfl 8 info_s rfl ?_))
    go_loopw [13] (fun i wr => Blocking w w.heap.size s.list M.list i wr) (fun i _ => 8 - (intOf i).toNat)
    case atStart => exact HBl.out
    case round =>
      obtain ⟨k, hk, rfl, hbel, hA, hR⟩ := hrel
      by_cases hlt : k < 8
      · have R := hide (Blocking.next (s := s.list) (m := M.list) rfl rfl (Nat.le_refl _) hlt hbel hA hR)
        have ix := fun wx => IX.out k hlt wx
        have hpl : (part s.list M.list k).length = 8 := part_length s.list M.list rfl k (show k ≤ 8 by omega)
        have c0 := hA.cell0 k (by omega)
        have c1 := hA.free0 k (by omega)
        rw [part_get s.list M.list rfl k (show k < 8 from hlt)] at c0
        clear hbel hA hR hpl
        generalize s.list.getD k 0 = x at *
        generalize M.list.getD k 0 = y at *
        go_wp2
        go_roundw
        case rel => first | exact R.out | ((repeat apply Exists.intro); exact ⟨R.out, rfl⟩)
        case measure => simp [intOf]; omega
      · obtain rfl : k = 8 := by omega
        rw [part_all s.list M.list rfl 8 rfl] at hA
        have HA := hide hA
        have HR : Hid (wr.there (w.heap.size + 1 + 1) 0 8) := hide (by simpa using hR.2)
        have HB := hide hbel
        clear hbel hA hR hlt hk HBl
        generalize hL : List.zipWith addI s.list M.list = L at *
        have HL : Hid (L.length = 8) := hide (by rw [← hL]; rfl)
        have HLL := hide hL
        clear hL
        go_wp2_with (first | (refine wp_load_arr rfl 72 (.tmp 2) rfl _ 0 rfl .u32 _ HA.out _ Tryd.underlying72 rfl 8 info_s HL.out ?_) | (refine wp_store_arr rfl 72 (.tmp 4) (.tmp 24) rfl _ 0 .u32 L rfl rfl 8 HR.out info_s HL.out ?_))
        refine ret_arr 4 72 rfl _ 0 rfl .u32 L (Arr.put (by rw [HL.out]; exact HR.out)) _ Tryd.underlying72 rfl 8 info_s HL.out rfl ⟨by rw [HLL.out], below_sets (by omega) _ _ _ HB.out⟩

/-- sha.Block. -/
theorem block_any (s bs : List Int) (w : World) (hs : s.length = 8) (hb : bs.length = 64) (hk : Ks w) :
    Calls Tryd.prog 63 #[.agg (vals .u32 s).toArray, .agg (vals .u8 bs).toArray] w fun e w' => e = .returned (.agg (vals .u32 (blockI s bs)).toArray) ∧ Below w.heap.size w w' := by
  have := block_st (stOf s) bs w hb hk
  rw [St.of s hs] at this
  exact this
theorem block_length (s bs : List Int) (hs : s.length = 8) : (blockI s bs).length = 8 := by simp [blockI, St.list, hs]

end Go.Proofs.YtbeegcpmpgdbnaaDoor
