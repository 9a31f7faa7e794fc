/-
  Sums of 256 bits as plain functions of lists of numbers, with no word of the program: the numbers of a block, the 64 steps, a block taken into a state, bytes padded.
-/
import Derived.WalkKit
import Derived.Laws.BitsAllLaws
import Derived.KernelRfl
import Derived.Laws.CopyOwn
namespace Go.Proofs.YtbhninaaeeoamabDoor

/-- The bits of x, n places towards the lower ones; those that fall out come in above. -/
def turnI (x : Int) (n : Nat) : Int := bits .or .u32 (x / 2 ^ n) (x * 2 ^ (32 - n) % 4294967296)
def xorI (x y : Int) : Int := bits .xor .u32 x y
def andI (x y : Int) : Int := bits .and .u32 x y
def notI (x : Int) : Int := bits .xor .u32 (if IntKind.u32.signed = true then -1 else IntKind.u32.max) x
def addI (x y : Int) : Int := (x + y) % 4294967296
/-- Four bytes as a number, the highest first. -/
def wordI (a b c d : Int) : Int :=
  bits .or .u32 (bits .or .u32 (bits .or .u32 (IntKind.u32.wrap (IntKind.u32.wrap a * 16777216)) (IntKind.u32.wrap (IntKind.u32.wrap b * 65536))) (IntKind.u32.wrap (IntKind.u32.wrap c * 256))) (IntKind.u32.wrap d)
def low0 (x : Int) : Int := xorI (xorI (turnI x 7) (turnI x 18)) (x / 8)
def low1 (x : Int) : Int := xorI (xorI (turnI x 17) (turnI x 19)) (x / 1024)
/-- W's next number, out of those before it, the last one first. -/
def nextI (l : List Int) : Int := addI (addI (addI (low1 (l.getD 1 0)) (l.getD 6 0)) (low0 (l.getD 14 0))) (l.getD 15 0)
/-- The first n of W's numbers, the last one first. -/
def back (bs : List Int) : Nat → List Int
  | 0 => []
  | n + 1 => (if n < 16 then wordI (bs.getD (4 * n) 0) (bs.getD (4 * n + 1) 0) (bs.getD (4 * n + 2) 0) (bs.getD (4 * n + 3) 0) else nextI (back bs n)) :: back bs n
/-- W. -/
def sched (bs : List Int) : List Int := (back bs 64).reverse

/-- Eight numbers. -/
structure St where
  a : Int
  b : Int
  c : Int
  d : Int
  e : Int
  f : Int
  g : Int
  h : Int
def St.list (s : St) : List Int := [s.a, s.b, s.c, s.d, s.e, s.f, s.g, s.h]
def stOf (l : List Int) : St := ⟨l.getD 0 0, l.getD 1 0, l.getD 2 0, l.getD 3 0, l.getD 4 0, l.getD 5 0, l.getD 6 0, l.getD 7 0⟩
def pI (k x : Int) (s : St) : Int :=
  addI (addI (addI (addI s.h (xorI (xorI (turnI s.e 6) (turnI s.e 11)) (turnI s.e 25))) (xorI (andI s.e s.f) (andI (notI s.e) s.g))) k) x
def qI (s : St) : Int := addI (xorI (xorI (turnI s.a 2) (turnI s.a 13)) (turnI s.a 22)) (xorI (xorI (andI s.a s.b) (andI s.a s.c)) (andI s.b s.c))
/-- One step. -/
def rnd (k x : Int) (s : St) : St := ⟨addI (pI k x s) (qI s), s.a, s.b, s.c, addI s.d (pI k x s), s.e, s.f, s.g⟩
def K : List Int := [1116352408, 1899447441, 3049323471, 3921009573, 961987163, 1508970993, 2453635748, 2870763221, 3624381080, 310598401, 607225278, 1426881987, 1925078388, 2162078206, 2614888103, 3248222580, 3835390401, 4022224774, 264347078, 604807628, 770255983, 1249150122, 1555081692, 1996064986, 2554220882, 2821834349, 2952996808, 3210313671, 3336571891, 3584528711, 113926993, 338241895, 666307205, 773529912, 1294757372, 1396182291, 1695183700, 1986661051, 2177026350, 2456956037, 2730485921, 2820302411, 3259730800, 3345764771, 3516065817, 3600352804, 4094571909, 275423344, 430227734, 506948616, 659060556, 883997877, 958139571, 1322822218, 1537002063, 1747873779, 1955562222, 2024104815, 2227730452, 2361852424, 2428436474, 2756734187, 3204031479, 3329325298]
/-- The state behind the first n steps. -/
def steps (ws : List Int) (s : St) : Nat → St
  | 0 => s
  | n + 1 => rnd (K.getD n 0) (ws.getD n 0) (steps ws s n)
/-- A block taken into a state. -/
def blockI (s bs : List Int) : List Int := List.zipWith addI s (steps (sched bs) (stOf s) 64).list
/-- The first state. -/
def firstI : List Int := [1779033703, 3144134277, 1013904242, 2773480762, 1359893119, 2600822924, 528734635, 1541459225]
/-- The first n whole blocks of l, taken in one behind the other. -/
def blocksI (s l : List Int) : Nat → List Int
  | 0 => s
  | n + 1 => blockI (blocksI s l n) ((l.drop (64 * n)).take 64)
/-- The state behind the full blocks of bytes. -/
def stateOf (m : List Int) : List Int := blocksI firstI m (m.length / 64)
/-- How many bytes 0 stand behind the 0x80. -/
def gap (n : Nat) : Nat := (119 - n % 64) % 64
/-- A number of 64 bits as bytes, the highest first. -/
def countI (n : Int) : List Int := [n / 72057594037927936 % 256, n / 281474976710656 % 256, n / 1099511627776 % 256, n / 4294967296 % 256, n / 16777216 % 256, n / 65536 % 256, n / 256 % 256, n % 256]
def tailI (n : Nat) : List Int := 128 :: List.replicate (gap n) 0 ++ countI (8 * n)
def outI (x : Int) : List Int := [x / 16777216 % 256, x / 65536 % 256, x / 256 % 256, x % 256]
/-- The sum. -/
def digest (l : List Int) : List Int := (stateOf (l ++ tailI l.length)).flatMap outI

theorem digest_abc : digest [97, 98, 99] = [186, 120, 22, 191, 143, 1, 207, 234, 65, 65, 64, 222, 93, 174, 34, 35, 176, 3, 97, 163, 150, 23, 122, 156, 180, 16, 255, 97, 242, 0, 21, 173] := by kernel_rfl

theorem blockI_length (s bs : List Int) (hs : s.length = 8) : (blockI s bs).length = 8 := by simp [blockI, St.list, hs]
theorem blocksI_length (s l : List Int) (hs : s.length = 8) : ∀ n, (blocksI s l n).length = 8
  | 0 => hs
  | n + 1 => blockI_length _ _ (blocksI_length s l hs n)
theorem stateOf_length (m : List Int) : (stateOf m).length = 8 := blocksI_length _ _ rfl _
theorem blocksI_append (s l x : List Int) : ∀ n, 64 * n ≤ l.length → blocksI s (l ++ x) n = blocksI s l n
  | 0, _ => rfl
  | n + 1, h => by
    simp only [blocksI]
    rw [blocksI_append s l x n (by omega), List.drop_append_of_le_length (by omega), List.take_append_of_le_length (by simp; omega)]
/-- A piece that does not fill the block. -/
theorem stateOf_less (m x : List Int) (h : m.length % 64 + x.length < 64) : stateOf (m ++ x) = stateOf m := by
  have e : (m ++ x).length / 64 = m.length / 64 := by simp; omega
  rw [stateOf, e, blocksI_append _ _ _ _ (by omega)]
  rfl
/-- A piece that fills the block. -/
theorem stateOf_full (m x : List Int) (h : m.length % 64 + x.length = 64) : stateOf (m ++ x) = blockI (stateOf m) (m.drop (64 * (m.length / 64)) ++ x) := by
  have e : (m ++ x).length / 64 = m.length / 64 + 1 := by simp; omega
  rw [stateOf, e]
  simp only [blocksI]
  rw [blocksI_append _ _ _ _ (by omega), List.drop_append_of_le_length (by omega), List.take_of_length_le (by simp; omega)]
  rfl
/-- What a hasher's block begins with. -/
def Begins (blk m : List Int) : Prop := blk.length = 64 ∧ blk.take (m.length % 64) = m.drop (64 * (m.length / 64))
theorem Begins.less {blk m x : List Int} (h : Begins blk m) (hx : m.length % 64 + x.length < 64) : Begins (splice blk (m.length % 64) x) (m ++ x) := by
  obtain ⟨h1, h2⟩ := h
  refine ⟨by rw [length_splice _ _ _ (by omega)]; exact h1, ?_⟩
  have e1 : (m ++ x).length / 64 = m.length / 64 := by simp; omega
  have e2 : (m ++ x).length % 64 = m.length % 64 + x.length := by simp; omega
  have e3 : (blk.take (m.length % 64)).length = m.length % 64 := by simp; omega
  rw [e1, e2, List.drop_append_of_le_length (by omega), ← h2, splice, ← List.append_assoc, List.take_append_of_le_length (by simp; omega), List.take_of_length_le (by simp; omega)]
theorem Begins.full {blk m x : List Int} (h : Begins blk m) (hx : m.length % 64 + x.length = 64) : splice blk (m.length % 64) x = m.drop (64 * (m.length / 64)) ++ x ∧ Begins (splice blk (m.length % 64) x) (m ++ x) := by
  obtain ⟨h1, h2⟩ := h
  have e2 : (m ++ x).length % 64 = 0 := by simp; omega
  refine ⟨?_, by rw [length_splice _ _ _ (by omega)]; exact h1, ?_⟩
  · rw [← h2, splice, List.drop_of_length_le (by omega), List.append_nil]
  · rw [e2, List.take_zero, List.drop_of_length_le (by simp; omega)]

end Go.Proofs.YtbhninaaeeoamabDoor
