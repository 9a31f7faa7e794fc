/-
  Messages that come in: a slice of structs of a string and bytes. Nothing here speaks of one function.
-/
import Derived.Test.YtnjbjgjhomfndaaDoorLawKit
import Derived.Deep.SlicePairs
namespace Go.Proofs.YtnjbjgjhomfndaaDoor
open Go.ChangeShapes Go.WideShapes Go.ChangeAt Go.RowKit

/-- The slice bears the messages: each a name and a body. -/
def Msgs (w : World) (v : Value) (M : List (ByteArray × List Int)) : Prop :=
  ∃ (a : Option Addr) (cap : Nat), v = .slice a M.length cap ∧ M.length ≤ cap ∧ cap ≤ 9223372036854775807 ∧
    (0 < M.length → ∃ b off : Nat, a = some ⟨b, off, none⟩ ∧ ∀ i m, M[i]? = some m → ∃ bv, w.cell? ⟨b, off + 2 * i, none⟩ = some (.string m.1) ∧ w.cell? ⟨b, off + 2 * i + 1, none⟩ = some bv ∧ Bytes w bv m.2)
theorem Msgs.nil (w : World) : Msgs w (.slice none 0 0) [] := ⟨none, 0, rfl, by simp, by simp, by simp⟩
theorem Msgs.below {w w' : World} {v : Value} {M : List (ByteArray × List Int)} (h : Msgs w v M) (hb : Below w.heap.size w w') : Msgs w' v M := by
  obtain ⟨a, cap, h1, h2, h3, h5⟩ := h
  refine ⟨a, cap, h1, h2, h3, fun hl => ?_⟩
  obtain ⟨b, off, rfl, hc⟩ := h5 hl
  refine ⟨b, off, rfl, fun i m hm => ?_⟩
  obtain ⟨bv, c0, c1, c2⟩ := hc i m hm
  exact ⟨bv, (hb.cell (World.block_lt_of_cell? _ _ c0)).trans c0, (hb.cell (World.block_lt_of_cell? _ _ c1)).trans c1, c2.below hb⟩
/-- What is known of a message that came in. -/
def MsgOk (m : ByteArray × List Int) : Prop := m.1.size ≤ 9223372036854775807 ∧ ∀ z ∈ m.2, Byte z
/-- A string and bytes out of their cells. -/
theorem msg_cells {H : Type} {enc : TypeId × Value → H} {P : Program} {W : World} {base : Nat} {spare : Nat → Bool} {held : Bool} {ts tb te : TypeId} {n : Nat} {v0 v1 : Value} {x0 x1 : DataW H × List MemPlace} (hs : P.underlying ts = some .string) (hb : P.underlying tb = some (.slice te)) (he : P.underlying te = some (.int .u8)) (hc : P.cellsOf te = 1)
    (hsp : ∀ k, spare k = true) (h0 : DataW.trod enc P W base spare held n ts [v0] = some x0) (h1 : DataW.trod enc P W base spare held n tb [v1] = some x1) : ∃ m : ByteArray × List Int, v0 = .string m.1 ∧ Bytes W v1 m.2 ∧ MsgOk m := by
  obtain ⟨s, e0, -, hsz⟩ := DataW.trod_string hs h0
  obtain rfl : v0 = .string s := by simpa using e0
  have hsz' : s.size ≤ 9223372036854775807 := by simpa [maxLen] using hsz
  rcases open_ints hb he hc h1 with ⟨hcs, _⟩ | ⟨x, l, c, zs, hcs, _, hl, hm, hz, _, hcell, hwz⟩
  · obtain rfl : v1 = .slice none 0 0 := by simpa using hcs
    exact ⟨(s, []), rfl, Bytes.nil W, hsz', by simp⟩
  · obtain rfl : v1 = .slice (some x) l c := by simpa using hcs
    rw [hsp] at hz
    obtain ⟨l', h1', h2'⟩ := bytes_row hl hm (by simpa using hz) hcell hwz
    exact ⟨(s, l'), rfl, h1', hsz', h2'⟩
/-- Messages that came in. -/
theorem msgs_row {W : World} {a : Addr} {len cap m : Nat} {V0 V1 : Nat → Value} (hl : len ≤ cap) (hm : cap ≤ maxLen) (hlm : len ≤ m)
    (h : ∀ i, i < m → W.cell? (a.add (i * 2)) = some (V0 i) ∧ W.cell? (a.add (i * 2 + 1)) = some (V1 i) ∧ ∃ x : ByteArray × List Int, V0 i = .string x.1 ∧ Bytes W (V1 i) x.2 ∧ MsgOk x) :
    ∃ M, Msgs W (.slice (some a) len cap) M ∧ ∀ x ∈ M, MsgOk x := by
  obtain ⟨f, hf⟩ := Go.Deep.choose_lt (fun i (hi : i < len) => (h i (by omega)).2.2)
  refine ⟨(List.range len).map f, ⟨some a, cap, by simp, by simpa using hl, by simpa [maxLen] using hm, fun hp => ?_⟩, fun x hx => ?_⟩
  · have hpos : 0 < len := by simpa using hp
    obtain ⟨b, off, spot⟩ := a
    have hspot : spot = none := by simpa [Addr.add] using World.cell?_spot (h 0 (by omega)).1
    subst hspot
    refine ⟨b, off, rfl, fun i x hx => ?_⟩
    have hi : i < len := by
      have := (List.getElem?_eq_some_iff.1 hx).1
      simpa using this
    have hx' : f i = x := by simpa [hi] using hx
    obtain ⟨c0, c1, -⟩ := h i (by omega)
    obtain ⟨e0, e1, -⟩ := hf i hi
    rw [add_plain, e0, hx'] at c0
    rw [add_plain] at c1
    rw [hx'] at e1
    exact ⟨V1 i, by rw [Nat.mul_comm 2 i]; exact c0, by rw [Nat.mul_comm 2 i, Nat.add_assoc]; exact c1, e1⟩
  · obtain ⟨i, hi, rfl⟩ := List.mem_map.1 hx
    exact (hf i (by simpa using hi)).2.2

end Go.Proofs.YtnjbjgjhomfndaaDoor
