/-
  What every law's proof has in common, whatever it lists: no statement of its own.
-/
import Derived.Test.YtbeegcpmpgdbnaaDoorRows
import Derived.Test.YtbeegcpmpgdbnaaDoorKit
import Derived.ProofKit
import Derived.OpenShut
import Derived.ShutString
import Derived.ChangeOld
import Derived.Below
import Derived.Lib.SmallJoins
import Derived.Lib.LaidTab
import Derived.Stop.Joined
import Derived.SevenTiedAt
import Derived.Deep.Matrix
namespace Go.Proofs.YtbeegcpmpgdbnaaDoor
open Go.ChangeShapes Go.WideShapes Go.ChangeAt Go.RowKit

theorem own : ownKnob Tryd.prog.godebug = none := by kernel_rfl
theorem laidOut : laidOutB Tryd.prog = true := by kernel_rfl
/-- What is known of a uint64, an int, a byte that came in. -/
theorem word_of_wf {x : Int} (h : (Lit.int .u64 x).wf = true) : Word x := by
  simp [Lit.wf, IntKind.min, IntKind.max, IntKind.signed, IntKind.bits] at h
  exact ⟨by omega, by omega⟩
theorem byte_of_wf {x : Int} (h : (Lit.int .u8 x).wf = true) : Byte x := by
  simp [Lit.wf, IntKind.min, IntKind.max, IntKind.signed, IntKind.bits] at h
  exact ⟨by omega, by omega⟩
theorem int_of_wf {x : Int} (h : (Lit.int .i64 x).wf = true) : -9223372036854775808 ≤ x ∧ x ≤ 9223372036854775807 := by
  simp [Lit.wf, IntKind.min, IntKind.max, IntKind.signed, IntKind.bits] at h
  exact ⟨by omega, by omega⟩
/-- A slice of bytes that came in bears its list. -/
theorem bytes_take {W : World} {a : Addr} {len cap : Nat} {zs : List Int} (hl : len ≤ cap) (hm : cap ≤ maxLen) (hz : zs.length = cap)
    (hcell : ∀ i, i < zs.length → W.cell? (a.add i) = some (.int .u8 (zs.getD i 0))) : Bytes W (.slice (some a) len cap) (zs.take len) := by
  unfold maxLen at hm
  have hlen : (zs.take len).length = len := by simp; omega
  refine ⟨some a, cap, by rw [hlen], by omega, by omega, by simp, fun hp => ?_⟩
  obtain ⟨b, off, rfl, hc⟩ := ints_at hcell (by omega)
  refine ⟨b, off, rfl, fun i hi => ?_⟩
  have hi' : i < len := by omega
  have e : (zs.take len).getD i 0 = zs.getD i 0 := by simp [List.getD, hi']
  rw [e]
  exact hc i (by omega)
theorem bytes_row {W : World} {a : Addr} {len cap : Nat} {zs : List Int} (hl : len ≤ cap) (hm : cap ≤ maxLen) (hz : zs.length = cap)
    (hcell : ∀ i, i < zs.length → W.cell? (a.add i) = some (.int .u8 (zs.getD i 0))) (hwz : ∀ n ∈ zs, (Lit.int .u8 n).wf = true) :
    ∃ l, Bytes W (.slice (some a) len cap) l ∧ ∀ z ∈ l, Byte z :=
  ⟨_, bytes_take hl hm hz hcell, fun z hz => byte_of_wf (hwz z (List.mem_of_mem_take hz))⟩
/-- A slice of slices of bytes that came in bears its parts. -/
theorem parts_row {W : World} {a : Addr} {base len cap : Nat} {A : Nat → Option Addr} {L C : Nat → Nat} {Z : Nat → List Int} (hl : len ≤ cap) (hm : cap ≤ maxLen)
    (h : ∀ r, r < cap → W.cell? (a.add r) = some (.slice (A r) (L r) (C r)) ∧ L r ≤ C r ∧ C r ≤ maxLen ∧ (Z r).length = C r ∧ (∀ n ∈ Z r, (Lit.int .u8 n).wf = true) ∧ (A r = none → C r = 0) ∧
      ∀ a', A r = some a' → base ≤ a'.block ∧ ∀ c, c < C r → W.cell? (a'.add c) = some (.int .u8 ((Z r).getD c 0))) :
    ∃ P, Parts W (.slice (some a) len cap) P ∧ ∀ p ∈ P, ∀ z ∈ p, Byte z := by
  refine ⟨(List.range len).map fun r => (Z r).take (L r), ⟨some a, cap, by simp, by simpa using hl, by simpa [maxLen] using hm, by simp, fun hp => ?_⟩, fun p hp z hz => ?_⟩
  · have hpos : 0 < len := by simpa using hp
    obtain ⟨b, off, spot⟩ := a
    have hspot : spot = none := by simpa [Addr.add] using World.cell?_spot (h 0 (by omega)).1
    subst hspot
    refine ⟨b, off, rfl, fun i hi => ?_⟩
    have hi' : i < len := by simpa using hi
    obtain ⟨h1, h2, h3, h4, h5, h6, h7⟩ := h i (by omega)
    rw [Go.WideShapes.add_plain] at h1
    refine ⟨_, h1, ?_⟩
    have e : ((List.range len).map fun r => (Z r).take (L r)).getD i [] = (Z i).take (L i) := by simp [List.getD, hi']
    rw [e]
    cases ha : A i with
    | none =>
      have hC := h6 ha
      have hL : L i = 0 := by omega
      rw [hC, hL, List.take_zero]
      exact Bytes.nil W
    | some a' => exact bytes_take h2 h3 h4 (fun c hc => (h7 a' ha).2 c (by omega))
  · obtain ⟨r, hr, rfl⟩ := List.mem_map.1 hp
    have hr' : r < len := by simpa using hr
    exact byte_of_wf ((h r (by omega)).2.2.2.2.1 z (List.mem_of_mem_take hz))
theorem u32_of_wf {x : Int} (h : (Lit.int .u32 x).wf = true) : 0 ≤ x ∧ x < 4294967296 := by
  simp [Lit.wf, IntKind.min, IntKind.max, IntKind.signed, IntKind.bits] at h
  exact ⟨by omega, by omega⟩
theorem short_of_wf {x : Int} (h : (Lit.int .u16 x).wf = true) : 0 ≤ x ∧ x < 65536 := by
  simp [Lit.wf, IntKind.min, IntKind.max, IntKind.signed, IntKind.bits] at h
  exact ⟨by omega, by omega⟩

end Go.Proofs.YtbeegcpmpgdbnaaDoor
