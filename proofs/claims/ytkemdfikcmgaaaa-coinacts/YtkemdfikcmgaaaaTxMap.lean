/-
  Points as keys of a map: what each reads as.
-/
import Derived.Test.YtkemdfikcmgaaaaTxEql
import Derived.Test.YtkemdfikcmgaaaaLawKit
import Derived.Maps.OwnSet
import Derived.DeepKeys4
namespace Go.Proofs.Ytkemdfikcmgaaaa
open Go.RowKit Go.Maps

theorem mapM_all {α β : Type} {f : α → Option β} : ∀ {L : List α}, (∀ x ∈ L, ∃ y, f x = some y) → ∃ ys, L.mapM f = some ys
  | [], _ => ⟨[], rfl⟩
  | x :: L, h => by
    obtain ⟨y, hy⟩ := h x (by simp)
    obtain ⟨ys, hys⟩ := mapM_all (L := L) fun z hz => h z (by simp [hz])
    exact ⟨y :: ys, by simp [hy, hys]⟩
theorem u8_wf {z : Int} (h : Byte z) : (Lit.int .u8 z).wf = true := by
  unfold Byte at h
  simp [Lit.wf, IntKind.min, IntKind.max, IntKind.signed, IntKind.bits]
  omega
theorem u32_wf {z : Int} (h : 0 ≤ z ∧ z < 4294967296) : (Lit.int .u32 z).wf = true := by
  simp [Lit.wf, IntKind.min, IntKind.max, IntKind.signed, IntKind.bits]
  omega
theorem lits_int (d : Nat) (t : TypeId) (q : IntKind) (ht : Try.prog.underlying t = some (.int q)) (z : Int) (hz : (Lit.int q z).wf = true) : Try.prog.keyLits (d + 1) t [.int q z] = some [.int q z] := by
  simp [Program.keyLits, ht, hz]
theorem lits_hash (d : Nat) (l : List Int) (h : l.length = 32) (hb : AllB l) : ∃ ls, Try.prog.keyLits (d + 2) 44 (vals .u8 l) = some ls := by
  have hv : (vals .u8 l).length = 32 := by rw [vals_length]; exact h
  have c1 : Try.prog.cellsOf 5 = 1 := by kernel_rfl
  have c2 : Try.prog.cellsOf 44 = 32 := by kernel_rfl
  obtain ⟨ys, hys⟩ := mapM_all (f := fun i => Try.prog.keyLits (d + 1) 5 (((vals .u8 l).drop (i * Try.prog.cellsOf 5)).take (Try.prog.cellsOf 5))) (L := List.range 32) fun i hi => by
    have hi : i < 32 := by simpa using hi
    have hg := vals_get .u8 l i (by omega)
    have e : ((vals .u8 l).drop (i * Try.prog.cellsOf 5)).take (Try.prog.cellsOf 5) = [.int .u8 (l.getD i 0)] := by
      rw [c1, Nat.mul_one]
      rw [List.drop_eq_getElem_cons (by omega), List.take_succ_cons, List.take_zero]
      rw [List.getElem?_eq_getElem (by omega)] at hg
      simpa using hg
    have hm : l.getD i 0 ∈ l := by
      simp only [List.getD, List.getElem?_eq_getElem (show i < l.length by omega), Option.getD_some]
      exact List.getElem_mem _
    rw [e]
    exact ⟨_, lits_int d 5 .u8 Try.underlying5 _ (u8_wf (hb _ hm))⟩
  refine ⟨ys.flatten, ?_⟩
  unfold Program.keyLits
  simp only [Try.underlying44, hv, c2, if_true, hys, Option.map_some]
theorem lits_pt (d : Nat) (tx : List Int) (n : Int) (h : tx.length = 32) (hb : AllB tx) (hn : 0 ≤ n ∧ n < 4294967296) : ∃ ls, Try.prog.keyLits (d + 3) 47 (ptC tx n) = some ls := by
  obtain ⟨l0, e0⟩ := lits_hash d tx h hb
  have hv : (vals .u8 tx).length = 32 := by rw [vals_length]; exact h
  have c0 : Try.prog.cellsOf 44 = 32 := by kernel_rfl
  have c1 : Try.prog.cellsOf 45 = 1 := by kernel_rfl
  have c2 : Try.prog.cellsOf 47 = 33 := by kernel_rfl
  have p0 : ((ptC tx n).drop 0).take 32 = vals .u8 tx := by
    unfold ptC
    rw [List.drop_zero, List.take_append_of_le_length (by omega), List.take_of_length_le (by omega)]
  have p1 : ((ptC tx n).drop 32).take 1 = [.int .u32 n] := by
    unfold ptC
    rw [List.drop_append_of_le_length (by omega), List.drop_of_length_le (by omega)]
    rfl
  have e1 := lits_int (d + 1) 45 .u32 Try.underlying45 n (u32_wf hn)
  refine ⟨l0 ++ [.int .u32 n], ?_⟩
  unfold Program.keyLits
  simp only [Try.underlying47, ptC_length n h, c2]
  rw [List.drop_zero] at p0
  simp [c0, c1, p0, p1, e0, e1]
theorem key_pt (tx : List Int) (n : Int) (h : tx.length = 32) (hb : AllB tx) (hn : 0 ≤ n ∧ n < 4294967296) : ∃ l, keyOf Try.prog 47 (.agg (ptC tx n).toArray) = some l := by
  have hs : Try.prog.types.size + 1 = (Try.prog.types.size - 2) + 3 := by
    have : 2 ≤ Try.prog.types.size := of_decide_eq_true (by kernel_rfl)
    omega
  obtain ⟨ls, e⟩ := lits_pt (Try.prog.types.size - 2) tx n h hb hn
  have hk : Try.prog.keyType 47 = true := by kernel_rfl
  have c2 : Try.prog.cellsOf 47 = 33 := by kernel_rfl
  have hf : (Value.agg (ptC tx n).toArray).formed Try.prog 47 = true := by
    simp [Value.formed, Try.underlying47, c2, ptC_length n h]
  refine ⟨.string (keyBytes ls), ?_⟩
  unfold keyOf
  rw [Try.underlying47]
  have ec : (Value.agg (ptC tx n).toArray).cells.toList = ptC tx n := by simp [Value.cells]
  simp only [hk, hf, Bool.and_self, if_true, ec, hs, e, Option.map_some]
theorem pt_row : (47 : TypeId) < Try.prog.types.size := of_decide_eq_true (by kernel_rfl)
theorem pt_law : Keyed Try.prog 47 := Keyed.of_law (deep_law_laid laidOut (m := 3) (by omega) pt_row (by kernel_rfl) (by rw [Try.underlying47]))
/-- Two points are one just if they read as one. -/
theorem pt_keys {tx tx' : List Int} {n n' : Int} {l l' : Lit} (h : keyOf Try.prog 47 (.agg (ptC tx n).toArray) = some l) (h' : keyOf Try.prog 47 (.agg (ptC tx' n').toArray) = some l') (hl : tx.length = 32) (hl' : tx'.length = 32) :
    l.sameKey l' = true ↔ (tx = tx' ∧ n = n') := by
  have K : WideMaps.KeyLaw Try.prog 47 := deep_law_laid laidOut (m := 3) (by omega) pt_row (by kernel_rfl) (by rw [Try.underlying47])
  obtain ⟨s, rfl⟩ := K.str h
  obtain ⟨s', rfl⟩ := K.str h'
  have e : (Lit.string s).sameKey (.string s') = true ↔ s = s' := by simp [Lit.sameKey]
  rw [e]
  constructor
  · rintro rfl
    have hh := K.inj h h'
    have hh2 : ptC tx n = ptC tx' n' := by simpa using hh
    unfold ptC at hh2
    have := List.append_inj hh2 (by rw [vals_length, vals_length, hl, hl'])
    refine ⟨?_, by simpa using this.2⟩
    have h1 := this.1
    unfold vals at h1
    exact List.map_inj_right (by intro a b hab; simpa using hab) |>.1 h1
  · rintro ⟨rfl, rfl⟩
    have := h.symm.trans h'
    simpa using this

end Go.Proofs.Ytkemdfikcmgaaaa
