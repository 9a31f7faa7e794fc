/-
  What mac.xored and mac.keyBlock answer at this program.
-/
import Derived.Test.YtknijlajopmjaaaDoorShaOne
import Derived.Test.YtknijlajopmjaaaDoorMacPure
namespace Go.Proofs.YtknijlajopmjaaaDoor
open Go.RowKit

theorem xorB_length (l : List Int) (x : Int) : (xorB l x).length = l.length := by simp [xorB]
/-- The first k bytes are turned. -/
def xorPart (l : List Int) (x : Int) (k : Nat) : List Int := xorB (l.take k) x ++ l.drop k
theorem xorPart_length (l : List Int) (x : Int) (k : Nat) : (xorPart l x k).length = l.length := by simp [xorPart, xorB]; omega
theorem xorPart_zero (l : List Int) (x : Int) : xorPart l x 0 = l := by simp [xorPart, xorB]
theorem xorPart_all (l : List Int) (x : Int) (k : Nat) (h : l.length ≤ k) : xorPart l x k = xorB l x := by simp [xorPart, List.take_of_length_le h, List.drop_of_length_le h]
theorem xorPart_get (l : List Int) (x : Int) (k : Nat) (h : k < l.length) : (xorPart l x k).getD k 0 = l.getD k 0 := by
  have h1 : (xorB (l.take k) x).length = k := by simp [xorB]; omega
  simp only [xorPart, List.getD]
  rw [List.getElem?_append_right (by omega), h1, Nat.sub_self, List.getElem?_drop, Nat.add_zero]
theorem xorPart_set (l : List Int) (x : Int) (k : Nat) (h : k < l.length) : (xorPart l x k).set k (bits .xor .u8 (l.getD k 0) x) = xorPart l x (k + 1) := by
  have h1 : (xorB (l.take k) x).length = k := by simp [xorB]; omega
  simp only [xorPart]
  rw [List.set_append_right _ _ (by omega), h1, Nat.sub_self, List.drop_eq_getElem_cons h, List.set_cons_zero, List.take_succ_eq_append_getElem h, xorB, xorB, List.map_append, List.append_assoc]
  simp [List.getD, h]
/-- What holds at the head of a round of xored. -/
def Xoring (w : World) (g : Nat) (l : List Int) (x : Int) (i : Value) (wr : World) : Prop :=
  ∃ k : Nat, k ≤ 64 ∧ i = .int .i64 k ∧ Below w.heap.size w wr ∧ Arr wr g 0 .u8 (xorPart l x k) ∧ Arr wr (g + 1) 0 .u8 (List.replicate 64 0)

set_option maxRecDepth 100000 in
set_option maxHeartbeats 1000000 in
theorem xored_any (w : World) (l : List Int) (x : Int) (hl : l.length = 64) :
    Calls Tryd.prog 23 #[.agg (vals .u8 l).toArray, .int .u8 x] w fun e w' => e = .returned (.agg (vals .u8 (xorB l x)).toArray) ∧ Below w.heap.size w w' := by
  have HL := hide hl
  clear hl
  go_enter Tryd.func23, Tryd.ntmps23
  go_upto_region 1 with fail
  obtain ⟨W, hW⟩ : ∃ W, W = (w.alloc (.cells (vals .u8 l).toArray 40)).alloc (.cells #[.int .u8 0, .int .u8 0, .int .u8 0, .int .u8 0, .int .u8 0, .int .u8 0, .int .u8 0, .int .u8 0, .int .u8 0, .int .u8 0, .int .u8 0, .int .u8 0, .int .u8 0, .int .u8 0, .int .u8 0, .int .u8 0, .int .u8 0, .int .u8 0, .int .u8 0, .int .u8 0, .int .u8 0, .int .u8 0, .int .u8 0, .int .u8 0, .int .u8 0, .int .u8 0, .int .u8 0, .int .u8 0, .int .u8 0, .int .u8 0, .int .u8 0, .int .u8 0, .int .u8 0, .int .u8 0, .int .u8 0, .int .u8 0, .int .u8 0, .int .u8 0, .int .u8 0, .int .u8 0, .int .u8 0, .int .u8 0, .int .u8 0, .int .u8 0, .int .u8 0, .int .u8 0, .int .u8 0, .int .u8 0, .int .u8 0, .int .u8 0, .int .u8 0, .int .u8 0, .int .u8 0, .int .u8 0, .int .u8 0, .int .u8 0, .int .u8 0, .int .u8 0, .int .u8 0, .int .u8 0, .int .u8 0, .int .u8 0, .int .u8 0, .int .u8 0] 40) := ⟨_, rfl⟩
  rw [← hW]
  have HS : Hid (Xoring w w.heap.size l x (.int .i64 0) W) := hide (by
    rw [hW]
    refine ⟨0, by omega, rfl, ((Below.refl _ _).alloc (Nat.le_refl _) _).alloc (by rw [alloc_size]; omega) _, ?_, ?_⟩
    · rw [xorPart_zero]
      exact (Arr.new w .u8 l _).alloc _
    · have := Arr.new (w.alloc (.cells (vals .u8 l).toArray 40)) .u8 (List.replicate 64 0) 40
      rw [alloc_size] at this
      exact this)
  clear hW
  generalize hg : w.heap.size = g at *
  have HG := hide hg
  clear hg
  go_wp2
  go_loopw [6] (fun i wr => Xoring w g l x i wr) (fun i _ => 64 - (intOf i).toNat)
  case atStart => exact HS.out
  case round =>
    clear HS
    obtain ⟨k, hk, rfl, hB, hA, hR⟩ := hrel
    by_cases hlt : k < 64
    · have hkl : k < l.length := by rw [HL.out]; exact hlt
      have hpl : k < (xorPart l x k).length := by rw [xorPart_length]; exact hkl
      have c0 := hA.cell0 k hpl
      have c1 := hA.free0 k hpl
      rw [xorPart_get l x k hkl] at c0
      have R : Hid (Xoring w g l x (.int .i64 ((k + 1 : Nat) : Int)) (wr.setCell ⟨g, k, none⟩ (.int .u8 (bits .xor .u8 (l.getD k 0) x)))) := by
        refine hide ⟨k + 1, by omega, rfl, hB.setCell (by rw [HG.out]; exact Nat.le_refl _) _, ?_, hR.beside _ _ (Or.inl (by simp))⟩
        rw [← xorPart_set l x k hkl]
        exact hA.set0 k hpl _
      have bk : (k : Int) < 64 := by omega
      clear hB hA hR hkl hpl
      generalize l.getD k 0 = z at *
      go_wp2
      go_roundw
      case rel => first | exact R.out | ((repeat apply Exists.intro); exact ⟨R.out, rfl⟩)
      case measure => simp [intOf]; omega
    · obtain rfl : k = 64 := by omega
      rw [xorPart_all l x 64 (by rw [HL.out]; omega)] at hA
      have HA := hide hA
      have HR : Hid (wr.there (g + 1) 0 64) := hide (by simpa using hR.2)
      have HB := hide hB
      have HXL : Hid ((xorB l x).length = 64) := hide (by rw [xorB_length, HL.out])
      clear hB hA hR hlt hk
      generalize hLx : xorB l x = L at *
      have HLX := hide hLx
      clear hLx
      go_wp2_with (first | (refine wp_load_arr rfl 40 (.tmp 2) rfl _ 0 rfl .u8 L HA.out _ Tryd.underlying40 rfl 64 info_b HXL.out ?_) | (refine wp_store_arr rfl 40 (.tmp 4) (.tmp 16) rfl _ 0 .u8 L rfl rfl 64 HR.out info_b HXL.out ?_))
      refine ret_arr 4 40 rfl _ 0 rfl .u8 L (Arr.put (by rw [HXL.out]; exact HR.out)) _ Tryd.underlying40 rfl 64 info_b HXL.out rfl ⟨by rw [HLX.out], below_sets (by rw [HG.out]; omega) _ _ _ HB.out⟩

/-- 'copy', of bytes into cells that are there. -/
theorem wp_copy {w : World} {ops : Array Oper} {rest : List Oper} {o : Oper} {a : Act} {Q : Exit → Act → World → Prop} (hgd : o.guard = none) (d s : Operand)
    (ho : o.op = .call { callee := .builtin .copy, args := #[d, s], argTypes := #[22, 22] }) (b off dLen dCap : Nat) (hd : a.eval d = .slice (some ⟨b, off, none⟩) dLen dCap)
    (src : Value) (l : List Int) (hs : a.eval s = src) (hsrc : Bytes w src l) (hl : l.length ≤ dLen) (ht : w.there b off dLen)
    (h : wpList Tryd.prog ops Q rest (a.put o.dst (.int .i64 l.length)) (w.setCells b off (vals .u8 l))) : wpList Tryd.prog ops Q (o :: rest) a w := by
  rcases Nat.eq_zero_or_pos l.length with h0 | h0
  · obtain rfl : l = [] := List.length_eq_zero_iff.1 h0
    obtain ⟨sa, cap, rfl, -⟩ := hsrc.empty
    exact wpList_copy_nothing hgd d s 22 22 ho 5 Tryd.underlying22 (by kernel_rfl) _ _ _ _ _ _ hd hs (by simp) h
  · refine wpList_plain hgd fun K' hK => ?_
    obtain ⟨sb, soff, cap, rfl, h1, h2, hc⟩ := hsrc.lies h0
    have hrun := run_copy_cells (P := Tryd.prog) w 22 22 o.type 5 b off dLen dCap ⟨sb, soff, none⟩ l.length cap (vals .u8 l) Tryd.underlying22 (by kernel_rfl) (by rw [vals_length]; exact (Nat.min_eq_left hl).symm)
      (fun j v hv => by
        have hj : j < l.length := by have := (List.getElem?_eq_some_iff.1 hv).1; rwa [vals_length] at this
        rw [Addr.add_mid, hc j (by omega), ← hv, vals_get .u8 l j hj])
      (fun j hj => by rw [vals_length] at hj; exact (ht j (by omega)).1) (fun j hj => by rw [vals_length] at hj; exact (ht j (by omega)).2)
      (fun v hv => by
        simp only [vals, List.mem_map] at hv
        obtain ⟨z, _, rfl⟩ := hv
        rfl)
    rw [vals_length] at hrun
    unfold Oper.wp
    simp [execOp, ho, resolve, invoke, builtin, hd, hs, hrun, Result.andThen]
    exact hK _ _ h

end Go.Proofs.YtknijlajopmjaaaDoor
