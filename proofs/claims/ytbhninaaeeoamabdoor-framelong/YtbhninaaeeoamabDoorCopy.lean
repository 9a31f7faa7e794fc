/-
  'copy' at a walk's operation: of bytes, and of a string, into cells that are there. Nothing here speaks of one function.
-/
import Derived.Test.YtbhninaaeeoamabDoorArrWalk
import Derived.Test.YtbhninaaeeoamabDoorStr
import Derived.Lib.LazyBuf
import Derived.ArgAppend
import Derived.Deep.Upon
namespace Go.Proofs.YtbhninaaeeoamabDoor
open Go.RowKit

/-- 'copy', of bytes into cells that are there. -/
theorem wp_copy {w : World} {ops : Array Oper} {rest : List Oper} {o : Oper} {a : Act} {Q : Exit → Act → World → Prop} (hgd : o.guard = none) (d s : Operand)
    (ho : o.op = .call { callee := .builtin .copy, args := #[d, s], argTypes := #[22, 22] }) (b off dLen dCap : Nat) (hd : a.eval d = .slice (some ⟨b, off, none⟩) dLen dCap)
    (src : Value) (l : List Int) (hs : a.eval s = src) (hsrc : Bytes w src l) (hl : l.length ≤ dLen) (ht : w.there b off dLen)
    (h : wpList Tryd.prog ops Q rest (a.put o.dst (.int .i64 l.length)) (w.setCells b off (vals .u8 l))) : wpList Tryd.prog ops Q (o :: rest) a w := by
  rcases Nat.eq_zero_or_pos l.length with h0 | h0
  · obtain rfl : l = [] := List.length_eq_zero_iff.1 h0
    obtain ⟨sa, cap, rfl, -⟩ := hsrc.empty
    exact wpList_copy_nothing hgd d s 22 22 ho 5 Tryd.underlying22 (by kernel_rfl) _ _ _ _ _ _ hd hs (by simp) h
  · refine wpList_plain hgd fun K' hK => ?_
    obtain ⟨sb, soff, cap, rfl, h1, h2, hc⟩ := hsrc.lies h0
    have hrun := run_copy_cells (P := Tryd.prog) w 22 22 o.type 5 b off dLen dCap ⟨sb, soff, none⟩ l.length cap (vals .u8 l) Tryd.underlying22 (by kernel_rfl) (by rw [vals_length]; exact (Nat.min_eq_left hl).symm)
      (fun j v hv => by
        have hj : j < l.length := by have := (List.getElem?_eq_some_iff.1 hv).1; rwa [vals_length] at this
        rw [Addr.add_mid, hc j (by omega), ← hv, vals_get .u8 l j hj])
      (fun j hj => by rw [vals_length] at hj; exact (ht j (by omega)).1) (fun j hj => by rw [vals_length] at hj; exact (ht j (by omega)).2)
      (fun v hv => by
        simp only [vals, List.mem_map] at hv
        obtain ⟨z, _, rfl⟩ := hv
        rfl)
    rw [vals_length] at hrun
    unfold Oper.wp
    simp [execOp, ho, resolve, invoke, builtin, hd, hs, hrun, Result.andThen]
    exact hK _ _ h

/-- 'copy', of a string into cells that are there. -/
theorem wp_copy_str {w : World} {ops : Array Oper} {rest : List Oper} {o : Oper} {a : Act} {Q : Exit → Act → World → Prop} (hgd : o.guard = none) (d s : Operand)
    (ho : o.op = .call { callee := .builtin .copy, args := #[d, s], argTypes := #[22, 9] }) (b off dLen dCap : Nat) (hd : a.eval d = .slice (some ⟨b, off, none⟩) dLen dCap)
    (t : ByteArray) (hs : a.eval s = .string t) (hl : t.size ≤ dLen) (ht : w.there b off dLen)
    (h : wpList Tryd.prog ops Q rest (a.put o.dst (.int .i64 t.size)) (w.setCells b off (vals .u8 (strL t)))) : wpList Tryd.prog ops Q (o :: rest) a w := by
  refine wpList_plain hgd fun K' hK => ?_
  have hrun := run_copy_string (P := Tryd.prog) w 22 9 o.type 5 b off dLen dCap t Tryd.underlying22 (fun w => by kernel_rfl) hl
    (fun j hj => (ht j (by omega)).1) (fun j hj => (ht j (by omega)).2)
  have e : (t.data.toList.map fun x => Value.int .u8 (x.toNat : Int)) = vals .u8 (strL t) := by simp [vals, strL]
  rw [e] at hrun
  unfold Oper.wp
  simp [execOp, ho, resolve, invoke, builtin, hd, hs, hrun, Result.andThen]
  exact hK _ _ h

/-- 'copy', of the first bytes of a longer row. -/
theorem wp_copy_head {w : World} {ops : Array Oper} {rest : List Oper} {o : Oper} {a : Act} {Q : Exit → Act → World → Prop} (hgd : o.guard = none) (d s : Operand)
    (ho : o.op = .call { callee := .builtin .copy, args := #[d, s], argTypes := #[22, 22] }) (b off dLen dCap : Nat) (hd : a.eval d = .slice (some ⟨b, off, none⟩) dLen dCap)
    (src : Value) (l : List Int) (hs : a.eval s = src) (hsrc : Bytes w src l) (hl : dLen ≤ l.length) (hp : 0 < dLen) (ht : w.there b off dLen)
    (h : wpList Tryd.prog ops Q rest (a.put o.dst (.int .i64 dLen)) (w.setCells b off (vals .u8 (l.take dLen)))) : wpList Tryd.prog ops Q (o :: rest) a w := by
  refine wpList_plain hgd fun K' hK => ?_
  obtain ⟨sb, soff, cap, rfl, h1, h2, hc⟩ := hsrc.lies (by omega)
  have hxl : (l.take dLen).length = dLen := by simp; omega
  have hrun := run_copy_cells (P := Tryd.prog) w 22 22 o.type 5 b off dLen dCap ⟨sb, soff, none⟩ l.length cap (vals .u8 (l.take dLen)) Tryd.underlying22 (by kernel_rfl) (by rw [vals_length, hxl]; exact (Nat.min_eq_right hl).symm)
    (fun j v hv => by
      have hj : j < (l.take dLen).length := by have := (List.getElem?_eq_some_iff.1 hv).1; rwa [vals_length] at this
      rw [Addr.add_mid, hc j (by omega), ← hv, vals_get .u8 _ j hj]
      congr 2
      simp only [List.getD]
      rw [List.getElem?_take_of_lt (by omega)])
    (fun j hj => by rw [vals_length] at hj; exact (ht j (by omega)).1) (fun j hj => by rw [vals_length] at hj; exact (ht j (by omega)).2)
    (fun v hv => by
      simp only [vals, List.mem_map] at hv
      obtain ⟨z, _, rfl⟩ := hv
      rfl)
  rw [vals_length, hxl] at hrun
  unfold Oper.wp
  simp [execOp, ho, resolve, invoke, builtin, hd, hs, hrun, Result.andThen]
  exact hK _ _ h

/-- Some of a row is written anew. -/
theorem Arr.over {w : World} {b : Nat} {k : IntKind} {zs : List Int} (h : Arr w b 0 k zs) (off : Nat) (l : List Int) (hl : off + l.length ≤ zs.length) :
    Arr (w.setCells b off (vals k l)) b 0 k (zs.take off ++ (l ++ zs.drop (off + l.length))) := by
  have hlen : (zs.take off ++ (l ++ zs.drop (off + l.length))).length = zs.length := by simp; omega
  have hin := World.cell?_setCells_in b (vals k l) off w (fun j hj => by
    have := (h.2 (off + j) (by rw [vals_length] at hj; omega)).1
    rwa [Nat.zero_add] at this)
  have hat : ∀ j, j < zs.length → (w.setCells b off (vals k l)).cell? ⟨b, 0 + j, none⟩ = some (.int k ((zs.take off ++ (l ++ zs.drop (off + l.length))).getD j 0)) := fun j hj => by
    rw [Nat.zero_add]
    by_cases h1 : j < off
    · rw [World.cell?_setCells_out b _ _ _ _ (fun _ _ => Or.inl h1), h.cell0 j hj]
      simp [List.getD, List.getElem?_append, h1, hj, show min off zs.length = off by omega]
    · by_cases h2 : j < off + l.length
      · have := hin (j - off) (by rw [vals_length]; omega)
        rw [show off + (j - off) = j by omega] at this
        rw [this]
        have e1 : (zs.take off).length = off := by simp; omega
        have h3 : j - off < l.length := by omega
        simp [List.getD, List.getElem?_append, h1, h3, vals, show min off zs.length = off by omega]
      · rw [World.cell?_setCells_out b _ _ _ _ (fun _ _ => Or.inr (by rw [vals_length]; show off + l.length ≤ j; omega)), h.cell0 j hj]
        have h3 : ¬ j - off < l.length := by omega
        simp [List.getD, List.getElem?_append, h1, h3, show min off zs.length = off by omega, show off + l.length + (j - off - l.length) = j by omega]
  refine ⟨fun j v hv => ?_, fun j hj => ?_⟩
  · have hj : j < zs.length := by have := (List.getElem?_eq_some_iff.1 hv).1; rw [vals_length, hlen] at this; exact this
    rw [hat j hj, ← hv, vals_get k _ j (by omega)]
  · rw [hlen] at hj
    refine ⟨by rw [hat j hj]; rfl, ?_⟩
    rw [World.frozen?_setCells]
    exact (h.2 j hj).2

/-- A row of bytes of the call's own, that may be written. -/
def Mine (w : World) (base : Nat) (v : Value) (l : List Int) : Prop :=
  ∃ b cap : Nat, v = .slice (some ⟨b, 0, none⟩) l.length cap ∧ l.length ≤ cap ∧ cap ≤ 9223372036854775807 ∧ base ≤ b ∧ Arr w b 0 .u8 l
theorem Mine.bytes {w : World} {base : Nat} {v : Value} {l : List Int} (h : Mine w base v l) : Bytes w v l := by
  obtain ⟨b, cap, rfl, h1, h2, _, hA⟩ := h
  exact ⟨_, _, rfl, h1, h2, by simp, fun _ => ⟨b, 0, rfl, fun i hi => hA.cell i hi⟩⟩
theorem Mine.on {w w' : World} {base : Nat} {v : Value} {l : List Int} (h : Mine w base v l) (hb : Below w.heap.size w w') : Mine w' base v l := by
  obtain ⟨b, cap, rfl, h1, h2, h3, hA⟩ := h
  exact ⟨b, cap, rfl, h1, h2, h3, hA.on hb⟩
theorem Mine.low {w : World} {base base' : Nat} {v : Value} {l : List Int} (h : Mine w base v l) (hb : base' ≤ base) : Mine w base' v l := by
  obtain ⟨b, cap, rfl, h1, h2, h3, hA⟩ := h
  exact ⟨b, cap, rfl, h1, h2, by omega, hA⟩
theorem Mine.apart {w : World} {base b' : Nat} {v : Value} {l : List Int} (h : Mine w base v l) (o' : Nat) (vs : List Value) (hb : b' < base) : Mine (w.setCells b' o' vs) base v l := by
  obtain ⟨b, cap, rfl, h1, h2, h3, hA⟩ := h
  exact ⟨b, cap, rfl, h1, h2, h3, hA.apart _ _ _ (Or.inl (by omega))⟩
theorem Mine.drew {w : World} {base : Nat} {v : Value} {l : List Int} (h : Mine w base v l) : Mine w.drew base v l := h.on (Below.refl _ _).drew
theorem Own.mine {w : World} {base : Nat} {v : Value} {l : List Int} (h : Own w base v l) (hp : 0 < l.length) : Mine w base v l := by
  obtain ⟨_, h0 | ⟨g, cap, cur, rfl, hb, hg, hn, hm, hs, ht⟩⟩ := id h
  · obtain ⟨rfl, h0⟩ := h0
    omega
  · refine ⟨g, cap, rfl, hn, by simpa [maxLen] using hm, hb, ?_⟩
    have hc : ∀ j, j < l.length → w.cell? ⟨g, 0 + j, none⟩ = some (.int .u8 (l.getD j 0)) := fun j hj => by
      rw [Nat.zero_add, World.ownsRow.cellAt h j (by omega)]
      simp [List.getD, hj]
    refine ⟨fun j v hv => ?_, fun j hj => ⟨by rw [hc j hj]; rfl, ?_⟩⟩
    · have hj : j < l.length := by have := (List.getElem?_eq_some_iff.1 hv).1; rwa [vals_length] at this
      rw [hc j hj, ← hv, vals_get .u8 l j hj]
    · exact frozen_of_row _ _ _ _ _ hg

/-- 'append', of bytes onto a row that is full. -/
theorem wp_append_full {w : World} {ops : Array Oper} {rest : List Oper} {o : Oper} {a : Act} {Q : Exit → Act → World → Prop} (hgd : o.guard = none) (s x : Operand)
    (ho : o.op = .call { callee := .builtin .append, args := #[s, x], argTypes := #[22, 22] })
    (base b : Nat) (l : List Int) (hs : a.eval s = .slice (some ⟨b, 0, none⟩) l.length l.length) (hA : Arr w b 0 .u8 l) (hbb : base ≤ b) (src : Value) (m : List Int) (hx : a.eval x = src) (hsrc : Bytes w src m)
    (hsz : l.length + m.length ≤ 1000000) (hb : base ≤ w.heap.size)
    (h : ∀ v' w', Mine w' base v' (l ++ m) → Below base w w' → wpList Tryd.prog ops Q rest (a.put o.dst v') w') : wpList Tryd.prog ops Q (o :: rest) a w := by
  obtain ⟨i0, hi, hz0, hz1, hz2⟩ := info_parts infoB
  obtain ⟨ad, cap, rfl, hcap, hmax, hnone, hcell⟩ := hsrc
  have hnil : m = [] → Mine w base (.slice (some ⟨b, 0, none⟩) l.length l.length) (l ++ m) := by
    rintro rfl
    rw [List.append_nil]
    exact ⟨b, l.length, rfl, Nat.le_refl _, by omega, hbb, hA⟩
  cases ad with
  | none =>
    obtain rfl := hnone rfl
    obtain rfl : m = [] := List.length_eq_zero_iff.1 (by omega)
    refine wpList_plain hgd fun K hK => ?_
    have hrun : (Builtin.append_ #[22, 22] o.type #[.slice (some ⟨b, 0, none⟩) l.length l.length, .slice none 0 0]).run Tryd.prog w = .ok (.slice (some ⟨b, 0, none⟩) l.length l.length) w := by
      simp [Builtin.append_, run_underlying Tryd.underlying22, sizeOf, typeInfo, hi, Builtin.lenOf, Builtin.firstCells, storeCells]
    unfold Oper.wp
    simp [execOp, ho, resolve, invoke, builtin, hs, hx, hrun, Result.andThen]
    exact hK _ _ (h _ w (hnil rfl) (Below.refl _ _))
  | some ad =>
    refine wpList_append_arg w hgd s x 22 ho 5 i0 (.int .u8 0) 1 1 Tryd.underlying22 hi hz0 hz1 hz2 rfl (by decide) b 0 l.length l.length (vals .u8 l) hs (by simp [vals]) (fun j u hu => hA.1 j u hu) ad m.length cap (vals .u8 m) hx (by simp [vals]) ?_ ?_ ?_ (by unfold maxLen; omega) (by omega) ?_ ?_
    · intro j u hj
      have hjl : j < m.length := by
        have := (List.getElem?_eq_some_iff.1 hj).1
        rwa [vals_length] at this
      obtain ⟨b, off, e, hc⟩ := hcell (by omega)
      cases e
      have e2 : (⟨b, off, none⟩ : Addr).add j = ⟨b, off + j, none⟩ := by simp [Addr.add]
      rw [e2, hc j hjl, ← hj, vals_get .u8 m j hjl]
    · intro v hv
      simp only [vals, List.mem_map] at hv
      obtain ⟨z, _, rfl⟩ := hv
      rfl
    · intro hr j hj
      rw [vals_length] at hj
      omega
    · intro hr
      have hm : m = [] := List.length_eq_zero_iff.1 (by omega)
      subst hm
      exact h _ w (hnil rfl) (Below.refl _ _)
    · intro hr v' w' hown hgrow
      have hl : (vals .u8 l ++ vals .u8 m) = (l ++ m).map (Value.int .u8) := by simp [vals]
      have hO : Own w' w.heap.size v' (l ++ m) := by
        unfold Own
        rw [← hl, List.length_append]
        exact hown
      exact h v' w' ((hO.mine (by rw [List.length_append]; omega)).low hb) ((Below.refl base w).grown hgrow hb (fun k hk => by cases hk))

end Go.Proofs.YtbhninaaeeoamabDoor
