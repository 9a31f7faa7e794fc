/-
  What the reader's hash answers at this program, whatever is left.
-/
import Derived.Test.YtjgainoplgojiabDoorTxRd
namespace Go.Proofs.YtjgainoplgojiabDoor
open Go.RowKit

/-- A row that is a function's result. -/
theorem ret_row {P : Program} {fn : Func} {R : Ending → World → Prop} {a : Act} {w : World} (p : Tmp) (ty : TypeId) (hfn : fn.results = #[.cell p ty]) (b o : Nat) (hp : a.tmps.getD p undef = .pointer (some ⟨b, o, none⟩))
    (vs : List Value) (hA : w.rangeAt b o vs) (d : TypeDesc) (hu : P.underlying ty = some d) (hd : d.isRow = true) (hi : (P.info? ty).map (·.size) = some vs.length)
    (hdf : a.defers = []) (hR : R (.returned (.agg vs.toArray)) w) : bodyPost P fn R .ret a w := by
  refine bodyPost_ret (v := .agg vs.toArray) ?_ hdf hR
  have hp' : a.tmps[p]?.getD undef = .pointer (some ⟨b, o, none⟩) := by simpa using hp
  simp [results, hfn, hp', asAddr, run_loadVar_mid w b o ty vs d hA hu hd hi]
theorem vals_zeros : (vals .u8 (List.replicate 32 0)).toArray = #[.int .u8 0, .int .u8 0, .int .u8 0, .int .u8 0, .int .u8 0, .int .u8 0, .int .u8 0, .int .u8 0, .int .u8 0, .int .u8 0, .int .u8 0, .int .u8 0, .int .u8 0, .int .u8 0, .int .u8 0, .int .u8 0, .int .u8 0, .int .u8 0, .int .u8 0, .int .u8 0, .int .u8 0, .int .u8 0, .int .u8 0, .int .u8 0, .int .u8 0, .int .u8 0, .int .u8 0, .int .u8 0, .int .u8 0, .int .u8 0, .int .u8 0, .int .u8 0] := rfl
theorem there_sets {w : World} {b o n : Nat} (h : w.there b o n) (b' o' : Nat) (vs : List Value) : (w.setCells b' o' vs).there b o n := World.there_setCells h b' o' vs
theorem sets_besides {p : Nat} {w w' : World} (h : Besides p p w w') (b o : Nat) (vs : List Value) (hb : w.heap.size ≤ b) : Besides p p w (w'.setCells b o vs) :=
  ⟨(below_sets (B := 0) (Nat.zero_le b) vs o w' (Below.refl 0 w')).os.trans h.os, (below_sets (B := 0) (Nat.zero_le b) vs o w' (Below.refl 0 w')).tape.trans h.tape, (below_sets (B := 0) (Nat.zero_le b) vs o w' (Below.refl 0 w')).output.trans h.output, by rw [size_setCells]; exact h.size, fun k hk h1 h2 =>
    ((below_sets (B := b) (Nat.le_refl b) vs o w' (Below.refl b w')).block k (by omega)).trans (h.block k hk h1 h2)⟩

/-- 'copy', of bytes into cells that are there. -/
theorem run_copy_any (w : World) (ty : TypeId) (b off dLen dCap : Nat) (src : Value) (l : List Int) (hsrc : Bytes w src l) (hl : l.length ≤ dLen) (ht : w.there b off dLen) :
    (Builtin.copy_ #[29, 29] ty #[.slice (some ⟨b, off, none⟩) dLen dCap, src]).run Tryd.prog w = .ok (.int .i64 l.length) (w.setCells b off (vals .u8 l)) := by
  rcases Nat.eq_zero_or_pos l.length with h0 | h0
  · obtain rfl : l = [] := List.length_eq_zero_iff.1 h0
    obtain ⟨sa, cap, rfl, -⟩ := hsrc.empty
    exact run_copy_none (P := Tryd.prog) w 29 29 ty 5 _ _ _ _ _ _ Tryd.underlying29 (by kernel_rfl) (by simp)
  · obtain ⟨sb, soff, cap, rfl, h1, h2, hc⟩ := hsrc.lies h0
    have hrun := run_copy_cells (P := Tryd.prog) w 29 29 ty 5 b off dLen dCap ⟨sb, soff, none⟩ l.length cap (vals .u8 l) Tryd.underlying29 (by kernel_rfl) (by rw [vals_length]; exact (Nat.min_eq_left hl).symm)
      (fun j v hv => by
        have hj : j < l.length := by have := (List.getElem?_eq_some_iff.1 hv).1; rwa [vals_length] at this
        rw [Addr.add_mid, hc j (by omega), ← hv, vals_get .u8 l j hj])
      (fun j hj => by rw [vals_length] at hj; exact (ht j (by omega)).1) (fun j hj => by rw [vals_length] at hj; exact (ht j (by omega)).2)
      (vals_cell .u8 l)
    rw [vals_length] at hrun
    exact hrun
/-- What hash answers. -/
def HashDone (w : World) (p : Nat) (s : RdS) (e : Ending) (w' : World) : Prop :=
  e = .returned (.agg (vals .u8 (hashS s).1).toArray) ∧ Rd w' p (hashS s).2 ∧ Besides p p w w'
set_option maxRecDepth 100000 in
set_option maxHeartbeats 1000000 in
theorem rhash_any (w : World) (p : Nat) (s : RdS) (h : Rd w p s) :
    Calls Tryd.prog 41 #[.pointer (some ⟨p, 0, none⟩)] w (HashDone w p s) := by
  have hb : AllB s.1 := by obtain ⟨v, -, -, -, -, hb, -⟩ := h; exact hb
  have hplt := h.lt
  obtain ⟨W1, hW1⟩ : ∃ W1, W1 = w.alloc (.cells #[.int .u8 0, .int .u8 0, .int .u8 0, .int .u8 0, .int .u8 0, .int .u8 0, .int .u8 0, .int .u8 0, .int .u8 0, .int .u8 0, .int .u8 0, .int .u8 0, .int .u8 0, .int .u8 0, .int .u8 0, .int .u8 0, .int .u8 0, .int .u8 0, .int .u8 0, .int .u8 0, .int .u8 0, .int .u8 0, .int .u8 0, .int .u8 0, .int .u8 0, .int .u8 0, .int .u8 0, .int .u8 0, .int .u8 0, .int .u8 0, .int .u8 0, .int .u8 0] 34) := ⟨_, rfl⟩
  obtain ⟨W2, hW2⟩ : ∃ W2, W2 = W1.alloc (.cells #[.int .u8 0, .int .u8 0, .int .u8 0, .int .u8 0, .int .u8 0, .int .u8 0, .int .u8 0, .int .u8 0, .int .u8 0, .int .u8 0, .int .u8 0, .int .u8 0, .int .u8 0, .int .u8 0, .int .u8 0, .int .u8 0, .int .u8 0, .int .u8 0, .int .u8 0, .int .u8 0, .int .u8 0, .int .u8 0, .int .u8 0, .int .u8 0, .int .u8 0, .int .u8 0, .int .u8 0, .int .u8 0, .int .u8 0, .int .u8 0, .int .u8 0, .int .u8 0] 34) := ⟨_, rfl⟩
  have s1 : W1.heap.size = w.heap.size + 1 := by rw [hW1]; exact alloc_size _ _
  have b1 : Below w.heap.size w W1 := by rw [hW1]; exact (Below.refl _ _).alloc (Nat.le_refl _) _
  have b2 : Below W1.heap.size W1 W2 := by rw [hW2]; exact (Below.refl _ _).alloc (Nat.le_refl _) _
  have t1 : W1.there w.heap.size 0 32 := by rw [hW1]; exact there_new w _ _
  have A2 : Arr W2 W1.heap.size 0 .u8 (List.replicate 32 0) := by rw [hW2]; have := Arr.new W1 .u8 (List.replicate 32 0) 34; rw [vals_zeros] at this; exact this
  have t2 : W2.there w.heap.size 0 32 := there_on t1 b2
  have s2 : W2.heap.size = w.heap.size + 2 := by rw [hW2, alloc_size, s1]
  rw [s1] at A2
  have HHL : Hid ((hashS s).1.length = 32) := hide (hashS_all hb).2.1
  have hbs0 : Besides p p w W2 := .of_below (below_on b1 b2)
  have hne1 : w.heap.size + 1 ≠ p := by omega
  have hne0 : w.heap.size ≠ p := by omega
  have T : Hid (Calls Tryd.prog 39 #[.pointer (some ⟨p, 0, none⟩), .int .i64 32] W2.drew fun e w' => ∃ v', e = .returned v' ∧ Rd w' p (hashS s).2 ∧ Bytes w' v' (takeS 32 s).1 ∧ Besides p p w w' ∧ Arr w' (w.heap.size + 1) 0 .u8 (List.replicate 32 0) ∧ w'.there w.heap.size 0 32 ∧ w.heap.size + 2 ≤ w'.heap.size) := hide (by
    refine (rtake_any W2.drew p s 32 ((h.on (below_on b1 b2)).on (Below.refl _ _).drew) (by omega)).mono ?_
    rintro e w' ⟨v', rfl, hr, hk, hbs, hs⟩
    have hs2 : W2.drew.heap.size = w.heap.size + 2 := s2
    have e1 : w'.heap[w.heap.size + 1]? = W2.heap[w.heap.size + 1]? := hbs.block (w.heap.size + 1) (by omega) hne1 hne1
    have e0 : w'.heap[w.heap.size]? = W2.heap[w.heap.size]? := hbs.block w.heap.size (by omega) hne0 hne0
    exact ⟨v', rfl, hr, hk.self, hbs0.drew.trans hbs, ⟨range_heap A2.1 e1, there_heap A2.2 e1⟩, there_heap t2 e0, by omega⟩)
  have HP : Hid (pad32 (takeS 32 s).1 = (hashS s).1) := hide rfl
  have HTL : Hid ((takeS 32 s).1.length ≤ 32) := hide (takeS_all (n := 32) hb).2.2.2
  generalize (takeS 32 s).1 = tl at *
  have HPL := hide hplt
  have E1 := hide hW1
  have E2 := hide hW2
  clear hW1 hW2 t1 t2 A2 b1 b2 hb h hbs0 s2 hne0 hne1 s1 hplt
  go_enter Tryd.func41, Tryd.ntmps41
  go_upto_region 2 with fail
  rw [← E1.out, ← E2.out]
  clear E1 E2
  go_region_with (first
    | (go_at_call 39; (with_reducible refine T.out.mono ?_); rintro e w3 ⟨v3, rfl, hr3, hk3, hbs3, hA3, ht3, hs3⟩; have hcp := run_copy_any w3 3 (w.heap.size + 1) 0 32 32 v3 tl hk3 HTL.out hA3.2))
  all_goals
    have hov := hA3.over 0 tl (by have := HTL.out; simp; omega)
    have e0 : (List.replicate 32 (0 : Int)).take 0 ++ (tl ++ (List.replicate 32 (0 : Int)).drop (0 + tl.length)) = (hashS s).1 := by
      rw [← HP.out]
      unfold pad32
      rw [List.take_zero, List.nil_append, Nat.zero_add, List.drop_replicate]
    rw [e0] at hov
    have HA4 := hide hov
    have HT4 := hide (there_sets ht3 (w.heap.size + 1) 0 (vals .u8 tl))
    have HB4 := hide (sets_besides hbs3 (w.heap.size + 1) 0 (vals .u8 tl) (by omega))
    have HR4 : Hid (Rd (w3.setCells (w.heap.size + 1) 0 (vals .u8 tl)) p (hashS s).2) := hide (hr3.move (by rw [size_setCells]; exact Nat.le_refl _) fun g hg => (below_sets (B := w.heap.size + 1) (Nat.le_refl _) _ _ _ (Below.refl _ _)).block g (by have := HPL.out; omega))
    clear hov e0 hcp hk3 hbs3 hA3 ht3 hs3 hr3 T
    generalize w3.setCells (w.heap.size + 1) 0 (vals .u8 tl) = W4 at *
    go_wp2_with (first | (refine wp_load_arr rfl 34 (.tmp 3) rfl _ 0 rfl .u8 (hashS s).1 HA4.out _ Tryd.underlying34 rfl 32 info_hash HHL.out ?_) | (refine wp_store_arr rfl 34 (.tmp 2) (.tmp 8) rfl _ 0 .u8 (hashS s).1 rfl rfl 32 HT4.out info_hash HHL.out ?_))
    refine ret_arr 2 34 rfl w.heap.size 0 rfl .u8 (hashS s).1 (Arr.put (by rw [HHL.out]; exact HT4.out)) _ Tryd.underlying34 rfl 32 info_hash HHL.out rfl ⟨rfl, ?_, ?_⟩
    · exact HR4.out.move (by rw [size_setCells]; exact Nat.le_refl _) fun g hg => (below_sets (B := w.heap.size) (Nat.le_refl _) _ _ _ (Below.refl _ _)).block g (by have := HPL.out; omega)
    · exact sets_besides HB4.out _ _ _ (Nat.le_refl _)

end Go.Proofs.YtjgainoplgojiabDoor
