/-
  What an act does: to the set, and to the document's.
-/
import Derived.Test.YtkemdfikcmgaaaaCoActC
import Derived.Test.YtkemdfikcmgaaaaRefCoPut
import Derived.Test.YtkemdfikcmgaaaaRefCoTake
import Derived.Test.YtkemdfikcmgaaaaRefCoOuts
import Derived.Test.YtkemdfikcmgaaaaCoAlive
namespace Go.Proofs.Ytkemdfikcmgaaaa
open Go.RowKit

theorem mem_perm {C D : List Cn} (h : D.Perm C) (p : Pt) : p ∈ D.map Cn.pt ↔ p ∈ C.map Cn.pt := (h.map Cn.pt).mem_iff
/-- Put, of both. -/
theorem put_is (C D L : List Cn) (hP : D.Perm C) (hs : SortC D) (hC : C.length ≤ 1000) (hL : L.length ≤ 1000) (hok : ∀ c ∈ L, CnOk c) : ∃ (E : Int) (T : List Cn), T.length ≤ C.length + L.length ∧
    (∀ (W : World) (b k : Nat) (v : Value), SetAt W b (some k) C → Keeps (off b ((some k).getD b)) W (fun w => CnsAt w v L) →
      Calls Try.prog 12 #[.pointer (some ⟨b, 0, none⟩), v] W fun e w' => e = .returned (.int .i64 E) ∧ SetAt w' b (some k) T ∧ Besides b k W w') ∧
    (∀ (W : World) (A : Nat → Prop) (m : Nat) (v : Value), DocAt W A m D → Keeps (off m m) W (fun w => CnsAt w v L) →
      Calls Try.prog 13 #[.pointer (some ⟨m, 0, none⟩), v] W fun e w' => e = .returned (.int .i64 E) ∧ Besides m m W w' ∧ ∃ D', D'.Perm T ∧ SortC D' ∧ DocAt w' (fun g => A g ∨ W.heap.size ≤ g) m D') := by
  have hDl : D.length ≤ 1000 := by rw [hP.length_eq]; exact hC
  by_cases hN : (L.map Cn.pt).Nodup
  · by_cases hin : ∃ p ∈ L.map Cn.pt, p ∈ C.map Cn.pt
    · refine ⟨10, C, by omega, fun W b k v hset hv => ?_, fun W A m v hdoc hv => ?_⟩
      · refine (put_there W b (some k) C hset L v hv.self hok hL hN hin).mono ?_
        rintro e w' ⟨rfl, hb⟩
        exact ⟨rfl, hset.on hb, .of_below hb⟩
      · refine (rput_any W A m D hdoc hs hDl L v hv hok hL hN).mono ?_
        rintro e w' (⟨-, rfl, hb⟩ | ⟨hno, -⟩)
        · exact ⟨rfl, .of_below hb, D, hP, hs, (hdoc.on hb).weak fun g h => Or.inl h⟩
        · obtain ⟨p, h1, h2⟩ := hin
          exact absurd ((mem_perm hP p).2 h2) (hno p h1)
    · have hno : ∀ p ∈ L.map Cn.pt, p ∉ C.map Cn.pt := fun p h1 h2 => hin ⟨p, h1, h2⟩
      refine ⟨0, C ++ L, by simp, fun W b k v hset hv => ?_, fun W A m v hdoc hv => ?_⟩
      · refine (put_ok W b (some k) C hset L v hv hok hL (by omega) hN hno).mono ?_
        rintro e w' ⟨rfl, k', h1, hk, h2⟩
        obtain rfl : k' = k := by
          rcases hk with e | ⟨e, -⟩
          · exact (Option.some.inj e).symm
          · cases e
        exact ⟨rfl, h1, h2⟩
      · refine (rput_any W A m D hdoc hs hDl L v hv hok hL hN).mono ?_
        rintro e w' (⟨⟨p, h1, h2⟩, -⟩ | ⟨-, rfl, hb, D', h1, h2, h3⟩)
        · exact absurd ((mem_perm hP p).1 h2) (hno p h1)
        · exact ⟨rfl, hb, D', h1.trans (hP.append_right L), h2, h3⟩
  · refine ⟨12, C, by omega, fun W b k v hset hv => ?_, fun W A m v hdoc hv => ?_⟩
    · refine (put_twice W b (some k) C hset L v hv.self hok hL hN).mono ?_
      rintro e w' ⟨rfl, hb⟩
      exact ⟨rfl, hset.on hb, .of_below hb⟩
    · refine (rput_twice W m L v hv.self hok hL hN).mono ?_
      rintro e w' ⟨rfl, hb⟩
      exact ⟨rfl, .of_below hb, D, hP, hs, (hdoc.on hb).weak fun g h => Or.inl h⟩
/-- Take, of both. -/
theorem take_is (C D : List Cn) (L : List Pt) (hP : D.Perm C) (hs : SortC D) (hC : C.length ≤ 1000) (hL : L.length ≤ 1000) (hok : ∀ p ∈ L, PtOk p) (hCk : ∀ c ∈ C, CnOk c) : ∃ (E : Int) (T M : List Cn), T.length ≤ C.length ∧ (∀ c ∈ M, CnOk c) ∧
    (∀ (W : World) (b k : Nat) (v : Value), SetAt W b (some k) C → Keeps (off b ((some k).getD b)) W (fun w => PsAt w v L) →
      Calls Try.prog 14 #[.pointer (some ⟨b, 0, none⟩), v] W fun e w' => ∃ v', e = .returned (.tuple #[v', .int .i64 E]) ∧ SetAt w' b (some k) T ∧ Besides b k W w' ∧ RowAt w' 33 v' (outsC M) ∧ ∀ g, v'.ownBlock = some g → W.heap.size ≤ g) ∧
    (∀ (W : World) (A : Nat → Prop) (m : Nat) (v : Value), DocAt W A m D → PsAt W v L →
      Calls Try.prog 15 #[.pointer (some ⟨m, 0, none⟩), v] W fun e w' => ∃ v', e = .returned (.tuple #[v', .int .i64 E]) ∧ Besides m m W w' ∧ RowAt w' 33 v' (outsC M) ∧ ∃ D', D'.Perm T ∧ SortC D' ∧ DocAt w' (fun g => A g ∨ W.heap.size ≤ g) m D') := by
  have hDl : D.length ≤ 1000 := by rw [hP.length_eq]; exact hC
  by_cases hN : L.Nodup
  · by_cases hin : ∃ p ∈ L, p ∉ C.map Cn.pt
    · refine ⟨9, C, [], by omega, (fun _ h => by cases h), fun W b k v hset hv => ?_, fun W A m v hdoc hv => ?_⟩
      · refine (take_none W b (some k) C hset L v hv hok hL hN hin).mono ?_
        rintro e w' ⟨rfl, hb⟩
        exact ⟨_, rfl, hset.on hb, .of_below hb, RowAt.nil _ _, fun g h => by cases h⟩
      · refine (rtake_any W A m D hdoc hs hDl L v hv hok hL hN).mono ?_
        rintro e w' (⟨-, rfl, hb⟩ | ⟨hall, -⟩)
        · exact ⟨_, rfl, .of_below hb, RowAt.nil _ _, D, hP, hs, (hdoc.on hb).weak fun g h => Or.inl h⟩
        · obtain ⟨p, h1, h2⟩ := hin
          exact absurd ((mem_perm hP p).1 (hall p h1)) h2
    · have hall : ∀ p ∈ L, p ∈ C.map Cn.pt := fun p h1 => Decidable.byContradiction fun h2 => hin ⟨p, h1, h2⟩
      have hCN : (C.map Cn.pt).Nodup := ((hP.map Cn.pt).nodup_iff).1 hs.nodup
      obtain ⟨M, hM, hMC⟩ : ∃ M : List Cn, M.map Cn.pt = L ∧ ∀ c ∈ M, c ∈ C := by
        clear hok hN hin hL
        induction L with
        | nil => exact ⟨[], rfl, fun _ h => by cases h⟩
        | cons p L ih =>
          obtain ⟨M, h1, h2⟩ := ih fun q hq => hall q (by simp [hq])
          obtain ⟨c, hc, e⟩ := List.mem_map.1 (hall p (by simp))
          refine ⟨c :: M, by rw [List.map_cons, h1, e], fun d hd => ?_⟩
          rcases List.mem_cons.1 hd with h | h
          · rw [h]; exact hc
          · exact h2 d h
      have hone : ∀ M' : List Cn, M'.map Cn.pt = L → (∀ c ∈ M', c ∈ C) → M' = M := fun M' h1 h2 => by
        have hl : M'.length = M.length := by have := congrArg List.length (h1.trans hM.symm); simpa using this
        refine List.ext_getElem hl fun i i1 i2 => ?_
        refine pt_one hCN (h2 _ (List.getElem_mem _)) (hMC _ (List.getElem_mem _)) ?_
        have := congrArg (·[i]?) (h1.trans hM.symm)
        simpa [i1, i2] using this
      refine ⟨0, dropPts C L, M, List.length_filter_le _ _, fun c hc => hCk c (hMC c hc), fun W b k v hset hv => ?_, fun W A m v hdoc hv => ?_⟩
      · refine (take_any W b (some k) C hset L v hv hok hL hN).mono ?_
        rintro e w' (⟨⟨p, h1, h2⟩, -⟩ | ⟨v', rfl, h1, h2, M', h3, h4, h5⟩)
        · exact absurd (hall p h1) h2
        · rw [hone M' h3 h4] at h5
          exact ⟨v', rfl, h1, h2, h5.row, fun g hg => (h5.lt g hg).1⟩
      · refine (rtake_any W A m D hdoc hs hDl L v hv hok hL hN).mono ?_
        rintro e w' (⟨⟨p, h1, h2⟩, -⟩ | ⟨-, v', M', rfl, h3, h4, h5, -, h6, h7⟩)
        · exact absurd ((mem_perm hP p).2 (hall p h1)) h2
        · rw [hone M' h3 fun c hc => hP.mem_iff.1 (h4 c hc)] at h5
          exact ⟨v', rfl, h6, h5, dropPts D L, hP.filter _, hs.sublist List.filter_sublist, h7.weak fun g h => Or.inr h⟩
  · refine ⟨12, C, [], by omega, (fun _ h => by cases h), fun W b k v hset hv => ?_, fun W A m v hdoc hv => ?_⟩
    · refine (take_twice W b L v hv.self hok hL hN).mono ?_
      rintro e w' ⟨rfl, hb⟩
      exact ⟨_, rfl, hset.on hb, .of_below hb, RowAt.nil _ _, fun g h => by cases h⟩
    · refine (rtake_twice W m L v hv hok hL hN).mono ?_
      rintro e w' ⟨rfl, hb⟩
      exact ⟨_, rfl, .of_below hb, RowAt.nil _ _, D, hP, hs, (hdoc.on hb).weak fun g h => Or.inl h⟩
/-- New, and the document's Put on an empty set. -/
theorem new_is (L : List Cn) (hL : L.length ≤ 1000) (hok : ∀ c ∈ L, CnOk c) :
    ((∀ (W : World) (v : Value), CnsAt W v L → Calls Try.prog 11 #[v] W fun e w' => ∃ b k, e = .returned (.tuple #[.pointer (some ⟨b, 0, none⟩), .int .i64 0]) ∧ SetAt w' b (some k) L ∧ W.heap.size ≤ b ∧ W.heap.size ≤ k ∧ Below W.heap.size W w') ∧
     (∀ (W : World) (A : Nat → Prop) (m : Nat) (v : Value), DocAt W A m [] → Keeps (off m m) W (fun w => CnsAt w v L) →
      Calls Try.prog 13 #[.pointer (some ⟨m, 0, none⟩), v] W fun e w' => e = .returned (.int .i64 0) ∧ Besides m m W w' ∧ ∃ D', D'.Perm L ∧ SortC D' ∧ DocAt w' (fun g => A g ∨ W.heap.size ≤ g) m D')) ∨
    ((∀ (W : World) (v : Value), CnsAt W v L → Calls Try.prog 11 #[v] W fun e w' => e = .returned (.tuple #[.pointer none, .int .i64 12]) ∧ Below W.heap.size W w') ∧
     (∀ (W : World) (m : Nat) (v : Value), CnsAt W v L →
      Calls Try.prog 13 #[.pointer (some ⟨m, 0, none⟩), v] W fun e w' => e = .returned (.int .i64 12) ∧ Below W.heap.size W w')) := by
  by_cases hN : (L.map Cn.pt).Nodup
  · refine Or.inl ⟨fun W v hv => new_ok L v W hv hok hL hN, fun W A m v hdoc hv => ?_⟩
    refine (rput_any W A m [] hdoc List.Pairwise.nil (by simp) L v hv hok hL hN).mono ?_
    rintro e w' (⟨⟨p, -, h⟩, -⟩ | ⟨-, rfl, hb, D', h1, h2, h3⟩)
    · cases h
    · exact ⟨rfl, hb, D', h1, h2, h3⟩
  · exact Or.inr ⟨fun W v hv => new_twice L v W hv hok hL hN, fun W m v hv => rput_twice W m L v hv hok hL hN⟩

end Go.Proofs.Ytkemdfikcmgaaaa
