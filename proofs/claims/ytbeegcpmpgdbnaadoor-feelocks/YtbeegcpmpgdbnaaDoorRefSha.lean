import Derived.Test.YtbeegcpmpgdbnaaDoorShaA
import Derived.Deep.DeepCutAuto
import Derived.Test.YtbeegcpmpgdbnaaDoorShaB
/-
  What pappusref03.turn, constants and Block answer at this program: the plain block.
-/
namespace Go.Proofs.YtbeegcpmpgdbnaaDoor
open Go.RowKit

theorem rturn_int (x m : Int) (w : World) (h2 : 0 < m) (h3 : m < 32) :
    Calls Tryd.prog 47 #[.int .u32 x, .int .u64 m] w fun e w' => e = .returned (.int .u32 (turnI x m.toNat)) ∧ w' = w := by
  obtain ⟨n, rfl⟩ : ∃ n : Nat, m = n := ⟨m.toNat, by omega⟩
  rw [Int.toNat_natCast]
  have h2 : 0 < n := by omega
  have h3 : n < 32 := by omega
  unfold turnI
  go_enter Tryd.func47, Tryd.ntmps47
  go_wp2
  go_ret
  exact ⟨rfl, rfl⟩
set_option maxRecDepth 100000 in
set_option maxHeartbeats 2000000 in
theorem rconstants_any (w : World) : Calls Tryd.prog 46 #[] w fun e w' => e = .returned (.agg (vals .u32 K).toArray) ∧ Below w.heap.size w w' := by
  go_enter Tryd.func46, Tryd.ntmps46
  go_upto_region 1 with fail
  have HT : Hid ((w.alloc (.cells #[.int .u32 0, .int .u32 0, .int .u32 0, .int .u32 0, .int .u32 0, .int .u32 0, .int .u32 0, .int .u32 0, .int .u32 0, .int .u32 0, .int .u32 0, .int .u32 0, .int .u32 0, .int .u32 0, .int .u32 0, .int .u32 0, .int .u32 0, .int .u32 0, .int .u32 0, .int .u32 0, .int .u32 0, .int .u32 0, .int .u32 0, .int .u32 0, .int .u32 0, .int .u32 0, .int .u32 0, .int .u32 0, .int .u32 0, .int .u32 0, .int .u32 0, .int .u32 0, .int .u32 0, .int .u32 0, .int .u32 0, .int .u32 0, .int .u32 0, .int .u32 0, .int .u32 0, .int .u32 0, .int .u32 0, .int .u32 0, .int .u32 0, .int .u32 0, .int .u32 0, .int .u32 0, .int .u32 0, .int .u32 0, .int .u32 0, .int .u32 0, .int .u32 0, .int .u32 0, .int .u32 0, .int .u32 0, .int .u32 0, .int .u32 0, .int .u32 0, .int .u32 0, .int .u32 0, .int .u32 0, .int .u32 0, .int .u32 0, .int .u32 0, .int .u32 0] 91)).there w.heap.size 0 64) := hide (Arr.new w .u32 (List.replicate 64 0) 91).2
  go_wp2_with (refine wp_store_arr rfl 91 (.tmp 0) (.tmp 1) rfl _ 0 .u32 K rfl rfl 64 HT.out info_w rfl ?_)
  go_outline
  refine ret_arr 0 91 rfl _ 0 rfl .u32 K (Arr.put HT.out) _ Tryd.underlying91 rfl 64 info_w rfl rfl ⟨rfl, below_sets (Nat.le_refl _) _ _ _ ((Below.refl _ _).alloc (Nat.le_refl _) _)⟩

end Go.Proofs.YtbeegcpmpgdbnaaDoor

/-
  What pappusref03.Block answers at this program: the plain block.
-/
namespace Go.Proofs.YtbeegcpmpgdbnaaDoor
open Go.RowKit

theorem sets_size (b : Nat) : ∀ (vs : List Value) (o : Nat) (w : World), (w.setCells b o vs).heap.size = w.heap.size
  | [], _, _ => rfl
  | v :: vs, o, w => by
    rw [World.setCells, sets_size b vs (o + 1)]
    simp [World.setCell]
theorem Arr.newOf (w : World) (k : IntKind) (zs : List Int) (t : TypeId) (cs : Array Value) (hc : cs = (vals k zs).toArray) : Arr (w.alloc (.cells cs t)) w.heap.size 0 k zs := by
  subst hc
  exact Arr.new w k zs t
/-- A place for 64 numbers, and the constants in it. -/
theorem table_new (w : World) : Arr (w.alloc (.cells #[.int .u32 0, .int .u32 0, .int .u32 0, .int .u32 0, .int .u32 0, .int .u32 0, .int .u32 0, .int .u32 0, .int .u32 0, .int .u32 0, .int .u32 0, .int .u32 0, .int .u32 0, .int .u32 0, .int .u32 0, .int .u32 0, .int .u32 0, .int .u32 0, .int .u32 0, .int .u32 0, .int .u32 0, .int .u32 0, .int .u32 0, .int .u32 0, .int .u32 0, .int .u32 0, .int .u32 0, .int .u32 0, .int .u32 0, .int .u32 0, .int .u32 0, .int .u32 0, .int .u32 0, .int .u32 0, .int .u32 0, .int .u32 0, .int .u32 0, .int .u32 0, .int .u32 0, .int .u32 0, .int .u32 0, .int .u32 0, .int .u32 0, .int .u32 0, .int .u32 0, .int .u32 0, .int .u32 0, .int .u32 0, .int .u32 0, .int .u32 0, .int .u32 0, .int .u32 0, .int .u32 0, .int .u32 0, .int .u32 0, .int .u32 0, .int .u32 0, .int .u32 0, .int .u32 0, .int .u32 0, .int .u32 0, .int .u32 0, .int .u32 0, .int .u32 0] 91)) w.heap.size 0 .u32 (List.replicate 64 0) := Arr.newOf w .u32 _ _ _ rfl
theorem table_there (w : World) : (w.alloc (.cells #[.int .u32 0, .int .u32 0, .int .u32 0, .int .u32 0, .int .u32 0, .int .u32 0, .int .u32 0, .int .u32 0, .int .u32 0, .int .u32 0, .int .u32 0, .int .u32 0, .int .u32 0, .int .u32 0, .int .u32 0, .int .u32 0, .int .u32 0, .int .u32 0, .int .u32 0, .int .u32 0, .int .u32 0, .int .u32 0, .int .u32 0, .int .u32 0, .int .u32 0, .int .u32 0, .int .u32 0, .int .u32 0, .int .u32 0, .int .u32 0, .int .u32 0, .int .u32 0, .int .u32 0, .int .u32 0, .int .u32 0, .int .u32 0, .int .u32 0, .int .u32 0, .int .u32 0, .int .u32 0, .int .u32 0, .int .u32 0, .int .u32 0, .int .u32 0, .int .u32 0, .int .u32 0, .int .u32 0, .int .u32 0, .int .u32 0, .int .u32 0, .int .u32 0, .int .u32 0, .int .u32 0, .int .u32 0, .int .u32 0, .int .u32 0, .int .u32 0, .int .u32 0, .int .u32 0, .int .u32 0, .int .u32 0, .int .u32 0, .int .u32 0, .int .u32 0] 91)).there w.heap.size 0 64 := by
  have := (table_new w).2
  rwa [List.length_replicate] at this
theorem table_kept (w : World) : Below w.heap.size w ((w.alloc (.cells #[.int .u32 0, .int .u32 0, .int .u32 0, .int .u32 0, .int .u32 0, .int .u32 0, .int .u32 0, .int .u32 0, .int .u32 0, .int .u32 0, .int .u32 0, .int .u32 0, .int .u32 0, .int .u32 0, .int .u32 0, .int .u32 0, .int .u32 0, .int .u32 0, .int .u32 0, .int .u32 0, .int .u32 0, .int .u32 0, .int .u32 0, .int .u32 0, .int .u32 0, .int .u32 0, .int .u32 0, .int .u32 0, .int .u32 0, .int .u32 0, .int .u32 0, .int .u32 0, .int .u32 0, .int .u32 0, .int .u32 0, .int .u32 0, .int .u32 0, .int .u32 0, .int .u32 0, .int .u32 0, .int .u32 0, .int .u32 0, .int .u32 0, .int .u32 0, .int .u32 0, .int .u32 0, .int .u32 0, .int .u32 0, .int .u32 0, .int .u32 0, .int .u32 0, .int .u32 0, .int .u32 0, .int .u32 0, .int .u32 0, .int .u32 0, .int .u32 0, .int .u32 0, .int .u32 0, .int .u32 0, .int .u32 0, .int .u32 0, .int .u32 0, .int .u32 0] 91)).setCells w.heap.size 0 (vals .u32 K)) ∧ Arr ((w.alloc (.cells #[.int .u32 0, .int .u32 0, .int .u32 0, .int .u32 0, .int .u32 0, .int .u32 0, .int .u32 0, .int .u32 0, .int .u32 0, .int .u32 0, .int .u32 0, .int .u32 0, .int .u32 0, .int .u32 0, .int .u32 0, .int .u32 0, .int .u32 0, .int .u32 0, .int .u32 0, .int .u32 0, .int .u32 0, .int .u32 0, .int .u32 0, .int .u32 0, .int .u32 0, .int .u32 0, .int .u32 0, .int .u32 0, .int .u32 0, .int .u32 0, .int .u32 0, .int .u32 0, .int .u32 0, .int .u32 0, .int .u32 0, .int .u32 0, .int .u32 0, .int .u32 0, .int .u32 0, .int .u32 0, .int .u32 0, .int .u32 0, .int .u32 0, .int .u32 0, .int .u32 0, .int .u32 0, .int .u32 0, .int .u32 0, .int .u32 0, .int .u32 0, .int .u32 0, .int .u32 0, .int .u32 0, .int .u32 0, .int .u32 0, .int .u32 0, .int .u32 0, .int .u32 0, .int .u32 0, .int .u32 0, .int .u32 0, .int .u32 0, .int .u32 0, .int .u32 0] 91)).setCells w.heap.size 0 (vals .u32 K)) w.heap.size 0 .u32 K ∧ ((w.alloc (.cells #[.int .u32 0, .int .u32 0, .int .u32 0, .int .u32 0, .int .u32 0, .int .u32 0, .int .u32 0, .int .u32 0, .int .u32 0, .int .u32 0, .int .u32 0, .int .u32 0, .int .u32 0, .int .u32 0, .int .u32 0, .int .u32 0, .int .u32 0, .int .u32 0, .int .u32 0, .int .u32 0, .int .u32 0, .int .u32 0, .int .u32 0, .int .u32 0, .int .u32 0, .int .u32 0, .int .u32 0, .int .u32 0, .int .u32 0, .int .u32 0, .int .u32 0, .int .u32 0, .int .u32 0, .int .u32 0, .int .u32 0, .int .u32 0, .int .u32 0, .int .u32 0, .int .u32 0, .int .u32 0, .int .u32 0, .int .u32 0, .int .u32 0, .int .u32 0, .int .u32 0, .int .u32 0, .int .u32 0, .int .u32 0, .int .u32 0, .int .u32 0, .int .u32 0, .int .u32 0, .int .u32 0, .int .u32 0, .int .u32 0, .int .u32 0, .int .u32 0, .int .u32 0, .int .u32 0, .int .u32 0, .int .u32 0, .int .u32 0, .int .u32 0, .int .u32 0] 91)).setCells w.heap.size 0 (vals .u32 K)).heap.size = w.heap.size + 1 :=
  ⟨below_sets (Nat.le_refl _) _ _ _ ((Below.refl _ _).alloc (Nat.le_refl _) _), Arr.put (table_there w), by rw [sets_size, alloc_size]⟩

/-- What stands while the numbers of a block are made: the state, the block, the place of the result, the constants; the first k numbers. -/
def RSt (w : World) (g gk gw : Nat) (s : St) (bs : List Int) (k : Nat) (wr : World) : Prop :=
  Below w.heap.size w wr ∧ Arr wr g 0 .u32 s.list ∧ Arr wr (g + 1) 0 .u8 bs ∧ Arr wr (g + 1 + 1) 0 .u32 (List.replicate 8 0) ∧ Arr wr gk 0 .u32 K ∧ Arr wr gw 0 .u32 (padded (back bs k))
def RSt1 (w : World) (g gk gw : Nat) (s : St) (bs : List Int) (i : Value) (wr : World) : Prop := ∃ k : Nat, k ≤ 16 ∧ i = .int .i64 k ∧ RSt w g gk gw s bs k wr
def RSt2 (w : World) (g gk gw : Nat) (s : St) (bs : List Int) (i : Value) (wr : World) : Prop := ∃ k : Nat, 16 ≤ k ∧ k ≤ 64 ∧ i = .int .i64 k ∧ RSt w g gk gw s bs k wr
theorem RSt.on {w wr wr' : World} {g gk gw k : Nat} {s : St} {bs : List Int} (h : RSt w g gk gw s bs k wr) (hb : Below wr.heap.size wr wr') : RSt w g gk gw s bs k wr' :=
  ⟨below_on' h.1 hb (Nat.le_refl _), h.2.1.on hb, h.2.2.1.on hb, h.2.2.2.1.on hb, h.2.2.2.2.1.on hb, h.2.2.2.2.2.on hb⟩
theorem RSt.next {w wr : World} {g gk gw k : Nat} {s : St} {bs : List Int} (h : RSt w g gk gw s bs k wr) (hw : w.heap.size ≤ gw) (hne : g ≠ gw ∧ g + 1 ≠ gw ∧ g + 1 + 1 ≠ gw ∧ gk ≠ gw) (hk : k < 64) (z : Int) (hz : back bs (k + 1) = z :: back bs k) :
    RSt w g gk gw s bs (k + 1) (wr.setCell ⟨gw, k, none⟩ (.int .u32 z)).drew := by
  obtain ⟨h1, h2, h3, h4, h5, h6⟩ := h
  refine ⟨(h1.setCell hw _).drew, (h2.beside _ _ (Or.inl (Ne.symm hne.1))).drew, (h3.beside _ _ (Or.inl (Ne.symm hne.2.1))).drew, (h4.beside _ _ (Or.inl (Ne.symm hne.2.2.1))).drew, (h5.beside _ _ (Or.inl (Ne.symm hne.2.2.2))).drew, ?_⟩
  have hl := back_length bs k
  have := h6.set0 k (by rw [padded_length] <;> omega) z
  rw [show (padded (back bs k)).set k z = padded (z :: back bs k) by rw [← padded_set (by omega), hl]] at this
  rw [hz]
  exact this.drew

/-- What stands while the two states are summed up. -/
def RAdd (w : World) (g gv : Nat) (s m : List Int) (i : Value) (wr : World) : Prop :=
  ∃ k : Nat, k ≤ 8 ∧ i = .int .i64 k ∧ Below w.heap.size w wr ∧ Arr wr g 0 .u32 (part s m k) ∧ Arr wr (g + 1 + 1) 0 .u32 (List.replicate 8 0) ∧ Arr wr gv 0 .u32 m
/-- What stands while the steps are made. -/
def RMix (w : World) (g gk gw gv : Nat) (s : St) (ws : List Int) (k : Nat) (wr : World) : Prop :=
  Below w.heap.size w wr ∧ Arr wr g 0 .u32 s.list ∧ Arr wr (g + 1 + 1) 0 .u32 (List.replicate 8 0) ∧ Arr wr gk 0 .u32 K ∧ Arr wr gw 0 .u32 ws ∧ Arr wr gv 0 .u32 (steps ws s k).list
def RMix1 (w : World) (g gk gw gv : Nat) (s : St) (ws : List Int) (i : Value) (wr : World) : Prop := ∃ k : Nat, k ≤ 64 ∧ i = .int .i64 k ∧ RMix w g gk gw gv s ws k wr
theorem RMix.next {w wr : World} {g gk gw gv k : Nat} {s : St} {ws : List Int} (h : RMix w g gk gw gv s ws k wr) (hw : w.heap.size ≤ gv) (hne : g ≠ gv ∧ g + 1 + 1 ≠ gv ∧ gk ≠ gv ∧ gw ≠ gv) (hk : k < 64) (n n' : Nat) (L : List Int)
    (he : (rnd (K.getD k 0) (ws.getD k 0) (steps ws s k)).list = L) : RMix1 w g gk gw gv s ws (.int .i64 ((k + 1 : Nat) : Int)) (((wr.drewN n).drewN n').setCells gv 0 (vals .u32 L)) := by
  subst he
  have hb : Below wr.heap.size wr ((wr.drewN n).drewN n') := ⟨rfl, rfl, rfl, Nat.le_refl _, fun _ _ => rfl⟩
  obtain ⟨h1, h2, h3, h4, h5, h6⟩ := h
  refine ⟨k + 1, by omega, rfl, below_sets hw _ _ _ (below_on' h1 hb (Nat.le_refl _)), (h2.on hb).apart _ _ _ (Or.inl hne.1), (h3.on hb).apart _ _ _ (Or.inl hne.2.1), (h4.on hb).apart _ _ _ (Or.inl hne.2.2.1), (h5.on hb).apart _ _ _ (Or.inl hne.2.2.2), ?_⟩
  exact Arr.put (h6.on hb).2

set_option maxRecDepth 100000 in
set_option maxHeartbeats 4000000 in
theorem rblock_st (s : St) (bs : List Int) (w : World) (hb : bs.length = 64) :
    Calls Tryd.prog 32 #[.agg (vals .u32 s.list).toArray, .agg (vals .u8 bs).toArray] w fun e w' => e = .returned (.agg (vals .u32 (List.zipWith addI s.list (steps (sched bs) s 64).list)).toArray) ∧ Below w.heap.size w w' := by
  have HL := hide hb
  have T := hide (fun x m w h2 h3 => rturn_int x m w h2 h3)
  clear hb
  go_enter Tryd.func32, Tryd.ntmps32
  go_upto_region 1 with fail
  obtain ⟨W, hW⟩ : ∃ W, W = (((w.alloc (.cells (vals .u32 s.list).toArray 72)).alloc (.cells (vals .u8 bs).toArray 74)).alloc (.cells #[.int .u32 0, .int .u32 0, .int .u32 0, .int .u32 0, .int .u32 0, .int .u32 0, .int .u32 0, .int .u32 0] 72)) := ⟨_, rfl⟩
  rw [← hW]
  have hst := Blocking.start w s bs #[.int .u32 0, .int .u32 0, .int .u32 0, .int .u32 0, .int .u32 0, .int .u32 0, .int .u32 0, .int .u32 0] rfl 72 74 72
  rw [← hW] at hst
  have HZ : Hid (W.heap.size = w.heap.size + 1 + 1 + 1) := hide (by rw [hW, alloc_size, alloc_size, alloc_size])
  clear hW
  have HST := hide hst
  clear hst
  generalize hg : w.heap.size = g at *
  have HGW := hide hg
  clear hg
  go_wp2_with fail
  refine (rconstants_any W).mono ?_
  rintro e w1 ⟨rfl, hbel1⟩
  have HB1 := hide hbel1
  have HT1 := hide (table_there w1)
  have KP := hide (table_kept w1)
  clear hbel1
  go_upto_region 2 with (refine wp_store_arr rfl 91 (.tmp 5) (.tmp 18) rfl _ 0 .u32 K rfl rfl 64 HT1.out info_w rfl ?_)
  generalize (w1.alloc (.cells #[.int .u32 0, .int .u32 0, .int .u32 0, .int .u32 0, .int .u32 0, .int .u32 0, .int .u32 0, .int .u32 0, .int .u32 0, .int .u32 0, .int .u32 0, .int .u32 0, .int .u32 0, .int .u32 0, .int .u32 0, .int .u32 0, .int .u32 0, .int .u32 0, .int .u32 0, .int .u32 0, .int .u32 0, .int .u32 0, .int .u32 0, .int .u32 0, .int .u32 0, .int .u32 0, .int .u32 0, .int .u32 0, .int .u32 0, .int .u32 0, .int .u32 0, .int .u32 0, .int .u32 0, .int .u32 0, .int .u32 0, .int .u32 0, .int .u32 0, .int .u32 0, .int .u32 0, .int .u32 0, .int .u32 0, .int .u32 0, .int .u32 0, .int .u32 0, .int .u32 0, .int .u32 0, .int .u32 0, .int .u32 0, .int .u32 0, .int .u32 0, .int .u32 0, .int .u32 0, .int .u32 0, .int .u32 0, .int .u32 0, .int .u32 0, .int .u32 0, .int .u32 0, .int .u32 0, .int .u32 0, .int .u32 0, .int .u32 0, .int .u32 0, .int .u32 0] 91)).setCells w1.heap.size 0 (vals .u32 K) = W2 at *
  have HS : Hid (RSt w g w1.heap.size W2.heap.size s bs 0 (W2.alloc (.cells #[.int .u32 0, .int .u32 0, .int .u32 0, .int .u32 0, .int .u32 0, .int .u32 0, .int .u32 0, .int .u32 0, .int .u32 0, .int .u32 0, .int .u32 0, .int .u32 0, .int .u32 0, .int .u32 0, .int .u32 0, .int .u32 0, .int .u32 0, .int .u32 0, .int .u32 0, .int .u32 0, .int .u32 0, .int .u32 0, .int .u32 0, .int .u32 0, .int .u32 0, .int .u32 0, .int .u32 0, .int .u32 0, .int .u32 0, .int .u32 0, .int .u32 0, .int .u32 0, .int .u32 0, .int .u32 0, .int .u32 0, .int .u32 0, .int .u32 0, .int .u32 0, .int .u32 0, .int .u32 0, .int .u32 0, .int .u32 0, .int .u32 0, .int .u32 0, .int .u32 0, .int .u32 0, .int .u32 0, .int .u32 0, .int .u32 0, .int .u32 0, .int .u32 0, .int .u32 0, .int .u32 0, .int .u32 0, .int .u32 0, .int .u32 0, .int .u32 0, .int .u32 0, .int .u32 0, .int .u32 0, .int .u32 0, .int .u32 0, .int .u32 0, .int .u32 0] 91))) := by
    have h12 := below_on' (Below.refl W.heap.size W) HB1.out (Nat.le_refl _)
    have h2 := below_on' h12 KP.out.1 (Nat.le_refl _)
    have h3 := h2.alloc h2.size (.cells #[.int .u32 0, .int .u32 0, .int .u32 0, .int .u32 0, .int .u32 0, .int .u32 0, .int .u32 0, .int .u32 0, .int .u32 0, .int .u32 0, .int .u32 0, .int .u32 0, .int .u32 0, .int .u32 0, .int .u32 0, .int .u32 0, .int .u32 0, .int .u32 0, .int .u32 0, .int .u32 0, .int .u32 0, .int .u32 0, .int .u32 0, .int .u32 0, .int .u32 0, .int .u32 0, .int .u32 0, .int .u32 0, .int .u32 0, .int .u32 0, .int .u32 0, .int .u32 0, .int .u32 0, .int .u32 0, .int .u32 0, .int .u32 0, .int .u32 0, .int .u32 0, .int .u32 0, .int .u32 0, .int .u32 0, .int .u32 0, .int .u32 0, .int .u32 0, .int .u32 0, .int .u32 0, .int .u32 0, .int .u32 0, .int .u32 0, .int .u32 0, .int .u32 0, .int .u32 0, .int .u32 0, .int .u32 0, .int .u32 0, .int .u32 0, .int .u32 0, .int .u32 0, .int .u32 0, .int .u32 0, .int .u32 0, .int .u32 0, .int .u32 0, .int .u32 0] 91)
    have hw : w.heap.size = g := HGW.out
    refine hide ⟨by rw [hw]; exact below_on' HST.out.1 h3 (by omega), HST.out.2.1.on h3, HST.out.2.2.1.on h3, HST.out.2.2.2.on h3, KP.out.2.1.alloc _, ?_⟩
    have := table_new W2
    exact this
  have HNE : Hid (g ≠ W2.heap.size ∧ g + 1 ≠ W2.heap.size ∧ g + 1 + 1 ≠ W2.heap.size ∧ w1.heap.size ≠ W2.heap.size ∧ g ≤ W2.heap.size) := hide (by
    have := HZ.out
    have := HB1.out.size
    have := KP.out.2.2
    omega)
  have HGK : Hid (w1.heap.size < W2.heap.size) := hide (by have := KP.out.2.2; omega)
  clear HST HB1 HT1 KP HZ
  generalize w1.heap.size = gk at *
  go_wp2
  generalize hgw : W2.heap.size = gw at *
  clear hgw
  go_loopw [19] (fun i wr => RSt1 w g gk gw s bs i wr) (fun i _ => 16 - (intOf i).toNat)
  case atStart => exact ⟨0, by omega, rfl, HS.out⟩
  case round =>
    clear HS
    obtain ⟨k, hk, rfl, hS⟩ := hrel
    by_cases hlt : k < 16
    · have R := hide (fun z hz => RSt.next hS (by rw [HGW.out]; exact HNE.out.2.2.2.2) ⟨HNE.out.1, HNE.out.2.1, HNE.out.2.2.1, HNE.out.2.2.2.1⟩ (by omega) z hz)
      obtain ⟨-, -, hB, -, -, hW⟩ := hS
      have c0 := hB.cell0 (4 * k) (by have := HL.out; omega)
      have c1 := hB.cell0 (4 * k + 1) (by have := HL.out; omega)
      have c2 := hB.cell0 (4 * k + 2) (by have := HL.out; omega)
      have c3 := hB.cell0 (4 * k + 3) (by have := HL.out; omega)
      have hkl : k < (padded (back bs k)).length := by rw [padded_length (by rw [back_length]; omega)]; omega
      have c4 := hW.cell0 k hkl
      have c5 := hW.free0 k hkl
      have HN : Hid (back bs (k + 1) = wordI (bs.getD (4 * k) 0) (bs.getD (4 * k + 1) 0) (bs.getD (4 * k + 2) 0) (bs.getD (4 * k + 3) 0) :: back bs k) := by
        refine hide ?_
        simp only [back, if_pos hlt]
      clear hB hW hkl
      generalize bs.getD (4 * k) 0 = x0 at *
      generalize bs.getD (4 * k + 1) 0 = x1 at *
      generalize bs.getD (4 * k + 2) 0 = x2 at *
      generalize bs.getD (4 * k + 3) 0 = x3 at *
      generalize (padded (back bs k)).getD k 0 = x4 at *
      obtain ⟨q0, hq0⟩ : ∃ q, q = 4 * k := ⟨_, rfl⟩
      obtain ⟨q1, hq1⟩ : ∃ q, q = 4 * k + 1 := ⟨_, rfl⟩
      obtain ⟨q2, hq2⟩ : ∃ q, q = 4 * k + 2 := ⟨_, rfl⟩
      obtain ⟨q3, hq3⟩ : ∃ q, q = 4 * k + 3 := ⟨_, rfl⟩
      rw [← hq0] at c0
      rw [← hq1] at c1
      rw [← hq2] at c2
      rw [← hq3] at c3
      have e0 : IntKind.i64.wrap (4 * (k : Int)) = (q0 : Int) := wrap_small (by omega) (by omega)
      have e1 : IntKind.i64.wrap ((q0 : Int) + 1) = (q1 : Int) := wrap_small (by omega) (by omega)
      have e2 : IntKind.i64.wrap ((q0 : Int) + 2) = (q2 : Int) := wrap_small (by omega) (by omega)
      have e3 : IntKind.i64.wrap ((q0 : Int) + 3) = (q3 : Int) := wrap_small (by omega) (by omega)
      have b0 : (q0 : Int) < 64 := by omega
      have b1 : (q1 : Int) < 64 := by omega
      have b2 : (q2 : Int) < 64 := by omega
      have b3 : (q3 : Int) < 64 := by omega
      have b4 : (k : Int) < 64 := by omega
      have HG : Hid (gw ≠ g + 1) := hide (Ne.symm HNE.out.2.1)
      clear hq0 hq1 hq2 hq3
      generalize hg1 : g + 1 = g1 at *
      go_wp2
      go_region_held3 (fun wx => wx.cell? ⟨g1, q0, none⟩ = some (.int .u8 x0) ∧ wx.cell? ⟨g1, q1, none⟩ = some (.int .u8 x1) ∧ wx.cell? ⟨g1, q2, none⟩ = some (.int .u8 x2) ∧ wx.cell? ⟨g1, q3, none⟩ = some (.int .u8 x3)) (first | exact ⟨cell_keep c0 HG.out, cell_keep c1 HG.out, cell_keep c2 HG.out, cell_keep c3 HG.out⟩ | (go_keep; done)) (fail)
      have RR : Hid (RSt1 w g gk gw s bs (.int .i64 ((k + 1 : Nat) : Int)) (wr.setCell ⟨gw, k, none⟩ (.int .u32 (wordI x0 x1 x2 x3))).drew) := hide ⟨k + 1, by omega, rfl, R.out _ HN.out⟩
      go_wp2
      go_roundw
      case rel => first | exact RR.out | ((repeat apply Exists.intro); exact ⟨RR.out, rfl⟩)
      case measure => simp [intOf]; omega
    · obtain rfl : k = 16 := by omega
      have HS := hide hS
      clear hS hlt hk
      go_wp2
      go_loopw [8] (fun i wr => RSt2 w g gk gw s bs i wr) (fun i _ => 64 - (intOf i).toNat)
      case atStart => exact ⟨16, by omega, by omega, rfl, HS.out⟩
      case round =>
        clear HS
        obtain ⟨k, hk0, hk, rfl, hS⟩ := hrel
        by_cases hlt : k < 64
        · have R := hide (fun (wx : World) (hx : RSt w g gk gw s bs k wx) (z : Int) (hz : back bs (k + 1) = z :: back bs k) => RSt.next hx (by rw [HGW.out]; exact HNE.out.2.2.2.2) ⟨HNE.out.1, HNE.out.2.1, HNE.out.2.2.1, HNE.out.2.2.2.1⟩ hlt z hz)
          have HS := hide hS
          obtain ⟨-, -, -, -, -, hW⟩ := hS
          have hl : (padded (back bs k)).length = 64 := by rw [padded_length (by rw [back_length]; omega)]
          obtain ⟨q2, hq2⟩ : ∃ q, q = k - 2 := ⟨_, rfl⟩
          obtain ⟨q7, hq7⟩ : ∃ q, q = k - 7 := ⟨_, rfl⟩
          obtain ⟨q15, hq15⟩ : ∃ q, q = k - 15 := ⟨_, rfl⟩
          obtain ⟨q16, hq16⟩ : ∃ q, q = k - 16 := ⟨_, rfl⟩
          have c2 := hW.cell0 q2 (by omega)
          have c7 := hW.cell0 q7 (by omega)
          have c15 := hW.cell0 q15 (by omega)
          have c16 := hW.cell0 q16 (by omega)
          have c4 := hW.cell0 k (by omega)
          have c5 := hW.free0 k (by omega)
          have hbl := back_length bs k
          have p2 := padded_get (l := back bs k) 1 (by omega)
          have p7 := padded_get (l := back bs k) 6 (by omega)
          have p15 := padded_get (l := back bs k) 14 (by omega)
          have p16 := padded_get (l := back bs k) 15 (by omega)
          rw [hbl, show k - 1 - 1 = q2 by omega] at p2
          rw [hbl, show k - 1 - 6 = q7 by omega] at p7
          rw [hbl, show k - 1 - 14 = q15 by omega] at p15
          rw [hbl, show k - 1 - 15 = q16 by omega] at p16
          have HN : Hid (back bs (k + 1) = nextI (back bs k) :: back bs k) := by
            refine hide ?_
            simp only [back, if_neg (show ¬ k < 16 by omega)]
          rw [show nextI (back bs k) = addI (addI (addI (low1 ((back bs k).getD 1 0)) ((back bs k).getD 6 0)) (low0 ((back bs k).getD 14 0))) ((back bs k).getD 15 0) from rfl, ← p2, ← p7, ← p15, ← p16] at HN
          clear hW hl hbl p2 p7 p15 p16
          generalize (padded (back bs k)).getD q2 0 = x2 at *
          generalize (padded (back bs k)).getD q7 0 = x7 at *
          generalize (padded (back bs k)).getD q15 0 = x15 at *
          generalize (padded (back bs k)).getD q16 0 = x16 at *
          generalize (padded (back bs k)).getD k 0 = x4 at *
          have e2 : IntKind.i64.wrap ((k : Int) - 2) = (q2 : Int) := wrap_small (by omega) (by omega)
          have e7 : IntKind.i64.wrap ((k : Int) - 7) = (q7 : Int) := wrap_small (by omega) (by omega)
          have e15 : IntKind.i64.wrap ((k : Int) - 15) = (q15 : Int) := wrap_small (by omega) (by omega)
          have e16 : IntKind.i64.wrap ((k : Int) - 16) = (q16 : Int) := wrap_small (by omega) (by omega)
          have d2 : (k : Int) - 2 = (q2 : Int) := by omega
          have d15 : (k : Int) - 15 = (q15 : Int) := by omega
          have b2 : (q2 : Int) < 64 := by omega
          have b7 : (q7 : Int) < 64 := by omega
          have b15 : (q15 : Int) < 64 := by omega
          have b16 : (q16 : Int) < 64 := by omega
          have b4 : (k : Int) < 64 := by omega
          have n2 : Hid (k ≠ q2 ∧ k ≠ q7 ∧ k ≠ q15 ∧ k ≠ q16) := hide (by omega)
          clear hq2 hq7 hq15 hq16
          go_wp2
          go_quiet ((go_at_call 47; exact Calls.quiet_of_same (T.out _ _ _ (by decide) (by decide))))
          have HQ1 : Hid (RSt w g gk gw s bs k (wr.drewN nq)) := hide (HS.out.on ⟨rfl, rfl, rfl, Nat.le_refl _, fun _ _ => rfl⟩)
          have r7 : (wr.drewN nq).cell? ⟨gw, q7, none⟩ = some (.int .u32 x7) := c7
          have r15 : (wr.drewN nq).cell? ⟨gw, q15, none⟩ = some (.int .u32 x15) := c15
          have r16 : (wr.drewN nq).cell? ⟨gw, q16, none⟩ = some (.int .u32 x16) := c16
          have r4 : (wr.drewN nq).cell? ⟨gw, k, none⟩ = some (.int .u32 x4) := c4
          have r5 : (wr.drewN nq).frozen? ⟨gw, k, none⟩ = false := c5
          clear c2 c7 c15 c16 c4 c5 HS d2 e2
          generalize wr.drewN nq = wq at *
          go_wp2_with fail
          go_quiet ((go_at_call 47; exact Calls.quiet_of_same (T.out _ _ _ (by decide) (by decide))))
          have HQ2 : Hid (RSt w g gk gw s bs k (wq.drewN nq)) := hide (HQ1.out.on ⟨rfl, rfl, rfl, Nat.le_refl _, fun _ _ => rfl⟩)
          have s7 : (wq.drewN nq).cell? ⟨gw, q7, none⟩ = some (.int .u32 x7) := r7
          have s16 : (wq.drewN nq).cell? ⟨gw, q16, none⟩ = some (.int .u32 x16) := r16
          have s4 : (wq.drewN nq).cell? ⟨gw, k, none⟩ = some (.int .u32 x4) := r4
          have s5 : (wq.drewN nq).frozen? ⟨gw, k, none⟩ = false := r5
          clear r7 r15 r16 r4 r5 HQ1 d15 e15
          generalize wq.drewN nq = wz at *
          go_wp2_with fail
          go_region_held3 (fun wx => wx.cell? ⟨gw, q7, none⟩ = some (.int .u32 x7) ∧ wx.cell? ⟨gw, q16, none⟩ = some (.int .u32 x16)) (first | exact ⟨cell_keep2 s7 n2.out.2.1, cell_keep2 s16 n2.out.2.2.2⟩ | (go_keep; done)) (fail)
          have RR : Hid (RSt2 w g gk gw s bs (.int .i64 ((k + 1 : Nat) : Int)) (wz.setCell ⟨gw, k, none⟩ (.int .u32 (addI (addI (addI (low1 x2) x7) (low0 x15)) x16))).drew) := hide ⟨k + 1, by omega, by omega, rfl, R.out _ HQ2.out _ HN.out⟩
          go_wp2
          go_roundw
          case rel => first | exact RR.out | ((repeat apply Exists.intro); exact ⟨RR.out, rfl⟩)
          case measure => simp [intOf]; omega
        · obtain rfl : k = 64 := by omega
          obtain ⟨hB, hA, -, hR, hKK, hW⟩ := hS
          rw [padded_full (back_length bs 64)] at hW
          have HB := hide hB
          have HA := hide hA
          have HR := hide hR
          have HKK := hide hKK
          have HW : Hid (Arr wr gw 0 .u32 (sched bs)) := hide hW
          have HWL : Hid ((sched bs).length = 64) := hide (by simp [sched, back_length])
          clear hB hA hR hKK hW hlt hk hk0
          generalize hws : sched bs = ws at *
          have HWS := hide hws
          clear hws
          have HT3 : Hid ((wr.alloc (.cells #[.int .u32 0, .int .u32 0, .int .u32 0, .int .u32 0, .int .u32 0, .int .u32 0, .int .u32 0, .int .u32 0] 72)).there wr.heap.size 0 8) := hide (by have := (Arr.newOf wr .u32 (List.replicate 8 0) 72 #[.int .u32 0, .int .u32 0, .int .u32 0, .int .u32 0, .int .u32 0, .int .u32 0, .int .u32 0, .int .u32 0] rfl).2; rwa [List.length_replicate] at this)
          go_upto_region 15 with (first | (refine wp_load_arr rfl 72 (.tmp 2) rfl _ 0 rfl .u32 s.list HA.out _ Tryd.underlying72 rfl 8 info_s rfl ?_) | (refine wp_store_arr rfl 72 (.tmp 11) (.tmp 107) rfl _ 0 .u32 s.list rfl rfl 8 HT3.out info_s rfl ?_))
          have HS : Hid (RMix w g gk gw wr.heap.size s ws 0 ((wr.alloc (.cells #[.int .u32 0, .int .u32 0, .int .u32 0, .int .u32 0, .int .u32 0, .int .u32 0, .int .u32 0, .int .u32 0] 72)).setCells wr.heap.size 0 (vals .u32 s.list))) := by
            have h1 := (Below.refl wr.heap.size wr).alloc (Nat.le_refl _) (.cells #[.int .u32 0, .int .u32 0, .int .u32 0, .int .u32 0, .int .u32 0, .int .u32 0, .int .u32 0, .int .u32 0] 72)
            have h2 := below_sets (Nat.le_refl _) (vals .u32 s.list) 0 _ h1
            exact hide ⟨below_on' HB.out h2 (Nat.le_refl _), HA.out.on h2, HR.out.on h2, HKK.out.on h2, HW.out.on h2, Arr.put HT3.out⟩
          have HNV : Hid (g ≠ wr.heap.size ∧ g + 1 + 1 ≠ wr.heap.size ∧ gk ≠ wr.heap.size ∧ gw ≠ wr.heap.size ∧ g ≤ wr.heap.size) := hide (by
            have h1 := HA.out.lt (by simp [St.list])
            have h2 := HR.out.lt (by simp)
            have h3 := HKK.out.lt (by simp [K])
            have h4 := HW.out.lt (by rw [HWL.out]; omega)
            omega)
          clear HB HA HR HKK HW HT3
          generalize (wr.alloc (.cells #[.int .u32 0, .int .u32 0, .int .u32 0, .int .u32 0, .int .u32 0, .int .u32 0, .int .u32 0, .int .u32 0] 72)).setCells wr.heap.size 0 (vals .u32 s.list) = W3 at *
          generalize wr.heap.size = gv at *
          go_wp2
          go_loopw [108] (fun i wr => RMix1 w g gk gw gv s ws i wr) (fun i _ => 64 - (intOf i).toNat)
          case atStart => exact ⟨0, by omega, rfl, HS.out⟩
          case round =>
            clear HS
            obtain ⟨k, hk, rfl, hS⟩ := hrel
            by_cases hlt : k < 64
            · have R : Hid (∀ (n n' : Nat) (L : List Int), (rnd (K.getD k 0) (ws.getD k 0) ⟨(steps ws s k).a, (steps ws s k).b, (steps ws s k).c, (steps ws s k).d, (steps ws s k).e, (steps ws s k).f, (steps ws s k).g, (steps ws s k).h⟩).list = L → RMix1 w g gk gw gv s ws (.int .i64 ((k + 1 : Nat) : Int)) (((wr.drewN n).drewN n').setCells gv 0 (vals .u32 L))) := hide (fun n n' L he => RMix.next hS (by rw [HGW.out]; exact HNV.out.2.2.2.2) ⟨HNV.out.1, HNV.out.2.1, HNV.out.2.2.1, HNV.out.2.2.2.1⟩ hlt n n' L he)
              have HTV : Hid (wr.there gv 0 8) := hide (by have := hS.2.2.2.2.2.2; rwa [show (steps ws s k).list.length = 8 from rfl] at this)
              obtain ⟨-, -, -, hKc, hWc, hV⟩ := hS
              have c0 : wr.cell? ⟨gv, 0, none⟩ = some (.int .u32 (steps ws s k).a) := hV.cell0 0 (by simp [St.list])
              have c1 : wr.cell? ⟨gv, 1, none⟩ = some (.int .u32 (steps ws s k).b) := hV.cell0 1 (by simp [St.list])
              have c2 : wr.cell? ⟨gv, 2, none⟩ = some (.int .u32 (steps ws s k).c) := hV.cell0 2 (by simp [St.list])
              have c3 : wr.cell? ⟨gv, 3, none⟩ = some (.int .u32 (steps ws s k).d) := hV.cell0 3 (by simp [St.list])
              have c4 : wr.cell? ⟨gv, 4, none⟩ = some (.int .u32 (steps ws s k).e) := hV.cell0 4 (by simp [St.list])
              have c5 : wr.cell? ⟨gv, 5, none⟩ = some (.int .u32 (steps ws s k).f) := hV.cell0 5 (by simp [St.list])
              have c6 : wr.cell? ⟨gv, 6, none⟩ = some (.int .u32 (steps ws s k).g) := hV.cell0 6 (by simp [St.list])
              have c7 : wr.cell? ⟨gv, 7, none⟩ = some (.int .u32 (steps ws s k).h) := hV.cell0 7 (by simp [St.list])
              have ck := hKc.cell0 k (by simp [K]; omega)
              have cw := hWc.cell0 k (by rw [HWL.out]; omega)
              have bk : (k : Int) < 64 := by omega
              clear hKc hWc hV
              generalize ws.getD k 0 = x at *
              generalize K.getD k 0 = y at *
              generalize (steps ws s k).a = A at *
              generalize (steps ws s k).b = B at *
              generalize (steps ws s k).c = C at *
              generalize (steps ws s k).d = D at *
              generalize (steps ws s k).e = E at *
              generalize (steps ws s k).f = F at *
              generalize (steps ws s k).g = G at *
              generalize (steps ws s k).h = H at *
              go_wp2
              go_cut [14] (fun s14 wx => s14 = .int .u32 (pI y x ⟨A, B, C, D, E, F, G, H⟩) ∧ ∃ n, wx = wr.drewN n)
              case first =>
                go_quiet ((go_at_call 47; exact Calls.quiet_of_same (T.out _ _ _ (by decide) (by decide))))
                go_wp2_with fail
                go_meet
                case rel => exact ⟨by simp [pI, addI, xorI, andI, notI]; rfl, _, rfl⟩
              case rest =>
                obtain ⟨rfl, n, hwc⟩ := hcut
                obtain ⟨wd, hwd⟩ : ∃ wd, wd = wc := ⟨_, rfl⟩
                subst hwd
                have HWC := hide hwc
                have d0 : wd.cell? ⟨gv, 0, none⟩ = some (.int .u32 A) := by rw [hwc]; exact c0
                have d1 : wd.cell? ⟨gv, 1, none⟩ = some (.int .u32 B) := by rw [hwc]; exact c1
                have d2 : wd.cell? ⟨gv, 2, none⟩ = some (.int .u32 C) := by rw [hwc]; exact c2
                have d3 : wd.cell? ⟨gv, 3, none⟩ = some (.int .u32 D) := by rw [hwc]; exact c3
                have d4 : wd.cell? ⟨gv, 4, none⟩ = some (.int .u32 E) := by rw [hwc]; exact c4
                have d5 : wd.cell? ⟨gv, 5, none⟩ = some (.int .u32 F) := by rw [hwc]; exact c5
                have d6 : wd.cell? ⟨gv, 6, none⟩ = some (.int .u32 G) := by rw [hwc]; exact c6
                have d7 : wd.cell? ⟨gv, 7, none⟩ = some (.int .u32 H) := by rw [hwc]; exact c7
                have HTC : Hid (wd.there gv 0 8) := hide (by rw [hwc]; exact HTV.out)
                clear hwc HTV c0 c1 c2 c3 c4 c5 c6 c7 ck cw
                go_wp2
                go_cut [16] (fun s16 wx => s16 = .int .u32 (qI ⟨A, B, C, D, E, F, G, H⟩) ∧ ∃ n, wx = wd.drewN n)
                case first =>
                  go_quiet ((go_at_call 47; exact Calls.quiet_of_same (T.out _ _ _ (by decide) (by decide))))
                  go_wp2_with fail
                  go_meet
                  case rel => exact ⟨by simp [qI, addI, xorI, andI], _, rfl⟩
                case rest =>
                  obtain ⟨rfl, n', hwc'⟩ := hcut
                  have HWC' := hide hwc'
                  have f0 : wc.cell? ⟨gv, 0, none⟩ = some (.int .u32 A) := by rw [hwc']; exact d0
                  have f1 : wc.cell? ⟨gv, 1, none⟩ = some (.int .u32 B) := by rw [hwc']; exact d1
                  have f2 : wc.cell? ⟨gv, 2, none⟩ = some (.int .u32 C) := by rw [hwc']; exact d2
                  have f3 : wc.cell? ⟨gv, 3, none⟩ = some (.int .u32 D) := by rw [hwc']; exact d3
                  have f4 : wc.cell? ⟨gv, 4, none⟩ = some (.int .u32 E) := by rw [hwc']; exact d4
                  have f5 : wc.cell? ⟨gv, 5, none⟩ = some (.int .u32 F) := by rw [hwc']; exact d5
                  have f6 : wc.cell? ⟨gv, 6, none⟩ = some (.int .u32 G) := by rw [hwc']; exact d6
                  have f7 : wc.cell? ⟨gv, 7, none⟩ = some (.int .u32 H) := by rw [hwc']; exact d7
                  have HTF : Hid (wc.there gv 0 8) := hide (by rw [hwc']; exact HTC.out)
                  clear hwc' HTC d0 d1 d2 d3 d4 d5 d6 d7
                  have HE : Hid ((rnd y x ⟨A, B, C, D, E, F, G, H⟩).list = [addI (pI y x ⟨A, B, C, D, E, F, G, H⟩) (qI ⟨A, B, C, D, E, F, G, H⟩), A, B, C, addI D (pI y x ⟨A, B, C, D, E, F, G, H⟩), E, F, G]) := hide rfl
                  generalize pI y x ⟨A, B, C, D, E, F, G, H⟩ = PP at *
                  generalize qI ⟨A, B, C, D, E, F, G, H⟩ = QQ at *
                  have hPQ : (PP + QQ) % 4294967296 = addI PP QQ := rfl
                  have hDP : (D + PP) % 4294967296 = addI D PP := rfl
                  generalize addI PP QQ = PQ at *
                  generalize addI D PP = DP at *
                  have RR := hide (R.out n n' _ HE.out)
                  rw [← HWC.out, ← HWC'.out] at RR
                  have k0 : wc.frozen? ⟨gv, 0, none⟩ = false := by have := (HTF.out 0 (by omega)).2; rwa [Nat.zero_add] at this
                  have k1 : wc.frozen? ⟨gv, 1, none⟩ = false := by have := (HTF.out 1 (by omega)).2; rwa [Nat.zero_add] at this
                  have k2 : wc.frozen? ⟨gv, 2, none⟩ = false := by have := (HTF.out 2 (by omega)).2; rwa [Nat.zero_add] at this
                  have k3 : wc.frozen? ⟨gv, 3, none⟩ = false := by have := (HTF.out 3 (by omega)).2; rwa [Nat.zero_add] at this
                  have k4 : wc.frozen? ⟨gv, 4, none⟩ = false := by have := (HTF.out 4 (by omega)).2; rwa [Nat.zero_add] at this
                  have k5 : wc.frozen? ⟨gv, 5, none⟩ = false := by have := (HTF.out 5 (by omega)).2; rwa [Nat.zero_add] at this
                  have k6 : wc.frozen? ⟨gv, 6, none⟩ = false := by have := (HTF.out 6 (by omega)).2; rwa [Nat.zero_add] at this
                  have k7 : wc.frozen? ⟨gv, 7, none⟩ = false := by have := (HTF.out 7 (by omega)).2; rwa [Nat.zero_add] at this
                  simp only [World.setCells, vals, List.map_cons, List.map_nil] at RR
                  go_wp2
                  go_roundw
                  case rel => first | exact RR.out | ((repeat apply Exists.intro); exact ⟨RR.out, rfl⟩)
                  case measure => simp [intOf]; omega
            · obtain rfl : k = 64 := by omega
              obtain ⟨hB, hA, hR, -, -, hV⟩ := hS
              have HS4 : Hid (RAdd w g gv s.list (steps ws s 64).list (.int .i64 0) wr) := hide ⟨0, by omega, rfl, hB, by rw [part_zero]; exact hA, hR, hV⟩
              clear hB hA hR hV hlt hk
              generalize hM4 : steps ws s 64 = M at *
              have HM4 := hide hM4
              clear hM4
              go_wp2
              go_loopw [190] (fun i wr => RAdd w g gv s.list M.list i wr) (fun i _ => 8 - (intOf i).toNat)
              case atStart => exact HS4.out
              case round =>
                clear HS4
                obtain ⟨k, hk, rfl, hB, hA, hR, hV⟩ := hrel
                by_cases hlt : k < 8
                · have hpl : (part s.list M.list k).length = 8 := part_length s.list M.list rfl k (show k ≤ 8 by omega)
                  have c0 := hA.cell0 k (by omega)
                  have c1 := hA.free0 k (by omega)
                  have c2 := hV.cell0 k hlt
                  rw [part_get s.list M.list rfl k (show k < 8 from hlt)] at c0
                  have RR : Hid (RAdd w g gv s.list M.list (.int .i64 ((k + 1 : Nat) : Int)) (wr.setCell ⟨g, k, none⟩ (.int .u32 (addI (s.list.getD k 0) (M.list.getD k 0)))).drew) := by
                    refine hide ⟨k + 1, by omega, rfl, (hB.setCell (by rw [HGW.out]; exact Nat.le_refl _) _).drew, ?_, (hR.beside _ _ (Or.inl (by simp; omega))).drew, (hV.beside _ _ (Or.inl HNV.out.1)).drew⟩
                    rw [← part_set s.list M.list rfl k (show k < 8 from hlt)]
                    exact (hA.set0 k (by omega) _).drew
                  have hgv : Hid (g ≠ gv) := hide HNV.out.1
                  have bk : (k : Int) < 8 := by omega
                  clear hB hA hR hV hpl
                  generalize s.list.getD k 0 = x at *
                  generalize M.list.getD k 0 = y at *
                  go_wp2
                  go_region
                  go_wp2
                  go_roundw
                  case rel => first | exact RR.out | ((repeat apply Exists.intro); exact ⟨RR.out, rfl⟩)
                  case measure => simp [intOf]; omega
                · obtain rfl : k = 8 := by omega
                  rw [part_all s.list M.list rfl 8 rfl] at hA
                  have HA := hide hA
                  have HR : Hid (wr.there (g + 1 + 1) 0 8) := hide (by simpa using hR.2)
                  have HB := hide hB
                  clear hB hA hR hV hlt hk
                  generalize hL : List.zipWith addI s.list M.list = L at *
                  have HLN : Hid (L.length = 8) := hide (by rw [← hL]; rfl)
                  have HLL := hide hL
                  clear hL
                  go_wp2_with (first | (refine wp_load_arr rfl 72 (.tmp 2) rfl _ 0 rfl .u32 _ HA.out _ Tryd.underlying72 rfl 8 info_s HLN.out ?_) | (refine wp_store_arr rfl 72 (.tmp 4) (.tmp 202) rfl _ 0 .u32 L rfl rfl 8 HR.out info_s HLN.out ?_))
                  refine ret_arr 4 72 rfl _ 0 rfl .u32 L (Arr.put (by rw [HLN.out]; exact HR.out)) _ Tryd.underlying72 rfl 8 info_s HLN.out rfl ⟨?_, below_sets (by rw [HGW.out]; omega) _ _ _ HB.out⟩
                  rw [← HLL.out, ← HM4.out, HWS.out]

/-- pappusref03.Block. -/
theorem rblock_any (s bs : List Int) (w : World) (hs : s.length = 8) (hb : bs.length = 64) :
    Calls Tryd.prog 32 #[.agg (vals .u32 s).toArray, .agg (vals .u8 bs).toArray] w fun e w' => e = .returned (.agg (vals .u32 (blockI s bs)).toArray) ∧ Below w.heap.size w w' := by
  have := rblock_st (stOf s) bs w hb
  rw [St.of s hs] at this
  exact this

end Go.Proofs.YtbeegcpmpgdbnaaDoor

/-
  Bytes padded by appends; a block cut out of them; a sum's numbers read back: plain facts, and what the document's First answers at this program.
-/
namespace Go.Proofs.YtbeegcpmpgdbnaaDoor
open Go.RowKit

theorem wraps_u32 (n : Int) (h₀ : 0 ≤ n) (h₁ : n < 2 ^ 32) : IntKind.u32.wrap n = n := by
  simp [IntKind.wrap, IntKind.bits, IntKind.signed]
  omega
/-- Four bytes of a number make the number. -/
theorem word_out (x : Int) (h0 : 0 ≤ x) (h1 : x < 4294967296) : wordI (x / 16777216 % 256) (x / 65536 % 256) (x / 256 % 256) (x % 256) = x := by
  have e0 : IntKind.u32.wrap (IntKind.u32.wrap (x / 16777216 % 256) * 16777216) = x / 16777216 % 256 * 16777216 := by rw [wraps_u32 (x / 16777216 % 256) (by omega) (by omega), wraps_u32 (x / 16777216 % 256 * 16777216) (by omega) (by omega)]
  have e1 : IntKind.u32.wrap (IntKind.u32.wrap (x / 65536 % 256) * 65536) = x / 65536 % 256 * 65536 := by rw [wraps_u32 (x / 65536 % 256) (by omega) (by omega), wraps_u32 (x / 65536 % 256 * 65536) (by omega) (by omega)]
  have e2 : IntKind.u32.wrap (IntKind.u32.wrap (x / 256 % 256) * 256) = x / 256 % 256 * 256 := by rw [wraps_u32 (x / 256 % 256) (by omega) (by omega), wraps_u32 (x / 256 % 256 * 256) (by omega) (by omega)]
  have e3 : IntKind.u32.wrap (x % 256) = x % 256 := wraps_u32 _ (by omega) (by omega)
  unfold wordI
  rw [e0, e1, e2, e3,
    bits_join .u32 32 (by decide) wraps_u32 24 (x / 16777216 % 256 * 16777216) (x / 65536 % 256 * 65536) (by omega) (by omega) (by omega) (by omega) (by omega) (by omega),
    bits_join .u32 32 (by decide) wraps_u32 16 _ (x / 256 % 256 * 256) (by omega) (by omega) (by omega) (by omega) (by omega) (by omega),
    bits_join .u32 32 (by decide) wraps_u32 8 _ (x % 256) (by omega) (by omega) (by omega) (by omega) (by omega) (by omega)]
  omega
theorem out_get : ∀ (s : List Int) (k i : Nat), k < s.length → i < 4 → (s.flatMap outI).getD (4 * k + i) 0 = (outI (s.getD k 0)).getD i 0
  | [], k, i, h, _ => by simp at h
  | z :: s, 0, i, _, hi => by
    simp only [List.flatMap_cons, List.getD]
    rw [List.getElem?_append_left (by simp [outI]; omega)]
    simp
  | z :: s, k + 1, i, h, hi => by
    have ih := out_get s k i (by simpa using h) hi
    simp only [List.flatMap_cons, List.getD] at ih ⊢
    rw [List.getElem?_append_right (by simp [outI]; omega), show 4 * (k + 1) + i - (outI z).length = 4 * k + i by simp [outI]; omega]
    simpa using ih
theorem zip_range : ∀ (s m : List Int) (k : Nat), k < (List.zipWith addI s m).length → 0 ≤ (List.zipWith addI s m).getD k 0 ∧ (List.zipWith addI s m).getD k 0 < 4294967296
  | [], _, k, h => by simp at h
  | _ :: _, [], k, h => by simp at h
  | a :: s, b :: m, 0, _ => by simp [addI]; omega
  | a :: s, b :: m, k + 1, h => by
    have := zip_range s m k (by simpa using h)
    simpa using this
theorem blocks_range (s l : List Int) (n k : Nat) (hs : s.length = 8) (hk : k < 8) : 0 ≤ (blocksI s l (n + 1)).getD k 0 ∧ (blocksI s l (n + 1)).getD k 0 < 4294967296 :=
  zip_range _ _ k (by have := blockI_length (blocksI s l n) ((l.drop (64 * n)).take 64) (blocksI_length s l hs n); unfold blockI at this; omega)
/-- The padded bytes fill whole blocks. -/
theorem padded_whole (n : Nat) : ∃ q, n + (tailI n).length = 64 * (q + 1) := by
  have h1 : (tailI n).length = 1 + gap n + 8 := tailTo_length n (gap n) 8 (by omega)
  have h2 := gap_mod n
  refine ⟨(n + (1 + gap n) + 8) / 64 - 1, ?_⟩
  omega
theorem count_small (n : Nat) (h : n ≤ 4000) : countI (8 * n) = [0, 0, 0, 0, 0, 8 * (n : Int) / 65536, 8 * (n : Int) / 256, 8 * (n : Int) % 256] := by
  simp only [countI, List.cons.injEq, and_true]
  omega
theorem pad_not (n j : Nat) (h : j < gap n) : (n + (1 + j)) % 64 ≠ 56 := by have := gap_not n j h; omega
theorem pad_end (n : Nat) : (n + (1 + gap n)) % 64 = 56 := by have := gap_mod n; omega
theorem rfirst_any (w : World) : Calls Tryd.prog 31 #[] w fun e w' => e = .returned (.agg (vals .u32 firstI).toArray) ∧ Below w.heap.size w w' := by
  go_enter Tryd.func31, Tryd.ntmps31
  go_wp2
  refine ret_arr 0 72 rfl _ 0 rfl .u32 firstI (Arr.new w .u32 firstI 72) _ Tryd.underlying72 rfl 8 info_s rfl rfl ⟨rfl, (Below.refl _ _).alloc (Nat.le_refl _) _⟩
/-- A block cut out of bytes. -/
theorem mid_of (a : Option Addr) (n cap lo hi : Nat) (hhi : hi = lo + 64) (hlo : hi ≤ n) (hn : n ≤ cap) :
    ∃ a1 c1, (∀ w, (Instr.slice 37 (.slice a n cap) (some (.int .i64 (lo : Int))) (some (.int .i64 (hi : Int))) none).run Tryd.prog w = .ok (.slice a1 64 c1) w) ∧ ∀ (w0 : World) (r : List Int), Bytes w0 (.slice a n cap) r → Bytes w0 (.slice a1 64 c1) ((r.drop lo).take 64) := by
  refine ⟨if cap = lo then a else a.map (·.add lo), cap - lo, fun w => ?_, fun w0 r h => ?_⟩
  · rw [run_slice_lh w 37 _ n cap (by rw [Tryd.underlying37]; kernel_rfl) .i64 .i64 (lo : Int) (hi : Int) (by omega) (by omega) (by omega)]
    have e : (sizeOf (Tryd.prog.elem 37)).run Tryd.prog w = .ok 1 w := by kernel_rfl
    rw [e]
    simp [Result.andThen, sliced]
    omega
  · exact (h.drop lo (by omega)).take 64 (by omega)
theorem slice_all64 (b : Nat) (w : World) : (Instr.sliceAt 74 (.pointer (some ⟨b, 0, none⟩)) none none none).run Tryd.prog w = .ok (.slice (some ⟨b, 0, none⟩) 64 64) w := by
  have ht : Tryd.prog.underlying 74 = some (.array (Tryd.prog.arrayLen 74) (Tryd.prog.elem 74)) := by rw [Tryd.underlying74]; kernel_rfl
  have hl : Tryd.prog.arrayLen 74 = 64 := by kernel_rfl
  have e : (sizeOf (Tryd.prog.elem 74)).run Tryd.prog w = .ok 1 w := by kernel_rfl
  rw [run_sliceAt_array_all w 74 _ ht, e, hl]
  simp [Result.andThen, slicedAt, Addr.add_mid]

end Go.Proofs.YtbeegcpmpgdbnaaDoor

/-
  What pappusref03.Sum answers at this program: the plain sum.
-/
namespace Go.Proofs.YtbeegcpmpgdbnaaDoor
open Go.RowKit

/-- What holds at the head of a round of the first loop, of the second one, of the third one, of the fourth one. -/
def RDig1 (w : World) (base : Nat) (l : List Int) (v : Value) (wr : World) : Prop :=
  ∃ j : Nat, j ≤ gap l.length ∧ Own wr base v (l ++ tailTo l.length j 0) ∧ Below w.heap.size w wr ∧ base ≤ wr.heap.size ∧ Arr wr w.heap.size 0 .u8 (List.replicate 32 0)
def RDig2 (w : World) (base : Nat) (l : List Int) (v i : Value) (wr : World) : Prop :=
  ∃ k : Nat, k ≤ 8 ∧ i = .int .i64 (7 - (k : Int)) ∧ Own wr base v (l ++ tailTo l.length (gap l.length) k) ∧ Below w.heap.size w wr ∧ base ≤ wr.heap.size ∧ Arr wr w.heap.size 0 .u8 (List.replicate 32 0)
def RDig3 (W : World) (g q : Nat) (P : List Int) (i : Value) (wr : World) : Prop := ∃ k : Nat, k ≤ q ∧ i = .int .i64 ((64 * k : Nat) : Int) ∧ Below W.heap.size W wr ∧ Arr wr g 0 .u32 (blocksI firstI P k)
def RDig4 (W : World) (g : Nat) (Z : List Int) (i : Value) (wr : World) : Prop := ∃ k : Nat, k ≤ 8 ∧ i = .int .i64 k ∧ Below g W wr ∧ Arr wr g 0 .u8 (outs Z k)
theorem RDig4.next {W wr : World} {g : Nat} {Z : List Int} {k : Nat} (hs : Z.length = 8) (hk : k < 8) (hbel : Below g W wr) (hA : Arr wr g 0 .u8 (outs Z k)) :
    RDig4 W g Z (.int .i64 ((k + 1 : Nat) : Int)) ((((wr.setCell ⟨g, 4 * k, none⟩ (.int .u8 (Z.getD k 0 / 16777216 % 256))).setCell ⟨g, 4 * k + 1, none⟩ (.int .u8 (Z.getD k 0 / 65536 % 256))).setCell ⟨g, 4 * k + 2, none⟩ (.int .u8 (Z.getD k 0 / 256 % 256))).setCell ⟨g, 4 * k + 3, none⟩ (.int .u8 (Z.getD k 0 % 256))) := by
  have hl := outs_length Z hs k (by omega)
  refine ⟨k + 1, by omega, rfl, (((hbel.setCell (Nat.le_refl _) _).setCell (Nat.le_refl _) _).setCell (Nat.le_refl _) _).setCell (Nat.le_refl _) _, ?_⟩
  rw [← outs_set Z hs k hk]
  exact (((hA.set0 (4 * k) (by omega) _).set0 (4 * k + 1) (by simp; omega) _).set0 (4 * k + 2) (by simp; omega) _).set0 (4 * k + 3) (by simp; omega) _

set_option maxRecDepth 100000 in
set_option maxHeartbeats 4000000 in
theorem rsum_any (w : World) (v : Value) (l : List Int) (hv : Bytes w v l) (hn : l.length ≤ 5000) :
    Calls Tryd.prog 14 #[v] w fun e w' => e = .returned (.agg (vals .u8 (digest l)).toArray) ∧ Below w.heap.size w w' := by
  have HV := hide hv
  have HN := hide hn
  obtain ⟨a, cap, rfl, hc1, hc2⟩ := hv.form
  obtain ⟨B, hB⟩ : ∃ B : Nat, B = 8 * l.length := ⟨_, rfl⟩
  have hw1 : IntKind.u64.wrap (l.length : Int) = (l.length : Int) := by simp [IntKind.wrap, IntKind.bits, IntKind.signed]; omega
  have hw2 : (l.length : Int) * 8 = (B : Int) := by omega
  have hB0 : (B : Int) ≤ 40000 := by omega
  have HBB := hide hB
  clear hv hn hB
  go_enter Tryd.func14, Tryd.ntmps14
  go_upto_region 1 with fail
  have hbn : Below w.heap.size w (w.alloc (.cells #[.int .u8 0, .int .u8 0, .int .u8 0, .int .u8 0, .int .u8 0, .int .u8 0, .int .u8 0, .int .u8 0, .int .u8 0, .int .u8 0, .int .u8 0, .int .u8 0, .int .u8 0, .int .u8 0, .int .u8 0, .int .u8 0, .int .u8 0, .int .u8 0, .int .u8 0, .int .u8 0, .int .u8 0, .int .u8 0, .int .u8 0, .int .u8 0, .int .u8 0, .int .u8 0, .int .u8 0, .int .u8 0, .int .u8 0, .int .u8 0, .int .u8 0, .int .u8 0] 34)) := (Below.refl _ _).alloc (Nat.le_refl _) _
  have hrn : Arr (w.alloc (.cells #[.int .u8 0, .int .u8 0, .int .u8 0, .int .u8 0, .int .u8 0, .int .u8 0, .int .u8 0, .int .u8 0, .int .u8 0, .int .u8 0, .int .u8 0, .int .u8 0, .int .u8 0, .int .u8 0, .int .u8 0, .int .u8 0, .int .u8 0, .int .u8 0, .int .u8 0, .int .u8 0, .int .u8 0, .int .u8 0, .int .u8 0, .int .u8 0, .int .u8 0, .int .u8 0, .int .u8 0, .int .u8 0, .int .u8 0, .int .u8 0, .int .u8 0, .int .u8 0] 34)) w.heap.size 0 .u8 (List.replicate 32 0) := Arr.new w .u8 (List.replicate 32 0) _
  have hsn : (w.alloc (.cells #[.int .u8 0, .int .u8 0, .int .u8 0, .int .u8 0, .int .u8 0, .int .u8 0, .int .u8 0, .int .u8 0, .int .u8 0, .int .u8 0, .int .u8 0, .int .u8 0, .int .u8 0, .int .u8 0, .int .u8 0, .int .u8 0, .int .u8 0, .int .u8 0, .int .u8 0, .int .u8 0, .int .u8 0, .int .u8 0, .int .u8 0, .int .u8 0, .int .u8 0, .int .u8 0, .int .u8 0, .int .u8 0, .int .u8 0, .int .u8 0, .int .u8 0, .int .u8 0] 34)).heap.size = w.heap.size + 1 := alloc_size _ _
  generalize w.alloc (.cells #[.int .u8 0, .int .u8 0, .int .u8 0, .int .u8 0, .int .u8 0, .int .u8 0, .int .u8 0, .int .u8 0, .int .u8 0, .int .u8 0, .int .u8 0, .int .u8 0, .int .u8 0, .int .u8 0, .int .u8 0, .int .u8 0, .int .u8 0, .int .u8 0, .int .u8 0, .int .u8 0, .int .u8 0, .int .u8 0, .int .u8 0, .int .u8 0, .int .u8 0, .int .u8 0, .int .u8 0, .int .u8 0, .int .u8 0, .int .u8 0, .int .u8 0, .int .u8 0] 34) = w1 at *
  have HB1 := hide hbn
  have HR1 := hide hrn
  have HS1 := hide hsn
  have HV1 := hide (HV.out.below hbn)
  clear hbn hrn hsn
  go_wp2_with (at_builtin; refine wp_append rfl (.tmp 16) (.tmp 17) rfl w1.heap.size _ [] rfl (Own.made w1 _ (Nat.le_refl _)) _ l rfl (HV1.out.alloc _) ?c1 ?c2 ?_)
  case c1 => have := HN.out; simp; omega
  case c2 => rw [alloc_size]; omega
  intro v2 w2 hown2 hbel2
  have HO2 := hide hown2
  have HB2 : Hid (Below w1.heap.size w1 w2) := hide (((Below.refl _ _).alloc (Nat.le_refl _) _).trans hbel2)
  clear hown2 hbel2
  go_wp2_with (at_builtin; refine wp_append rfl (.tmp 18) (.tmp 19) rfl w1.heap.size _ l rfl (HO2.out.alloc _) _ [128] rfl (Bytes.one _ _) ?c3 ?c4 ?_)
  case c3 => have := HN.out; simp; omega
  case c4 => have := HB2.out.size; rw [alloc_size]; omega
  intro v3 w3 hown3 hbel3
  have hB13 : Below w1.heap.size w1 w3 := HB2.out.trans (((Below.refl w1.heap.size w2).alloc HB2.out.size _).trans hbel3)
  have HS : Hid (RDig1 w w1.heap.size l v3 w3) := hide ⟨0, by omega, hown3, below_on HB1.out hB13, hB13.size, HR1.out.on hB13⟩
  have HG : Hid (w.heap.size < w1.heap.size) := hide (by rw [HS1.out]; omega)
  clear hown3 hbel3 HO2 HB2 HV1 HB1 HR1 HS1 hB13
  generalize w1.heap.size = base at *
  go_wp2_with fail
  go_loopw [4] (fun v wr => RDig1 w base l v wr) (fun v _ => 100000 - lenOf v)
  case atStart => exact HS.out
  case round =>
    clear HS
    obtain ⟨j, hj, hown, hB, hbs, hR⟩ := hrel
    obtain ⟨a1, cap1, rfl, hd1, hd2⟩ := hown.bytes.form
    have hlen : (l ++ tailTo l.length j 0).length = l.length + (1 + j) := by rw [List.length_append, tailTo_length _ _ _ (by omega), Nat.add_zero]
    have hg := gap_lt l.length
    have HO := hide hown
    have HB := hide hB
    have HR := hide hR
    rw [hlen] at HO hd1 ⊢
    clear hown hB hR
    by_cases hlt : j < gap l.length
    · have ht : (((l.length + (1 + j) : Nat) : Int) % 64 != 56) = true := by
        have := pad_not l.length j hlt
        simp
        omega
      have HSZ : Hid ((l ++ tailTo l.length j 0).length ≤ 6000) := hide (by have := HN.out; omega)
      obtain ⟨n, hn⟩ : ∃ n, n = l.length + (1 + j) := ⟨_, rfl⟩
      rw [← hn] at ht hd1 HO ⊢
      have HNN := hide hn
      have hn5 : n ≤ 6000 := by have := HN.out; omega
      clear hn hlen
      go_wp2_with (at_builtin; refine wp_append rfl (.tmp 25) (.tmp 26) rfl base _ _ rfl (HO.out.alloc _) _ [0] rfl (Bytes.one _ _) ?c1 ?c2 ?_)
      case c1 => have := HSZ.out; simp only [List.length_singleton]; omega
      case c2 => rw [alloc_size]; omega
      intro v' w' hown' hbel'
      have R : Hid (RDig1 w base l v' w' ∧ lenOf v' = n + 1) := by
        have hb2 := ((Below.refl base wr).alloc hbs (.cells #[.int .u8 0] 5)).trans hbel'
        first | rw [List.append_assoc, tailTo_more] at hown' | rw [tailTo_more] at hown'
        obtain ⟨a', cap', rfl, _⟩ := hown'.bytes.form
        refine hide ⟨⟨j + 1, by omega, hown', HB.out.trans (hb2.mono (Nat.le_of_lt HG.out)), Nat.le_trans hbs hb2.size, HR.out.below hb2 HG.out⟩, ?_⟩
        have := HNN.out
        simp [lenOf, tailTo_length]
        omega
      clear hown' hbel'
      go_wp2
      go_roundw
      case rel => first | exact R.out.1 | ((repeat apply Exists.intro); exact ⟨R.out.1, rfl⟩)
      case measure => rw [R.out.2]; simp [lenOf]; omega
    · obtain rfl : j = gap l.length := by omega
      have ht : (((l.length + (1 + gap l.length) : Nat) : Int) % 64 != 56) = false := by
        have := pad_end l.length
        simp
        omega
      obtain ⟨n, hn⟩ : ∃ n, n = l.length + (1 + gap l.length) := ⟨_, rfl⟩
      rw [← hn] at ht hd1 HO ⊢
      have hn5 : n ≤ 6000 := by have := HN.out; omega
      have HE2 : Hid (RDig2 w base l (.slice a1 n cap1) (.int .i64 7) wr) := hide ⟨0, by omega, rfl, HO.out, HB.out, hbs, HR.out⟩
      clear hn hlen hlt hj hg HO HB HR hbs
      go_wp2
      go_loopw [4, 5] (fun v i wr => RDig2 w base l v i wr) (fun _ i _ => (intOf i + 1).toNat)
      case atStart => exact HE2.out
      case round =>
        clear HE2 ht hn5 hd1 hd2 hB0 hw1 hw2
        obtain ⟨k, hk, rfl, hown, hB, hbs, hR⟩ := hrel
        have HO := hide hown
        have HB := hide hB
        have HR := hide hR
        clear hown hB hR
        by_cases hlt : k < 8
        · have R := hide (fun v' w' (hown' : Own w' base v' (l ++ tailTo l.length (gap l.length) k ++ [(countI (8 * l.length)).getD k 0])) (hb2 : Below base wr w') => show RDig2 w base l v' (.int .i64 (7 - ((k + 1 : Nat) : Int))) w' from by
            rw [List.append_assoc, tailTo_count _ _ _ hlt] at hown'
            exact ⟨k + 1, by omega, rfl, hown', HB.out.trans (hb2.mono (Nat.le_of_lt HG.out)), Nat.le_trans hbs hb2.size, HR.out.below hb2 HG.out⟩)
          have HSZ : Hid ((l ++ tailTo l.length (gap l.length) k).length ≤ 6000) := hide (by rw [List.length_append, tailTo_length _ _ _ hk]; have := gap_lt l.length; have := HN.out; omega)
          obtain ⟨a2, cap2, rfl, hf1, hf2⟩ := HO.out.bytes.form
          generalize l ++ tailTo l.length (gap l.length) k = T at *
          have hbits : (8 * (l.length : Int)) = (B : Int) := by have := HBB.out; omega
          rw [hbits] at R
          clear hbits
          rcases (show k = 0 ∨ k = 1 ∨ k = 2 ∨ k = 3 ∨ k = 4 ∨ k = 5 ∨ k = 6 ∨ k = 7 by omega) with rfl | rfl | rfl | rfl | rfl | rfl | rfl | rfl
          all_goals
            first
              | (have e : (7 - ((0 : Nat) : Int)) = 7 := rfl; rw [e]; have e2 : (7 - ((0 + 1 : Nat) : Int)) = 6 := rfl; rw [e2] at R; clear e e2)
              | (have e : (7 - ((1 : Nat) : Int)) = 6 := rfl; rw [e]; have e2 : (7 - ((1 + 1 : Nat) : Int)) = 5 := rfl; rw [e2] at R; clear e e2)
              | (have e : (7 - ((2 : Nat) : Int)) = 5 := rfl; rw [e]; have e2 : (7 - ((2 + 1 : Nat) : Int)) = 4 := rfl; rw [e2] at R; clear e e2)
              | (have e : (7 - ((3 : Nat) : Int)) = 4 := rfl; rw [e]; have e2 : (7 - ((3 + 1 : Nat) : Int)) = 3 := rfl; rw [e2] at R; clear e e2)
              | (have e : (7 - ((4 : Nat) : Int)) = 3 := rfl; rw [e]; have e2 : (7 - ((4 + 1 : Nat) : Int)) = 2 := rfl; rw [e2] at R; clear e e2)
              | (have e : (7 - ((5 : Nat) : Int)) = 2 := rfl; rw [e]; have e2 : (7 - ((5 + 1 : Nat) : Int)) = 1 := rfl; rw [e2] at R; clear e e2)
              | (have e : (7 - ((6 : Nat) : Int)) = 1 := rfl; rw [e]; have e2 : (7 - ((6 + 1 : Nat) : Int)) = 0 := rfl; rw [e2] at R; clear e e2)
              | (have e : (7 - ((7 : Nat) : Int)) = 0 := rfl; rw [e]; have e2 : (7 - ((7 + 1 : Nat) : Int)) = -1 := rfl; rw [e2] at R; clear e e2)
            go_wp2_with (at_builtin; refine wp_append rfl (.tmp 32) (.tmp 39) rfl base _ _ rfl (HO.out.alloc _) _ _ rfl (Bytes.one _ _) ?c1 ?c2 ?_)
            case c1 => have := HSZ.out; simp; omega
            case c2 => rw [alloc_size]; omega
            intro v' w' hown' hbel'
            have RR := hide (R.out v' w' hown' (((Below.refl base wr).alloc hbs _).trans hbel'))
            clear hown' hbel'
            go_wp2
            go_roundw
            case rel => first | exact RR.out | ((repeat apply Exists.intro); exact ⟨RR.out, rfl⟩)
            case measure => simp [intOf]
        · obtain rfl : k = 8 := by omega
          rw [show l ++ tailTo l.length (gap l.length) 8 = l ++ tailI l.length from by rw [tailTo_all]] at HO
          obtain ⟨q, hq⟩ := padded_whole l.length
          have hPl : (l ++ tailI l.length).length = 64 * (q + 1) := by rw [List.length_append]; exact hq
          have HQ : Hid (q ≤ 100) := hide (by have := HN.out; have h1 : (tailI l.length).length = 1 + gap l.length + 8 := tailTo_length _ (gap l.length) 8 (by omega); have := gap_lt l.length; omega)
          have HDG : Hid ((blocksI firstI (l ++ tailI l.length) (q + 1)).flatMap outI = digest l) := hide (by rw [digest, stateOf, hPl, show 64 * (q + 1) / 64 = q + 1 by omega])
          have HBN := hide (fun n => blocksI_length firstI (l ++ tailI l.length) rfl n)
          have HP := hide HO.out.bytes
          obtain ⟨ap, capp, rfl, hp1, hp2⟩ := HP.out.form
          rw [hPl] at HP hp1 ⊢
          have HPL := hide hPl
          have e8 : (7 - ((8 : Nat) : Int)) = -1 := rfl
          rw [e8]
          clear hq hPl e8 HO hlt hk hbs
          generalize l ++ tailI l.length = P at *
          go_wp2_with fail
          refine (rfirst_any _).mono ?_
          rintro e w4 ⟨rfl, hbel4⟩
          have HT4 : Hid ((w4.alloc (.cells #[.int .u32 0, .int .u32 0, .int .u32 0, .int .u32 0, .int .u32 0, .int .u32 0, .int .u32 0, .int .u32 0] 72)).there w4.heap.size 0 8) := hide (Arr.new w4 .u32 (List.replicate 8 0) 72).2
          have HA4 : Hid (Arr ((w4.alloc (.cells #[.int .u32 0, .int .u32 0, .int .u32 0, .int .u32 0, .int .u32 0, .int .u32 0, .int .u32 0, .int .u32 0] 72)).setCells w4.heap.size 0 (vals .u32 firstI)) w4.heap.size 0 .u32 firstI) := hide (Arr.put HT4.out)
          have HB4 : Hid (Below wr.heap.size wr ((w4.alloc (.cells #[.int .u32 0, .int .u32 0, .int .u32 0, .int .u32 0, .int .u32 0, .int .u32 0, .int .u32 0, .int .u32 0] 72)).setCells w4.heap.size 0 (vals .u32 firstI))) := hide (below_sets hbel4.size _ _ _ (hbel4.alloc hbel4.size _))
          have HGS : Hid (wr.heap.size ≤ w4.heap.size) := hide hbel4.size
          clear hbel4
          go_wp2_with (refine wp_store_arr rfl 72 (.tmp 6) (.tmp 41) rfl _ 0 .u32 firstI rfl rfl 8 HT4.out info_s rfl ?_)
          generalize (w4.alloc (.cells #[.int .u32 0, .int .u32 0, .int .u32 0, .int .u32 0, .int .u32 0, .int .u32 0, .int .u32 0, .int .u32 0] 72)).setCells w4.heap.size 0 (vals .u32 firstI) = W5 at *
          have HS : Hid (RDig3 wr w4.heap.size (q + 1) P (.int .i64 0) W5) := hide ⟨0, by omega, rfl, HB4.out, HA4.out⟩
          clear HT4 HA4 HB4
          generalize w4.heap.size = gs at *
          obtain ⟨Wp, hWp⟩ : ∃ Wp, Wp = wr := ⟨_, rfl⟩
          subst hWp
          go_loopw [7] (fun i wx => RDig3 Wp gs (q + 1) P i wx) (fun i _ => 64 * (q + 1) - (intOf i).toNat)
          case atStart => exact HS.out
          case round =>
            clear HS
            obtain ⟨k, hkq, rfl, hB, hA⟩ := hrel
            by_cases hlt : k < q + 1
            · obtain ⟨i, hi⟩ : ∃ i, i = 64 * k := ⟨_, rfl⟩
              obtain ⟨i2, hi2⟩ : ∃ i2, i2 = i + 64 := ⟨_, rfl⟩
              obtain ⟨a1, c1, ht1, ht2⟩ := mid_of ap (64 * (q + 1)) capp i i2 hi2 (by omega) hp1
              have T1 := ht1
              have SL := fun b wx => slice_all64 b wx
              have hb64 : IntKind.i64.wrap ((i : Int) + 64) = (i2 : Int) := wrap_small (by omega) (by have := HQ.out; omega)
              have HI2 := hide hi2
              clear hi2
              have hr := ht2 Wp P HP.out
              have hrl : ((P.drop i).take 64).length = 64 := by have := HPL.out; simp; omega
              have HRR := hide (hr.below hB)
              have HRL := hide hrl
              have BL := hide (fun wx => rblock_any (blocksI firstI P k) ((P.drop i).take 64) wx (HBN.out k) hrl)
              rw [hi] at BL
              have BL : Hid (∀ wx, Calls Tryd.prog 32 #[.agg (vals .u32 (blocksI firstI P k)).toArray, .agg (vals .u8 ((P.drop (64 * k)).take 64)).toArray] wx fun e w' => e = .returned (.agg (vals .u32 (blocksI firstI P (k + 1))).toArray) ∧ Below wx.heap.size wx w') := BL
              rw [← hi] at BL ⊢
              have HBL3 := hide hB
              have HA := hide hA
              have HI := hide hi
              have hilt : (i : Int) < ((64 * (q + 1) : Nat) : Int) := by omega
              have hiq : (i : Int) ≤ 10000 := by have := HQ.out; omega
              clear ht1 ht2 hr hrl hB hA hi
              generalize hr0 : (P.drop i).take 64 = r at *
              have hr1 : r.take (min r.length 64) = r := by rw [HRL.out]; exact List.take_of_length_le (by rw [HRL.out]; omega)
              have HR1 := hide hr1.symm
              clear hr1 hr0
              generalize hqn : 64 * (q + 1) = nn at *
              clear hqn
              go_wp2
              have HW6 : Hid (Below wr.heap.size wr (wr.alloc (.cells #[.int .u8 0, .int .u8 0, .int .u8 0, .int .u8 0, .int .u8 0, .int .u8 0, .int .u8 0, .int .u8 0, .int .u8 0, .int .u8 0, .int .u8 0, .int .u8 0, .int .u8 0, .int .u8 0, .int .u8 0, .int .u8 0, .int .u8 0, .int .u8 0, .int .u8 0, .int .u8 0, .int .u8 0, .int .u8 0, .int .u8 0, .int .u8 0, .int .u8 0, .int .u8 0, .int .u8 0, .int .u8 0, .int .u8 0, .int .u8 0, .int .u8 0, .int .u8 0, .int .u8 0, .int .u8 0, .int .u8 0, .int .u8 0, .int .u8 0, .int .u8 0, .int .u8 0, .int .u8 0, .int .u8 0, .int .u8 0, .int .u8 0, .int .u8 0, .int .u8 0, .int .u8 0, .int .u8 0, .int .u8 0, .int .u8 0, .int .u8 0, .int .u8 0, .int .u8 0, .int .u8 0, .int .u8 0, .int .u8 0, .int .u8 0, .int .u8 0, .int .u8 0, .int .u8 0, .int .u8 0, .int .u8 0, .int .u8 0, .int .u8 0, .int .u8 0] 74)) ∧ (wr.alloc (.cells #[.int .u8 0, .int .u8 0, .int .u8 0, .int .u8 0, .int .u8 0, .int .u8 0, .int .u8 0, .int .u8 0, .int .u8 0, .int .u8 0, .int .u8 0, .int .u8 0, .int .u8 0, .int .u8 0, .int .u8 0, .int .u8 0, .int .u8 0, .int .u8 0, .int .u8 0, .int .u8 0, .int .u8 0, .int .u8 0, .int .u8 0, .int .u8 0, .int .u8 0, .int .u8 0, .int .u8 0, .int .u8 0, .int .u8 0, .int .u8 0, .int .u8 0, .int .u8 0, .int .u8 0, .int .u8 0, .int .u8 0, .int .u8 0, .int .u8 0, .int .u8 0, .int .u8 0, .int .u8 0, .int .u8 0, .int .u8 0, .int .u8 0, .int .u8 0, .int .u8 0, .int .u8 0, .int .u8 0, .int .u8 0, .int .u8 0, .int .u8 0, .int .u8 0, .int .u8 0, .int .u8 0, .int .u8 0, .int .u8 0, .int .u8 0, .int .u8 0, .int .u8 0, .int .u8 0, .int .u8 0, .int .u8 0, .int .u8 0, .int .u8 0, .int .u8 0] 74)).there wr.heap.size 0 64) := hide ⟨(Below.refl _ _).alloc (Nat.le_refl _) _, (Arr.new wr .u8 (List.replicate 64 0) 74).2⟩
              generalize wr.alloc (.cells #[.int .u8 0, .int .u8 0, .int .u8 0, .int .u8 0, .int .u8 0, .int .u8 0, .int .u8 0, .int .u8 0, .int .u8 0, .int .u8 0, .int .u8 0, .int .u8 0, .int .u8 0, .int .u8 0, .int .u8 0, .int .u8 0, .int .u8 0, .int .u8 0, .int .u8 0, .int .u8 0, .int .u8 0, .int .u8 0, .int .u8 0, .int .u8 0, .int .u8 0, .int .u8 0, .int .u8 0, .int .u8 0, .int .u8 0, .int .u8 0, .int .u8 0, .int .u8 0, .int .u8 0, .int .u8 0, .int .u8 0, .int .u8 0, .int .u8 0, .int .u8 0, .int .u8 0, .int .u8 0, .int .u8 0, .int .u8 0, .int .u8 0, .int .u8 0, .int .u8 0, .int .u8 0, .int .u8 0, .int .u8 0, .int .u8 0, .int .u8 0, .int .u8 0, .int .u8 0, .int .u8 0, .int .u8 0, .int .u8 0, .int .u8 0, .int .u8 0, .int .u8 0, .int .u8 0, .int .u8 0, .int .u8 0, .int .u8 0, .int .u8 0, .int .u8 0] 74) = W6 at *
              have HGX : Hid (gs < wr.heap.size) := hide (HA.out.lt (by rw [HBN.out]; omega))
              have HGW : Hid (Wp.heap.size ≤ wr.heap.size) := hide HBL3.out.size
              have HR6 := hide (HRR.out.below HW6.out.1)
              have hrpos : 0 < r.length := by rw [HRL.out]; omega
              generalize wr.heap.size = gx at *
              go_region_held3 (fun wx => wx.there gx 0 64) (with_reducible (first | exact World.there_setCells (w := W6.drew) ((World.there_drew W6 gx 0 64).2 HW6.out.2) _ _ _ | exact (World.there_drew W6 gx 0 64).2 HW6.out.2 | fail))
                ((refine step_copy rfl (.tmp 48) (.tmp 53) rfl gx 0 64 64 rfl _ r rfl HR6.out.drew hrpos r HR1.out HW6.out.2 ?_))
              have HX7 : Hid (Arr (W6.drew.setCells gx 0 (vals .u8 r)) gx 0 .u8 r) := hide (Arr.put (by rw [HRL.out]; exact HW6.out.2))
              have HB7 : Hid (Below Wp.heap.size Wp (W6.drew.setCells gx 0 (vals .u8 r))) := hide (below_sets HGW.out _ _ _ (HBL3.out.trans (HW6.out.1.mono HGW.out)).drew)
              have HA7 : Hid (Arr (W6.drew.setCells gx 0 (vals .u8 r)) gs 0 .u32 (blocksI firstI P k)) := hide ((HA.out.below HW6.out.1 HGX.out).drew.apart _ _ _ (Or.inl (by have := HGX.out; omega)))
              generalize W6.drew.setCells gx 0 (vals .u8 r) = W7 at *
              go_wp2_with (first | (refine wp_load_arr rfl 72 (.tmp 6) rfl _ 0 rfl .u32 _ HA7.out _ Tryd.underlying72 rfl 8 info_s (HBN.out k) ?_) | (refine wp_load_arr rfl 74 (.tmp 8) rfl _ 0 rfl .u8 _ HX7.out _ Tryd.underlying74 rfl 64 info_b HRL.out ?_))
              refine (BL.out _).mono ?_
              rintro e w8 ⟨rfl, hbel8⟩
              have HT8 : Hid (w8.there gs 0 8) := hide (by have := (HA7.out.on hbel8).2; rwa [HBN.out] at this)
              have HB8 := hide (below_on HB7.out hbel8)
              clear hbel8
              go_wp2_with (refine wp_store_arr rfl 72 (.tmp 6) (.tmp 57) rfl _ 0 .u32 (blocksI firstI P (k + 1)) rfl rfl 8 HT8.out info_s (HBN.out (k + 1)) ?_)
              have RR : Hid (RDig3 Wp gs (q + 1) P (.int .i64 (i2 : Int)) (w8.setCells gs 0 (vals .u32 (blocksI firstI P (k + 1))))) := by
                refine hide ⟨k + 1, by omega, ?_, below_sets HGS.out _ _ _ HB8.out, Arr.put (by rw [HBN.out]; exact HT8.out)⟩
                have := HI.out
                have := HI2.out
                congr 1
                omega
              go_roundw
              case rel => first | exact RR.out | ((repeat apply Exists.intro); exact ⟨RR.out, rfl⟩)
              case measure => have := HI2.out; simp [intOf]; omega
            · obtain rfl : k = q + 1 := by omega
              have HA := hide hA
              have HB9 := hide (below_on HB.out hB)
              have HR9 := hide (HR.out.on hB)
              clear hA hB hlt hkq
              generalize 64 * (q + 1) = nn at *
              have hbn : Below wr.heap.size wr (wr.alloc (.cells #[.int .u8 0, .int .u8 0, .int .u8 0, .int .u8 0, .int .u8 0, .int .u8 0, .int .u8 0, .int .u8 0, .int .u8 0, .int .u8 0, .int .u8 0, .int .u8 0, .int .u8 0, .int .u8 0, .int .u8 0, .int .u8 0, .int .u8 0, .int .u8 0, .int .u8 0, .int .u8 0, .int .u8 0, .int .u8 0, .int .u8 0, .int .u8 0, .int .u8 0, .int .u8 0, .int .u8 0, .int .u8 0, .int .u8 0, .int .u8 0, .int .u8 0, .int .u8 0] 34)) := (Below.refl _ _).alloc (Nat.le_refl _) _
              have hrn : Arr (wr.alloc (.cells #[.int .u8 0, .int .u8 0, .int .u8 0, .int .u8 0, .int .u8 0, .int .u8 0, .int .u8 0, .int .u8 0, .int .u8 0, .int .u8 0, .int .u8 0, .int .u8 0, .int .u8 0, .int .u8 0, .int .u8 0, .int .u8 0, .int .u8 0, .int .u8 0, .int .u8 0, .int .u8 0, .int .u8 0, .int .u8 0, .int .u8 0, .int .u8 0, .int .u8 0, .int .u8 0, .int .u8 0, .int .u8 0, .int .u8 0, .int .u8 0, .int .u8 0, .int .u8 0] 34)) wr.heap.size 0 .u8 (List.replicate 32 0) := Arr.new wr .u8 (List.replicate 32 0) _
              go_upto_region 17 with fail
              generalize wr.alloc (.cells #[.int .u8 0, .int .u8 0, .int .u8 0, .int .u8 0, .int .u8 0, .int .u8 0, .int .u8 0, .int .u8 0, .int .u8 0, .int .u8 0, .int .u8 0, .int .u8 0, .int .u8 0, .int .u8 0, .int .u8 0, .int .u8 0, .int .u8 0, .int .u8 0, .int .u8 0, .int .u8 0, .int .u8 0, .int .u8 0, .int .u8 0, .int .u8 0, .int .u8 0, .int .u8 0, .int .u8 0, .int .u8 0, .int .u8 0, .int .u8 0, .int .u8 0, .int .u8 0] 34) = W at *
              have HAW := hide (HA.out.on hbn)
              have HBW := hide (below_on HB9.out hbn)
              have HRW := hide (HR9.out.on hbn)
              have HGG : Hid (w.heap.size < wr.heap.size) := hide (HR9.out.lt (by simp))
              have HS4 : Hid (RDig4 W wr.heap.size (blocksI firstI P (q + 1)) (.int .i64 0) W) := hide ⟨0, by omega, rfl, Below.refl _ _, by rw [outs_zero]; exact hrn⟩
              have IX := hide (fun k hk w => index_arr (blocksI firstI P (q + 1)) (HBN.out (q + 1)) k hk w)
              have HBL4 := hide (HBN.out (q + 1))
              clear hbn hrn HA HB9 HR9
              generalize wr.heap.size = gh at *
              go_wp2_with (refine wp_load_arr rfl 72 (.tmp 6) rfl _ 0 rfl .u32 (blocksI firstI P (q + 1)) HAW.out _ Tryd.underlying72 rfl 8 info_s HBL4.out ?_)
              generalize blocksI firstI P (q + 1) = Z at *
              go_loopw [59] (fun i wx => RDig4 W gh Z i wx) (fun i _ => 8 - (intOf i).toNat)
              case atStart => exact HS4.out
              case round =>
                clear HS4
                obtain ⟨k, hk, rfl, hbel, hA⟩ := hrel
                by_cases hlt : k < 8
                · have R := hide (RDig4.next HBL4.out hlt hbel hA)
                  have ix := fun wx => IX.out k hlt wx
                  have hl := outs_length Z HBL4.out k (by omega)
                  have c0 := hA.cell0 (4 * k) (by omega)
                  have c1 := hA.cell0 (4 * k + 1) (by omega)
                  have c2 := hA.cell0 (4 * k + 2) (by omega)
                  have c3 := hA.cell0 (4 * k + 3) (by omega)
                  have f0 := hA.free0 (4 * k) (by omega)
                  have f1 := hA.free0 (4 * k + 1) (by omega)
                  have f2 := hA.free0 (4 * k + 2) (by omega)
                  have f3 := hA.free0 (4 * k + 3) (by omega)
                  clear hbel hA hl
                  generalize Z.getD k 0 = x at *
                  generalize (outs Z k).getD (4 * k) 0 = y0 at *
                  generalize (outs Z k).getD (4 * k + 1) 0 = y1 at *
                  generalize (outs Z k).getD (4 * k + 2) 0 = y2 at *
                  generalize (outs Z k).getD (4 * k + 3) 0 = y3 at *
                  go_wp2
                  go_roundw
                  case rel => first | exact R.out | ((repeat apply Exists.intro); exact ⟨R.out, rfl⟩)
                  case measure => simp [intOf]; omega
                · obtain rfl : k = 8 := by omega
                  rw [outs_all Z HBL4.out, HDG.out] at hA
                  have HA := hide hA
                  have HRE : Hid (wr.there w.heap.size 0 32) := hide (by simpa using (HRW.out.below hbel HGG.out).2)
                  have HBE := hide (HBW.out.trans (hbel.mono (Nat.le_of_lt HGG.out)))
                  have HDL : Hid ((digest l).length = 32) := hide (by rw [← HDG.out, flat_length, HBL4.out])
                  clear hbel hA hlt hk
                  generalize hDD : digest l = DD at *
                  have HDD := hide hDD
                  clear hDD
                  go_wp2_with (first | (refine wp_load_arr rfl 34 (.tmp 9) rfl _ 0 rfl .u8 DD HA.out _ Tryd.underlying34 rfl 32 info_h HDL.out ?_) | (refine wp_store_arr rfl 34 (.tmp 2) (.tmp 90) rfl _ 0 .u8 DD rfl rfl 32 HRE.out info_h HDL.out ?_))
                  refine ret_arr 2 34 rfl _ 0 rfl .u8 DD (Arr.put (by rw [HDL.out]; exact HRE.out)) _ Tryd.underlying34 rfl 32 info_h HDL.out rfl ⟨by rw [HDD.out], below_sets (Nat.le_refl _) _ _ _ HBE.out⟩

end Go.Proofs.YtbeegcpmpgdbnaaDoor
