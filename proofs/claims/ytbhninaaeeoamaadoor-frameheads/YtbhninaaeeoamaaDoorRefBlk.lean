/-
  What pappusref03.Block answers at this program: the plain block.
-/
import Derived.Test.YtbhninaaeeoamaaDoorRefBlock
import Derived.Deep.DeepCutAuto
namespace Go.Proofs.YtbhninaaeeoamaaDoor
open Go.RowKit

theorem sets_size (b : Nat) : ∀ (vs : List Value) (o : Nat) (w : World), (w.setCells b o vs).heap.size = w.heap.size
  | [], _, _ => rfl
  | v :: vs, o, w => by
    rw [World.setCells, sets_size b vs (o + 1)]
    simp [World.setCell]
theorem Arr.newOf (w : World) (k : IntKind) (zs : List Int) (t : TypeId) (cs : Array Value) (hc : cs = (vals k zs).toArray) : Arr (w.alloc (.cells cs t)) w.heap.size 0 k zs := by
  subst hc
  exact Arr.new w k zs t
/-- A place for 64 numbers, and the constants in it. -/
theorem table_new (w : World) : Arr (w.alloc (.cells #[.int .u32 0, .int .u32 0, .int .u32 0, .int .u32 0, .int .u32 0, .int .u32 0, .int .u32 0, .int .u32 0, .int .u32 0, .int .u32 0, .int .u32 0, .int .u32 0, .int .u32 0, .int .u32 0, .int .u32 0, .int .u32 0, .int .u32 0, .int .u32 0, .int .u32 0, .int .u32 0, .int .u32 0, .int .u32 0, .int .u32 0, .int .u32 0, .int .u32 0, .int .u32 0, .int .u32 0, .int .u32 0, .int .u32 0, .int .u32 0, .int .u32 0, .int .u32 0, .int .u32 0, .int .u32 0, .int .u32 0, .int .u32 0, .int .u32 0, .int .u32 0, .int .u32 0, .int .u32 0, .int .u32 0, .int .u32 0, .int .u32 0, .int .u32 0, .int .u32 0, .int .u32 0, .int .u32 0, .int .u32 0, .int .u32 0, .int .u32 0, .int .u32 0, .int .u32 0, .int .u32 0, .int .u32 0, .int .u32 0, .int .u32 0, .int .u32 0, .int .u32 0, .int .u32 0, .int .u32 0, .int .u32 0, .int .u32 0, .int .u32 0, .int .u32 0] 86)) w.heap.size 0 .u32 (List.replicate 64 0) := Arr.newOf w .u32 _ _ _ rfl
theorem table_there (w : World) : (w.alloc (.cells #[.int .u32 0, .int .u32 0, .int .u32 0, .int .u32 0, .int .u32 0, .int .u32 0, .int .u32 0, .int .u32 0, .int .u32 0, .int .u32 0, .int .u32 0, .int .u32 0, .int .u32 0, .int .u32 0, .int .u32 0, .int .u32 0, .int .u32 0, .int .u32 0, .int .u32 0, .int .u32 0, .int .u32 0, .int .u32 0, .int .u32 0, .int .u32 0, .int .u32 0, .int .u32 0, .int .u32 0, .int .u32 0, .int .u32 0, .int .u32 0, .int .u32 0, .int .u32 0, .int .u32 0, .int .u32 0, .int .u32 0, .int .u32 0, .int .u32 0, .int .u32 0, .int .u32 0, .int .u32 0, .int .u32 0, .int .u32 0, .int .u32 0, .int .u32 0, .int .u32 0, .int .u32 0, .int .u32 0, .int .u32 0, .int .u32 0, .int .u32 0, .int .u32 0, .int .u32 0, .int .u32 0, .int .u32 0, .int .u32 0, .int .u32 0, .int .u32 0, .int .u32 0, .int .u32 0, .int .u32 0, .int .u32 0, .int .u32 0, .int .u32 0, .int .u32 0] 86)).there w.heap.size 0 64 := by
  have := (table_new w).2
  rwa [List.length_replicate] at this
theorem table_kept (w : World) : Below w.heap.size w ((w.alloc (.cells #[.int .u32 0, .int .u32 0, .int .u32 0, .int .u32 0, .int .u32 0, .int .u32 0, .int .u32 0, .int .u32 0, .int .u32 0, .int .u32 0, .int .u32 0, .int .u32 0, .int .u32 0, .int .u32 0, .int .u32 0, .int .u32 0, .int .u32 0, .int .u32 0, .int .u32 0, .int .u32 0, .int .u32 0, .int .u32 0, .int .u32 0, .int .u32 0, .int .u32 0, .int .u32 0, .int .u32 0, .int .u32 0, .int .u32 0, .int .u32 0, .int .u32 0, .int .u32 0, .int .u32 0, .int .u32 0, .int .u32 0, .int .u32 0, .int .u32 0, .int .u32 0, .int .u32 0, .int .u32 0, .int .u32 0, .int .u32 0, .int .u32 0, .int .u32 0, .int .u32 0, .int .u32 0, .int .u32 0, .int .u32 0, .int .u32 0, .int .u32 0, .int .u32 0, .int .u32 0, .int .u32 0, .int .u32 0, .int .u32 0, .int .u32 0, .int .u32 0, .int .u32 0, .int .u32 0, .int .u32 0, .int .u32 0, .int .u32 0, .int .u32 0, .int .u32 0] 86)).setCells w.heap.size 0 (vals .u32 K)) ∧ Arr ((w.alloc (.cells #[.int .u32 0, .int .u32 0, .int .u32 0, .int .u32 0, .int .u32 0, .int .u32 0, .int .u32 0, .int .u32 0, .int .u32 0, .int .u32 0, .int .u32 0, .int .u32 0, .int .u32 0, .int .u32 0, .int .u32 0, .int .u32 0, .int .u32 0, .int .u32 0, .int .u32 0, .int .u32 0, .int .u32 0, .int .u32 0, .int .u32 0, .int .u32 0, .int .u32 0, .int .u32 0, .int .u32 0, .int .u32 0, .int .u32 0, .int .u32 0, .int .u32 0, .int .u32 0, .int .u32 0, .int .u32 0, .int .u32 0, .int .u32 0, .int .u32 0, .int .u32 0, .int .u32 0, .int .u32 0, .int .u32 0, .int .u32 0, .int .u32 0, .int .u32 0, .int .u32 0, .int .u32 0, .int .u32 0, .int .u32 0, .int .u32 0, .int .u32 0, .int .u32 0, .int .u32 0, .int .u32 0, .int .u32 0, .int .u32 0, .int .u32 0, .int .u32 0, .int .u32 0, .int .u32 0, .int .u32 0, .int .u32 0, .int .u32 0, .int .u32 0, .int .u32 0] 86)).setCells w.heap.size 0 (vals .u32 K)) w.heap.size 0 .u32 K ∧ ((w.alloc (.cells #[.int .u32 0, .int .u32 0, .int .u32 0, .int .u32 0, .int .u32 0, .int .u32 0, .int .u32 0, .int .u32 0, .int .u32 0, .int .u32 0, .int .u32 0, .int .u32 0, .int .u32 0, .int .u32 0, .int .u32 0, .int .u32 0, .int .u32 0, .int .u32 0, .int .u32 0, .int .u32 0, .int .u32 0, .int .u32 0, .int .u32 0, .int .u32 0, .int .u32 0, .int .u32 0, .int .u32 0, .int .u32 0, .int .u32 0, .int .u32 0, .int .u32 0, .int .u32 0, .int .u32 0, .int .u32 0, .int .u32 0, .int .u32 0, .int .u32 0, .int .u32 0, .int .u32 0, .int .u32 0, .int .u32 0, .int .u32 0, .int .u32 0, .int .u32 0, .int .u32 0, .int .u32 0, .int .u32 0, .int .u32 0, .int .u32 0, .int .u32 0, .int .u32 0, .int .u32 0, .int .u32 0, .int .u32 0, .int .u32 0, .int .u32 0, .int .u32 0, .int .u32 0, .int .u32 0, .int .u32 0, .int .u32 0, .int .u32 0, .int .u32 0, .int .u32 0] 86)).setCells w.heap.size 0 (vals .u32 K)).heap.size = w.heap.size + 1 :=
  ⟨below_sets (Nat.le_refl _) _ _ _ ((Below.refl _ _).alloc (Nat.le_refl _) _), Arr.put (table_there w), by rw [sets_size, alloc_size]⟩

/-- What stands while the numbers of a block are made: the state, the block, the place of the result, the constants; the first k numbers. -/
def RSt (w : World) (g gk gw : Nat) (s : St) (bs : List Int) (k : Nat) (wr : World) : Prop :=
  Below w.heap.size w wr ∧ Arr wr g 0 .u32 s.list ∧ Arr wr (g + 1) 0 .u8 bs ∧ Arr wr (g + 1 + 1) 0 .u32 (List.replicate 8 0) ∧ Arr wr gk 0 .u32 K ∧ Arr wr gw 0 .u32 (padded (back bs k))
def RSt1 (w : World) (g gk gw : Nat) (s : St) (bs : List Int) (i : Value) (wr : World) : Prop := ∃ k : Nat, k ≤ 16 ∧ i = .int .i64 k ∧ RSt w g gk gw s bs k wr
def RSt2 (w : World) (g gk gw : Nat) (s : St) (bs : List Int) (i : Value) (wr : World) : Prop := ∃ k : Nat, 16 ≤ k ∧ k ≤ 64 ∧ i = .int .i64 k ∧ RSt w g gk gw s bs k wr
theorem RSt.on {w wr wr' : World} {g gk gw k : Nat} {s : St} {bs : List Int} (h : RSt w g gk gw s bs k wr) (hb : Below wr.heap.size wr wr') : RSt w g gk gw s bs k wr' :=
  ⟨below_on' h.1 hb (Nat.le_refl _), h.2.1.on hb, h.2.2.1.on hb, h.2.2.2.1.on hb, h.2.2.2.2.1.on hb, h.2.2.2.2.2.on hb⟩
theorem RSt.next {w wr : World} {g gk gw k : Nat} {s : St} {bs : List Int} (h : RSt w g gk gw s bs k wr) (hw : w.heap.size ≤ gw) (hne : g ≠ gw ∧ g + 1 ≠ gw ∧ g + 1 + 1 ≠ gw ∧ gk ≠ gw) (hk : k < 64) (z : Int) (hz : back bs (k + 1) = z :: back bs k) :
    RSt w g gk gw s bs (k + 1) (wr.setCell ⟨gw, k, none⟩ (.int .u32 z)).drew := by
  obtain ⟨h1, h2, h3, h4, h5, h6⟩ := h
  refine ⟨(h1.setCell hw _).drew, (h2.beside _ _ (Or.inl (Ne.symm hne.1))).drew, (h3.beside _ _ (Or.inl (Ne.symm hne.2.1))).drew, (h4.beside _ _ (Or.inl (Ne.symm hne.2.2.1))).drew, (h5.beside _ _ (Or.inl (Ne.symm hne.2.2.2))).drew, ?_⟩
  have hl := back_length bs k
  have := h6.set0 k (by rw [padded_length] <;> omega) z
  rw [show (padded (back bs k)).set k z = padded (z :: back bs k) by rw [← padded_set (by omega), hl]] at this
  rw [hz]
  exact this.drew

/-- What stands while the two states are summed up. -/
def RAdd (w : World) (g gv : Nat) (s m : List Int) (i : Value) (wr : World) : Prop :=
  ∃ k : Nat, k ≤ 8 ∧ i = .int .i64 k ∧ Below w.heap.size w wr ∧ Arr wr g 0 .u32 (part s m k) ∧ Arr wr (g + 1 + 1) 0 .u32 (List.replicate 8 0) ∧ Arr wr gv 0 .u32 m
/-- What stands while the steps are made. -/
def RMix (w : World) (g gk gw gv : Nat) (s : St) (ws : List Int) (k : Nat) (wr : World) : Prop :=
  Below w.heap.size w wr ∧ Arr wr g 0 .u32 s.list ∧ Arr wr (g + 1 + 1) 0 .u32 (List.replicate 8 0) ∧ Arr wr gk 0 .u32 K ∧ Arr wr gw 0 .u32 ws ∧ Arr wr gv 0 .u32 (steps ws s k).list
def RMix1 (w : World) (g gk gw gv : Nat) (s : St) (ws : List Int) (i : Value) (wr : World) : Prop := ∃ k : Nat, k ≤ 64 ∧ i = .int .i64 k ∧ RMix w g gk gw gv s ws k wr
theorem RMix.next {w wr : World} {g gk gw gv k : Nat} {s : St} {ws : List Int} (h : RMix w g gk gw gv s ws k wr) (hw : w.heap.size ≤ gv) (hne : g ≠ gv ∧ g + 1 + 1 ≠ gv ∧ gk ≠ gv ∧ gw ≠ gv) (hk : k < 64) (n n' : Nat) (L : List Int)
    (he : (rnd (K.getD k 0) (ws.getD k 0) (steps ws s k)).list = L) : RMix1 w g gk gw gv s ws (.int .i64 ((k + 1 : Nat) : Int)) (((wr.drewN n).drewN n').setCells gv 0 (vals .u32 L)) := by
  subst he
  have hb : Below wr.heap.size wr ((wr.drewN n).drewN n') := ⟨rfl, rfl, rfl, Nat.le_refl _, fun _ _ => rfl⟩
  obtain ⟨h1, h2, h3, h4, h5, h6⟩ := h
  refine ⟨k + 1, by omega, rfl, below_sets hw _ _ _ (below_on' h1 hb (Nat.le_refl _)), (h2.on hb).apart _ _ _ (Or.inl hne.1), (h3.on hb).apart _ _ _ (Or.inl hne.2.1), (h4.on hb).apart _ _ _ (Or.inl hne.2.2.1), (h5.on hb).apart _ _ _ (Or.inl hne.2.2.2), ?_⟩
  exact Arr.put (h6.on hb).2

set_option maxRecDepth 100000 in
set_option maxHeartbeats 4000000 in
theorem rblock_st (s : St) (bs : List Int) (w : World) (hb : bs.length = 64) :
    Calls Tryd.prog 44 #[.agg (vals .u32 s.list).toArray, .agg (vals .u8 bs).toArray] w fun e w' => e = .returned (.agg (vals .u32 (List.zipWith addI s.list (steps (sched bs) s 64).list)).toArray) ∧ Below w.heap.size w w' := by
  have HL := hide hb
  have T := hide (fun x m w h2 h3 => rturn_int x m w h2 h3)
  clear hb
  go_enter Tryd.func44, Tryd.ntmps44
  go_upto_region 1 with fail
  obtain ⟨W, hW⟩ : ∃ W, W = (((w.alloc (.cells (vals .u32 s.list).toArray 74)).alloc (.cells (vals .u8 bs).toArray 76)).alloc (.cells #[.int .u32 0, .int .u32 0, .int .u32 0, .int .u32 0, .int .u32 0, .int .u32 0, .int .u32 0, .int .u32 0] 74)) := ⟨_, rfl⟩
  rw [← hW]
  have hst := Blocking.start w s bs #[.int .u32 0, .int .u32 0, .int .u32 0, .int .u32 0, .int .u32 0, .int .u32 0, .int .u32 0, .int .u32 0] rfl 74 76 74
  rw [← hW] at hst
  have HZ : Hid (W.heap.size = w.heap.size + 1 + 1 + 1) := hide (by rw [hW, alloc_size, alloc_size, alloc_size])
  clear hW
  have HST := hide hst
  clear hst
  generalize hg : w.heap.size = g at *
  have HGW := hide hg
  clear hg
  go_wp2_with fail
  refine (rconstants_any W).mono ?_
  rintro e w1 ⟨rfl, hbel1⟩
  have HB1 := hide hbel1
  have HT1 := hide (table_there w1)
  have KP := hide (table_kept w1)
  clear hbel1
  go_upto_region 2 with (refine wp_store_arr rfl 86 (.tmp 5) (.tmp 18) rfl _ 0 .u32 K rfl rfl 64 HT1.out info_w rfl ?_)
  generalize (w1.alloc (.cells #[.int .u32 0, .int .u32 0, .int .u32 0, .int .u32 0, .int .u32 0, .int .u32 0, .int .u32 0, .int .u32 0, .int .u32 0, .int .u32 0, .int .u32 0, .int .u32 0, .int .u32 0, .int .u32 0, .int .u32 0, .int .u32 0, .int .u32 0, .int .u32 0, .int .u32 0, .int .u32 0, .int .u32 0, .int .u32 0, .int .u32 0, .int .u32 0, .int .u32 0, .int .u32 0, .int .u32 0, .int .u32 0, .int .u32 0, .int .u32 0, .int .u32 0, .int .u32 0, .int .u32 0, .int .u32 0, .int .u32 0, .int .u32 0, .int .u32 0, .int .u32 0, .int .u32 0, .int .u32 0, .int .u32 0, .int .u32 0, .int .u32 0, .int .u32 0, .int .u32 0, .int .u32 0, .int .u32 0, .int .u32 0, .int .u32 0, .int .u32 0, .int .u32 0, .int .u32 0, .int .u32 0, .int .u32 0, .int .u32 0, .int .u32 0, .int .u32 0, .int .u32 0, .int .u32 0, .int .u32 0, .int .u32 0, .int .u32 0, .int .u32 0, .int .u32 0] 86)).setCells w1.heap.size 0 (vals .u32 K) = W2 at *
  have HS : Hid (RSt w g w1.heap.size W2.heap.size s bs 0 (W2.alloc (.cells #[.int .u32 0, .int .u32 0, .int .u32 0, .int .u32 0, .int .u32 0, .int .u32 0, .int .u32 0, .int .u32 0, .int .u32 0, .int .u32 0, .int .u32 0, .int .u32 0, .int .u32 0, .int .u32 0, .int .u32 0, .int .u32 0, .int .u32 0, .int .u32 0, .int .u32 0, .int .u32 0, .int .u32 0, .int .u32 0, .int .u32 0, .int .u32 0, .int .u32 0, .int .u32 0, .int .u32 0, .int .u32 0, .int .u32 0, .int .u32 0, .int .u32 0, .int .u32 0, .int .u32 0, .int .u32 0, .int .u32 0, .int .u32 0, .int .u32 0, .int .u32 0, .int .u32 0, .int .u32 0, .int .u32 0, .int .u32 0, .int .u32 0, .int .u32 0, .int .u32 0, .int .u32 0, .int .u32 0, .int .u32 0, .int .u32 0, .int .u32 0, .int .u32 0, .int .u32 0, .int .u32 0, .int .u32 0, .int .u32 0, .int .u32 0, .int .u32 0, .int .u32 0, .int .u32 0, .int .u32 0, .int .u32 0, .int .u32 0, .int .u32 0, .int .u32 0] 86))) := by
    have h12 := below_on' (Below.refl W.heap.size W) HB1.out (Nat.le_refl _)
    have h2 := below_on' h12 KP.out.1 (Nat.le_refl _)
    have h3 := h2.alloc h2.size (.cells #[.int .u32 0, .int .u32 0, .int .u32 0, .int .u32 0, .int .u32 0, .int .u32 0, .int .u32 0, .int .u32 0, .int .u32 0, .int .u32 0, .int .u32 0, .int .u32 0, .int .u32 0, .int .u32 0, .int .u32 0, .int .u32 0, .int .u32 0, .int .u32 0, .int .u32 0, .int .u32 0, .int .u32 0, .int .u32 0, .int .u32 0, .int .u32 0, .int .u32 0, .int .u32 0, .int .u32 0, .int .u32 0, .int .u32 0, .int .u32 0, .int .u32 0, .int .u32 0, .int .u32 0, .int .u32 0, .int .u32 0, .int .u32 0, .int .u32 0, .int .u32 0, .int .u32 0, .int .u32 0, .int .u32 0, .int .u32 0, .int .u32 0, .int .u32 0, .int .u32 0, .int .u32 0, .int .u32 0, .int .u32 0, .int .u32 0, .int .u32 0, .int .u32 0, .int .u32 0, .int .u32 0, .int .u32 0, .int .u32 0, .int .u32 0, .int .u32 0, .int .u32 0, .int .u32 0, .int .u32 0, .int .u32 0, .int .u32 0, .int .u32 0, .int .u32 0] 86)
    have hw : w.heap.size = g := HGW.out
    refine hide ⟨by rw [hw]; exact below_on' HST.out.1 h3 (by omega), HST.out.2.1.on h3, HST.out.2.2.1.on h3, HST.out.2.2.2.on h3, KP.out.2.1.alloc _, ?_⟩
    have := table_new W2
    exact this
  have HNE : Hid (g ≠ W2.heap.size ∧ g + 1 ≠ W2.heap.size ∧ g + 1 + 1 ≠ W2.heap.size ∧ w1.heap.size ≠ W2.heap.size ∧ g ≤ W2.heap.size) := hide (by
    have := HZ.out
    have := HB1.out.size
    have := KP.out.2.2
    omega)
  have HGK : Hid (w1.heap.size < W2.heap.size) := hide (by have := KP.out.2.2; omega)
  clear HST HB1 HT1 KP HZ
  generalize w1.heap.size = gk at *
  go_wp2
  generalize hgw : W2.heap.size = gw at *
  clear hgw
  go_loopw [19] (fun i wr => RSt1 w g gk gw s bs i wr) (fun i _ => 16 - (intOf i).toNat)
  case atStart => exact ⟨0, by omega, rfl, HS.out⟩
  case round =>
    clear HS
    obtain ⟨k, hk, rfl, hS⟩ := hrel
    by_cases hlt : k < 16
    · have R := hide (fun z hz => RSt.next hS (by rw [HGW.out]; exact HNE.out.2.2.2.2) ⟨HNE.out.1, HNE.out.2.1, HNE.out.2.2.1, HNE.out.2.2.2.1⟩ (by omega) z hz)
      obtain ⟨-, -, hB, -, -, hW⟩ := hS
      have c0 := hB.cell0 (4 * k) (by have := HL.out; omega)
      have c1 := hB.cell0 (4 * k + 1) (by have := HL.out; omega)
      have c2 := hB.cell0 (4 * k + 2) (by have := HL.out; omega)
      have c3 := hB.cell0 (4 * k + 3) (by have := HL.out; omega)
      have hkl : k < (padded (back bs k)).length := by rw [padded_length (by rw [back_length]; omega)]; omega
      have c4 := hW.cell0 k hkl
      have c5 := hW.free0 k hkl
      have HN : Hid (back bs (k + 1) = wordI (bs.getD (4 * k) 0) (bs.getD (4 * k + 1) 0) (bs.getD (4 * k + 2) 0) (bs.getD (4 * k + 3) 0) :: back bs k) := by
        refine hide ?_
        simp only [back, if_pos hlt]
      clear hB hW hkl
      generalize bs.getD (4 * k) 0 = x0 at *
      generalize bs.getD (4 * k + 1) 0 = x1 at *
      generalize bs.getD (4 * k + 2) 0 = x2 at *
      generalize bs.getD (4 * k + 3) 0 = x3 at *
      generalize (padded (back bs k)).getD k 0 = x4 at *
      obtain ⟨q0, hq0⟩ : ∃ q, q = 4 * k := ⟨_, rfl⟩
      obtain ⟨q1, hq1⟩ : ∃ q, q = 4 * k + 1 := ⟨_, rfl⟩
      obtain ⟨q2, hq2⟩ : ∃ q, q = 4 * k + 2 := ⟨_, rfl⟩
      obtain ⟨q3, hq3⟩ : ∃ q, q = 4 * k + 3 := ⟨_, rfl⟩
      rw [← hq0] at c0
      rw [← hq1] at c1
      rw [← hq2] at c2
      rw [← hq3] at c3
      have e0 : IntKind.i64.wrap (4 * (k : Int)) = (q0 : Int) := wrap_small (by omega) (by omega)
      have e1 : IntKind.i64.wrap ((q0 : Int) + 1) = (q1 : Int) := wrap_small (by omega) (by omega)
      have e2 : IntKind.i64.wrap ((q0 : Int) + 2) = (q2 : Int) := wrap_small (by omega) (by omega)
      have e3 : IntKind.i64.wrap ((q0 : Int) + 3) = (q3 : Int) := wrap_small (by omega) (by omega)
      have b0 : (q0 : Int) < 64 := by omega
      have b1 : (q1 : Int) < 64 := by omega
      have b2 : (q2 : Int) < 64 := by omega
      have b3 : (q3 : Int) < 64 := by omega
      have b4 : (k : Int) < 64 := by omega
      have HG : Hid (gw ≠ g + 1) := hide (Ne.symm HNE.out.2.1)
      clear hq0 hq1 hq2 hq3
      generalize hg1 : g + 1 = g1 at *
      go_wp2
      go_region_held3 (fun wx => wx.cell? ⟨g1, q0, none⟩ = some (.int .u8 x0) ∧ wx.cell? ⟨g1, q1, none⟩ = some (.int .u8 x1) ∧ wx.cell? ⟨g1, q2, none⟩ = some (.int .u8 x2) ∧ wx.cell? ⟨g1, q3, none⟩ = some (.int .u8 x3)) (first | exact ⟨cell_keep c0 HG.out, cell_keep c1 HG.out, cell_keep c2 HG.out, cell_keep c3 HG.out⟩ | (go_keep; done)) (fail)
      have RR : Hid (RSt1 w g gk gw s bs (.int .i64 ((k + 1 : Nat) : Int)) (wr.setCell ⟨gw, k, none⟩ (.int .u32 (wordI x0 x1 x2 x3))).drew) := hide ⟨k + 1, by omega, rfl, R.out _ HN.out⟩
      go_wp2
      go_roundw
      case rel => first | exact RR.out | ((repeat apply Exists.intro); exact ⟨RR.out, rfl⟩)
      case measure => simp [intOf]; omega
    · obtain rfl : k = 16 := by omega
      have HS := hide hS
      clear hS hlt hk
      go_wp2
      go_loopw [8] (fun i wr => RSt2 w g gk gw s bs i wr) (fun i _ => 64 - (intOf i).toNat)
      case atStart => exact ⟨16, by omega, by omega, rfl, HS.out⟩
      case round =>
        clear HS
        obtain ⟨k, hk0, hk, rfl, hS⟩ := hrel
        by_cases hlt : k < 64
        · have R := hide (fun (wx : World) (hx : RSt w g gk gw s bs k wx) (z : Int) (hz : back bs (k + 1) = z :: back bs k) => RSt.next hx (by rw [HGW.out]; exact HNE.out.2.2.2.2) ⟨HNE.out.1, HNE.out.2.1, HNE.out.2.2.1, HNE.out.2.2.2.1⟩ hlt z hz)
          have HS := hide hS
          obtain ⟨-, -, -, -, -, hW⟩ := hS
          have hl : (padded (back bs k)).length = 64 := by rw [padded_length (by rw [back_length]; omega)]
          obtain ⟨q2, hq2⟩ : ∃ q, q = k - 2 := ⟨_, rfl⟩
          obtain ⟨q7, hq7⟩ : ∃ q, q = k - 7 := ⟨_, rfl⟩
          obtain ⟨q15, hq15⟩ : ∃ q, q = k - 15 := ⟨_, rfl⟩
          obtain ⟨q16, hq16⟩ : ∃ q, q = k - 16 := ⟨_, rfl⟩
          have c2 := hW.cell0 q2 (by omega)
          have c7 := hW.cell0 q7 (by omega)
          have c15 := hW.cell0 q15 (by omega)
          have c16 := hW.cell0 q16 (by omega)
          have c4 := hW.cell0 k (by omega)
          have c5 := hW.free0 k (by omega)
          have hbl := back_length bs k
          have p2 := padded_get (l := back bs k) 1 (by omega)
          have p7 := padded_get (l := back bs k) 6 (by omega)
          have p15 := padded_get (l := back bs k) 14 (by omega)
          have p16 := padded_get (l := back bs k) 15 (by omega)
          rw [hbl, show k - 1 - 1 = q2 by omega] at p2
          rw [hbl, show k - 1 - 6 = q7 by omega] at p7
          rw [hbl, show k - 1 - 14 = q15 by omega] at p15
          rw [hbl, show k - 1 - 15 = q16 by omega] at p16
          have HN : Hid (back bs (k + 1) = nextI (back bs k) :: back bs k) := by
            refine hide ?_
            simp only [back, if_neg (show ¬ k < 16 by omega)]
          rw [show nextI (back bs k) = addI (addI (addI (low1 ((back bs k).getD 1 0)) ((back bs k).getD 6 0)) (low0 ((back bs k).getD 14 0))) ((back bs k).getD 15 0) from rfl, ← p2, ← p7, ← p15, ← p16] at HN
          clear hW hl hbl p2 p7 p15 p16
          generalize (padded (back bs k)).getD q2 0 = x2 at *
          generalize (padded (back bs k)).getD q7 0 = x7 at *
          generalize (padded (back bs k)).getD q15 0 = x15 at *
          generalize (padded (back bs k)).getD q16 0 = x16 at *
          generalize (padded (back bs k)).getD k 0 = x4 at *
          have e2 : IntKind.i64.wrap ((k : Int) - 2) = (q2 : Int) := wrap_small (by omega) (by omega)
          have e7 : IntKind.i64.wrap ((k : Int) - 7) = (q7 : Int) := wrap_small (by omega) (by omega)
          have e15 : IntKind.i64.wrap ((k : Int) - 15) = (q15 : Int) := wrap_small (by omega) (by omega)
          have e16 : IntKind.i64.wrap ((k : Int) - 16) = (q16 : Int) := wrap_small (by omega) (by omega)
          have d2 : (k : Int) - 2 = (q2 : Int) := by omega
          have d15 : (k : Int) - 15 = (q15 : Int) := by omega
          have b2 : (q2 : Int) < 64 := by omega
          have b7 : (q7 : Int) < 64 := by omega
          have b15 : (q15 : Int) < 64 := by omega
          have b16 : (q16 : Int) < 64 := by omega
          have b4 : (k : Int) < 64 := by omega
          have n2 : Hid (k ≠ q2 ∧ k ≠ q7 ∧ k ≠ q15 ∧ k ≠ q16) := hide (by omega)
          clear hq2 hq7 hq15 hq16
          go_wp2
          go_quiet ((go_at_call 51; exact Calls.quiet_of_same (T.out _ _ _ (by decide) (by decide))))
          have HQ1 : Hid (RSt w g gk gw s bs k (wr.drewN nq)) := hide (HS.out.on ⟨rfl, rfl, rfl, Nat.le_refl _, fun _ _ => rfl⟩)
          have r7 : (wr.drewN nq).cell? ⟨gw, q7, none⟩ = some (.int .u32 x7) := c7
          have r15 : (wr.drewN nq).cell? ⟨gw, q15, none⟩ = some (.int .u32 x15) := c15
          have r16 : (wr.drewN nq).cell? ⟨gw, q16, none⟩ = some (.int .u32 x16) := c16
          have r4 : (wr.drewN nq).cell? ⟨gw, k, none⟩ = some (.int .u32 x4) := c4
          have r5 : (wr.drewN nq).frozen? ⟨gw, k, none⟩ = false := c5
          clear c2 c7 c15 c16 c4 c5 HS d2 e2
          generalize wr.drewN nq = wq at *
          go_wp2_with fail
          go_quiet ((go_at_call 51; exact Calls.quiet_of_same (T.out _ _ _ (by decide) (by decide))))
          have HQ2 : Hid (RSt w g gk gw s bs k (wq.drewN nq)) := hide (HQ1.out.on ⟨rfl, rfl, rfl, Nat.le_refl _, fun _ _ => rfl⟩)
          have s7 : (wq.drewN nq).cell? ⟨gw, q7, none⟩ = some (.int .u32 x7) := r7
          have s16 : (wq.drewN nq).cell? ⟨gw, q16, none⟩ = some (.int .u32 x16) := r16
          have s4 : (wq.drewN nq).cell? ⟨gw, k, none⟩ = some (.int .u32 x4) := r4
          have s5 : (wq.drewN nq).frozen? ⟨gw, k, none⟩ = false := r5
          clear r7 r15 r16 r4 r5 HQ1 d15 e15
          generalize wq.drewN nq = wz at *
          go_wp2_with fail
          go_region_held3 (fun wx => wx.cell? ⟨gw, q7, none⟩ = some (.int .u32 x7) ∧ wx.cell? ⟨gw, q16, none⟩ = some (.int .u32 x16)) (first | exact ⟨cell_keep2 s7 n2.out.2.1, cell_keep2 s16 n2.out.2.2.2⟩ | (go_keep; done)) (fail)
          have RR : Hid (RSt2 w g gk gw s bs (.int .i64 ((k + 1 : Nat) : Int)) (wz.setCell ⟨gw, k, none⟩ (.int .u32 (addI (addI (addI (low1 x2) x7) (low0 x15)) x16))).drew) := hide ⟨k + 1, by omega, by omega, rfl, R.out _ HQ2.out _ HN.out⟩
          go_wp2
          go_roundw
          case rel => first | exact RR.out | ((repeat apply Exists.intro); exact ⟨RR.out, rfl⟩)
          case measure => simp [intOf]; omega
        · obtain rfl : k = 64 := by omega
          obtain ⟨hB, hA, -, hR, hKK, hW⟩ := hS
          rw [padded_full (back_length bs 64)] at hW
          have HB := hide hB
          have HA := hide hA
          have HR := hide hR
          have HKK := hide hKK
          have HW : Hid (Arr wr gw 0 .u32 (sched bs)) := hide hW
          have HWL : Hid ((sched bs).length = 64) := hide (by simp [sched, back_length])
          clear hB hA hR hKK hW hlt hk hk0
          generalize hws : sched bs = ws at *
          have HWS := hide hws
          clear hws
          have HT3 : Hid ((wr.alloc (.cells #[.int .u32 0, .int .u32 0, .int .u32 0, .int .u32 0, .int .u32 0, .int .u32 0, .int .u32 0, .int .u32 0] 74)).there wr.heap.size 0 8) := hide (by have := (Arr.newOf wr .u32 (List.replicate 8 0) 74 #[.int .u32 0, .int .u32 0, .int .u32 0, .int .u32 0, .int .u32 0, .int .u32 0, .int .u32 0, .int .u32 0] rfl).2; rwa [List.length_replicate] at this)
          go_upto_region 15 with (first | (refine wp_load_arr rfl 74 (.tmp 2) rfl _ 0 rfl .u32 s.list HA.out _ Tryd.underlying74 rfl 8 info_s rfl ?_) | (refine wp_store_arr rfl 74 (.tmp 11) (.tmp 107) rfl _ 0 .u32 s.list rfl rfl 8 HT3.out info_s rfl ?_))
          have HS : Hid (RMix w g gk gw wr.heap.size s ws 0 ((wr.alloc (.cells #[.int .u32 0, .int .u32 0, .int .u32 0, .int .u32 0, .int .u32 0, .int .u32 0, .int .u32 0, .int .u32 0] 74)).setCells wr.heap.size 0 (vals .u32 s.list))) := by
            have h1 := (Below.refl wr.heap.size wr).alloc (Nat.le_refl _) (.cells #[.int .u32 0, .int .u32 0, .int .u32 0, .int .u32 0, .int .u32 0, .int .u32 0, .int .u32 0, .int .u32 0] 74)
            have h2 := below_sets (Nat.le_refl _) (vals .u32 s.list) 0 _ h1
            exact hide ⟨below_on' HB.out h2 (Nat.le_refl _), HA.out.on h2, HR.out.on h2, HKK.out.on h2, HW.out.on h2, Arr.put HT3.out⟩
          have HNV : Hid (g ≠ wr.heap.size ∧ g + 1 + 1 ≠ wr.heap.size ∧ gk ≠ wr.heap.size ∧ gw ≠ wr.heap.size ∧ g ≤ wr.heap.size) := hide (by
            have h1 := HA.out.lt (by simp [St.list])
            have h2 := HR.out.lt (by simp)
            have h3 := HKK.out.lt (by simp [K])
            have h4 := HW.out.lt (by rw [HWL.out]; omega)
            omega)
          clear HB HA HR HKK HW HT3
          generalize (wr.alloc (.cells #[.int .u32 0, .int .u32 0, .int .u32 0, .int .u32 0, .int .u32 0, .int .u32 0, .int .u32 0, .int .u32 0] 74)).setCells wr.heap.size 0 (vals .u32 s.list) = W3 at *
          generalize wr.heap.size = gv at *
          go_wp2
          go_loopw [108] (fun i wr => RMix1 w g gk gw gv s ws i wr) (fun i _ => 64 - (intOf i).toNat)
          case atStart => exact ⟨0, by omega, rfl, HS.out⟩
          case round =>
            clear HS
            obtain ⟨k, hk, rfl, hS⟩ := hrel
            by_cases hlt : k < 64
            · have R : Hid (∀ (n n' : Nat) (L : List Int), (rnd (K.getD k 0) (ws.getD k 0) ⟨(steps ws s k).a, (steps ws s k).b, (steps ws s k).c, (steps ws s k).d, (steps ws s k).e, (steps ws s k).f, (steps ws s k).g, (steps ws s k).h⟩).list = L → RMix1 w g gk gw gv s ws (.int .i64 ((k + 1 : Nat) : Int)) (((wr.drewN n).drewN n').setCells gv 0 (vals .u32 L))) := hide (fun n n' L he => RMix.next hS (by rw [HGW.out]; exact HNV.out.2.2.2.2) ⟨HNV.out.1, HNV.out.2.1, HNV.out.2.2.1, HNV.out.2.2.2.1⟩ hlt n n' L he)
              have HTV : Hid (wr.there gv 0 8) := hide (by have := hS.2.2.2.2.2.2; rwa [show (steps ws s k).list.length = 8 from rfl] at this)
              obtain ⟨-, -, -, hKc, hWc, hV⟩ := hS
              have c0 : wr.cell? ⟨gv, 0, none⟩ = some (.int .u32 (steps ws s k).a) := hV.cell0 0 (by simp [St.list])
              have c1 : wr.cell? ⟨gv, 1, none⟩ = some (.int .u32 (steps ws s k).b) := hV.cell0 1 (by simp [St.list])
              have c2 : wr.cell? ⟨gv, 2, none⟩ = some (.int .u32 (steps ws s k).c) := hV.cell0 2 (by simp [St.list])
              have c3 : wr.cell? ⟨gv, 3, none⟩ = some (.int .u32 (steps ws s k).d) := hV.cell0 3 (by simp [St.list])
              have c4 : wr.cell? ⟨gv, 4, none⟩ = some (.int .u32 (steps ws s k).e) := hV.cell0 4 (by simp [St.list])
              have c5 : wr.cell? ⟨gv, 5, none⟩ = some (.int .u32 (steps ws s k).f) := hV.cell0 5 (by simp [St.list])
              have c6 : wr.cell? ⟨gv, 6, none⟩ = some (.int .u32 (steps ws s k).g) := hV.cell0 6 (by simp [St.list])
              have c7 : wr.cell? ⟨gv, 7, none⟩ = some (.int .u32 (steps ws s k).h) := hV.cell0 7 (by simp [St.list])
              have ck := hKc.cell0 k (by simp [K]; omega)
              have cw := hWc.cell0 k (by rw [HWL.out]; omega)
              have bk : (k : Int) < 64 := by omega
              clear hKc hWc hV
              generalize ws.getD k 0 = x at *
              generalize K.getD k 0 = y at *
              generalize (steps ws s k).a = A at *
              generalize (steps ws s k).b = B at *
              generalize (steps ws s k).c = C at *
              generalize (steps ws s k).d = D at *
              generalize (steps ws s k).e = E at *
              generalize (steps ws s k).f = F at *
              generalize (steps ws s k).g = G at *
              generalize (steps ws s k).h = H at *
              go_wp2
              go_cut [14] (fun s14 wx => s14 = .int .u32 (pI y x ⟨A, B, C, D, E, F, G, H⟩) ∧ ∃ n, wx = wr.drewN n)
              case first =>
                go_quiet ((go_at_call 51; exact Calls.quiet_of_same (T.out _ _ _ (by decide) (by decide))))
                go_wp2_with fail
                go_meet
                case rel => exact ⟨by simp [pI, addI, xorI, andI, notI]; rfl, _, rfl⟩
              case rest =>
                obtain ⟨rfl, n, hwc⟩ := hcut
                obtain ⟨wd, hwd⟩ : ∃ wd, wd = wc := ⟨_, rfl⟩
                subst hwd
                have HWC := hide hwc
                have d0 : wd.cell? ⟨gv, 0, none⟩ = some (.int .u32 A) := by rw [hwc]; exact c0
                have d1 : wd.cell? ⟨gv, 1, none⟩ = some (.int .u32 B) := by rw [hwc]; exact c1
                have d2 : wd.cell? ⟨gv, 2, none⟩ = some (.int .u32 C) := by rw [hwc]; exact c2
                have d3 : wd.cell? ⟨gv, 3, none⟩ = some (.int .u32 D) := by rw [hwc]; exact c3
                have d4 : wd.cell? ⟨gv, 4, none⟩ = some (.int .u32 E) := by rw [hwc]; exact c4
                have d5 : wd.cell? ⟨gv, 5, none⟩ = some (.int .u32 F) := by rw [hwc]; exact c5
                have d6 : wd.cell? ⟨gv, 6, none⟩ = some (.int .u32 G) := by rw [hwc]; exact c6
                have d7 : wd.cell? ⟨gv, 7, none⟩ = some (.int .u32 H) := by rw [hwc]; exact c7
                have HTC : Hid (wd.there gv 0 8) := hide (by rw [hwc]; exact HTV.out)
                clear hwc HTV c0 c1 c2 c3 c4 c5 c6 c7 ck cw
                go_wp2
                go_cut [16] (fun s16 wx => s16 = .int .u32 (qI ⟨A, B, C, D, E, F, G, H⟩) ∧ ∃ n, wx = wd.drewN n)
                case first =>
                  go_quiet ((go_at_call 51; exact Calls.quiet_of_same (T.out _ _ _ (by decide) (by decide))))
                  go_wp2_with fail
                  go_meet
                  case rel => exact ⟨by simp [qI, addI, xorI, andI], _, rfl⟩
                case rest =>
                  obtain ⟨rfl, n', hwc'⟩ := hcut
                  have HWC' := hide hwc'
                  have f0 : wc.cell? ⟨gv, 0, none⟩ = some (.int .u32 A) := by rw [hwc']; exact d0
                  have f1 : wc.cell? ⟨gv, 1, none⟩ = some (.int .u32 B) := by rw [hwc']; exact d1
                  have f2 : wc.cell? ⟨gv, 2, none⟩ = some (.int .u32 C) := by rw [hwc']; exact d2
                  have f3 : wc.cell? ⟨gv, 3, none⟩ = some (.int .u32 D) := by rw [hwc']; exact d3
                  have f4 : wc.cell? ⟨gv, 4, none⟩ = some (.int .u32 E) := by rw [hwc']; exact d4
                  have f5 : wc.cell? ⟨gv, 5, none⟩ = some (.int .u32 F) := by rw [hwc']; exact d5
                  have f6 : wc.cell? ⟨gv, 6, none⟩ = some (.int .u32 G) := by rw [hwc']; exact d6
                  have f7 : wc.cell? ⟨gv, 7, none⟩ = some (.int .u32 H) := by rw [hwc']; exact d7
                  have HTF : Hid (wc.there gv 0 8) := hide (by rw [hwc']; exact HTC.out)
                  clear hwc' HTC d0 d1 d2 d3 d4 d5 d6 d7
                  have HE : Hid ((rnd y x ⟨A, B, C, D, E, F, G, H⟩).list = [addI (pI y x ⟨A, B, C, D, E, F, G, H⟩) (qI ⟨A, B, C, D, E, F, G, H⟩), A, B, C, addI D (pI y x ⟨A, B, C, D, E, F, G, H⟩), E, F, G]) := hide rfl
                  generalize pI y x ⟨A, B, C, D, E, F, G, H⟩ = PP at *
                  generalize qI ⟨A, B, C, D, E, F, G, H⟩ = QQ at *
                  have hPQ : (PP + QQ) % 4294967296 = addI PP QQ := rfl
                  have hDP : (D + PP) % 4294967296 = addI D PP := rfl
                  generalize addI PP QQ = PQ at *
                  generalize addI D PP = DP at *
                  have RR := hide (R.out n n' _ HE.out)
                  rw [← HWC.out, ← HWC'.out] at RR
                  have k0 : wc.frozen? ⟨gv, 0, none⟩ = false := by have := (HTF.out 0 (by omega)).2; rwa [Nat.zero_add] at this
                  have k1 : wc.frozen? ⟨gv, 1, none⟩ = false := by have := (HTF.out 1 (by omega)).2; rwa [Nat.zero_add] at this
                  have k2 : wc.frozen? ⟨gv, 2, none⟩ = false := by have := (HTF.out 2 (by omega)).2; rwa [Nat.zero_add] at this
                  have k3 : wc.frozen? ⟨gv, 3, none⟩ = false := by have := (HTF.out 3 (by omega)).2; rwa [Nat.zero_add] at this
                  have k4 : wc.frozen? ⟨gv, 4, none⟩ = false := by have := (HTF.out 4 (by omega)).2; rwa [Nat.zero_add] at this
                  have k5 : wc.frozen? ⟨gv, 5, none⟩ = false := by have := (HTF.out 5 (by omega)).2; rwa [Nat.zero_add] at this
                  have k6 : wc.frozen? ⟨gv, 6, none⟩ = false := by have := (HTF.out 6 (by omega)).2; rwa [Nat.zero_add] at this
                  have k7 : wc.frozen? ⟨gv, 7, none⟩ = false := by have := (HTF.out 7 (by omega)).2; rwa [Nat.zero_add] at this
                  simp only [World.setCells, vals, List.map_cons, List.map_nil] at RR
                  go_wp2
                  go_roundw
                  case rel => first | exact RR.out | ((repeat apply Exists.intro); exact ⟨RR.out, rfl⟩)
                  case measure => simp [intOf]; omega
            · obtain rfl : k = 64 := by omega
              obtain ⟨hB, hA, hR, -, -, hV⟩ := hS
              have HS4 : Hid (RAdd w g gv s.list (steps ws s 64).list (.int .i64 0) wr) := hide ⟨0, by omega, rfl, hB, by rw [part_zero]; exact hA, hR, hV⟩
              clear hB hA hR hV hlt hk
              generalize hM4 : steps ws s 64 = M at *
              have HM4 := hide hM4
              clear hM4
              go_wp2
              go_loopw [190] (fun i wr => RAdd w g gv s.list M.list i wr) (fun i _ => 8 - (intOf i).toNat)
              case atStart => exact HS4.out
              case round =>
                clear HS4
                obtain ⟨k, hk, rfl, hB, hA, hR, hV⟩ := hrel
                by_cases hlt : k < 8
                · have hpl : (part s.list M.list k).length = 8 := part_length s.list M.list rfl k (show k ≤ 8 by omega)
                  have c0 := hA.cell0 k (by omega)
                  have c1 := hA.free0 k (by omega)
                  have c2 := hV.cell0 k hlt
                  rw [part_get s.list M.list rfl k (show k < 8 from hlt)] at c0
                  have RR : Hid (RAdd w g gv s.list M.list (.int .i64 ((k + 1 : Nat) : Int)) (wr.setCell ⟨g, k, none⟩ (.int .u32 (addI (s.list.getD k 0) (M.list.getD k 0)))).drew) := by
                    refine hide ⟨k + 1, by omega, rfl, (hB.setCell (by rw [HGW.out]; exact Nat.le_refl _) _).drew, ?_, (hR.beside _ _ (Or.inl (by simp; omega))).drew, (hV.beside _ _ (Or.inl HNV.out.1)).drew⟩
                    rw [← part_set s.list M.list rfl k (show k < 8 from hlt)]
                    exact (hA.set0 k (by omega) _).drew
                  have hgv : Hid (g ≠ gv) := hide HNV.out.1
                  have bk : (k : Int) < 8 := by omega
                  clear hB hA hR hV hpl
                  generalize s.list.getD k 0 = x at *
                  generalize M.list.getD k 0 = y at *
                  go_wp2
                  go_region
                  go_wp2
                  go_roundw
                  case rel => first | exact RR.out | ((repeat apply Exists.intro); exact ⟨RR.out, rfl⟩)
                  case measure => simp [intOf]; omega
                · obtain rfl : k = 8 := by omega
                  rw [part_all s.list M.list rfl 8 rfl] at hA
                  have HA := hide hA
                  have HR : Hid (wr.there (g + 1 + 1) 0 8) := hide (by simpa using hR.2)
                  have HB := hide hB
                  clear hB hA hR hV hlt hk
                  generalize hL : List.zipWith addI s.list M.list = L at *
                  have HLN : Hid (L.length = 8) := hide (by rw [← hL]; rfl)
                  have HLL := hide hL
                  clear hL
                  go_wp2_with (first | (refine wp_load_arr rfl 74 (.tmp 2) rfl _ 0 rfl .u32 _ HA.out _ Tryd.underlying74 rfl 8 info_s HLN.out ?_) | (refine wp_store_arr rfl 74 (.tmp 4) (.tmp 202) rfl _ 0 .u32 L rfl rfl 8 HR.out info_s HLN.out ?_))
                  refine ret_arr 4 74 rfl _ 0 rfl .u32 L (Arr.put (by rw [HLN.out]; exact HR.out)) _ Tryd.underlying74 rfl 8 info_s HLN.out rfl ⟨?_, below_sets (by rw [HGW.out]; omega) _ _ _ HB.out⟩
                  rw [← HLL.out, ← HM4.out, HWS.out]

/-- pappusref03.Block. -/
theorem rblock_any (s bs : List Int) (w : World) (hs : s.length = 8) (hb : bs.length = 64) :
    Calls Tryd.prog 44 #[.agg (vals .u32 s).toArray, .agg (vals .u8 bs).toArray] w fun e w' => e = .returned (.agg (vals .u32 (blockI s bs)).toArray) ∧ Below w.heap.size w w' := by
  have := rblock_st (stOf s) bs w hb
  rw [St.of s hs] at this
  exact this

end Go.Proofs.YtbhninaaeeoamaaDoor
