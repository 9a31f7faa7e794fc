/-
  What sha.mix answers at this program, where the table of constants holds.
-/
import Derived.Test.YtbhninaaeeoamabDoorArrWalk
import Derived.Test.YtbhninaaeeoamabDoorShaTurn
import Derived.Deep.RegionHeld3
import Derived.BigQuiet
import Derived.WalkLawsBesides
namespace Go.Proofs.YtbhninaaeeoamabDoor
open Go.RowKit

/-- The program's table of constants, as it was laid. -/
def Ks (w : World) : Prop := ∀ i, i < 64 → w.cell? ⟨2, i, none⟩ = some (.int .u32 (K.getD i 0))
theorem Ks.on {w w' : World} (h : Ks w) (hb : Below w.heap.size w w') : Ks w' := fun i hi => (hb.cell (World.block_lt_of_cell? _ _ (h i hi))).trans (h i hi)
theorem Ks.lt {w : World} (h : Ks w) : 2 < w.heap.size := World.block_lt_of_cell? _ _ (h 0 (by omega))

/-- What holds at the head of a round. -/
def Mixing (w : World) (ws : List Int) (s : St) (a b c d e f g h i : Value) (wr : World) : Prop :=
  ∃ k : Nat, k ≤ 64 ∧ i = .int .i64 k ∧ a = .int .u32 (steps ws s k).a ∧ b = .int .u32 (steps ws s k).b ∧ c = .int .u32 (steps ws s k).c ∧ d = .int .u32 (steps ws s k).d ∧
    e = .int .u32 (steps ws s k).e ∧ f = .int .u32 (steps ws s k).f ∧ g = .int .u32 (steps ws s k).g ∧ h = .int .u32 (steps ws s k).h ∧
    Below w.heap.size w wr ∧ Arr wr (w.heap.size + 1) 0 .u32 ws ∧ Arr wr (w.heap.size + 1 + 1) 0 .u32 (List.replicate 8 0)

theorem Mixing.next {w wr : World} {ws : List Int} {s : St} {k : Nat} (hk : k < 64) (hbel : Below w.heap.size w wr) (hW : Arr wr (w.heap.size + 1) 0 .u32 ws) (hR : Arr wr (w.heap.size + 1 + 1) 0 .u32 (List.replicate 8 0)) (n : Nat)
    (A B C D E F G H : Int) (he : rnd (K.getD k 0) (ws.getD k 0) (steps ws s k) = ⟨A, B, C, D, E, F, G, H⟩) :
    Mixing w ws s (.int .u32 A) (.int .u32 B) (.int .u32 C) (.int .u32 D) (.int .u32 E) (.int .u32 F) (.int .u32 G) (.int .u32 H) (.int .i64 ((k + 1 : Nat) : Int)) (wr.drewN n) := by
  have hb : Below wr.heap.size wr (wr.drewN n) := ⟨rfl, rfl, rfl, Nat.le_refl _, fun _ _ => rfl⟩
  have hs : steps ws s (k + 1) = ⟨A, B, C, D, E, F, G, H⟩ := he
  refine ⟨k + 1, by omega, rfl, ?_⟩
  rw [hs]
  exact ⟨rfl, rfl, rfl, rfl, rfl, rfl, rfl, rfl, below_on' hbel hb (Nat.le_refl _), hW.on hb, hR.on hb⟩
theorem Mixing.start (w : World) (s : St) (ws : List Int) (cs : Array Value) (hc : cs = (vals .u32 (List.replicate 8 0)).toArray) (t t' t'' : TypeId) :
    Below w.heap.size w (((w.alloc (.cells (vals .u32 s.list).toArray t)).alloc (.cells (vals .u32 ws).toArray t')).alloc (.cells cs t'')) ∧
    Arr (((w.alloc (.cells (vals .u32 s.list).toArray t)).alloc (.cells (vals .u32 ws).toArray t')).alloc (.cells cs t'')) w.heap.size 0 .u32 s.list ∧
    Arr (((w.alloc (.cells (vals .u32 s.list).toArray t)).alloc (.cells (vals .u32 ws).toArray t')).alloc (.cells cs t'')) (w.heap.size + 1) 0 .u32 ws ∧
    Arr (((w.alloc (.cells (vals .u32 s.list).toArray t)).alloc (.cells (vals .u32 ws).toArray t')).alloc (.cells cs t'')) (w.heap.size + 1 + 1) 0 .u32 (List.replicate 8 0) := by
  subst hc
  refine ⟨(((Below.refl _ _).alloc (Nat.le_refl _) _).alloc (by rw [alloc_size]; omega) _).alloc (by rw [alloc_size, alloc_size]; omega) _, ((Arr.new w .u32 s.list t).alloc _).alloc _, ?_, ?_⟩
  · have := (Arr.new (w.alloc (.cells (vals .u32 s.list).toArray t)) .u32 ws t').alloc (.cells (vals .u32 (List.replicate 8 0)).toArray t'')
    rwa [alloc_size] at this
  · have := Arr.new ((w.alloc (.cells (vals .u32 s.list).toArray t)).alloc (.cells (vals .u32 ws).toArray t')) .u32 (List.replicate 8 0) t''
    rwa [alloc_size, alloc_size] at this
theorem info_s : (Tryd.prog.info? 66).map (·.size) = some 8 := by kernel_rfl

set_option maxRecDepth 100000 in
set_option maxHeartbeats 1000000 in
theorem mix_any (s : St) (ws : List Int) (w : World) (hw : ws.length = 64) (hk : Ks w) :
    Calls Tryd.prog 41 #[.agg (vals .u32 s.list).toArray, .agg (vals .u32 ws).toArray] w fun e w' => e = .returned (.agg (vals .u32 (steps ws s 64).list).toArray) ∧ Below w.heap.size w w' := by
  have HK := hide hk
  have HW := hide hw
  have hk0 := hk.lt
  have T := hide (fun x m w h2 h3 => turn_int x m w h2 h3)
  clear hk hw
  go_enter Tryd.func41, Tryd.ntmps41
  go_wp2
  obtain ⟨W, hW⟩ : ∃ W, W = (((w.alloc (.cells (vals .u32 s.list).toArray 66)).alloc (.cells (vals .u32 ws).toArray 82)).alloc (.cells #[.int .u32 0, .int .u32 0, .int .u32 0, .int .u32 0, .int .u32 0, .int .u32 0, .int .u32 0, .int .u32 0] 66)) := ⟨_, rfl⟩
  rw [← hW]
  have hst := Mixing.start w s ws #[.int .u32 0, .int .u32 0, .int .u32 0, .int .u32 0, .int .u32 0, .int .u32 0, .int .u32 0, .int .u32 0] rfl 66 82 66
  rw [← hW] at hst
  obtain ⟨hbel, hA, hWs, hR⟩ := hst
  clear hW
  have c0 : W.cell? ⟨w.heap.size, 0, none⟩ = some (.int .u32 s.a) := hA.cell0 0 (by simp [St.list])
  have c1 : W.cell? ⟨w.heap.size, 1, none⟩ = some (.int .u32 s.b) := hA.cell0 1 (by simp [St.list])
  have c2 : W.cell? ⟨w.heap.size, 2, none⟩ = some (.int .u32 s.c) := hA.cell0 2 (by simp [St.list])
  have c3 : W.cell? ⟨w.heap.size, 3, none⟩ = some (.int .u32 s.d) := hA.cell0 3 (by simp [St.list])
  have c4 : W.cell? ⟨w.heap.size, 4, none⟩ = some (.int .u32 s.e) := hA.cell0 4 (by simp [St.list])
  have c5 : W.cell? ⟨w.heap.size, 5, none⟩ = some (.int .u32 s.f) := hA.cell0 5 (by simp [St.list])
  have c6 : W.cell? ⟨w.heap.size, 6, none⟩ = some (.int .u32 s.g) := hA.cell0 6 (by simp [St.list])
  have c7 : W.cell? ⟨w.heap.size, 7, none⟩ = some (.int .u32 s.h) := hA.cell0 7 (by simp [St.list])
  have HB := hide hbel
  have HA := hide (And.intro hWs hR)
  clear hbel hA hWs hR
  go_quiet (fail)
  have HS : Hid (Mixing w ws s (.int .u32 s.a) (.int .u32 s.b) (.int .u32 s.c) (.int .u32 s.d) (.int .u32 s.e) (.int .u32 s.f) (.int .u32 s.g) (.int .u32 s.h) (.int .i64 ((0 : Nat) : Int)) (W.drewN nq)) := by
    have hb : Below W.heap.size W (W.drewN nq) := ⟨rfl, rfl, rfl, Nat.le_refl _, fun _ _ => rfl⟩
    exact hide ⟨0, by omega, rfl, rfl, rfl, rfl, rfl, rfl, rfl, rfl, rfl, below_on' HB.out hb (Nat.le_refl _), HA.out.1.on hb, HA.out.2.on hb⟩
  clear c0 c1 c2 c3 c4 c5 c6 c7 HB HA
  go_wp2
  go_loopw [5, 6, 7, 8, 9, 10, 11, 12, 32] (fun a b c d e f g h i wr => Mixing w ws s a b c d e f g h i wr) (fun _ _ _ _ _ _ _ _ i _ => 64 - (intOf i).toNat)
  case atStart => exact HS.out
  case round =>
    clear HS
    obtain ⟨k, hk, rfl, rfl, rfl, rfl, rfl, rfl, rfl, rfl, rfl, hbel, hWs, hR⟩ := hrel
    by_cases hlt : k < 64
    · have R : Hid (∀ (n : Nat) (A B C D E F G H : Int), rnd (K.getD k 0) (ws.getD k 0) ⟨(steps ws s k).a, (steps ws s k).b, (steps ws s k).c, (steps ws s k).d, (steps ws s k).e, (steps ws s k).f, (steps ws s k).g, (steps ws s k).h⟩ = ⟨A, B, C, D, E, F, G, H⟩ →
          Mixing w ws s (.int .u32 A) (.int .u32 B) (.int .u32 C) (.int .u32 D) (.int .u32 E) (.int .u32 F) (.int .u32 G) (.int .u32 H) (.int .i64 ((k + 1 : Nat) : Int)) (wr.drewN n)) := hide (fun n A B C D E F G H he => Mixing.next (s := s) hlt hbel hWs hR n A B C D E F G H he)
      have cw := hWs.cell0 k (by have := HW.out; omega)
      have ck : wr.cell? ⟨2, k, none⟩ = some (.int .u32 (K.getD k 0)) := (hbel.cell (p := ⟨2, k, none⟩) hk0).trans (HK.out k hlt)
      have bk : (k : Int) < 64 := by omega
      clear hbel hWs hR
      generalize ws.getD k 0 = x at *
      generalize K.getD k 0 = y at *
      generalize (steps ws s k).a = A at *
      generalize (steps ws s k).b = B at *
      generalize (steps ws s k).c = C at *
      generalize (steps ws s k).d = D at *
      generalize (steps ws s k).e = E at *
      generalize (steps ws s k).f = F at *
      generalize (steps ws s k).g = G at *
      generalize (steps ws s k).h = H at *
      go_wp2
      go_quiet ((go_at_call 43; exact Calls.quiet_of_same (T.out _ _ _ (by decide) (by decide))))
      go_wp2_with (go_at_call 43; refine (T.out _ _ _ (by decide) (by decide)).mono ?_; rintro e w1 ⟨rfl, rfl⟩)
      go_roundw
      case rel =>
        refine (show Mixing w ws s (.int .u32 _) (.int .u32 _) (.int .u32 _) (.int .u32 _) (.int .u32 _) (.int .u32 _) (.int .u32 _) (.int .u32 _) (.int .i64 ((k + 1 : Nat) : Int)) _ from R.out _ _ _ _ _ _ _ _ _ ?_)
        simp [rnd, pI, qI, addI, xorI, andI, notI]
      case measure => simp [intOf]; omega
    · obtain rfl : k = 64 := by omega
      have HR : Hid (wr.there (w.heap.size + 1 + 1) 0 8) := hide (by simpa using hR.2)
      have HB := hide hbel
      clear hlt hk hbel hWs hR
      generalize hS : steps ws s 64 = S at *
      have HSS := hide hS
      clear hS
      go_wp2_with (first | (refine wp_store_arr rfl 66 (.tmp 4) (.tmp 103) rfl _ 0 .u32 S.list rfl rfl 8 HR.out info_s rfl ?_))
      refine ret_arr 4 66 rfl _ 0 rfl .u32 S.list (Arr.put (by exact HR.out)) _ Tryd.underlying66 rfl 8 info_s rfl rfl ⟨by rw [HSS.out], below_sets (by omega) _ _ _ HB.out⟩

end Go.Proofs.YtbhninaaeeoamabDoor
