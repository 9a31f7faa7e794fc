/-
  What coin.New answers at this program, whatever the coins.
-/
import Derived.Test.YtkemdfikcmgaaaaCoPut
namespace Go.Proofs.Ytkemdfikcmgaaaa
open Go.RowKit

theorem RowAt.heap {w w' : World} {s : Nat} {v : Value} {C : List (List Value)} (h : RowAt w s v C) (e : w.heap = w'.heap) : RowAt w' s v C :=
  h.keeps (P := fun _ => True) (fun _ _ => trivial) w' fun g _ _ => by rw [e]
theorem CnsAt.old {P : Nat → Prop} {w0 w : World} {v : Value} {L : List Cn} (h : CnsAt w0 v L) (hb : Below w0.heap.size w0 w) (hP : ∀ g, g < w0.heap.size → P g) : Keeps P w fun w => CnsAt w v L :=
  keeps_old (fun _ hb' => h.on hb') hb (fun _ _ e k => RowAt.heap k e) hP
theorem PsAt.old {P : Nat → Prop} {w0 w : World} {v : Value} {L : List Pt} (h : PsAt w0 v L) (hb : Below w0.heap.size w0 w) (hP : ∀ g, g < w0.heap.size → P g) : Keeps P w fun w => PsAt w v L :=
  keeps_old (fun _ hb' => h.on hb') hb (fun _ _ e k => RowAt.heap k e) hP
theorem set_new (w : World) : SetAt (w.alloc (.cells #[.map none] 67)) w.heap.size none [] := by
  refine ⟨?_, frozen_of_row _ _ _ _ _ (heap_alloc_new w _), fun _ => rfl, fun k hk => by cases hk⟩
  exact range_new w [.map none] 67 0 _ rfl
set_option maxRecDepth 100000 in
set_option maxHeartbeats 1000000 in
theorem new_ok (L : List Cn) (v : Value) (w : World) (hv : CnsAt w v L) (hok : ∀ c ∈ L, CnOk c) (hn : L.length ≤ 1000) (hN : (L.map Cn.pt).Nodup) :
    Calls Try.prog 11 #[v] w fun e w' => ∃ b k, e = .returned (.tuple #[.pointer (some ⟨b, 0, none⟩), .int .i64 0]) ∧ SetAt w' b (some k) L ∧ w.heap.size ≤ b ∧ w.heap.size ≤ k ∧ Below w.heap.size w w' := by
  have hb0 := below_new w (.cells #[.map none] 67)
  have CP := hide (put_ok _ _ _ _ (set_new w) L v (hv.old hb0 fun g hg => ⟨by omega, by simp; omega⟩) hok hn (by simp) hN (by simp))
  have HSZ : Hid ((w.alloc (.cells #[.map none] 67)).heap.size = w.heap.size + 1) := hide (alloc_size _ _)
  have HB0 := hide hb0
  obtain ⟨a, cap, rfl, hc1, hc2⟩ := hv.form
  clear hv hok hN hb0
  go_enter Try.func11, Try.ntmps11
  go_upto_region 2 with fail
  generalize w.alloc (.cells #[.map none] 67) = W at *
  generalize hg : w.heap.size = g at *
  have HG := hide hg
  clear hg
  go_wp2_with (go_at_call 12; refine CP.out.mono ?_; rintro e w1 ⟨rfl, k, hset, hm, hbes⟩; have HS := hide hset; have HM := hide hm; have HBES := hide hbes; clear hset hm hbes)
  go_ret2
  have h1 := HSZ.out
  have hk : g ≤ k := by
    rcases HM.out with e | ⟨-, h⟩
    · cases e
    · omega
  have hset := HS.out
  rw [List.nil_append] at hset
  refine ⟨g, k, rfl, hset, by have := HG.out; omega, by have := HG.out; omega, ?_⟩
  have h2 := HB0.out
  rw [HG.out]
  exact h2.trans (HBES.out.ground (Nat.le_refl _) (Nat.le_refl _) (by omega))
set_option maxRecDepth 100000 in
set_option maxHeartbeats 1000000 in
theorem new_twice (L : List Cn) (v : Value) (w : World) (hv : CnsAt w v L) (hok : ∀ c ∈ L, CnOk c) (hn : L.length ≤ 1000) (hN : ¬ (L.map Cn.pt).Nodup) :
    Calls Try.prog 11 #[v] w fun e w' => e = .returned (.tuple #[.pointer none, .int .i64 12]) ∧ Below w.heap.size w w' := by
  have hb0 := below_new w (.cells #[.map none] 67)
  have CP := hide (put_twice _ _ _ _ (set_new w) L v (hv.on hb0) hok hn hN)
  have HB0 := hide hb0
  obtain ⟨a, cap, rfl, hc1, hc2⟩ := hv.form
  clear hv hok hN hb0
  go_enter Try.func11, Try.ntmps11
  go_upto_region 2 with fail
  generalize w.alloc (.cells #[.map none] 67) = W at *
  generalize hg : w.heap.size = g at *
  have HG := hide hg
  clear hg
  go_wp2_with (go_at_call 12; refine CP.out.mono ?_; rintro e w1 ⟨rfl, hb1⟩; have HB1 := hide hb1; clear hb1)
  go_ret2
  have h2 := HB0.out
  rw [← HG.out] at h2
  exact ⟨rfl, below_on h2 HB1.out⟩

end Go.Proofs.Ytkemdfikcmgaaaa
