/-
  What coin.Set's Copy answers at this program, whatever the set.
-/
import Derived.Test.YtkemdfikcmgaaaaCoSet
import Derived.Test.YtkemdfikcmgaaaaCoCloneL
namespace Go.Proofs.Ytkemdfikcmgaaaa
open Go.RowKit Go.Shelf

set_option maxRecDepth 100000 in
set_option maxHeartbeats 1000000 in
theorem copy_any (w : World) (b k : Nat) (C : List Cn) (h : SetAt w b (some k) C) :
    Calls Try.prog 25 #[.pointer (some ⟨b, 0, none⟩)] w fun e w' => ∃ b' k', e = .returned (.pointer (some ⟨b', 0, none⟩)) ∧ SetAt w' b' (some k') C ∧ w.heap.size ≤ b' ∧ w.heap.size ≤ k' ∧ Below w.heap.size w w' := by
  obtain ⟨es, hown, hperm, hN, hC⟩ := (h.2.2.2 k rfl).2
  have HR := hide (show _ ∧ _ ∧ _ from ⟨hperm, hN, hC⟩)
  have hcon := AnyW.maps_Clone_owns Try.cloneCo 47 outElem k es.length (.map es) w hown
  change Calls Try.prog 34 _ _ _ at hcon
  have CC := hide hcon
  have c0 := h.1
  clear h hown hperm hN hC hcon
  go_enter Try.func25, Try.ntmps25
  go_wp2_with (go_at_call 34; refine CC.out.mono ?_; rintro e w1 ⟨rfl, h1, -, hB⟩; have HO := hide h1; have HB := hide hB; clear h1 hB)
  go_ret
  have hb := below_new w1 (.cells #[.map (some w.heap.size)] 67)
  have hs := HB.out.size
  have hlt := HO.out.lt
  refine ⟨_, w.heap.size, rfl, ⟨range_new w1 [.map (some w.heap.size)] 67 0 _ rfl, frozen_of_row _ _ _ _ _ (heap_alloc_new w1 _), fun e => (by cases e), fun y hy => ?_⟩, by omega, Nat.le_refl _, below_on HB.out hb⟩
  cases hy
  refine ⟨by omega, MapAt.heap (w := w1) ⟨es, HO.out, HR.out⟩ (hb.block _ hlt)⟩

end Go.Proofs.Ytkemdfikcmgaaaa
