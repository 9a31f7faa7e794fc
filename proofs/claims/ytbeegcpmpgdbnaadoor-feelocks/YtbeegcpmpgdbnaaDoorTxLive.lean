/-
  A transaction of one input and one output, and its rows as they are built. Nothing here speaks of one function.
-/
import Derived.Test.YtbeegcpmpgdbnaaDoorTxR
namespace Go.Proofs.YtbeegcpmpgdbnaaDoor
open Go.RowKit

/-- The second transaction. -/
def liveT : Tr := ⟨0, [⟨List.replicate 32 0, 0, [5]⟩], [⟨7, List.replicate 32 0⟩]⟩
theorem liveT_ok : TrOk liveT := by
  have hz : AllB (List.replicate 32 0) := fun z hz => by
    have := (List.mem_replicate.1 hz).2
    subst this
    exact ⟨by omega, by omega⟩
  refine ⟨⟨by decide, by decide⟩, fun x hx => ?_, fun x hx => ?_⟩
  · obtain rfl := List.mem_singleton.1 hx
    exact ⟨by simp, hz, ⟨by decide, by decide⟩, fun z hz => by obtain rfl := List.mem_singleton.1 hz; exact ⟨by omega, by omega⟩⟩
  · obtain rfl := List.mem_singleton.1 hx
    exact ⟨⟨by decide, by decide⟩, by simp, hz⟩
theorem liveT_form : formB liveT = true := by decide
/-- Its rows, as alive builds them. -/
theorem liveT_at (w : World) : TxAt ((((w.alloc (.cells #[.int .u8 5] 5)).alloc (.cells #[.int .u8 0, .int .u8 0, .int .u8 0, .int .u8 0, .int .u8 0, .int .u8 0, .int .u8 0, .int .u8 0, .int .u8 0, .int .u8 0, .int .u8 0, .int .u8 0, .int .u8 0, .int .u8 0, .int .u8 0, .int .u8 0, .int .u8 0, .int .u8 0, .int .u8 0, .int .u8 0, .int .u8 0, .int .u8 0, .int .u8 0, .int .u8 0, .int .u8 0, .int .u8 0, .int .u8 0, .int .u8 0, .int .u8 0, .int .u8 0, .int .u8 0, .int .u8 0, .int .u32 0, .slice (some ⟨w.heap.size, 0, none⟩) 1 1] 39)).alloc (.cells #[.int .u64 7, .int .u8 0, .int .u8 0, .int .u8 0, .int .u8 0, .int .u8 0, .int .u8 0, .int .u8 0, .int .u8 0, .int .u8 0, .int .u8 0, .int .u8 0, .int .u8 0, .int .u8 0, .int .u8 0, .int .u8 0, .int .u8 0, .int .u8 0, .int .u8 0, .int .u8 0, .int .u8 0, .int .u8 0, .int .u8 0, .int .u8 0, .int .u8 0, .int .u8 0, .int .u8 0, .int .u8 0, .int .u8 0, .int .u8 0, .int .u8 0, .int .u8 0, .int .u8 0] 60)).alloc (.cells #[.int .u32 0, .slice (some ⟨w.heap.size + 1, 0, none⟩) 1 1, .slice (some ⟨w.heap.size + 2, 0, none⟩) 1 1] 26))
    (.slice (some ⟨w.heap.size + 1, 0, none⟩) 1 1) (.slice (some ⟨w.heap.size + 2, 0, none⟩) 1 1) liveT := by
  have hb : ∀ (w : World) o, Below w.heap.size w (w.alloc o) := fun w o => (Below.refl _ _).alloc (Nat.le_refl _) _
  have k1 := Bytes.one w 5
  have r1 := range_new (w.alloc (.cells #[.int .u8 5] 5)) (inC (⟨List.replicate 32 0, 0, [5]⟩, .slice (some ⟨w.heap.size, 0, none⟩) 1 1)) 39
  have r2 := range_new ((w.alloc (.cells #[.int .u8 5] 5)).alloc (.cells #[.int .u8 0, .int .u8 0, .int .u8 0, .int .u8 0, .int .u8 0, .int .u8 0, .int .u8 0, .int .u8 0, .int .u8 0, .int .u8 0, .int .u8 0, .int .u8 0, .int .u8 0, .int .u8 0, .int .u8 0, .int .u8 0, .int .u8 0, .int .u8 0, .int .u8 0, .int .u8 0, .int .u8 0, .int .u8 0, .int .u8 0, .int .u8 0, .int .u8 0, .int .u8 0, .int .u8 0, .int .u8 0, .int .u8 0, .int .u8 0, .int .u8 0, .int .u8 0, .int .u32 0, .slice (some ⟨w.heap.size, 0, none⟩) 1 1] 39)) (outC ⟨7, List.replicate 32 0⟩) 60
  rw [alloc_size] at r1
  rw [alloc_size, alloc_size] at r2
  refine ⟨⟨[(⟨List.replicate 32 0, 0, [5]⟩, .slice (some ⟨w.heap.size, 0, none⟩) 1 1)], rfl, ⟨_, 1, rfl, by simp, by omega, by simp, fun _ => ⟨_, 0, rfl, fun i c hi => ?_⟩⟩, fun x hx => ?_⟩, ⟨_, 1, rfl, Nat.le_refl 1, by omega, by simp, fun _ => ⟨_, 0, rfl, fun i c hi => ?_⟩⟩⟩
  · rcases i with _ | i
    · simp only [List.map_cons, List.map_nil, List.getElem?_cons_zero, Option.some.injEq] at hi
      subst hi
      exact range_on (range_on r1 (hb _ _)) (hb _ _)
    · simp at hi
  · obtain rfl := List.mem_singleton.1 hx
    exact ((k1.below (hb _ _)).below (hb _ _)).below (hb _ _)
  · rcases i with _ | i
    · simp only [liveT, List.map_cons, List.map_nil, List.getElem?_cons_zero, Option.some.injEq] at hi
      subst hi
      exact range_on r2 (hb _ _)
    · simp [liveT] at hi

end Go.Proofs.YtbeegcpmpgdbnaaDoor
