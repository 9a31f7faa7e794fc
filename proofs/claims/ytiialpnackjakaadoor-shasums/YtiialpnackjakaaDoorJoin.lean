/-
  What pappusref03.Join answers at this program.
-/
import Derived.Test.YtiialpnackjakaaDoorShaApi
namespace Go.Proofs.YtiialpnackjakaaDoor
open Go.RowKit

/-- What holds at the head of a round of Join. -/
def Joining (w : World) (L : List (List Int)) (v i : Value) (wr : World) : Prop := ∃ k : Nat, k ≤ L.length ∧ i = .int .i64 k ∧ Own wr w.heap.size v (L.take k).flatten ∧ Below w.heap.size w wr

set_option maxRecDepth 100000 in
set_option maxHeartbeats 1000000 in
theorem rjoin_any (L : List (List Int)) (v : Value) (w : World) (hv : Parts w v L) (hsz : L.flatten.length ≤ 900000) :
    Calls Tryd.prog 7 #[v] w fun e w' => ∃ v', e = .returned v' ∧ Own w' w.heap.size v' L.flatten ∧ Below w.heap.size w w' := by
  have HV := hide hv
  have HS := hide hsz
  obtain ⟨a, cap, rfl, hc1, hc2⟩ := hv.form
  have HW : Hid (Joining w L (.slice none 0 0) (.int .i64 0) w) := hide ⟨0, by omega, rfl, by simpa using Own.nil w w.heap.size, Below.refl _ _⟩
  clear hv hsz
  go_enter Tryd.func7, Tryd.ntmps7
  go_wp2
  go_loopw [3, 8] (fun v i wr => Joining w L v i wr) (fun _ i _ => L.length - (intOf i).toNat)
  case atStart => exact HW.out
  case round =>
    clear HW
    obtain ⟨k, hk, rfl, hO, hB⟩ := hrel
    obtain ⟨T, hT⟩ : ∃ T, T = (L.take k).flatten := ⟨_, rfl⟩
    rw [← hT] at hO
    have HT := hide hT
    have HO := hide hO
    have HB := hide hB
    obtain ⟨a1, cap1, rfl, -, -⟩ := hO.bytes.form
    clear hO hB hT
    by_cases hlt : k < L.length
    · obtain ⟨b, off, cap', e, -, -, hc⟩ := HV.out.lies (by omega)
      simp only [Value.slice.injEq, true_and] at e
      obtain ⟨rfl, rfl⟩ := e
      obtain ⟨p, hp, hq⟩ := hc k hlt
      have hcell : wr.cell? ⟨b, off + k, none⟩ = some p := (HB.out.cell (p := ⟨b, off + k, none⟩) (World.block_lt_of_cell? _ _ hp)).trans hp
      have HQ := hide (hq.below HB.out)
      have HSZ : Hid ((L.take k).flatten.length + (L.getD k []).length ≤ 1000000) := hide (by have := flat_more L k hlt; have := HS.out; omega)
      have hk1 : (k : Int) < (L.length : Int) := by omega
      have HFP := hide (flat_part L k hlt)
      rw [← HT.out] at HSZ HFP
      generalize L.getD k [] = Q at *
      obtain ⟨pa, pc, rfl, -, -⟩ := hq.form
      clear hc hp hq
      go_wp2_with (at_builtin; refine wp_append rfl (.tmp 12) (.tmp 13) rfl w.heap.size _ _ rfl HO.out _ _ rfl HQ.out HSZ.out HB.out.size ?_)
      intro v' w' ho' hb'
      have R : Hid (Joining w L v' (.int .i64 ((k + 1 : Nat) : Int)) w') := by
        rw [← HFP.out] at ho'
        exact hide ⟨k + 1, by omega, rfl, ho', HB.out.trans hb'⟩
      clear ho' hb'
      go_wp2
      go_roundw
      case rel => first | exact R.out | ((repeat apply Exists.intro); exact ⟨R.out, rfl⟩)
      case measure => simp [intOf]; omega
    · have hk2 : (L.length : Int) ≤ (k : Int) := by omega
      have hTL : T = L.flatten := by rw [HT.out, List.take_of_length_le (by omega)]
      have HTL := hide hTL
      clear hTL
      go_wp2
      go_ret
      refine ⟨_, rfl, ?_, HB.out⟩
      rw [← HTL.out]
      exact HO.out

end Go.Proofs.YtiialpnackjakaaDoor
