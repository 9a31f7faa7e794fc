/-
  What pappuslaw06.great answers at this program: where it says no, the pieces are few.
-/
import Derived.Test.YtnjbjgjhomfndaaDoorKit
import Derived.Test.YtnjbjgjhomfndaaDoorShaB
namespace Go.Proofs.YtnjbjgjhomfndaaDoor
open Go.RowKit

/-- What holds at the head of a round of great. -/
def Greating (L : List (List Int)) (n i : Value) : Prop := ∃ k : Nat, k ≤ L.length ∧ i = .int .i64 k ∧ n = .int .i64 ((L.take k).flatten.length : Nat) ∧ (L.take k).flatten.length ≤ 20000
/-- What great comes to. -/
def GreatDone (w : World) (L : List (List Int)) (e : Ending) (w' : World) : Prop := ∃ g : Bool, e = .returned (.bool g) ∧ w' = w ∧ (g = false → L.length ≤ 300 ∧ L.flatten.length ≤ 20000)

set_option maxRecDepth 100000 in
set_option maxHeartbeats 1000000 in
theorem great_any (L : List (List Int)) (v : Value) (w : World) (hv : Parts w v L) :
    Calls Tryd.prog 10 #[v] w fun e w' => GreatDone w L e w' := by
  have HV := hide hv
  obtain ⟨a, cap, rfl, hc1, hc2⟩ := hv.form
  have HT : Hid (GreatDone w L (.returned (.bool true)) w) := hide ⟨true, rfl, rfl, fun h => by cases h⟩
  clear hv
  by_cases hbig : 300 < L.length
  · have hb : (300 : Int) < (L.length : Int) := by omega
    go_enter Tryd.func10, Tryd.ntmps10
    go_wp2
    go_ret
    exact HT.out
  · have hb : ¬ (300 : Int) < (L.length : Int) := by omega
    go_enter Tryd.func10, Tryd.ntmps10
    go_wp2
    go_loop [3, 11] (fun n i => Greating L n i) (fun _ i => L.length - (intOf i).toNat)
    case atStart => exact ⟨0, by omega, rfl, rfl, by simp⟩
    case round =>
      obtain ⟨k, hk, rfl, rfl, hT⟩ := hrel
      by_cases hlt : k < L.length
      · obtain ⟨b, off, cap', e, -, -, hc⟩ := HV.out.lies (by omega)
        simp only [Value.slice.injEq, true_and] at e
        obtain ⟨rfl, rfl⟩ := e
        obtain ⟨p, hp, hq⟩ := hc k hlt
        have hk1 : (k : Int) < (L.length : Int) := by omega
        have hfp := congrArg List.length (flat_part L k hlt)
        rw [List.length_append] at hfp
        have R : Hid ((L.take k).flatten.length + (L.getD k []).length ≤ 20000 → Greating L (.int .i64 (((L.take k).flatten.length : Int) + ((L.getD k []).length : Int))) (.int .i64 ((k + 1 : Nat) : Int))) := hide (fun h => ⟨k + 1, by omega, rfl, by rw [hfp]; simp, by omega⟩)
        obtain ⟨T, hTT⟩ : ∃ T, T = (L.take k).flatten.length := ⟨_, rfl⟩
        rw [← hTT] at R hT ⊢
        clear hfp hc hTT
        generalize L.getD k [] = Q at *
        obtain ⟨pa, pc, rfl, hp1, hp2⟩ := hq.form
        clear hq
        by_cases hq1 : 20001 < Q.length
        · have e1 : (if (20001 : Int) < (Q.length : Int) then (20001 : Int) else (Q.length : Int)) = 20001 := if_pos (by omega)
          have h3 : (20000 : Int) < (T : Int) + 20001 := by omega
          clear R
          go_wp2
          go_ret
          exact HT.out
        · have e1 : (if (20001 : Int) < (Q.length : Int) then (20001 : Int) else (Q.length : Int)) = (Q.length : Int) := if_neg (by omega)
          have e2 : (Q.length : Int) ≤ 20001 := by omega
          by_cases hq2 : 20000 < T + Q.length
          · have h3 : (20000 : Int) < (T : Int) + (Q.length : Int) := by omega
            clear R
            go_wp2
            go_ret
            exact HT.out
          · have h3 : (T : Int) + (Q.length : Int) ≤ 20000 := by omega
            have R2 := hide (R.out (by omega))
            clear R hq2
            go_wp2
            go_round
            case rel => first | exact R2.out | ((repeat apply Exists.intro); exact ⟨R2.out, rfl⟩)
            case measure => simp [intOf]; omega
      · have hk2 : (L.length : Int) ≤ (k : Int) := by omega
        have HE : Hid (GreatDone w L (.returned (.bool false)) w) := hide ⟨false, rfl, rfl, fun _ => ⟨by omega, by rw [List.take_of_length_le (by omega)] at hT; exact hT⟩⟩
        clear hT
        go_wp2
        go_ret
        exact HE.out

end Go.Proofs.YtnjbjgjhomfndaaDoor
