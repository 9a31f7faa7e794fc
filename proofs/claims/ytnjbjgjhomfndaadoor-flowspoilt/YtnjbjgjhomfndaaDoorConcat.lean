/-
  What slices.Grow of nothing and slices.Concat of bytes answer at this program.
-/
import Derived.Test.YtnjbjgjhomfndaaDoorZeros
import Derived.Test.YtnjbjgjhomfndaaDoorKit
import Derived.Test.YtnjbjgjhomfndaaDoorShaB
namespace Go.Proofs.YtnjbjgjhomfndaaDoor
open Go.RowKit

theorem Own.head {w : World} {base : Nat} {v : Value} {l : List Int} (h : Own w base v l) (hl : 0 < l.length) :
    ∃ g cap : Nat, v = .slice (some ⟨g, 0, none⟩) l.length cap ∧ l.length ≤ cap ∧ cap ≤ 9223372036854775807 ∧ ∀ k, k ≤ l.length → Own w base (.slice (some ⟨g, 0, none⟩) k cap) (l.take k) := by
  obtain ⟨h1, h0 | ⟨g, cap, cur, rfl, hb, hg, hn, hm, hs, ht⟩⟩ := id h
  · omega
  · refine ⟨g, cap, rfl, hn, by simpa [maxLen] using hm, fun k hk => ?_⟩
    have hkl : (l.take k).length = k := by simp; omega
    unfold Own
    rw [hkl]
    refine ⟨by simp; omega, .inr ⟨g, cap, cur, rfl, hb, hg, by omega, hm, hs, ?_⟩⟩
    rw [List.map_take, ← ht, List.take_take]
    congr 1
    omega

set_option maxRecDepth 100000 in
theorem grow_nil (n : Nat) (w : World) (hn : n ≤ 900000) :
    Calls Tryd.prog 42 #[.slice none 0 0, .int .i64 n] w fun e w' => ∃ v', e = .returned v' ∧ Own w' w.heap.size v' [] ∧ Below w.heap.size w w' := by
  rcases Nat.eq_zero_or_pos n with rfl | hp
  · have HO := hide (Own.nil w w.heap.size)
    go_enter Tryd.func42, Tryd.ntmps42
    go_wp2
    go_ret
    exact ⟨_, rfl, HO.out, Below.refl _ _⟩
  · have hn0 : ¬ ((n : Int) < 0) := by omega
    have hn1 : (0 : Int) < (n : Int) := by omega
    go_enter Tryd.func42, Tryd.ntmps42
    go_wp2_with (at_builtin; refine wp_append_zeros rfl (.tmp 20) (.tmp 21) rfl w.heap.size _ [] rfl (Own.nil _ _) n rfl ?c1 (Nat.le_refl _) ?_)
    case c1 => first | omega | (simp; omega)
    intro v' w' ho hb
    obtain ⟨g, cap, rfl, h1, h2, h3⟩ := ho.head (by simp; omega)
    have HO := hide (h3 0 (Nat.zero_le _))
    have HB := hide hb
    have hl : ([] ++ List.replicate n (0 : Int)).length = n := by simp
    rw [hl] at *
    clear ho hb h3
    go_wp2
    go_ret
    exact ⟨_, rfl, HO.out, HB.out⟩

/-- What holds at the head of a round of Concat's first loop, and of its second one. -/
def Counting (L : List (List Int)) (n i : Value) : Prop := ∃ k : Nat, k ≤ L.length ∧ i = .int .i64 k ∧ n = .int .i64 ((L.take k).flatten.length : Nat)
def Catting (w : World) (L : List (List Int)) (v i : Value) (wr : World) : Prop := ∃ k : Nat, k ≤ L.length ∧ i = .int .i64 k ∧ Own wr w.heap.size v (L.take k).flatten ∧ Below w.heap.size w wr

set_option maxRecDepth 100000 in
set_option maxHeartbeats 1000000 in
theorem concat_any (L : List (List Int)) (v : Value) (w : World) (hv : Parts w v L) (hsz : L.flatten.length ≤ 900000) :
    Calls Tryd.prog 33 #[v] w fun e w' => ∃ v', e = .returned v' ∧ Own w' w.heap.size v' L.flatten ∧ Below w.heap.size w w' := by
  have HV := hide hv
  have HS := hide hsz
  have HG := hide (fun n (hn : n ≤ 900000) => grow_nil n w hn)
  obtain ⟨a, cap, rfl, hc1, hc2⟩ := hv.form
  clear hv hsz
  go_enter Tryd.func33, Tryd.ntmps33
  go_wp2
  go_loop [3, 11] (fun n i => Counting L n i) (fun _ i => L.length - (intOf i).toNat)
  case atStart => exact ⟨0, by omega, rfl, rfl⟩
  case round =>
    obtain ⟨k, hk, rfl, rfl⟩ := hrel
    by_cases hlt : k < L.length
    · obtain ⟨b, off, cap', e, -, -, hc⟩ := HV.out.lies (by omega)
      simp only [Value.slice.injEq, true_and] at e
      obtain ⟨rfl, rfl⟩ := e
      obtain ⟨p, hp, hq⟩ := hc k hlt
      have hk1 : (k : Int) < (L.length : Int) := by omega
      have hfm := flat_more L k hlt
      have hfp := congrArg List.length (flat_part L k hlt)
      rw [List.length_append] at hfp
      have hs := HS.out
      have R : Hid (Counting L (.int .i64 (((L.take k).flatten.length : Int) + ((L.getD k []).length : Int))) (.int .i64 ((k + 1 : Nat) : Int))) := hide ⟨k + 1, by omega, rfl, by rw [hfp]; simp⟩
      obtain ⟨T, hT⟩ : ∃ T, T = (L.take k).flatten.length := ⟨_, rfl⟩
      rw [← hT] at R hfm ⊢
      clear hfp hc hT
      generalize L.getD k [] = Q at *
      obtain ⟨pa, pc, rfl, hp1, hp2⟩ := hq.form
      clear hq
      have hTQ : T + Q.length ≤ 900000 := by omega
      clear hfm hs
      go_wp2
      go_round
      case rel => first | exact R.out | ((repeat apply Exists.intro); exact ⟨R.out, rfl⟩)
      case measure => simp [intOf]; omega
    · have hk2 : (L.length : Int) ≤ (k : Int) := by omega
      have hT : (L.take k).flatten = L.flatten := by rw [List.take_of_length_le (by omega)]
      rw [hT]
      have hs := HS.out
      have HG1 := hide (HG.out L.flatten.length HS.out)
      generalize L.flatten.length = N at HG1 hs ⊢
      clear hT
      go_wp2_with fail
      refine HG1.out.mono ?_
      rintro e w1 ⟨v1, rfl, ho, hb⟩
      obtain ⟨a1, cap1, rfl, -, -⟩ := ho.bytes.form
      have HW : Hid (Catting w L (.slice a1 ([] : List Int).length cap1) (.int .i64 0) w1) := hide ⟨0, by omega, rfl, by simpa using ho, hb⟩
      clear ho hb HG HG1
      go_wp2
      go_loopw [6, 27] (fun v i wr => Catting w L v i wr) (fun _ i _ => L.length - (intOf i).toNat)
      case atStart => exact HW.out
      case round =>
        clear HW
        obtain ⟨k, hk, rfl, hO, hB⟩ := hrel
        obtain ⟨T, hT⟩ : ∃ T, T = (L.take k).flatten := ⟨_, rfl⟩
        rw [← hT] at hO
        have HT := hide hT
        have HO := hide hO
        have HB := hide hB
        obtain ⟨a1, cap1, rfl, -, -⟩ := hO.bytes.form
        clear hO hB hT
        by_cases hlt : k < L.length
        · obtain ⟨b, off, cap', e, -, -, hc⟩ := HV.out.lies (by omega)
          simp only [Value.slice.injEq, true_and] at e
          obtain ⟨rfl, rfl⟩ := e
          obtain ⟨p, hp, hq⟩ := hc k hlt
          have hcell : wr.cell? ⟨b, off + k, none⟩ = some p := (HB.out.cell (p := ⟨b, off + k, none⟩) (World.block_lt_of_cell? _ _ hp)).trans hp
          have HQ := hide (hq.below HB.out)
          have HSZ : Hid ((L.take k).flatten.length + (L.getD k []).length ≤ 1000000) := hide (by have := flat_more L k hlt; have := HS.out; omega)
          have hk1 : (k : Int) < (L.length : Int) := by omega
          have HFP := hide (flat_part L k hlt)
          rw [← HT.out] at HSZ HFP
          generalize L.getD k [] = Q at *
          obtain ⟨pa, pc, rfl, -, -⟩ := hq.form
          clear hc hp hq
          go_wp2_with (at_builtin; refine wp_append rfl (.tmp 31) (.tmp 32) rfl w.heap.size _ _ rfl HO.out _ _ rfl HQ.out HSZ.out HB.out.size ?_)
          intro v' w' ho' hb'
          have R : Hid (Catting w L v' (.int .i64 ((k + 1 : Nat) : Int)) w') := by
            rw [← HFP.out] at ho'
            exact hide ⟨k + 1, by omega, rfl, ho', HB.out.trans hb'⟩
          clear ho' hb'
          go_wp2
          go_roundw
          case rel => first | exact R.out | ((repeat apply Exists.intro); exact ⟨R.out, rfl⟩)
          case measure => simp [intOf]; omega
        · have hk2 : (L.length : Int) ≤ (k : Int) := by omega
          have hTL : T = L.flatten := by rw [HT.out, List.take_of_length_le (by omega)]
          have HTL := hide hTL
          clear hTL
          go_wp2
          go_ret
          refine ⟨_, rfl, ?_, HB.out⟩
          rw [← HTL.out]
          exact HO.out

end Go.Proofs.YtnjbjgjhomfndaaDoor
