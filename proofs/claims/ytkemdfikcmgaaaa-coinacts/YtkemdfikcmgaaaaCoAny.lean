/-
  What slices.IndexFunc and slices.ContainsFunc answer at this program of points and a set's has.
-/
import Derived.Test.YtkemdfikcmgaaaaCoHas
namespace Go.Proofs.Ytkemdfikcmgaaaa
open Go.RowKit

/-- So far none is in. -/
def Seeking (w : World) (C : List Cn) (L : List Pt) (i : Value) (wr : World) : Prop := ∃ k : Nat, k ≤ L.length ∧ i = .int .i64 k ∧ Below w.heap.size w wr ∧ ∀ p ∈ L.take k, p ∉ C.map Cn.pt

set_option maxRecDepth 100000 in
set_option maxHeartbeats 1000000 in
theorem cindex_any (w : World) (b : Nat) (m : Option Nat) (C : List Cn) (h : SetAt w b m C) (L : List Pt) (v : Value) (hv : PsAt w v L) (hL : ∀ x ∈ L, PtOk x) (hn : L.length ≤ 1000000) :
    Calls Try.prog 35 #[v, .func (.func 29) #[.pointer (some ⟨b, 0, none⟩)] #[]] w fun e w' =>
      (∃ i : Int, e = .returned (.int .i64 i) ∧ -1 ≤ i ∧ i ≤ 1000000 ∧ (0 ≤ i ↔ ∃ p ∈ L, p ∈ C.map Cn.pt)) ∧ Below w.heap.size w w' := by
  have HS0 : Hid (Seeking w C L (.int .i64 0) w) := hide ⟨0, Nat.zero_le _, rfl, Below.refl _ _, by simp⟩
  have HI := hide hv
  have HL := hide hL
  have HS := hide h
  obtain ⟨a, cap, rfl, hc1, hc2⟩ := hv.form
  clear h hv hL
  go_enter Try.func35, Try.ntmps35
  go_wp2_with fail
  go_loopw [8] (fun i wr => Seeking w C L i wr) (fun i _ => L.length - (intOf i).toNat)
  case atStart => exact HS0.out
  case round =>
    clear HS0
    obtain ⟨k, hk, rfl, hB, hno⟩ := hrel
    have HB := hide hB
    have HNO := hide hno
    by_cases hlt : k < L.length
    · obtain ⟨x, hx⟩ : ∃ x, L[k]? = some x := ⟨_, List.getElem?_eq_getElem hlt⟩
      obtain ⟨b2, off, rfl, hr⟩ := (HI.out.on hB).get hx
      have hxo := HL.out x (List.mem_of_getElem? hx)
      have HXO := hide hxo
      have HXR := hide hr
      have HN : Hid ((Try.prog.info? 47).map (·.size) = some (pC x).length) := hide (by rw [pC_length hxo]; exact info_pt)
      have hk1 : (k : Int) < (L.length : Int) := by omega
      obtain ⟨o, r, hl⟩ := looks C x
      have HX := hide hx
      have HR := hide hl.is
      have CA := hide (has_any wr b m C (HS.out.on hB) x hxo o r hl)
      clear hr hx hxo hB hno hl
      generalize pC x = P at *
      cases r with
      | true =>
        have R : Hid (∃ p ∈ L, p ∈ C.map Cn.pt) := hide ⟨x, List.mem_of_getElem? HX.out, HR.out.1 rfl⟩
        go_wp2_with (first
          | (refine wpList_load_mid rfl 47 (.tmp 14) rfl b2 (off + k * 33) rfl P _ HXR.out Try.underlying47 rfl HN.out ?_)
          | (go_at_call 29; refine CA.out.mono ?_; rintro e w1 ⟨rfl, hb1⟩; have HB1 := hide (below_on HB.out hb1); clear hb1))
        go_ret
        exact ⟨⟨_, rfl, by omega, by omega, fun _ => R.out, fun _ => by omega⟩, HB1.out⟩
      | false =>
        go_wp2_with (first
          | (refine wpList_load_mid rfl 47 (.tmp 14) rfl b2 (off + k * 33) rfl P _ HXR.out Try.underlying47 rfl HN.out ?_)
          | (go_at_call 29; refine CA.out.mono ?_; rintro e w1 ⟨rfl, hb1⟩; have HB1 := hide (below_on HB.out hb1); clear hb1))
        have R : Hid (Seeking w C L (.int .i64 ((k + 1 : Nat) : Int)) w1) := hide ⟨k + 1, by omega, rfl, HB1.out, by
          obtain ⟨e1, e2⟩ := List.getElem?_eq_some_iff.1 HX.out
          rw [List.take_succ_eq_append_getElem e1, e2]
          intro p hp
          rcases List.mem_append.1 hp with q | q
          · exact HNO.out p q
          · rw [List.mem_singleton.1 q]
            intro hm
            have := HR.out.2 hm
            cases this⟩
        go_roundw
        case rel => first | exact R.out | ((repeat apply Exists.intro); exact ⟨R.out, rfl⟩)
        case measure => simp [intOf]; omega
    · have hk2 : (L.length : Int) ≤ (k : Int) := by omega
      have R : Hid (¬ ∃ p ∈ L, p ∈ C.map Cn.pt) := hide (by
        rw [List.take_of_length_le (by omega)] at hno
        rintro ⟨p, hp, hm⟩
        exact hno p hp hm)
      clear hB hno
      go_wp2
      go_ret
      exact ⟨⟨_, rfl, by omega, by omega, fun h => absurd h (by omega), fun h => absurd h R.out⟩, HB.out⟩

set_option maxRecDepth 100000 in
set_option maxHeartbeats 1000000 in
theorem ccontains_any (w : World) (b : Nat) (m : Option Nat) (C : List Cn) (h : SetAt w b m C) (L : List Pt) (v : Value) (hv : PsAt w v L) (hL : ∀ x ∈ L, PtOk x) (hn : L.length ≤ 1000000) (r : Bool) (hr : r = true ↔ ∃ p ∈ L, p ∈ C.map Cn.pt) :
    Calls Try.prog 28 #[v, .func (.func 29) #[.pointer (some ⟨b, 0, none⟩)] #[]] w fun e w' => e = .returned (.bool r) ∧ Below w.heap.size w w' := by
  have CA := hide (cindex_any w b m C h L v hv hL hn)
  have HR := hide hr
  obtain ⟨a, cap, rfl, hc1, hc2⟩ := hv.form
  clear h hv hL hr hn
  go_enter Try.func28, Try.ntmps28
  go_wp2_with (go_at_call 35; refine CA.out.mono ?_; rintro e w1 ⟨⟨i, rfl, h1, h2, h3⟩, hb1⟩; have HB1 := hide hb1; have H3 := hide h3; clear hb1 h3)
  go_ret
  have e : decide ((0 : Int) ≤ i) = r := by
    rw [Bool.eq_iff_iff, HR.out, ← H3.out]
    simp
  rw [← e]
  exact ⟨rfl, HB1.out⟩

end Go.Proofs.Ytkemdfikcmgaaaa
