/-
  What the document's SameOuts answers of outputs that are the same.
-/
import Derived.Test.YtkemdfikcmgaaaaCoDoc
import Derived.Test.YtkemdfikcmgaaaaCoBackP
import Derived.Deep.Cut
namespace Go.Proofs.Ytkemdfikcmgaaaa
open Go.RowKit

/-- The round of a comparison. -/
def OComparing (w : World) (K : Nat) (i : Value) (wr : World) : Prop := ∃ k : Nat, k ≤ K ∧ i = .int .i64 k ∧ Below w.heap.size w wr

set_option maxRecDepth 100000 in
set_option maxHeartbeats 1000000 in
theorem rsameouts_eq (L : List Cn) (v v' : Value) (w : World) (h : RowAt w 33 v (outsC L)) (h' : RowAt w 33 v' (outsC L)) (hL : ∀ x ∈ L, CnOk x) :
    Calls Try.prog 16 #[v, v'] w fun e w' => e = .returned (.bool true) ∧ Below w.heap.size w w' := by
  have HI := hide h
  have HJ := hide h'
  have HL := hide hL
  obtain ⟨a, cap, rfl, hc1, hc2⟩ := h.form
  obtain ⟨a', cap', rfl, hd1, hd2⟩ := h'.form
  rw [outsC_length] at HI HJ hc1 hd1 ⊢
  clear h h' hL
  have HS : Hid (OComparing w L.length (.int .i64 0) w) := hide ⟨0, by omega, rfl, Below.refl _ _⟩
  go_enter Try.func16, Try.ntmps16
  go_wp2
  go_loopw [13] (fun i wr => OComparing w L.length i wr) (fun i _ => L.length - (intOf i).toNat)
  case atStart => exact HS.out
  case round =>
    clear HS
    obtain ⟨k, hk, rfl, hB⟩ := hrel
    have HB := hide hB
    clear hB
    by_cases hlt : k < L.length
    · obtain ⟨x, hx⟩ : ∃ x, L[k]? = some x := ⟨_, List.getElem?_eq_getElem hlt⟩
      obtain ⟨b, off, rfl, hr1⟩ := (RowAt.on HI.out HB.out).get (outsC_get hx)
      obtain ⟨b', off', rfl, hr2⟩ := (RowAt.on HJ.out HB.out).get (outsC_get hx)
      have hxl := HL.out x (List.mem_of_getElem? hx)
      have HX := hide hr1
      have HY := hide hr2
      have HN : Hid ((Try.prog.info? 50).map (·.size) = some (outC x.out).length) := hide (by rw [outC_length hxl.2.2.1]; exact info_out)
      have hk2 : (k : Int) < (L.length : Int) := by omega
      have hEQ := eql_out x.out x.out hxl.2.2.1 hxl.2.2.1
      simp only [decide_true, Bool.and_self] at hEQ
      clear hr1 hr2 hx hxl
      go_upto_region 6 with fail
      generalize hXs : outC x.out = X at *
      clear hXs
      refine wp_region_quiet_lit (by kernel_rfl) (by kernel_rfl) ?_
      repeat (first
        | (go_big_quiet_want; refine quiet_load 50 (.tmp 18) rfl b (off + k * 33) rfl X _ (range_drewN HX.out) Try.underlying50 rfl HN.out ?_; go_simp; go_big_quiet_on)
        | (go_big_quiet_want; refine quiet_load 50 (.tmp 22) rfl b' (off' + k * 33) rfl X _ (range_drewN HY.out) Try.underlying50 rfl HN.out ?_; go_simp; go_big_quiet_on)
        | (go_big_quiet_step (fail)))
      refine wpQuiet_nil ?_
      intro _ hw'
      obtain ⟨nq, hw''⟩ := hw'
      subst hw''
      have R : Hid (OComparing w L.length (.int .i64 ((k + 1 : Nat) : Int)) (wr.drewN nq)) := hide ⟨k + 1, by omega, rfl, HB.out.trans ⟨rfl, rfl, rfl, Nat.le_refl _, fun _ _ => rfl⟩⟩
      clear HB hEQ HX HY HN
      generalize wr.drewN nq = W3 at *
      go_wp2
      go_roundw
      case rel => first | exact R.out | ((repeat apply Exists.intro); exact ⟨R.out, rfl⟩)
      case measure => simp [intOf]; omega
    · have hk3 : (L.length : Int) ≤ (k : Int) := by omega
      go_wp2
      go_ret
      exact ⟨rfl, HB.out⟩

end Go.Proofs.Ytkemdfikcmgaaaa
