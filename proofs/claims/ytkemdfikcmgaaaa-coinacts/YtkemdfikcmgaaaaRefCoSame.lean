/-
  What the document's SameCoins answers of coins that are the same.
-/
import Derived.Test.YtkemdfikcmgaaaaCoCell
import Derived.Test.YtkemdfikcmgaaaaEqlCo
import Derived.Deep.Cut
namespace Go.Proofs.Ytkemdfikcmgaaaa
open Go.RowKit

set_option maxRecDepth 100000 in
theorem eql_cn (c : Cn) (hc : CnOk c) (w : World) : (Op.equalIn 10000 59 (.agg (cnC c).toArray) (.agg (cnC c).toArray)).run Try.prog w = .ok true w := by
  have h : c.tx.length = 32 := hc.1.1
  have hx : c.out.lock.length = 32 := hc.2.2.1
  have hp := ptC_length c.n h
  have ho := outC_length hx
  have q0 := eql_pt9 c.tx c.n h w
  have q1 := eql_out9 c.out hx w
  simp only [decide_true, Bool.and_self] at q0 q1
  have e := eql_pair w 9999 59 47 50 "At" "Out" 0 33 (by kernel_rfl) (by kernel_rfl) (by kernel_rfl) (by decide) (by decide) (cnC c).toArray (cnC c).toArray (.agg (ptC c.tx c.n).toArray) (.agg (ptC c.tx c.n).toArray) (.agg (outC c.out).toArray) (.agg (outC c.out).toArray)
    (part_struct w _ 33 _ Try.underlying47 rfl (fun _ => by kernel_rfl) _ 0 _ (by simp [cnC, hp])) (part_struct w _ 33 _ Try.underlying47 rfl (fun _ => by kernel_rfl) _ 0 _ (by simp [cnC, hp]))
    (part_struct w _ 33 _ Try.underlying50 rfl (fun _ => by kernel_rfl) _ 33 _ (by simp [cnC, hp]; rw [List.take_of_length_le (by rw [ho]; omega)])) (part_struct w _ 33 _ Try.underlying50 rfl (fun _ => by kernel_rfl) _ 33 _ (by simp [cnC, hp]; rw [List.take_of_length_le (by rw [ho]; omega)])) true true q0 q1
  simpa using e
/-- The round of a comparison. -/
def CComparing (w : World) (K : Nat) (i : Value) (wr : World) : Prop := ∃ k : Nat, k ≤ K ∧ i = .int .i64 k ∧ Below w.heap.size w wr

set_option maxRecDepth 100000 in
set_option maxHeartbeats 1000000 in
theorem rsamecn_eq (L : List Cn) (v v' : Value) (w : World) (h : CnsAt w v L) (h' : CnsAt w v' L) (hL : ∀ x ∈ L, CnOk x) :
    Calls Try.prog 19 #[v, v'] w fun e w' => e = .returned (.bool true) ∧ Below w.heap.size w w' := by
  have HI := hide h
  have HJ := hide h'
  have HL := hide hL
  obtain ⟨a, cap, rfl, hc1, hc2⟩ := h.form
  obtain ⟨a', cap', rfl, hd1, hd2⟩ := h'.form
  clear h h' hL
  have HS : Hid (CComparing w L.length (.int .i64 0) w) := hide ⟨0, by omega, rfl, Below.refl _ _⟩
  go_enter Try.func19, Try.ntmps19
  go_wp2
  go_loopw [13] (fun i wr => CComparing w L.length i wr) (fun i _ => L.length - (intOf i).toNat)
  case atStart => exact HS.out
  case round =>
    clear HS
    obtain ⟨k, hk, rfl, hB⟩ := hrel
    have HB := hide hB
    clear hB
    by_cases hlt : k < L.length
    · obtain ⟨x, hx⟩ : ∃ x, L[k]? = some x := ⟨_, List.getElem?_eq_getElem hlt⟩
      obtain ⟨b, off, rfl, hr1⟩ := (HI.out.on HB.out).get hx
      obtain ⟨b', off', rfl, hr2⟩ := (HJ.out.on HB.out).get hx
      have hxl := HL.out x (List.mem_of_getElem? hx)
      have HX := hide hr1
      have HY := hide hr2
      have HN : Hid ((Try.prog.info? 59).map (·.size) = some (cnC x).length) := hide (by rw [cnC_length hxl]; exact info_cn)
      have hk2 : (k : Int) < (L.length : Int) := by omega
      have hEQ := eql_cn x hxl
      clear hr1 hr2 hx hxl
      go_upto_region 6 with fail
      generalize hXs : cnC x = X at *
      clear hXs
      refine wp_region_quiet_lit (by kernel_rfl) (by kernel_rfl) ?_
      repeat (first
        | (go_big_quiet_want; refine quiet_load 59 (.tmp 18) rfl b (off + k * 66) rfl X _ (range_drewN HX.out) Try.underlying59 rfl HN.out ?_; go_simp; go_big_quiet_on)
        | (go_big_quiet_want; refine quiet_load 59 (.tmp 22) rfl b' (off' + k * 66) rfl X _ (range_drewN HY.out) Try.underlying59 rfl HN.out ?_; go_simp; go_big_quiet_on)
        | (go_big_quiet_step (fail)))
      refine wpQuiet_nil ?_
      intro _ hw'
      obtain ⟨nq, hw''⟩ := hw'
      subst hw''
      have R : Hid (CComparing w L.length (.int .i64 ((k + 1 : Nat) : Int)) (wr.drewN nq)) := hide ⟨k + 1, by omega, rfl, HB.out.trans ⟨rfl, rfl, rfl, Nat.le_refl _, fun _ _ => rfl⟩⟩
      clear HB hEQ HX HY HN
      generalize wr.drewN nq = W3 at *
      go_wp2
      go_roundw
      case rel => first | exact R.out | ((repeat apply Exists.intro); exact ⟨R.out, rfl⟩)
      case measure => simp [intOf]; omega
    · have hk3 : (L.length : Int) ≤ (k : Int) := by omega
      go_wp2
      go_ret
      exact ⟨rfl, HB.out⟩

end Go.Proofs.Ytkemdfikcmgaaaa
