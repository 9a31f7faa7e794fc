/-
  What pappusref08.SameIds and Same answer at this program, of a message and the same one; what msg.Frame answers of one that is refused.
-/
import Derived.Test.YtjmifgdjmaelfaaMgSameK
import Derived.Test.YtjmifgdjmaelfaaRefSame07
import Derived.Test.YtjmifgdjmaelfaaMgWays
namespace Go.Proofs.Ytjmifgdjmaelfaa
open Go.RowKit

set_option maxRecDepth 100000 in
set_option maxHeartbeats 1000000 in
theorem rsameIds_eq (L : List (List Int)) (v v' : Value) (w : World) (h : IdsAt w v L) (h' : IdsAt w v' L) (hL : ∀ x ∈ L, x.length = 32) :
    Calls Try.prog 39 #[v, v'] w fun e w' => e = .returned (.bool true) ∧ Below w.heap.size w w' := by
  have HI := hide h
  have HJ := hide h'
  have HL := hide hL
  obtain ⟨a, cap, rfl, hc1, hc2⟩ := h.form
  obtain ⟨a', cap', rfl, hd1, hd2⟩ := h'.form
  clear h h' hL
  have HS : Hid (Sames w L.length (.int .i64 0) w) := hide ⟨0, by omega, rfl, Below.refl _ _⟩
  go_enter Try.func39, Try.ntmps39
  go_wp2
  go_loopw [13] (fun i wr => Sames w L.length i wr) (fun i _ => L.length - (intOf i).toNat)
  case atStart => exact HS.out
  case round =>
    clear HS
    obtain ⟨k, hk, rfl, hB⟩ := hrel
    have HB := hide hB
    clear hB
    by_cases hlt : k < L.length
    · obtain ⟨x, hx⟩ : ∃ x, L[k]? = some x := ⟨_, List.getElem?_eq_getElem hlt⟩
      obtain ⟨b, off, rfl, hr1⟩ := (HI.out.on HB.out).get hx
      obtain ⟨b', off', rfl, hr2⟩ := (HJ.out.on HB.out).get hx
      have hxl := HL.out x (List.mem_of_getElem? hx)
      have HX := hide hr1
      have HY := hide hr2
      have HN : Hid ((Try.prog.info? 40).map (·.size) = some (vals .u8 x).length) := hide (by rw [vals_length, hxl]; exact info_hash)
      have hk2 : (k : Int) < (L.length : Int) := by omega
      have hEQ : ∀ w, (Op.equalIn 10000 40 (.agg (vals .u8 x).toArray) (.agg (vals .u8 x).toArray)).run Try.prog w = .ok true w := fun w => by
        have := eql_hash8 x x hxl hxl w
        simpa using this
      clear hr1 hr2 hx hxl
      go_upto_region 6 with fail
      generalize hXs : vals .u8 x = X at *
      clear hXs
      refine wp_region_quiet_lit (by kernel_rfl) (by kernel_rfl) ?_
      repeat (first
        | (go_big_quiet_want; refine quiet_load 40 (.tmp 18) rfl b (off + k * 32) rfl X _ (range_drewN HX.out) Try.underlying40 rfl HN.out ?_; go_simp; go_big_quiet_on)
        | (go_big_quiet_want; refine quiet_load 40 (.tmp 22) rfl b' (off' + k * 32) rfl X _ (range_drewN HY.out) Try.underlying40 rfl HN.out ?_; go_simp; go_big_quiet_on)
        | (go_big_quiet_step (fail)))
      refine wpQuiet_nil ?_
      intro _ hw'
      obtain ⟨nq, hw''⟩ := hw'
      subst hw''
      have R : Hid (Sames w L.length (.int .i64 ((k + 1 : Nat) : Int)) (wr.drewN nq)) := hide ⟨k + 1, by omega, rfl, HB.out.trans ⟨rfl, rfl, rfl, Nat.le_refl _, fun _ _ => rfl⟩⟩
      clear HB hEQ HX HY HN
      generalize wr.drewN nq = W3 at *
      go_wp2
      go_roundw
      case rel => first | exact R.out | ((repeat apply Exists.intro); exact ⟨R.out, rfl⟩)
      case measure => simp [intOf]; omega
    · have hk3 : (L.length : Int) ≤ (k : Int) := by omega
      go_wp2
      go_ret
      exact ⟨rfl, HB.out⟩
set_option maxRecDepth 100000 in
set_option maxHeartbeats 1000000 in
theorem rsame8_eq (a : Mg) (d iv ov d' iv' ov' : Value) (w : World) (h : MsgAt w d iv ov a) (h' : MsgAt w d' iv' ov' a) (ha : MgOk a) :
    Calls Try.prog 18 #[.agg #[.int .i64 a.kind, .int .u64 a.n, .int .u32 a.code, d, .int .u32 a.tx.ver, iv, ov], .agg #[.int .i64 a.kind, .int .u64 a.n, .int .u32 a.code, d', .int .u32 a.tx.ver, iv', ov']] w fun e w' => e = .returned (.bool true) ∧ Below w.heap.size w w' := by
  have b2 := below_on (below_new w (.cells #[.int .i64 a.kind, .int .u64 a.n, .int .u32 a.code, d, .int .u32 a.tx.ver, iv, ov] 52)) (below_new _ (.cells #[.int .i64 a.kind, .int .u64 a.n, .int .u32 a.code, d', .int .u32 a.tx.ver, iv', ov'] 52))
  have HX := hide ((MBox.new w (.int .i64 a.kind) (.int .u64 a.n) (.int .u32 a.code) d (.int .u32 a.tx.ver) iv ov 52).on (below_new _ (.cells #[.int .i64 a.kind, .int .u64 a.n, .int .u32 a.code, d', .int .u32 a.tx.ver, iv', ov'] 52)))
  have hy := MBox.new (w.alloc (.cells #[.int .i64 a.kind, .int .u64 a.n, .int .u32 a.code, d, .int .u32 a.tx.ver, iv, ov] 52)) (.int .i64 a.kind) (.int .u64 a.n) (.int .u32 a.code) d' (.int .u32 a.tx.ver) iv' ov' 52
  rw [alloc_size] at hy
  have HY := hide hy
  have HB := hide b2
  have HT := hide (h.on b2)
  have HU := hide (h'.on b2)
  have EI := hide (fun w h h' => rsameIds_eq a.ids d d' w h h' (fun x hx => (ha.2.2.2.1 x hx).1))
  have EO := hide (fun w h h' => rsame_eq a.tx iv ov iv' ov' w h h' ha.2.2.2.2)
  obtain ⟨sa, sc, ia, ic, oa, oc, rfl, rfl, rfl⟩ := h.form
  obtain ⟨sa', sc', ia', ic', oa', oc', rfl, rfl, rfl⟩ := h'.form
  clear b2 hy h h' ha
  go_enter Try.func18, Try.ntmps18
  go_upto_region 1 with fail
  generalize (w.alloc (.cells #[.int .i64 a.kind, .int .u64 a.n, .int .u32 a.code, .slice sa a.ids.length sc, .int .u32 a.tx.ver, .slice ia a.tx.ins.length ic, .slice oa a.tx.outs.length oc] 52)).alloc (.cells #[.int .i64 a.kind, .int .u64 a.n, .int .u32 a.code, .slice sa' a.ids.length sc', .int .u32 a.tx.ver, .slice ia' a.tx.ins.length ic', .slice oa' a.tx.outs.length oc'] 52) = W at *
  generalize hg : w.heap.size = g at *
  have HG := hide hg
  clear hg
  obtain ⟨p0, p1, p2, p3, p4, p5, p6⟩ := HX.out
  obtain ⟨q0, q1, q2, q3, q4, q5, q6⟩ := HY.out
  go_wp2_with fail
  refine (EI.out _ HT.out.1 HU.out.1).mono ?_
  rintro e w1 ⟨rfl, hb1⟩
  have HB1 := hide (HB.out.trans (hb1.mono (by have := HB.out.size; have := HG.out; omega)))
  have HT1 := hide (HT.out.2.on hb1)
  have HU1 := hide (HU.out.2.on hb1)
  clear p0 p1 p2 p3 p4 p5 p6 q0 q1 q2 q3 q4 q5 q6
  obtain ⟨p0, p1, p2, p3, p4, p5, p6⟩ := HX.out.on hb1
  obtain ⟨q0, q1, q2, q3, q4, q5, q6⟩ := HY.out.on hb1
  clear hb1 HT HU HX HY HB EI
  go_wp2_with fail
  refine (EO.out _ HT1.out HU1.out).mono ?_
  rintro e w2 ⟨rfl, hb2⟩
  have R := hide (HB1.out.trans (hb2.mono (by have := HB1.out.size; have := HG.out; omega)))
  clear hb2 HB1 HT1 HU1 EO p0 p1 p2 p3 p4 p5 p6 q0 q1 q2 q3 q4 q5 q6
  go_wp2
  go_ret
  rw [HG.out]
  exact ⟨rfl, R.out⟩

end Go.Proofs.Ytjmifgdjmaelfaa
