/-
  What slices.EqualFunc over inputs, slices.Equal over outputs and tx.Same answer at this program.
-/
import Derived.Test.YtjgainoplgojiabTxSameF
namespace Go.Proofs.Ytjgainoplgojiab
open Go.RowKit

/-- So far they are the same. -/
def Eqing {α : Type} (w : World) (L M : List α) (i : Value) (wr : World) : Prop := ∃ k : Nat, k ≤ L.length ∧ i = .int .i64 k ∧ L.take k = M.take k ∧ Below w.heap.size w wr
theorem take_more {α : Type} {L M : List α} {k : Nat} {x y : α} (h : L.take k = M.take k) (hx : L[k]? = some x) (hy : M[k]? = some y) (e : x = y) : L.take (k + 1) = M.take (k + 1) := by
  obtain ⟨h1, h2⟩ := List.getElem?_eq_some_iff.1 hx
  obtain ⟨h3, h4⟩ := List.getElem?_eq_some_iff.1 hy
  rw [List.take_succ_eq_append_getElem h1, List.take_succ_eq_append_getElem h3, h, h2, h4, e]
theorem ne_at {α : Type} {L M : List α} {k : Nat} {x y : α} (hx : L[k]? = some x) (hy : M[k]? = some y) (e : x ≠ y) : L ≠ M := fun h => by
  subst h
  rw [hx] at hy
  exact e (by simpa using hy)
theorem bool_of {b : Bool} {p : Prop} (h : b = true ↔ p) : (p → b = true) ∧ (¬ p → b = false) := ⟨h.2, fun hp => by cases b; rfl; exact absurd (h.1 rfl) hp⟩

set_option maxRecDepth 100000 in
set_option maxHeartbeats 2000000 in
theorem eqfunc_any (L M : List TIn) (iv iv' : Value) (w : World) (h : InsAt w iv L) (h' : InsAt w iv' M) (hL : ∀ x ∈ L, InOk x) (hM : ∀ x ∈ M, InOk x) (r : Bool) (hr : r = true ↔ L = M) :
    Calls Try.prog 19 #[iv, iv', .func (.func 20) #[] #[]] w fun e w' => e = .returned (.bool r) ∧ Below w.heap.size w w' := by
  obtain ⟨hr1, hr2⟩ := bool_of hr
  have HI := hide h
  have HI' := hide h'
  have HL := hide hL
  have HM := hide hM
  obtain ⟨a, cap, rfl, hc1, hc2⟩ := h.form
  obtain ⟨a', cap', rfl, hc1', hc2'⟩ := h'.form
  clear h h' hL hM hr
  by_cases hlen : L.length = M.length
  · have HS : Hid (Eqing w L M (.int .i64 0) w) := hide ⟨0, Nat.zero_le _, rfl, by simp, Below.refl _ _⟩
    have HLEN := hide hlen
    have HR1 := hide hr1
    have HR2 := hide hr2
    rw [← hlen]
    clear hlen hr1 hr2
    go_enter Try.func19, Try.ntmps19
    go_wp2_with fail
    go_loopw [17] (fun i wr => Eqing w L M i wr) (fun i _ => L.length - (intOf i).toNat)
    case atStart => exact HS.out
    case round =>
      clear HS
      obtain ⟨k, hk, rfl, heq, hB⟩ := hrel
      have HB := hide hB
      have HQ := hide heq
      by_cases hlt : k < L.length
      · obtain ⟨x, hx⟩ : ∃ x, L[k]? = some x := ⟨_, List.getElem?_eq_getElem hlt⟩
        obtain ⟨y, hy⟩ : ∃ y, M[k]? = some y := ⟨_, List.getElem?_eq_getElem (by have := HLEN.out; omega)⟩
        obtain ⟨b, off, kv, rfl, hr, hbv⟩ := (HI.out.on hB).get hx
        obtain ⟨b', off', kv', rfl, hr', hbv'⟩ := (HI'.out.on hB).get hy
        have hxo := HL.out x (List.mem_of_getElem? hx)
        have hyo := HM.out y (List.mem_of_getElem? hy)
        have HXL := hide hxo.1
        have HYL := hide hyo.1
        have HR := hide hr
        have HN : Hid ((Try.prog.info? 42).map (·.size) = some (inC (x, kv)).length) := hide (by rw [inC_length hxo.1]; exact info_in)
        have HN' : Hid ((Try.prog.info? 42).map (·.size) = some (inC (y, kv')).length) := hide (by rw [inC_length hyo.1]; exact info_in)
        have H1 : Hid (∀ u ∈ inC (x, kv), u.oneCell' = true) := hide (inC_one hbv.oneCell)
        have H1' : Hid (∀ u ∈ inC (y, kv'), u.oneCell' = true) := hide (inC_one hbv'.oneCell)
        have HT : Hid (∀ w : World, (w.alloc (.cells #[.int .u8 0, .int .u8 0, .int .u8 0, .int .u8 0, .int .u8 0, .int .u8 0, .int .u8 0, .int .u8 0, .int .u8 0, .int .u8 0, .int .u8 0, .int .u8 0, .int .u8 0, .int .u8 0, .int .u8 0, .int .u8 0, .int .u8 0, .int .u8 0, .int .u8 0, .int .u8 0, .int .u8 0, .int .u8 0, .int .u8 0, .int .u8 0, .int .u8 0, .int .u8 0, .int .u8 0, .int .u8 0, .int .u8 0, .int .u8 0, .int .u8 0, .int .u8 0, .int .u32 0, .slice none 0 0] 42)).there w.heap.size 0 (inC (x, kv)).length) := hide (fun w => by rw [inC_length hxo.1]; exact in_there w)
        have HT' : Hid (∀ w : World, (w.alloc (.cells #[.int .u8 0, .int .u8 0, .int .u8 0, .int .u8 0, .int .u8 0, .int .u8 0, .int .u8 0, .int .u8 0, .int .u8 0, .int .u8 0, .int .u8 0, .int .u8 0, .int .u8 0, .int .u8 0, .int .u8 0, .int .u8 0, .int .u8 0, .int .u8 0, .int .u8 0, .int .u8 0, .int .u8 0, .int .u8 0, .int .u8 0, .int .u8 0, .int .u8 0, .int .u8 0, .int .u8 0, .int .u8 0, .int .u8 0, .int .u8 0, .int .u8 0, .int .u8 0, .int .u32 0, .slice none 0 0] 42)).there w.heap.size 0 (inC (y, kv')).length) := hide (fun w => by rw [inC_length hyo.1]; exact in_there w)
        have hk1 : (k : Int) < (L.length : Int) := by omega
        have HX := hide hx
        have HY := hide hy
        have SI := hide (fun w h1 h2 => tsamein_any x y kv kv' w hxo hyo h1 h2)
        clear hB heq hx hy hxo hyo
        go_upto_region 6 with (first | (refine wpList_load_mid rfl 42 (.tmp 20) rfl b (off + k * 34) rfl (inC (x, kv)) _ HR.out Try.underlying42 rfl HN.out ?_) | (refine wp_store_row rfl 42 (.tmp 8) (.tmp 21) rfl wr.heap.size 0 (inC (x, kv)) rfl rfl (HT.out wr) HN.out H1.out ?_))
        have hW : ((wr.alloc (.cells #[.int .u8 0, .int .u8 0, .int .u8 0, .int .u8 0, .int .u8 0, .int .u8 0, .int .u8 0, .int .u8 0, .int .u8 0, .int .u8 0, .int .u8 0, .int .u8 0, .int .u8 0, .int .u8 0, .int .u8 0, .int .u8 0, .int .u8 0, .int .u8 0, .int .u8 0, .int .u8 0, .int .u8 0, .int .u8 0, .int .u8 0, .int .u8 0, .int .u8 0, .int .u8 0, .int .u8 0, .int .u8 0, .int .u8 0, .int .u8 0, .int .u8 0, .int .u8 0, .int .u32 0, .slice none 0 0] 42)).setCells wr.heap.size 0 (inC (x, kv))).rangeAt wr.heap.size 0 (inC (x, kv)) := World.rangeAt_setCells_same _ _ _ _ (HT.out wr)
        have hB2 : Below wr.heap.size wr ((wr.alloc (.cells #[.int .u8 0, .int .u8 0, .int .u8 0, .int .u8 0, .int .u8 0, .int .u8 0, .int .u8 0, .int .u8 0, .int .u8 0, .int .u8 0, .int .u8 0, .int .u8 0, .int .u8 0, .int .u8 0, .int .u8 0, .int .u8 0, .int .u8 0, .int .u8 0, .int .u8 0, .int .u8 0, .int .u8 0, .int .u8 0, .int .u8 0, .int .u8 0, .int .u8 0, .int .u8 0, .int .u8 0, .int .u8 0, .int .u8 0, .int .u8 0, .int .u8 0, .int .u8 0, .int .u32 0, .slice none 0 0] 42)).setCells wr.heap.size 0 (inC (x, kv))) := below_sets (Nat.le_refl _) _ _ _ ((Below.refl _ _).alloc (Nat.le_refl _) _)
        generalize (wr.alloc (.cells #[.int .u8 0, .int .u8 0, .int .u8 0, .int .u8 0, .int .u8 0, .int .u8 0, .int .u8 0, .int .u8 0, .int .u8 0, .int .u8 0, .int .u8 0, .int .u8 0, .int .u8 0, .int .u8 0, .int .u8 0, .int .u8 0, .int .u8 0, .int .u8 0, .int .u8 0, .int .u8 0, .int .u8 0, .int .u8 0, .int .u8 0, .int .u8 0, .int .u8 0, .int .u8 0, .int .u8 0, .int .u8 0, .int .u8 0, .int .u8 0, .int .u8 0, .int .u8 0, .int .u32 0, .slice none 0 0] 42)).setCells wr.heap.size 0 (inC (x, kv)) = W2 at *
        have HR' := hide (range_on hr' hB2)
        have HB2 := hide (below_on HB.out hB2)
        have HK2 := hide (hbv.below hB2)
        have HK2' := hide (hbv'.below hB2)
        have HW2 := hide hW
        clear hr hr' hbv hbv' hW hB2 HB HR HT
        generalize wr.heap.size = g1 at *
        simp only [Act.put]
        go_upto_region 7 with (first | (refine wpList_load_mid rfl 42 (.tmp 24) rfl b' (off' + k * 34) rfl (inC (y, kv')) _ HR'.out Try.underlying42 rfl HN'.out ?_) | (refine wp_store_row rfl 42 (.tmp 9) (.tmp 25) rfl W2.heap.size 0 (inC (y, kv')) rfl rfl (HT'.out W2) HN'.out H1'.out ?_))
        have hW : ((W2.alloc (.cells #[.int .u8 0, .int .u8 0, .int .u8 0, .int .u8 0, .int .u8 0, .int .u8 0, .int .u8 0, .int .u8 0, .int .u8 0, .int .u8 0, .int .u8 0, .int .u8 0, .int .u8 0, .int .u8 0, .int .u8 0, .int .u8 0, .int .u8 0, .int .u8 0, .int .u8 0, .int .u8 0, .int .u8 0, .int .u8 0, .int .u8 0, .int .u8 0, .int .u8 0, .int .u8 0, .int .u8 0, .int .u8 0, .int .u8 0, .int .u8 0, .int .u8 0, .int .u8 0, .int .u32 0, .slice none 0 0] 42)).setCells W2.heap.size 0 (inC (y, kv'))).rangeAt W2.heap.size 0 (inC (y, kv')) := World.rangeAt_setCells_same _ _ _ _ (HT'.out W2)
        have hB3 : Below W2.heap.size W2 ((W2.alloc (.cells #[.int .u8 0, .int .u8 0, .int .u8 0, .int .u8 0, .int .u8 0, .int .u8 0, .int .u8 0, .int .u8 0, .int .u8 0, .int .u8 0, .int .u8 0, .int .u8 0, .int .u8 0, .int .u8 0, .int .u8 0, .int .u8 0, .int .u8 0, .int .u8 0, .int .u8 0, .int .u8 0, .int .u8 0, .int .u8 0, .int .u8 0, .int .u8 0, .int .u8 0, .int .u8 0, .int .u8 0, .int .u8 0, .int .u8 0, .int .u8 0, .int .u8 0, .int .u8 0, .int .u32 0, .slice none 0 0] 42)).setCells W2.heap.size 0 (inC (y, kv'))) := below_sets (Nat.le_refl _) _ _ _ ((Below.refl _ _).alloc (Nat.le_refl _) _)
        generalize (W2.alloc (.cells #[.int .u8 0, .int .u8 0, .int .u8 0, .int .u8 0, .int .u8 0, .int .u8 0, .int .u8 0, .int .u8 0, .int .u8 0, .int .u8 0, .int .u8 0, .int .u8 0, .int .u8 0, .int .u8 0, .int .u8 0, .int .u8 0, .int .u8 0, .int .u8 0, .int .u8 0, .int .u8 0, .int .u8 0, .int .u8 0, .int .u8 0, .int .u8 0, .int .u8 0, .int .u8 0, .int .u8 0, .int .u8 0, .int .u8 0, .int .u8 0, .int .u8 0, .int .u8 0, .int .u32 0, .slice none 0 0] 42)).setCells W2.heap.size 0 (inC (y, kv')) = W3 at *
        have HA := hide (range_on HW2.out hB3)
        have HA' := hide hW
        have HB3 := hide (below_on HB2.out hB3)
        have SI3 := hide (SI.out W3 (HK2.out.below hB3) (HK2'.out.below hB3))
        clear hW hB3 HB2 HK2 HK2' HW2 HR' HT' SI
        generalize W2.heap.size = g2 at *
        simp only [Act.put]
        go_wp2_with (first | (refine wpList_load_mid rfl 42 (.tmp 8) rfl g1 0 rfl (inC (x, kv)) _ HA.out Try.underlying42 rfl HN.out ?_) | (refine wpList_load_mid rfl 42 (.tmp 9) rfl g2 0 rfl (inC (y, kv')) _ HA'.out Try.underlying42 rfl HN'.out ?_))
        refine SI3.out.mono ?_
        rintro e w4 ⟨rfl, hb4⟩
        have HB4 := hide (below_on HB3.out hb4)
        clear hb4 HB3 HA HA' SI3
        cases hd : inEq x y with
        | true =>
          have hxy := (inEq_iff x y).1 hd
          have R : Hid (Eqing w L M (.int .i64 ((k + 1 : Nat) : Int)) w4) := hide ⟨k + 1, by omega, rfl, take_more HQ.out HX.out HY.out hxy, HB4.out⟩
          clear hd hxy HB4
          go_wp2
          go_roundw
          case rel => first | exact R.out | ((repeat apply Exists.intro); exact ⟨R.out, rfl⟩)
          case measure => simp [intOf]; omega
        | false =>
          have hne : L ≠ M := ne_at HX.out HY.out fun e => by rw [(inEq_iff x y).2 e] at hd; cases hd
          have HF := hide (HR2.out hne)
          clear hd hne
          go_wp2
          go_ret
          exact ⟨by rw [HF.out]; first | done | rfl, HB4.out⟩
      · have hk2 : (L.length : Int) ≤ (k : Int) := by omega
        have HF : Hid (r = true) := hide (HR1.out (by
          have h := HQ.out
          rw [List.take_of_length_le (by omega), List.take_of_length_le (by have := HLEN.out; omega)] at h
          exact h))
        clear heq hB
        go_wp2
        go_ret
        exact ⟨by rw [HF.out]; first | done | rfl, HB.out⟩
  · have HF := hide (hr2 fun e => hlen (by rw [e]))
    have hl2 : ((L.length : Int) == (M.length : Int)) = false := by simpa using fun e => hlen (by omega)
    have hl3 : ¬ (L.length : Int) = (M.length : Int) := fun e => hlen (by omega)
    clear hlen hr1 hr2
    go_enter Try.func19, Try.ntmps19
    go_wp2
    go_ret
    exact ⟨by rw [HF.out]; first | done | rfl, Below.refl _ _⟩

set_option maxRecDepth 100000 in
set_option maxHeartbeats 2000000 in
theorem eqouts_any (L M : List TOut) (iv iv' : Value) (w : World) (h : OutsAt w iv L) (h' : OutsAt w iv' M) (hL : ∀ x ∈ L, OutOk x) (hM : ∀ x ∈ M, OutOk x) (r : Bool) (hr : r = true ↔ L = M) :
    Calls Try.prog 21 #[iv, iv'] w fun e w' => e = .returned (.bool r) ∧ Below w.heap.size w w' := by
  obtain ⟨hr1, hr2⟩ := bool_of hr
  have HI := hide h
  have HI' := hide h'
  have HL := hide hL
  have HM := hide hM
  obtain ⟨a, cap, rfl, hc1, hc2⟩ := OutsAt.form h
  obtain ⟨a', cap', rfl, hc1', hc2'⟩ := OutsAt.form h'
  clear h h' hL hM hr
  by_cases hlen : L.length = M.length
  · have HS : Hid (Eqing w L M (.int .i64 0) w) := hide ⟨0, Nat.zero_le _, rfl, by simp, Below.refl _ _⟩
    have HLEN := hide hlen
    have HR1 := hide hr1
    have HR2 := hide hr2
    rw [← hlen]
    clear hlen hr1 hr2
    go_enter Try.func21, Try.ntmps21
    go_wp2_with fail
    go_loopw [13] (fun i wr => Eqing w L M i wr) (fun i _ => L.length - (intOf i).toNat)
    case atStart => exact HS.out
    case round =>
      clear HS
      obtain ⟨k, hk, rfl, heq, hB⟩ := hrel
      have HB := hide hB
      have HQ := hide heq
      by_cases hlt : k < L.length
      · obtain ⟨x, hx⟩ : ∃ x, L[k]? = some x := ⟨_, List.getElem?_eq_getElem hlt⟩
        obtain ⟨y, hy⟩ : ∃ y, M[k]? = some y := ⟨_, List.getElem?_eq_getElem (by have := HLEN.out; omega)⟩
        obtain ⟨b, off, rfl, hr⟩ := OutsAt.get (HI.out.on hB) hx
        obtain ⟨b', off', rfl, hr'⟩ := OutsAt.get (HI'.out.on hB) hy
        have hxo := HL.out x (List.mem_of_getElem? hx)
        have hyo := HM.out y (List.mem_of_getElem? hy)
        have HN : Hid ((Try.prog.info? 35).map (·.size) = some (outC x).length) := hide (by rw [outC_length hxo.2.1]; exact info_out)
        have HN' : Hid ((Try.prog.info? 35).map (·.size) = some (outC y).length) := hide (by rw [outC_length hyo.2.1]; exact info_out)
        have hk1 : (k : Int) < (L.length : Int) := by omega
        have HX := hide hx
        have HY := hide hy
        have hEQ := eql_out x y hxo.2.1 hyo.2.1
        have HD : Hid ((decide (x.val = y.val) && decide (x.lock = y.lock)) = outEq x y) := hide rfl
        rw [HD.out] at hEQ
        have HR1' := hide hr
        have HR2' := hide hr'
        clear hB heq hx hy hxo hyo HD hr hr'
        go_upto_region 6 with fail
        generalize hpx : outC x = PX at *
        generalize hpy : outC y = PY at *
        have HPX := hide hpx
        have HPY := hide hpy
        clear hpx hpy
        cases hd : outEq x y with
        | true =>
          have hxy := (outEq_iff x y).1 hd
          rw [hd] at hEQ
          refine wp_region_quiet_lit (by kernel_rfl) (by kernel_rfl) ?_
          repeat (first
            | (go_big_quiet_want; refine quiet_load 35 (.tmp 18) rfl b (off + k * 33) rfl PX _ (range_drewN HR1'.out) Try.underlying35 rfl HN.out ?_; go_simp; go_big_quiet_on)
            | (go_big_quiet_want; refine quiet_load 35 (.tmp 22) rfl b' (off' + k * 33) rfl PY _ (range_drewN HR2'.out) Try.underlying35 rfl HN'.out ?_; go_simp; go_big_quiet_on)
            | (go_big_quiet_step (fail)))
          refine wpQuiet_nil ?_
          intro _ hw'
          obtain ⟨nq, hw''⟩ := hw'
          subst hw''
          have R : Hid (Eqing w L M (.int .i64 ((k + 1 : Nat) : Int)) (wr.drewN nq)) := hide ⟨k + 1, by omega, rfl, take_more HQ.out HX.out HY.out hxy, HB.out.trans ⟨rfl, rfl, rfl, Nat.le_refl _, fun _ _ => rfl⟩⟩
          clear hd hxy HB hEQ HR1' HR2'
          generalize wr.drewN nq = W3 at *
          go_wp2
          go_roundw
          case rel => first | exact R.out | ((repeat apply Exists.intro); exact ⟨R.out, rfl⟩)
          case measure => simp [intOf]; omega
        | false =>
          have hne : L ≠ M := ne_at HX.out HY.out fun e => by rw [(outEq_iff x y).2 e] at hd; cases hd
          have HF := hide (HR2.out hne)
          rw [hd] at hEQ
          refine wp_region_quiet_lit (by kernel_rfl) (by kernel_rfl) ?_
          repeat (first
            | (go_big_quiet_want; refine quiet_load 35 (.tmp 18) rfl b (off + k * 33) rfl PX _ (range_drewN HR1'.out) Try.underlying35 rfl HN.out ?_; go_simp; go_big_quiet_on)
            | (go_big_quiet_want; refine quiet_load 35 (.tmp 22) rfl b' (off' + k * 33) rfl PY _ (range_drewN HR2'.out) Try.underlying35 rfl HN'.out ?_; go_simp; go_big_quiet_on)
            | (go_big_quiet_step (fail)))
          refine wpQuiet_nil ?_
          intro _ hw'
          obtain ⟨nq, hw''⟩ := hw'
          subst hw''
          have R : Hid (Below w.heap.size w (wr.drewN nq)) := hide (HB.out.trans ⟨rfl, rfl, rfl, Nat.le_refl _, fun _ _ => rfl⟩)
          clear hd hne HB hEQ HR1' HR2'
          generalize wr.drewN nq = W3 at *
          go_wp2
          go_ret
          exact ⟨by rw [HF.out]; first | done | rfl, R.out⟩
      · have hk2 : (L.length : Int) ≤ (k : Int) := by omega
        have HF : Hid (r = true) := hide (HR1.out (by
          have h := HQ.out
          rw [List.take_of_length_le (by omega), List.take_of_length_le (by have := HLEN.out; omega)] at h
          exact h))
        clear heq hB
        go_wp2
        go_ret
        exact ⟨by rw [HF.out]; first | done | rfl, HB.out⟩
  · have HF := hide (hr2 fun e => hlen (by rw [e]))
    have hl2 : ((L.length : Int) == (M.length : Int)) = false := by simpa using fun e => hlen (by omega)
    have hl3 : ¬ (L.length : Int) = (M.length : Int) := fun e => hlen (by omega)
    clear hlen hr1 hr2
    go_enter Try.func21, Try.ntmps21
    go_wp2
    go_ret
    exact ⟨by rw [HF.out]; first | done | rfl, Below.refl _ _⟩

end Go.Proofs.Ytjgainoplgojiab
