/-
  Coins held against each other; what the document's SameCoins answers of coins that are the same.
-/
import Derived.Test.YtjmifgdjmaelfaaDoorTxCoins
import Derived.BigQuiet
namespace Go.Proofs.YtjmifgdjmaelfaaDoor
open Go.RowKit

theorem part_struct (w : World) (t : TypeId) (n : Nat) (d : TypeDesc) (ht : Tryd.prog.underlying t = some d) (hd : d.isRow = true) (hs : ∀ w, (sizeOf t).run Tryd.prog w = .ok n w) (cs : Array Value) (o : Nat) (l : List Value) (h : cs.extract o (o + n) = l.toArray) :
    (Go.part t cs o).run Tryd.prog w = .ok (.agg l.toArray) w := by
  simp only [Go.part, isAgg, Sem.run_bind, run_underlying ht, Result.andThen_ok]
  cases d <;> simp_all
theorem eql_pt9 (tx : List Int) (n : Int) (h : tx.length = 32) (w : World) : (Op.equalIn 9999 45 (.agg (ptC tx n).toArray) (.agg (ptC tx n).toArray)).run Tryd.prog w = .ok (decide (tx = tx) && decide (n = n)) w := by
  have hv : (vals .u8 tx).length = 32 := by rw [vals_length]; exact h
  refine eql_pair w 9998 45 36 22 "Tx" "N" 0 32 (by kernel_rfl) (by kernel_rfl) (by kernel_rfl) (by decide) (by decide) _ _ (.agg (vals .u8 tx).toArray) (.agg (vals .u8 tx).toArray) (.int .u32 n) (.int .u32 n) ?_ ?_ ?_ ?_ _ _ ?_ ?_
  · exact part_row w _ 5 32 Tryd.underlying36 (fun _ => by kernel_rfl) _ 0 _ (by simp [ptC, hv])
  · exact part_row w _ 5 32 Tryd.underlying36 (fun _ => by kernel_rfl) _ 0 _ (by simp [ptC, hv])
  · exact part_int w _ .u32 Tryd.underlying22 _ 32 _ (by simp [ptC, hv])
  · exact part_int w _ .u32 Tryd.underlying22 _ 32 _ (by simp [ptC, hv])
  · exact eql_arr_at 9996 w _ 5 32 .u8 Tryd.underlying36 Tryd.underlying5 (fun _ => by kernel_rfl) tx tx h h
  · rw [run_equalIn_int w 9997 22 .u32 .u32 n n Tryd.underlying22]
    congr 1
theorem eql_out9 (x : TOut) (h : x.lock.length = 32) (w : World) : (Op.equalIn 9999 66 (.agg (outC x).toArray) (.agg (outC x).toArray)).run Tryd.prog w = .ok (decide (x.val = x.val) && decide (x.lock = x.lock)) w := by
  have hv : (vals .u8 x.lock).length = 32 := by rw [vals_length]; exact h
  refine eql_pair w 9998 66 48 36 "Value" "Lock" 0 1 (by kernel_rfl) (by kernel_rfl) (by kernel_rfl) (by decide) (by decide) _ _ (.int .u64 x.val) (.int .u64 x.val) (.agg (vals .u8 x.lock).toArray) (.agg (vals .u8 x.lock).toArray) ?_ ?_ ?_ ?_ _ _ ?_ ?_
  · exact part_int w _ .u64 Tryd.underlying48 _ 0 _ (by simp [outC])
  · exact part_int w _ .u64 Tryd.underlying48 _ 0 _ (by simp [outC])
  · exact part_row w _ 5 32 Tryd.underlying36 (fun _ => by kernel_rfl) _ 1 _ (by simp [outC]; rw [List.take_of_length_le (by rw [hv]; omega)])
  · exact part_row w _ 5 32 Tryd.underlying36 (fun _ => by kernel_rfl) _ 1 _ (by simp [outC]; rw [List.take_of_length_le (by rw [hv]; omega)])
  · rw [run_equalIn_int w 9997 48 .u64 .u64 _ _ Tryd.underlying48]
    congr 1
  · exact eql_arr_at 9996 w _ 5 32 .u8 Tryd.underlying36 Tryd.underlying5 (fun _ => by kernel_rfl) _ _ h h
set_option maxRecDepth 100000 in
theorem eql_coin (id : List Int) (k : Nat) (x : TOut) (h : id.length = 32) (hx : x.lock.length = 32) (w : World) : (Op.equalIn 10000 80 (.agg (coC id k x).toArray) (.agg (coC id k x).toArray)).run Tryd.prog w = .ok true w := by
  have hp := ptC_length (k : Int) h
  have ho := outC_length hx
  have q0 := eql_pt9 id k h w
  have q1 := eql_out9 x hx w
  simp only [decide_true, Bool.and_self] at q0 q1
  have e := eql_pair w 9999 80 45 66 "At" "Out" 0 33 (by kernel_rfl) (by kernel_rfl) (by kernel_rfl) (by decide) (by decide) (coC id k x).toArray (coC id k x).toArray (.agg (ptC id k).toArray) (.agg (ptC id k).toArray) (.agg (outC x).toArray) (.agg (outC x).toArray)
    (part_struct w _ 33 _ Tryd.underlying45 rfl (fun _ => by kernel_rfl) _ 0 _ (by simp [coC, hp])) (part_struct w _ 33 _ Tryd.underlying45 rfl (fun _ => by kernel_rfl) _ 0 _ (by simp [coC, hp]))
    (part_struct w _ 33 _ Tryd.underlying66 rfl (fun _ => by kernel_rfl) _ 33 _ (by simp [coC, hp]; rw [List.take_of_length_le (by rw [ho]; omega)])) (part_struct w _ 33 _ Tryd.underlying66 rfl (fun _ => by kernel_rfl) _ 33 _ (by simp [coC, hp]; rw [List.take_of_length_le (by rw [ho]; omega)])) true true q0 q1
  simpa using e
/-- The round of a comparison. -/
def Comparing (w : World) (K : Nat) (i : Value) (wr : World) : Prop := ∃ k : Nat, k ≤ K ∧ i = .int .i64 k ∧ Below w.heap.size w wr

set_option maxRecDepth 100000 in
set_option maxHeartbeats 1000000 in
theorem rsameCoins_eq (id : List Int) (L : List TOut) (v v' : Value) (w : World) (h : RowAt w 66 v (coins id L)) (h' : RowAt w 66 v' (coins id L)) (hid : id.length = 32) (hL : ∀ x ∈ L, x.lock.length = 32) :
    Calls Tryd.prog 18 #[v, v'] w fun e w' => e = .returned (.bool true) ∧ Below w.heap.size w w' := by
  have HI := hide h
  have HJ := hide h'
  have HL := hide hL
  have HID := hide hid
  obtain ⟨a, cap, rfl, hc1, hc2⟩ := h.form
  obtain ⟨a', cap', rfl, hd1, hd2⟩ := h'.form
  rw [coins_length] at hc1 hd1 HI HJ ⊢
  clear h h' hL hid
  have HS : Hid (Comparing w L.length (.int .i64 0) w) := hide ⟨0, by omega, rfl, Below.refl _ _⟩
  go_enter Tryd.func18, Tryd.ntmps18
  go_wp2
  go_loopw [13] (fun i wr => Comparing w L.length i wr) (fun i _ => L.length - (intOf i).toNat)
  case atStart => exact HS.out
  case round =>
    clear HS
    obtain ⟨k, hk, rfl, hB⟩ := hrel
    have HB := hide hB
    clear hB
    by_cases hlt : k < L.length
    · obtain ⟨x, hx⟩ : ∃ x, L[k]? = some x := ⟨_, List.getElem?_eq_getElem hlt⟩
      obtain ⟨b, off, rfl, hr1⟩ := (HI.out.on HB.out).get (coins_get (id := id) hx)
      obtain ⟨b', off', rfl, hr2⟩ := (HJ.out.on HB.out).get (coins_get (id := id) hx)
      have hxl := HL.out x (List.mem_of_getElem? hx)
      have HX := hide hr1
      have HY := hide hr2
      have HN : Hid ((Tryd.prog.info? 80).map (·.size) = some (coC id k x).length) := hide (by rw [coC_length id k x HID.out hxl]; exact info_co)
      have hk2 : (k : Int) < (L.length : Int) := by omega
      have hEQ := eql_coin id k x HID.out hxl
      clear hr1 hr2 hx hxl
      go_upto_region 6 with fail
      generalize hXs : coC id k x = X at *
      clear hXs
      refine wp_region_quiet_lit (by kernel_rfl) (by kernel_rfl) ?_
      repeat (first
        | (go_big_quiet_want; refine quiet_load 80 (.tmp 18) rfl b (off + k * 66) rfl X _ (range_drewN HX.out) Tryd.underlying80 rfl HN.out ?_; go_simp; go_big_quiet_on)
        | (go_big_quiet_want; refine quiet_load 80 (.tmp 22) rfl b' (off' + k * 66) rfl X _ (range_drewN HY.out) Tryd.underlying80 rfl HN.out ?_; go_simp; go_big_quiet_on)
        | (go_big_quiet_step (fail)))
      refine wpQuiet_nil ?_
      intro _ hw'
      obtain ⟨nq, hw''⟩ := hw'
      subst hw''
      have R : Hid (Comparing w L.length (.int .i64 ((k + 1 : Nat) : Int)) (wr.drewN nq)) := hide ⟨k + 1, by omega, rfl, HB.out.trans ⟨rfl, rfl, rfl, Nat.le_refl _, fun _ _ => rfl⟩⟩
      clear HB hEQ HX HY HN
      generalize wr.drewN nq = W3 at *
      go_wp2
      go_roundw
      case rel => first | exact R.out | ((repeat apply Exists.intro); exact ⟨R.out, rfl⟩)
      case measure => simp [intOf]; omega
    · have hk3 : (L.length : Int) ≤ (k : Int) := by omega
      go_wp2
      go_ret
      exact ⟨rfl, HB.out⟩

end Go.Proofs.YtjmifgdjmaelfaaDoor
