/-
  What pappusref07.Same answers at this program, of a transaction and the same one.
-/
import Derived.Test.YtjmifgdjmaelfaaTxEql
import Derived.Test.YtjmifgdjmaelfaaTxForm
import Derived.Test.YtjmifgdjmaelfaaTxInC
import Derived.Test.YtjmifgdjmaelfaaSame
namespace Go.Proofs.Ytjmifgdjmaelfaa
open Go.RowKit

/-- What holds at the head of a round. -/
def Sames (w : World) (K : Nat) (i : Value) (wr : World) : Prop := ∃ k : Nat, k ≤ K ∧ i = .int .i64 k ∧ Below w.heap.size w wr

set_option maxRecDepth 100000 in
set_option maxHeartbeats 4000000 in
theorem rsame_eq (t : Tr) (iv ov iv' ov' : Value) (w : World) (h : TxAt w iv ov t) (h' : TxAt w iv' ov' t) (hok : TrOk t) :
    Calls Try.prog 11 #[.agg #[.int .u32 t.ver, iv, ov], .agg #[.int .u32 t.ver, iv', ov']] w fun e w' => e = .returned (.bool true) ∧ Below w.heap.size w w' := by
  obtain ⟨hv, hin, hout⟩ := hok
  have hbel : Below w.heap.size w ((w.alloc (.cells #[.int .u32 t.ver, iv, ov] 28)).alloc (.cells #[.int .u32 t.ver, iv', ov'] 28)) := ((Below.refl _ _).alloc (Nat.le_refl _) _).alloc (by rw [alloc_size]; omega) _
  have HI := hide (h.1.on hbel)
  have HO := hide (h.2.on hbel)
  have HI' := hide (h'.1.on hbel)
  have HO' := hide (h'.2.on hbel)
  have HIN : Hid (∀ x ∈ t.ins, x.tx.length = 32) := hide (fun x hx => (hin x hx).1)
  have HOUT : Hid (∀ x ∈ t.outs, x.lock.length = 32) := hide (fun x hx => (hout x hx).2.1)
  have HBW := hide hbel
  obtain ⟨a, cap, rfl, hc1, hc2⟩ := h.1.form
  obtain ⟨oa, oc, rfl, hd1, hd2⟩ := h.2.form
  obtain ⟨a', cap', rfl, hc1', hc2'⟩ := h'.1.form
  obtain ⟨oa', oc', rfl, hd1', hd2'⟩ := h'.2.form
  have m1 := (range_new w [.int .u32 t.ver, .slice a t.ins.length cap, .slice oa t.outs.length oc] 28)
  have m1' := range_on m1 ((Below.refl _ _).alloc (Nat.le_refl _) (.cells #[.int .u32 t.ver, .slice a' t.ins.length cap', .slice oa' t.outs.length oc'] 28))
  have m2 := (range_new (w.alloc (.cells #[.int .u32 t.ver, .slice a t.ins.length cap, .slice oa t.outs.length oc] 28)) [.int .u32 t.ver, .slice a' t.ins.length cap', .slice oa' t.outs.length oc'] 28)
  rw [alloc_size] at m2
  have p0 := m1' 0 _ rfl
  have p1 := m1' 1 _ rfl
  have p2 := m1' 2 _ rfl
  have q0 := m2 0 _ rfl
  have q1 := m2 1 _ rfl
  have q2 := m2 2 _ rfl
  simp only [Nat.add_zero, Nat.zero_add] at p0 p1 p2 q0 q1 q2
  clear h h' hin hout hbel m1 m1' m2
  obtain ⟨ver, ins, outs⟩ := t
  simp only at *
  go_enter Try.func11, Try.ntmps11
  go_upto_region 1 with fail
  generalize (w.alloc (.cells #[.int .u32 ver, .slice a ins.length cap, .slice oa outs.length oc] 28)).alloc (.cells #[.int .u32 ver, .slice a' ins.length cap', .slice oa' outs.length oc'] 28) = W0 at *
  generalize hg : w.heap.size = g at *
  have HG := hide hg
  clear hg
  have on : Hid (∀ wr, Below W0.heap.size W0 wr → wr.cell? ⟨g + 1, 1, none⟩ = some (.slice a' ins.length cap') ∧ wr.cell? ⟨g, 2, none⟩ = some (.slice oa outs.length oc) ∧ wr.cell? ⟨g + 1, 2, none⟩ = some (.slice oa' outs.length oc')) := hide fun wr hb =>
    ⟨(hb.cell (World.block_lt_of_cell? _ _ q1)).trans q1, (hb.cell (World.block_lt_of_cell? _ _ p2)).trans p2, (hb.cell (World.block_lt_of_cell? _ _ q2)).trans q2⟩
  go_wp2_with fail
  have HS : Hid (Sames W0 ins.length (.int .i64 0) W0) := hide ⟨0, Nat.zero_le _, rfl, Below.refl _ _⟩
  clear p0 p1 p2 q0 q1 q2
  go_loopw [35] (fun i wr => Sames W0 ins.length i wr) (fun i _ => ins.length - (intOf i).toNat)
  case atStart => exact HS.out
  case round =>
    clear HS
    obtain ⟨k, hk, rfl, hB⟩ := hrel
    have HB := hide hB
    obtain ⟨n1, n2, n3⟩ := on.out wr hB
    by_cases hlt : k < ins.length
    · obtain ⟨x, hx⟩ : ∃ x, ins[k]? = some x := ⟨_, List.getElem?_eq_getElem hlt⟩
      obtain ⟨b, off, kv, rfl, hr, hbv⟩ := (HI.out.on hB).get hx
      obtain ⟨b', off', kv', rfl, hr', hbv'⟩ := (HI'.out.on hB).get hx
      have hxl := HIN.out x (List.mem_of_getElem? hx)
      have HR := hide hr
      have HN : Hid ((Try.prog.info? 48).map (·.size) = some (inC (x, kv)).length) := hide (by rw [inC_length hxl]; exact info_in)
      have H1 : Hid (∀ u ∈ inC (x, kv), u.oneCell' = true) := hide (inC_one hbv.oneCell)
      have HT : Hid (∀ w : World, (w.alloc (.cells #[.int .u8 0, .int .u8 0, .int .u8 0, .int .u8 0, .int .u8 0, .int .u8 0, .int .u8 0, .int .u8 0, .int .u8 0, .int .u8 0, .int .u8 0, .int .u8 0, .int .u8 0, .int .u8 0, .int .u8 0, .int .u8 0, .int .u8 0, .int .u8 0, .int .u8 0, .int .u8 0, .int .u8 0, .int .u8 0, .int .u8 0, .int .u8 0, .int .u8 0, .int .u8 0, .int .u8 0, .int .u8 0, .int .u8 0, .int .u8 0, .int .u8 0, .int .u8 0, .int .u32 0, .slice none 0 0] 48)).there w.heap.size 0 (inC (x, kv)).length) := hide (fun w => by rw [inC_length hxl]; exact in_there w)
      have hk1 : (k : Int) < (ins.length : Int) := by omega
      obtain ⟨pa, pc, rfl, -, -⟩ := hbv.form
      obtain ⟨pa', pc', rfl, -, -⟩ := hbv'.form
      clear hB hx
      go_upto_region 6 with (first | (refine wpList_load_mid rfl 48 (.tmp 38) rfl b (off + k * 34) rfl (inC (x, .slice pa x.key.length pc)) _ HR.out Try.underlying48 rfl HN.out ?_) | (refine wp_store_row rfl 48 (.tmp 6) (.tmp 39) rfl wr.heap.size 0 (inC (x, .slice pa x.key.length pc)) rfl rfl (HT.out wr) HN.out H1.out ?_))
      have hW : ((wr.alloc (.cells #[.int .u8 0, .int .u8 0, .int .u8 0, .int .u8 0, .int .u8 0, .int .u8 0, .int .u8 0, .int .u8 0, .int .u8 0, .int .u8 0, .int .u8 0, .int .u8 0, .int .u8 0, .int .u8 0, .int .u8 0, .int .u8 0, .int .u8 0, .int .u8 0, .int .u8 0, .int .u8 0, .int .u8 0, .int .u8 0, .int .u8 0, .int .u8 0, .int .u8 0, .int .u8 0, .int .u8 0, .int .u8 0, .int .u8 0, .int .u8 0, .int .u8 0, .int .u8 0, .int .u32 0, .slice none 0 0] 48)).setCells wr.heap.size 0 (inC (x, .slice pa x.key.length pc))).rangeAt wr.heap.size 0 (inC (x, .slice pa x.key.length pc)) := World.rangeAt_setCells_same _ _ _ _ (HT.out wr)
      have hB2 : Below wr.heap.size wr ((wr.alloc (.cells #[.int .u8 0, .int .u8 0, .int .u8 0, .int .u8 0, .int .u8 0, .int .u8 0, .int .u8 0, .int .u8 0, .int .u8 0, .int .u8 0, .int .u8 0, .int .u8 0, .int .u8 0, .int .u8 0, .int .u8 0, .int .u8 0, .int .u8 0, .int .u8 0, .int .u8 0, .int .u8 0, .int .u8 0, .int .u8 0, .int .u8 0, .int .u8 0, .int .u8 0, .int .u8 0, .int .u8 0, .int .u8 0, .int .u8 0, .int .u8 0, .int .u8 0, .int .u8 0, .int .u32 0, .slice none 0 0] 48)).setCells wr.heap.size 0 (inC (x, .slice pa x.key.length pc))) := below_sets (Nat.le_refl _) _ _ _ ((Below.refl _ _).alloc (Nat.le_refl _) _)
      have hr2 := range_on hr' hB2
      have hbv2 := hbv.below hB2
      have hbv2' := hbv'.below hB2
      have m1 := (hB2.cell (World.block_lt_of_cell? _ _ n1)).trans n1
      generalize (wr.alloc (.cells #[.int .u8 0, .int .u8 0, .int .u8 0, .int .u8 0, .int .u8 0, .int .u8 0, .int .u8 0, .int .u8 0, .int .u8 0, .int .u8 0, .int .u8 0, .int .u8 0, .int .u8 0, .int .u8 0, .int .u8 0, .int .u8 0, .int .u8 0, .int .u8 0, .int .u8 0, .int .u8 0, .int .u8 0, .int .u8 0, .int .u8 0, .int .u8 0, .int .u8 0, .int .u8 0, .int .u8 0, .int .u8 0, .int .u8 0, .int .u8 0, .int .u8 0, .int .u8 0, .int .u32 0, .slice none 0 0] 48)).setCells wr.heap.size 0 (inC (x, .slice pa x.key.length pc)) = W2 at *
      obtain ⟨r1, r2⟩ := inC_range hW hxl
      obtain ⟨r3, r4⟩ := inC_range hr2 hxl
      rw [Nat.zero_add] at r2
      simp only at r1 r2 r3 r4
      have HR1 := hide r1
      have HR3 := hide r3
      have HB2 := hide (below_on HB.out hB2)
      have HLP : Hid ((Try.prog.info? 46).map (·.size) = some (ptC x.tx x.n).length) := hide (by rw [ptC_length _ hxl]; exact info_pt)
      have hEQ : ∀ w, (Op.equalIn 10000 46 (.agg (ptC x.tx x.n).toArray) (.agg (ptC x.tx x.n).toArray)).run Try.prog w = .ok true w := fun w => by
        have := eql_pt x.tx x.tx x.n x.n hxl hxl w
        simpa using this
      have SM := hide (fun m => (same_any x.key x.key _ _ (W2.drewN m) (hbv2.below (⟨rfl, rfl, rfl, Nat.le_refl _, fun _ _ => rfl⟩ : Below W2.heap.size W2 (W2.drewN m))) (hbv2'.below (⟨rfl, rfl, rfl, Nat.le_refl _, fun _ _ => rfl⟩ : Below W2.heap.size W2 (W2.drewN m)))))
      rw [decide_eq_true rfl] at SM
      clear hW hB2 HR HN H1 HT hr hr' hr2 hbv hbv' hbv2 hbv2' r1 r3 n1 n2 n3 HB
      generalize wr.heap.size = gb at *
      generalize x.key.length = N at *
      generalize hpt : ptC x.tx x.n = PT at *
      have HPT := hide hpt
      clear hpt
      simp only [Act.put]
      refine wp_region_quiet_lit (by kernel_rfl) (by kernel_rfl) ?_
      repeat (first
        | (go_big_quiet_want; refine quiet_load 46 (.tmp 40) rfl gb 0 rfl PT _ (range_drewN HR1.out) Try.underlying46 rfl HLP.out ?_; go_simp; go_big_quiet_on)
        | (go_big_quiet_want; refine quiet_load 46 (.tmp 46) rfl b' (off' + k * 34) rfl PT _ (range_drewN HR3.out) Try.underlying46 rfl HLP.out ?_; go_simp; go_big_quiet_on)
        | (go_big_quiet_step ((go_at_call 21; exact Calls.quiet_of (SM.out _)))))
      refine wpQuiet_nil ?_
      intro _ hw'
      obtain ⟨nq, hw''⟩ := hw'
      subst hw''
      have R : Hid (Sames W0 ins.length (.int .i64 ((k + 1 : Nat) : Int)) (W2.drewN nq)) := hide ⟨k + 1, by omega, rfl, HB2.out.trans ⟨rfl, rfl, rfl, Nat.le_refl _, fun _ _ => rfl⟩⟩
      clear HB2 SM r2 r4 m1 hEQ HPT HR1 HR3 HLP
      generalize W2.drewN nq = W3 at *
      go_wp2
      go_roundw
      case rel => first | exact R.out | ((repeat apply Exists.intro); exact ⟨R.out, rfl⟩)
      case measure => simp [intOf]; omega
    · have hk2 : (ins.length : Int) ≤ (k : Int) := by omega
      have HS : Hid (Sames W0 outs.length (.int .i64 0) wr) := hide ⟨0, Nat.zero_le _, rfl, hB⟩
      clear hB HB
      go_wp2_with fail
      clear n1 n2 n3
      go_loopw [65] (fun i wr => Sames W0 outs.length i wr) (fun i _ => outs.length - (intOf i).toNat)
      case atStart => exact HS.out
      case round =>
        clear HS
        obtain ⟨k, hk, rfl, hB⟩ := hrel
        have HB := hide hB
        obtain ⟨n1, n2, n3⟩ := on.out wr hB
        by_cases hlt : k < outs.length
        · obtain ⟨x, hx⟩ : ∃ x, outs[k]? = some x := ⟨_, List.getElem?_eq_getElem hlt⟩
          obtain ⟨b, off, rfl, hr⟩ := (HO.out.on hB).get hx
          obtain ⟨b', off', rfl, hr'⟩ := (HO'.out.on hB).get hx
          have hxl := HOUT.out x (List.mem_of_getElem? hx)
          have HR := hide hr
          have HN : Hid ((Try.prog.info? 42).map (·.size) = some (outC x).length) := hide (by rw [outC_length hxl]; exact info_out)
          have H1 : Hid (∀ u ∈ outC x, u.oneCell' = true) := hide (outC_one x)
          have HT : Hid (∀ w : World, (w.alloc (.cells #[.int .u64 0, .int .u8 0, .int .u8 0, .int .u8 0, .int .u8 0, .int .u8 0, .int .u8 0, .int .u8 0, .int .u8 0, .int .u8 0, .int .u8 0, .int .u8 0, .int .u8 0, .int .u8 0, .int .u8 0, .int .u8 0, .int .u8 0, .int .u8 0, .int .u8 0, .int .u8 0, .int .u8 0, .int .u8 0, .int .u8 0, .int .u8 0, .int .u8 0, .int .u8 0, .int .u8 0, .int .u8 0, .int .u8 0, .int .u8 0, .int .u8 0, .int .u8 0, .int .u8 0] 42)).there w.heap.size 0 (outC x).length) := hide (fun w => by rw [outC_length hxl]; exact out_there w)
          have hk1 : (k : Int) < (outs.length : Int) := by omega
          clear hB hx
          go_upto_region 12 with (first | (refine wpList_load_mid rfl 42 (.tmp 68) rfl b (off + k * 33) rfl (outC x) _ HR.out Try.underlying42 rfl HN.out ?_) | (refine wp_store_row rfl 42 (.tmp 8) (.tmp 69) rfl wr.heap.size 0 (outC x) rfl rfl (HT.out wr) HN.out H1.out ?_))
          have hW : ((wr.alloc (.cells #[.int .u64 0, .int .u8 0, .int .u8 0, .int .u8 0, .int .u8 0, .int .u8 0, .int .u8 0, .int .u8 0, .int .u8 0, .int .u8 0, .int .u8 0, .int .u8 0, .int .u8 0, .int .u8 0, .int .u8 0, .int .u8 0, .int .u8 0, .int .u8 0, .int .u8 0, .int .u8 0, .int .u8 0, .int .u8 0, .int .u8 0, .int .u8 0, .int .u8 0, .int .u8 0, .int .u8 0, .int .u8 0, .int .u8 0, .int .u8 0, .int .u8 0, .int .u8 0, .int .u8 0] 42)).setCells wr.heap.size 0 (outC x)).rangeAt wr.heap.size 0 (outC x) := World.rangeAt_setCells_same _ _ _ _ (HT.out wr)
          have hB2 : Below wr.heap.size wr ((wr.alloc (.cells #[.int .u64 0, .int .u8 0, .int .u8 0, .int .u8 0, .int .u8 0, .int .u8 0, .int .u8 0, .int .u8 0, .int .u8 0, .int .u8 0, .int .u8 0, .int .u8 0, .int .u8 0, .int .u8 0, .int .u8 0, .int .u8 0, .int .u8 0, .int .u8 0, .int .u8 0, .int .u8 0, .int .u8 0, .int .u8 0, .int .u8 0, .int .u8 0, .int .u8 0, .int .u8 0, .int .u8 0, .int .u8 0, .int .u8 0, .int .u8 0, .int .u8 0, .int .u8 0, .int .u8 0] 42)).setCells wr.heap.size 0 (outC x)) := below_sets (Nat.le_refl _) _ _ _ ((Below.refl _ _).alloc (Nat.le_refl _) _)
          have hr2 := range_on hr' hB2
          have m3 := (hB2.cell (World.block_lt_of_cell? _ _ n3)).trans n3
          generalize (wr.alloc (.cells #[.int .u64 0, .int .u8 0, .int .u8 0, .int .u8 0, .int .u8 0, .int .u8 0, .int .u8 0, .int .u8 0, .int .u8 0, .int .u8 0, .int .u8 0, .int .u8 0, .int .u8 0, .int .u8 0, .int .u8 0, .int .u8 0, .int .u8 0, .int .u8 0, .int .u8 0, .int .u8 0, .int .u8 0, .int .u8 0, .int .u8 0, .int .u8 0, .int .u8 0, .int .u8 0, .int .u8 0, .int .u8 0, .int .u8 0, .int .u8 0, .int .u8 0, .int .u8 0, .int .u8 0] 42)).setCells wr.heap.size 0 (outC x) = W2 at *
          have HR1 := hide hW
          have HR3 := hide hr2
          have HB2 := hide (below_on HB.out hB2)
          have hEQ : ∀ w, (Op.equalIn 10000 42 (.agg (outC x).toArray) (.agg (outC x).toArray)).run Try.prog w = .ok true w := fun w => by
            have := eql_out x x hxl hxl w
            simpa using this
          clear hW hB2 HR H1 HT hr hr' hr2 n1 n2 n3 HB
          generalize wr.heap.size = gb at *
          generalize hpt : outC x = PT at *
          have HPT := hide hpt
          clear hpt
          simp only [Act.put]
          refine wp_region_quiet_lit (by kernel_rfl) (by kernel_rfl) ?_
          repeat (first
            | (go_big_quiet_want; refine quiet_load 42 (.tmp 8) rfl gb 0 rfl PT _ (range_drewN HR1.out) Try.underlying42 rfl HN.out ?_; go_simp; go_big_quiet_on)
            | (go_big_quiet_want; refine quiet_load 42 (.tmp 74) rfl b' (off' + k * 33) rfl PT _ (range_drewN HR3.out) Try.underlying42 rfl HN.out ?_; go_simp; go_big_quiet_on)
            | (go_big_quiet_step (fail)))
          refine wpQuiet_nil ?_
          intro _ hw'
          obtain ⟨nq, hw''⟩ := hw'
          subst hw''
          have R : Hid (Sames W0 outs.length (.int .i64 ((k + 1 : Nat) : Int)) (W2.drewN nq)) := hide ⟨k + 1, by omega, rfl, HB2.out.trans ⟨rfl, rfl, rfl, Nat.le_refl _, fun _ _ => rfl⟩⟩
          clear HB2 m3 hEQ HPT HR1 HR3
          generalize W2.drewN nq = W3 at *
          go_wp2
          go_roundw
          case rel => first | exact R.out | ((repeat apply Exists.intro); exact ⟨R.out, rfl⟩)
          case measure => simp [intOf]; omega
        · have hk2 : (outs.length : Int) ≤ (k : Int) := by omega
          have R : Hid (Below g w wr) := hide (HBW.out.trans (hB.mono (by have := HBW.out.size; have := HG.out; omega)))
          clear n1 n2 n3 hB HB
          go_wp2
          go_ret
          rw [HG.out]
          exact ⟨rfl, R.out⟩

end Go.Proofs.Ytjmifgdjmaelfaa
