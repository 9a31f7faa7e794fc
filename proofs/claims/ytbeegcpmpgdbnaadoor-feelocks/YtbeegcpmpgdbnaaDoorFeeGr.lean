/-
  What pappuslaw10.great answers at this program.
-/
import Derived.Test.YtbeegcpmpgdbnaaDoorTxGreatP
namespace Go.Proofs.YtbeegcpmpgdbnaaDoor
open Go.RowKit

/-- A transaction, or what it spends, greater than is looked at. -/
def g10 (t : Tr) (n : Nat) : Bool := greatB t || decide (100 < n)
theorem g10_not {t : Tr} {n : Nat} (h : g10 t n = false) : greatB t = false ∧ n ≤ 100 := by
  simpa [g10] using h
set_option maxRecDepth 100000 in
set_option maxHeartbeats 1000000 in
theorem great10_any (t : Tr) (iv ov : Value) (pa : Option Addr) (n pc : Nat) (w : World) (hi : InsAt w iv t.ins) (ho : OutsAt w ov t.outs) (hl : ∀ x ∈ t.ins, x.tx.length = 32) :
    Calls Tryd.prog 10 #[.agg #[.int .u32 t.ver, iv, ov], .slice pa n pc] w fun e w' => e = .returned (.bool (g10 t n)) ∧ Below w.heap.size w w' := by
  have HI := hide hi
  have HL := hide hl
  obtain ⟨a, cap, rfl, hc1, hc2⟩ := hi.form
  obtain ⟨a', cap', rfl, hd1, hd2⟩ := ho.form
  clear hi ho hl
  obtain ⟨ver, ins, outs⟩ := t
  simp only at *
  by_cases h8 : ins.length ≤ 100
  · by_cases h9 : outs.length ≤ 100
    · by_cases h10 : n ≤ 100
      · have e8 : ¬ (100 : Int) < (ins.length : Int) := by omega
        have e9 : ¬ (100 : Int) < (outs.length : Int) := by omega
        have e10 : ¬ (100 : Int) < (n : Int) := by omega
        have HS : Hid (Greating w ins (.int .i64 0) (w.alloc (.cells #[.int .u32 ver, .slice a ins.length cap, .slice a' outs.length cap'] 26))) := hide ⟨0, by omega, rfl, (Below.refl _ _).alloc (Nat.le_refl _) _, by simp⟩
        have HF : Hid (g10 ⟨ver, ins, outs⟩ n = !(ins.all fun x => decide (x.key.length ≤ 1000))) := hide (by simp [g10, greatB, h8, h9, show ¬ 100 < n by omega])
        go_enter Tryd.func10, Tryd.ntmps10
        go_wp2
        go_loopw [25] (fun i wr => Greating w ins i wr) (fun i _ => ins.length - (intOf i).toNat)
        case atStart => exact HS.out
        case round =>
          clear HS
          obtain ⟨k, hk, rfl, hB, hall⟩ := hrel
          have HB := hide hB
          have HALL := hide hall
          clear hB hall
          by_cases hlt : k < ins.length
          · obtain ⟨x, hx⟩ : ∃ x, ins[k]? = some x := ⟨_, List.getElem?_eq_getElem hlt⟩
            obtain ⟨b, off, kv, rfl, hr, hbv⟩ := (HI.out.on HB.out).get hx
            have hxl := HL.out x (List.mem_of_getElem? hx)
            have HR := hide hr
            have HN : Hid ((Tryd.prog.info? 39).map (·.size) = some (inC (x, kv)).length) := hide (by rw [inC_length hxl]; exact info_in)
            have H1 : Hid (∀ u ∈ inC (x, kv), u.oneCell' = true) := hide (inC_one hbv.oneCell)
            have HT : Hid (∀ w : World, (w.alloc (.cells #[.int .u8 0, .int .u8 0, .int .u8 0, .int .u8 0, .int .u8 0, .int .u8 0, .int .u8 0, .int .u8 0, .int .u8 0, .int .u8 0, .int .u8 0, .int .u8 0, .int .u8 0, .int .u8 0, .int .u8 0, .int .u8 0, .int .u8 0, .int .u8 0, .int .u8 0, .int .u8 0, .int .u8 0, .int .u8 0, .int .u8 0, .int .u8 0, .int .u8 0, .int .u8 0, .int .u8 0, .int .u8 0, .int .u8 0, .int .u8 0, .int .u8 0, .int .u8 0, .int .u32 0, .slice none 0 0] 39)).there w.heap.size 0 (inC (x, kv)).length) := hide (fun w => by rw [inC_length hxl]; exact in_there w)
            have hk1 : (k : Int) < (ins.length : Int) := by omega
            obtain ⟨pa, pc, rfl, hp1, hp2⟩ := hbv.form
            have HX := hide hx
            clear hr hbv hx
            go_upto_region 6 with (first | (refine wpList_load_mid rfl 39 (.tmp 27) rfl b (off + k * 34) rfl (inC (x, .slice pa x.key.length pc)) _ HR.out Tryd.underlying39 rfl HN.out ?_) | (refine wp_store_row rfl 39 (.tmp 6) (.tmp 28) rfl wr.heap.size 0 (inC (x, .slice pa x.key.length pc)) rfl rfl (HT.out wr) HN.out H1.out ?_))
            have hW : ((wr.alloc (.cells #[.int .u8 0, .int .u8 0, .int .u8 0, .int .u8 0, .int .u8 0, .int .u8 0, .int .u8 0, .int .u8 0, .int .u8 0, .int .u8 0, .int .u8 0, .int .u8 0, .int .u8 0, .int .u8 0, .int .u8 0, .int .u8 0, .int .u8 0, .int .u8 0, .int .u8 0, .int .u8 0, .int .u8 0, .int .u8 0, .int .u8 0, .int .u8 0, .int .u8 0, .int .u8 0, .int .u8 0, .int .u8 0, .int .u8 0, .int .u8 0, .int .u8 0, .int .u8 0, .int .u32 0, .slice none 0 0] 39)).setCells wr.heap.size 0 (inC (x, .slice pa x.key.length pc))).rangeAt wr.heap.size 0 (inC (x, .slice pa x.key.length pc)) := World.rangeAt_setCells_same _ _ _ _ (HT.out wr)
            have hB2 : Below wr.heap.size wr ((wr.alloc (.cells #[.int .u8 0, .int .u8 0, .int .u8 0, .int .u8 0, .int .u8 0, .int .u8 0, .int .u8 0, .int .u8 0, .int .u8 0, .int .u8 0, .int .u8 0, .int .u8 0, .int .u8 0, .int .u8 0, .int .u8 0, .int .u8 0, .int .u8 0, .int .u8 0, .int .u8 0, .int .u8 0, .int .u8 0, .int .u8 0, .int .u8 0, .int .u8 0, .int .u8 0, .int .u8 0, .int .u8 0, .int .u8 0, .int .u8 0, .int .u8 0, .int .u8 0, .int .u8 0, .int .u32 0, .slice none 0 0] 39)).setCells wr.heap.size 0 (inC (x, .slice pa x.key.length pc))) := below_sets (Nat.le_refl _) _ _ _ ((Below.refl _ _).alloc (Nat.le_refl _) _)
            generalize (wr.alloc (.cells #[.int .u8 0, .int .u8 0, .int .u8 0, .int .u8 0, .int .u8 0, .int .u8 0, .int .u8 0, .int .u8 0, .int .u8 0, .int .u8 0, .int .u8 0, .int .u8 0, .int .u8 0, .int .u8 0, .int .u8 0, .int .u8 0, .int .u8 0, .int .u8 0, .int .u8 0, .int .u8 0, .int .u8 0, .int .u8 0, .int .u8 0, .int .u8 0, .int .u8 0, .int .u8 0, .int .u8 0, .int .u8 0, .int .u8 0, .int .u8 0, .int .u8 0, .int .u8 0, .int .u32 0, .slice none 0 0] 39)).setCells wr.heap.size 0 (inC (x, .slice pa x.key.length pc)) = W2 at *
            have hkc := (inC_key hW hxl).1
            rw [Nat.zero_add] at hkc
            simp only at hkc
            have HB2 := hide (below_on HB.out hB2)
            clear hW hB2 HR HN H1 HT
            generalize wr.heap.size = g at *
            by_cases h64 : x.key.length ≤ 1000
            · have e64 : ¬ (1000 : Int) < (x.key.length : Int) := by omega
              have R : Hid (Greating w ins (.int .i64 ((k + 1 : Nat) : Int)) W2) := hide ⟨k + 1, by omega, rfl, HB2.out, fun y hy => by
                rcases take_mem HX.out hy with q | rfl
                · exact HALL.out y q
                · exact h64⟩
              go_wp2
              go_roundw
              case rel => first | exact R.out | ((repeat apply Exists.intro); exact ⟨R.out, rfl⟩)
              case measure => simp [intOf]; omega
            · have e64 : (1000 : Int) < (x.key.length : Int) := by omega
              have HE : Hid (g10 ⟨ver, ins, outs⟩ n = true) := hide (by
                rw [HF.out, Bool.not_eq_true', List.all_eq_false]
                exact ⟨x, List.mem_of_getElem? HX.out, by simpa using h64⟩)
              go_wp2
              go_ret
              exact ⟨by rw [HE.out]; rfl, HB2.out⟩
          · have hk2 : (ins.length : Int) ≤ (k : Int) := by omega
            have HE : Hid (g10 ⟨ver, ins, outs⟩ n = false) := hide (by
              rw [HF.out, Bool.not_eq_false', List.all_eq_true]
              have h := HALL.out
              rw [List.take_of_length_le (by omega)] at h
              exact fun x hx => decide_eq_true (h x hx))
            go_wp2
            go_ret
            exact ⟨by rw [HE.out]; rfl, HB.out⟩
      · have e8 : ¬ (100 : Int) < (ins.length : Int) := by omega
        have e9 : ¬ (100 : Int) < (outs.length : Int) := by omega
        have e10 : (100 : Int) < (n : Int) := by omega
        have HF : Hid (g10 ⟨ver, ins, outs⟩ n = true) := hide (by simp [g10, show 100 < n by omega])
        go_enter Tryd.func10, Tryd.ntmps10
        go_wp2
        go_ret
        exact ⟨by rw [HF.out]; rfl, (Below.refl _ _).alloc (Nat.le_refl _) _⟩
    · have e8 : ¬ (100 : Int) < (ins.length : Int) := by omega
      have e9 : (100 : Int) < (outs.length : Int) := by omega
      have HF : Hid (g10 ⟨ver, ins, outs⟩ n = true) := hide (by simp [g10, greatB, h9])
      go_enter Tryd.func10, Tryd.ntmps10
      go_wp2
      go_ret
      exact ⟨by rw [HF.out]; rfl, (Below.refl _ _).alloc (Nat.le_refl _) _⟩
  · have e8 : (100 : Int) < (ins.length : Int) := by omega
    have HF : Hid (g10 ⟨ver, ins, outs⟩ n = true) := hide (by simp [g10, greatB, h8])
    go_enter Tryd.func10, Tryd.ntmps10
    go_wp2
    go_ret
    exact ⟨by rw [HF.out]; rfl, (Below.refl _ _).alloc (Nat.le_refl _) _⟩

end Go.Proofs.YtbeegcpmpgdbnaaDoor
