/-
  What pappuslaw08.great answers at this program, whatever the message.
-/
import Derived.Test.YtjmifgdjmaelfaaDoorTxGreatP
import Derived.Test.YtjmifgdjmaelfaaDoorMgAt
namespace Go.Proofs.YtjmifgdjmaelfaaDoor
open Go.RowKit

def greatM (m : Mg) : Bool := decide (100 < m.ids.length) || greatB m.tx
set_option maxRecDepth 100000 in
set_option maxHeartbeats 1000000 in
theorem great8_any (m : Mg) (d iv ov : Value) (w : World) (h : MsgAt w d iv ov m) (hok : MgOk m) :
    Calls Tryd.prog 20 #[.agg #[.int .i64 m.kind, .int .u64 m.n, .int .u32 m.code, d, .int .u32 m.tx.ver, iv, ov]] w fun e w' => e = .returned (.bool (greatM m)) ∧ Below w.heap.size w w' := by
  have hnew := below_new w (.cells #[.int .i64 m.kind, .int .u64 m.n, .int .u32 m.code, d, .int .u32 m.tx.ver, iv, ov] 51)
  have HB0 := hide hnew
  have HMB := hide (MBox.new w (.int .i64 m.kind) (.int .u64 m.n) (.int .u32 m.code) d (.int .u32 m.tx.ver) iv ov 51)
  have HI := hide (h.on hnew).2.1
  have HL := hide (fun x (hx : x ∈ m.tx.ins) => (hok.2.2.2.2.2.1 x hx).1)
  have HF : Hid (greatM m = (decide (100 < m.ids.length) || !(decide (m.tx.ins.length ≤ 100) && decide (m.tx.outs.length ≤ 100) && m.tx.ins.all fun x => decide (x.key.length ≤ 1000)))) := hide rfl
  obtain ⟨sa, sc, ia, ic, oa, oc, rfl, rfl, rfl⟩ := h.form
  clear hnew h hok
  obtain ⟨kind, n, code, ids, ver, ins, outs⟩ := m
  simp only at *
  go_enter Tryd.func20, Tryd.ntmps20
  go_upto_region 1 with fail
  generalize w.alloc (.cells #[.int .i64 kind, .int .u64 n, .int .u32 code, .slice sa ids.length sc, .int .u32 ver, .slice ia ins.length ic, .slice oa outs.length oc] 51) = W at *
  generalize hg : w.heap.size = g at *
  have HG := hide hg
  clear hg
  obtain ⟨p0, p1, p2, p3, p4, p5, p6⟩ := HMB.out
  by_cases h7 : ids.length ≤ 100
  · have e7 : ¬ (100 : Int) < (ids.length : Int) := by omega
    by_cases h8 : ins.length ≤ 100
    · have e8 : ¬ (100 : Int) < (ins.length : Int) := by omega
      by_cases h9 : outs.length ≤ 100
      · have e9 : ¬ (100 : Int) < (outs.length : Int) := by omega
        have HS : Hid (Greating W ins (.int .i64 0) W) := hide ⟨0, by omega, rfl, Below.refl _ _, by simp⟩
        have HF2 : Hid (greatM ⟨kind, n, code, ids, ver, ins, outs⟩ = !(ins.all fun x => decide (x.key.length ≤ 1000))) := hide (by rw [HF.out, decide_eq_false (by omega), decide_eq_true h8, decide_eq_true h9]; rfl)
        clear HF h7 h8 h9 HMB
        go_wp2_with fail
        clear p0 p1 p2 p3 p4 p5 p6
        go_loopw [27] (fun i wr => Greating W ins i wr) (fun i _ => ins.length - (intOf i).toNat)
        case atStart => exact HS.out
        case round =>
          clear HS
          obtain ⟨k, hk, rfl, hB, hall⟩ := hrel
          have HB := hide hB
          have HALL := hide hall
          clear hB hall
          by_cases hlt : k < ins.length
          · obtain ⟨x, hx⟩ : ∃ x, ins[k]? = some x := ⟨_, List.getElem?_eq_getElem hlt⟩
            obtain ⟨b, off, kv, rfl, hr, hbv⟩ := (HI.out.on HB.out).get hx
            have hxl := HL.out x (List.mem_of_getElem? hx)
            have HR := hide hr
            have HN : Hid ((Tryd.prog.info? 64).map (·.size) = some (inC (x, kv)).length) := hide (by rw [inC_length hxl]; exact info_in)
            have H1 : Hid (∀ u ∈ inC (x, kv), u.oneCell' = true) := hide (inC_one hbv.oneCell)
            have HT : Hid (∀ w : World, (w.alloc (.cells #[.int .u8 0, .int .u8 0, .int .u8 0, .int .u8 0, .int .u8 0, .int .u8 0, .int .u8 0, .int .u8 0, .int .u8 0, .int .u8 0, .int .u8 0, .int .u8 0, .int .u8 0, .int .u8 0, .int .u8 0, .int .u8 0, .int .u8 0, .int .u8 0, .int .u8 0, .int .u8 0, .int .u8 0, .int .u8 0, .int .u8 0, .int .u8 0, .int .u8 0, .int .u8 0, .int .u8 0, .int .u8 0, .int .u8 0, .int .u8 0, .int .u8 0, .int .u8 0, .int .u32 0, .slice none 0 0] 64)).there w.heap.size 0 (inC (x, kv)).length) := hide (fun w => by rw [inC_length hxl]; exact in_there w)
            have hk1 : (k : Int) < (ins.length : Int) := by omega
            obtain ⟨pa, pc, rfl, hp1, hp2⟩ := hbv.form
            have HX := hide hx
            clear hr hbv hx
            go_upto_region 6 with (first | (refine wpList_load_mid rfl 64 (.tmp 29) rfl b (off + k * 34) rfl (inC (x, .slice pa x.key.length pc)) _ HR.out Tryd.underlying64 rfl HN.out ?_) | (refine wp_store_row rfl 64 (.tmp 4) (.tmp 30) rfl wr.heap.size 0 (inC (x, .slice pa x.key.length pc)) rfl rfl (HT.out wr) HN.out H1.out ?_))
            have hW : ((wr.alloc (.cells #[.int .u8 0, .int .u8 0, .int .u8 0, .int .u8 0, .int .u8 0, .int .u8 0, .int .u8 0, .int .u8 0, .int .u8 0, .int .u8 0, .int .u8 0, .int .u8 0, .int .u8 0, .int .u8 0, .int .u8 0, .int .u8 0, .int .u8 0, .int .u8 0, .int .u8 0, .int .u8 0, .int .u8 0, .int .u8 0, .int .u8 0, .int .u8 0, .int .u8 0, .int .u8 0, .int .u8 0, .int .u8 0, .int .u8 0, .int .u8 0, .int .u8 0, .int .u8 0, .int .u32 0, .slice none 0 0] 64)).setCells wr.heap.size 0 (inC (x, .slice pa x.key.length pc))).rangeAt wr.heap.size 0 (inC (x, .slice pa x.key.length pc)) := World.rangeAt_setCells_same _ _ _ _ (HT.out wr)
            have hB2 : Below wr.heap.size wr ((wr.alloc (.cells #[.int .u8 0, .int .u8 0, .int .u8 0, .int .u8 0, .int .u8 0, .int .u8 0, .int .u8 0, .int .u8 0, .int .u8 0, .int .u8 0, .int .u8 0, .int .u8 0, .int .u8 0, .int .u8 0, .int .u8 0, .int .u8 0, .int .u8 0, .int .u8 0, .int .u8 0, .int .u8 0, .int .u8 0, .int .u8 0, .int .u8 0, .int .u8 0, .int .u8 0, .int .u8 0, .int .u8 0, .int .u8 0, .int .u8 0, .int .u8 0, .int .u8 0, .int .u8 0, .int .u32 0, .slice none 0 0] 64)).setCells wr.heap.size 0 (inC (x, .slice pa x.key.length pc))) := below_sets (Nat.le_refl _) _ _ _ ((Below.refl _ _).alloc (Nat.le_refl _) _)
            generalize (wr.alloc (.cells #[.int .u8 0, .int .u8 0, .int .u8 0, .int .u8 0, .int .u8 0, .int .u8 0, .int .u8 0, .int .u8 0, .int .u8 0, .int .u8 0, .int .u8 0, .int .u8 0, .int .u8 0, .int .u8 0, .int .u8 0, .int .u8 0, .int .u8 0, .int .u8 0, .int .u8 0, .int .u8 0, .int .u8 0, .int .u8 0, .int .u8 0, .int .u8 0, .int .u8 0, .int .u8 0, .int .u8 0, .int .u8 0, .int .u8 0, .int .u8 0, .int .u8 0, .int .u8 0, .int .u32 0, .slice none 0 0] 64)).setCells wr.heap.size 0 (inC (x, .slice pa x.key.length pc)) = W2 at *
            have hkc := (inC_key hW hxl).1
            rw [Nat.zero_add] at hkc
            simp only at hkc
            have HB2 := hide (below_on HB.out hB2)
            clear hW hB2 HR HN H1 HT
            generalize wr.heap.size = gb at *
            by_cases h64 : x.key.length ≤ 1000
            · have e64 : ¬ (1000 : Int) < (x.key.length : Int) := by omega
              have R : Hid (Greating W ins (.int .i64 ((k + 1 : Nat) : Int)) W2) := hide ⟨k + 1, by omega, rfl, HB2.out, fun y hy => by
                rcases take_mem HX.out hy with q | rfl
                · exact HALL.out y q
                · exact h64⟩
              go_wp2
              go_roundw
              case rel => first | exact R.out | ((repeat apply Exists.intro); exact ⟨R.out, rfl⟩)
              case measure => simp [intOf]; omega
            · have e64 : (1000 : Int) < (x.key.length : Int) := by omega
              have HE : Hid (greatM ⟨kind, n, code, ids, ver, ins, outs⟩ = true) := hide (by
                rw [HF2.out, Bool.not_eq_true', List.all_eq_false]
                exact ⟨x, List.mem_of_getElem? HX.out, by simpa using h64⟩)
              have R := hide (HB0.out.trans (HB2.out.mono (by have := HB0.out.size; have := HG.out; omega)))
              clear HF2 HALL
              go_wp2
              go_ret
              rw [HG.out]
              exact ⟨by rw [HE.out]; rfl, R.out⟩
          · have hk2 : (ins.length : Int) ≤ (k : Int) := by omega
            have HE : Hid (greatM ⟨kind, n, code, ids, ver, ins, outs⟩ = false) := hide (by
              rw [HF2.out, Bool.not_eq_false', List.all_eq_true]
              have h := HALL.out
              rw [List.take_of_length_le (by omega)] at h
              exact fun x hx => decide_eq_true (h x hx))
            have R := hide (HB0.out.trans (HB.out.mono (by have := HB0.out.size; have := HG.out; omega)))
            clear HF2 HALL
            go_wp2
            go_ret
            rw [HG.out]
            exact ⟨by rw [HE.out]; rfl, R.out⟩
      · have e9 : (100 : Int) < (outs.length : Int) := by omega
        have HE : Hid (greatM ⟨kind, n, code, ids, ver, ins, outs⟩ = true) := hide (by rw [HF.out, decide_eq_false h9]; simp)
        clear HF
        go_wp2
        go_ret
        rw [HG.out]
        exact ⟨by rw [HE.out]; rfl, HB0.out⟩
    · have e8 : (100 : Int) < (ins.length : Int) := by omega
      have HE : Hid (greatM ⟨kind, n, code, ids, ver, ins, outs⟩ = true) := hide (by rw [HF.out, decide_eq_false h8]; simp)
      clear HF
      go_wp2
      go_ret
      rw [HG.out]
      exact ⟨by rw [HE.out]; rfl, HB0.out⟩
  · have e7 : (100 : Int) < (ids.length : Int) := by omega
    have HE : Hid (greatM ⟨kind, n, code, ids, ver, ins, outs⟩ = true) := hide (by rw [HF.out, decide_eq_true (by omega)]; rfl)
    clear HF
    go_wp2
    go_ret
    rw [HG.out]
    exact ⟨by rw [HE.out]; rfl, HB0.out⟩

end Go.Proofs.YtjmifgdjmaelfaaDoor
