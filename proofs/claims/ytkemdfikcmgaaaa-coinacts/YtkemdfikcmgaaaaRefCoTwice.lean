/-
  What the document's Twice answers at this program, whatever the points.
-/
import Derived.Test.YtkemdfikcmgaaaaCoDoc
import Derived.Test.YtkemdfikcmgaaaaCoRep
import Derived.Test.YtkemdfikcmgaaaaCoRefP
namespace Go.Proofs.Ytkemdfikcmgaaaa
open Go.RowKit

/-- So far none stood twice. -/
def RTw (w : World) (L : List Pt) (i : Value) (wr : World) : Prop := ∃ j : Nat, j ≤ L.length ∧ i = .int .i64 j ∧ Below w.heap.size w wr ∧ (L.take j).Nodup
/-- So far none is the point. -/
def RTi (w : World) (L : List Pt) (j : Nat) (x : Pt) (i : Value) (wr : World) : Prop := ∃ q : Nat, q ≤ j ∧ i = .int .i64 q ∧ Below w.heap.size w wr ∧ x ∉ L.take q
set_option maxRecDepth 100000 in
set_option maxHeartbeats 1000000 in
theorem rtwice_any (L : List Pt) (v : Value) (w : World) (h : PsAt w v L) (hL : ∀ x ∈ L, PtOk x) (hn : L.length ≤ 1000000) (r : Bool) (hr : r = false ↔ L.Nodup) :
    Calls Try.prog 30 #[v] w fun e w' => e = .returned (.bool r) ∧ Below w.heap.size w w' := by
  have HI := hide h
  have HL := hide hL
  have HR := hide hr
  obtain ⟨a, cap, rfl, hc1, hc2⟩ := h.form
  have HS : Hid (RTw w L (.int .i64 0) w) := hide ⟨0, Nat.zero_le _, rfl, Below.refl _ _, by simp⟩
  clear h hL hr
  go_enter Try.func30, Try.ntmps30
  go_wp2_with fail
  go_loopw [9] (fun i wr => RTw w L i wr) (fun i _ => L.length - (intOf i).toNat)
  case atStart => exact HS.out
  case round =>
    clear HS
    obtain ⟨j, hj, rfl, hB, hnd⟩ := hrel
    have HB := hide hB
    have HND := hide hnd
    by_cases hlt : j < L.length
    · obtain ⟨x, hx⟩ : ∃ x, L[j]? = some x := ⟨_, List.getElem?_eq_getElem hlt⟩
      obtain ⟨b, off, rfl, hrr⟩ := (HI.out.on hB).get hx
      have hxo := HL.out x (List.mem_of_getElem? hx)
      have HXO := hide hxo
      have HX := hide hx
      have HXR := hide hrr
      have HN : Hid ((Try.prog.info? 47).map (·.size) = some (pC x).length) := hide (by rw [pC_length hxo]; exact info_pt)
      have H1 : Hid (∀ u ∈ pC x, u.oneCell' = true) := hide (pC_one x)
      have HT : Hid (∀ w : World, (w.alloc (.cells #[.int .u8 0, .int .u8 0, .int .u8 0, .int .u8 0, .int .u8 0, .int .u8 0, .int .u8 0, .int .u8 0, .int .u8 0, .int .u8 0, .int .u8 0, .int .u8 0, .int .u8 0, .int .u8 0, .int .u8 0, .int .u8 0, .int .u8 0, .int .u8 0, .int .u8 0, .int .u8 0, .int .u8 0, .int .u8 0, .int .u8 0, .int .u8 0, .int .u8 0, .int .u8 0, .int .u8 0, .int .u8 0, .int .u8 0, .int .u8 0, .int .u8 0, .int .u8 0, .int .u32 0] 47)).there w.heap.size 0 (pC x).length) := hide (fun w => by rw [pC_length hxo]; exact p_there w)
      have hk1 : (j : Int) < (L.length : Int) := by omega
      have HHD : Hid (∀ w', Below w.heap.size w w' → PsAt w' (.slice (some ⟨b, off, none⟩) j cap) (L.take j)) := hide (fun w' hw => by
        have h1 := head_at (RowAt.on HI.out hw) (k := j) (by omega)
        rw [← List.map_take] at h1
        exact h1)
      clear hrr hx hxo hB hnd
      go_upto_region 4 with (first | (refine wpList_load_mid rfl 47 (.tmp 12) rfl b (off + j * 33) rfl (pC x) _ HXR.out Try.underlying47 rfl HN.out ?_) | (refine wp_store_row rfl 47 (.tmp 4) (.tmp 13) rfl wr.heap.size 0 (pC x) rfl rfl (HT.out wr) HN.out H1.out ?_))
      have hW : ((wr.alloc (.cells #[.int .u8 0, .int .u8 0, .int .u8 0, .int .u8 0, .int .u8 0, .int .u8 0, .int .u8 0, .int .u8 0, .int .u8 0, .int .u8 0, .int .u8 0, .int .u8 0, .int .u8 0, .int .u8 0, .int .u8 0, .int .u8 0, .int .u8 0, .int .u8 0, .int .u8 0, .int .u8 0, .int .u8 0, .int .u8 0, .int .u8 0, .int .u8 0, .int .u8 0, .int .u8 0, .int .u8 0, .int .u8 0, .int .u8 0, .int .u8 0, .int .u8 0, .int .u8 0, .int .u32 0] 47)).setCells wr.heap.size 0 (pC x)).rangeAt wr.heap.size 0 (pC x) := World.rangeAt_setCells_same _ _ _ _ (HT.out wr)
      have hB2 : Below wr.heap.size wr ((wr.alloc (.cells #[.int .u8 0, .int .u8 0, .int .u8 0, .int .u8 0, .int .u8 0, .int .u8 0, .int .u8 0, .int .u8 0, .int .u8 0, .int .u8 0, .int .u8 0, .int .u8 0, .int .u8 0, .int .u8 0, .int .u8 0, .int .u8 0, .int .u8 0, .int .u8 0, .int .u8 0, .int .u8 0, .int .u8 0, .int .u8 0, .int .u8 0, .int .u8 0, .int .u8 0, .int .u8 0, .int .u8 0, .int .u8 0, .int .u8 0, .int .u8 0, .int .u8 0, .int .u8 0, .int .u32 0] 47)).setCells wr.heap.size 0 (pC x)) := below_sets (Nat.le_refl _) _ _ _ (below_new wr _)
      generalize (wr.alloc (.cells #[.int .u8 0, .int .u8 0, .int .u8 0, .int .u8 0, .int .u8 0, .int .u8 0, .int .u8 0, .int .u8 0, .int .u8 0, .int .u8 0, .int .u8 0, .int .u8 0, .int .u8 0, .int .u8 0, .int .u8 0, .int .u8 0, .int .u8 0, .int .u8 0, .int .u8 0, .int .u8 0, .int .u8 0, .int .u8 0, .int .u8 0, .int .u8 0, .int .u8 0, .int .u8 0, .int .u8 0, .int .u8 0, .int .u8 0, .int .u8 0, .int .u8 0, .int .u8 0, .int .u32 0] 47)).setCells wr.heap.size 0 (pC x) = W at *
      have HP := hide hW
      have HB2 := hide (below_on HB.out hB2)
      clear hW hB2 HXR H1 HT HB
      obtain ⟨w1, rfl⟩ : ∃ u, u = wr := ⟨_, rfl⟩
      generalize w1.heap.size = gb at *
      generalize hP : pC x = P at *
      have HPE := hide hP
      clear hP
      have hj2 : (0 : Int) ≤ (j : Int) := by omega
      have hjc : (j : Int) ≤ (cap : Int) := by omega
      have HJ0 : Hid (RTi W L j x (.int .i64 0) W) := hide ⟨0, Nat.zero_le _, rfl, Below.refl _ _, by simp⟩
      go_wp2_with fail
      go_loopw [18] (fun i wr => RTi W L j x i wr) (fun i _ => j - (intOf i).toNat)
      case atStart => exact HJ0.out
      case round =>
        clear HJ0
        obtain ⟨q, hq, rfl, hB, hno⟩ := hrel
        have HBQ := hide hB
        have HNO := hide hno
        by_cases hlt2 : q < j
        · obtain ⟨y, hy⟩ : ∃ y, L[q]? = some y := ⟨_, List.getElem?_eq_getElem (by omega)⟩
          obtain ⟨b5, off5, e5, hrr⟩ := (HI.out.on (below_on HB2.out hB)).get hy
          cases e5
          have hyo := HL.out y (List.mem_of_getElem? hy)
          have HY := hide hy
          have HYR := hide hrr
          have HNY : Hid ((Try.prog.info? 47).map (·.size) = some (pC y).length) := hide (by rw [pC_length hyo]; exact info_pt)
          have H1 : Hid (∀ u ∈ pC y, u.oneCell' = true) := hide (pC_one y)
          have HT : Hid (∀ w : World, (w.alloc (.cells #[.int .u8 0, .int .u8 0, .int .u8 0, .int .u8 0, .int .u8 0, .int .u8 0, .int .u8 0, .int .u8 0, .int .u8 0, .int .u8 0, .int .u8 0, .int .u8 0, .int .u8 0, .int .u8 0, .int .u8 0, .int .u8 0, .int .u8 0, .int .u8 0, .int .u8 0, .int .u8 0, .int .u8 0, .int .u8 0, .int .u8 0, .int .u8 0, .int .u8 0, .int .u8 0, .int .u8 0, .int .u8 0, .int .u8 0, .int .u8 0, .int .u8 0, .int .u8 0, .int .u32 0] 47)).there w.heap.size 0 (pC y).length) := hide (fun w => by rw [pC_length hyo]; exact p_there w)
          have hk3 : (q : Int) < (j : Int) := by omega
          have heq := eql_pts x y HXO.out hyo
          rw [HPE.out] at heq
          have HEQ := hide heq
          clear hrr hy hyo hB hno heq
          go_upto_region 7 with (first | (refine wpList_load_mid rfl 47 (.tmp 20) rfl b (off + q * 33) rfl (pC y) _ HYR.out Try.underlying47 rfl HNY.out ?_) | (refine wp_store_row rfl 47 (.tmp 6) (.tmp 21) rfl wr.heap.size 0 (pC y) rfl rfl (HT.out wr) HNY.out H1.out ?_))
          have hW : ((wr.alloc (.cells #[.int .u8 0, .int .u8 0, .int .u8 0, .int .u8 0, .int .u8 0, .int .u8 0, .int .u8 0, .int .u8 0, .int .u8 0, .int .u8 0, .int .u8 0, .int .u8 0, .int .u8 0, .int .u8 0, .int .u8 0, .int .u8 0, .int .u8 0, .int .u8 0, .int .u8 0, .int .u8 0, .int .u8 0, .int .u8 0, .int .u8 0, .int .u8 0, .int .u8 0, .int .u8 0, .int .u8 0, .int .u8 0, .int .u8 0, .int .u8 0, .int .u8 0, .int .u8 0, .int .u32 0] 47)).setCells wr.heap.size 0 (pC y)).rangeAt wr.heap.size 0 (pC y) := World.rangeAt_setCells_same _ _ _ _ (HT.out wr)
          have hB3 : Below wr.heap.size wr ((wr.alloc (.cells #[.int .u8 0, .int .u8 0, .int .u8 0, .int .u8 0, .int .u8 0, .int .u8 0, .int .u8 0, .int .u8 0, .int .u8 0, .int .u8 0, .int .u8 0, .int .u8 0, .int .u8 0, .int .u8 0, .int .u8 0, .int .u8 0, .int .u8 0, .int .u8 0, .int .u8 0, .int .u8 0, .int .u8 0, .int .u8 0, .int .u8 0, .int .u8 0, .int .u8 0, .int .u8 0, .int .u8 0, .int .u8 0, .int .u8 0, .int .u8 0, .int .u8 0, .int .u8 0, .int .u32 0] 47)).setCells wr.heap.size 0 (pC y)) := below_sets (Nat.le_refl _) _ _ _ (below_new wr _)
          generalize (wr.alloc (.cells #[.int .u8 0, .int .u8 0, .int .u8 0, .int .u8 0, .int .u8 0, .int .u8 0, .int .u8 0, .int .u8 0, .int .u8 0, .int .u8 0, .int .u8 0, .int .u8 0, .int .u8 0, .int .u8 0, .int .u8 0, .int .u8 0, .int .u8 0, .int .u8 0, .int .u8 0, .int .u8 0, .int .u8 0, .int .u8 0, .int .u8 0, .int .u8 0, .int .u8 0, .int .u8 0, .int .u8 0, .int .u8 0, .int .u8 0, .int .u8 0, .int .u8 0, .int .u8 0, .int .u32 0] 47)).setCells wr.heap.size 0 (pC y) = W2 at *
          have HY2 := hide hW
          have HB3 := hide (below_on HBQ.out hB3)
          have HX2 := hide (range_on HP.out HB3.out)
          clear hW hB3 HYR H1 HT HBQ
          generalize wr.heap.size = gy at *
          by_cases hxy : x = y
          · have hEQ := HEQ.out
            rw [show decide (x = y) = true by simpa using hxy] at hEQ
            have HRV : Hid (r = true) := hide (by
              have h1 : ¬ L.Nodup := fun hN => by
                have h2 : (L.take (j + 1)).Nodup := hN.sublist (List.take_sublist _ _)
                have h3 := (cnodup_next HX.out).1 h2
                refine h3.2 ?_
                rw [hxy]
                exact List.mem_of_getElem? (i := q) (by rw [List.getElem?_take, if_pos hlt2]; exact HY.out)
              cases r
              · exact absurd (HR.out.1 rfl) h1
              · rfl)
            have R : Hid (Below w.heap.size w W2) := hide (below_on HB2.out HB3.out)
            generalize pC y = P2 at *
            clear hxy
            go_wp2_with (first
              | (refine wpList_load_mid rfl 47 (.tmp 4) rfl gb 0 rfl P _ HX2.out Try.underlying47 rfl HN.out ?_)
              | (refine wpList_load_mid rfl 47 (.tmp 6) rfl gy 0 rfl P2 _ HY2.out Try.underlying47 rfl HNY.out ?_))
            go_ret
            exact ⟨by rw [HRV.out]; rfl, R.out⟩
          · have hEQ := HEQ.out
            rw [show decide (x = y) = false by simpa using hxy] at hEQ
            have R : Hid (RTi W L j x (.int .i64 ((q + 1 : Nat) : Int)) W2) := hide ⟨q + 1, by omega, rfl, HB3.out, by
              obtain ⟨e1, e2⟩ := List.getElem?_eq_some_iff.1 HY.out
              rw [List.take_succ_eq_append_getElem e1, e2, List.mem_append, List.mem_singleton]
              exact fun h => h.elim HNO.out hxy⟩
            generalize pC y = P2 at *
            go_wp2_with (first
              | (refine wpList_load_mid rfl 47 (.tmp 4) rfl gb 0 rfl P _ HX2.out Try.underlying47 rfl HN.out ?_)
              | (refine wpList_load_mid rfl 47 (.tmp 6) rfl gy 0 rfl P2 _ HY2.out Try.underlying47 rfl HNY.out ?_))
            go_roundw
            case rel => first | exact R.out | ((repeat apply Exists.intro); exact ⟨R.out, rfl⟩)
            case measure => simp [intOf]; omega
        · have hk4 : (j : Int) ≤ (q : Int) := by omega
          obtain rfl : q = j := by omega
          have R : Hid (RTw w L (.int .i64 ((q + 1 : Nat) : Int)) wr) := hide ⟨q + 1, by omega, rfl, below_on HB2.out hB, (cnodup_next HX.out).2 ⟨HND.out, hno⟩⟩
          clear hB hno
          go_wp2
          go_roundw
          case rel => first | exact R.out | ((repeat apply Exists.intro); exact ⟨R.out, rfl⟩)
          case measure => simp [intOf]; omega
    · have hk2 : (L.length : Int) ≤ (j : Int) := by omega
      rw [List.take_of_length_le (by omega)] at hnd
      have HRV : Hid (r = false) := hide (HR.out.2 hnd)
      clear hnd
      go_wp2
      go_ret
      exact ⟨by rw [HRV.out]; rfl, HB.out⟩

end Go.Proofs.Ytkemdfikcmgaaaa
