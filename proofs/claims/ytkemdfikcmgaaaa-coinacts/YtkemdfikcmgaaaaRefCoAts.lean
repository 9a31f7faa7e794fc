/-
  What the document's Ats answers at this program, whatever the coins.
-/
import Derived.Test.YtkemdfikcmgaaaaCoSet
namespace Go.Proofs.Ytkemdfikcmgaaaa
open Go.RowKit

/-- So far these are gathered. -/
def RPtsOf (w : World) (L : List Cn) (v i : Value) (wr : World) : Prop := ∃ k : Nat, k ≤ L.length ∧ i = .int .i64 k ∧ Below w.heap.size w wr ∧ RowOwn wr w.heap.size 47 33 v ((L.take k).map fun c => pC c.pt)
set_option maxRecDepth 100000 in
set_option maxHeartbeats 1000000 in
theorem rats_any (L : List Cn) (v : Value) (w : World) (h : CnsAt w v L) (hok : ∀ x ∈ L, CnOk x) (hn : L.length ≤ 1000) :
    Calls Try.prog 23 #[v] w fun e w' => ∃ v', e = .returned v' ∧ Below w.heap.size w w' ∧ RowOwn w' w.heap.size 47 33 v' (L.map fun c => pC c.pt) := by
  have HI := hide h
  have HL := hide hok
  obtain ⟨a, cap, rfl, hc1, hc2⟩ := h.form
  clear h hok
  have HS : Hid (RPtsOf w L (.slice none 0 0) (.int .i64 0) w) := hide ⟨0, Nat.zero_le _, rfl, Below.refl _ _, RowOwn.nil _ _ _ _⟩
  have HZ := hide zero_cn
  go_enter Try.func23, Try.ntmps23
  go_wp2_with fail
  go_loopw [3, 8] (fun v i wr => RPtsOf w L v i wr) (fun _ i _ => L.length - (intOf i).toNat)
  case atStart => exact HS.out
  case round =>
    clear HS
    obtain ⟨k, hk, rfl, hB, hown⟩ := hrel
    have HB := hide hB
    have HOWN := hide hown
    by_cases hlt : k < L.length
    · obtain ⟨x, hx⟩ : ∃ x, L[k]? = some x := ⟨_, List.getElem?_eq_getElem hlt⟩
      obtain ⟨b, off, rfl, hr⟩ := (HI.out.on hB).get hx
      have hxo := HL.out x (List.mem_of_getElem? hx)
      have HXO := hide hxo
      have HXR := hide hr
      have HN : Hid ((Try.prog.info? 59).map (·.size) = some (cnC x).length) := hide (by rw [cnC_length hxo]; exact info_cn)
      have H1 : Hid (∀ u ∈ cnC x, u.oneCell' = true) := hide (cnC_one x)
      have HT : Hid (∀ w : World, (w.alloc (.cells coinZ 59)).there w.heap.size 0 (cnC x).length) := hide (fun w => by rw [cnC_length hxo]; exact cn_there w)
      have hk1 : (k : Int) < (L.length : Int) := by omega
      have HLP : Hid ((Try.prog.info? 47).map (·.size) = some (pC x.pt).length) := hide (by rw [pC_length hxo.1]; exact info_pt)
      have HLEN : Hid ((pC x.pt).length = 33) := hide (pC_length hxo.1)
      have HX := hide hx
      have hzc := HZ.out wr
      clear hr hx hxo hB hown
      go_upto_region 5 with (first | (refine wpList_load_mid rfl 59 (.tmp 10) rfl b (off + k * 66) rfl (cnC x) _ HXR.out Try.underlying59 rfl HN.out ?_) | (refine wp_store_row rfl 59 (.tmp 5) (.tmp 11) rfl wr.heap.size 0 (cnC x) rfl rfl (HT.out wr) HN.out H1.out ?_))
      have hW : ((wr.alloc (.cells coinZ 59)).setCells wr.heap.size 0 (cnC x)).rangeAt wr.heap.size 0 (cnC x) := World.rangeAt_setCells_same _ _ _ _ (HT.out wr)
      have hB2 : Below wr.heap.size wr ((wr.alloc (.cells coinZ 59)).setCells wr.heap.size 0 (cnC x)) := below_sets (Nat.le_refl _) _ _ _ ((Below.refl _ _).alloc (Nat.le_refl _) _)
      generalize (wr.alloc (.cells coinZ 59)).setCells wr.heap.size 0 (cnC x) = W2 at *
      have HP := hide (cn_range hW HXO.out).1
      have HB2 := hide (below_on HB.out hB2)
      have HOWN2 := hide (HOWN.out.move (w1 := W2) fun g _ hl => hB2.block g hl)
      clear hW hB2 HXR HN H1 HT HB HOWN hzc
      generalize wr.heap.size = gb at *
      have hPP : ∀ u ∈ pC x.pt, u.oneCell' = true := pC_one _
      generalize hP : pC x.pt = P at *
      have HPP := hide hP
      clear hP
      try simp only [Act.put]
      -- the new element
      have hbn := below_new W2 (.cells P.toArray 47)
      have HNEW := hide (range_new W2 P 47)
      have HOWN3 := hide (HOWN2.out.move (w1 := W2.alloc (.cells P.toArray 47)) fun g _ hl => hbn.block g hl)
      have HB4 := hide (HB2.out.alloc HB2.out.size (.cells P.toArray 47))
      have hw4 : w.heap.size ≤ (W2.alloc (.cells P.toArray 47)).heap.size := HB4.out.size
      obtain ⟨v4, w4, hrun, hrow5, hgr, hwh⟩ := run_append_row (W2.alloc (.cells P.toArray 47)) 33 47 33 _ 33 36 Try.underlying33 infoP rfl (by omega) (by omega) w.heap.size u3 ((L.take k).map fun c => pC c.pt) HOWN3.out W2.heap.size P HNEW.out ⟨HLEN.out, hPP⟩ (by rw [List.length_map]; simp; omega) hw4
      obtain ⟨va, vc, rfl, -, -⟩ := hrow5.row.form
      have HROW := hide hrow5
      have hlt5 := HOWN3.out.lt
      have R1 : Hid (Below w.heap.size w w4) := hide (HB4.out.grown hgr hw4 fun j hj => (hlt5 j hj).1)
      have R : Hid (RPtsOf w L (.slice va ((List.map (fun c => pC c.pt) (List.take k L)) ++ [P]).length vc) (.int .i64 ((k + 1 : Nat) : Int)) w4) := hide ⟨k + 1, by omega, rfl, R1.out, by
        rw [take_more (f := fun c => pC c.pt) HX.out, HPP.out]
        exact HROW.out⟩
      clear hbn hPP hrow5 hgr hwh hw4 hlt5 R1 HROW
      obtain ⟨nn, hnn⟩ : ∃ nn, nn = ((List.map (fun c => pC c.pt) (List.take k L)) ++ [P]).length := ⟨_, rfl⟩
      rw [← hnn] at hrun R
      clear hnn
      go_wp2_with (first
        | (refine wpList_load_mid rfl 47 (.tmp 13) rfl gb 0 rfl P _ HP.out Try.underlying47 rfl HLP.out ?_)
        | (refine wp_build_one rfl 33 47 (.tmp 14) rfl _ 33 36 Try.underlying33 infoP (by omega) (by omega) P HLEN.out rfl ?_)
        | (at_builtin; refine wp_app rfl (.tmp 12) (.tmp 15) 33 rfl (v1 := u3) (v2 := .slice (some ⟨W2.heap.size, 0, none⟩) 1 1) (v := .slice va nn vc) (w' := w4) rfl rfl ?_ ?_; exact hrun))
      go_roundw
      case rel => first | exact R.out | ((repeat apply Exists.intro); exact ⟨R.out, rfl⟩)
      case measure => simp [intOf]; omega
    · have hk2 : (L.length : Int) ≤ (k : Int) := by omega
      have htk : L.take k = L := List.take_of_length_le (by omega)
      have R : Hid (Below w.heap.size w wr ∧ RowOwn wr w.heap.size 47 33 u3 (L.map fun c => pC c.pt)) := hide ⟨hB, by rw [htk] at hown; exact hown⟩
      clear hB hown htk
      go_wp2
      go_ret
      exact ⟨_, rfl, R.out⟩

end Go.Proofs.Ytkemdfikcmgaaaa
