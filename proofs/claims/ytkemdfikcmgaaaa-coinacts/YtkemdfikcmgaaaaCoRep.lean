/-
  What coin.repeated answers at this program, whatever the points.
-/
import Derived.Test.YtkemdfikcmgaaaaCoSet
namespace Go.Proofs.Ytkemdfikcmgaaaa
open Go.RowKit Go.Maps

theorem cown_heap {H : Type} {k : TypeId} {R : Value → Option (DataW H × List MemPlace)} {w w' : World} {b n : Nat} {D : DataW H} (h : w.ownsMap Try.prog k R b n D) (e : w'.heap[b]? = w.heap[b]?) : w'.ownsMap Try.prog k R b n D := by
  obtain ⟨es, clock, hb, r⟩ := h
  exact ⟨es, clock, e.trans hb, r⟩
theorem cnodup_next {L : List Pt} {k : Nat} {x : Pt} (hx : L[k]? = some x) : (L.take (k + 1)).Nodup ↔ (L.take k).Nodup ∧ x ∉ L.take k := by
  obtain ⟨h1, h2⟩ := List.getElem?_eq_some_iff.1 hx
  rw [List.take_succ_eq_append_getElem h1, h2, List.nodup_append]
  constructor
  · rintro ⟨a1, -, a3⟩
    exact ⟨a1, fun hm => a3 _ hm _ (List.mem_singleton.2 rfl) rfl⟩
  · rintro ⟨a1, a2⟩
    exact ⟨a1, by simp, fun a ha b hb e => a2 (List.mem_singleton.1 hb ▸ e ▸ ha)⟩
theorem czero_unit (w : World) : (zeroValue 76).run Try.prog w = .ok (.agg #[]) w := by kernel_rfl
/-- So far no point stood twice, and the map holds just these. -/
def CRep (w : World) (L : List Pt) (i : Value) (wr : World) : Prop :=
  ∃ k : Nat, k ≤ L.length ∧ i = .int .i64 k ∧ Below w.heap.size w wr ∧ w.heap.size < wr.heap.size ∧ (L.take k).Nodup ∧
    wr.ownsMap Try.prog 47 (unitElem (H := Unit)) w.heap.size k (setOf (.agg []) ((L.take k).map klOf))

set_option maxRecDepth 100000 in
set_option maxHeartbeats 1000000 in
theorem corep_any (L : List Pt) (v : Value) (w : World) (h : PsAt w v L) (hL : ∀ x ∈ L, PtOk x) (_hn : L.length ≤ 1000000) (r : Bool) (hr : r = false ↔ L.Nodup) :
    Calls Try.prog 27 #[v] w fun e w' => e = .returned (.bool r) ∧ Below w.heap.size w w' := by
  have hmm := @run_makeMap Try.prog
  have HS : Hid (CRep w L (.int .i64 0) (w.alloc (.map #[] 0))) := hide ⟨0, Nat.zero_le _, rfl, (Below.refl _ _).alloc (Nat.le_refl _) _, by rw [alloc_size]; omega, by simp, by
    rw [List.take_zero]
    exact World.ownsMap_made _ _ _ _⟩
  have HI := hide h
  have HL := hide hL
  have HR := hide hr
  obtain ⟨a, cap, rfl, hc1, hc2⟩ := h.form
  clear h hL hr
  go_enter Try.func27, Try.ntmps27
  go_wp2_with fail
  go_loopw [11] (fun i wr => CRep w L i wr) (fun i _ => L.length - (intOf i).toNat)
  case atStart => exact HS.out
  case round =>
    clear HS
    obtain ⟨k, hk, rfl, hB, hsz, hnd, hown⟩ := hrel
    have HB := hide hB
    have HND := hide hnd
    have HOWN := hide hown
    have HSZ := hide hsz
    by_cases hlt : k < L.length
    · obtain ⟨x, hx⟩ : ∃ x, L[k]? = some x := ⟨_, List.getElem?_eq_getElem hlt⟩
      obtain ⟨b, off, rfl, hr⟩ := (HI.out.on hB).get hx
      have hxo := HL.out x (List.mem_of_getElem? hx)
      have HXR := hide hr
      have HN : Hid ((Try.prog.info? 47).map (·.size) = some (pC x).length) := hide (by rw [pC_length hxo]; exact info_pt)
      have H1 : Hid (∀ u ∈ pC x, u.oneCell' = true) := hide (pC_one x)
      have HT : Hid (∀ w : World, (w.alloc (.cells #[.int .u8 0, .int .u8 0, .int .u8 0, .int .u8 0, .int .u8 0, .int .u8 0, .int .u8 0, .int .u8 0, .int .u8 0, .int .u8 0, .int .u8 0, .int .u8 0, .int .u8 0, .int .u8 0, .int .u8 0, .int .u8 0, .int .u8 0, .int .u8 0, .int .u8 0, .int .u8 0, .int .u8 0, .int .u8 0, .int .u8 0, .int .u8 0, .int .u8 0, .int .u8 0, .int .u8 0, .int .u8 0, .int .u8 0, .int .u8 0, .int .u8 0, .int .u8 0, .int .u32 0] 47)).there w.heap.size 0 (pC x).length) := hide (fun w => by rw [pC_length hxo]; exact p_there w)
      have hk1 : (k : Int) < (L.length : Int) := by omega
      have HKEY := hide (key_of hxo)
      have HX := hide hx
      -- is it there?
      have hhas : Maps.has (setOf (H := Unit) (.agg []) ((L.take k).map klOf)) (klOf x) = true ↔ x ∈ L.take k := by
        rw [has_setOf _ _ _ (fun l hl => by
          obtain ⟨y, hy, rfl⟩ := List.mem_map.1 hl
          exact kl_key (HL.out y (List.mem_of_mem_take hy)))]
        simp only [List.any_map, List.any_eq_true, Function.comp_apply]
        constructor
        · rintro ⟨y, hy, e⟩
          have := (kl_same (HL.out y (List.mem_of_mem_take hy)) hxo).1 e
          exact this ▸ hy
        · intro hy
          exact ⟨x, hy, (kl_same hxo hxo).2 rfl⟩
      have HHAS := hide hhas
      clear hr hx hxo hB hsz hnd hown hhas
      go_upto_region 5 with (first | (refine wpList_load_mid rfl 47 (.tmp 13) rfl b (off + k * 33) rfl (pC x) _ HXR.out Try.underlying47 rfl HN.out ?_) | (refine wp_store_row rfl 47 (.tmp 5) (.tmp 14) rfl wr.heap.size 0 (pC x) rfl rfl (HT.out wr) HN.out H1.out ?_))
      have hW : ((wr.alloc (.cells #[.int .u8 0, .int .u8 0, .int .u8 0, .int .u8 0, .int .u8 0, .int .u8 0, .int .u8 0, .int .u8 0, .int .u8 0, .int .u8 0, .int .u8 0, .int .u8 0, .int .u8 0, .int .u8 0, .int .u8 0, .int .u8 0, .int .u8 0, .int .u8 0, .int .u8 0, .int .u8 0, .int .u8 0, .int .u8 0, .int .u8 0, .int .u8 0, .int .u8 0, .int .u8 0, .int .u8 0, .int .u8 0, .int .u8 0, .int .u8 0, .int .u8 0, .int .u8 0, .int .u32 0] 47)).setCells wr.heap.size 0 (pC x)).rangeAt wr.heap.size 0 (pC x) := World.rangeAt_setCells_same _ _ _ _ (HT.out wr)
      have hB2 : Below wr.heap.size wr ((wr.alloc (.cells #[.int .u8 0, .int .u8 0, .int .u8 0, .int .u8 0, .int .u8 0, .int .u8 0, .int .u8 0, .int .u8 0, .int .u8 0, .int .u8 0, .int .u8 0, .int .u8 0, .int .u8 0, .int .u8 0, .int .u8 0, .int .u8 0, .int .u8 0, .int .u8 0, .int .u8 0, .int .u8 0, .int .u8 0, .int .u8 0, .int .u8 0, .int .u8 0, .int .u8 0, .int .u8 0, .int .u8 0, .int .u8 0, .int .u8 0, .int .u8 0, .int .u8 0, .int .u8 0, .int .u32 0] 47)).setCells wr.heap.size 0 (pC x)) := below_sets (Nat.le_refl _) _ _ _ ((Below.refl _ _).alloc (Nat.le_refl _) _)
      generalize (wr.alloc (.cells #[.int .u8 0, .int .u8 0, .int .u8 0, .int .u8 0, .int .u8 0, .int .u8 0, .int .u8 0, .int .u8 0, .int .u8 0, .int .u8 0, .int .u8 0, .int .u8 0, .int .u8 0, .int .u8 0, .int .u8 0, .int .u8 0, .int .u8 0, .int .u8 0, .int .u8 0, .int .u8 0, .int .u8 0, .int .u8 0, .int .u8 0, .int .u8 0, .int .u8 0, .int .u8 0, .int .u8 0, .int .u8 0, .int .u8 0, .int .u8 0, .int .u8 0, .int .u8 0, .int .u32 0] 47)).setCells wr.heap.size 0 (pC x) = W2 at *
      have HP := hide hW
      have HOWN2 := hide (cown_heap HOWN.out (hB2.block w.heap.size HSZ.out))
      have HB2 := hide (below_on HB.out hB2)
      have HSZ2 : Hid (w.heap.size < W2.heap.size) := hide (Nat.lt_of_lt_of_le HSZ.out hB2.size)
      clear hW hB2 HXR H1 HT HB HOWN HSZ
      generalize wr.heap.size = gb at *
      generalize hP : pC x = P at *
      clear hP
      try simp only [Act.put]
      have hkm : k < 9223372036854775807 := by omega
      generalize hD : setOf (H := Unit) (.agg []) ((L.take k).map klOf) = D at *
      have HDD := hide hD
      clear hD
      generalize hke : klOf x = ke at *
      have HKE := hide hke
      clear hke
      cases hd : Maps.has D ke with
      | true =>
        have HF : Hid (r = true) := hide (by
          cases hr : r with
          | true => rfl
          | false => exact absurd (HHAS.out.1 hd) ((cnodup_next HX.out).1 ((HR.out.1 hr).sublist (List.take_sublist _ _))).2)
        go_wp2_with (first
          | (refine wpList_load_mid rfl 47 (.tmp 5) rfl gb 0 rfl P _ HP.out Try.underlying47 rfl HN.out ?_)
          | (at_lookup; refine wpList_lookup_own_unit _ rfl _ _ 75 rfl 47 76 pt_law Try.underlying75 (czero_unit _) w.heap.size k _ rfl HOWN2.out _ _ rfl HKEY.out ?_))
        go_ret
        exact ⟨by rw [HF.out]; first | done | rfl, HB2.out.alloc HB2.out.size _⟩
      | false =>
        have HNO : Hid (x ∉ L.take k) := hide (fun h => by rw [HHAS.out.2 h] at hd; cases hd)
        go_wp2_with (first
          | (refine wpList_load_mid rfl 47 (.tmp 5) rfl gb 0 rfl P _ HP.out Try.underlying47 rfl HN.out ?_)
          | (at_lookup; refine wpList_lookup_own_unit _ rfl _ _ 75 rfl 47 76 pt_law Try.underlying75 (czero_unit _) w.heap.size k _ rfl HOWN2.out _ _ rfl HKEY.out ?_)
          | (refine wpList_load_mid rfl 47 (.tmp 5) rfl gb 0 rfl P _ (range_on HP.out ((Below.refl _ _).alloc (Nat.le_refl _) _)) Try.underlying47 rfl HN.out ?_)
          | (at_mapUpdate; refine wpList_mapUpdate_own _ rfl _ _ _ 75 rfl 47 76 pt_law Try.underlying75 (unitElem (H := Unit)) w.heap.size k _ rfl (HOWN2.out.alloc _) (by unfold maxLen; omega) _ _ _ rfl rfl HKEY.out _ [] unitElem_mk ?_; intro w1 hown1 hgrow1))
        have hs1 := hgrow1.size
        rw [alloc_size] at hs1
        have R : Hid (CRep w L (.int .i64 ((k + 1 : Nat) : Int)) w1) := hide ⟨k + 1, by omega, rfl,
          (HB2.out.alloc HB2.out.size _).grown hgrow1 (by rw [alloc_size]; have := HB2.out.size; omega) (fun j hj => by cases hj; exact Nat.le_refl _), by have := HSZ2.out; omega,
          (cnodup_next HX.out).2 ⟨HND.out, HNO.out⟩, by
            rw [take_more (f := klOf) HX.out, setOf_snoc, HDD.out, HKE.out]
            exact hown1⟩
        clear hown1 hgrow1 hs1 hd
        go_roundw
        case rel => first | exact R.out | ((repeat apply Exists.intro); exact ⟨R.out, rfl⟩)
        case measure => simp [intOf]; omega
    · have hk2 : (L.length : Int) ≤ (k : Int) := by omega
      have HF : Hid (r = false) := hide (HR.out.2 (by
        have h := HND.out
        rw [List.take_of_length_le (by omega)] at h
        exact h))
      clear hB hsz hnd hown
      go_wp2
      go_ret
      exact ⟨by rw [HF.out]; first | done | rfl, HB.out⟩

end Go.Proofs.Ytkemdfikcmgaaaa
