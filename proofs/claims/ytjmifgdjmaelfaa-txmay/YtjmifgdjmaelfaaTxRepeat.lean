/-
  What tx.repeated answers at this program, whatever the inputs.
-/
import Derived.Test.YtjmifgdjmaelfaaTxMap
import Derived.Test.YtjmifgdjmaelfaaTxForm
import Derived.Test.YtjmifgdjmaelfaaTxWr
import Derived.Test.YtjmifgdjmaelfaaTxInC
namespace Go.Proofs.Ytjmifgdjmaelfaa
open Go.RowKit Go.Maps

/-- What an input spends. -/
def ptOf (x : TIn) : List Int × Int := (x.tx, x.n)
theorem ownsMap_heap {H : Type} {k : TypeId} {R : Value → Option (DataW H × List MemPlace)} {w w' : World} {b n : Nat} {D : DataW H} (h : w.ownsMap Try.prog k R b n D) (e : w'.heap[b]? = w.heap[b]?) : w'.ownsMap Try.prog k R b n D := by
  obtain ⟨es, clock, hb, r⟩ := h
  exact ⟨es, clock, e.trans hb, r⟩
theorem nodup_next {L : List TIn} {k : Nat} {x : TIn} (hx : L[k]? = some x) : ((L.take (k + 1)).map ptOf).Nodup ↔ ((L.take k).map ptOf).Nodup ∧ ¬ ∃ y ∈ L.take k, ptOf y = ptOf x := by
  obtain ⟨h1, h2⟩ := List.getElem?_eq_some_iff.1 hx
  rw [List.take_succ_eq_append_getElem h1, h2, List.map_append, List.nodup_append, List.map_cons, List.map_nil]
  constructor
  · rintro ⟨a1, -, a3⟩
    refine ⟨a1, ?_⟩
    rintro ⟨y, hy, e⟩
    exact a3 _ (List.mem_map.2 ⟨y, hy, rfl⟩) _ (by simp) e
  · rintro ⟨a1, a2⟩
    refine ⟨a1, by simp, ?_⟩
    intro a ha b hb e
    obtain ⟨y, hy, rfl⟩ := List.mem_map.1 ha
    exact a2 ⟨y, hy, e.trans (List.mem_singleton.1 hb)⟩
theorem nodup_take {L : List TIn} (k : Nat) (h : (L.map ptOf).Nodup) : ((L.take k).map ptOf).Nodup := by
  rw [List.map_take]
  exact h.sublist (List.take_sublist k _)
/-- So far no point stood twice, and the map holds just these. -/
def Repeating (w : World) (kl : TIn → Lit) (L : List TIn) (i : Value) (wr : World) : Prop :=
  ∃ k : Nat, k ≤ L.length ∧ i = .int .i64 k ∧ Below w.heap.size w wr ∧ w.heap.size < wr.heap.size ∧ ((L.take k).map ptOf).Nodup ∧
    wr.ownsMap Try.prog 46 (unitElem (H := Unit)) w.heap.size k (setOf (.agg []) ((L.take k).map kl))
theorem zero_unit (w : World) : (zeroValue 98).run Try.prog w = .ok (.agg #[]) w := by kernel_rfl
theorem lit_string {l : Lit} (h : ∃ v, keyOf Try.prog 46 v = some l) : WideAt.IsKeyLit l := by
  obtain ⟨v, h⟩ := h
  exact pt_law.key h

set_option maxRecDepth 100000 in
set_option maxHeartbeats 1000000 in
theorem repeated_any (L : List TIn) (iv : Value) (w : World) (h : InsAt w iv L) (hL : ∀ x ∈ L, InOk x) (_hn : L.length ≤ 1000000) (r : Bool) (hr : r = false ↔ (L.map ptOf).Nodup) :
    Calls Try.prog 28 #[iv] w fun e w' => e = .returned (.bool r) ∧ Below w.heap.size w w' := by
  have hmm := @run_makeMap Try.prog
  -- what each point reads as
  obtain ⟨kl, hkl⟩ : ∃ kl : TIn → Lit, ∀ x, InOk x → keyOf Try.prog 46 (.agg (ptC x.tx x.n).toArray) = some (kl x) :=
    ⟨fun x => (keyOf Try.prog 46 (.agg (ptC x.tx x.n).toArray)).getD (.bool true), fun x hx => by
      obtain ⟨l, hl⟩ := key_pt x.tx x.n hx.1 hx.2.1 hx.2.2.1
      show _ = some ((keyOf Try.prog 46 (.agg (ptC x.tx x.n).toArray)).getD (.bool true))
      rw [hl]
      rfl⟩
  have HS : Hid (Repeating w kl L (.int .i64 0) (w.alloc (.map #[] 0))) := hide ⟨0, Nat.zero_le _, rfl, (Below.refl _ _).alloc (Nat.le_refl _) _, by rw [alloc_size]; omega, by simp, by
    rw [List.take_zero]
    exact World.ownsMap_made _ _ _ _⟩
  have HI := hide h
  have HL := hide hL
  have HK := hide hkl
  have HR := hide hr
  obtain ⟨a, cap, rfl, hc1, hc2⟩ := h.form
  clear h hL hkl hr
  go_enter Try.func28, Try.ntmps28
  go_wp2_with fail
  go_loopw [11] (fun i wr => Repeating w kl L i wr) (fun i _ => L.length - (intOf i).toNat)
  case atStart => exact HS.out
  case round =>
    clear HS
    obtain ⟨k, hk, rfl, hB, hsz, hnd, hown⟩ := hrel
    have HB := hide hB
    have HND := hide hnd
    have HOWN := hide hown
    have HSZ := hide hsz
    by_cases hlt : k < L.length
    · obtain ⟨x, hx⟩ : ∃ x, L[k]? = some x := ⟨_, List.getElem?_eq_getElem hlt⟩
      obtain ⟨b, off, kv, rfl, hr, hbv⟩ := (HI.out.on hB).get hx
      have hxo := HL.out x (List.mem_of_getElem? hx)
      have hxl := hxo.1
      have HXR := hide hr
      have HN : Hid ((Try.prog.info? 48).map (·.size) = some (inC (x, kv)).length) := hide (by rw [inC_length hxl]; exact info_in)
      have H1 : Hid (∀ u ∈ inC (x, kv), u.oneCell' = true) := hide (inC_one hbv.oneCell)
      have HT : Hid (∀ w : World, (w.alloc (.cells #[.int .u8 0, .int .u8 0, .int .u8 0, .int .u8 0, .int .u8 0, .int .u8 0, .int .u8 0, .int .u8 0, .int .u8 0, .int .u8 0, .int .u8 0, .int .u8 0, .int .u8 0, .int .u8 0, .int .u8 0, .int .u8 0, .int .u8 0, .int .u8 0, .int .u8 0, .int .u8 0, .int .u8 0, .int .u8 0, .int .u8 0, .int .u8 0, .int .u8 0, .int .u8 0, .int .u8 0, .int .u8 0, .int .u8 0, .int .u8 0, .int .u8 0, .int .u8 0, .int .u32 0, .slice none 0 0] 48)).there w.heap.size 0 (inC (x, kv)).length) := hide (fun w => by rw [inC_length hxl]; exact in_there w)
      have hk1 : (k : Int) < (L.length : Int) := by omega
      have HKEY := hide (HK.out x hxo)
      have HLP : Hid ((Try.prog.info? 46).map (·.size) = some (ptC x.tx x.n).length) := hide (by rw [ptC_length _ hxl]; exact info_pt)
      have HX := hide hx
      have HXL := hide hxl
      -- is it there?
      have hhas : Maps.has (setOf (H := Unit) (.agg []) ((L.take k).map kl)) (kl x) = true ↔ ∃ y ∈ L.take k, ptOf y = ptOf x := by
        rw [has_setOf _ _ _ (fun l hl => by
          obtain ⟨y, hy, rfl⟩ := List.mem_map.1 hl
          exact lit_string ⟨_, HK.out y (HL.out y (List.mem_of_mem_take hy))⟩)]
        simp only [List.any_map, List.any_eq_true, Function.comp_apply]
        constructor
        · rintro ⟨y, hy, e⟩
          have hyo := HL.out y (List.mem_of_mem_take hy)
          have := (pt_keys (HK.out y hyo) (HK.out x hxo) hyo.1 hxl).1 e
          exact ⟨y, hy, by unfold ptOf; rw [this.1, this.2]⟩
        · rintro ⟨y, hy, e⟩
          have hyo := HL.out y (List.mem_of_mem_take hy)
          unfold ptOf at e
          simp only [Prod.mk.injEq] at e
          exact ⟨y, hy, (pt_keys (HK.out y hyo) (HK.out x hxo) hyo.1 hxl).2 e⟩
      have HHAS := hide hhas
      clear hr hbv hx hxo hxl hB hsz hnd hown hhas
      go_upto_region 5 with (first | (refine wpList_load_mid rfl 48 (.tmp 13) rfl b (off + k * 34) rfl (inC (x, kv)) _ HXR.out Try.underlying48 rfl HN.out ?_) | (refine wp_store_row rfl 48 (.tmp 5) (.tmp 14) rfl wr.heap.size 0 (inC (x, kv)) rfl rfl (HT.out wr) HN.out H1.out ?_))
      have hW : ((wr.alloc (.cells #[.int .u8 0, .int .u8 0, .int .u8 0, .int .u8 0, .int .u8 0, .int .u8 0, .int .u8 0, .int .u8 0, .int .u8 0, .int .u8 0, .int .u8 0, .int .u8 0, .int .u8 0, .int .u8 0, .int .u8 0, .int .u8 0, .int .u8 0, .int .u8 0, .int .u8 0, .int .u8 0, .int .u8 0, .int .u8 0, .int .u8 0, .int .u8 0, .int .u8 0, .int .u8 0, .int .u8 0, .int .u8 0, .int .u8 0, .int .u8 0, .int .u8 0, .int .u8 0, .int .u32 0, .slice none 0 0] 48)).setCells wr.heap.size 0 (inC (x, kv))).rangeAt wr.heap.size 0 (inC (x, kv)) := World.rangeAt_setCells_same _ _ _ _ (HT.out wr)
      have hB2 : Below wr.heap.size wr ((wr.alloc (.cells #[.int .u8 0, .int .u8 0, .int .u8 0, .int .u8 0, .int .u8 0, .int .u8 0, .int .u8 0, .int .u8 0, .int .u8 0, .int .u8 0, .int .u8 0, .int .u8 0, .int .u8 0, .int .u8 0, .int .u8 0, .int .u8 0, .int .u8 0, .int .u8 0, .int .u8 0, .int .u8 0, .int .u8 0, .int .u8 0, .int .u8 0, .int .u8 0, .int .u8 0, .int .u8 0, .int .u8 0, .int .u8 0, .int .u8 0, .int .u8 0, .int .u8 0, .int .u8 0, .int .u32 0, .slice none 0 0] 48)).setCells wr.heap.size 0 (inC (x, kv))) := below_sets (Nat.le_refl _) _ _ _ ((Below.refl _ _).alloc (Nat.le_refl _) _)
      generalize (wr.alloc (.cells #[.int .u8 0, .int .u8 0, .int .u8 0, .int .u8 0, .int .u8 0, .int .u8 0, .int .u8 0, .int .u8 0, .int .u8 0, .int .u8 0, .int .u8 0, .int .u8 0, .int .u8 0, .int .u8 0, .int .u8 0, .int .u8 0, .int .u8 0, .int .u8 0, .int .u8 0, .int .u8 0, .int .u8 0, .int .u8 0, .int .u8 0, .int .u8 0, .int .u8 0, .int .u8 0, .int .u8 0, .int .u8 0, .int .u8 0, .int .u8 0, .int .u8 0, .int .u8 0, .int .u32 0, .slice none 0 0] 48)).setCells wr.heap.size 0 (inC (x, kv)) = W2 at *
      have HP := hide (inC_range hW HXL.out).1
      have HOWN2 := hide (ownsMap_heap HOWN.out (hB2.block w.heap.size HSZ.out))
      have HB2 := hide (below_on HB.out hB2)
      have HSZ2 : Hid (w.heap.size < W2.heap.size) := hide (Nat.lt_of_lt_of_le HSZ.out hB2.size)
      clear hW hB2 HXR HN H1 HT HB HOWN HSZ
      generalize wr.heap.size = gb at *
      simp only at HP
      generalize hP : ptC x.tx x.n = P at *
      have HPP := hide hP
      clear hP
      simp only [Act.put]
      have hkm : k < 9223372036854775807 := by omega
      generalize hD : setOf (H := Unit) (.agg []) ((L.take k).map kl) = D at *
      have HDD := hide hD
      clear hD
      generalize hke : kl x = ke at *
      have HKE := hide hke
      clear hke
      cases hd : Maps.has D ke with
      | true =>
        have HF : Hid (r = true) := hide (by
          cases hr : r with
          | true => rfl
          | false => exact absurd (HHAS.out.1 hd) ((nodup_next HX.out).1 (nodup_take (k + 1) (HR.out.1 hr))).2)
        go_wp2_with (first
          | (refine wpList_load_mid rfl 46 (.tmp 17) rfl gb 0 rfl P _ HP.out Try.underlying46 rfl HLP.out ?_)
          | (at_lookup; refine wpList_lookup_own_unit _ rfl _ _ 97 rfl 46 98 pt_law Try.underlying97 (zero_unit _) w.heap.size k _ rfl HOWN2.out _ _ rfl HKEY.out ?_))
        go_ret
        exact ⟨by rw [HF.out]; first | done | rfl, HB2.out.alloc HB2.out.size _⟩
      | false =>
        have HNO : Hid (¬ ∃ y ∈ L.take k, ptOf y = ptOf x) := hide (fun h => by rw [HHAS.out.2 h] at hd; cases hd)
        go_wp2_with (first
          | (refine wpList_load_mid rfl 46 (.tmp 17) rfl gb 0 rfl P _ HP.out Try.underlying46 rfl HLP.out ?_)
          | (at_lookup; refine wpList_lookup_own_unit _ rfl _ _ 97 rfl 46 98 pt_law Try.underlying97 (zero_unit _) w.heap.size k _ rfl HOWN2.out _ _ rfl HKEY.out ?_)
          | (refine wpList_load_mid rfl 46 (.tmp 24) rfl gb 0 rfl P _ (range_on HP.out ((Below.refl _ _).alloc (Nat.le_refl _) _)) Try.underlying46 rfl HLP.out ?_)
          | (at_mapUpdate; refine wpList_mapUpdate_own _ rfl _ _ _ 97 rfl 46 98 pt_law Try.underlying97 (unitElem (H := Unit)) w.heap.size k _ rfl (HOWN2.out.alloc _) (by unfold maxLen; omega) _ _ _ rfl rfl HKEY.out _ [] unitElem_mk ?_; intro w1 hown1 hgrow1))
        have hs1 := hgrow1.size
        rw [alloc_size] at hs1
        have R : Hid (Repeating w kl L (.int .i64 ((k + 1 : Nat) : Int)) w1) := hide ⟨k + 1, by omega, rfl,
          (HB2.out.alloc HB2.out.size _).grown hgrow1 (by rw [alloc_size]; have := HB2.out.size; omega) (fun j hj => by cases hj; exact Nat.le_refl _), by have := HSZ2.out; omega,
          (nodup_next HX.out).2 ⟨HND.out, HNO.out⟩, by
            obtain ⟨h1, h2⟩ := List.getElem?_eq_some_iff.1 HX.out
            rw [List.take_succ_eq_append_getElem h1, h2, List.map_append, List.map_cons, List.map_nil, setOf_snoc, HDD.out, HKE.out]
            exact hown1⟩
        clear hown1 hgrow1 hs1 hd
        go_roundw
        case rel => first | exact R.out | ((repeat apply Exists.intro); exact ⟨R.out, rfl⟩)
        case measure => simp [intOf]; omega
    · have hk2 : (L.length : Int) ≤ (k : Int) := by omega
      have HF : Hid (r = false) := hide (HR.out.2 (by
        have h := HND.out
        rw [List.take_of_length_le (by omega)] at h
        exact h))
      clear hB hsz hnd hown
      go_wp2
      go_ret
      exact ⟨by rw [HF.out]; first | done | rfl, HB.out⟩

end Go.Proofs.Ytjmifgdjmaelfaa
