import Derived.Test.YtbeegcpmpgdbnaaDoorTxR
import Derived.Test.YtbeegcpmpgdbnaaDoorTxEql
import Derived.Test.YtbeegcpmpgdbnaaDoorLawKit
import Derived.Maps.OwnSet
import Derived.DeepKeys4
/-
  What tx.payable answers at this program, of few outputs.
-/
namespace Go.Proofs.YtbeegcpmpgdbnaaDoor
open Go.RowKit

def valOk (x : TOut) : Prop := 0 < x.val ∧ x.val ≤ 1125899906842624
def sumV (L : List TOut) : Int := (L.map (·.val)).sum
theorem sumV_next {L : List TOut} {k : Nat} {x : TOut} (hx : L[k]? = some x) : sumV (L.take (k + 1)) = sumV (L.take k) + x.val := by
  obtain ⟨h1, h2⟩ := List.getElem?_eq_some_iff.1 hx
  rw [List.take_succ_eq_append_getElem h1, h2]
  simp [sumV]
theorem sumV_le : ∀ (L : List TOut), (∀ x ∈ L, valOk x) → 0 ≤ sumV L ∧ sumV L ≤ L.length * 1125899906842624
  | [], _ => by simp [sumV]
  | x :: L, h => by
    have h1 := sumV_le L fun y hy => h y (by simp [hy])
    have h2 := h x (by simp)
    unfold valOk at h2
    have e : sumV (x :: L) = x.val + sumV L := by simp [sumV]
    rw [e, List.length_cons]
    omega
/-- So far all may be. -/
def Paying (w : World) (L : List TOut) (s i : Value) (wr : World) : Prop := ∃ k : Nat, k ≤ L.length ∧ i = .int .i64 k ∧ s = .int .u64 (sumV (L.take k)) ∧ Below w.heap.size w wr ∧ ∀ x ∈ L.take k, valOk x

set_option maxRecDepth 100000 in
set_option maxHeartbeats 1000000 in
theorem payable_any (L : List TOut) (ov : Value) (w : World) (h : OutsAt w ov L) (hL : ∀ x ∈ L, OutOk x) (hn : L.length ≤ 8) (r : Bool) (hr : r = true ↔ ((∀ x ∈ L, valOk x) ∧ sumV L ≤ 1125899906842624)) :
    Calls Tryd.prog 40 #[ov] w fun e w' => e = .returned (.bool r) ∧ Below w.heap.size w w' := by
  have HS : Hid (Paying w L (.int .u64 0) (.int .i64 0) w) := hide ⟨0, Nat.zero_le _, rfl, by simp [sumV], Below.refl _ _, by simp⟩
  have HO := hide h
  have HL := hide hL
  have HR := hide hr
  obtain ⟨a, cap, rfl, hc1, hc2⟩ := OutsAt.form h
  clear h hL hr
  go_enter Tryd.func40, Tryd.ntmps40
  go_wp2_with fail
  go_loopw [3, 8] (fun s i wr => Paying w L s i wr) (fun _ i _ => L.length - (intOf i).toNat)
  case atStart => exact HS.out
  case round =>
    clear HS
    obtain ⟨k, hk, rfl, rfl, hB, hall⟩ := hrel
    have HB := hide hB
    have HALL := hide hall
    have hsb := sumV_le (L.take k) hall
    have hlt8 : ((L.take k).length : Int) ≤ 8 := by simp; omega
    have HSUM : Hid (∃ S, S = sumV (L.take k)) := hide ⟨_, rfl⟩
    by_cases hlt : k < L.length
    · obtain ⟨x, hx⟩ : ∃ x, L[k]? = some x := ⟨_, List.getElem?_eq_getElem hlt⟩
      obtain ⟨b, off, rfl, hr⟩ := OutsAt.get (OutsAt.on HO.out hB) hx
      have hxo := HL.out x (List.mem_of_getElem? hx)
      have hxl := hxo.2.1
      have HXR := hide hr
      have HN : Hid ((Tryd.prog.info? 60).map (·.size) = some (outC x).length) := hide (by rw [outC_length hxl]; exact info_out)
      have H1 : Hid (∀ u ∈ outC x, u.oneCell' = true) := hide (outC_one x)
      have HT : Hid (∀ w : World, (w.alloc (.cells #[.int .u64 0, .int .u8 0, .int .u8 0, .int .u8 0, .int .u8 0, .int .u8 0, .int .u8 0, .int .u8 0, .int .u8 0, .int .u8 0, .int .u8 0, .int .u8 0, .int .u8 0, .int .u8 0, .int .u8 0, .int .u8 0, .int .u8 0, .int .u8 0, .int .u8 0, .int .u8 0, .int .u8 0, .int .u8 0, .int .u8 0, .int .u8 0, .int .u8 0, .int .u8 0, .int .u8 0, .int .u8 0, .int .u8 0, .int .u8 0, .int .u8 0, .int .u8 0, .int .u8 0] 60)).there w.heap.size 0 (outC x).length) := hide (fun w => by rw [outC_length hxl]; exact out_there w)
      have hk1 : (k : Int) < (L.length : Int) := by omega
      have HX := hide hx
      have hv0 := hxo.1.1
      have hv1 := hxo.1.2
      have HNX := hide (sumV_next hx)
      clear hr hx hxo hxl hB hall HSUM
      go_upto_region 5 with (first | (refine wpList_load_mid rfl 60 (.tmp 10) rfl b (off + k * 33) rfl (outC x) _ HXR.out Tryd.underlying60 rfl HN.out ?_) | (refine wp_store_row rfl 60 (.tmp 5) (.tmp 11) rfl wr.heap.size 0 (outC x) rfl rfl (HT.out wr) HN.out H1.out ?_))
      have hW : ((wr.alloc (.cells #[.int .u64 0, .int .u8 0, .int .u8 0, .int .u8 0, .int .u8 0, .int .u8 0, .int .u8 0, .int .u8 0, .int .u8 0, .int .u8 0, .int .u8 0, .int .u8 0, .int .u8 0, .int .u8 0, .int .u8 0, .int .u8 0, .int .u8 0, .int .u8 0, .int .u8 0, .int .u8 0, .int .u8 0, .int .u8 0, .int .u8 0, .int .u8 0, .int .u8 0, .int .u8 0, .int .u8 0, .int .u8 0, .int .u8 0, .int .u8 0, .int .u8 0, .int .u8 0, .int .u8 0] 60)).setCells wr.heap.size 0 (outC x)).rangeAt wr.heap.size 0 (outC x) := World.rangeAt_setCells_same _ _ _ _ (HT.out wr)
      have hB2 : Below wr.heap.size wr ((wr.alloc (.cells #[.int .u64 0, .int .u8 0, .int .u8 0, .int .u8 0, .int .u8 0, .int .u8 0, .int .u8 0, .int .u8 0, .int .u8 0, .int .u8 0, .int .u8 0, .int .u8 0, .int .u8 0, .int .u8 0, .int .u8 0, .int .u8 0, .int .u8 0, .int .u8 0, .int .u8 0, .int .u8 0, .int .u8 0, .int .u8 0, .int .u8 0, .int .u8 0, .int .u8 0, .int .u8 0, .int .u8 0, .int .u8 0, .int .u8 0, .int .u8 0, .int .u8 0, .int .u8 0, .int .u8 0] 60)).setCells wr.heap.size 0 (outC x)) := below_sets (Nat.le_refl _) _ _ _ ((Below.refl _ _).alloc (Nat.le_refl _) _)
      have c0 := hW 0 _ rfl
      simp only [Nat.add_zero] at c0
      generalize (wr.alloc (.cells #[.int .u64 0, .int .u8 0, .int .u8 0, .int .u8 0, .int .u8 0, .int .u8 0, .int .u8 0, .int .u8 0, .int .u8 0, .int .u8 0, .int .u8 0, .int .u8 0, .int .u8 0, .int .u8 0, .int .u8 0, .int .u8 0, .int .u8 0, .int .u8 0, .int .u8 0, .int .u8 0, .int .u8 0, .int .u8 0, .int .u8 0, .int .u8 0, .int .u8 0, .int .u8 0, .int .u8 0, .int .u8 0, .int .u8 0, .int .u8 0, .int .u8 0, .int .u8 0, .int .u8 0] 60)).setCells wr.heap.size 0 (outC x) = W2 at *
      have HB2 := hide (below_on HB.out hB2)
      clear hW hB2 HXR HN H1 HT HB
      generalize wr.heap.size = gb at *
      generalize hS : sumV (L.take k) = S at *
      have HSS := hide hS
      clear hS
      generalize hV : x.val = V at *
      have HVV := hide hV
      clear hV
      simp only [Act.put]
      by_cases e0 : V = 0
      · have HF : Hid (r = false) := hide (by
          cases hr : r with
          | false => rfl
          | true =>
            have := (HR.out.1 hr).1 x (List.mem_of_getElem? HX.out)
            unfold valOk at this
            rw [HVV.out] at this
            omega)
        subst e0
        clear HR HX HNX
        go_wp2
        go_ret
        exact ⟨by rw [HF.out]; first | done | rfl, HB2.out⟩
      · have e0' : (V == 0) = false := by simpa using e0
        by_cases e1 : V ≤ 1125899906842624
        · have e1' : ¬ (1125899906842624 < V) := by omega
          have hw : IntKind.u64.wrap (S + V) = S + V := by simp [IntKind.wrap, IntKind.bits, IntKind.signed]; omega
          have R : Hid (Paying w L (.int .u64 (S + V)) (.int .i64 ((k + 1 : Nat) : Int)) W2) := hide ⟨k + 1, by omega, rfl, by rw [HNX.out], HB2.out, fun y hy => by
            rcases take_mem HX.out hy with q | rfl
            · exact HALL.out y q
            · unfold valOk; rw [HVV.out]; omega⟩
          clear HR HX HNX e0 HALL
          go_wp2
          go_roundw
          case rel => first | exact R.out | ((repeat apply Exists.intro); exact ⟨R.out, rfl⟩)
          case measure => simp [intOf]; omega
        · have HF : Hid (r = false) := hide (by
            cases hr : r with
            | false => rfl
            | true =>
              have := (HR.out.1 hr).1 x (List.mem_of_getElem? HX.out)
              unfold valOk at this
              rw [HVV.out] at this
              omega)
          have e1' : 1125899906842624 < V := by omega
          clear HR HX HNX e0 HALL
          go_wp2
          go_ret
          exact ⟨by rw [HF.out]; first | done | rfl, HB2.out⟩
    · have hk2 : (L.length : Int) ≤ (k : Int) := by omega
      have htk : L.take k = L := List.take_of_length_le (by omega)
      rw [htk] at hsb hall ⊢
      have HF : Hid (r = decide (sumV L ≤ 1125899906842624)) := hide (by
        by_cases hs : sumV L ≤ 1125899906842624
        · rw [decide_eq_true hs]; exact HR.out.2 ⟨hall, hs⟩
        · rw [decide_eq_false hs]
          cases hr : r with
          | false => rfl
          | true => exact absurd (HR.out.1 hr).2 hs)
      clear hB hall htk HALL HSUM
      generalize sumV L = S at *
      go_wp2
      go_ret
      exact ⟨by rw [HF.out]; first | done | rfl, HB.out⟩

end Go.Proofs.YtbeegcpmpgdbnaaDoor

/-
  Points as keys of a map: what each reads as.
-/
namespace Go.Proofs.YtbeegcpmpgdbnaaDoor
open Go.RowKit Go.Maps

theorem mapM_all {α β : Type} {f : α → Option β} : ∀ {L : List α}, (∀ x ∈ L, ∃ y, f x = some y) → ∃ ys, L.mapM f = some ys
  | [], _ => ⟨[], rfl⟩
  | x :: L, h => by
    obtain ⟨y, hy⟩ := h x (by simp)
    obtain ⟨ys, hys⟩ := mapM_all (L := L) fun z hz => h z (by simp [hz])
    exact ⟨y :: ys, by simp [hy, hys]⟩
theorem u8_wf {z : Int} (h : Byte z) : (Lit.int .u8 z).wf = true := by
  unfold Byte at h
  simp [Lit.wf, IntKind.min, IntKind.max, IntKind.signed, IntKind.bits]
  omega
theorem u32_wf {z : Int} (h : 0 ≤ z ∧ z < 4294967296) : (Lit.int .u32 z).wf = true := by
  simp [Lit.wf, IntKind.min, IntKind.max, IntKind.signed, IntKind.bits]
  omega
theorem lits_int (d : Nat) (t : TypeId) (q : IntKind) (ht : Tryd.prog.underlying t = some (.int q)) (z : Int) (hz : (Lit.int q z).wf = true) : Tryd.prog.keyLits (d + 1) t [.int q z] = some [.int q z] := by
  simp [Program.keyLits, ht, hz]
theorem lits_hash (d : Nat) (l : List Int) (h : l.length = 32) (hb : AllB l) : ∃ ls, Tryd.prog.keyLits (d + 2) 34 (vals .u8 l) = some ls := by
  have hv : (vals .u8 l).length = 32 := by rw [vals_length]; exact h
  have c1 : Tryd.prog.cellsOf 5 = 1 := by kernel_rfl
  have c2 : Tryd.prog.cellsOf 34 = 32 := by kernel_rfl
  obtain ⟨ys, hys⟩ := mapM_all (f := fun i => Tryd.prog.keyLits (d + 1) 5 (((vals .u8 l).drop (i * Tryd.prog.cellsOf 5)).take (Tryd.prog.cellsOf 5))) (L := List.range 32) fun i hi => by
    have hi : i < 32 := by simpa using hi
    have hg := vals_get .u8 l i (by omega)
    have e : ((vals .u8 l).drop (i * Tryd.prog.cellsOf 5)).take (Tryd.prog.cellsOf 5) = [.int .u8 (l.getD i 0)] := by
      rw [c1, Nat.mul_one]
      rw [List.drop_eq_getElem_cons (by omega), List.take_succ_cons, List.take_zero]
      rw [List.getElem?_eq_getElem (by omega)] at hg
      simpa using hg
    have hm : l.getD i 0 ∈ l := by
      simp only [List.getD, List.getElem?_eq_getElem (show i < l.length by omega), Option.getD_some]
      exact List.getElem_mem _
    rw [e]
    exact ⟨_, lits_int d 5 .u8 Tryd.underlying5 _ (u8_wf (hb _ hm))⟩
  refine ⟨ys.flatten, ?_⟩
  unfold Program.keyLits
  simp only [Tryd.underlying34, hv, c2, if_true, hys, Option.map_some]
theorem lits_pt (d : Nat) (tx : List Int) (n : Int) (h : tx.length = 32) (hb : AllB tx) (hn : 0 ≤ n ∧ n < 4294967296) : ∃ ls, Tryd.prog.keyLits (d + 3) 36 (ptC tx n) = some ls := by
  obtain ⟨l0, e0⟩ := lits_hash d tx h hb
  have hv : (vals .u8 tx).length = 32 := by rw [vals_length]; exact h
  have c0 : Tryd.prog.cellsOf 34 = 32 := by kernel_rfl
  have c1 : Tryd.prog.cellsOf 22 = 1 := by kernel_rfl
  have c2 : Tryd.prog.cellsOf 36 = 33 := by kernel_rfl
  have p0 : ((ptC tx n).drop 0).take 32 = vals .u8 tx := by
    unfold ptC
    rw [List.drop_zero, List.take_append_of_le_length (by omega), List.take_of_length_le (by omega)]
  have p1 : ((ptC tx n).drop 32).take 1 = [.int .u32 n] := by
    unfold ptC
    rw [List.drop_append_of_le_length (by omega), List.drop_of_length_le (by omega)]
    rfl
  have e1 := lits_int (d + 1) 22 .u32 Tryd.underlying22 n (u32_wf hn)
  refine ⟨l0 ++ [.int .u32 n], ?_⟩
  unfold Program.keyLits
  simp only [Tryd.underlying36, ptC_length n h, c2]
  rw [List.drop_zero] at p0
  simp [c0, c1, p0, p1, e0, e1]
theorem key_pt (tx : List Int) (n : Int) (h : tx.length = 32) (hb : AllB tx) (hn : 0 ≤ n ∧ n < 4294967296) : ∃ l, keyOf Tryd.prog 36 (.agg (ptC tx n).toArray) = some l := by
  have hs : Tryd.prog.types.size + 1 = (Tryd.prog.types.size - 2) + 3 := by
    have : 2 ≤ Tryd.prog.types.size := of_decide_eq_true (by kernel_rfl)
    omega
  obtain ⟨ls, e⟩ := lits_pt (Tryd.prog.types.size - 2) tx n h hb hn
  have hk : Tryd.prog.keyType 36 = true := by kernel_rfl
  have c2 : Tryd.prog.cellsOf 36 = 33 := by kernel_rfl
  have hf : (Value.agg (ptC tx n).toArray).formed Tryd.prog 36 = true := by
    simp [Value.formed, Tryd.underlying36, c2, ptC_length n h]
  refine ⟨.string (keyBytes ls), ?_⟩
  unfold keyOf
  rw [Tryd.underlying36]
  have ec : (Value.agg (ptC tx n).toArray).cells.toList = ptC tx n := by simp [Value.cells]
  simp only [hk, hf, Bool.and_self, if_true, ec, hs, e, Option.map_some]
theorem pt_row : (36 : TypeId) < Tryd.prog.types.size := of_decide_eq_true (by kernel_rfl)
theorem pt_law : Keyed Tryd.prog 36 := Keyed.of_law (deep_law_laid laidOut (m := 3) (by omega) pt_row (by kernel_rfl) (by rw [Tryd.underlying36]))
/-- Two points are one just if they read as one. -/
theorem pt_keys {tx tx' : List Int} {n n' : Int} {l l' : Lit} (h : keyOf Tryd.prog 36 (.agg (ptC tx n).toArray) = some l) (h' : keyOf Tryd.prog 36 (.agg (ptC tx' n').toArray) = some l') (hl : tx.length = 32) (hl' : tx'.length = 32) :
    l.sameKey l' = true ↔ (tx = tx' ∧ n = n') := by
  have K : WideMaps.KeyLaw Tryd.prog 36 := deep_law_laid laidOut (m := 3) (by omega) pt_row (by kernel_rfl) (by rw [Tryd.underlying36])
  obtain ⟨s, rfl⟩ := K.str h
  obtain ⟨s', rfl⟩ := K.str h'
  have e : (Lit.string s).sameKey (.string s') = true ↔ s = s' := by simp [Lit.sameKey]
  rw [e]
  constructor
  · rintro rfl
    have hh := K.inj h h'
    have hh2 : ptC tx n = ptC tx' n' := by simpa using hh
    unfold ptC at hh2
    have := List.append_inj hh2 (by rw [vals_length, vals_length, hl, hl'])
    refine ⟨?_, by simpa using this.2⟩
    have h1 := this.1
    unfold vals at h1
    exact List.map_inj_right (by intro a b hab; simpa using hab) |>.1 h1
  · rintro ⟨rfl, rfl⟩
    have := h.symm.trans h'
    simpa using this

end Go.Proofs.YtbeegcpmpgdbnaaDoor

/-
  An input's point among its cells.
-/
namespace Go.Proofs.YtbeegcpmpgdbnaaDoor
open Go.RowKit

theorem inC_pt (x : TIn × Value) : inC x = ptC x.1.tx x.1.n ++ [x.2] := by simp [inC, ptC]
theorem inC_range {w : World} {b o : Nat} {x : TIn × Value} (h : w.rangeAt b o (inC x)) (hl : x.1.tx.length = 32) : w.rangeAt b o (ptC x.1.tx x.1.n) ∧ w.cell? ⟨b, o + 33, none⟩ = some x.2 := by
  refine ⟨?_, (inC_key h hl).1⟩
  rw [inC_pt] at h
  exact range_left h

end Go.Proofs.YtbeegcpmpgdbnaaDoor

/-
  What tx.repeated answers at this program, whatever the inputs.
-/
namespace Go.Proofs.YtbeegcpmpgdbnaaDoor
open Go.RowKit Go.Maps

/-- What an input spends. -/
def ptOf (x : TIn) : List Int × Int := (x.tx, x.n)
theorem ownsMap_heap {H : Type} {k : TypeId} {R : Value → Option (DataW H × List MemPlace)} {w w' : World} {b n : Nat} {D : DataW H} (h : w.ownsMap Tryd.prog k R b n D) (e : w'.heap[b]? = w.heap[b]?) : w'.ownsMap Tryd.prog k R b n D := by
  obtain ⟨es, clock, hb, r⟩ := h
  exact ⟨es, clock, e.trans hb, r⟩
theorem nodup_next {L : List TIn} {k : Nat} {x : TIn} (hx : L[k]? = some x) : ((L.take (k + 1)).map ptOf).Nodup ↔ ((L.take k).map ptOf).Nodup ∧ ¬ ∃ y ∈ L.take k, ptOf y = ptOf x := by
  obtain ⟨h1, h2⟩ := List.getElem?_eq_some_iff.1 hx
  rw [List.take_succ_eq_append_getElem h1, h2, List.map_append, List.nodup_append, List.map_cons, List.map_nil]
  constructor
  · rintro ⟨a1, -, a3⟩
    refine ⟨a1, ?_⟩
    rintro ⟨y, hy, e⟩
    exact a3 _ (List.mem_map.2 ⟨y, hy, rfl⟩) _ (by simp) e
  · rintro ⟨a1, a2⟩
    refine ⟨a1, by simp, ?_⟩
    intro a ha b hb e
    obtain ⟨y, hy, rfl⟩ := List.mem_map.1 ha
    exact a2 ⟨y, hy, e.trans (List.mem_singleton.1 hb)⟩
theorem nodup_take {L : List TIn} (k : Nat) (h : (L.map ptOf).Nodup) : ((L.take k).map ptOf).Nodup := by
  rw [List.map_take]
  exact h.sublist (List.take_sublist k _)
/-- So far no point stood twice, and the map holds just these. -/
def Repeating (w : World) (kl : TIn → Lit) (L : List TIn) (i : Value) (wr : World) : Prop :=
  ∃ k : Nat, k ≤ L.length ∧ i = .int .i64 k ∧ Below w.heap.size w wr ∧ w.heap.size < wr.heap.size ∧ ((L.take k).map ptOf).Nodup ∧
    wr.ownsMap Tryd.prog 36 (unitElem (H := Unit)) w.heap.size k (setOf (.agg []) ((L.take k).map kl))
theorem zero_unit (w : World) : (zeroValue 106).run Tryd.prog w = .ok (.agg #[]) w := by kernel_rfl
theorem lit_string {l : Lit} (h : ∃ v, keyOf Tryd.prog 36 v = some l) : WideAt.IsKeyLit l := by
  obtain ⟨v, h⟩ := h
  exact pt_law.key h

set_option maxRecDepth 100000 in
set_option maxHeartbeats 1000000 in
theorem repeated_any (L : List TIn) (iv : Value) (w : World) (h : InsAt w iv L) (hL : ∀ x ∈ L, InOk x) (_hn : L.length ≤ 1000000) (r : Bool) (hr : r = false ↔ (L.map ptOf).Nodup) :
    Calls Tryd.prog 41 #[iv] w fun e w' => e = .returned (.bool r) ∧ Below w.heap.size w w' := by
  have hmm := @run_makeMap Tryd.prog
  -- what each point reads as
  obtain ⟨kl, hkl⟩ : ∃ kl : TIn → Lit, ∀ x, InOk x → keyOf Tryd.prog 36 (.agg (ptC x.tx x.n).toArray) = some (kl x) :=
    ⟨fun x => (keyOf Tryd.prog 36 (.agg (ptC x.tx x.n).toArray)).getD (.bool true), fun x hx => by
      obtain ⟨l, hl⟩ := key_pt x.tx x.n hx.1 hx.2.1 hx.2.2.1
      show _ = some ((keyOf Tryd.prog 36 (.agg (ptC x.tx x.n).toArray)).getD (.bool true))
      rw [hl]
      rfl⟩
  have HS : Hid (Repeating w kl L (.int .i64 0) (w.alloc (.map #[] 0))) := hide ⟨0, Nat.zero_le _, rfl, (Below.refl _ _).alloc (Nat.le_refl _) _, by rw [alloc_size]; omega, by simp, by
    rw [List.take_zero]
    exact World.ownsMap_made _ _ _ _⟩
  have HI := hide h
  have HL := hide hL
  have HK := hide hkl
  have HR := hide hr
  obtain ⟨a, cap, rfl, hc1, hc2⟩ := h.form
  clear h hL hkl hr
  go_enter Tryd.func41, Tryd.ntmps41
  go_wp2_with fail
  go_loopw [11] (fun i wr => Repeating w kl L i wr) (fun i _ => L.length - (intOf i).toNat)
  case atStart => exact HS.out
  case round =>
    clear HS
    obtain ⟨k, hk, rfl, hB, hsz, hnd, hown⟩ := hrel
    have HB := hide hB
    have HND := hide hnd
    have HOWN := hide hown
    have HSZ := hide hsz
    by_cases hlt : k < L.length
    · obtain ⟨x, hx⟩ : ∃ x, L[k]? = some x := ⟨_, List.getElem?_eq_getElem hlt⟩
      obtain ⟨b, off, kv, rfl, hr, hbv⟩ := (HI.out.on hB).get hx
      have hxo := HL.out x (List.mem_of_getElem? hx)
      have hxl := hxo.1
      have HXR := hide hr
      have HN : Hid ((Tryd.prog.info? 39).map (·.size) = some (inC (x, kv)).length) := hide (by rw [inC_length hxl]; exact info_in)
      have H1 : Hid (∀ u ∈ inC (x, kv), u.oneCell' = true) := hide (inC_one hbv.oneCell)
      have HT : Hid (∀ w : World, (w.alloc (.cells #[.int .u8 0, .int .u8 0, .int .u8 0, .int .u8 0, .int .u8 0, .int .u8 0, .int .u8 0, .int .u8 0, .int .u8 0, .int .u8 0, .int .u8 0, .int .u8 0, .int .u8 0, .int .u8 0, .int .u8 0, .int .u8 0, .int .u8 0, .int .u8 0, .int .u8 0, .int .u8 0, .int .u8 0, .int .u8 0, .int .u8 0, .int .u8 0, .int .u8 0, .int .u8 0, .int .u8 0, .int .u8 0, .int .u8 0, .int .u8 0, .int .u8 0, .int .u8 0, .int .u32 0, .slice none 0 0] 39)).there w.heap.size 0 (inC (x, kv)).length) := hide (fun w => by rw [inC_length hxl]; exact in_there w)
      have hk1 : (k : Int) < (L.length : Int) := by omega
      have HKEY := hide (HK.out x hxo)
      have HLP : Hid ((Tryd.prog.info? 36).map (·.size) = some (ptC x.tx x.n).length) := hide (by rw [ptC_length _ hxl]; exact info_pt)
      have HX := hide hx
      have HXL := hide hxl
      -- is it there?
      have hhas : Maps.has (setOf (H := Unit) (.agg []) ((L.take k).map kl)) (kl x) = true ↔ ∃ y ∈ L.take k, ptOf y = ptOf x := by
        rw [has_setOf _ _ _ (fun l hl => by
          obtain ⟨y, hy, rfl⟩ := List.mem_map.1 hl
          exact lit_string ⟨_, HK.out y (HL.out y (List.mem_of_mem_take hy))⟩)]
        simp only [List.any_map, List.any_eq_true, Function.comp_apply]
        constructor
        · rintro ⟨y, hy, e⟩
          have hyo := HL.out y (List.mem_of_mem_take hy)
          have := (pt_keys (HK.out y hyo) (HK.out x hxo) hyo.1 hxl).1 e
          exact ⟨y, hy, by unfold ptOf; rw [this.1, this.2]⟩
        · rintro ⟨y, hy, e⟩
          have hyo := HL.out y (List.mem_of_mem_take hy)
          unfold ptOf at e
          simp only [Prod.mk.injEq] at e
          exact ⟨y, hy, (pt_keys (HK.out y hyo) (HK.out x hxo) hyo.1 hxl).2 e⟩
      have HHAS := hide hhas
      clear hr hbv hx hxo hxl hB hsz hnd hown hhas
      go_upto_region 5 with (first | (refine wpList_load_mid rfl 39 (.tmp 13) rfl b (off + k * 34) rfl (inC (x, kv)) _ HXR.out Tryd.underlying39 rfl HN.out ?_) | (refine wp_store_row rfl 39 (.tmp 5) (.tmp 14) rfl wr.heap.size 0 (inC (x, kv)) rfl rfl (HT.out wr) HN.out H1.out ?_))
      have hW : ((wr.alloc (.cells #[.int .u8 0, .int .u8 0, .int .u8 0, .int .u8 0, .int .u8 0, .int .u8 0, .int .u8 0, .int .u8 0, .int .u8 0, .int .u8 0, .int .u8 0, .int .u8 0, .int .u8 0, .int .u8 0, .int .u8 0, .int .u8 0, .int .u8 0, .int .u8 0, .int .u8 0, .int .u8 0, .int .u8 0, .int .u8 0, .int .u8 0, .int .u8 0, .int .u8 0, .int .u8 0, .int .u8 0, .int .u8 0, .int .u8 0, .int .u8 0, .int .u8 0, .int .u8 0, .int .u32 0, .slice none 0 0] 39)).setCells wr.heap.size 0 (inC (x, kv))).rangeAt wr.heap.size 0 (inC (x, kv)) := World.rangeAt_setCells_same _ _ _ _ (HT.out wr)
      have hB2 : Below wr.heap.size wr ((wr.alloc (.cells #[.int .u8 0, .int .u8 0, .int .u8 0, .int .u8 0, .int .u8 0, .int .u8 0, .int .u8 0, .int .u8 0, .int .u8 0, .int .u8 0, .int .u8 0, .int .u8 0, .int .u8 0, .int .u8 0, .int .u8 0, .int .u8 0, .int .u8 0, .int .u8 0, .int .u8 0, .int .u8 0, .int .u8 0, .int .u8 0, .int .u8 0, .int .u8 0, .int .u8 0, .int .u8 0, .int .u8 0, .int .u8 0, .int .u8 0, .int .u8 0, .int .u8 0, .int .u8 0, .int .u32 0, .slice none 0 0] 39)).setCells wr.heap.size 0 (inC (x, kv))) := below_sets (Nat.le_refl _) _ _ _ ((Below.refl _ _).alloc (Nat.le_refl _) _)
      generalize (wr.alloc (.cells #[.int .u8 0, .int .u8 0, .int .u8 0, .int .u8 0, .int .u8 0, .int .u8 0, .int .u8 0, .int .u8 0, .int .u8 0, .int .u8 0, .int .u8 0, .int .u8 0, .int .u8 0, .int .u8 0, .int .u8 0, .int .u8 0, .int .u8 0, .int .u8 0, .int .u8 0, .int .u8 0, .int .u8 0, .int .u8 0, .int .u8 0, .int .u8 0, .int .u8 0, .int .u8 0, .int .u8 0, .int .u8 0, .int .u8 0, .int .u8 0, .int .u8 0, .int .u8 0, .int .u32 0, .slice none 0 0] 39)).setCells wr.heap.size 0 (inC (x, kv)) = W2 at *
      have HP := hide (inC_range hW HXL.out).1
      have HOWN2 := hide (ownsMap_heap HOWN.out (hB2.block w.heap.size HSZ.out))
      have HB2 := hide (below_on HB.out hB2)
      have HSZ2 : Hid (w.heap.size < W2.heap.size) := hide (Nat.lt_of_lt_of_le HSZ.out hB2.size)
      clear hW hB2 HXR HN H1 HT HB HOWN HSZ
      generalize wr.heap.size = gb at *
      simp only at HP
      generalize hP : ptC x.tx x.n = P at *
      have HPP := hide hP
      clear hP
      simp only [Act.put]
      have hkm : k < 9223372036854775807 := by omega
      generalize hD : setOf (H := Unit) (.agg []) ((L.take k).map kl) = D at *
      have HDD := hide hD
      clear hD
      generalize hke : kl x = ke at *
      have HKE := hide hke
      clear hke
      cases hd : Maps.has D ke with
      | true =>
        have HF : Hid (r = true) := hide (by
          cases hr : r with
          | true => rfl
          | false => exact absurd (HHAS.out.1 hd) ((nodup_next HX.out).1 (nodup_take (k + 1) (HR.out.1 hr))).2)
        go_wp2_with (first
          | (refine wpList_load_mid rfl 36 (.tmp 17) rfl gb 0 rfl P _ HP.out Tryd.underlying36 rfl HLP.out ?_)
          | (at_lookup; refine wpList_lookup_own_unit _ rfl _ _ 105 rfl 36 106 pt_law Tryd.underlying105 (zero_unit _) w.heap.size k _ rfl HOWN2.out _ _ rfl HKEY.out ?_))
        go_ret
        exact ⟨by rw [HF.out]; first | done | rfl, HB2.out.alloc HB2.out.size _⟩
      | false =>
        have HNO : Hid (¬ ∃ y ∈ L.take k, ptOf y = ptOf x) := hide (fun h => by rw [HHAS.out.2 h] at hd; cases hd)
        go_wp2_with (first
          | (refine wpList_load_mid rfl 36 (.tmp 17) rfl gb 0 rfl P _ HP.out Tryd.underlying36 rfl HLP.out ?_)
          | (at_lookup; refine wpList_lookup_own_unit _ rfl _ _ 105 rfl 36 106 pt_law Tryd.underlying105 (zero_unit _) w.heap.size k _ rfl HOWN2.out _ _ rfl HKEY.out ?_)
          | (refine wpList_load_mid rfl 36 (.tmp 24) rfl gb 0 rfl P _ (range_on HP.out ((Below.refl _ _).alloc (Nat.le_refl _) _)) Tryd.underlying36 rfl HLP.out ?_)
          | (at_mapUpdate; refine wpList_mapUpdate_own _ rfl _ _ _ 105 rfl 36 106 pt_law Tryd.underlying105 (unitElem (H := Unit)) w.heap.size k _ rfl (HOWN2.out.alloc _) (by unfold maxLen; omega) _ _ _ rfl rfl HKEY.out _ [] unitElem_mk ?_; intro w1 hown1 hgrow1))
        have hs1 := hgrow1.size
        rw [alloc_size] at hs1
        have R : Hid (Repeating w kl L (.int .i64 ((k + 1 : Nat) : Int)) w1) := hide ⟨k + 1, by omega, rfl,
          (HB2.out.alloc HB2.out.size _).grown hgrow1 (by rw [alloc_size]; have := HB2.out.size; omega) (fun j hj => by cases hj; exact Nat.le_refl _), by have := HSZ2.out; omega,
          (nodup_next HX.out).2 ⟨HND.out, HNO.out⟩, by
            obtain ⟨h1, h2⟩ := List.getElem?_eq_some_iff.1 HX.out
            rw [List.take_succ_eq_append_getElem h1, h2, List.map_append, List.map_cons, List.map_nil, setOf_snoc, HDD.out, HKE.out]
            exact hown1⟩
        clear hown1 hgrow1 hs1 hd
        go_roundw
        case rel => first | exact R.out | ((repeat apply Exists.intro); exact ⟨R.out, rfl⟩)
        case measure => simp [intOf]; omega
    · have hk2 : (L.length : Int) ≤ (k : Int) := by omega
      have HF : Hid (r = false) := hide (HR.out.2 (by
        have h := HND.out
        rw [List.take_of_length_le (by omega)] at h
        exact h))
      clear hB hsz hnd hown
      go_wp2
      go_ret
      exact ⟨by rw [HF.out]; first | done | rfl, HB.out⟩

end Go.Proofs.YtbeegcpmpgdbnaaDoor

/-
  What tx.Check answers at this program, whatever the transaction.
-/
namespace Go.Proofs.YtbeegcpmpgdbnaaDoor
open Go.RowKit

/-- Its answer, out of what payable and repeated are. -/
def chE (t : Tr) (p d : Bool) : Int := if formB t = false then 5 else if t.ins.length = 0 ∨ t.outs.length = 0 then 9 else if p = false then 11 else if d = true then 12 else 0
def PayOk (L : List TOut) : Prop := (∀ x ∈ L, valOk x) ∧ sumV L ≤ 1125899906842624

set_option maxRecDepth 100000 in
set_option maxHeartbeats 1000000 in
theorem tcheck_any (t : Tr) (iv ov : Value) (w : World) (h : TxAt w iv ov t) (hok : TrOk t) (p d : Bool) (hp : p = true ↔ PayOk t.outs) (hd : d = false ↔ (t.ins.map ptOf).Nodup) :
    Calls Tryd.prog 24 #[.agg #[.int .u32 t.ver, iv, ov]] w fun e w' => e = .returned (.int .i64 (chE t p d)) ∧ Below w.heap.size w w' := by
  have hbel := below_new w (.cells #[.int .u32 t.ver, iv, ov] 26)
  have F := hide (formed_any t iv ov _ (h.1.on hbel) (h.2.on hbel) (fun x hx => (hok.2.1 x hx).1))
  have HB := hide hbel
  have HT := hide (h.on hbel)
  have HX := hide (TBox.new w (.int .u32 t.ver) iv ov 26)
  obtain ⟨n0, n1, n2⟩ := HX.out
  cases hf : formB t with
  | false =>
    have e : chE t p d = 5 := if_pos hf
    rw [e]
    rw [hf] at F
    obtain ⟨a, cap, rfl, hc1, hc2⟩ := h.1.form
    obtain ⟨a', cap', rfl, hd1, hd2⟩ := h.2.form
    clear h hbel hok hp hd hf e
    go_enter Tryd.func24, Tryd.ntmps24
    go_upto_region 1 with fail
    generalize w.alloc (.cells #[.int .u32 t.ver, .slice a t.ins.length cap, .slice a' t.outs.length cap'] 26) = W0 at *
    go_wp2_with fail
    refine F.out.mono ?_
    rintro e w1 ⟨rfl, hb1⟩
    have R := hide (below_on HB.out hb1)
    clear hb1 n0 n1 n2
    go_wp2
    go_ret
    exact ⟨rfl, R.out⟩
  | true =>
    obtain ⟨f1, f2, f3⟩ := (formB_iff t).1 hf
    rw [hf] at F
    have PY := hide (fun w h => payable_any t.outs ov w h hok.2.2 f2 p hp)
    have RP := hide (fun w h => repeated_any t.ins iv w h hok.2.1 (by omega) d hd)
    have HCH : Hid (((t.ins.length = 0 ∨ t.outs.length = 0) → chE t p d = 9) ∧ (¬ (t.ins.length = 0 ∨ t.outs.length = 0) → (p = false → chE t p d = 11) ∧ (p = true → (d = true → chE t p d = 12) ∧ (d = false → chE t p d = 0)))) := hide (by
      unfold chE
      rw [if_neg (by rw [hf]; decide)]
      refine ⟨fun h => if_pos h, fun h => ⟨fun hp => by rw [if_neg h, if_pos hp], fun hp => ⟨fun hd => by rw [if_neg h, if_neg (by rw [hp]; decide), if_pos hd], fun hd => by rw [if_neg h, if_neg (by rw [hp]; decide), if_neg (by rw [hd]; decide)]⟩⟩⟩)
    generalize chE t p d = E at *
    obtain ⟨a, cap, rfl, hc1, hc2⟩ := h.1.form
    obtain ⟨a', cap', rfl, hd1, hd2⟩ := h.2.form
    clear h hbel hok hp hd hf f3
    go_enter Tryd.func24, Tryd.ntmps24
    go_upto_region 1 with fail
    generalize w.alloc (.cells #[.int .u32 t.ver, .slice a t.ins.length cap, .slice a' t.outs.length cap'] 26) = W0 at *
    go_wp2_with fail
    refine F.out.mono ?_
    rintro e w1 ⟨rfl, hb1⟩
    have HB1 := hide (below_on HB.out hb1)
    have HT1 := hide (HT.out.on hb1)
    have HX1 := hide (HX.out.on hb1)
    clear n0 n1 n2
    obtain ⟨n0, n1, n2⟩ := HX1.out
    clear hb1 HB HT HX F
    by_cases h0 : t.ins.length = 0
    · have HF := hide (HCH.out.1 (Or.inl h0))
      clear PY RP HCH
      rw [h0] at n1
      clear h0
      go_wp2
      go_ret
      exact ⟨by rw [HF.out]; first | done | rfl, HB1.out⟩
    · have h0' : ((t.ins.length : Int) == 0) = false := by simpa using h0
      have h0'' : ¬ (t.ins.length : Int) = 0 := by omega
      by_cases h1 : t.outs.length = 0
      · have HF := hide (HCH.out.1 (Or.inr h1))
        clear PY RP HCH h0
        rw [h1] at n2
        clear h1
        go_wp2
        go_ret
        exact ⟨by rw [HF.out]; first | done | rfl, HB1.out⟩
      · have h1' : ((t.outs.length : Int) == 0) = false := by simpa using h1
        have h1'' : ¬ (t.outs.length : Int) = 0 := by omega
        have HE := hide (HCH.out.2 (by omega))
        clear HCH h0 h1
        go_wp2_with fail
        refine (PY.out _ HT1.out.2).mono ?_
        rintro e w2 ⟨rfl, hb2⟩
        have HB2 := hide (below_on HB1.out hb2)
        have HT2 := hide (HT1.out.on hb2)
        clear n0 n1 n2
        obtain ⟨n0, n1, n2⟩ := HX1.out.on hb2
        clear hb2 HB1 HT1 HX1 PY
        cases p with
        | false =>
          have HF := hide (HE.out.1 rfl)
          clear RP HE
          go_wp2
          go_ret
          exact ⟨by rw [HF.out]; first | done | rfl, HB2.out⟩
        | true =>
          have HG := hide (HE.out.2 rfl)
          clear HE
          go_wp2_with fail
          refine (RP.out _ HT2.out.1).mono ?_
          rintro e w3 ⟨rfl, hb3⟩
          have R := hide (below_on HB2.out hb3)
          clear hb3 HB2 HT2 RP n0 n1 n2
          cases d with
          | true =>
            have HF := hide (HG.out.1 rfl)
            clear HG
            go_wp2
            go_ret
            exact ⟨by rw [HF.out]; first | done | rfl, R.out⟩
          | false =>
            have HF := hide (HG.out.2 rfl)
            clear HG
            go_wp2
            go_ret
            exact ⟨by rw [HF.out]; first | done | rfl, R.out⟩

end Go.Proofs.YtbeegcpmpgdbnaaDoor
