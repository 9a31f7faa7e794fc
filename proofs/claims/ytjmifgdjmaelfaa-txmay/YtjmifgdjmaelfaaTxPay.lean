/-
  What tx.payable answers at this program, of few outputs.
-/
import Derived.Test.YtjmifgdjmaelfaaTxForm
import Derived.Test.YtjmifgdjmaelfaaTxWr
namespace Go.Proofs.Ytjmifgdjmaelfaa
open Go.RowKit

def valOk (x : TOut) : Prop := 0 < x.val ∧ x.val ≤ 1125899906842624
def sumV (L : List TOut) : Int := (L.map (·.val)).sum
theorem sumV_next {L : List TOut} {k : Nat} {x : TOut} (hx : L[k]? = some x) : sumV (L.take (k + 1)) = sumV (L.take k) + x.val := by
  obtain ⟨h1, h2⟩ := List.getElem?_eq_some_iff.1 hx
  rw [List.take_succ_eq_append_getElem h1, h2]
  simp [sumV]
theorem sumV_le : ∀ (L : List TOut), (∀ x ∈ L, valOk x) → 0 ≤ sumV L ∧ sumV L ≤ L.length * 1125899906842624
  | [], _ => by simp [sumV]
  | x :: L, h => by
    have h1 := sumV_le L fun y hy => h y (by simp [hy])
    have h2 := h x (by simp)
    unfold valOk at h2
    have e : sumV (x :: L) = x.val + sumV L := by simp [sumV]
    rw [e, List.length_cons]
    omega
/-- So far all may be. -/
def Paying (w : World) (L : List TOut) (s i : Value) (wr : World) : Prop := ∃ k : Nat, k ≤ L.length ∧ i = .int .i64 k ∧ s = .int .u64 (sumV (L.take k)) ∧ Below w.heap.size w wr ∧ ∀ x ∈ L.take k, valOk x

set_option maxRecDepth 100000 in
set_option maxHeartbeats 1000000 in
theorem payable_any (L : List TOut) (ov : Value) (w : World) (h : OutsAt w ov L) (hL : ∀ x ∈ L, OutOk x) (hn : L.length ≤ 8) (r : Bool) (hr : r = true ↔ ((∀ x ∈ L, valOk x) ∧ sumV L ≤ 1125899906842624)) :
    Calls Try.prog 27 #[ov] w fun e w' => e = .returned (.bool r) ∧ Below w.heap.size w w' := by
  have HS : Hid (Paying w L (.int .u64 0) (.int .i64 0) w) := hide ⟨0, Nat.zero_le _, rfl, by simp [sumV], Below.refl _ _, by simp⟩
  have HO := hide h
  have HL := hide hL
  have HR := hide hr
  obtain ⟨a, cap, rfl, hc1, hc2⟩ := OutsAt.form h
  clear h hL hr
  go_enter Try.func27, Try.ntmps27
  go_wp2_with fail
  go_loopw [3, 8] (fun s i wr => Paying w L s i wr) (fun _ i _ => L.length - (intOf i).toNat)
  case atStart => exact HS.out
  case round =>
    clear HS
    obtain ⟨k, hk, rfl, rfl, hB, hall⟩ := hrel
    have HB := hide hB
    have HALL := hide hall
    have hsb := sumV_le (L.take k) hall
    have hlt8 : ((L.take k).length : Int) ≤ 8 := by simp; omega
    have HSUM : Hid (∃ S, S = sumV (L.take k)) := hide ⟨_, rfl⟩
    by_cases hlt : k < L.length
    · obtain ⟨x, hx⟩ : ∃ x, L[k]? = some x := ⟨_, List.getElem?_eq_getElem hlt⟩
      obtain ⟨b, off, rfl, hr⟩ := OutsAt.get (OutsAt.on HO.out hB) hx
      have hxo := HL.out x (List.mem_of_getElem? hx)
      have hxl := hxo.2.1
      have HXR := hide hr
      have HN : Hid ((Try.prog.info? 42).map (·.size) = some (outC x).length) := hide (by rw [outC_length hxl]; exact info_out)
      have H1 : Hid (∀ u ∈ outC x, u.oneCell' = true) := hide (outC_one x)
      have HT : Hid (∀ w : World, (w.alloc (.cells #[.int .u64 0, .int .u8 0, .int .u8 0, .int .u8 0, .int .u8 0, .int .u8 0, .int .u8 0, .int .u8 0, .int .u8 0, .int .u8 0, .int .u8 0, .int .u8 0, .int .u8 0, .int .u8 0, .int .u8 0, .int .u8 0, .int .u8 0, .int .u8 0, .int .u8 0, .int .u8 0, .int .u8 0, .int .u8 0, .int .u8 0, .int .u8 0, .int .u8 0, .int .u8 0, .int .u8 0, .int .u8 0, .int .u8 0, .int .u8 0, .int .u8 0, .int .u8 0, .int .u8 0] 42)).there w.heap.size 0 (outC x).length) := hide (fun w => by rw [outC_length hxl]; exact out_there w)
      have hk1 : (k : Int) < (L.length : Int) := by omega
      have HX := hide hx
      have hv0 := hxo.1.1
      have hv1 := hxo.1.2
      have HNX := hide (sumV_next hx)
      clear hr hx hxo hxl hB hall HSUM
      go_upto_region 5 with (first | (refine wpList_load_mid rfl 42 (.tmp 10) rfl b (off + k * 33) rfl (outC x) _ HXR.out Try.underlying42 rfl HN.out ?_) | (refine wp_store_row rfl 42 (.tmp 5) (.tmp 11) rfl wr.heap.size 0 (outC x) rfl rfl (HT.out wr) HN.out H1.out ?_))
      have hW : ((wr.alloc (.cells #[.int .u64 0, .int .u8 0, .int .u8 0, .int .u8 0, .int .u8 0, .int .u8 0, .int .u8 0, .int .u8 0, .int .u8 0, .int .u8 0, .int .u8 0, .int .u8 0, .int .u8 0, .int .u8 0, .int .u8 0, .int .u8 0, .int .u8 0, .int .u8 0, .int .u8 0, .int .u8 0, .int .u8 0, .int .u8 0, .int .u8 0, .int .u8 0, .int .u8 0, .int .u8 0, .int .u8 0, .int .u8 0, .int .u8 0, .int .u8 0, .int .u8 0, .int .u8 0, .int .u8 0] 42)).setCells wr.heap.size 0 (outC x)).rangeAt wr.heap.size 0 (outC x) := World.rangeAt_setCells_same _ _ _ _ (HT.out wr)
      have hB2 : Below wr.heap.size wr ((wr.alloc (.cells #[.int .u64 0, .int .u8 0, .int .u8 0, .int .u8 0, .int .u8 0, .int .u8 0, .int .u8 0, .int .u8 0, .int .u8 0, .int .u8 0, .int .u8 0, .int .u8 0, .int .u8 0, .int .u8 0, .int .u8 0, .int .u8 0, .int .u8 0, .int .u8 0, .int .u8 0, .int .u8 0, .int .u8 0, .int .u8 0, .int .u8 0, .int .u8 0, .int .u8 0, .int .u8 0, .int .u8 0, .int .u8 0, .int .u8 0, .int .u8 0, .int .u8 0, .int .u8 0, .int .u8 0] 42)).setCells wr.heap.size 0 (outC x)) := below_sets (Nat.le_refl _) _ _ _ ((Below.refl _ _).alloc (Nat.le_refl _) _)
      have c0 := hW 0 _ rfl
      simp only [Nat.add_zero] at c0
      generalize (wr.alloc (.cells #[.int .u64 0, .int .u8 0, .int .u8 0, .int .u8 0, .int .u8 0, .int .u8 0, .int .u8 0, .int .u8 0, .int .u8 0, .int .u8 0, .int .u8 0, .int .u8 0, .int .u8 0, .int .u8 0, .int .u8 0, .int .u8 0, .int .u8 0, .int .u8 0, .int .u8 0, .int .u8 0, .int .u8 0, .int .u8 0, .int .u8 0, .int .u8 0, .int .u8 0, .int .u8 0, .int .u8 0, .int .u8 0, .int .u8 0, .int .u8 0, .int .u8 0, .int .u8 0, .int .u8 0] 42)).setCells wr.heap.size 0 (outC x) = W2 at *
      have HB2 := hide (below_on HB.out hB2)
      clear hW hB2 HXR HN H1 HT HB
      generalize wr.heap.size = gb at *
      generalize hS : sumV (L.take k) = S at *
      have HSS := hide hS
      clear hS
      generalize hV : x.val = V at *
      have HVV := hide hV
      clear hV
      simp only [Act.put]
      by_cases e0 : V = 0
      · have HF : Hid (r = false) := hide (by
          cases hr : r with
          | false => rfl
          | true =>
            have := (HR.out.1 hr).1 x (List.mem_of_getElem? HX.out)
            unfold valOk at this
            rw [HVV.out] at this
            omega)
        subst e0
        clear HR HX HNX
        go_wp2
        go_ret
        exact ⟨by rw [HF.out]; first | done | rfl, HB2.out⟩
      · have e0' : (V == 0) = false := by simpa using e0
        by_cases e1 : V ≤ 1125899906842624
        · have e1' : ¬ (1125899906842624 < V) := by omega
          have hw : IntKind.u64.wrap (S + V) = S + V := by simp [IntKind.wrap, IntKind.bits, IntKind.signed]; omega
          have R : Hid (Paying w L (.int .u64 (S + V)) (.int .i64 ((k + 1 : Nat) : Int)) W2) := hide ⟨k + 1, by omega, rfl, by rw [HNX.out], HB2.out, fun y hy => by
            rcases take_mem HX.out hy with q | rfl
            · exact HALL.out y q
            · unfold valOk; rw [HVV.out]; omega⟩
          clear HR HX HNX e0 HALL
          go_wp2
          go_roundw
          case rel => first | exact R.out | ((repeat apply Exists.intro); exact ⟨R.out, rfl⟩)
          case measure => simp [intOf]; omega
        · have HF : Hid (r = false) := hide (by
            cases hr : r with
            | false => rfl
            | true =>
              have := (HR.out.1 hr).1 x (List.mem_of_getElem? HX.out)
              unfold valOk at this
              rw [HVV.out] at this
              omega)
          have e1' : 1125899906842624 < V := by omega
          clear HR HX HNX e0 HALL
          go_wp2
          go_ret
          exact ⟨by rw [HF.out]; first | done | rfl, HB2.out⟩
    · have hk2 : (L.length : Int) ≤ (k : Int) := by omega
      have htk : L.take k = L := List.take_of_length_le (by omega)
      rw [htk] at hsb hall ⊢
      have HF : Hid (r = decide (sumV L ≤ 1125899906842624)) := hide (by
        by_cases hs : sumV L ≤ 1125899906842624
        · rw [decide_eq_true hs]; exact HR.out.2 ⟨hall, hs⟩
        · rw [decide_eq_false hs]
          cases hr : r with
          | false => rfl
          | true => exact absurd (HR.out.1 hr).2 hs)
      clear hB hall htk HALL HSUM
      generalize sumV L = S at *
      go_wp2
      go_ret
      exact ⟨by rw [HF.out]; first | done | rfl, HB.out⟩

end Go.Proofs.Ytjmifgdjmaelfaa
