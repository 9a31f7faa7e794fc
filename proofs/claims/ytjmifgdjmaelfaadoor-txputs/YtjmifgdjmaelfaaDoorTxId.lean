/-
  What tx.Id answers at this program, whatever the transaction.
-/
import Derived.Test.YtjmifgdjmaelfaaDoorTxLawK
import Derived.Test.YtjmifgdjmaelfaaDoorShaB
import Derived.Test.YtjmifgdjmaelfaaDoorKitA
namespace Go.Proofs.YtjmifgdjmaelfaaDoor
open Go.RowKit

/-- The id of a transaction; zeroes where it has no form. -/
def idT (t : Tr) : List Int := if formB t = true then digest (digest (txB t)) else List.replicate 32 0
theorem idT_length (t : Tr) : (idT t).length = 32 := by
  unfold idT
  split
  · exact digest_length _
  · simp
theorem idT_form {t : Tr} (h : formB t = true) : idT t = digest (digest (txB t)) := if_pos h
theorem idT_long {t : Tr} (h : formB t = false) : idT t = List.replicate 32 0 := if_neg (by rw [h]; decide)

set_option maxRecDepth 100000 in
set_option maxHeartbeats 1000000 in
theorem tid_any (t : Tr) (iv ov : Value) (w : World) (h : TxAt w iv ov t) (hok : TrOk t) (hk : Ks w) (hle : formB t = true → (txB t).length ≤ 100000000) :
    Calls Tryd.prog 11 #[.agg #[.int .u32 t.ver, iv, ov]] w fun e w' => e = .returned (.tuple #[.agg (vals .u8 (idT t)).toArray, .int .i64 (ptE t)]) ∧ Below w.heap.size w w' := by
  have hnew := below_new w (.cells #[.int .u32 t.ver, iv, ov] 26)
  obtain ⟨W1, hW1⟩ : ∃ W, W = w.alloc (.cells #[.int .u32 t.ver, iv, ov] 26) := ⟨_, rfl⟩
  obtain ⟨W2, hW2⟩ : ∃ W, W = W1.alloc (.cells #[.int .u8 0, .int .u8 0, .int .u8 0, .int .u8 0, .int .u8 0, .int .u8 0, .int .u8 0, .int .u8 0, .int .u8 0, .int .u8 0, .int .u8 0, .int .u8 0, .int .u8 0, .int .u8 0, .int .u8 0, .int .u8 0, .int .u8 0, .int .u8 0, .int .u8 0, .int .u8 0, .int .u8 0, .int .u8 0, .int .u8 0, .int .u8 0, .int .u8 0, .int .u8 0, .int .u8 0, .int .u8 0, .int .u8 0, .int .u8 0, .int .u8 0, .int .u8 0] 36) := ⟨_, rfl⟩
  have s1 : W1.heap.size = w.heap.size + 1 := by rw [hW1]; exact alloc_size _ _
  have b1 : Below w.heap.size w W1 := by rw [hW1]; exact hnew
  have b2 : Below W1.heap.size W1 W2 := by rw [hW2]; exact (Below.refl _ _).alloc (Nat.le_refl _) _
  have x1 : TBox W1 w.heap.size (.int .u32 t.ver) iv ov := by rw [hW1]; exact TBox.new w _ _ _ _
  have A2 : Arr W2 (w.heap.size + 1) 0 .u8 (List.replicate 32 0) := by rw [← s1, hW2]; exact Arr.new W1 .u8 (List.replicate 32 0) 36
  have HX := hide (x1.on b2)
  have HA := hide A2
  have HB := hide (below_on b1 b2)
  have HK := hide (hk.on (below_on b1 b2))
  have P := hide (tput_any t iv ov W2 ((h.1.on b1).on b2) ((h.2.on b1).on b2) hok)
  have E1 := hide hW1
  have E2 := hide hW2
  have HF : Hid (ptE t ≠ 0 ∧ idT t = List.replicate 32 0 ∨ ptE t = 0 ∧ idT t = digest (digest (ptL t)) ∧ (ptL t).length ≤ 100000000) := by
    refine hide ?_
    cases hf : formB t with
    | true => exact .inr ⟨(ptL_form hf).2, by rw [idT_form hf, (ptL_form hf).1], by rw [(ptL_form hf).1]; exact hle hf⟩
    | false => exact .inl ⟨by rw [(ptL_long hf).2]; decide, idT_long hf⟩
  have HL := hide (idT_length t)
  obtain ⟨a, cap, rfl, -, -⟩ := h.1.form
  obtain ⟨a', cap', rfl, -, -⟩ := h.2.form
  generalize ptE t = E at *
  generalize ptL t = l at *
  generalize idT t = D at *
  obtain ⟨n0, n1, n2⟩ := HX.out
  clear hnew hW1 hW2 s1 b1 b2 x1 A2 h hok hk hle
  obtain ⟨ver, ins, outs⟩ := t
  simp only at *
  go_enter Tryd.func11, Tryd.ntmps11
  go_upto_region 1 with fail
  rw [← E1.out, ← E2.out]
  clear E1 E2
  go_wp2_with fail
  refine P.out.mono ?_
  rintro e w3 ⟨v3, rfl, hown3, hb3⟩
  have HA3 := hide (HA.out.on hb3)
  have HB3 := hide (below_on HB.out hb3)
  have HK3 := hide (HK.out.on hb3)
  have HV3 := hide hown3.bytes
  obtain ⟨pa, pc, rfl, -, -⟩ := hown3.bytes.form
  clear hown3 hb3 P HA HB HK n0 n1 n2 HX
  rcases HF.out with ⟨hE, hD⟩ | ⟨hE, hD, hl⟩
  · have hE1 : (E == 0) = false := beq_eq_false_iff_ne.2 hE
    have HTH : Hid (w3.there (w.heap.size + 1) 0 32) := hide (by simpa using HA3.out.2)
    go_wp2_with (refine wp_store_arr rfl 36 (.tmp 2) (.tmp 13) rfl _ 0 .u8 (List.replicate 32 0) rfl rfl 32 HTH.out info_h (by simp) ?_)
    refine ret_row_tmp 2 3 36 rfl (w.heap.size + 1) 0 rfl (vals .u8 (List.replicate 32 0)) (World.rangeAt_setCells_same _ _ _ _ (by rw [vals_length]; exact HTH.out)) _ Tryd.underlying36 rfl (by rw [vals_length]; simpa using info_h) (.int .i64 E) rfl rfl ⟨by rw [hD], ?_⟩
    exact below_sets (by omega) _ _ _ HB3.out
  · subst hE
    have HPT := hide (Parts.one w3 _ l HV3.out)
    have HB4 := hide ((Below.refl w3.heap.size w3).alloc (Nat.le_refl _) (.cells #[.slice pa l.length pc] 29))
    have SM := hide (twice_flat (w3.alloc (.cells #[.slice pa l.length pc] 29)) _ [l] l (by simp) HPT.out (HK3.out.on HB4.out) hl)
    rw [← hD] at SM
    clear hD HF hl
    go_wp2_with fail
    refine SM.out.mono ?_
    rintro e w5 ⟨rfl, hb5⟩
    have HA5 := hide ((HA3.out.on HB4.out).on hb5)
    have HB5 := hide (below_on (below_on HB3.out HB4.out) hb5)
    have HTH : Hid (w5.there (w.heap.size + 1) 0 32) := hide (by simpa using HA5.out.2)
    clear hb5 HA3 HB3 HK3 HV3 SM HPT HB4
    go_wp2_with (refine wp_store_arr rfl 36 (.tmp 2) (.tmp 17) rfl _ 0 .u8 D rfl rfl 32 HTH.out info_h HL.out ?_)
    refine ret_row_tmp 2 3 36 rfl (w.heap.size + 1) 0 rfl (vals .u8 D) (World.rangeAt_setCells_same _ _ _ _ (by rw [vals_length, HL.out]; exact HTH.out)) _ Tryd.underlying36 rfl (by rw [vals_length, HL.out]; exact info_h) (.int .i64 0) rfl rfl ⟨rfl, ?_⟩
    exact below_sets (by omega) _ _ _ HB5.out

end Go.Proofs.YtjmifgdjmaelfaaDoor
