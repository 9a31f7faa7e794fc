/-
  What Get of messages answers, kind by kind: plain words.
-/
import Derived.Test.YtjmifgdjmaelfaaMgA
namespace Go.Proofs.Ytjmifgdjmaelfaa

theorem fx_short {s : Shp} {l : List Int} (h : l.length < fxN s) : fxE s l = 4 := by
  have e := sizedE_less h
  unfold fxE
  rw [if_pos (by rw [e]; decide), e]
theorem fx_long {s : Shp} {l : List Int} (h : fxN s < l.length) : fxE s l = 5 := by
  have e := sizedE_more h
  unfold fxE
  rw [if_pos (by rw [e]; decide), e]
theorem fx_over {s : Shp} {l : List Int} (h : l.length = fxN s) (h2 : s.maxCode < fxC s l) : fxE s l = 6 := by
  unfold fxE
  rw [h, sizedE_same, if_neg (by decide), if_pos h2]
theorem fx_ok {s : Shp} {l : List Int} (h : l.length = fxN s) (h2 : ¬ s.maxCode < fxC s l) : fxE s l = 0 := by
  unfold fxE
  rw [h, sizedE_same, if_neg (by decide), if_neg h2]
theorem num_one {l : List Int} {i : Nat} (h : i < l.length) : num ((l.drop i).take 1) = l.getD i 0 := by
  rw [List.drop_eq_getElem_cons h, List.take_succ_cons, List.take_zero]
  show l[i] + 256 * 0 = _
  simp [h]
theorem mk1 {c : ByteArray} (hc : c = (shp 1).cmd) (l : List Int) (hb : AllB l) : (l.length < 12 → mgE c l = 4) ∧ (12 < l.length → mgE c l = 5) ∧ (l.length = 12 → mgE c l = 0 ∧ mgM c l = ⟨1, num (l.drop 4), num (l.take 4), [], noTr⟩) := by
  subst hc
  obtain ⟨e1, e2⟩ := mg_fixed (k := 1) (by decide) (by decide) (by decide) l
  rw [e1, e2]
  refine ⟨fun h => fx_short h, fun h => fx_long h, fun h => ?_⟩
  have e0 : fxE (shp 1) l = 0 := fx_ok h (by
    have h1 := num_u32 (hb.take 4) (by simp; omega)
    show ¬ (4294967295 < num ((l.drop (0 * 32)).take 4))
    rw [Nat.zero_mul, List.drop_zero]
    omega)
  rw [e0, if_pos rfl]
  refine ⟨rfl, ?_⟩
  show (⟨1, num (l.drop (0 * 32 + 4)), num ((l.drop (0 * 32)).take 4), hsL (l.take (0 * 32)), noTr⟩ : Mg) = _
  simp [hsL]
theorem mk2 {c : ByteArray} (hc : c = (shp 2).cmd) (l : List Int) : (0 < l.length → mgE c l = 5) ∧ (l.length = 0 → mgE c l = 0 ∧ mgM c l = ⟨2, 0, 0, [], noTr⟩) := by
  subst hc
  obtain ⟨e1, e2⟩ := mg_fixed (k := 2) (by decide) (by decide) (by decide) l
  rw [e1, e2]
  refine ⟨fun h => fx_long h, fun h => ?_⟩
  obtain rfl : l = [] := List.length_eq_zero_iff.1 h
  have e0 : fxE (shp 2) [] = 0 := by decide
  rw [e0, if_pos rfl]
  exact ⟨rfl, rfl⟩
theorem mk34 {c : ByteArray} {k : Int} (hk : k = 3 ∨ k = 4) (hc : c = (shp k).cmd) (l : List Int) : (l.length < 8 → mgE c l = 4) ∧ (8 < l.length → mgE c l = 5) ∧ (l.length = 8 → mgE c l = 0 ∧ mgM c l = ⟨k, num l, 0, [], noTr⟩) := by
  subst hc
  rcases hk with rfl | rfl
  · obtain ⟨e1, e2⟩ := mg_fixed (k := 3) (by decide) (by decide) (by decide) l
    rw [e1, e2]
    refine ⟨fun h => fx_short h, fun h => fx_long h, fun h => ?_⟩
    have e0 : fxE (shp 3) l = 0 := fx_ok h (by
      show ¬ (0 < num ((l.drop (0 * 32)).take 0))
      simp [num])
    rw [e0, if_pos rfl]
    refine ⟨rfl, ?_⟩
    show (⟨3, num (l.drop (0 * 32 + 0)), num ((l.drop (0 * 32)).take 0), hsL (l.take (0 * 32)), noTr⟩ : Mg) = _
    simp [hsL, num]
  · obtain ⟨e1, e2⟩ := mg_fixed (k := 4) (by decide) (by decide) (by decide) l
    rw [e1, e2]
    refine ⟨fun h => fx_short h, fun h => fx_long h, fun h => ?_⟩
    have e0 : fxE (shp 4) l = 0 := fx_ok h (by
      show ¬ (0 < num ((l.drop (0 * 32)).take 0))
      simp [num])
    rw [e0, if_pos rfl]
    refine ⟨rfl, ?_⟩
    show (⟨4, num (l.drop (0 * 32 + 0)), num ((l.drop (0 * 32)).take 0), hsL (l.take (0 * 32)), noTr⟩ : Mg) = _
    simp [hsL, num]
theorem byte_at {l : List Int} (hb : AllB l) (i : Nat) (h : i < l.length) : 0 ≤ l.getD i 0 ∧ l.getD i 0 < 256 := hb _ (by simp [List.getD, h])
theorem mk10 {c : ByteArray} (hc : c = (shp 10).cmd) (l : List Int) (hb : AllB l) : (l.length < 33 → mgE c l = 4) ∧ (33 < l.length → mgE c l = 5) ∧ (l.length = 33 → mgE c l = 0 ∧ mgM c l = ⟨10, 0, l.getD 32 0, hsL (l.take 32), noTr⟩) := by
  subst hc
  obtain ⟨e1, e2⟩ := mg_fixed (k := 10) (by decide) (by decide) (by decide) l
  rw [e1, e2]
  refine ⟨fun h => fx_short h, fun h => fx_long h, fun h => ?_⟩
  have e3 : fxC (shp 10) l = l.getD 32 0 := show num ((l.drop 32).take 1) = _ from num_one (by omega)
  have e0 : fxE (shp 10) l = 0 := fx_ok h (by
    rw [e3]
    have := byte_at hb 32 (by omega)
    show ¬ (255 < l.getD 32 0)
    omega)
  rw [e0, if_pos rfl, e3]
  refine ⟨rfl, ?_⟩
  have e4 : l.drop (1 * 32 + 1) = [] := List.drop_eq_nil_of_le (by omega)
  show (⟨10, num (l.drop (1 * 32 + 1)), l.getD 32 0, hsL (l.take (1 * 32)), noTr⟩ : Mg) = _
  rw [e4]
  rfl
theorem mk11 {c : ByteArray} (hc : c = (shp 11).cmd) (l : List Int) : (l.length < 1 → mgE c l = 4) ∧ (1 < l.length → mgE c l = 5) ∧ (l.length = 1 → 1 < l.getD 0 0 → mgE c l = 6) ∧ (l.length = 1 → ¬ 1 < l.getD 0 0 → mgE c l = 0 ∧ mgM c l = ⟨11, 0, l.getD 0 0, [], noTr⟩) := by
  subst hc
  obtain ⟨e1, e2⟩ := mg_fixed (k := 11) (by decide) (by decide) (by decide) l
  rw [e1, e2]
  have e3 : l.length = 1 → fxC (shp 11) l = l.getD 0 0 := fun h => show num ((l.drop 0).take 1) = _ from num_one (by omega)
  refine ⟨fun h => fx_short h, fun h => fx_long h, fun h h2 => fx_over h (by rw [e3 h]; exact h2), fun h h2 => ?_⟩
  have e0 : fxE (shp 11) l = 0 := fx_ok h (by rw [e3 h]; exact h2)
  rw [e0, if_pos rfl, e3 h]
  refine ⟨rfl, ?_⟩
  have e4 : l.drop (0 * 32 + 1) = [] := List.drop_eq_nil_of_le (by omega)
  show (⟨11, num (l.drop (0 * 32 + 1)), l.getD 0 0, hsL (l.take (0 * 32)), noTr⟩ : Mg) = _
  rw [e4]
  simp [hsL, num]
theorem mkL {c : ByteArray} {k : Int} (hk : k = 5 ∨ k = 6 ∨ k = 7) (hc : c = (shp k).cmd) (l : List Int) :
    (readE l ≠ 0 → mgE c l = readE l) ∧ (readE l = 0 → readX l = 0 → mgE c l = 9) ∧ (readE l = 0 → readX l ≠ 0 → 32 < readX l → mgE c l = 5) ∧
    (readE l = 0 → readX l ≠ 0 → ¬ 32 < readX l → (l.length - (readN l).toNat < (readX l).toNat * 32 → mgE c l = 4) ∧ ((readX l).toNat * 32 < l.length - (readN l).toNat → mgE c l = 5) ∧
      (l.length - (readN l).toNat = (readX l).toNat * 32 → mgE c l = 0 ∧ mgM c l = ⟨k, 0, 0, hsL (l.drop (readN l).toNat), noTr⟩)) := by
  subst hc
  have e : mgE (shp k).cmd l = lsE l 32 ∧ mgM (shp k).cmd l = if lsE l 32 = 0 then ⟨k, 0, 0, lsI l 32, noTr⟩ else noMg := by
    rcases hk with rfl | rfl | rfl
    · exact mg_list (k := 5) (by decide) (by decide) (by decide) l
    · exact mg_list (k := 6) (by decide) (by decide) (by decide) l
    · exact mg_list (k := 7) (by decide) (by decide) (by decide) l
  rw [e.1, e.2]
  unfold lsI lsE
  refine ⟨fun h => if_pos h, fun h1 h2 => ?_, fun h1 h2 h3 => ?_, fun h1 h2 h3 => ?_⟩
  · rw [if_neg (by rw [h1]; decide), if_pos h2]
  · rw [if_neg (by rw [h1]; decide), if_neg h2, if_pos (show ((32 : Nat) : Int) < readX l from h3)]
  · have h3' : ¬ (((32 : Nat) : Int) < readX l) := h3
    rw [if_neg (by rw [h1]; decide), if_neg h2, if_neg h3']
    refine ⟨fun h => sizedE_less h, fun h => sizedE_more h, fun h => ?_⟩
    rw [h, sizedE_same]
    exact ⟨rfl, rfl⟩
theorem mkT {c : ByteArray} {k : Int} (hk : k = 8 ∨ k = 9) (hc : c = (shp k).cmd) (l : List Int) : mgE c l = whE l ∧ (whE l = 0 → mgM c l = ⟨k, 0, 0, [], whT l⟩) := by
  subst hc
  have e : mgE (shp k).cmd l = whE l ∧ mgM (shp k).cmd l = if whE l = 0 then ⟨k, 0, 0, [], whT l⟩ else noMg := by
    rcases hk with rfl | rfl
    · exact mg_tx (k := 8) (by decide) (by decide) l
    · exact mg_tx (k := 9) (by decide) (by decide) l
  exact ⟨e.1, fun h => by rw [e.2, if_pos h]⟩

end Go.Proofs.Ytjmifgdjmaelfaa
