/-
  What bytes.Equal answers at this program.
-/
import Derived.Test.YtjmifgdjmaelfaaDoorKit
import Derived.Laws.BytesArg
import Derived.Lib.Bytes
namespace Go.Proofs.YtjmifgdjmaelfaaDoor
open Go.RowKit

theorem nums_inj {l m : List Int} (hl : ∀ z ∈ l, Byte z) (hm : ∀ z ∈ m, Byte z) (h1 : Lib.bytesOf l = Lib.bytesOf m) : l = m := by
  unfold Lib.bytesOf at h1
  induction l generalizing m with
  | nil =>
    cases m with
    | nil => rfl
    | cons y m => simp at h1
  | cons x l ih =>
    cases m with
    | nil => simp at h1
    | cons y m =>
      simp only [List.map_cons, List.cons.injEq] at h1
      have hx := hl x (by simp)
      have hy := hm y (by simp)
      have e : x = y := by
        have h2 := congrArg UInt8.toNat h1.1
        simp [UInt8.toNat_ofNat'] at h2
        unfold Byte at hx hy
        omega
      rw [e, ih (fun z hz => hl z (by simp [hz])) (fun z hz => hm z (by simp [hz])) h1.2]
theorem bytes_text {w : World} {v : Value} {l : List Int} (h : Bytes w v l) : (convert 29 9 v).run Tryd.prog w = .ok (.string (strOfNums l)) w := by
  rcases Nat.eq_zero_or_pos l.length with h0 | h0
  · obtain rfl : l = [] := List.length_eq_zero_iff.1 h0
    obtain ⟨a, cap, rfl, -⟩ := h.empty
    rw [run_convert_bytes_string w 29 9 5 _ 0 cap Tryd.underlying29 Tryd.underlying5 Tryd.underlying9]
    cases a <;> simp [Conv.bytesToString, loadCells]
    all_goals rfl
  · obtain ⟨b, off, cap, rfl, _, _, hc⟩ := h.lies h0
    exact run_convert_bytes_arg w 29 5 Tryd.underlying29 Tryd.underlying5 b off l.length cap l rfl hc 9 Tryd.underlying9
theorem equal_any (l m : List Int) (v v' : Value) (w : World) (hv : Bytes w v l) (hv' : Bytes w v' m) (hl : ∀ z ∈ l, Byte z) (hm : ∀ z ∈ m, Byte z) :
    Calls Tryd.prog 104 #[v, v'] w fun e w' => e = .returned (.bool (decide (l = m))) ∧ w' = w := by
  have c0 := bytes_text hv
  have c1 := bytes_text hv'
  obtain ⟨a, cap, rfl, -, -⟩ := hv.form
  obtain ⟨a', cap', rfl, -, -⟩ := hv'.form
  have e : decide (l = m) = ((strOfNums l).toList == (strOfNums m).toList) := by
    rw [Lib.strOfNums_toList, Lib.strOfNums_toList]
    by_cases h : l = m
    · subst h
      simp
    · have : ¬ Lib.bytesOf l = Lib.bytesOf m := fun e => h (nums_inj hl hm e)
      rw [decide_eq_false h]
      exact (beq_eq_false_iff_ne.2 this).symm
  rw [e]
  clear e hl hm hv hv'
  generalize strOfNums l = s at *
  generalize strOfNums m = s' at *
  go_enter Tryd.func104, Tryd.ntmps104
  go_wp2
  go_ret
  exact ⟨rfl, rfl⟩

end Go.Proofs.YtjmifgdjmaelfaaDoor
