/-
  What frame.Named answers at this program, whatever the name.
-/
import Derived.Test.YtjmifgdjmaelfaaDoorNamedP
namespace Go.Proofs.YtjmifgdjmaelfaaDoor
open Go.RowKit

set_option maxHeartbeats 400000 in
theorem named_any (s : ByteArray) (w : World) (hs : s.size ≤ 9223372036854775807) :
    Calls Tryd.prog 30 #[.string s] w fun e w' => e = .returned (.bool (namedL (strL s))) ∧ w' = w := by
  by_cases h1 : s.size < 1
  · have hf : namedL (strL s) = false := by simp [namedL, strL_length]; omega
    rw [hf]
    go_enter Tryd.func30, Tryd.ntmps30
    go_wp2
    go_ret
    exact ⟨rfl, rfl⟩
  · by_cases h2 : 12 < s.size
    · have hf : namedL (strL s) = false := by simp [namedL, strL_length]; omega
      rw [hf]
      go_enter Tryd.func30, Tryd.ntmps30
      go_wp2
      go_ret
      exact ⟨rfl, rfl⟩
    · go_enter Tryd.func30, Tryd.ntmps30
      go_wp2
      go_loop [14] (fun i => Naming s i) (fun i => s.size - (intOf i).toNat)
      case atStart => exact ⟨0, by omega, rfl, rfl⟩
      case round =>
        obtain ⟨k, hk, rfl, hall⟩ := hrel
        have HA := hide hall
        clear hall
        by_cases hlt : k < s.size
        · have hb := strL_byte s ((strL s).getD k 0) (by simp [List.getD, strL_length, hlt])
          have hat := strL_at s k hlt
          have HN := hide (named_next hlt HA.out)
          have HB := hide (named_bad hlt)
          generalize (strL s).getD k 0 = z at *
          obtain ⟨hb0, hb1⟩ := hb
          by_cases hz1 : z < 97
          · have HF : Hid (namedL (strL s) = false) := hide (HB.out (by simp [letterB]; omega))
            go_wp2
            go_ret
            exact ⟨by rw [HF.out]; rfl, rfl⟩
          · by_cases hz2 : 122 < z
            · have HF : Hid (namedL (strL s) = false) := hide (HB.out (by simp [letterB]; omega))
              go_wp2
              go_ret
              exact ⟨by rw [HF.out]; rfl, rfl⟩
            · have HT := hide (HN.out (by simp [letterB]; omega))
              go_wp2
              go_round
              case rel => exact ⟨k + 1, hlt, by go_num, HT.out⟩
              case measure => simp [intOf]; omega
        · have HT : Hid (namedL (strL s) = true) := by
            have h := HA.out
            rw [List.take_of_length_le (by rw [strL_length]; omega), List.all_eq_true] at h
            exact named_mk (by rw [strL_length]; omega) (by rw [strL_length]; omega) h
          go_wp2
          go_ret
          exact ⟨by rw [HT.out]; rfl, rfl⟩

end Go.Proofs.YtjmifgdjmaelfaaDoor
