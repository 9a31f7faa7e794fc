/-
  What msg.kindOf answers at this program, whatever the command.
-/
import Derived.Test.YtjmifgdjmaelfaaMgShape
import Derived.Test.YtjmifgdjmaelfaaMgAt
namespace Go.Proofs.Ytjmifgdjmaelfaa
open Go.RowKit

/-- So far no kind has this command. -/
def Kinding (w : World) (c : ByteArray) (i : Value) (wr : World) : Prop := ∃ k : Nat, 1 ≤ k ∧ k ≤ 12 ∧ i = .int .i64 k ∧ Below w.heap.size w wr ∧ ∀ j : Nat, 1 ≤ j → j < k → strL c ≠ strL (shp j).cmd
set_option maxRecDepth 100000 in
set_option maxHeartbeats 1000000 in
theorem kindOf_any (c : ByteArray) (w : World) :
    Calls Try.prog 30 #[.string c] w fun e w' => e = .returned (.int .i64 (kindOf c)) ∧ Below w.heap.size w w' := by
  have HS : Hid (Kinding w c (.int .i64 1) w) := hide ⟨1, by omega, by omega, rfl, Below.refl _ _, fun j h1 h2 => by omega⟩
  have SH := hide shapeOf_any
  go_enter Try.func30, Try.ntmps30
  go_wp2
  go_loopw [3] (fun i wr => Kinding w c i wr) (fun i _ => 12 - (intOf i).toNat)
  case atStart => exact HS.out
  case round =>
    clear HS
    obtain ⟨k, h1, h12, rfl, hB, hall⟩ := hrel
    have HB := hide hB
    have HALL := hide hall
    clear hB hall
    by_cases hlt : k ≤ 11
    · have e1 : (k : Int) ≤ 11 := by omega
      have hk : isKind (k : Int) = true := by simp [isKind]; omega
      have HK := hide hk
      clear hk
      go_wp2_with fail
      refine (SH.out _ _).mono ?_
      rintro e w1 ⟨rfl, hb1⟩
      rw [HK.out]
      have hb2 := below_on hb1 (below_new w1 (.cells (shpC (shp (k : Int))).toArray 76))
      have hc : (w1.alloc (.cells (shpC (shp (k : Int))).toArray 76)).cell? ⟨w1.heap.size, 0, none⟩ = some (.string (shp (k : Int)).cmd) := (SBox.new w1 (shp (k : Int)) 76).1
      have HB2 := hide (below_on HB.out hb2)
      clear hb1 hb2
      have hsc : shpC (shp (k : Int)) = [.string (shp (k : Int)).cmd, .int .i64 (shp (k : Int)).maxIds, .int .i64 (shp (k : Int)).codeLen, .int .u32 (shp (k : Int)).maxCode, .int .i64 (shp (k : Int)).nLen, .bool (shp (k : Int)).hasTx] := rfl
      rw [hsc] at hc HB2 ⊢
      have hbeq := str_beq (shp (k : Int)).cmd c
      have HCM : Hid (∀ j : Nat, j = k → strL c ≠ strL (shp (k : Int)).cmd → strL c ≠ strL (shp (j : Int)).cmd) := hide (by rintro j rfl h; exact h)
      have HKO : Hid (strL c = strL (shp (k : Int)).cmd → kindOf c = (k : Int)) := hide (fun h => kindOf_is HK.out h)
      clear hsc
      generalize shp (k : Int) = s at *
      go_upto_region 5 with fail
      generalize w1.alloc (.cells #[.string s.cmd, .int .i64 s.maxIds, .int .i64 s.codeLen, .int .u32 s.maxCode, .int .i64 s.nLen, .bool s.hasTx] 76) = W2 at *
      generalize w1.heap.size = g at *
      by_cases hs : strL c = strL s.cmd
      · rw [decide_eq_true hs.symm] at hbeq
        have HE := hide (HKO.out hs)
        clear HCM HKO HK HALL hs SH
        go_wp2
        go_ret
        exact ⟨by rw [HE.out]; rfl, HB2.out⟩
      · rw [decide_eq_false (fun h => hs h.symm)] at hbeq
        have R : Hid (Kinding w c (.int .i64 ((k + 1 : Nat) : Int)) W2) := hide ⟨k + 1, by omega, by omega, rfl, HB2.out, fun j hj1 hj2 => by
          by_cases hjk : j = k
          · exact HCM.out j hjk hs
          · exact HALL.out j hj1 (by omega)⟩
        clear HCM HKO HK HALL hs SH HB2
        go_wp2
        go_roundw
        case rel => first | exact R.out | ((repeat apply Exists.intro); exact ⟨R.out, rfl⟩)
        case measure => simp [intOf]; omega
    · have e1 : ¬ (k : Int) ≤ 11 := by omega
      have HE : Hid (kindOf c = 0) := hide (kindOf_no fun j hj => by
        have hj' : 1 ≤ j ∧ j ≤ 11 := by simpa [isKind] using hj
        have := HALL.out j.toNat (by omega) (by omega)
        rwa [Int.toNat_of_nonneg (by omega)] at this)
      clear HALL SH
      go_wp2
      go_ret
      exact ⟨by rw [HE.out]; rfl, HB.out⟩

end Go.Proofs.Ytjmifgdjmaelfaa
