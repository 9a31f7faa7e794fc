/-
  What the document's hash, count answer at this program.
-/
import Derived.Test.YtjmifgdjmaelfaaTxGetsP
import Derived.Test.YtjmifgdjmaelfaaRefRead
import Derived.Test.YtjmifgdjmaelfaaKitA
import Derived.Test.YtjmifgdjmaelfaaTxGt
import Derived.Test.YtjmifgdjmaelfaaKit
namespace Go.Proofs.Ytjmifgdjmaelfaa
open Go.RowKit

set_option maxRecDepth 100000 in
set_option maxHeartbeats 1000000 in
theorem rhash7_any (l : List Int) (v : Value) (w : World) (hv : Bytes w v l) (hl : l.length = 32) :
    Calls Try.prog 25 #[v] w fun e w' => e = .returned (.agg (vals .u8 l).toArray) ∧ Below w.heap.size w w' := by
  obtain ⟨W1, hW1⟩ : ∃ W1, W1 = w.alloc (.cells #[.int .u8 0, .int .u8 0, .int .u8 0, .int .u8 0, .int .u8 0, .int .u8 0, .int .u8 0, .int .u8 0, .int .u8 0, .int .u8 0, .int .u8 0, .int .u8 0, .int .u8 0, .int .u8 0, .int .u8 0, .int .u8 0, .int .u8 0, .int .u8 0, .int .u8 0, .int .u8 0, .int .u8 0, .int .u8 0, .int .u8 0, .int .u8 0, .int .u8 0, .int .u8 0, .int .u8 0, .int .u8 0, .int .u8 0, .int .u8 0, .int .u8 0, .int .u8 0] 40) := ⟨_, rfl⟩
  obtain ⟨W2, hW2⟩ : ∃ W2, W2 = W1.alloc (.cells #[.int .u8 0, .int .u8 0, .int .u8 0, .int .u8 0, .int .u8 0, .int .u8 0, .int .u8 0, .int .u8 0, .int .u8 0, .int .u8 0, .int .u8 0, .int .u8 0, .int .u8 0, .int .u8 0, .int .u8 0, .int .u8 0, .int .u8 0, .int .u8 0, .int .u8 0, .int .u8 0, .int .u8 0, .int .u8 0, .int .u8 0, .int .u8 0, .int .u8 0, .int .u8 0, .int .u8 0, .int .u8 0, .int .u8 0, .int .u8 0, .int .u8 0, .int .u8 0] 40) := ⟨_, rfl⟩
  have s1 : W1.heap.size = w.heap.size + 1 := by rw [hW1]; exact alloc_size _ _
  have b1 : Below w.heap.size w W1 := by rw [hW1]; exact (Below.refl _ _).alloc (Nat.le_refl _) _
  have b2 : Below W1.heap.size W1 W2 := by rw [hW2]; exact (Below.refl _ _).alloc (Nat.le_refl _) _
  have t1 : W1.there w.heap.size 0 32 := by rw [hW1]; exact there_new w _ _
  have t2 : W2.there w.heap.size 0 32 := there_on t1 b2
  have u2 : W2.there W1.heap.size 0 32 := by rw [hW2]; exact there_new W1 _ _
  rw [s1] at u2
  have HB := hide (below_on b1 b2)
  have HV := hide (hv.below (below_on b1 b2))
  have HT := hide t2
  have HU := hide u2
  have HM : Hid (32 = min 32 l.length) := hide (by omega)
  have HL := hide hl
  have E1 := hide hW1
  have E2 := hide hW2
  obtain ⟨a, cap, rfl, hc1, hc2⟩ := hv.form
  clear hW1 hW2 s1 b1 b2 t1 t2 u2 hv
  go_enter Try.func25, Try.ntmps25
  go_upto_region 2 with fail
  rw [← E1.out, ← E2.out]
  clear E1 E2
  go_upto_region 3 with (refine wp_copy_min rfl (.tmp 4) (.tmp 5) rfl (w.heap.size + 1) 0 32 32 rfl (.slice a l.length cap) l rfl HV.out (by omega) HU.out 32 HM.out ?_)
  rw [List.take_of_length_le (by rw [hl]; exact Nat.le_refl _)]
  have HA3 : Hid (Arr (W2.setCells (w.heap.size + 1) 0 (vals .u8 l)) (w.heap.size + 1) 0 .u8 l) := hide (Arr.put (by rw [hl]; exact HU.out))
  have HT3 := hide (there_sets HT.out (w.heap.size + 1) 0 (vals .u8 l))
  have HB3 := hide (below_sets (Nat.le_succ w.heap.size) (vals .u8 l) 0 W2 HB.out)
  clear HV HT HU HM HB
  generalize W2.setCells (w.heap.size + 1) 0 (vals .u8 l) = W3 at *
  go_wp2_with (first | (refine wp_load_arr rfl 40 (.tmp 3) rfl _ 0 rfl .u8 l HA3.out _ Try.underlying40 rfl 32 info_hash HL.out ?_) | (refine wp_store_arr rfl 40 (.tmp 2) (.tmp 7) rfl _ 0 .u8 l rfl rfl 32 HT3.out info_hash HL.out ?_))
  refine ret_arr 2 40 rfl w.heap.size 0 rfl .u8 l (Arr.put (by rw [HL.out]; exact HT3.out)) _ Try.underlying40 rfl 32 info_hash HL.out rfl ⟨rfl, ?_⟩
  exact below_sets (Nat.le_refl _) _ _ _ HB3.out

/-- What the document's count answers. -/
def CountAt (w : World) (l : List Int) (at_ most : Nat) (e : Ending) (w' : World) : Prop :=
  ∃ nx : Nat, e = .returned (.tuple #[.int .i64 (countS most (l.drop at_, 0)).1, .int .i64 nx, .int .i64 (countS most (l.drop at_, 0)).2.2]) ∧ Below w.heap.size w w' ∧
    ((countS most (l.drop at_, 0)).2.2 = 0 → at_ ≤ nx ∧ nx ≤ l.length ∧ (countS most (l.drop at_, 0)).2 = (l.drop nx, 0))
set_option maxRecDepth 100000 in
set_option maxHeartbeats 1000000 in
theorem rcount7_any (l : List Int) (v : Value) (w : World) (hv : Bytes w v l) (hb : AllB l) (hl : l.length ≤ 900000) (k : Nat) (hk : k ≤ l.length) (most : Nat) (hm : most ≤ 64) :
    Calls Try.prog 24 #[v, .int .i64 k, .int .u64 most] w (CountAt w l k most) := by
  have hb' : AllB (l.drop k) := hb.drop k
  obtain ⟨a, cap, rfl, hc1, hc2⟩ := hv.form
  obtain ⟨ta, tc, htr, htb⟩ := tail_of a l.length cap k .i64 hk
  have RD := hide (rread_any (l.drop k) _ w (htb _ _ hv) hb')
  have HTR := hide htr
  have hkc : (k : Int) ≤ (l.length : Int) := by omega
  clear htr htb hv
  unfold CountAt
  by_cases hE : readE (l.drop k) = 0
  · by_cases hx : (most : Int) < readX (l.drop k)
    · have R := hide (countS_much most (l.drop k) hE hx)
      rw [hE] at RD
      clear hE hb hb'
      generalize countS most (l.drop k, 0) = C at *
      generalize readX (l.drop k) = X at *
      generalize readN (l.drop k) = N at *
      go_enter Try.func24, Try.ntmps24
      go_wp2_with (first | (refine wp_from rfl (.tmp 13) (.tmp 14) rfl _ _ _ rfl rfl HTR.out ?_) | fail)
      refine RD.out.mono ?_
      rintro e w1 ⟨rfl, hb1⟩
      have HB1 := hide hb1
      clear hb1
      go_wp2
      go_ret3
      refine ⟨0, by rw [R.out]; rfl, HB1.out, fun h => ?_⟩
      rw [R.out] at h
      cases h
    · obtain ⟨m, n, e1, e2, e3, e4⟩ := countS_read most (l.drop k) hb' hE hx
      have R := hide e4
      have HN3 : Hid (k + n ≤ l.length) := hide (by rw [List.length_drop] at e3; omega)
      rw [hE, e2, e1] at RD
      rw [e1] at hx
      have hn3 := HN3.out
      have hw1 : IntKind.i64.wrap (m : Int) = (m : Int) := by simp [IntKind.wrap, IntKind.bits, IntKind.signed]; omega
      have hw2 : IntKind.i64.wrap ((k : Int) + (n : Int)) = (k : Int) + (n : Int) := by simp [IntKind.wrap, IntKind.bits, IntKind.signed]; omega
      clear hE e1 e2 e3 e4 hb hb' hn3
      go_enter Try.func24, Try.ntmps24
      go_wp2_with (first | (refine wp_from rfl (.tmp 13) (.tmp 14) rfl _ _ _ rfl rfl HTR.out ?_) | fail)
      refine RD.out.mono ?_
      rintro e w1 ⟨rfl, hb1⟩
      have HB1 := hide hb1
      clear hb1
      go_wp2
      go_ret3
      refine ⟨k + n, by rw [R.out]; rfl, HB1.out, fun _ => ⟨Nat.le_add_right _ _, HN3.out, by rw [R.out, List.drop_drop]⟩⟩
  · have R := hide (countS_noread most (l.drop k) hE)
    have HE := hide hE
    clear hE hb hb'
    generalize countS most (l.drop k, 0) = C at *
    generalize readX (l.drop k) = X at *
    generalize readN (l.drop k) = N at *
    generalize readE (l.drop k) = E at *
    have hE := HE.out
    go_enter Try.func24, Try.ntmps24
    go_wp2_with (first | (refine wp_from rfl (.tmp 13) (.tmp 14) rfl _ _ _ rfl rfl HTR.out ?_) | fail)
    refine RD.out.mono ?_
    rintro e w1 ⟨rfl, hb1⟩
    have HB1 := hide hb1
    clear hb1
    go_wp2
    go_ret3
    refine ⟨0, by rw [R.out]; rfl, HB1.out, fun h => ?_⟩
    rw [R.out] at h
    exact absurd h HE.out

end Go.Proofs.Ytjmifgdjmaelfaa
