/-
  What the layer's alive answers: the document's examples.
-/
import Derived.Test.YtknijlajopmjaaaDoorMacSum
import Derived.Test.YtknijlajopmjaaaDoorMacPick
import Derived.Test.YtknijlajopmjaaaDoorMacEq
import Derived.Lib.SlBytesConst
import Derived.Lib.SmallJoins
namespace Go.Proofs.YtknijlajopmjaaaDoor
open Go.RowKit

theorem bytes_lit (w : World) (cs : Array Value) (l : List Int) (n g : Nat) (m : Nat × Nat) (hn : l.length = n) (h1 : n ≤ 1000) (hg : g = w.heap.size) (h : cs = (vals .u8 l).toArray) : Bytes (w.alloc (.cells cs 5 m)) (.slice (some ⟨g, 0, none⟩) n n) l := by
  subst hn
  subst hg
  subst h
  refine ⟨_, _, rfl, Nat.le_refl _, by omega, by simp, fun _ => ⟨_, _, rfl, fun i hi => ?_⟩⟩
  rw [Nat.zero_add, cell_of_row _ _ _ _ 5 m (heap_alloc_new w _)]
  simpa using vals_get .u8 l i hi
/-- The bytes of the example. -/
abbrev jefe : List Int := [74, 101, 102, 101]
abbrev what : List Int := [119, 104, 97, 116, 32, 100, 111, 32, 121, 97, 32, 119, 97, 110, 116, 32]
abbrev forN : List Int := [102, 111, 114, 32, 110, 111, 116, 104, 105, 110, 103, 63]
abbrev both : List Int := [119, 104, 97, 116, 32, 100, 111, 32, 121, 97, 32, 119, 97, 110, 116, 32, 102, 111, 114, 32, 110, 111, 116, 104, 105, 110, 103, 63]
theorem mac_both : macI jefe both = [91, 220, 193, 70, 191, 96, 117, 78, 106, 4, 36, 38, 8, 149, 117, 199, 90, 0, 63, 8, 157, 39, 57, 131, 157, 236, 88, 185, 100, 236, 56, 67] := mac_jefe
set_option maxRecDepth 100000 in
set_option maxHeartbeats 1000000 in
theorem malive_any (w : World) (hk : Ks w) : Calls Tryd.prog 9 #[] w fun e w' => e = .returned (.bool true) ∧ Below w.heap.size w w' := by
  obtain ⟨W1, h1⟩ : ∃ W1, W1 = w.alloc (.cells #[.int .u8 74, .int .u8 101, .int .u8 102, .int .u8 101] 5 (4, 5)) := ⟨_, rfl⟩
  obtain ⟨W2, h2⟩ : ∃ W2, W2 = W1.alloc (.cells #[.int .u8 119, .int .u8 104, .int .u8 97, .int .u8 116, .int .u8 32, .int .u8 100, .int .u8 111, .int .u8 32, .int .u8 121, .int .u8 97, .int .u8 32, .int .u8 119, .int .u8 97, .int .u8 110, .int .u8 116, .int .u8 32] 5 (16, 17)) := ⟨_, rfl⟩
  obtain ⟨W3, h3⟩ : ∃ W3, W3 = W2.alloc (.cells #[.int .u8 102, .int .u8 111, .int .u8 114, .int .u8 32, .int .u8 110, .int .u8 111, .int .u8 116, .int .u8 104, .int .u8 105, .int .u8 110, .int .u8 103, .int .u8 63] 5 (12, 13)) := ⟨_, rfl⟩
  have s1 : W1.heap.size = w.heap.size + 1 := by rw [h1, alloc_size]
  have s2 : W2.heap.size = w.heap.size + 1 + 1 := by rw [h2, alloc_size, s1]
  have s3 : W3.heap.size = w.heap.size + 1 + 1 + 1 := by rw [h3, alloc_size, s2]
  have b1 : Below w.heap.size w W1 := by rw [h1]; exact (Below.refl _ _).alloc (Nat.le_refl _) _
  have b2 : Below W1.heap.size W1 W2 := by rw [h2]; exact (Below.refl _ _).alloc (Nat.le_refl _) _
  have b3 : Below W2.heap.size W2 W3 := by rw [h3]; exact (Below.refl _ _).alloc (Nat.le_refl _) _
  have b03 := below_on (below_on b1 b2) b3
  have y1 : Bytes W3 (.slice (some ⟨w.heap.size, 0, none⟩) 4 4) jefe := by
    have : Bytes W1 (.slice (some ⟨w.heap.size, 0, none⟩) 4 4) jefe := by rw [h1]; exact bytes_lit w _ jefe 4 _ _ rfl (by omega) rfl rfl
    exact (this.below b2).below b3
  have y2 : Bytes W3 (.slice (some ⟨w.heap.size + 1, 0, none⟩) 16 16) what := by
    have : Bytes W2 (.slice (some ⟨w.heap.size + 1, 0, none⟩) 16 16) what := by rw [h2]; exact bytes_lit W1 _ what 16 _ _ rfl (by omega) s1.symm rfl
    exact this.below b3
  have y3 : Bytes W3 (.slice (some ⟨w.heap.size + 1 + 1, 0, none⟩) 12 12) forN := by rw [h3]; exact bytes_lit W2 _ forN 12 _ _ rfl (by omega) s2.symm rfl
  have c1 := Joins.run_convert_bytes_const_at (P := Tryd.prog) w 22 5 #[.int .u8 74, .int .u8 101, .int .u8 102, .int .u8 101] 4 4 w.heap.size rfl Tryd.underlying22 Tryd.underlying5
  have c2 := Joins.run_convert_bytes_const_at (P := Tryd.prog) W1 22 5 #[.int .u8 119, .int .u8 104, .int .u8 97, .int .u8 116, .int .u8 32, .int .u8 100, .int .u8 111, .int .u8 32, .int .u8 121, .int .u8 97, .int .u8 32, .int .u8 119, .int .u8 97, .int .u8 110, .int .u8 116, .int .u8 32] 16 16 (w.heap.size + 1) s1.symm Tryd.underlying22 Tryd.underlying5
  have c3 := Joins.run_convert_bytes_const_at (P := Tryd.prog) W2 22 5 #[.int .u8 102, .int .u8 111, .int .u8 114, .int .u8 32, .int .u8 110, .int .u8 111, .int .u8 116, .int .u8 104, .int .u8 105, .int .u8 110, .int .u8 103, .int .u8 63] 12 12 (w.heap.size + 1 + 1) s2.symm Tryd.underlying22 Tryd.underlying5
  simp only [List.size_toArray, List.length_cons, List.length_nil, Nat.zero_add, Nat.reduceAdd] at c1 c2 c3
  rw [← h1] at c1
  rw [← h2] at c2
  rw [← h3] at c3
  have M := mac_flat _ _ jefe _ [what, forN] both (y1.alloc (.cells #[.slice (some ⟨w.heap.size + 1, 0, none⟩) 16 16, .slice (some ⟨w.heap.size + 1 + 1, 0, none⟩) 12 12] 22)) rfl (Parts.two W3 _ _ _ _ y2 y3) ((hk.on b03).alloc _) (by decide) (by decide)
  rw [s3] at M
  have EQ : ∀ w, (Op.equalIn 10000 27 (.agg (vals .u8 (macI jefe both)).toArray) (.agg #[.int .u8 91, .int .u8 220, .int .u8 193, .int .u8 70, .int .u8 191, .int .u8 96, .int .u8 117, .int .u8 78, .int .u8 106, .int .u8 4, .int .u8 36, .int .u8 38, .int .u8 8, .int .u8 149, .int .u8 117, .int .u8 199, .int .u8 90, .int .u8 0, .int .u8 63, .int .u8 8, .int .u8 157, .int .u8 39, .int .u8 57, .int .u8 131, .int .u8 157, .int .u8 236, .int .u8 88, .int .u8 185, .int .u8 100, .int .u8 236, .int .u8 56, .int .u8 67])).run Tryd.prog w = .ok true w := fun w => by
    have := eql_hash (macI jefe both) (digest_length _) w
    have e : (vals .u8 (macI jefe both)).toArray = #[.int .u8 91, .int .u8 220, .int .u8 193, .int .u8 70, .int .u8 191, .int .u8 96, .int .u8 117, .int .u8 78, .int .u8 106, .int .u8 4, .int .u8 36, .int .u8 38, .int .u8 8, .int .u8 149, .int .u8 117, .int .u8 199, .int .u8 90, .int .u8 0, .int .u8 63, .int .u8 8, .int .u8 157, .int .u8 39, .int .u8 57, .int .u8 131, .int .u8 157, .int .u8 236, .int .u8 88, .int .u8 185, .int .u8 100, .int .u8 236, .int .u8 56, .int .u8 67] := by rw [mac_both]; rfl
    rw [← e]
    exact this
  have HDL : Hid ((macI jefe both).length = 32) := hide (digest_length _)
  have PK := fun w => pick_any (7 :: List.replicate 31 0) 5 w rfl (by simp [Byte]) (by decide)
  rw [show pickX (7 :: List.replicate 31 0) 5 = 2 by decide, show pickE 5 = 0 by decide, show (vals .u8 (7 :: List.replicate 31 0)).toArray = #[.int .u8 7, .int .u8 0, .int .u8 0, .int .u8 0, .int .u8 0, .int .u8 0, .int .u8 0, .int .u8 0, .int .u8 0, .int .u8 0, .int .u8 0, .int .u8 0, .int .u8 0, .int .u8 0, .int .u8 0, .int .u8 0, .int .u8 0, .int .u8 0, .int .u8 0, .int .u8 0, .int .u8 0, .int .u8 0, .int .u8 0, .int .u8 0, .int .u8 0, .int .u8 0, .int .u8 0, .int .u8 0, .int .u8 0, .int .u8 0, .int .u8 0, .int .u8 0] by rfl] at PK
  have SM := hide (fun w => msame_any [] [] _ _ w (Bytes.nil w) (Bytes.nil w) (by simp) (by simp))
  have M := hide M
  have PK := hide PK
  have HB3 := hide b03
  have S1 := hide s1
  have S1' := s1
  have S2' := s2
  have S3' := s3
  clear hk b1 b2 b3 b03 y1 y2 y3 s1 s2 s3 h1 h2 h3
  generalize macI jefe both = D at *
  go_enter Tryd.func9, Tryd.ntmps9
  go_wp2_with fail
  refine M.out.mono ?_
  rintro e w4 ⟨rfl, hbel4⟩
  have HB4 := hide (below_on HB3.out (box1 hbel4))
  have KP := hide (hash_kept w4 D HDL.out)
  clear hbel4 M c1 c2 c3
  go_upto_region 2 with (refine wp_store_arr rfl 27 (.tmp 1) (.tmp 11) rfl _ 0 .u8 D rfl rfl 32 (hash_there _) info_h HDL.out ?_)
  generalize (w4.alloc (.cells #[.int .u8 0, .int .u8 0, .int .u8 0, .int .u8 0, .int .u8 0, .int .u8 0, .int .u8 0, .int .u8 0, .int .u8 0, .int .u8 0, .int .u8 0, .int .u8 0, .int .u8 0, .int .u8 0, .int .u8 0, .int .u8 0, .int .u8 0, .int .u8 0, .int .u8 0, .int .u8 0, .int .u8 0, .int .u8 0, .int .u8 0, .int .u8 0, .int .u8 0, .int .u8 0, .int .u8 0, .int .u8 0, .int .u8 0, .int .u8 0, .int .u8 0, .int .u8 0] 27)).setCells w4.heap.size 0 (vals .u8 D) = W5 at *
  have HB5 := hide (below_on HB4.out KP.out.1)
  have HD5 := hide KP.out.2
  clear KP HB3 HB4
  generalize w4.heap.size = g4 at *
  go_wp2_with fail
  refine (PK.out W5).mono ?_
  rintro e w6 ⟨rfl, hbel6⟩
  have HB6 := hide (below_on HB5.out hbel6)
  have HD6 := hide (HD5.out.on hbel6)
  clear hbel6 PK HB5 HD5
  go_wp2_with (refine wp_load_arr rfl 27 (.tmp 1) rfl _ 0 rfl .u8 D HD6.out _ Tryd.underlying27 rfl 32 info_h HDL.out ?_)
  refine (SM.out w6).mono ?_
  rintro e w7 ⟨rfl, rfl⟩
  go_wp2
  go_ret
  exact ⟨rfl, HB6.out⟩

end Go.Proofs.YtknijlajopmjaaaDoor
