/-
  What frame.Put answers at this program, whatever the command and the body.
-/
import Derived.Test.YtnjbjgjhomfndaaDoorFrHeadOf
namespace Go.Proofs.YtnjbjgjhomfndaaDoor
open Go.RowKit

/-- What Put comes to. -/
def FPutDone (w : World) (c l : List Int) (e : Ending) (w' : World) : Prop :=
  ∃ v', e = .returned (.tuple #[v', .int .i64 (fpE c l)]) ∧ (fpE c l = 0 → Mine w' w.heap.size v' (fpL c l)) ∧ (¬ fpE c l = 0 → v' = .slice none 0 0) ∧ Below w.heap.size w w'
theorem fputDone_bad {w w' : World} {c l : List Int} {z : Int} (h : fpE c l = z) (hz : ¬ z = 0) (hb : Below w.heap.size w w') : FPutDone w c l (.returned (.tuple #[.slice none 0 0, .int .i64 z])) w' := by
  subst h
  exact ⟨_, rfl, fun q => absurd q hz, fun _ => rfl, hb⟩
theorem FPutDone.bytes {w : World} {c l : List Int} {e : Ending} {w' : World} (h : FPutDone w c l e w') : ∃ v', e = .returned (.tuple #[v', .int .i64 (fpE c l)]) ∧ Bytes w' v' (fpL c l) ∧ Below w.heap.size w w' := by
  obtain ⟨v', he, h1, h2, h3⟩ := h
  refine ⟨v', he, ?_, h3⟩
  by_cases hz : fpE c l = 0
  · exact (h1 hz).bytes
  · rw [h2 hz, fpL, if_neg hz]
    exact Bytes.nil _

theorem head_new (w : World) (H : List Int) (hl : H.length = 24) : Below w.heap.size w ((w.alloc (.cells #[.int .u8 0, .int .u8 0, .int .u8 0, .int .u8 0, .int .u8 0, .int .u8 0, .int .u8 0, .int .u8 0, .int .u8 0, .int .u8 0, .int .u8 0, .int .u8 0, .int .u8 0, .int .u8 0, .int .u8 0, .int .u8 0, .int .u8 0, .int .u8 0, .int .u8 0, .int .u8 0, .int .u8 0, .int .u8 0, .int .u8 0, .int .u8 0] 54)).setCells w.heap.size 0 (vals .u8 H)) ∧ Arr ((w.alloc (.cells #[.int .u8 0, .int .u8 0, .int .u8 0, .int .u8 0, .int .u8 0, .int .u8 0, .int .u8 0, .int .u8 0, .int .u8 0, .int .u8 0, .int .u8 0, .int .u8 0, .int .u8 0, .int .u8 0, .int .u8 0, .int .u8 0, .int .u8 0, .int .u8 0, .int .u8 0, .int .u8 0, .int .u8 0, .int .u8 0, .int .u8 0, .int .u8 0] 54)).setCells w.heap.size 0 (vals .u8 H)) w.heap.size 0 .u8 H ∧
    (w.alloc (.cells #[.int .u8 0, .int .u8 0, .int .u8 0, .int .u8 0, .int .u8 0, .int .u8 0, .int .u8 0, .int .u8 0, .int .u8 0, .int .u8 0, .int .u8 0, .int .u8 0, .int .u8 0, .int .u8 0, .int .u8 0, .int .u8 0, .int .u8 0, .int .u8 0, .int .u8 0, .int .u8 0, .int .u8 0, .int .u8 0, .int .u8 0, .int .u8 0] 54)).there w.heap.size 0 24 := by
  have hA0 := Arr.new w .u8 (List.replicate 24 0) 54
  exact ⟨below_sets (Nat.le_refl _) _ _ _ ((Below.refl _ _).alloc (Nat.le_refl _) _), Arr.put (by rw [hl]; exact hA0.2), hA0.2⟩

set_option maxRecDepth 100000 in
set_option maxHeartbeats 1000000 in
theorem fput_any (w : World) (s : ByteArray) (v : Value) (l : List Int) (hv : Bytes w v l) (hk : Ks w) (hs : s.size ≤ 9223372036854775807) :
    Calls Tryd.prog 18 #[.string s, v] w fun e w' => FPutDone w (strL s) l e w' := by
  have N := hide (named_any s w hs)
  cases hn : namedL (strL s) with
  | false =>
    have HD := hide (fputDone_bad (w := w) (c := strL s) (l := l) (z := 8) (by unfold fpE; rw [hn]; simp) (by omega) (Below.refl _ _))
    rw [hn] at N
    obtain ⟨a, cap, rfl, hc1, hc2⟩ := hv.form
    clear hv hk hn
    go_enter Tryd.func18, Tryd.ntmps18
    go_wp2_with fail
    refine N.out.mono ?_
    rintro e w' ⟨rfl, rfl⟩
    go_wp2
    go_ret2
    exact HD.out
  | true =>
    by_cases hl : l.length ≤ 2048
    · have hna := named_all hn
      rw [strL_length] at hna
      have HO := hide (headOf_any w s v l hv hk (by omega) hl)
      have HL := hide (headL_length (c := strL s) (by rw [strL_length]; omega) l.length (chk l))
      have hE : fpE (strL s) l = 0 := by unfold fpE; rw [hn, if_pos hl]; rfl
      have HE := hide hE
      have HFL : Hid (fpL (strL s) l = headL (strL s) l.length (chk l) ++ l) := hide (by unfold fpL; rw [if_pos hE])
      have HV := hide hv
      rw [hn] at N
      obtain ⟨a, cap, rfl, hc1, hc2⟩ := hv.form
      have hlb : (l.length : Int) ≤ 2048 := by omega
      clear hv hk hn hna hE
      generalize headL (strL s) l.length (chk l) = H at *
      go_enter Tryd.func18, Tryd.ntmps18
      go_wp2_with fail
      refine N.out.mono ?_
      rintro e w' ⟨rfl, rfl⟩
      go_wp2_with fail
      refine HO.out.mono ?_
      rintro e w1 ⟨rfl, hbel1⟩
      have hh := head_new w1 H HL.out
      go_upto_region 6 with (refine wp_store_arr rfl 54 (.tmp 6) (.tmp 15) rfl _ 0 .u8 H rfl rfl 24 hh.2.2 info_24 HL.out ?_)
      have HB2 := hide (below_on hbel1 hh.1)
      have HA2 : Hid (Arr _ w1.heap.size 0 .u8 H) := hide hh.2.1
      have HG := hide hbel1.size
      clear hh hbel1
      generalize (w1.alloc (.cells #[.int .u8 0, .int .u8 0, .int .u8 0, .int .u8 0, .int .u8 0, .int .u8 0, .int .u8 0, .int .u8 0, .int .u8 0, .int .u8 0, .int .u8 0, .int .u8 0, .int .u8 0, .int .u8 0, .int .u8 0, .int .u8 0, .int .u8 0, .int .u8 0, .int .u8 0, .int .u8 0, .int .u8 0, .int .u8 0, .int .u8 0, .int .u8 0] 54)).setCells w1.heap.size 0 (vals .u8 H) = W2 at *
      generalize w1.heap.size = g at *
      have HS : Hid (Value.slice (some ⟨g, 0, none⟩) 24 24 = .slice (some ⟨g, 0, none⟩) H.length H.length) := hide (by rw [HL.out])
      go_wp2_with (at_builtin; refine wp_append_full rfl (.tmp 16) (.tmp 17) rfl w'.heap.size g H HS.out HA2.out HG.out _ l rfl (HV.out.below HB2.out) (by rw [HL.out]; omega) HB2.out.size ?_)
      intro v' w3 hm hb
      have HR : Hid (FPutDone w' (strL s) l (.returned (.tuple #[v', .int .i64 0])) w3) := hide ⟨v', by rw [HE.out], fun _ => by rw [HFL.out]; exact hm, fun q => absurd HE.out q, HB2.out.trans hb⟩
      clear hm hb
      go_wp2
      go_ret2
      exact HR.out
    · have HD := hide (fputDone_bad (w := w) (c := strL s) (l := l) (z := 5) (by unfold fpE; rw [hn, if_neg hl]; rfl) (by omega) (Below.refl _ _))
      rw [hn] at N
      obtain ⟨a, cap, rfl, hc1, hc2⟩ := hv.form
      have hlb : 2048 < (l.length : Int) := by omega
      clear hv hk hn
      go_enter Tryd.func18, Tryd.ntmps18
      go_wp2_with fail
      refine N.out.mono ?_
      rintro e w' ⟨rfl, rfl⟩
      go_wp2
      go_ret2
      exact HD.out

end Go.Proofs.YtnjbjgjhomfndaaDoor
