/-
  What the document's Whole answers at this program, whatever the bytes: the very same as tx.Whole.
-/
import Derived.Test.YtjmifgdjmaelfaaTxGetW
namespace Go.Proofs.Ytjmifgdjmaelfaa
open Go.RowKit

set_option maxRecDepth 100000 in
set_option maxHeartbeats 2000000 in
theorem rwhole7_any (l : List Int) (v : Value) (w : World) (hv : Bytes w v l) (hb : AllB l) (hl : l.length ≤ 900000) :
    Calls Try.prog 10 #[v] w (WholeDone w l) := by
  have b1 : Below w.heap.size w (w.alloc (.cells #[.int .u32 0, .slice none 0 0, .slice none 0 0] 28)) := (Below.refl _ _).alloc (Nat.le_refl _) _
  have s1 : (w.alloc (.cells #[.int .u32 0, .slice none 0 0, .slice none 0 0] 28)).heap.size = w.heap.size + 1 := alloc_size _ _
  have t1 := tx_there w
  have G := hide (rget7_any l v _ (hv.below b1) hb hl)
  have B1 := hide b1
  have S1 := hide s1
  have T1 := hide t1
  have HN : Hid (gtE l = 0 → gtN l ≤ l.length ∧ 0 ≤ gtN l) := hide fun h => by
    obtain ⟨n, h1, h2, -⟩ := get_ok hb h
    rw [h1]; omega
  have HE : Hid (whE l = (if gtE l ≠ 0 then gtE l else if gtN l < l.length then 5 else 0) ∧ whT l = if whE l = 0 then gtT l else noTr) := hide ⟨rfl, rfl⟩
  obtain ⟨a, cap, rfl, hc1, hc2⟩ := hv.form
  clear b1 s1 t1 hv hb
  unfold GetDone at G
  generalize gtT l = T at *
  generalize gtE l = E at *
  generalize gtN l = N at *
  go_enter Try.func10, Try.ntmps10
  go_upto_region 1 with fail
  generalize w.alloc (.cells #[.int .u32 0, .slice none 0 0, .slice none 0 0] 28) = W1 at *
  generalize hg : w.heap.size = g at *
  have HG := hide hg
  clear hg
  go_wp2_with fail
  refine G.out.mono ?_
  rintro e w3 ⟨iv, ov, rfl, hb3, hk3⟩
  have l1 := S1.out
  have t3 := there_on T1.out hb3
  obtain ⟨ia, ic, rfl, hi1, hi2⟩ := hk3.self.1.form
  obtain ⟨oa, oc, rfl, ho1, ho2⟩ := hk3.self.2.form
  have hbel : Below w3.heap.size w3 (w3.alloc (.cells #[.int .u32 T.ver, .slice ia T.ins.length ic, .slice oa T.outs.length oc] 28)) := (Below.refl _ _).alloc (Nat.le_refl _) _
  have hq := range_new w3 [.int .u32 T.ver, .slice ia T.ins.length ic, .slice oa T.outs.length oc] 28
  have q0 := hq 0 _ rfl
  have q1 := hq 1 _ rfl
  have q2 := hq 2 _ rfl
  simp only [Nat.add_zero, Nat.zero_add] at q0 q1 q2
  have t4 := there_on t3 hbel
  have HT4 := hide t4
  have f0 := there_free0 t4 0 (by omega)
  have f1 := there_free0 t4 1 (by omega)
  have f2 := there_free0 t4 2 (by omega)
  obtain ⟨u0, c0⟩ := Option.isSome_iff_exists.1 (t4 0 (by omega)).1
  obtain ⟨u1, c1⟩ := Option.isSome_iff_exists.1 (t4 1 (by omega)).1
  obtain ⟨u2, c2⟩ := Option.isSome_iff_exists.1 (t4 2 (by omega)).1
  simp only [Nat.zero_add] at c0 c1 c2
  have HK : Hid (Keeps (fun k => g + 1 ≤ k) (w3.alloc (.cells #[.int .u32 T.ver, .slice ia T.ins.length ic, .slice oa T.outs.length oc] 28)) (fun w => TxAt w (.slice ia T.ins.length ic) (.slice oa T.outs.length oc) T)) := hide ((hk3.below hbel).weak fun k _ h => by omega)
  have HB : Hid (Below g w (w3.alloc (.cells #[.int .u32 T.ver, .slice ia T.ins.length ic, .slice oa T.outs.length oc] 28))) := hide ((B1.out.trans (hb3.mono (by omega))).alloc (by have := hb3.size; omega) _)
  have hqg : w3.heap.size ≠ g := by have := hb3.size; omega
  clear hk3 hb3 t3 t4 G B1 S1 T1 l1 hq hbel
  go_upto_region 2 with fail
  generalize w3.alloc (.cells #[.int .u32 T.ver, .slice ia T.ins.length ic, .slice oa T.outs.length oc] 28) = W4 at *
  generalize w3.heap.size = q at *
  have HSET := hide (set3 W4 g)
  have H0 : Hid (whE l ≠ 0 → WholeDone w l (.returned (.tuple #[.agg #[.int .u32 0, .slice none 0 0, .slice none 0 0], .int .i64 (whE l)])) (W4.setCells g 0 [.int .u32 0, .slice none 0 0, .slice none 0 0])) := hide fun he => by
    have h2 := HE.out.2
    rw [if_neg he] at h2
    refine ⟨.slice none 0 0, .slice none 0 0, by rw [h2]; rfl, ?_, ?_⟩
    · rw [HG.out]
      exact below_sets (Nat.le_refl g) _ 0 W4 HB.out
    · rw [h2]
      exact fun w' _ => TxAt.none w'
  have HR0 : Hid ((W4.setCells g 0 [.int .u32 0, .slice none 0 0, .slice none 0 0]).rangeAt g 0 [.int .u32 0, .slice none 0 0, .slice none 0 0]) := hide (World.rangeAt_setCells_same _ _ _ _ HT4.out)
  by_cases he : E = 0
  · subst he
    by_cases hlt : N < (l.length : Int)
    · have e5 : whE l = 5 := by rw [HE.out.1, if_neg (by simp), if_pos hlt]
      have R := hide (H0.out (by rw [e5]; decide))
      rw [e5] at R
      have HN' := HN.out rfl
      clear HE HK HB HT4 H0 e5
      go_wp2_with fail
      rw [HSET.out]
      exact ret_row_tmp 2 3 28 rfl g 0 rfl [.int .u32 0, .slice none 0 0, .slice none 0 0] HR0.out _ Try.underlying28 rfl info_tx _ rfl rfl R.out
    · have e5 : whE l = 0 := by rw [HE.out.1, if_neg (by simp), if_neg hlt]
      have R : Hid (∀ t : Tr, t = T → WholeDone w l (.returned (.tuple #[.agg #[.int .u32 t.ver, .slice ia T.ins.length ic, .slice oa T.outs.length oc], .int .i64 0])) (W4.setCells g 0 [.int .u32 T.ver, .slice ia T.ins.length ic, .slice oa T.outs.length oc])) := hide (by
        rintro t rfl
        have h2 := HE.out.2
        rw [if_pos e5] at h2
        refine ⟨_, _, by rw [e5, h2], ?_, ?_⟩
        · rw [HG.out]
          exact below_sets (Nat.le_refl g) _ 0 W4 HB.out
        · rw [h2, HG.out]
          exact ((HK.out.step (w1 := W4.setCells g 0 _) (by rw [size_setCells]; exact Nat.le_refl _) fun k hk hp => (Besides.sets (p := g) (q := g) (w := W4) (Or.inl rfl) _ 0 W4 (Besides.refl _ _ _)).block k hk (by omega) (by omega)).weak fun k _ h => by omega))
      have HRG : Hid ((W4.setCells g 0 [.int .u32 T.ver, .slice ia T.ins.length ic, .slice oa T.outs.length oc]).rangeAt g 0 [.int .u32 T.ver, .slice ia T.ins.length ic, .slice oa T.outs.length oc]) := hide (World.rangeAt_setCells_same _ _ _ _ HT4.out)
      have HN' := HN.out rfl
      clear HE HK HB HT4 H0 HR0 e5
      go_wp2_with fail
      rw [HSET.out]
      exact ret_row_tmp 2 3 28 rfl g 0 rfl [.int .u32 T.ver, .slice ia T.ins.length ic, .slice oa T.outs.length oc] HRG.out _ Try.underlying28 rfl info_tx _ rfl rfl (R.out _ rfl)
  · have he' : (E == 0) = false := by simpa using he
    have e5 : whE l = E := by rw [HE.out.1, if_pos he]
    have R := hide (H0.out (by rw [e5]; exact he))
    rw [e5] at R
    clear HE HK HB HT4 H0 e5 he HN
    go_wp2_with fail
    rw [HSET.out]
    exact ret_row_tmp 2 3 28 rfl g 0 rfl [.int .u32 0, .slice none 0 0, .slice none 0 0] HR0.out _ Try.underlying28 rfl info_tx _ rfl rfl R.out

end Go.Proofs.Ytjmifgdjmaelfaa
