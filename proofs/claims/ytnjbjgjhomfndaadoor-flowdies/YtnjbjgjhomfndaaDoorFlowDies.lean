/-
  FlowDies: of whatever messages, head and bytes: behind a head that begins no frame nothing is told any more, and nothing waits: the call returns true, and the arguments read as before.
-/
import Derived.Test.YtnjbjgjhomfndaaDoorFrLaw
import Derived.Test.YtnjbjgjhomfndaaDoorFlRowDo
import Derived.Test.YtnjbjgjhomfndaaDoorCame
namespace Go.Proofs.YtnjbjgjhomfndaaDoor
open Go.ChangeShapes Go.WideShapes Go.ChangeAt Go.RowKit

/-- 'append', of bytes onto a row of the call's own: what has grown, and where the row is then. -/
theorem wp_append_whr {w : World} {ops : Array Oper} {rest : List Oper} {o : Oper} {a : Act} {Q : Exit → Act → World → Prop} (hgd : o.guard = none) (s x : Operand)
    (ho : o.op = .call { callee := .builtin .append, args := #[s, x], argTypes := #[28, 28] })
    (base : Nat) (v : Value) (l : List Int) (hs : a.eval s = v) (hown : Own w base v l) (src : Value) (m : List Int) (hx : a.eval x = src) (hsrc : Bytes w src m)
    (hsz : l.length + m.length ≤ 1000000) (hb : base ≤ w.heap.size)
    (h : ∀ v' w', Own w' base v' (l ++ m) → w.grownBy w' v.ownBlock → (v'.ownBlock = v.ownBlock ∨ ∀ k, v'.ownBlock = some k → w.heap.size ≤ k) → wpList Tryd.prog ops Q rest (a.put o.dst v') w') : wpList Tryd.prog ops Q (o :: rest) a w := by
  obtain ⟨i0, hi, hz0, hz1, hz2⟩ := info_parts infoB
  obtain ⟨ad, cap, rfl, hcap, hmax, hnone, hcell⟩ := hsrc
  cases ad with
  | none =>
    obtain rfl := hnone rfl
    obtain rfl : m = [] := List.length_eq_zero_iff.1 (by omega)
    refine wpList_append_own_none hgd s x 28 ho base 5 i0 1 Tryd.underlying28 hi v l.length _ hs hown hx ?_
    exact h v w (by rw [List.append_nil]; exact hown) ⟨rfl, rfl, rfl, Nat.le_refl _, fun _ _ _ => rfl⟩ (Or.inl rfl)
  | some ad =>
    refine wp_append_where hgd s x 28 ho base 5 i0 (.int .u8 0) 1 1 Tryd.underlying28 hi hz0 hz1 hz2 rfl (by decide) v l.length _ hs hown ad m.length cap (m.map (Value.int .u8)) hx (by simp) ?_ (ints_oneCell _ _) (by unfold maxLen; omega) (by omega) hb ?_
    · intro j u hj
      have hjl : j < m.length := by
        have := (List.getElem?_eq_some_iff.1 hj).1
        simpa using this
      obtain ⟨b, off, e, hc⟩ := hcell (by omega)
      cases e
      rw [Addr.add_mid, hc j hjl, ← hj]
      simp [List.getD, hjl]
    · intro v' w' hown' hgrow hwh
      refine h v' w' ?_ hgrow hwh
      unfold Own
      rw [List.map_append, List.length_append]
      exact hown'
/-- A head that is none, behind frames. -/
theorem runs_dead (M : List (ByteArray × List Int)) {bad rest : List Int} (hl : bad.length = 24) (hE : ¬ hdE bad = 0) : Runs (rowB M ++ (bad ++ rest)) (rowI M ++ [⟨[], [], hdE bad⟩]) [] true := by
  have hc := hdE_cases hl
  have ht : (bad ++ rest).take 24 = bad := by rw [← hl, List.take_left]
  have h : geE (bad ++ rest) = hdE bad := by
    have := geE_bad (r := bad ++ rest) (by rw [List.length_append]; omega) (by rw [ht]; exact hE)
    rwa [ht] at this
  have hd := Runs.dies (r := bad ++ rest) (by rw [h]; omega)
  rw [h] at hd
  exact runs_row M hd

set_option maxRecDepth 100000 in
set_option maxHeartbeats 2000000 in
theorem flowDies_walk {w : World} (hk : Ks w) (v : Value) (M : List (ByteArray × List Int)) (hM : ∀ m ∈ M, MsgOk m) (hv : Msgs w v M) (bad : List Int) (hbl : bad.length = 24) (hbb : ∀ z ∈ bad, Byte z) (rv : Value) (rest : List Int) (hrb : ∀ z ∈ rest, Byte z) (hrv : Bytes w rv rest) :
    Calls Tryd.prog 7 #[v, .agg (vals .u8 bad).toArray, rv] w fun e w' => e = .returned (.bool true) ∧ Below w.heap.size w w' := by
  have hB0 := (Below.refl w.heap.size w).alloc (Nat.le_refl _) (.cells (vals .u8 bad).toArray 54)
  have HA0 := hide (Arr.new w .u8 bad 54)
  have HB0 := hide hB0
  have HS0 := hide (alloc_size w (.cells (vals .u8 bad).toArray 54))
  have HK := hide (hk.on hB0)
  have HV := hide (hv.below hB0)
  have HRV := hide (hrv.below hB0)
  have HMM := hide hM
  have HBB := hide hbb
  have HRB := hide hrb
  have A := hide (alive_any _ (hk.on hB0))
  have NW := hide new_any
  obtain ⟨a, cap, rfl, hc1, hc2, -⟩ := hv
  obtain ⟨ra, rcap, rfl, hr1, hr2⟩ := hrv.form
  clear hk hM hrv hB0 hbb hrb
  go_enter Tryd.func7, Tryd.ntmps7
  go_upto_region 1 with fail
  generalize w.alloc (.cells (vals .u8 bad).toArray 54) = W at *
  generalize hg0 : w.heap.size = g0 at *
  have HG0 := hide hg0
  clear hg0
  go_wp2_with fail
  refine A.out.mono ?_
  rintro e w1 ⟨rfl, hbel1⟩
  have HB1 := hide hbel1
  have HB01 := hide (HB0.out.trans (hbel1.mono (by have := HS0.out; omega)))
  clear hbel1 A
  by_cases h1 : 20 < M.length
  · have h1I : (20 : Int) < (M.length : Int) := by omega
    go_wp2
    go_ret
    exact ⟨rfl, by rw [HG0.out]; exact HB01.out⟩
  have h1I : ¬ (20 : Int) < (M.length : Int) := by omega
  by_cases h2 : 5000 < rest.length
  · have h2I : (5000 : Int) < (rest.length : Int) := by omega
    go_wp2
    go_ret
    exact ⟨rfl, by rw [HG0.out]; exact HB01.out⟩
  have h2I : ¬ (5000 : Int) < (rest.length : Int) := by omega
  have HBV : Hid (∀ wx, Below W.heap.size W wx → Bytes wx (.slice (some ⟨g0, 0, none⟩) 24 24) bad) := hide (fun wx hb => by
    have := (HA0.out.on hb).bytesL (by omega)
    rwa [hbl] at this)
  have HH := hide (fun wx v (h : Bytes wx v bad) => head_any wx v bad h HBB.out)
  unfold HeadDone at HH
  simp only [hdrV] at HH
  obtain ⟨E, hE⟩ : ∃ E, E = hdE bad := ⟨_, rfl⟩
  have hEc : E = 0 ∨ E = 5 ∨ E = 6 := by rw [hE]; exact hdE_cases hbl
  have HEE := hide hE
  rw [← hE] at HH
  clear hE
  generalize strOfNums (hdC bad) = c at *
  generalize hdN bad = n at *
  generalize hdS bad = sm at *
  go_wp2_with fail
  refine (HH.out _ _ (HBV.out _ HB1.out)).mono ?_
  rintro e w2 ⟨rfl, hbel2⟩
  have hb2 : Below w1.heap.size w1 (w2.alloc (.cells #[.string c, .int .i64 n, .int .u32 sm] 56)) := below_on hbel2 ((Below.refl _ _).alloc (Nat.le_refl _) _)
  have HB2 := hide (below_on HB1.out hb2)
  have HB02 := hide (HB01.out.trans (hb2.mono (by have := HS0.out; have := HB1.out.size; omega)))
  clear hbel2 hb2 HH
  go_upto_region 6 with fail
  generalize w2.alloc (.cells #[.string c, .int .i64 n, .int .u32 sm] 56) = W2 at *
  by_cases hE0 : E = 0
  · subst hE0
    go_wp2
    go_ret
    exact ⟨rfl, by rw [HG0.out]; exact HB02.out⟩
  have hneE : (E == 0) = false := beq_eq_false_iff_ne.2 hE0
  have RW := hide (row_any M (.slice a M.length cap) W2 (HV.out.below HB2.out) HMM.out (HK.out.on HB2.out) (by omega))
  unfold RowDone at RW
  have HBM := hide (rowB_byte HMM.out)
  have hbu := rowB_upto M
  have hiu := rowI_upto M
  have hRn := runs_dead M (rest := rest) hbl (by rw [← HEE.out]; exact hE0)
  rw [← HEE.out] at hRn
  obtain ⟨LL, hLL⟩ : ∃ LL : List It, LL = rowI M ++ [⟨[], [], E⟩] := ⟨_, rfl⟩
  rw [← hLL] at hRn
  have HRN := hide hRn
  have HLL := hide hLL
  clear hLL
  have hb4 : (rowB M).length ≤ 41440 := by omega
  clear hRn hbu
  generalize hbm : rowB M = B at *
  clear hbm
  go_wp2_with fail
  refine RW.out.mono ?_
  rintro e w3 ⟨bv, wv, rfl, hO3, hI3, hb3⟩
  have HB3 := hide (below_on HB2.out hb3)
  have HB03 := hide (HB02.out.trans (hb3.mono (by have := HS0.out; have := HB2.out.size; omega)))
  have HI3 := hide hI3
  have HO3 := hide hO3
  obtain ⟨ba, bc, rfl, -, -⟩ := hO3.bytes.form
  obtain ⟨wa, wc, rfl, -, -⟩ := hI3.length
  have HSW : Hid (g0 + 1 ≤ W2.heap.size ∧ W2.heap.size ≤ w3.heap.size) := hide ⟨by have := HS0.out; have := HB2.out.size; omega, hb3.size⟩
  clear hO3 hI3 hb3 RW
  go_wp2_with fail
  refine (NW.out _).mono ?_
  rintro e w4 ⟨rfl, hG4, hs4, hb4'⟩
  obtain ⟨p, hp⟩ : ∃ p, p = w3.heap.size := ⟨_, rfl⟩
  rw [← hp] at hG4 ⊢
  have HG4 := hide hG4
  have HB4 := hide (below_on HB3.out hb4')
  have HO4 := hide (HO3.out.on hb4')
  have HP : Hid (p = w3.heap.size ∧ w4.heap.size = p + 1) := hide ⟨hp, by omega⟩
  have HB34 := hide hb4'
  clear hG4 hs4 hb4' hp NW
  have HBK : Hid (∀ k, (Value.slice ba B.length bc).ownBlock = some k → W2.heap.size ≤ k ∧ k < p) := hide (fun k hk => by have := World.ownsRow.lt HO3.out k hk; have := HP.out; omega)
  go_wp2_with (at_builtin; refine wp_append_whr rfl (.tmp 38) (.tmp 39) rfl W2.heap.size _ B rfl HO4.out _ bad rfl (HBV.out _ HB4.out) ?c2 ?c3 ?_)
  case c2 => omega
  case c3 => have := HSW.out; have := HP.out; omega
  intro v5 w5 ho5 hg5 hw5
  have hpp := HP.out
  have hsw := HSW.out
  have HVK : Hid (∀ k, v5.ownBlock = some k → W2.heap.size ≤ k ∧ k ≠ p ∧ (k < p → (Value.slice ba B.length bc).ownBlock = some k)) := hide (fun k hk => by
    have h1 := (World.ownsRow.lt ho5 k hk).1
    rcases hw5 with e | hw
    · rw [e] at hk
      have := HBK.out k hk
      exact ⟨h1, by omega, fun _ => hk⟩
    · have := hw k hk
      exact ⟨h1, by omega, fun _ => by omega⟩)
  have hb45 : Below W.heap.size W w5 := HB4.out.trans ((Below.refl _ w4).grown hg5 HB4.out.size (fun k hk => by have := HBK.out k hk; have := HB2.out.size; omega))
  have HB5 := hide hb45
  have HG5 := hide (HG4.out.heap (hg5.block p (by omega) (fun e => by have := HBK.out p e.symm; omega)) (hg5.block p (by omega) (fun e => by have := HBK.out p e.symm; omega)))
  have HK5 : Hid (∀ g, g < p → (Value.slice ba B.length bc).ownBlock ≠ some g → w5.heap[g]? = w3.heap[g]?) := hide (fun g hg hne => (hg5.block g (by omega) (fun e => hne e.symm)).trans (HB34.out.block g (by omega)))
  have HS5 : Hid (w4.heap.size ≤ w5.heap.size) := hide hg5.size
  have HO5 := hide ho5
  clear ho5 hg5 hw5 hb45 HG4 HO4 hpp hsw
  obtain ⟨va5, vc5, rfl, -, -⟩ := HO5.out.bytes.form
  generalize hBb : B ++ bad = BB at *
  have hBl : BB.length = B.length + 24 := by rw [← hBb, List.length_append, hbl]
  have HBb := hide hBb
  clear hBb
  have hBB2 : BB.length ≤ 50000 := by omega
  clear hBl
  go_wp2_with (at_builtin; refine wp_append_whr rfl (.tmp 40) (.tmp 41) rfl W2.heap.size _ BB rfl HO5.out _ rest rfl (HRV.out.below HB5.out) ?c2 ?c3 ?_)
  case c2 => omega
  case c3 => have := HS5.out; have := HP.out; have := HSW.out; omega
  intro v6 w6 ho6 hg6 hw6
  obtain ⟨F6, hF6⟩ : ∃ F6, F6 = BB ++ rest := ⟨_, rfl⟩
  rw [← hF6] at ho6
  have hFl : F6.length = BB.length + rest.length := by rw [hF6, List.length_append]
  have hs5 := HS5.out
  have hpp := HP.out
  have hsw := HSW.out
  have HVK6 : Hid (∀ k, v6.ownBlock = some k → k ≠ p) := hide (fun k hk => by
    rcases hw6 with e | hw
    · rw [e] at hk
      exact (HVK.out k hk).2.1
    · have := hw k hk
      omega)
  have hb6 : Below W.heap.size W w6 := HB5.out.trans ((Below.refl _ w5).grown hg6 HB5.out.size (fun k hk => by have := HVK.out k hk; have := HB2.out.size; omega))
  have hG6 := HG5.out.heap (hg6.block p (by omega) (fun e => by have := HVK.out p e.symm; omega)) (hg6.block p (by omega) (fun e => by have := HVK.out p e.symm; omega))
  have HK6 : Hid (∀ g, g < p → (Value.slice ba B.length bc).ownBlock ≠ some g → w6.heap[g]? = w3.heap[g]?) := hide (fun g hg hne => (hg6.block g (by omega) (fun e => hne ((HVK.out g e.symm).2.2 hg))).trans (HK5.out g hg hne))
  have hs6 := hg6.size
  have hK6 : Keeps (off p p) w6 Ks := HK.out.old hb6 fun g hg => by have := HB2.out.size; exact ⟨by omega, by omega⟩
  have hV6 : Keeps (off p p) w6 fun w => Bytes w v6 F6 := ho6.keeps fun k _ hk => ⟨HVK6.out k hk, HVK6.out k hk⟩
  have hbyte : ∀ z ∈ F6, Byte z := fun z hz => by
    rw [hF6, ← HBb.out, List.append_assoc] at hz
    rcases List.mem_append.1 hz with h | h
    · exact HBM.out z h
    · rcases List.mem_append.1 h with h | h
      · exact HBB.out z h
      · exact HRB.out z h
  have hRR : Runs F6 LL [] true := by
    rw [hF6, ← HBb.out, List.append_assoc]
    exact HRN.out
  have FE := hide (feed_any w6 p p [] false v6 F6 _ _ _ hG6 (by simp) hbyte hV6 hK6 (Or.inl ⟨rfl, hRR⟩) (by simp; omega))
  have HRV6 := hide (HRV.out.old (P := off p p) hb6 fun g hg => by have := HB2.out.size; exact ⟨by omega, by omega⟩)
  have HKS6 := hide hK6
  have HB6 := hide hb6
  have HS6 : Hid (p < w6.heap.size) := hide hG6.lt.1
  obtain ⟨va6, vc6, rfl, -, -⟩ := ho6.bytes.form
  clear hF6 hFl ho6 hg6 hw6 hb6 hG6 hs6 hK6 hV6 hbyte hRR hpp hsw hs5 HO5 HG5 HK5 HB5 HVK HVK6 HRN HBM
  go_wp2_with fail
  refine FE.out.mono ?_
  rintro e w7 ⟨v7, q7, rfl, hF7, hBs7, hq7, hI7⟩
  have FE2 := hide (feed_any w7 p q7 [] true (.slice ra rest.length rcap) rest _ _ _ hF7 (by simp) HRB.out (HRV6.out.besides hBs7 hq7) (HKS6.out.besides hBs7 hq7) (Or.inr ⟨rfl, rfl, rfl, rfl, rfl⟩) (by simp; omega))
  obtain ⟨ia7, ic7, rfl, -, -⟩ := hI7.length
  have HI7 := hide hI7
  have HBS7 := hide hBs7
  have HQ7 := hide hq7
  clear hF7 hBs7 hq7 hI7 FE
  go_wp2_with fail
  refine FE2.out.mono ?_
  rintro e w8 ⟨v8, q8, rfl, hF8, hBs8, hq8, hI8⟩
  obtain ⟨ia8, ic8, rfl, -⟩ := hI8.read.none
  have hpp := HP.out
  have hsw := HSW.out
  have hq7 := HQ7.out
  have hs6 := HS6.out
  have hs7 := HBS7.out.size
  have hK8 : ∀ g, g < p → (Value.slice ba B.length bc).ownBlock ≠ some g → w8.heap[g]? = w3.heap[g]? := fun g hg hne =>
    ((hBs8.block g (by omega) (by omega) (by omega)).trans (HBS7.out.block g (by omega) (by omega) (by omega))).trans (HK6.out g hg hne)
  have hW8 : Items w8 W2.heap.size (fun g => (Value.slice ba B.length bc).ownBlock = some g) (.slice wa (rowI M).length wc) (rowI M) := HI3.out.move (by have := hBs8.size; omega) (fun g hg ha => hK8 g (by omega) ha) (fun _ _ h => h)
  have hY8 : Items w8 w6.heap.size (fun g => g < w6.heap.size ∨ g = q7) (.slice ia7 LL.length ic7) LL := HI7.out.move hBs8.size (fun g hg ha => by
    have h1 : ¬ g < w6.heap.size := fun h => ha (Or.inl h)
    exact hBs8.block g hg (by omega) (fun h => ha (Or.inr h))) (fun _ _ h => h)
  have hal : Below w8.heap.size w8 (w8.alloc (.cells #[.string ⟨#[]⟩, .slice none 0 0, .int .i64 E] 52)) := (Below.refl _ _).alloc (Nat.le_refl _) _
  have HW9 := hide (hW8.below hal)
  have HY9 := hide (hY8.below hal)
  have HF9 := hide (hF8.on hal)
  have HWB : Hid (∀ k, (Value.slice wa (rowI M).length wc).ownBlock = some k → W2.heap.size ≤ k ∧ k < p) := hide (fun k hk => by
    obtain ⟨D, -, hrow, -⟩ := HI3.out
    have := World.ownsRow.lt hrow k hk
    omega)
  have HCL : Hid (∀ j z, (rowC [((⟨[], [], E⟩ : It), Value.slice none 0 0)])[j]? = some z → (w8.alloc (.cells #[.string ⟨#[]⟩, .slice none 0 0, .int .i64 E] 52)).cell? ((⟨w8.heap.size, 0, none⟩ : Addr).add j) = some z) := hide (fun j z hj => by
    have := range_new w8 [.string ⟨#[]⟩, .slice none 0 0, .int .i64 E] 52 j z hj
    rw [Addr.add_mid]
    exact this)
  have HB9 : Hid (Below g0 w (w8.alloc (.cells #[.string ⟨#[]⟩, .slice none 0 0, .int .i64 E] 52))) := hide (by
    have h6 : Below W.heap.size w6 w8 := (HBS7.out.ground (by have := HB2.out.size; omega) (by have := HB2.out.size; omega) HB6.out.size).trans (hBs8.ground (by have := HB2.out.size; omega) (by have := HB2.out.size; have := HB6.out.size; omega) (by have := HB6.out.size; omega))
    have h7 : Below W.heap.size W _ := (HB6.out.trans h6).trans (hal.mono (by have := HB6.out.size; have := hBs8.size; omega))
    exact HB0.out.trans (h7.mono (by have := HS0.out; omega)))
  have HSZ : Hid (W2.heap.size ≤ w8.heap.size ∧ p < w8.heap.size ∧ p < w6.heap.size ∧ g0 ≤ W2.heap.size) := hide ⟨by have := hBs8.size; omega, by have := hBs8.size; omega, hs6, by omega⟩
  have HQ8 : Hid (p ≤ q8) := hide (by omega)
  clear hpp hsw hq7 hs6 hs7 hK8 hW8 hY8 hal hF8 hBs8 hq8 hI8 FE2 HI7 HBS7 HQ7 HK6 HRV6 HKS6 HS6 HB6
  have hiu' : (rowI M).length ≤ 20 := by omega
  go_wp2_with (at_builtin; refine wp_append_items rfl (.tmp 48) (.tmp 51) rfl W2.heap.size (fun g => (Value.slice ba B.length bc).ownBlock = some g) _ (rowI M) rfl HW9.out _ ⟨w8.heap.size, 0, none⟩ 1 1 rfl rfl [((⟨[], [], E⟩ : It), Value.slice none 0 0)] rfl HCL.out ?c1 ?c2 ?c3 ?c4 ?_)
  case c1 =>
    intro y hy
    simp only [List.mem_cons, List.not_mem_nil, or_false] at hy
    subst hy
    exact ⟨rfl, fun w' _ => Bytes.nil w'⟩
  case c2 => simp; omega
  case c3 => have := HSZ.out; simp; omega
  case c4 =>
    intro k hk e
    have h1 := HBK.out k e
    have h2 := HSZ.out
    simp at hk
    omega
  intro v10 w10 hI10 hg10 hb10
  rw [← HLL.out] at hI10
  have hsz := HSZ.out
  have hY10 : Items w10 w6.heap.size (fun g => g < w6.heap.size ∨ g = q7) (.slice ia7 LL.length ic7) LL := HY9.out.move hg10.size (fun g hg ha => by
    have h1 : ¬ g < w6.heap.size := fun h => ha (Or.inl h)
    exact hg10.block g hg (fun e => by have := HWB.out g e.symm; omega)) (fun _ _ h => h)
  have hF10 := HF9.out.heap (hg10.block p HF9.out.lt.1 (fun e => by have := HWB.out p e.symm; omega)) (hg10.block q8 HF9.out.lt.2 (fun e => by have := HWB.out q8 e.symm; have := HQ8.out; omega))
  have hB10 : Below g0 w w10 := HB9.out.trans ((Below.refl _ _).grown hg10 (by simp; omega) (fun k hk => by have := HWB.out k hk; omega))
  have SM := hide (same6_any LL (.slice ia7 LL.length ic7) v10 w10 hY10.read hI10.read)
  have HF10 := hide hF10
  have HB10 := hide hB10
  have HS10 : Hid (g0 ≤ w10.heap.size) := hide (by have := hg10.size; simp at this; omega)
  clear hI10 hg10 hb10 hY10 hF10 hB10 hsz HW9 HY9 HF9 HWB HCL HB9 HSZ HQ8
  go_wp2_with fail
  refine SM.out.mono ?_
  rintro e w11 ⟨rfl, hb11⟩
  have WG := hide (fwaits_any (HF10.out.on hb11))
  have DG := hide (fdead_any (HF10.out.on hb11))
  have HB11 : Hid (Below w.heap.size w w11) := hide (by rw [HG0.out]; exact HB10.out.trans (hb11.mono HS10.out))
  clear hb11 SM HF10 HB10
  rcases hEc with rfl | rfl | rfl
  · exact absurd rfl hE0
  all_goals
    go_wp2_with fail
    refine DG.out.mono ?_
    rintro e wz ⟨rfl, hz⟩
    rw [hz]
    clear hz wz
    go_wp2_with fail
    refine WG.out.mono ?_
    rintro e wz ⟨rfl, hz⟩
    rw [hz]
    clear hz wz
    go_wp2
    go_ret
    exact ⟨rfl, HB11.out⟩

set_option maxRecDepth 100000 in
theorem flowDies_lifted (os : Os) (started : os.Started) (H : Type) (enc : TypeId × Value → H) :
    ReturnsInHanded {} Tryd.checked os 7 .any (fun w args => (Rows.flowDiesSpec.pre enc Tryd.prog Tryd.f7 [] false w args ∧ laidMetH Tryd.prog laid3 w) ∧ sizedMet enc Tryd.prog Tryd.f7 (OpenSpec.ofChange Rows.flowDiesSpec) false w args)
      (Rows.flowDiesSpec.post enc Tryd.prog Tryd.f7 false true false false) := by
  refine returnsInHanded_of_change_and (C := Tryd.checked) (X := fun w _ => laidMetH Tryd.prog laid3 w) (fun _ _ _ hh h => h.of_heap hh) own started (by kernel_rfl) Tryd.func7
    (ChangeSpec.witness_shaped (enc := enc) (C := Tryd.checked) (os := os) (X := fun w _ => laidMetH Tryd.prog laid3 w) false (World.laidAll Tryd.prog os laid3) #[.slice none 0 0, .agg #[.int .u8 0, .int .u8 0, .int .u8 0, .int .u8 0, .int .u8 0, .int .u8 0, .int .u8 0, .int .u8 0, .int .u8 0, .int .u8 0, .int .u8 0, .int .u8 0, .int .u8 0, .int .u8 0, .int .u8 0, .int .u8 0, .int .u8 0, .int .u8 0, .int .u8 0, .int .u8 0, .int .u8 0, .int .u8 0, .int .u8 0, .int .u8 0], .slice none 0 0] 8 (World.laidAll_os _ _ _) (World.shaped_of_ZipB (by kernel_rfl) (by kernel_rfl)) (by kernel_rfl) (by kernel_rfl) (by kernel_rfl) (laid_met os _)) ?_
  intro W base args ds gs before hval0 hW _ _ hL _
  have hval : ∀ (j : Nat) t v, Tryd.f7.params[j]? = some t → args[j]? = some v → Value.okWide Tryd.prog W .any base t v := hval0
  have hW' := hW
  obtain ⟨p, q, hA0, hV, rfl, hfz, hnd⟩ := hW
  have hA : DataW.TrodAll enc Tryd.prog W 0 (fun _ => true) true Tryd.f7.params.toList args.toList ds p := hA0
  rw [Tryd.params7] at hA hval
  obtain ⟨v0, vs0, d0, ds0, p0, q0, hargs, rfl, rfl, h0, r0⟩ := trodAll_cons hA
  obtain ⟨v1, vs1, d1, ds1, p1, q1, rfl, rfl, rfl, h1, r1⟩ := trodAll_cons r0
  obtain ⟨v2, vs2, d2, ds2, p2, q2, rfl, rfl, rfl, h2, r2⟩ := trodAll_cons r1
  obtain ⟨rfl, rfl, rfl⟩ := trodAll_nil r2
  obtain rfl : args = #[v0, v1, v2] := by cases args; simp_all
  obtain ⟨rfl, rfl⟩ := trodVars_none hV
  obtain ⟨b0, len0, cap0, rfl⟩ := okWide_slice Tryd.underlying38 (hval 0 38 v0 rfl rfl)
  have k0 := h0
  have lt0 : ∀ x ∈ p0, x.block < W.heap.size := by obtain ⟨m, hm⟩ := k0; exact DataW.trod_lt m _ _ _ hm
  obtain ⟨l0, s0, w0⟩ : ∃ M, Msgs W (.slice b0 len0 cap0) M ∧ ∀ x ∈ M, MsgOk x := by
    obtain ⟨fuel, hf⟩ := h0
    rcases Go.Deep.open_slice_pairs Tryd.underlying38 Tryd.underlying43 (by kernel_rfl) rfl rfl (by kernel_rfl) (by kernel_rfl) hf with ⟨hcs, _⟩ | ⟨a, len, cap, m, n, V0, V1, D0, D1, P0, P1, hcs, _, hl, hm, hmm, _, hx⟩
    · simp [Value.cells] at hcs
      obtain ⟨rfl, rfl, rfl⟩ := hcs
      exact ⟨[], Msgs.nil _, by simp⟩
    · simp [Value.cells] at hcs
      obtain ⟨rfl, rfl, rfl⟩ := hcs
      exact msgs_row hl hm (by rw [hmm]; split <;> omega) fun i hi => ⟨(hx i hi).1, (hx i hi).2.1, msg_cells Tryd.underlying9 Tryd.underlying28 Tryd.underlying5 (by kernel_rfl) (fun _ => rfl) (hx i hi).2.2.1 (hx i hi).2.2.2⟩
  have k1 := h1
  have lt1 : ∀ x ∈ p1, x.block < W.heap.size := by obtain ⟨m, hm⟩ := k1; exact DataW.trod_lt m _ _ _ hm
  obtain ⟨l1, rfl, n1, w1⟩ := arr_came (k := .u8) (n := 24) Tryd.underlying54 Tryd.underlying5 (by kernel_rfl) (by kernel_rfl) (hval 1 54 v1 rfl rfl) h1
  obtain ⟨b2, len2, cap2, rfl⟩ := okWide_slice Tryd.underlying28 (hval 2 28 v2 rfl rfl)
  have k2 := h2
  have lt2 : ∀ x ∈ p2, x.block < W.heap.size := by obtain ⟨m, hm⟩ := k2; exact DataW.trod_lt m _ _ _ hm
  obtain ⟨l2, s2, w2⟩ : ∃ l, Bytes W (.slice b2 len2 cap2) l ∧ ∀ z ∈ l, Byte z := by
    obtain ⟨fuel, hf⟩ := h2
    rcases open_ints Tryd.underlying28 Tryd.underlying5 (by kernel_rfl) hf with ⟨hcs, _⟩ | ⟨x, l, c, zs, hcs, _, hl, hm, hz, _, hcell, hwz⟩
    · simp [Value.cells] at hcs
      obtain ⟨rfl, rfl, rfl⟩ := hcs
      exact ⟨[], Bytes.nil _, by simp⟩
    · simp [Value.cells] at hcs
      obtain ⟨rfl, rfl, rfl⟩ := hcs
      exact bytes_row hl hm (by simpa using hz) hcell hwz
  clear hA0 hval0
  refine (flowDies_walk (w := W) (ks_of_laid hL) _ l0 w0 s0 l1 n1 (fun z hz => byte_of_wf (w1 z hz)) _ l2 w2 s2).mono fun e W' ⟨he, bel⟩ => ?_
  subst he
  exact ⟨_, rfl, _, _, _, [], _, [], hW', trodAll_mk1 (shut_bool Tryd.underlying4 _), (trodAll_cons_mk (Below.trod laidOut (by kernel_rfl) (of_decide_eq_true (by kernel_rfl)) k0 bel lt0) (trodAll_cons_mk (Below.trod laidOut (by kernel_rfl) (of_decide_eq_true (by kernel_rfl)) k1 bel lt1) (trodAll_cons_mk (Below.trod laidOut (by kernel_rfl) (of_decide_eq_true (by kernel_rfl)) k2 bel lt2) trodAll_mk0))), rfl, bel.frame _, fun h => by cases h⟩

theorem flowDies_holds : Rows.FlowDiesSaid :=
  OpenClaim.holds_of_wide 7 Tryd.f7 rfl rfl rfl rfl rfl rfl rfl ⟨rfl, rfl, rfl, rfl, rfl⟩ rfl rfl rfl rfl rfl (by kernel_rfl) Tryd.func7 (by kernel_rfl)
    (of_decide_eq_true (by kernel_rfl)) (by unfold Func.isWrapper; first | (rw [if_pos (by decide +kernel)]; kernel_rfl) | (rw [if_neg (by decide +kernel)]; exact ⟨rfl, rfl⟩))
    (fun os started H enc _ => flowDies_lifted os started H enc)
#print axioms flowDies_holds
theorem flowDies_card : Rows.FlowDiesCardSaid :=
  Claim7.holds_tied_plain_at .later [] [.data, .data, .pinned] true (true, "8364c1d0cfa2ab96fb62bcc5beefd4505f8925a4338fe93582091888f38a8326") false
    flowDies_holds (fun _ h => by cases h) (by kernel_rfl) (fun _ h => by cases h) flowDies_row_tie rfl ⟨rfl, rfl⟩ (by kernel_rfl) rfl
    (fun f fn hf hfn => by
      obtain rfl : f = 7 := Option.some.inj ((show Tryd.prog.funcNamed "pappus/pappuslaw06.FlowDies" = some 7 by kernel_rfl).symm.trans hf) |>.symm
      obtain rfl : fn = Tryd.f7 := (Option.some.inj (Tryd.func7.symm.trans hfn)).symm
      exact ⟨by kernel_rfl, fun j t ht => by
        rw [Tryd.params7] at ht
        have hm : t ∈ [38, 54, 28] := by simpa using Array.mem_of_getElem? ht
        have hall : ([38, 54, 28].all fun u => !Tryd.prog.wantsStandIn u) = true := by kernel_rfl
        exact (show Tryd.prog.wantsStandIn t = false by simpa using List.all_eq_true.1 hall t hm)⟩)
    (by kernel_rfl)
#print axioms flowDies_card
end Go.Proofs.YtnjbjgjhomfndaaDoor
