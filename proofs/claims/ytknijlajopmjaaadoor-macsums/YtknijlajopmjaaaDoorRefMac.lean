/-
  What pappusref04.Sum answers at this program: the plain sum under a key.
-/
import Derived.Test.YtknijlajopmjaaaDoorRefMacBlk
import Derived.Test.YtknijlajopmjaaaDoorMacSum
namespace Go.Proofs.YtknijlajopmjaaaDoor
open Go.RowKit

/-- 'append', of bytes onto a row of the call's own, as one step of a region that draws its order. -/
theorem step_append {ops : Array Oper} {o : Oper} {a : Act} {w : World} {K : Act → World → Prop} {Q : Exit → Act → World → Prop} {E : Prop} (hgd : o.guard = none) (s x : Operand)
    (ho : o.op = .call { callee := .builtin .append, args := #[s, x], argTypes := #[22, 22] })
    (base : Nat) (v : Value) (l : List Int) (hs : a.eval s = v) (hown : Own w base v l) (src : Value) (m : List Int) (hx : a.eval x = src) (hsrc : Bytes w src m) (hm : 0 < m.length)
    (hsz : l.length + m.length ≤ 1000000) (hb : base ≤ w.heap.size)
    (h : ∀ v' w', Own w' base v' (l ++ m) → Below base w w' → K (a.put o.dst v') w') : if Region.wanted o (yielded ops a.tmps) = true then Oper.wp Tryd.prog o a w K Q else E := by
  have hw : Region.wanted o (yielded ops a.tmps) = true := by simp [Region.wanted, hgd]
  rw [if_pos hw]
  obtain ⟨i0, hi, hz0, hz1, hz2⟩ := info_parts infoB
  obtain ⟨b, off, cap, rfl, h1, h2, hc⟩ := hsrc.lies hm
  refine wp_append_own w s x 22 ho base 5 i0 (.int .u8 0) 1 1 Tryd.underlying22 hi hz0 hz1 hz2 rfl (by decide) v l.length _ hs hown ⟨b, off, none⟩ m.length cap (m.map (Value.int .u8)) hx (by simp) ?_ (ints_oneCell _ _) (by unfold maxLen; omega) (by omega) hb ?_
  · intro j u hj
    have hjl : j < m.length := by
      have := (List.getElem?_eq_some_iff.1 hj).1
      simpa using this
    have e2 : (⟨b, off, none⟩ : Addr).add j = ⟨b, off + j, none⟩ := by simp [Addr.add]
    rw [e2, hc j hjl, ← hj]
    simp [List.getD, hjl]
  · intro v' w' hown' hgrow _
    refine h v' w' ?_ ((Below.refl base w).grown hgrow hb (fun k hk => (World.ownsRow.lt hown k hk).1))
    unfold Own
    rw [List.map_append, List.length_append]
    exact hown'

set_option maxRecDepth 100000 in
set_option maxHeartbeats 2000000 in
theorem rmac_any (w : World) (kv : Value) (k : List Int) (v : Value) (l : List Int) (hkv : Bytes w kv k) (hv : Bytes w v l) (hks : k.length ≤ 4000) (hsz : l.length ≤ 4000) :
    Calls Tryd.prog 12 #[kv, v] w fun e w' => e = .returned (.agg (vals .u8 (macI k l)).toArray) ∧ Below w.heap.size w w' := by
  have HKV := hide hkv
  have HV := hide hv
  have HSZ := hide hsz
  have BK := hide (fun wx x (h : Bytes wx kv k) => rblk_any wx kv k x h (by omega))
  have HNL : Hid ((xorB (keyI k) 54).length = 64) := hide ((xorB_length (keyI k) 54).trans (keyI_length k))
  have HOL : Hid ((xorB (keyI k) 92).length = 64) := hide ((xorB_length (keyI k) 92).trans (keyI_length k))
  have HIL : Hid ((innerI k l).length = 32) := hide (digest_length _)
  have HML : Hid ((macI k l).length = 32) := hide (digest_length _)
  have S1 : Hid (∀ wx p, Bytes wx p (xorB (keyI k) 54 ++ l) → Calls Tryd.prog 24 #[p] wx fun e w' => e = .returned (.agg (vals .u8 (innerI k l)).toArray) ∧ Below wx.heap.size wx w') := hide (fun wx p h => rsum_any wx p _ h (by rw [List.length_append, HNL.out]; omega))
  have S2 : Hid (∀ wx p, Bytes wx p (xorB (keyI k) 92 ++ innerI k l) → Calls Tryd.prog 24 #[p] wx fun e w' => e = .returned (.agg (vals .u8 (macI k l)).toArray) ∧ Below wx.heap.size wx w') := hide (fun wx p h => rsum_any wx p _ h (by rw [List.length_append, HOL.out, HIL.out]; omega))
  have B1 := hide (fun wx h => BK.out wx 54 h)
  have B2 := hide (fun wx h => BK.out wx 92 h)
  obtain ⟨ka, kcap, rfl, hkc1, hkc2⟩ := hkv.form
  obtain ⟨a, cap, rfl, hc1, hc2⟩ := hv.form
  clear hkv hv hks hsz BK
  generalize macI k l = MM at *
  generalize innerI k l = II at *
  generalize xorB (keyI k) 92 = OO at *
  generalize xorB (keyI k) 54 = NN at *
  go_enter Tryd.func12, Tryd.ntmps12
  go_upto_region 1 with fail
  have hB0 := (Below.refl w.heap.size w).alloc (Nat.le_refl _) (.cells #[.int .u8 0, .int .u8 0, .int .u8 0, .int .u8 0, .int .u8 0, .int .u8 0, .int .u8 0, .int .u8 0, .int .u8 0, .int .u8 0, .int .u8 0, .int .u8 0, .int .u8 0, .int .u8 0, .int .u8 0, .int .u8 0, .int .u8 0, .int .u8 0, .int .u8 0, .int .u8 0, .int .u8 0, .int .u8 0, .int .u8 0, .int .u8 0, .int .u8 0, .int .u8 0, .int .u8 0, .int .u8 0, .int .u8 0, .int .u8 0, .int .u8 0, .int .u8 0] 27)
  have hR0 := Arr.new w .u8 (List.replicate 32 0) 27
  have hR0 : Arr (w.alloc (.cells #[.int .u8 0, .int .u8 0, .int .u8 0, .int .u8 0, .int .u8 0, .int .u8 0, .int .u8 0, .int .u8 0, .int .u8 0, .int .u8 0, .int .u8 0, .int .u8 0, .int .u8 0, .int .u8 0, .int .u8 0, .int .u8 0, .int .u8 0, .int .u8 0, .int .u8 0, .int .u8 0, .int .u8 0, .int .u8 0, .int .u8 0, .int .u8 0, .int .u8 0, .int .u8 0, .int .u8 0, .int .u8 0, .int .u8 0, .int .u8 0, .int .u8 0, .int .u8 0] 27)) w.heap.size 0 .u8 (List.replicate 32 0) := hR0
  generalize w.alloc (.cells #[.int .u8 0, .int .u8 0, .int .u8 0, .int .u8 0, .int .u8 0, .int .u8 0, .int .u8 0, .int .u8 0, .int .u8 0, .int .u8 0, .int .u8 0, .int .u8 0, .int .u8 0, .int .u8 0, .int .u8 0, .int .u8 0, .int .u8 0, .int .u8 0, .int .u8 0, .int .u8 0, .int .u8 0, .int .u8 0, .int .u8 0, .int .u8 0, .int .u8 0, .int .u8 0, .int .u8 0, .int .u8 0, .int .u8 0, .int .u8 0, .int .u8 0, .int .u8 0] 27) = w0 at *
  have HB0 := hide hB0
  have HR0 := hide hR0
  have X0 := hide (B1.out w0 (HKV.out.below hB0))
  clear hB0 hR0
  go_wp2_with fail
  refine X0.out.mono ?_
  rintro e w1 ⟨v1, rfl, ho1, hbel1⟩
  have HO1 := hide ho1
  have HB1 := hide (below_on HB0.out hbel1)
  have HR1 := hide (HR0.out.on hbel1)
  have HV1 := hide (HV.out.below (below_on HB0.out hbel1))
  have hf1 := ho1.bytes.form
  rw [HNL.out] at hf1
  obtain ⟨a1, cap1, rfl, -, -⟩ := hf1
  have HS1 := hide hbel1.size
  have HGR : Hid (w.heap.size < w0.heap.size) := hide (HR0.out.lt (by simp))
  clear ho1 hbel1 X0
  go_wp2_with (at_builtin; refine wp_append rfl (.tmp 7) (.tmp 8) rfl w0.heap.size _ NN rfl HO1.out _ l rfl HV1.out ?c1 ?c2 ?_)
  case c1 => have := HSZ.out; rw [HNL.out]; omega
  case c2 => exact HS1.out
  intro v2 w2 ho2 hbel2
  have HB2 := hide (HB1.out.trans (hbel2.mono (Nat.le_of_lt HGR.out)))
  have HR2 := hide (HR1.out.below hbel2 HGR.out)
  have X1 := hide (S1.out w2 v2 ho2.bytes)
  obtain ⟨a2, cap2, rfl, -, -⟩ := ho2.bytes.form
  clear ho2 hbel2 HO1 HV1
  generalize (NN ++ l).length = n2 at *
  go_wp2_with fail
  refine X1.out.mono ?_
  rintro e w3 ⟨rfl, hbel3⟩
  have HB3 := hide (below_on HB2.out hbel3)
  have HR3 := hide (HR2.out.on hbel3)
  have KP := hide (hash_kept w3 II HIL.out)
  clear hbel3 X1
  go_upto_region 2 with (refine wp_store_arr rfl 27 (.tmp 5) (.tmp 10) rfl _ 0 .u8 II rfl rfl 32 (hash_there _) info_h HIL.out ?_)
  generalize (w3.alloc (.cells #[.int .u8 0, .int .u8 0, .int .u8 0, .int .u8 0, .int .u8 0, .int .u8 0, .int .u8 0, .int .u8 0, .int .u8 0, .int .u8 0, .int .u8 0, .int .u8 0, .int .u8 0, .int .u8 0, .int .u8 0, .int .u8 0, .int .u8 0, .int .u8 0, .int .u8 0, .int .u8 0, .int .u8 0, .int .u8 0, .int .u8 0, .int .u8 0, .int .u8 0, .int .u8 0, .int .u8 0, .int .u8 0, .int .u8 0, .int .u8 0, .int .u8 0, .int .u8 0] 27)).setCells w3.heap.size 0 (vals .u8 II) = W4 at *
  have HB4 := hide (below_on HB3.out KP.out.1)
  have HR4 := hide (HR3.out.on KP.out.1)
  have HI4 := hide (KP.out.2.bytes32 HIL.out)
  clear KP HB3 HR3 HB2 HR2 HB1 HR1
  generalize w3.heap.size = g3 at *
  have HVL : Hid ((vals .u8 MM).length = 32) := hide (by rw [vals_length, HML.out])
  have hone : ∀ v ∈ vals .u8 MM, v.oneCell' = true := by
    intro v hv
    simp only [vals, List.mem_map] at hv
    obtain ⟨z, _, rfl⟩ := hv
    rfl
  have hinf : (Tryd.prog.info? 27).map (·.size) = some (vals .u8 MM).length := by rw [HVL.out]; exact info_h
  have HT4 : Hid (∀ wx, Below W4.heap.size W4 wx → wx.there w.heap.size 0 (vals .u8 MM).length) := hide (fun wx hx => by rw [HVL.out]; simpa using (HR4.out.on hx).2)
  have XB : Calls Tryd.prog 25 #[.slice ka k.length kcap, .int .u8 92] W4.drew (fun e w' => ∃ v', e = .returned v' ∧ Own w' W4.heap.size v' OO ∧ Below W4.heap.size W4 w') := (B2.out W4.drew ((HKV.out.below HB4.out).drew)).mono (by
    rintro e w' ⟨v', rfl, h1, h2⟩
    exact ⟨v', rfl, h1, below_on (Below.refl _ _).drew h2⟩)
  have XB := hide XB
  have HOL1 : Hid (OO.length + II.length ≤ 1000000) := hide (by rw [HOL.out, HIL.out]; omega)
  have HIP : Hid (0 < II.length) := hide (by rw [HIL.out]; omega)
  clear B1 B2 S1
  generalize hg : w.heap.size = g at *
  have HG := hide hg
  clear hg
  go_wp2_with fail
  go_region_held3 (fun wx => wx.there g 0 (vals .u8 MM).length)
    (with_reducible (first | exact World.there_setCells (HT4.out _ hb9) _ _ _ | exact HT4.out _ hb9 | exact HT4.out _ hb8 | exact HT4.out _ hb7 | exact HT4.out _ (Below.refl _ _).drew | exact HT4.out _ (Below.refl _ _) | fail))
    (first
      | (go_at_call 25; refine XB.out.mono ?_; rintro e w7 ⟨v7, rfl, ho7, hb7⟩)
      | (refine step_append rfl (.tmp 12) (.tmp 13) rfl W4.heap.size _ OO rfl ho7 _ II rfl (HI4.out.below hb7) HIP.out HOL1.out hb7.size ?_; intro v8 w8 ho8 hbel8; have hb8 : Below W4.heap.size W4 w8 := hb7.trans hbel8)
      | (go_at_call 24; refine (S2.out _ _ ho8.bytes).mono ?_; rintro e w9 ⟨rfl, hbel9⟩; have hb9 : Below W4.heap.size W4 w9 := below_on hb8 hbel9))
  all_goals go_wp2_with fail
  all_goals refine ret_arr 4 27 rfl _ 0 rfl .u8 MM (Arr.put (by have := HT4.out _ hb9; rwa [vals_length] at this)) _ Tryd.underlying27 rfl 32 info_h HML.out rfl ⟨rfl, below_sets (by rw [HG.out]; exact Nat.le_refl _) _ _ _ ?_⟩
  all_goals rw [HG.out]
  all_goals exact below_on' HB4.out hb9 (Nat.le_of_eq HG.out.symm)

end Go.Proofs.YtknijlajopmjaaaDoor
