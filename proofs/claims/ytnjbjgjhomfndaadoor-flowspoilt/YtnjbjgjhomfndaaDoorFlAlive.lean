/-
  What pappuslaw06.alive answers at this program.
-/
import Derived.Test.YtnjbjgjhomfndaaDoorFlFeed
import Derived.Test.YtnjbjgjhomfndaaDoorFlSame
import Derived.Test.YtnjbjgjhomfndaaDoorFrPut
import Derived.KernelRfl
namespace Go.Proofs.YtnjbjgjhomfndaaDoor
open Go.RowKit

theorem Flw.beside {w w' : World} {p q p2 q2 : Nat} {r : List Int} {d : Bool} (h : Flw w p2 q2 r d) (hb : Besides p q w w') (h1 : p2 ≠ p) (h2 : p2 ≠ q) (h3 : q2 ≠ p) (h4 : q2 ≠ q) : Flw w' p2 q2 r d :=
  h.heap (hb.block _ h.lt.1 h1 h2) (hb.block _ h.lt.2 h3 h4)
theorem ItemsAt.one {w : World} {v : Value} {x : It} (h : ItemsAt w v [x]) : ∃ b off cap bv, v = .slice (some ⟨b, off, none⟩) 1 cap ∧ 1 ≤ cap ∧ cap ≤ 9223372036854775807 ∧ w.cell? ⟨b, off, none⟩ = some (.string (strOfNums x.c)) ∧ w.cell? ⟨b, off + 1, none⟩ = some bv ∧ w.cell? ⟨b, off + 2, none⟩ = some (.int .i64 x.e) ∧ Bytes w bv x.b := by
  obtain ⟨a, cap, h1, h2, h3, h4⟩ := h
  obtain ⟨b, off, rfl, hc⟩ := h4 (by simp)
  obtain ⟨bv, c0, c1, c2, c3⟩ := hc 0 x rfl
  exact ⟨b, off, cap, bv, h1, h2, h3, by simpa using c0, by simpa using c1, by simpa using c2, c3⟩
theorem ItemsAt.none {w : World} {v : Value} (h : ItemsAt w v []) : ∃ a cap, v = .slice a 0 cap ∧ cap ≤ 9223372036854775807 := by
  obtain ⟨a, cap, h1, h2, h3, h4⟩ := h
  exact ⟨a, cap, h1, h3⟩
theorem Ks.old {P : Nat → Prop} {w0 w : World} (h : Ks w0) (hb : Below w0.heap.size w0 w) (hP : ∀ g, g < w0.heap.size → P g) : Keeps P w Ks :=
  keeps_old (fun _ hb' => h.on hb') hb (fun _ _ e k i hi => (cell_heap e _).trans (k i hi)) hP
/-- The document's example. -/
def pingB : ByteArray := ⟨#[112, 105, 110, 103]⟩
def pingF : List Int := frameL (strL pingB) [1, 2]
theorem ping_named : namedL (strL pingB) = true := by kernel_rfl
theorem ping_length : pingF.length = 26 := frameL_length ping_named [1, 2]
theorem ping_byte : ∀ z ∈ pingF, Byte z := frameL_byte ping_named (by intro z hz; simp at hz; unfold Byte; omega)
theorem ping_putE : fpE (strL pingB) [1, 2] = 0 := by kernel_rfl
theorem ping_put : fpL (strL pingB) [1, 2] = pingF := by unfold fpL; rw [if_pos ping_putE]; rfl
theorem runs_frame {c l : List Int} (hc : namedL c = true) (hl : l.length ≤ 2048) {rest : List Int} {L : List It} {s : List Int} {d : Bool} (h : Runs rest L s d) : Runs (frameL c l ++ rest) (⟨c, l, 0⟩ :: L) s d := by
  obtain ⟨g1, g2, g3, g4⟩ := frame_back hc hl rest
  have hd : (frameL c l ++ rest).drop (geN (frameL c l ++ rest)).toNat = rest := by
    rw [g4, show ((24 : Int) + (l.length : Int)).toNat = (frameL c l).length by rw [frameL_length hc]; omega, List.drop_left]
  have := Runs.next (r := frameL c l ++ rest) (Or.inl g1) (by rw [hd]; exact h)
  rwa [g1, g2, g3] at this
theorem runs_nil : Runs [] [] [] false := .short (geE_short (by simp))
theorem ping_first : FRuns false [] (pingF.take 10) [] (pingF.take 10) false := Or.inl ⟨rfl, .short (geE_short (by simp [ping_length]))⟩
theorem ping_rest : FRuns false (pingF.take 10) (pingF.drop 10) [⟨strL pingB, [1, 2], 0⟩] [] false := Or.inl ⟨rfl, by
  rw [List.take_append_drop]
  have := runs_frame ping_named (l := [1, 2]) (by simp) runs_nil
  rwa [List.append_nil] at this⟩
theorem zeros_die : FRuns false [] (List.replicate 24 0) [⟨[], [], 6⟩] [] true := Or.inl ⟨rfl, by
  have h : geE (List.replicate 24 0) = 6 := by kernel_rfl
  have := Runs.dies (r := List.replicate 24 0) (Or.inr h)
  rwa [h] at this⟩

set_option maxRecDepth 100000 in
set_option maxHeartbeats 2000000 in
theorem alive_any (w : World) (hk : Ks w) : Calls Tryd.prog 9 #[] w fun e w' => e = .returned (.bool true) ∧ Below w.heap.size w w' := by
  have HK := hide hk
  have NW := hide new_any
  have P := hide (fun wx v (h : Bytes wx v [1, 2]) (k : Ks wx) => fput_any wx pingB v [1, 2] h k (by decide))
  unfold FPutDone at P
  rw [ping_putE, ping_put] at P
  have hpl := ping_length
  have hvb : pingB.toList = [112, 105, 110, 103] := by rw [ByteArray.toList_eq]; rfl
  clear hk
  go_enter Tryd.func9, Tryd.ntmps9
  go_wp2_with fail
  refine (NW.out _).mono ?_
  rintro e w1 ⟨rfl, hF1, hs1, hb1⟩
  have HF1 := hide hF1
  have HS1 := hide hs1
  have HB1 := hide hb1
  clear hF1 hs1 hb1
  go_wp2_with fail
  refine (NW.out _).mono ?_
  rintro e w2 ⟨rfl, hG2, hs2, hb2⟩
  have HF2 := hide (HF1.out.on hb2)
  have HG2 := hide hG2
  have HS2 : Hid (w2.heap.size = w.heap.size + 2 ∧ w1.heap.size = w.heap.size + 1) := hide ⟨by rw [hs2, HS1.out], HS1.out⟩
  have HB2 := hide (below_on HB1.out hb2)
  clear hG2 hs2 hb2 HF1 HS1 HB1 NW
  go_upto_region 2 with fail
  go_wp2_with fail
  refine (P.out _ _ (Bytes.made w2 _ [1, 2] 2 rfl (by omega) rfl) (HK.out.on (below_on HB2.out ((Below.refl _ _).alloc (Nat.le_refl _) _)))).mono ?_
  rintro e w3 ⟨v3, rfl, hm3, -, hb3⟩
  have hm3 := hm3 trivial
  have hb23 := box1 hb3
  have hsz := alloc_size w2 (.cells #[.int .u8 1, .int .u8 2] 5)
  have HV3 := hide hm3.bytes
  obtain ⟨b3, cap3, rfl, hq1, hq2, hq3, -⟩ := hm3
  rw [alloc_size] at hq3
  have HQ3 : Hid (w2.heap.size ≤ b3) := hide (by omega)
  have HF3 := hide (HF2.out.on hb23)
  have HG3 := hide (HG2.out.on hb23)
  have HB3 := hide (below_on HB2.out hb23)
  have HS3 : Hid (w2.heap.size ≤ w3.heap.size) := hide hb23.size
  rw [hpl] at *
  clear hb3 hb23 hsz hq3 P HF2 HG2 HB2
  generalize hg1 : w1.heap.size = g1 at *
  clear hg1
  obtain ⟨pf, hpf⟩ : ∃ pf, pf = w.heap.size := ⟨_, rfl⟩
  have HG1 : Hid (g1 = pf + 1 ∧ w2.heap.size = pf + 2) := hide (by have := HS2.out; omega)
  have HKB : Hid (Keeps (off pf pf) w3 fun w => Bytes w (.slice (some ⟨b3, 0, none⟩) 26 cap3) pingF) := hide (HV3.out.keeps fun k hk => by
    have hk : b3 = k := by simpa [Value.ownBlock] using hk
    have := HQ3.out
    have := HG1.out
    exact ⟨by omega, by omega⟩)
  have HKK : Hid (Keeps (off pf pf) w3 Ks) := hide (HK.out.old HB3.out fun g hg => ⟨by omega, by omega⟩)
  have HKG : Hid (∀ wx, Below w.heap.size w wx → Keeps (off g1 g1) wx Ks) := hide (fun wx hb => HK.out.old hb fun g hg => by have := HG1.out; exact ⟨by omega, by omega⟩)
  have HB3' := HB3.out
  rw [← hpf] at HF3 HB3' ⊢
  obtain ⟨a5, c5, hrun5, htail5⟩ := tail_of (some ⟨b3, 0, none⟩) 26 cap3 10 .i64 (by omega)
  have HRUN5 := hide hrun5
  have HTAIL5 := hide htail5
  clear hrun5 htail5
  have HPF := hide hpf
  have FE1 := hide (feed_any w3 pf pf [] false (.slice (some ⟨b3, 0, none⟩) 10 cap3) (pingF.take 10) _ _ _ HF3.out (by simp) (fun z hz => ping_byte z (List.mem_of_mem_take hz)) (HKB.out.map fun _ h => h.take 10 (by omega)) HKK.out ping_first (by simp [ping_length]))
  have HBB := hide HB3'
  clear HB3' hpf HB3 HF3
  go_wp2_with fail
  refine FE1.out.mono ?_
  rintro e w4 ⟨v4, q4, rfl, hF4, hBs4, hq4, hI4⟩
  obtain ⟨a4, c4, rfl, -⟩ := hI4.read.none
  have HF4 := hide hF4
  have HG4 : Hid (Flw w4 g1 g1 [] false) := hide (HG3.out.beside hBs4 (by have := HG1.out; omega) (by have := HG1.out; omega) (by have := HG1.out; omega) (by have := HG1.out; omega))
  have HKB4 := hide (HKB.out.besides hBs4 hq4)
  have HKK4 := hide (HKK.out.besides hBs4 hq4)
  have HQ4 : Hid (q4 = pf ∨ w3.heap.size ≤ q4) := hide (by omega)
  have HB4 : Hid (Below pf w w4) := hide (HBB.out.trans (hBs4.ground (Nat.le_refl _) (Nat.le_refl _) (by have := HS3.out; have := HG1.out; omega)))
  have HS4 : Hid (w2.heap.size ≤ w4.heap.size) := hide (Nat.le_trans HS3.out hBs4.size)
  have HS34 : Hid (w3.heap.size ≤ w4.heap.size) := hide hBs4.size
  have FE2 := hide (feed_any w4 pf q4 (pingF.take 10) false (.slice a5 (26 - 10) c5) (pingF.drop 10) _ _ _ hF4 (fun z hz => ping_byte z (List.mem_of_mem_take hz)) (fun z hz => ping_byte z (List.mem_of_mem_drop hz)) (HKB4.out.map fun w h => HTAIL5.out w _ h) HKK4.out ping_rest (by simp [ping_length]))
  have WT4 := hide (fwaits_any hF4)
  have htl : (pingF.take 10).length = 10 := by simp [ping_length]
  rw [htl] at WT4
  clear hF4 hBs4 hq4 hI4 FE1 htl HG3 HKB HKK HBB
  go_wp2_with fail
  refine WT4.out.mono ?_
  rintro e wz ⟨rfl, hz⟩
  rw [hz]
  clear hz wz
  go_wp2_with (refine wp_from rfl (.tmp 38) (.const (.int .i64 10)) rfl _ _ _ rfl rfl HRUN5.out ?_)
  refine FE2.out.mono ?_
  rintro e w5 ⟨v5, q5, rfl, hF5, hBs5, hq5, hI5⟩
  have HF5 := hide hF5
  have HG5 : Hid (Flw w5 g1 g1 [] false) := hide (HG4.out.beside hBs5 (by have := HG1.out; omega) (by have := HG1.out; have := HQ4.out; have := HS3.out; omega) (by have := HG1.out; omega) (by have := HG1.out; have := HQ4.out; have := HS3.out; omega))
  have HB5 : Hid (Below pf w w5) := hide (HB4.out.trans (hBs5.ground (Nat.le_refl _) (by have := HQ4.out; have := HS3.out; have := HG1.out; omega) (by have := HS4.out; have := HG1.out; omega)))
  have HI5 := hide hI5
  have HQ5 : Hid (q5 = pf ∨ w3.heap.size ≤ q5) := hide (by have := HQ4.out; have := HS34.out; omega)
  have HS5 : Hid (w4.heap.size ≤ w5.heap.size) := hide hBs5.size
  have hal : Below w5.heap.size w5 (w5.alloc (.cells (vals .u8 (List.replicate 24 0)).toArray 5)) := (Below.refl _ _).alloc (Nat.le_refl _) _
  have hbz : Bytes (w5.alloc (.cells (vals .u8 (List.replicate 24 0)).toArray 5)) (.slice (some ⟨w5.heap.size, 0, none⟩) 24 24) (List.replicate 24 0) := (Arr.new w5 .u8 (List.replicate 24 0) 5).bytesL (by simp)
  have HF6 := hide (hF5.on hal)
  have HG6 := hide (HG5.out.on hal)
  have HI6 := hide (hI5.below hal)
  have HB6 : Hid (Below pf w (w5.alloc (.cells (vals .u8 (List.replicate 24 0)).toArray 5))) := hide (HB5.out.trans (hal.mono (by have := HS4.out; have := HS5.out; have := HG1.out; omega)))
  have HS6 : Hid (w5.heap.size < (w5.alloc (.cells (vals .u8 (List.replicate 24 0)).toArray 5)).heap.size) := hide (by rw [alloc_size]; omega)
  have FE3 := hide (feed_any (w5.alloc (.cells (vals .u8 (List.replicate 24 0)).toArray 5)) g1 g1 [] false (.slice (some ⟨w5.heap.size, 0, none⟩) 24 24) (List.replicate 24 0) _ _ _ HG6.out (by simp) (fun z hz => by rw [List.eq_of_mem_replicate hz]; unfold Byte; omega)
    (hbz.keeps fun k hk => by
      have hk : w5.heap.size = k := by simpa [Value.ownBlock] using hk
      have := HS4.out
      have := HS5.out
      have := HG1.out
      exact ⟨by omega, by omega⟩) (HKG.out _ (by have := HB6.out; rwa [HPF.out] at this)) zeros_die (by simp))
  clear hal hbz hF5 hBs5 hq5 hI5 HG5 HF5 HI5 HB5 FE2 HG6 HG4 HF4 HKB4 HKK4 HRUN5 HTAIL5 WT4
  go_wp2_with (refine wp_make_bytes rfl (.const (.int .i64 24)) (.const (.int .i64 24)) rfl 24 rfl rfl (by omega) ?_)
  refine FE3.out.mono ?_
  rintro e w7 ⟨v7, q7, rfl, hG7, hBs7, hq7, hI7⟩
  have hg := HG1.out
  have h34 := HS34.out
  have hs4 := HS4.out
  have hs5 := HS5.out
  have hs6 := HS6.out
  have hI5' := (HI6.out.move (w1 := w7) (av' := fun g => g < w4.heap.size ∨ g = q5) hBs7.size (fun g hg' ha => hBs7.block g hg' (by have : ¬ g < w4.heap.size := fun h => ha (Or.inl h); omega) (by have : ¬ g < w4.heap.size := fun h => ha (Or.inl h); omega)) (fun _ _ h => h)).read
  obtain ⟨bc, oc, cc, bvc, rfl, hcc1, hcc2, k0, k1, k2, k3⟩ := hI5'.one
  obtain ⟨bd, od, cd, bvd, rfl, hcd1, hcd2, m0, m1, m2, m3⟩ := hI7.read.one
  obtain ⟨pc, qc, rfl, -, -⟩ := k3.form
  have HF7 := hide (HF6.out.beside hBs7 (by omega) (by omega) (by have := HQ5.out; have := HS3.out; omega) (by have := HQ5.out; have := HS3.out; omega))
  have WF := hide (fwaits_any HF7.out)
  have DF := hide (fdead_any HF7.out)
  have DG := hide (fdead_any hG7)
  have HB7 : Hid (Below w.heap.size w w7) := hide (by
    have := HB6.out.trans (hBs7.ground (B := pf) (by omega) (by omega) (by omega))
    rwa [HPF.out] at this)
  have hstr : strOfNums (strL pingB) = pingB := str_strL _
  simp only [List.length_cons, List.length_nil, Nat.zero_add, Nat.reduceAdd] at k1
  rw [hstr] at k0
  clear m0 m1 m3 k3 hI5' hI7 hBs7 hq7 hG7 FE3 hg h34 hs4 hs5 hs6 HG1 HS2 HS3 HS34 HS4 HS5 HS6 HB6 HQ4 HQ5 HI6 HF6 HF7 HV3 HQ3 HB4 HKG HK hstr hm3
  go_wp2_with fail
  refine WF.out.mono ?_
  rintro e wz ⟨rfl, hz⟩
  rw [hz]
  clear hz wz
  go_wp2_with fail
  refine DG.out.mono ?_
  rintro e wz ⟨rfl, hz⟩
  rw [hz]
  clear hz wz
  go_wp2_with fail
  refine DF.out.mono ?_
  rintro e wz ⟨rfl, hz⟩
  rw [hz]
  clear hz wz
  go_wp2
  go_ret
  exact ⟨rfl, HB7.out⟩

end Go.Proofs.YtnjbjgjhomfndaaDoor
