/-
  What pappusref05.Head answers at this program: what a head says, by the document.
-/
import Derived.Test.YtnjbjgjhomfndaaDoorFrHead
import Derived.Test.YtnjbjgjhomfndaaDoorRefName
import Derived.Test.YtnjbjgjhomfndaaDoorRefOctG
import Derived.Test.YtnjbjgjhomfndaaDoorRefMagic
import Derived.Test.YtnjbjgjhomfndaaDoorKitA
import Derived.Test.YtnjbjgjhomfndaaDoorRefScan
import Derived.Deep.RegionHeld3
namespace Go.Proofs.YtnjbjgjhomfndaaDoor
open Go.RowKit

theorem info_rhdr : (Tryd.prog.info? 81).map (·.size) = some 3 := by kernel_rfl
theorem below_drews {B : Nat} {w w' : World} (h : Below B w w') (n : Nat) : Below B w (w'.drewN n) := h.trans ⟨rfl, rfl, rfl, Nat.le_refl _, fun _ _ => rfl⟩

set_option maxRecDepth 100000 in
set_option maxHeartbeats 1000000 in
theorem rhead_not (w : World) (v : Value) (l : List Int) (hv : Bytes w v l) (h24 : ¬ l.length = 24) :
    Calls Tryd.prog 34 #[v] w fun e w' => HeadDone w l e w' := by
  have hE : hdE l = 2 := by unfold hdE; rw [if_neg h24]
  have HD := hide (fun w' => headDone_bad (w := w) (w' := w') hE (by omega))
  obtain ⟨a, cap, rfl, hc1, hc2⟩ := hv.form
  have h24' : ((l.length : Int) == 24) = false := beq_eq_false_iff_ne.2 (by omega)
  clear hv hE
  go_enter Tryd.func34, Tryd.ntmps34
  go_wp2
  exact ret_row_tmp 2 3 81 rfl _ 0 rfl [.string ⟨#[]⟩, .int .i64 0, .int .u32 0] (range_new w _ _) _ Tryd.underlying81 rfl info_rhdr _ rfl rfl (HD.out _ ((Below.refl _ _).alloc (Nat.le_refl _) _))

theorem rmagic_bytes (w : World) : Calls Tryd.prog 43 #[] w fun e w' => ∃ v', e = .returned v' ∧ Bytes w' v' magicL ∧ Below w.heap.size w w' :=
  (rmagic_any w).mono fun _ _ ⟨h1, h2⟩ => ⟨_, h1, by rw [h2]; exact (rmagic_own w 0 (Nat.zero_le _)).bytes, by rw [h2]; exact (Below.refl _ _).alloc (Nat.le_refl _) _⟩

set_option maxRecDepth 100000 in
set_option maxHeartbeats 1000000 in
theorem rhead_form (w : World) (v : Value) (l : List Int) (hv : Bytes w v l) (h24 : l.length = 24) (hm : ¬ l.take 4 = magicL) :
    Calls Tryd.prog 34 #[v] w fun e w' => HeadDone w l e w' := by
  obtain ⟨b, off, cap, rfl, hc1, hc2, -⟩ := hv.lies (by omega)
  have hE : hdE l = 6 := by unfold hdE; rw [if_pos h24, if_neg hm]
  have HD := hide (fun w' => headDone_bad (w := w) (w' := w') hE (by omega))
  have M := hide (fun wx => rmagic_bytes wx)
  have SM := hide (fun wx p q (h : Bytes wx p (l.take 4)) (j : Bytes wx q magicL) => same_any _ _ p q wx h j)
  rw [decide_eq_false hm] at SM
  have HV := hide hv
  have S1 := hide (fun wx (h : Bytes wx (.slice (some ⟨b, off, none⟩) 24 cap) l) => h.take 4 (by omega))
  have HR := hide (there_new w #[.string ⟨#[]⟩, .int .i64 0, .int .u32 0] 81)
  have HB0 := hide ((Below.refl w.heap.size w).alloc (Nat.le_refl _) (.cells #[.string ⟨#[]⟩, .int .i64 0, .int .u32 0] 81))
  rw [h24] at *
  clear hv hE hm
  generalize l.take 4 = t4 at *
  go_enter Tryd.func34, Tryd.ntmps34
  go_upto_region 3 with fail
  generalize w.alloc (.cells #[.string ⟨#[]⟩, .int .i64 0, .int .u32 0] 81) = W at *
  have hcap4 : 4 ≤ cap := by omega
  have hcap4' : (4 : Int) ≤ (cap : Int) := by omega
  go_region_held3 (fun wx => Below W.heap.size W wx) (with_reducible (first | exact hb3 | exact hb2 | exact Below.refl _ _ | exact (Below.refl _ _).drew | fail))
    (first
      | (go_at_call 43; refine (M.out _).mono ?_; rintro e w2 ⟨v2, rfl, hv2, hbel2⟩; have hb2 : Below W.heap.size W w2 := below_on (Below.refl _ _).drew hbel2)
      | (go_at_call 21; refine (SM.out _ _ _ (S1.out _ (HV.out.below (below_on HB0.out hb2))) hv2).mono ?_; rintro e w3 ⟨rfl, nn, rfl⟩; have hb3 : Below W.heap.size W (w2.drewN nn) := below_drews hb2 nn))
  have HB3 := hide (below_on HB0.out hb3)
  have HR3 : Hid ((w2.drewN nn).there w.heap.size 0 3) := hide (there_on HR.out hb3)
  generalize w2.drewN nn = W3 at *
  rename_i hHeld
  clear hHeld hb3 hb2 hbel2 hv2
  go_wp2_with (refine wp_store_row rfl 81 (.tmp 2) (.tmp 20) rfl _ 0 [.string ⟨#[]⟩, .int .i64 0, .int .u32 0] rfl rfl HR3.out info_rhdr hdr_one ?_)
  refine ret_row_tmp 2 3 81 rfl _ 0 rfl [.string ⟨#[]⟩, .int .i64 0, .int .u32 0] (World.rangeAt_setCells_same _ _ _ _ HR3.out) _ Tryd.underlying81 rfl info_rhdr (.int .i64 6) rfl rfl (HD.out _ (below_sets (Nat.le_refl _) _ _ _ HB3.out))

/-- What holds at the head of a round of the first way, and of the second. -/
def Scanning (t : List Int) (v : Value) : Prop := ∃ k : Nat, 4 ≤ k ∧ k ≤ 16 ∧ v = .int .i64 k ∧ ∀ i, i < k - 4 → ¬ t.getD i 0 = 0
def Looking (t : List Int) (k : Nat) (c v : Value) : Prop := ∃ m : Nat, k ≤ m ∧ m ≤ 16 ∧ v = .int .i64 m ∧ c = .string (strOfNums (soFar t (k - 4) (m - 4)))

set_option maxRecDepth 100000 in
set_option maxHeartbeats 1000000 in
theorem rhead_main (w : World) (v : Value) (l : List Int) (hv : Bytes w v l) (hb : ∀ z ∈ l, Byte z) (h24 : l.length = 24) (hm : l.take 4 = magicL) :
    Calls Tryd.prog 34 #[v] w fun e w' => HeadDone w l e w' := by
  obtain ⟨b, off, cap, rfl, hc1, hc2, hcell⟩ := hv.lies (by omega)
  have M := hide (fun wx => rmagic_bytes wx)
  have SM := hide (fun wx p q (h : Bytes wx p (l.take 4)) (j : Bytes wx q magicL) => same_any _ _ p q wx h j)
  rw [decide_eq_true hm] at SM
  have HV := hide hv
  have S1 := hide (fun wx (h : Bytes wx (.slice (some ⟨b, off, none⟩) 24 cap) l) => h.take 4 (by omega))
  have HR := hide (there_new w #[.string ⟨#[]⟩, .int .i64 0, .int .u32 0] 81)
  have HB0 := hide ((Below.refl w.heap.size w).alloc (Nat.le_refl _) (.cells #[.string ⟨#[]⟩, .int .i64 0, .int .u32 0] 81))
  have l1 : ((l.drop 16).take 4).length = 4 := by simp; omega
  have l2 : ((l.drop 20).take 4).length = 4 := by simp; omega
  have e20 : (l.drop 20).take 4 = l.drop 20 := List.take_of_length_le (by simp; omega)
  have b1 : ∀ z ∈ (l.drop 16).take 4, Byte z := fun z hz => hb z (List.mem_of_mem_drop (List.mem_of_mem_take hz))
  have b2 : ∀ z ∈ (l.drop 20).take 4, Byte z := fun z hz => hb z (List.mem_of_mem_drop (List.mem_of_mem_take hz))
  have b3 : ∀ z ∈ (l.drop 4).take 12, Byte z := fun z hz => hb z (List.mem_of_mem_drop (List.mem_of_mem_take hz))
  have G1 := hide (fun wx p (h : Bytes wx p ((l.drop 16).take 4)) => rget_any _ p wx h b1)
  rw [(get4 _ l1).1, (get4 _ l1).2] at G1
  have G2 := hide (fun wx p (h : Bytes wx p ((l.drop 20).take 4)) => rget_any _ p wx h b2)
  rw [(get4 _ l2).1, (get4 _ l2).2] at G2
  obtain ⟨n0, n1⟩ := num4 _ l1 b1
  obtain ⟨s0, s1⟩ := num4 _ l2 b2
  have D1 := hide (fun wx (h : Bytes wx (.slice (some ⟨b, off, none⟩) 24 cap) l) => h.mid 16 20 (by omega) (by omega) (by omega) 4 (cap - 16) rfl rfl)
  have D2 := hide (fun wx (h : Bytes wx (.slice (some ⟨b, off, none⟩) 24 cap) l) => h.mid 20 24 (by omega) (by omega) (by omega) 4 (cap - 20) rfl rfl)
  have HE : Hid (hdE l = if num ((l.drop 16).take 4) ≤ 2048 then 0 else 5) := hide (by unfold hdE; rw [if_pos h24, if_pos hm])
  have HOK : Hid (num ((l.drop 16).take 4) ≤ 2048 → ∀ w', Below w.heap.size w w' → HeadDone w l (.returned (.tuple #[.agg #[.string (strOfNums (nameL ((l.drop 4).take 12))), .int .i64 (num ((l.drop 16).take 4)), .int .u32 (num ((l.drop 20).take 4))], .int .i64 0])) w') := hide (fun hn w' hb => by
    have hE : hdE l = 0 := by rw [HE.out, if_pos hn]
    refine ⟨?_, hb⟩
    unfold hdC hdN hdS
    rw [hE, if_pos rfl, if_pos rfl, if_pos rfl, e20]
    rfl)
  have HBAD : Hid (¬ num ((l.drop 16).take 4) ≤ 2048 → ∀ w', Below w.heap.size w w' → HeadDone w l (.returned (.tuple #[.agg #[.string ⟨#[]⟩, .int .i64 0, .int .u32 0], .int .i64 5])) w') := hide (fun hn w' hb => headDone_bad (by rw [HE.out, if_neg hn]) (by omega) hb)
  -- the twelve bytes
  have HT : Hid (((l.drop 4).take 12).length = 12 ∧ ∀ z ∈ (l.drop 4).take 12, Byte z) := hide ⟨by simp; omega, b3⟩
  have HC : Hid (∀ wx, Below w.heap.size w wx → ∀ i, i < 12 → wx.cell? ⟨b, off + (4 + i), none⟩ = some (.int .u8 (((l.drop 4).take 12).getD i 0))) := hide (fun wx hx i hi => by
    have hc := hcell (4 + i) (by omega)
    rw [hx.cell (World.block_lt_of_cell? _ _ hc), hc]
    congr 2
    simp only [List.getD]
    rw [List.getElem?_take_of_lt hi, List.getElem?_drop])
  have D3 := hide (fun wx (h : Bytes wx (.slice (some ⟨b, off, none⟩) 24 cap) l) (j : Nat) (hj : j ≤ 12) => h.mid 4 (4 + j) (by omega) (by omega) (by omega) j (cap - 4) (by omega) rfl)
  have HT3 : Hid (∀ j, j ≤ 12 → (l.drop 4).take j = ((l.drop 4).take 12).take j) := hide (fun j hj => by rw [List.take_take, Nat.min_eq_left hj])
  rw [h24] at *
  clear hv hcell l1 l2 b1 b2 b3 hb hm HE e20
  generalize l.take 4 = t4 at *
  generalize num ((l.drop 16).take 4) = x at *
  generalize (l.drop 16).take 4 = t1 at *
  generalize num ((l.drop 20).take 4) = y at *
  generalize (l.drop 20).take 4 = t2 at *
  go_enter Tryd.func34, Tryd.ntmps34
  go_upto_region 3 with fail
  generalize w.alloc (.cells #[.string ⟨#[]⟩, .int .i64 0, .int .u32 0] 81) = W at *
  have hcap4 : 4 ≤ cap := by omega
  have hcap4' : (4 : Int) ≤ (cap : Int) := by omega
  go_region_held3 (fun wx => Below W.heap.size W wx) (with_reducible (first | exact hb3 | exact hb2 | exact Below.refl _ _ | exact (Below.refl _ _).drew | fail))
    (first
      | (go_at_call 43; refine (M.out _).mono ?_; rintro e w2 ⟨v2, rfl, hv2, hbel2⟩; have hb2 : Below W.heap.size W w2 := below_on (Below.refl _ _).drew hbel2)
      | (go_at_call 21; refine (SM.out _ _ _ (S1.out _ (HV.out.below (below_on HB0.out hb2))) hv2).mono ?_; rintro e w3 ⟨rfl, nn, rfl⟩; have hb3 : Below W.heap.size W (w2.drewN nn) := below_drews hb2 nn))
  have HB3 := hide (below_on HB0.out hb3)
  have HR3 : Hid ((w2.drewN nn).there w.heap.size 0 3) := hide (there_on HR.out hb3)
  generalize w2.drewN nn = W3 at *
  rename_i hHeld
  clear hHeld hb3 hb2 hbel2 hv2
  have HV3 := hide (HV.out.below HB3.out)
  go_wp2_with fail
  refine (G1.out _ _ (D1.out _ HV3.out)).mono ?_
  rintro e w4 ⟨rfl, rfl⟩
  go_wp2_with fail
  refine (G2.out _ _ (D2.out _ HV3.out)).mono ?_
  rintro e w5 ⟨rfl, rfl⟩
  by_cases hn : x ≤ 2048
  · have HOK := hide (HOK.out hn)
    go_wp2_with fail
    generalize (l.drop 4).take 12 = t at *
    have HC3 := hide (HC.out _ HB3.out)
    have HCV : Hid (∀ k, 4 ≤ k → k ≤ 16 → (convert 28 9 (.slice (some ⟨b, off + 4, none⟩) (k - 4) (cap - 4))).run Tryd.prog w5 = .ok (.string (strOfNums (t.take (k - 4)))) w5) := hide (fun k h1 h2 => by
      have := D3.out _ HV3.out (k - 4) (by omega)
      rw [show 4 + (k - 4) - 4 = k - 4 by omega, HT3.out (k - 4) (by omega)] at this
      exact conv_any this)
    have RN : Hid (∀ wx, Calls Tryd.prog 45 #[.string (strOfNums (rcutL t))] wx fun e w' => e = .returned (.bool (namedL (rcutL t))) ∧ w' = wx) := hide (fun wx => by
      have hsz : (rcutL t).length ≤ 12 := by
        rw [← soFar_rcut t, ← HT.out.1]
        exact soFar_length _ _ _
      have h := rnamed_any (strOfNums (rcutL t)) wx (by rw [strOfNums_size]; omega)
      rwa [strL_str _ (by rw [← soFar_rcut t]; exact soFar_byte HT.out.2 _ _)] at h)
    have HNM := hide (rname_eq t)
    clear D3 HT3 HC D1 D2
    go_loop [8] (fun v => Scanning t v) (fun v => 16 - (intOf v).toNat)
    case atStart => exact ⟨4, by omega, by omega, rfl, fun i hi => by omega⟩
    case round =>
      obtain ⟨k, hk4, hk16, rfl, hnz⟩ := hrel
      have HNZ := hide hnz
      clear hnz
      have HST : Hid (∀ k, soFar t k k = t.take k) := hide (soFar_start t)
      by_cases hgo : k < 16 ∧ ¬ t.getD (k - 4) 0 = 0
      · obtain ⟨hlt, hz⟩ := hgo
        have hc := HC3.out (k - 4) (by omega)
        rw [show 4 + (k - 4) = k by omega] at hc
        have hz' : (t.getD (k - 4) 0 == 0) = false := beq_eq_false_iff_ne.2 hz
        have HNX : Hid (∀ i, i < k + 1 - 4 → ¬ t.getD i 0 = 0) := hide (fun i hi => by
          rcases Nat.lt_or_ge i (k - 4) with h | h
          · exact HNZ.out i h
          · rw [show i = k - 4 by omega]; exact hz)
        clear hz
        generalize t.getD (k - 4) 0 = z at *
        go_wp2
        go_round
        case rel => exact ⟨k + 1, by omega, by omega, by go_num, HNX.out⟩
        case measure => simp [intOf]; omega
      · have HX : Hid (k - 4 = t.length ∨ t.getD (k - 4) 0 = 0) := hide (by
          rcases Nat.lt_or_ge k 16 with h | h
          · right
            exact Classical.not_not.1 fun q => hgo ⟨h, q⟩
          · left
            rw [HT.out.1]; omega)
        have HEND : Hid (soFar t (k - 4) 12 = rcutL t) := hide (by
          have := soFar_end (t := t) (j := k - 4) (by rw [HT.out.1]; omega) HNZ.out HX.out
          rwa [HT.out.1] at this)
        have hcv := HCV.out k hk4 hk16
        have hk4' : (4 : Int) ≤ (k : Int) := by omega
        have hk16' : (k : Int) ≤ 16 := by omega
        rcases (show k < 16 ∨ ¬ k < 16 by omega) with hlt | hlt
        · have hc := HC3.out (k - 4) (by omega)
          rw [show 4 + (k - 4) = k by omega, Classical.not_not.1 (fun q => hgo ⟨hlt, q⟩)] at hc
          clear hgo
          go_upto_region 12 with fail
          clear hc
          go_upto_region 14 with fail
          go_loop [9, 10] (fun c v => Looking t k c v) (fun _ v => 16 - (intOf v).toNat)
          case atStart => exact ⟨k, Nat.le_refl _, hk16, rfl, by rw [HST.out]⟩
          case round =>
            obtain ⟨m, hkm, hm16, rfl, rfl⟩ := hrel
            by_cases hlt2 : m < 16
            · have hc := HC3.out (m - 4) (by omega)
              rw [show 4 + (m - 4) = m by omega] at hc
              by_cases hz : t.getD (m - 4) 0 = 0
              · rw [hz] at hc
                have HS : Hid (soFar t (k - 4) (m + 1 - 4) = soFar t (k - 4) (m - 4)) := hide (by rw [show m + 1 - 4 = m - 4 + 1 by omega]; exact soFar_zero (by omega) (by rw [HT.out.1]; omega) hz)
                clear hz
                generalize hc0 : soFar t (k - 4) (m - 4) = c0 at *
                clear hc0
                go_wp2
                go_round
                case rel => exact ⟨m + 1, by omega, by omega, by go_num, by rw [HS.out]⟩
                case measure => simp [intOf]; omega
              · have hz' : (t.getD (m - 4) 0 == 0) = false := beq_eq_false_iff_ne.2 hz
                have HS : Hid (soFar t (k - 4) (m + 1 - 4) = []) := hide (by rw [show m + 1 - 4 = m - 4 + 1 by omega]; exact soFar_other (by omega) (by rw [HT.out.1]; omega) hz)
                clear hz
                generalize t.getD (m - 4) 0 = z at *
                generalize soFar t (k - 4) (m - 4) = c0 at *
                go_wp2
                go_round
                case rel => exact ⟨m + 1, by omega, by omega, by go_num, by rw [HS.out, str_nil]⟩
                case measure => simp [intOf]; omega
            · obtain rfl : m = 16 := by omega
              rw [show soFar t (k - 4) (16 - 4) = rcutL t from HEND.out]
              cases hnb : namedL (rcutL t) with
              | false =>
                rw [hnb] at RN HNM
                rw [if_neg (by decide)] at HNM
                rw [← HNM.out, str_nil] at HOK
                generalize strOfNums (rcutL t) = S at *
                go_wp2_with fail
                refine (RN.out _).mono ?_
                rintro e w6 ⟨rfl, rfl⟩
                go_wp2_with (refine wp_store_row rfl 81 (.tmp 2) (.tmp 69) rfl _ 0 [.string ⟨#[]⟩, .int .i64 x, .int .u32 y] rfl rfl HR3.out info_rhdr hdr_one ?_)
                refine ret_row_tmp 2 3 81 rfl _ 0 rfl [.string ⟨#[]⟩, .int .i64 x, .int .u32 y] (World.rangeAt_setCells_same _ _ _ _ HR3.out) _ Tryd.underlying81 rfl info_rhdr (.int .i64 0) rfl rfl (HOK.out _ (below_sets (Nat.le_refl _) _ _ _ HB3.out))
              | true =>
                rw [hnb] at RN HNM
                rw [if_pos rfl] at HNM
                rw [← HNM.out] at HOK
                generalize strOfNums (rcutL t) = S at *
                go_wp2_with fail
                refine (RN.out _).mono ?_
                rintro e w6 ⟨rfl, rfl⟩
                go_wp2_with (refine wp_store_row rfl 81 (.tmp 2) (.tmp 69) rfl _ 0 [.string S, .int .i64 x, .int .u32 y] rfl rfl HR3.out info_rhdr hdr_one ?_)
                refine ret_row_tmp 2 3 81 rfl _ 0 rfl [.string S, .int .i64 x, .int .u32 y] (World.rangeAt_setCells_same _ _ _ _ HR3.out) _ Tryd.underlying81 rfl info_rhdr (.int .i64 0) rfl rfl (HOK.out _ (below_sets (Nat.le_refl _) _ _ _ HB3.out))
        · clear hgo
          go_upto_region 12 with fail
          go_upto_region 14 with fail
          go_loop [9, 10] (fun c v => Looking t k c v) (fun _ v => 16 - (intOf v).toNat)
          case atStart => exact ⟨k, Nat.le_refl _, hk16, rfl, by rw [HST.out]⟩
          case round =>
            obtain ⟨m, hkm, hm16, rfl, rfl⟩ := hrel
            by_cases hlt2 : m < 16
            · exfalso
              omega
            · obtain rfl : m = 16 := by omega
              rw [show soFar t (k - 4) (16 - 4) = rcutL t from HEND.out]
              cases hnb : namedL (rcutL t) with
              | false =>
                rw [hnb] at RN HNM
                rw [if_neg (by decide)] at HNM
                rw [← HNM.out, str_nil] at HOK
                generalize strOfNums (rcutL t) = S at *
                go_wp2_with fail
                refine (RN.out _).mono ?_
                rintro e w6 ⟨rfl, rfl⟩
                go_wp2_with (refine wp_store_row rfl 81 (.tmp 2) (.tmp 69) rfl _ 0 [.string ⟨#[]⟩, .int .i64 x, .int .u32 y] rfl rfl HR3.out info_rhdr hdr_one ?_)
                refine ret_row_tmp 2 3 81 rfl _ 0 rfl [.string ⟨#[]⟩, .int .i64 x, .int .u32 y] (World.rangeAt_setCells_same _ _ _ _ HR3.out) _ Tryd.underlying81 rfl info_rhdr (.int .i64 0) rfl rfl (HOK.out _ (below_sets (Nat.le_refl _) _ _ _ HB3.out))
              | true =>
                rw [hnb] at RN HNM
                rw [if_pos rfl] at HNM
                rw [← HNM.out] at HOK
                generalize strOfNums (rcutL t) = S at *
                go_wp2_with fail
                refine (RN.out _).mono ?_
                rintro e w6 ⟨rfl, rfl⟩
                go_wp2_with (refine wp_store_row rfl 81 (.tmp 2) (.tmp 69) rfl _ 0 [.string S, .int .i64 x, .int .u32 y] rfl rfl HR3.out info_rhdr hdr_one ?_)
                refine ret_row_tmp 2 3 81 rfl _ 0 rfl [.string S, .int .i64 x, .int .u32 y] (World.rangeAt_setCells_same _ _ _ _ HR3.out) _ Tryd.underlying81 rfl info_rhdr (.int .i64 0) rfl rfl (HOK.out _ (below_sets (Nat.le_refl _) _ _ _ HB3.out))
  · have HBAD := hide (HBAD.out (by omega))
    go_wp2_with (refine wp_store_row rfl 81 (.tmp 2) (.tmp 35) rfl _ 0 [.string ⟨#[]⟩, .int .i64 0, .int .u32 0] rfl rfl HR3.out info_rhdr hdr_one ?_)
    refine ret_row_tmp 2 3 81 rfl _ 0 rfl [.string ⟨#[]⟩, .int .i64 0, .int .u32 0] (World.rangeAt_setCells_same _ _ _ _ HR3.out) _ Tryd.underlying81 rfl info_rhdr (.int .i64 5) rfl rfl (HBAD.out _ (below_sets (Nat.le_refl _) _ _ _ HB3.out))

theorem rhead_any (w : World) (v : Value) (l : List Int) (hv : Bytes w v l) (hb : ∀ z ∈ l, Byte z) :
    Calls Tryd.prog 34 #[v] w fun e w' => HeadDone w l e w' := by
  by_cases h : l.length = 24
  · by_cases hm : l.take 4 = magicL
    · exact rhead_main w v l hv hb h hm
    · exact rhead_form w v l hv h hm
  · exact rhead_not w v l hv h

end Go.Proofs.YtnjbjgjhomfndaaDoor
