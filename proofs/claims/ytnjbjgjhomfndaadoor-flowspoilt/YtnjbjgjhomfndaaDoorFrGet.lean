/-
  What frame.Get answers at this program, whatever the bytes.
-/
import Derived.Test.YtnjbjgjhomfndaaDoorFrHead
import Derived.Test.YtnjbjgjhomfndaaDoorClon
import Derived.Deep.RegionHeld3
namespace Go.Proofs.YtnjbjgjhomfndaaDoor
open Go.RowKit

/-- What Get comes to. -/
def GetDone (w : World) (l : List Int) (e : Ending) (w' : World) : Prop :=
  ∃ v', e = .returned (.tuple #[.string (strOfNums (geC l)), v', .int .i64 (geN l), .int .i64 (geE l)]) ∧ Own w' w.heap.size v' (geB l) ∧ Below w.heap.size w w'
theorem getDone_bad {w w' : World} {l : List Int} {n z : Int} (hE : geE l = z) (hz : ¬ z = 0) (hN : geN l = n) (hb : Below w.heap.size w w') :
    GetDone w l (.returned (.tuple #[.string ⟨#[]⟩, .slice none 0 0, .int .i64 n, .int .i64 z])) w' := by
  subst hE hN
  refine ⟨.slice none 0 0, ?_, ?_, hb⟩
  · unfold geC
    rw [if_neg hz]
    rfl
  · unfold geB
    rw [if_neg hz]
    exact Own.nil _ _
theorem geN_bad {l : List Int} (h0 : ¬ geE l = 0) (h7 : ¬ geE l = 7) (h8 : ¬ geE l = 8) : geN l = 0 := by
  unfold geN
  rw [if_neg (by omega)]

set_option maxRecDepth 100000 in
theorem get_short (w : World) (v : Value) (l : List Int) (hv : Bytes w v l) (h : l.length < 24) :
    Calls Tryd.prog 32 #[v] w fun e w' => GetDone w l e w' := by
  have hE : geE l = 4 := by unfold geE; rw [if_pos h]
  have HD := hide (getDone_bad (w := w) (w' := w) hE (by omega) (geN_bad (by omega) (by omega) (by omega)) (Below.refl _ _))
  obtain ⟨a, cap, rfl, hc1, hc2⟩ := hv.form
  clear hv hE
  go_enter Tryd.func32, Tryd.ntmps32
  go_wp2
  exact ret_tmp4 2 3 4 5 rfl _ _ _ _ rfl rfl rfl rfl rfl HD.out

/-- The header in its box. -/
theorem box_hdr (w : World) (c : ByteArray) (n s : Int) : Below w.heap.size w (w.alloc (.cells #[.string c, .int .i64 n, .int .u32 s] 56)) ∧
    ∀ wx, Below (w.alloc (.cells #[.string c, .int .i64 n, .int .u32 s] 56)).heap.size (w.alloc (.cells #[.string c, .int .i64 n, .int .u32 s] 56)) wx →
      wx.cell? ⟨w.heap.size, 0, none⟩ = some (.string c) ∧ wx.cell? ⟨w.heap.size, 1, none⟩ = some (.int .i64 n) ∧ wx.cell? ⟨w.heap.size, 2, none⟩ = some (.int .u32 s) := by
  refine ⟨(Below.refl _ _).alloc (Nat.le_refl _) _, fun wx hb => ?_⟩
  have hr := range_on (range_new w [.string c, .int .i64 n, .int .u32 s] 56) hb
  have h0 := hr 0 _ rfl
  have h1 := hr 1 _ rfl
  have h2 := hr 2 _ rfl
  exact ⟨by simpa using h0, by simpa using h1, by simpa using h2⟩

set_option maxRecDepth 100000 in
set_option maxHeartbeats 1000000 in
theorem get_bad (w : World) (v : Value) (l : List Int) (hv : Bytes w v l) (hb : ∀ z ∈ l, Byte z) (h : ¬ l.length < 24) (hh : ¬ hdE (l.take 24) = 0) :
    Calls Tryd.prog 32 #[v] w fun e w' => GetDone w l e w' := by
  have hE : geE l = hdE (l.take 24) := by unfold geE; rw [if_neg h, if_neg hh]
  have hk : hdE (l.take 24) = 5 ∨ hdE (l.take 24) = 6 ∨ hdE (l.take 24) = 2 := by
    unfold hdE at hh ⊢
    split <;> (try split) <;> (try split) <;> simp_all
  have HD := hide (fun w' => getDone_bad (w := w) (w' := w') hE hh (geN_bad (by omega) (by omega) (by omega)))
  obtain ⟨b, off, cap, rfl, hc1, hc2, -⟩ := hv.lies (by omega)
  have HH := hide (fun wx p (k : Bytes wx p (l.take 24)) => head_any wx p (l.take 24) k (fun z hz => hb z (List.mem_of_mem_take hz)))
  have S := hide (hv.take 24 (by omega))
  have hne : (hdE (l.take 24) == 0) = false := beq_eq_false_iff_ne.2 hh
  clear hv hE hb hk
  unfold HeadDone at HH
  simp only [hdrV] at HH
  generalize hdE (l.take 24) = z at *
  generalize strOfNums (hdC (l.take 24)) = c at *
  generalize hdN (l.take 24) = n at *
  generalize hdS (l.take 24) = sm at *
  have h24 : 24 ≤ l.length := by omega
  go_enter Tryd.func32, Tryd.ntmps32
  go_wp2_with fail
  refine (HH.out _ _ S.out).mono ?_
  rintro e w1 ⟨rfl, hbel1⟩
  have HB := hide (below_on hbel1 (box_hdr w1 c n sm).1)
  clear hbel1
  go_wp2
  exact ret_tmp4 2 3 4 5 rfl _ _ _ _ rfl rfl rfl rfl rfl (HD.out _ HB.out)

theorem hdN_range (t : List Int) (hb : ∀ z ∈ t, Byte z) : 0 ≤ hdN t ∧ hdN t ≤ 2048 := by
  unfold hdN
  split
  · rename_i h
    have h1 := num_nonneg ((t.drop 16).take 4) (fun z hz => hb z (List.mem_of_mem_drop (List.mem_of_mem_take hz)))
    unfold hdE at h
    split at h <;> (try split at h) <;> (try split at h) <;> simp_all
  · exact ⟨by omega, by omega⟩

set_option maxRecDepth 100000 in
set_option maxHeartbeats 1000000 in
theorem get_cut (w : World) (v : Value) (l : List Int) (hv : Bytes w v l) (hb : ∀ z ∈ l, Byte z) (h : ¬ l.length < 24) (hh : hdE (l.take 24) = 0) (hcut : (l.length : Int) < 24 + hdN (l.take 24)) :
    Calls Tryd.prog 32 #[v] w fun e w' => GetDone w l e w' := by
  have hE : geE l = 4 := by unfold geE; rw [if_neg h, if_pos hh, if_pos hcut]
  have HD := hide (fun w' => getDone_bad (w := w) (w' := w') hE (by omega) (geN_bad (by omega) (by omega) (by omega)))
  obtain ⟨b, off, cap, rfl, hc1, hc2, -⟩ := hv.lies (by omega)
  have HH := hide (fun wx p (k : Bytes wx p (l.take 24)) => head_any wx p (l.take 24) k (fun z hz => hb z (List.mem_of_mem_take hz)))
  have S := hide (hv.take 24 (by omega))
  have HV := hide hv
  obtain ⟨n, hn⟩ : ∃ n : Nat, hdN (l.take 24) = n := ⟨(hdN (l.take 24)).toNat, by have := (hdN_range (l.take 24) (fun z hz => hb z (List.mem_of_mem_take hz))).1; omega⟩
  have hn2 : n ≤ 2048 := by have := (hdN_range (l.take 24) (fun z hz => hb z (List.mem_of_mem_take hz))).2; omega
  clear hv hE hb
  unfold HeadDone at HH
  simp only [hdrV] at HH
  rw [hh, hn] at HH
  rw [hn] at hcut
  generalize strOfNums (hdC (l.take 24)) = c at *
  generalize hdS (l.take 24) = sm at *
  have h24 : 24 ≤ l.length := by omega
  clear hh hn
  go_enter Tryd.func32, Tryd.ntmps32
  go_wp2_with fail
  refine (HH.out _ _ S.out).mono ?_
  rintro e w1 ⟨rfl, hbel1⟩
  have HB := hide (below_on hbel1 (box_hdr w1 c n sm).1)
  clear hbel1
  go_wp2
  exact ret_tmp4 2 3 4 5 rfl _ _ _ _ rfl rfl rfl rfl rfl (HD.out _ HB.out)

set_option maxRecDepth 100000 in
set_option maxHeartbeats 1000000 in
theorem get_noname (w : World) (v : Value) (l : List Int) (hv : Bytes w v l) (hb : ∀ z ∈ l, Byte z) (h : ¬ l.length < 24) (hh : hdE (l.take 24) = 0) (hcut : ¬ (l.length : Int) < 24 + hdN (l.take 24)) (hc : hdC (l.take 24) = []) :
    Calls Tryd.prog 32 #[v] w fun e w' => GetDone w l e w' := by
  have hE : geE l = 8 := by unfold geE; rw [if_neg h, if_pos hh, if_neg hcut, if_pos hc]
  have hN : geN l = 24 + hdN (l.take 24) := by unfold geN; rw [if_pos (by omega)]
  have HD := hide (fun w' => getDone_bad (w := w) (w' := w') hE (by omega) hN)
  obtain ⟨b, off, cap, rfl, hc1, hc2, -⟩ := hv.lies (by omega)
  have HH := hide (fun wx p (k : Bytes wx p (l.take 24)) => head_any wx p (l.take 24) k (fun z hz => hb z (List.mem_of_mem_take hz)))
  have S := hide (hv.take 24 (by omega))
  have HV := hide hv
  obtain ⟨n, hn⟩ : ∃ n : Nat, hdN (l.take 24) = n := ⟨(hdN (l.take 24)).toNat, by have := (hdN_range (l.take 24) (fun z hz => hb z (List.mem_of_mem_take hz))).1; omega⟩
  have hn2 : n ≤ 2048 := by have := (hdN_range (l.take 24) (fun z hz => hb z (List.mem_of_mem_take hz))).2; omega
  clear hv hE hb hN
  unfold HeadDone at HH
  simp only [hdrV] at HH
  rw [hh, hn, hc, str_nil] at HH
  rw [hn] at hcut HD
  generalize hdS (l.take 24) = sm at *
  have h24 : 24 ≤ l.length := by omega
  clear hh hn hc
  go_enter Tryd.func32, Tryd.ntmps32
  go_wp2_with fail
  refine (HH.out _ _ S.out).mono ?_
  rintro e w1 ⟨rfl, hbel1⟩
  have HB := hide (below_on hbel1 (box_hdr w1 ⟨#[]⟩ n sm).1)
  clear hbel1
  go_wp2
  exact ret_tmp4 2 3 4 5 rfl _ _ _ _ rfl rfl rfl rfl rfl (HD.out _ HB.out)

set_option maxRecDepth 100000 in
set_option maxHeartbeats 1000000 in
theorem get_body (w : World) (v : Value) (l : List Int) (hv : Bytes w v l) (hb : ∀ z ∈ l, Byte z) (hk : Ks w) (h : ¬ l.length < 24) (hh : hdE (l.take 24) = 0) (hcut : ¬ (l.length : Int) < 24 + hdN (l.take 24)) (hc : ¬ hdC (l.take 24) = []) :
    Calls Tryd.prog 32 #[v] w fun e w' => GetDone w l e w' := by
  obtain ⟨b, off, cap, rfl, hc1, hc2, -⟩ := hv.lies (by omega)
  have HH := hide (fun wx p (k : Bytes wx p (l.take 24)) => head_any wx p (l.take 24) k (fun z hz => hb z (List.mem_of_mem_take hz)))
  have S := hide (hv.take 24 (by omega))
  have HV := hide hv
  obtain ⟨n, hn⟩ : ∃ n : Nat, hdN (l.take 24) = n := ⟨(hdN (l.take 24)).toNat, by have := (hdN_range (l.take 24) (fun z hz => hb z (List.mem_of_mem_take hz))).1; omega⟩
  have hn2 : n ≤ 2048 := by have := (hdN_range (l.take 24) (fun z hz => hb z (List.mem_of_mem_take hz))).2; omega
  have hbl : bodyL l = (l.drop 24).take n := by unfold bodyL; rw [hn]; rfl
  have hlen : ((l.drop 24).take n).length = n := by simp; omega
  have hcs : (strOfNums (hdC (l.take 24))).toList.isEmpty = false := by
    rw [ByteArray.toList_eq, strOfNums_data]
    cases hq : hdC (l.take 24) with
    | nil => exact absurd hq hc
    | cons => rfl
  have h24 : 24 ≤ l.length := by omega
  have BD : Hid (∀ wx, Bytes wx (.slice (some ⟨b, off, none⟩) l.length cap) l → Bytes wx (.slice (if cap = 24 then some ⟨b, off, none⟩ else some ⟨b, off + 24, none⟩) (24 + n - 24) (cap - 24)) ((l.drop 24).take n)) := hide (fun wx k => by
    have := (k.drop 24 (by omega)).take n (by omega)
    rw [show 24 + n - 24 = n by omega]
    simpa [Addr.add] using this)
  have CK := hide (fun wx p (k : Bytes wx p ((l.drop 24).take n)) (j : Ks wx) => check_any wx p _ k j (by omega))
  change Hid (∀ wx p, Bytes wx p ((l.drop 24).take n) → Ks wx → Calls Tryd.prog 36 #[p] wx fun e w' => e = .returned (.int .u32 (chk ((l.drop 24).take n))) ∧ Below wx.heap.size wx w') at CK
  have CL := hide (fun wx p (k : Bytes wx p ((l.drop 24).take n)) => clone_any _ p wx k (by omega))
  have HK := hide hk
  by_cases hsum : chk (bodyL l) = hdS (l.take 24)
  · have hE : geE l = 0 := by unfold geE; rw [if_neg h, if_pos hh, if_neg hcut, if_neg hc, if_pos hsum]
    have HD : Hid (∀ v' w', Own w' w.heap.size v' ((l.drop 24).take n) → Below w.heap.size w w' → GetDone w l (.returned (.tuple #[.string (strOfNums (hdC (l.take 24))), v', .int .i64 (24 + n), .int .i64 0])) w') := hide (fun v' w' ho hbl' => by
      refine ⟨v', ?_, ?_, hbl'⟩
      · unfold geC geN
        rw [hE, if_pos rfl, if_pos (Or.inl rfl), hn]
      · unfold geB
        rw [if_pos hE, hbl]
        exact ho)
    rw [hbl] at hsum
    unfold HeadDone at HH
    simp only [hdrV] at HH
    rw [hh, hn, ← hsum] at HH
    rw [hn] at hcut
    clear hv hE hb hbl hh hn hc hk hsum
    generalize strOfNums (hdC (l.take 24)) = c at *
    generalize chk ((l.drop 24).take n) = sm at *
    generalize (l.drop 24).take n = body at *
    go_enter Tryd.func32, Tryd.ntmps32
    go_wp2_with fail
    refine (HH.out _ _ S.out).mono ?_
    rintro e w1 ⟨rfl, hbel1⟩
    have hx := box_hdr w1 c n sm
    go_upto_region 12 with fail
    have HB := hide (below_on hbel1 hx.1)
    have HC := hide hx.2
    clear hx hbel1
    generalize w1.alloc (.cells #[.string c, .int .i64 n, .int .u32 sm] 56) = W at *
    generalize w1.heap.size = g at *
    generalize hpv : Value.slice (if cap = 24 then some (⟨b, off, none⟩ : Addr) else some ⟨b, off + 24, none⟩) (24 + n - 24) (cap - 24) = pv at *
    clear hpv
    have HCC : Hid (∀ wx, Below W.heap.size W wx → Below W.heap.size W wx ∧ wx.cell? ⟨g, 2, none⟩ = some (.int .u32 sm)) := hide (fun wx h => ⟨h, (HC.out wx h).2.2⟩)
    go_region_held3 (fun wx => Below W.heap.size W wx ∧ wx.cell? ⟨g, 2, none⟩ = some (.int .u32 sm))
      (((with_reducible refine HCC.out _ ?_); (repeat (with_reducible first | exact hb3 | exact Below.refl _ _ | refine Below.drew ?_ | fail))))
      (first
        | (go_at_call 36; refine (CK.out _ _ (BD.out _ (HV.out.below (below_on HB.out (Below.refl _ _).drew))) (HK.out.on (below_on HB.out (Below.refl _ _).drew))).mono ?_; rintro e w3 ⟨rfl, hb3'⟩; have hb3 : Below W.heap.size W w3 := below_on (Below.refl _ _).drew hb3'))
    have HB3 := hide (below_on HB.out hb3)
    have HC3 : Hid (∀ wx, Below w3.heap.size w3 wx → Below w3.heap.size w3 wx ∧ wx.cell? ⟨g, 0, none⟩ = some (.string c)) := hide (fun wx h => ⟨h, (HC.out wx (below_on hb3 h)).1⟩)
    rename_i hHeld
    clear hHeld hb3 hb3'
    go_upto_region 14 with fail
    go_region_held3 (fun wx => Below w3.heap.size w3 wx ∧ wx.cell? ⟨g, 0, none⟩ = some (.string c))
      (((with_reducible refine HC3.out _ ?_); (repeat (with_reducible first | exact hb4 | exact Below.refl _ _ | refine Below.drew ?_ | fail))))
      (first
        | (go_at_call 41; refine (CL.out _ _ (BD.out _ (HV.out.below (below_on HB3.out (Below.refl _ _).drew)))).mono ?_; rintro e w4 ⟨v4, rfl, hown4, hb4'⟩; have hb4 : Below w3.heap.size w3 w4 := below_on (Below.refl _ _).drew hb4'))
    have HR := hide (HD.out v4 w4 (hown4.low HB3.out.size) (below_on HB3.out hb4))
    clear hown4 hb4 hb4'
    go_wp2
    exact ret_tmp4 2 3 4 5 rfl _ _ _ _ rfl rfl rfl rfl rfl HR.out
  · have hE : geE l = 7 := by unfold geE; rw [if_neg h, if_pos hh, if_neg hcut, if_neg hc, if_neg hsum]
    have hN : geN l = 24 + hdN (l.take 24) := by unfold geN; rw [if_pos (by omega)]
    have HD := hide (fun w' => getDone_bad (w := w) (w' := w') hE (by omega) hN)
    rw [hbl] at hsum
    unfold HeadDone at HH
    simp only [hdrV] at HH
    rw [hh, hn] at HH
    rw [hn] at hcut HD
    clear hv hE hb hbl hh hn hc hk hN
    generalize strOfNums (hdC (l.take 24)) = c at *
    have hne : (chk ((l.drop 24).take n) == hdS (l.take 24)) = false := beq_eq_false_iff_ne.2 hsum
    clear hsum
    generalize chk ((l.drop 24).take n) = ck at *
    generalize hdS (l.take 24) = sm at *
    generalize (l.drop 24).take n = body at *
    go_enter Tryd.func32, Tryd.ntmps32
    go_wp2_with fail
    refine (HH.out _ _ S.out).mono ?_
    rintro e w1 ⟨rfl, hbel1⟩
    have hx := box_hdr w1 c n sm
    go_upto_region 12 with fail
    have HB := hide (below_on hbel1 hx.1)
    have HC := hide hx.2
    clear hx hbel1
    generalize w1.alloc (.cells #[.string c, .int .i64 n, .int .u32 sm] 56) = W at *
    generalize w1.heap.size = g at *
    generalize hpv : Value.slice (if cap = 24 then some (⟨b, off, none⟩ : Addr) else some ⟨b, off + 24, none⟩) (24 + n - 24) (cap - 24) = pv at *
    clear hpv
    have HCC : Hid (∀ wx, Below W.heap.size W wx → Below W.heap.size W wx ∧ wx.cell? ⟨g, 2, none⟩ = some (.int .u32 sm)) := hide (fun wx h => ⟨h, (HC.out wx h).2.2⟩)
    go_region_held3 (fun wx => Below W.heap.size W wx ∧ wx.cell? ⟨g, 2, none⟩ = some (.int .u32 sm))
      (((with_reducible refine HCC.out _ ?_); (repeat (with_reducible first | exact hb3 | exact Below.refl _ _ | refine Below.drew ?_ | fail))))
      (first
        | (go_at_call 36; refine (CK.out _ _ (BD.out _ (HV.out.below (below_on HB.out (Below.refl _ _).drew))) (HK.out.on (below_on HB.out (Below.refl _ _).drew))).mono ?_; rintro e w3 ⟨rfl, hb3'⟩; have hb3 : Below W.heap.size W w3 := below_on (Below.refl _ _).drew hb3'))
    have HB3 := hide (below_on HB.out hb3)
    clear hb3
    go_wp2
    exact ret_tmp4 2 3 4 5 rfl _ _ _ _ rfl rfl rfl rfl rfl (HD.out _ HB3.out)

theorem fget_any (w : World) (v : Value) (l : List Int) (hv : Bytes w v l) (hb : ∀ z ∈ l, Byte z) (hk : Ks w) :
    Calls Tryd.prog 32 #[v] w fun e w' => GetDone w l e w' := by
  by_cases h : l.length < 24
  · exact get_short w v l hv h
  · by_cases hh : hdE (l.take 24) = 0
    · by_cases hcut : (l.length : Int) < 24 + hdN (l.take 24)
      · exact get_cut w v l hv hb h hh hcut
      · by_cases hc : hdC (l.take 24) = []
        · exact get_noname w v l hv hb h hh hcut hc
        · exact get_body w v l hv hb hk h hh hcut hc
    · exact get_bad w v l hv hb h hh

end Go.Proofs.YtnjbjgjhomfndaaDoor
