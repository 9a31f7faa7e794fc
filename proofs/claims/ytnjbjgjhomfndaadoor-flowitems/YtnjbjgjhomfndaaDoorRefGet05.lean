/-
  What pappusref05.Get answers at this program: what is read of bytes, by the document.
-/
import Derived.Test.YtnjbjgjhomfndaaDoorFrGet
import Derived.Test.YtnjbjgjhomfndaaDoorRefHead05
import Derived.Test.YtnjbjgjhomfndaaDoorBoxHdr
import Derived.Test.YtnjbjgjhomfndaaDoorKit
import Derived.Test.YtnjbjgjhomfndaaDoorRefSha
namespace Go.Proofs.YtnjbjgjhomfndaaDoor
open Go.RowKit

set_option maxRecDepth 100000 in
theorem rget_short (w : World) (v : Value) (l : List Int) (hv : Bytes w v l) (h : l.length < 24) :
    Calls Tryd.prog 24 #[v] w fun e w' => GetDone w l e w' := by
  have hE : geE l = 4 := by unfold geE; rw [if_pos h]
  have HD := hide (getDone_bad (w := w) (w' := w) hE (by omega) (geN_bad (by omega) (by omega) (by omega)) (Below.refl _ _))
  obtain ⟨a, cap, rfl, hc1, hc2⟩ := hv.form
  clear hv hE
  go_enter Tryd.func24, Tryd.ntmps24
  go_wp2
  exact ret_tmp4 2 3 4 5 rfl _ _ _ _ rfl rfl rfl rfl rfl HD.out

set_option maxRecDepth 100000 in
set_option maxHeartbeats 1000000 in
theorem rget_bad (w : World) (v : Value) (l : List Int) (hv : Bytes w v l) (hb : ∀ z ∈ l, Byte z) (h : ¬ l.length < 24) (hh : ¬ hdE (l.take 24) = 0) :
    Calls Tryd.prog 24 #[v] w fun e w' => GetDone w l e w' := by
  have hE : geE l = hdE (l.take 24) := by unfold geE; rw [if_neg h, if_neg hh]
  have hk : hdE (l.take 24) = 5 ∨ hdE (l.take 24) = 6 ∨ hdE (l.take 24) = 2 := by
    unfold hdE at hh ⊢
    split <;> (try split) <;> (try split) <;> simp_all
  have HD := hide (fun w' => getDone_bad (w := w) (w' := w') hE hh (geN_bad (by omega) (by omega) (by omega)))
  obtain ⟨b, off, cap, rfl, hc1, hc2, -⟩ := hv.lies (by omega)
  have HH := hide (fun wx p (k : Bytes wx p (l.take 24)) => rhead_any wx p (l.take 24) k (fun z hz => hb z (List.mem_of_mem_take hz)))
  have S := hide (hv.take 24 (by omega))
  have hne : (hdE (l.take 24) == 0) = false := beq_eq_false_iff_ne.2 hh
  clear hv hE hb hk
  unfold HeadDone at HH
  simp only [hdrV] at HH
  generalize hdE (l.take 24) = z at *
  generalize strOfNums (hdC (l.take 24)) = c at *
  generalize hdN (l.take 24) = n at *
  generalize hdS (l.take 24) = sm at *
  have h24 : 24 ≤ l.length := by omega
  go_enter Tryd.func24, Tryd.ntmps24
  go_wp2_with fail
  refine (HH.out _ _ S.out).mono ?_
  rintro e w1 ⟨rfl, hbel1⟩
  have HB := hide (below_on hbel1 (box_rhdr w1 c n sm).1)
  clear hbel1
  go_wp2
  exact ret_tmp4 2 3 4 5 rfl _ _ _ _ rfl rfl rfl rfl rfl (HD.out _ HB.out)

set_option maxRecDepth 100000 in
set_option maxHeartbeats 1000000 in
theorem rget_cut (w : World) (v : Value) (l : List Int) (hv : Bytes w v l) (hb : ∀ z ∈ l, Byte z) (h : ¬ l.length < 24) (hh : hdE (l.take 24) = 0) (hcut : (l.length : Int) < 24 + hdN (l.take 24)) (hl : l.length ≤ 1000000) :
    Calls Tryd.prog 24 #[v] w fun e w' => GetDone w l e w' := by
  have hE : geE l = 4 := by unfold geE; rw [if_neg h, if_pos hh, if_pos hcut]
  have HD := hide (fun w' => getDone_bad (w := w) (w' := w') hE (by omega) (geN_bad (by omega) (by omega) (by omega)))
  obtain ⟨b, off, cap, rfl, hc1, hc2, -⟩ := hv.lies (by omega)
  have HH := hide (fun wx p (k : Bytes wx p (l.take 24)) => rhead_any wx p (l.take 24) k (fun z hz => hb z (List.mem_of_mem_take hz)))
  have S := hide (hv.take 24 (by omega))
  have HV := hide hv
  obtain ⟨n, hn⟩ : ∃ n : Nat, hdN (l.take 24) = n := ⟨(hdN (l.take 24)).toNat, by have := (hdN_range (l.take 24) (fun z hz => hb z (List.mem_of_mem_take hz))).1; omega⟩
  have hn2 : n ≤ 2048 := by have := (hdN_range (l.take 24) (fun z hz => hb z (List.mem_of_mem_take hz))).2; omega
  clear hv hE hb
  unfold HeadDone at HH
  simp only [hdrV] at HH
  rw [hh, hn] at HH
  rw [hn] at hcut
  have hcut' : (l.length : Int) - 24 < (n : Int) := by omega
  generalize strOfNums (hdC (l.take 24)) = c at *
  generalize hdS (l.take 24) = sm at *
  have h24 : 24 ≤ l.length := by omega
  clear hh hn
  go_enter Tryd.func24, Tryd.ntmps24
  go_wp2_with fail
  refine (HH.out _ _ S.out).mono ?_
  rintro e w1 ⟨rfl, hbel1⟩
  have HB := hide (below_on hbel1 (box_rhdr w1 c n sm).1)
  clear hbel1
  go_wp2
  exact ret_tmp4 2 3 4 5 rfl _ _ _ _ rfl rfl rfl rfl rfl (HD.out _ HB.out)

set_option maxRecDepth 100000 in
set_option maxHeartbeats 1000000 in
theorem rget_body (w : World) (v : Value) (l : List Int) (hv : Bytes w v l) (hb : ∀ z ∈ l, Byte z) (h : ¬ l.length < 24) (hh : hdE (l.take 24) = 0) (hcut : ¬ (l.length : Int) < 24 + hdN (l.take 24)) (hl : l.length ≤ 1000000) :
    Calls Tryd.prog 24 #[v] w fun e w' => GetDone w l e w' := by
  obtain ⟨b, off, cap, rfl, hc1, hc2, -⟩ := hv.lies (by omega)
  have HH := hide (fun wx p (k : Bytes wx p (l.take 24)) => rhead_any wx p (l.take 24) k (fun z hz => hb z (List.mem_of_mem_take hz)))
  have S := hide (hv.take 24 (by omega))
  have HV := hide hv
  obtain ⟨n, hn⟩ : ∃ n : Nat, hdN (l.take 24) = n := ⟨(hdN (l.take 24)).toNat, by have := (hdN_range (l.take 24) (fun z hz => hb z (List.mem_of_mem_take hz))).1; omega⟩
  have hn2 : n ≤ 2048 := by have := (hdN_range (l.take 24) (fun z hz => hb z (List.mem_of_mem_take hz))).2; omega
  have hbl : bodyL l = (l.drop 24).take n := by unfold bodyL; rw [hn]; rfl
  have hlen : ((l.drop 24).take n).length = n := by simp; omega
  have h24 : 24 ≤ l.length := by omega
  obtain ⟨a1, cp1, hrun, hbs⟩ := cut_of (some ⟨b, off, none⟩) l.length cap 24 (24 + n) (by omega) (by omega) hc1
  have ecast : ((24 + n : Nat) : Int) = 24 + (n : Int) := by omega
  rw [ecast] at hrun
  have HRUN := hide hrun
  have BD := hide (fun wx k => hbs wx l k)
  rw [show 24 + n - 24 = n by omega] at HRUN BD
  clear hrun hbs ecast
  have CK := hide (fun wx p (k : Bytes wx p ((l.drop 24).take n)) => rcheck_any wx p _ k (by omega))
  change Hid (∀ wx p, Bytes wx p ((l.drop 24).take n) → Calls Tryd.prog 19 #[p] wx fun e w' => e = .returned (.int .u32 (chk ((l.drop 24).take n))) ∧ Below wx.heap.size wx w') at CK
  have HLN := hide hlen
  have hcutn : ¬ (l.length : Int) - 24 < (n : Int) := by omega
  have hE : geE l = if hdC (l.take 24) = [] then 8 else if chk ((l.drop 24).take n) = hdS (l.take 24) then 0 else 7 := by
    unfold geE
    rw [if_neg h, if_pos hh, if_neg hcut, hbl]
  have hN : geN l = 24 + n := by
    unfold geN
    rw [if_pos (by rw [hE]; split <;> (try split) <;> simp), hn]
  have HBAD8 : Hid (hdC (l.take 24) = [] → ∀ w', Below w.heap.size w w' → GetDone w l (.returned (.tuple #[.string ⟨#[]⟩, .slice none 0 0, .int .i64 (24 + n), .int .i64 8])) w') := hide (fun hc w' hb => getDone_bad (by rw [hE, if_pos hc]) (by omega) hN hb)
  have HBAD7 : Hid (¬ hdC (l.take 24) = [] → ¬ chk ((l.drop 24).take n) = hdS (l.take 24) → ∀ w', Below w.heap.size w w' → GetDone w l (.returned (.tuple #[.string ⟨#[]⟩, .slice none 0 0, .int .i64 (24 + n), .int .i64 7])) w') := hide (fun hc hq w' hb => getDone_bad (by rw [hE, if_neg hc, if_neg hq]) (by omega) hN hb)
  have HGOOD : Hid (¬ hdC (l.take 24) = [] → chk ((l.drop 24).take n) = hdS (l.take 24) → ∀ v' w', Own w' w.heap.size v' ((l.drop 24).take n) → Below w.heap.size w w' → GetDone w l (.returned (.tuple #[.string (strOfNums (hdC (l.take 24))), v', .int .i64 (24 + n), .int .i64 0])) w') := hide (fun hc hq v' w' ho hbl' => by
    have hE0 : geE l = 0 := by rw [hE, if_neg hc, if_pos hq]
    refine ⟨v', ?_, ?_, hbl'⟩
    · unfold geC
      rw [hN, hE0, if_pos rfl]
    · unfold geB
      rw [if_pos hE0, hbl]
      exact ho)
  have hcs : hdC (l.take 24) = [] ∨ (¬ hdC (l.take 24) = [] ∧ (strOfNums (hdC (l.take 24))).toList.isEmpty = false) := by
    rw [ByteArray.toList_eq, strOfNums_data]
    cases hq : hdC (l.take 24) with
    | nil => exact Or.inl rfl
    | cons => exact Or.inr ⟨by simp, rfl⟩
  unfold HeadDone at HH
  simp only [hdrV] at HH
  rw [hh, hn] at HH
  clear hv hE hb hbl hh hn hcut hN hlen
  rcases hcs with hc | ⟨hc, hcs⟩
  · rw [hc, str_nil] at HH
    have HD := hide (HBAD8.out hc)
    clear hc HGOOD HBAD7 HBAD8
    generalize hdS (l.take 24) = sm at *
    generalize (l.drop 24).take n = body at *
    go_enter Tryd.func24, Tryd.ntmps24
    go_wp2_with fail
    refine (HH.out _ _ S.out).mono ?_
    rintro e w1 ⟨rfl, hbel1⟩
    have hx := box_rhdr w1 ⟨#[]⟩ n sm
    go_upto_region 9 with fail
    have HB := hide (below_on hbel1 hx.1)
    have HC := hide hx.2
    have HG1 : Hid (w.heap.size ≤ w1.heap.size) := hide hbel1.size
    clear hx hbel1
    generalize w1.alloc (.cells #[.string ⟨#[]⟩, .int .i64 n, .int .u32 sm] 81) = W at *
    generalize w1.heap.size = g at *
    go_wp2_with (first | (refine wp_mid rfl (.tmp 32) (.const (.int .i64 24)) (.tmp 33) rfl _ _ _ _ rfl rfl rfl HRUN.out ?_) | (at_builtin; refine wp_append rfl (.tmp 31) (.tmp 34) rfl W.heap.size _ [] rfl (Own.made _ _ (Nat.le_refl _)) _ body rfl (BD.out _ (HV.out.below (below_on HB.out ((Below.refl _ _).alloc (Nat.le_refl _) _)))) ?c1 ?c2 ?_))
    case c1 => have := HLN.out; simp; omega
    case c2 => simp
    intro v3 w3 hown3 hbel3
    have hb3 : Below W.heap.size W w3 := ((Below.refl W.heap.size W).alloc (Nat.le_refl _) _).trans hbel3
    obtain ⟨c0, c1, c2⟩ := HC.out _ hb3
    have HB3 := hide (below_on HB.out hb3)
    have HO3 := hide hown3
    have HWG := hide HB.out.size
    have HW3 := hide hb3
    clear hown3 hbel3 hb3
    go_wp2
    exact ret_tmp4 2 3 4 5 rfl _ _ _ _ rfl rfl rfl rfl rfl (HD.out _ HB3.out)
  · have HG := hide (HGOOD.out hc)
    have H7 := hide (HBAD7.out hc)
    clear hc HGOOD HBAD7 HBAD8
    generalize strOfNums (hdC (l.take 24)) = c at *
    generalize chk ((l.drop 24).take n) = ck at *
    generalize hdS (l.take 24) = sm at *
    generalize (l.drop 24).take n = body at *
    go_enter Tryd.func24, Tryd.ntmps24
    go_wp2_with fail
    refine (HH.out _ _ S.out).mono ?_
    rintro e w1 ⟨rfl, hbel1⟩
    have hx := box_rhdr w1 c n sm
    go_upto_region 9 with fail
    have HB := hide (below_on hbel1 hx.1)
    have HC := hide hx.2
    have HG1 : Hid (w.heap.size ≤ w1.heap.size) := hide hbel1.size
    clear hx hbel1
    generalize w1.alloc (.cells #[.string c, .int .i64 n, .int .u32 sm] 81) = W at *
    generalize w1.heap.size = g at *
    go_wp2_with (first | (refine wp_mid rfl (.tmp 32) (.const (.int .i64 24)) (.tmp 33) rfl _ _ _ _ rfl rfl rfl HRUN.out ?_) | (at_builtin; refine wp_append rfl (.tmp 31) (.tmp 34) rfl W.heap.size _ [] rfl (Own.made _ _ (Nat.le_refl _)) _ body rfl (BD.out _ (HV.out.below (below_on HB.out ((Below.refl _ _).alloc (Nat.le_refl _) _)))) ?c1 ?c2 ?_))
    case c1 => have := HLN.out; simp; omega
    case c2 => simp
    intro v3 w3 hown3 hbel3
    have hb3 : Below W.heap.size W w3 := ((Below.refl W.heap.size W).alloc (Nat.le_refl _) _).trans hbel3
    obtain ⟨c0, c1, c2⟩ := HC.out _ hb3
    have HB3 := hide (below_on HB.out hb3)
    have HO3 := hide hown3
    have HWG := hide HB.out.size
    have HW3 := hide hb3
    clear hown3 hbel3 hb3
    go_upto_region 12 with fail
    have HC3 : Hid (∀ wx, Below w3.heap.size w3 wx → Below w3.heap.size w3 wx ∧ wx.cell? ⟨g, 2, none⟩ = some (.int .u32 sm)) := hide (fun wx h => ⟨h, (HC.out wx (below_on HW3.out h)).2.2⟩)
    clear c0 c1 c2
    go_region_held3 (fun wx => Below w3.heap.size w3 wx ∧ wx.cell? ⟨g, 2, none⟩ = some (.int .u32 sm))
      (((with_reducible refine HC3.out _ ?_); (repeat (with_reducible first | exact hb4 | exact Below.refl _ _ | refine Below.drew ?_ | fail))))
      (first
        | (go_at_call 19; refine (CK.out _ _ (HO3.out.bytes.below (Below.refl _ _).drew)).mono ?_; rintro e w4 ⟨rfl, hb4'⟩; have hb4 : Below w3.heap.size w3 w4 := below_on (Below.refl _ _).drew hb4'))
    have HB4 := hide (below_on HB3.out hb4)
    have HO4 := hide ((HO3.out.on hb4).low HWG.out)
    obtain ⟨d0, -, -⟩ := HC.out w4 (below_on HW3.out hb4)
    rename_i hHeld
    clear hHeld hb4 hb4'
    by_cases hsum : ck = sm
    · subst hsum
      have HR := hide (HG.out rfl v3 w4 HO4.out HB4.out)
      go_wp2
      exact ret_tmp4 2 3 4 5 rfl _ _ _ _ rfl rfl rfl rfl rfl HR.out
    · have hne : (ck == sm) = false := beq_eq_false_iff_ne.2 hsum
      have HR := hide (H7.out hsum w4 HB4.out)
      clear hsum
      go_wp2
      exact ret_tmp4 2 3 4 5 rfl _ _ _ _ rfl rfl rfl rfl rfl HR.out

theorem rfget_any (w : World) (v : Value) (l : List Int) (hv : Bytes w v l) (hb : ∀ z ∈ l, Byte z) (hl : l.length ≤ 1000000) :
    Calls Tryd.prog 24 #[v] w fun e w' => GetDone w l e w' := by
  by_cases h : l.length < 24
  · exact rget_short w v l hv h
  · by_cases hh : hdE (l.take 24) = 0
    · by_cases hcut : (l.length : Int) < 24 + hdN (l.take 24)
      · exact rget_cut w v l hv hb h hh hcut hl
      · exact rget_body w v l hv hb h hh hcut hl
    · exact rget_bad w v l hv hb h hh

end Go.Proofs.YtnjbjgjhomfndaaDoor
