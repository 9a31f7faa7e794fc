/-
  What the document's Put does at this program, whatever the set and the coins.
-/
import Derived.Test.YtkemdfikcmgaaaaRefCoAdd
import Derived.Test.YtkemdfikcmgaaaaRefCoFind
import Derived.Test.YtkemdfikcmgaaaaRefCoTwice
import Derived.Test.YtkemdfikcmgaaaaRefCoAts
import Derived.Test.YtkemdfikcmgaaaaCoTwo
namespace Go.Proofs.Ytkemdfikcmgaaaa
open Go.RowKit

theorem rats_ps {w : World} {base : Nat} {v : Value} {L : List Cn} (h : RowOwn w base 47 33 v (L.map fun c => pC c.pt)) : PsAt w v (L.map Cn.pt) := by
  unfold PsAt
  rw [List.map_map]
  exact h.row
set_option maxRecDepth 100000 in
set_option maxHeartbeats 1000000 in
theorem rput_twice (w : World) (m : Nat) (L : List Cn) (v : Value) (hv : CnsAt w v L) (hok : ∀ c ∈ L, CnOk c) (hlen : L.length ≤ 1000) (hN : ¬ (L.map Cn.pt).Nodup) :
    Calls Try.prog 13 #[.pointer (some ⟨m, 0, none⟩), v] w fun e w' => e = .returned (.int .i64 12) ∧ Below w.heap.size w w' := by
  have CA := hide (rats_any L v w hv hok (by omega))
  have HT : Hid (∀ w1 v1, RowOwn w1 w.heap.size 47 33 v1 (L.map fun c => pC c.pt) → Calls Try.prog 30 #[v1] w1 fun e w' => e = .returned (.bool true) ∧ Below w1.heap.size w1 w') := hide (fun w1 v1 h =>
    rtwice_any _ v1 w1 (rats_ps h) (pts_ok hok) (by rw [List.length_map]; omega) true ⟨fun e => (by cases e), fun e => absurd e hN⟩)
  obtain ⟨a, cap, rfl, hc1, hc2⟩ := hv.form
  clear hv hok hlen hN
  go_enter Try.func13, Try.ntmps13
  go_wp2_with fail
  refine CA.out.mono ?_
  rintro e w1 ⟨v1, rfl, hb1, hr1⟩
  have HB1 := hide hb1
  have CT := hide (HT.out w1 v1 hr1)
  clear hb1 hr1 CA
  go_wp2_with fail
  refine CT.out.mono ?_
  rintro e w2 ⟨rfl, hb2⟩
  have R := hide (below_on HB1.out hb2)
  clear hb2
  go_wp2
  go_ret
  exact ⟨rfl, R.out⟩
/-- So far none is there. -/
def RPutI (w : World) (D L : List Cn) (i : Value) (wr : World) : Prop := ∃ j : Nat, j ≤ L.length ∧ i = .int .i64 j ∧ Below w.heap.size w wr ∧ ∀ p ∈ (L.take j).map Cn.pt, p ∉ D.map Cn.pt
/-- So far these are in. -/
def RPutJ (w : World) (A : Nat → Prop) (m : Nat) (D L : List Cn) (i : Value) (wr : World) : Prop := ∃ j : Nat, j ≤ L.length ∧ i = .int .i64 j ∧ Besides m m w wr ∧ ∃ D' : List Cn, D'.Perm (D ++ L.take j) ∧ SortC D' ∧ DocAt wr A m D'
set_option maxRecDepth 100000 in
set_option maxHeartbeats 1000000 in
theorem rput_any (w : World) (A : Nat → Prop) (m : Nat) (D : List Cn) (h : DocAt w A m D) (hs : SortC D) (hld : D.length ≤ 1000) (L : List Cn) (v : Value) (hv : Keeps (off m m) w fun w => CnsAt w v L) (hok : ∀ c ∈ L, CnOk c) (hlen : L.length ≤ 1000) (hN : (L.map Cn.pt).Nodup) :
    Calls Try.prog 13 #[.pointer (some ⟨m, 0, none⟩), v] w fun e w' =>
      ((∃ p ∈ L.map Cn.pt, p ∈ D.map Cn.pt) ∧ e = .returned (.int .i64 10) ∧ Below w.heap.size w w') ∨
      ((∀ p ∈ L.map Cn.pt, p ∉ D.map Cn.pt) ∧ e = .returned (.int .i64 0) ∧ Besides m m w w' ∧ ∃ D' : List Cn, D'.Perm (D ++ L) ∧ SortC D' ∧ DocAt w' (fun g => A g ∨ w.heap.size ≤ g) m D') := by
  have CA := hide (rats_any L v w hv.self hok (by omega))
  have HT : Hid (∀ w1 v1, RowOwn w1 w.heap.size 47 33 v1 (L.map fun c => pC c.pt) → Calls Try.prog 30 #[v1] w1 fun e w' => e = .returned (.bool false) ∧ Below w1.heap.size w1 w') := hide (fun w1 v1 h =>
    rtwice_any _ v1 w1 (rats_ps h) (pts_ok hok) (by rw [List.length_map]; omega) false ⟨fun _ => hN, fun _ => rfl⟩)
  have HDOC := hide h
  have HS := hide hs
  have HV := hide hv
  have HOK := hide hok
  have HN := hide hN
  have HLD : Hid (D.length ≤ 1000) := hide hld
  have HLL : Hid (L.length ≤ 1000) := hide hlen
  have HZ := hide zero_cn
  obtain ⟨a, cap, rfl, hc1, hc2⟩ := hv.self.form
  clear h hs hv hok hN hld hlen
  go_enter Try.func13, Try.ntmps13
  go_wp2_with fail
  refine CA.out.mono ?_
  rintro e w1 ⟨v1, rfl, hb1, hr1⟩
  have HB1 := hide hb1
  have CT := hide (HT.out w1 v1 hr1)
  clear hb1 hr1 CA HT
  go_wp2_with fail
  refine CT.out.mono ?_
  rintro e w2 ⟨rfl, hb2⟩
  have HB2 := hide (below_on HB1.out hb2)
  clear hb2 HB1 CT
  have HI0 : Hid (RPutI w2 D L (.int .i64 0) w2) := hide ⟨0, Nat.zero_le _, rfl, Below.refl _ _, by simp⟩
  go_wp2_with fail
  go_loopw [16] (fun i wr => RPutI w2 D L i wr) (fun i _ => L.length - (intOf i).toNat)
  case atStart => exact HI0.out
  case round =>
    clear HI0
    obtain ⟨j, hj, rfl, hB, hno⟩ := hrel
    have HB := hide (below_on HB2.out hB)
    have HBJ := hide hB
    have HNO := hide hno
    by_cases hlt : j < L.length
    · obtain ⟨x, hx⟩ : ∃ x, L[j]? = some x := ⟨_, List.getElem?_eq_getElem hlt⟩
      obtain ⟨b2, off2, rfl, hr⟩ := (HV.out.self.on HB.out).get hx
      have hxo := HOK.out x (List.mem_of_getElem? hx)
      have HXO := hide hxo
      have HX := hide hx
      have HXR := hide hr
      have HN1 : Hid ((Try.prog.info? 59).map (·.size) = some (cnC x).length) := hide (by rw [cnC_length hxo]; exact info_cn)
      have H1 : Hid (∀ u ∈ cnC x, u.oneCell' = true) := hide (cnC_one x)
      have HT : Hid (∀ w : World, (w.alloc (.cells coinZ 59)).there w.heap.size 0 (cnC x).length) := hide (fun w => by rw [cnC_length hxo]; exact cn_there w)
      have HIX : Hid ((Try.prog.info? 47).map (·.size) = some (pC x.pt).length) := hide (by rw [pC_length hxo.1]; exact info_pt)
      have hk1 : (j : Int) < (L.length : Int) := by omega
      have hzc := HZ.out wr
      clear hr hx hxo hB hno
      go_upto_region 6 with (first | (refine wpList_load_mid rfl 59 (.tmp 18) rfl b2 (off2 + j * 66) rfl (cnC x) _ HXR.out Try.underlying59 rfl HN1.out ?_) | (refine wp_store_row rfl 59 (.tmp 6) (.tmp 19) rfl wr.heap.size 0 (cnC x) rfl rfl (HT.out wr) HN1.out H1.out ?_))
      have hW : ((wr.alloc (.cells coinZ 59)).setCells wr.heap.size 0 (cnC x)).rangeAt wr.heap.size 0 (cnC x) := World.rangeAt_setCells_same _ _ _ _ (HT.out wr)
      have hB2 : Below wr.heap.size wr ((wr.alloc (.cells coinZ 59)).setCells wr.heap.size 0 (cnC x)) := below_sets (Nat.le_refl _) _ _ _ (below_new wr _)
      generalize (wr.alloc (.cells coinZ 59)).setCells wr.heap.size 0 (cnC x) = W at *
      have HRP := hide (cn_range hW HXO.out).1
      have HBW := hide (below_on HB.out hB2)
      have HBJ2 := hide (below_on HBJ.out hB2)
      obtain ⟨o, r, hl⟩ := looks D x.pt
      have hol := outC_length (hl.lock HDOC.out.ok)
      have HLO : Hid ((Try.prog.info? 50).map (·.size) = some (outC o).length) := hide (by rw [hol]; exact info_out)
      have HTO : Hid (∀ w : World, (w.alloc (.cells #[.int .u64 0, .int .u8 0, .int .u8 0, .int .u8 0, .int .u8 0, .int .u8 0, .int .u8 0, .int .u8 0, .int .u8 0, .int .u8 0, .int .u8 0, .int .u8 0, .int .u8 0, .int .u8 0, .int .u8 0, .int .u8 0, .int .u8 0, .int .u8 0, .int .u8 0, .int .u8 0, .int .u8 0, .int .u8 0, .int .u8 0, .int .u8 0, .int .u8 0, .int .u8 0, .int .u8 0, .int .u8 0, .int .u8 0, .int .u8 0, .int .u8 0, .int .u8 0, .int .u8 0] 50)).there w.heap.size 0 (outC o).length) := hide (fun w => by rw [hol]; exact o_there w)
      have HO1 := hide (outC_one o)
      have CF := hide (rfind_any W A m D (HDOC.out.on HBW.out) HS.out.nodup x.pt HXO.out.1 (by have := HLD.out; omega) o r hl)
      have HLK := hide hl
      clear hW hB2 HXR HN1 H1 HT hzc HB HBJ hl hol
      generalize wr.heap.size = gb at *
      generalize outC o = X at *
      go_wp2_with (refine wpList_load_mid rfl 47 (.tmp 22) rfl gb 0 rfl (pC x.pt) _ HRP.out Try.underlying47 rfl HIX.out ?_)
      refine CF.out.mono ?_
      rintro e W2 ⟨rfl, hb2⟩
      have HBW2 := hide (below_on HBW.out hb2)
      have HBJ3 := hide (below_on HBJ2.out hb2)
      clear hb2 CF HRP HBW HBJ2
      go_upto_region 7 with ((with_reducible show wpList _ _ _ (_ :: _) _ _); refine wp_store_row rfl 50 (.tmp 7) (.tmp 25) rfl W2.heap.size 0 X rfl rfl (HTO.out W2) HLO.out HO1.out ?_)
      have hb3 : Below W2.heap.size W2 ((W2.alloc (.cells #[.int .u64 0, .int .u8 0, .int .u8 0, .int .u8 0, .int .u8 0, .int .u8 0, .int .u8 0, .int .u8 0, .int .u8 0, .int .u8 0, .int .u8 0, .int .u8 0, .int .u8 0, .int .u8 0, .int .u8 0, .int .u8 0, .int .u8 0, .int .u8 0, .int .u8 0, .int .u8 0, .int .u8 0, .int .u8 0, .int .u8 0, .int .u8 0, .int .u8 0, .int .u8 0, .int .u8 0, .int .u8 0, .int .u8 0, .int .u8 0, .int .u8 0, .int .u8 0, .int .u8 0] 50)).setCells W2.heap.size 0 X) := below_sets (Nat.le_refl _) _ _ _ (below_new W2 _)
      generalize (W2.alloc (.cells #[.int .u64 0, .int .u8 0, .int .u8 0, .int .u8 0, .int .u8 0, .int .u8 0, .int .u8 0, .int .u8 0, .int .u8 0, .int .u8 0, .int .u8 0, .int .u8 0, .int .u8 0, .int .u8 0, .int .u8 0, .int .u8 0, .int .u8 0, .int .u8 0, .int .u8 0, .int .u8 0, .int .u8 0, .int .u8 0, .int .u8 0, .int .u8 0, .int .u8 0, .int .u8 0, .int .u8 0, .int .u8 0, .int .u8 0, .int .u8 0, .int .u8 0, .int .u8 0, .int .u8 0] 50)).setCells W2.heap.size 0 X = W4 at *
      have HBW4 := hide (below_on HBW2.out hb3)
      have HBJ4 := hide (below_on HBJ3.out hb3)
      clear hb3 HTO HO1 HLO HBW2 HBJ3
      cases r with
      | true =>
        have R : Hid (∃ p ∈ L.map Cn.pt, p ∈ D.map Cn.pt) := hide ⟨x.pt, mem_pt (List.mem_of_getElem? HX.out), HLK.out.is.1 rfl⟩
        go_wp2
        go_ret
        exact Or.inl ⟨R.out, rfl, HBW4.out⟩
      | false =>
        have hno : x.pt ∉ D.map Cn.pt := fun h => by have := HLK.out.is.2 h; cases this
        have R : Hid (RPutI w2 D L (.int .i64 ((j + 1 : Nat) : Int)) W4) := hide ⟨j + 1, by omega, rfl, HBJ4.out, by
          rw [take_more (f := Cn.pt) HX.out]
          intro p hp
          rcases List.mem_append.1 hp with h | h
          · exact HNO.out p h
          · rw [List.mem_singleton.1 h]; exact hno⟩
        clear hno
        go_wp2
        go_roundw
        case rel => first | exact R.out | ((repeat apply Exists.intro); exact ⟨R.out, rfl⟩)
        case measure => simp [intOf]; omega
    · have hk2 : (L.length : Int) ≤ (j : Int) := by omega
      rw [List.take_of_length_le (by omega)] at hno
      have HNA := hide hno
      obtain ⟨w3, rfl⟩ : ∃ u, u = wr := ⟨_, rfl⟩
      clear hB hno HBJ HNO
      have HJ0 : Hid (RPutJ w3 (fun g => A g ∨ w.heap.size ≤ g) m D L (.int .i64 0) w3) := hide ⟨0, Nat.zero_le _, rfl, .of_below (Below.refl _ _), D, by simp, HS.out, (HDOC.out.on HB.out).weak fun g h => Or.inl h⟩
      have HMB : Hid (m < w.heap.size) := hide HDOC.out.lt
      go_wp2_with fail
      go_loopw [31] (fun i wr => RPutJ w3 (fun g => A g ∨ w.heap.size ≤ g) m D L i wr) (fun i _ => L.length - (intOf i).toNat)
      case atStart => exact HJ0.out
      case round =>
        clear HJ0
        obtain ⟨q, hq, rfl, hbes, D', hp, hs', hdoc⟩ := hrel
        have HBES := hide hbes
        have HPD := hide (show D'.Perm (D ++ L.take q) ∧ SortC D' from ⟨hp, hs'⟩)
        have HDQ := hide hdoc
        have HBW := hide ((Besides.of_below (p := m) (q := m) HB.out).trans hbes)
        by_cases hlt2 : q < L.length
        · obtain ⟨x, hx⟩ : ∃ x, L[q]? = some x := ⟨_, List.getElem?_eq_getElem hlt2⟩
          have hvq := HV.out wr (fun g hg hP => HBW.out.block g hg hP.1 hP.2)
          obtain ⟨b2, off2, rfl, hr⟩ := CnsAt.get hvq hx
          have hxo := HOK.out x (List.mem_of_getElem? hx)
          have HXO := hide hxo
          have HX := hide hx
          have HXR := hide hr
          have HN1 : Hid ((Try.prog.info? 59).map (·.size) = some (cnC x).length) := hide (by rw [cnC_length hxo]; exact info_cn)
          have H1 : Hid (∀ u ∈ cnC x, u.oneCell' = true) := hide (cnC_one x)
          have HT : Hid (∀ w : World, (w.alloc (.cells coinZ 59)).there w.heap.size 0 (cnC x).length) := hide (fun w => by rw [cnC_length hxo]; exact cn_there w)
          have hk1 : (q : Int) < (L.length : Int) := by omega
          have hnp : x.pt ∉ D'.map Cn.pt := fun h => by
            have h1 := ((HPD.out.1.map Cn.pt).mem_iff).1 h
            rw [List.map_append] at h1
            rcases List.mem_append.1 h1 with h2 | h2
            · exact HNA.out x.pt (mem_pt (List.mem_of_getElem? hx)) h2
            · have h3 := new_pt (C := []) hx HN.out (by simp)
              exact h3 (by simpa using h2)
          have HNP := hide hnp
          have hzc := HZ.out wr
          clear hr hx hxo hbes hp hs' hdoc hnp hvq
          go_upto_region 13 with (first | (refine wpList_load_mid rfl 59 (.tmp 33) rfl b2 (off2 + q * 66) rfl (cnC x) _ HXR.out Try.underlying59 rfl HN1.out ?_) | (refine wp_store_row rfl 59 (.tmp 10) (.tmp 34) rfl wr.heap.size 0 (cnC x) rfl rfl (HT.out wr) HN1.out H1.out ?_))
          have hW : ((wr.alloc (.cells coinZ 59)).setCells wr.heap.size 0 (cnC x)).rangeAt wr.heap.size 0 (cnC x) := World.rangeAt_setCells_same _ _ _ _ (HT.out wr)
          have hB2 : Below wr.heap.size wr ((wr.alloc (.cells coinZ 59)).setCells wr.heap.size 0 (cnC x)) := below_sets (Nat.le_refl _) _ _ _ (below_new wr _)
          generalize (wr.alloc (.cells coinZ 59)).setCells wr.heap.size 0 (cnC x) = W at *
          have HRW := hide hW
          have HB3 := hide (HBES.out.on hB2)
          have HSZ : Hid (w.heap.size ≤ W.heap.size) := hide (Nat.le_trans HBW.out.size hB2.size)
          have hl2 : D'.length ≤ 5000 := by
            have := HPD.out.1.length_eq
            rw [List.length_append, List.length_take] at this
            have h1 := HLD.out
            have h2 := HLL.out
            omega
          have CA := hide (radd_any W _ m D' x (HDQ.out.on hB2) HPD.out.2 HXO.out HNP.out hl2)
          clear hW hB2 HXR H1 HT hzc hl2
          generalize wr.heap.size = gb at *
          go_wp2_with (refine wpList_load_mid rfl 59 (.tmp 10) rfl gb 0 rfl (cnC x) _ HRW.out Try.underlying59 rfl HN1.out ?_)
          refine CA.out.mono ?_
          rintro e W2 ⟨rfl, D2, hp2, hs2, hdoc, hbes⟩
          have R : Hid (RPutJ w3 (fun g => A g ∨ w.heap.size ≤ g) m D L (.int .i64 ((q + 1 : Nat) : Int)) W2) := hide ⟨q + 1, by omega, rfl, HB3.out.trans hbes, D2, by
            rw [cns_snoc HX.out, ← List.append_assoc]
            exact hp2.trans ((List.Perm.cons x HPD.out.1).trans (List.perm_append_singleton x (D ++ L.take q)).symm), hs2, hdoc.weak fun g h => Or.inr (Nat.le_trans HSZ.out h)⟩
          clear hp2 hs2 hdoc hbes CA
          go_wp2
          go_roundw
          case rel => first | exact R.out | ((repeat apply Exists.intro); exact ⟨R.out, rfl⟩)
          case measure => simp [intOf]; omega
        · have hk3 : (L.length : Int) ≤ (q : Int) := by omega
          rw [List.take_of_length_le (by omega)] at hp
          have HPE := hide hp
          clear hp hs' hdoc hbes
          go_wp2
          go_ret
          exact Or.inr ⟨HNA.out, rfl, HBW.out, D', HPE.out, HPD.out.2, HDQ.out⟩

end Go.Proofs.Ytkemdfikcmgaaaa
