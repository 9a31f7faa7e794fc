/-
  What the document's Take does at this program, whatever the set and the points.
-/
import Derived.Test.YtkemdfikcmgaaaaRefCoAdd
import Derived.Test.YtkemdfikcmgaaaaRefCoFind
import Derived.Test.YtkemdfikcmgaaaaRefCoTwice
import Derived.Test.YtkemdfikcmgaaaaCoTwo
namespace Go.Proofs.Ytkemdfikcmgaaaa
open Go.RowKit

set_option maxRecDepth 100000 in
set_option maxHeartbeats 1000000 in
theorem rtake_twice (w : World) (m : Nat) (L : List Pt) (v : Value) (hv : PsAt w v L) (hok : ∀ p ∈ L, PtOk p) (hlen : L.length ≤ 1000) (hN : ¬ L.Nodup) :
    Calls Try.prog 15 #[.pointer (some ⟨m, 0, none⟩), v] w fun e w' => e = .returned (.tuple #[.slice none 0 0, .int .i64 12]) ∧ Below w.heap.size w w' := by
  have CT := hide (rtwice_any L v w hv hok (by omega) true ⟨fun e => (by cases e), fun e => absurd e hN⟩)
  obtain ⟨a, cap, rfl, hc1, hc2⟩ := hv.form
  clear hv hok hlen hN
  go_enter Try.func15, Try.ntmps15
  go_wp2_with fail
  refine CT.out.mono ?_
  rintro e w2 ⟨rfl, hb2⟩
  have R := hide hb2
  clear hb2
  go_wp2
  go_ret2
  exact ⟨rfl, R.out⟩
/-- So far all were there. -/
def RTakI (w : World) (base : Nat) (D : List Cn) (L : List Pt) (v i : Value) (wr : World) : Prop :=
  ∃ j : Nat, j ≤ L.length ∧ i = .int .i64 j ∧ Below w.heap.size w wr ∧ ∃ M : List Cn, M.map Cn.pt = L.take j ∧ (∀ c ∈ M, c ∈ D) ∧ RowOwn wr base 50 33 v (outsC M)
/-- So far these stay. -/
def RTakJ (w : World) (base : Nat) (D : List Cn) (L : List Pt) (v i : Value) (wr : World) : Prop :=
  ∃ j : Nat, j ≤ D.length ∧ i = .int .i64 j ∧ Below w.heap.size w wr ∧ RowOwn wr base 59 66 v ((dropPts (D.take j) L).map cnC)
/-- So far: is it among them? -/
def RTakG (w : World) (L : List Pt) (x : Pt) (d i : Value) (wr : World) : Prop :=
  ∃ q : Nat, q ≤ L.length ∧ i = .int .i64 q ∧ Below w.heap.size w wr ∧ ∃ r : Bool, d = .bool r ∧ (r = true ↔ x ∈ L.take q)
theorem dropPts_len (C : List Cn) (l : List Pt) : (dropPts C l).length ≤ C.length := List.length_filter_le _ _
theorem drop_snoc {D : List Cn} {j : Nat} {x : Cn} (hx : D[j]? = some x) (L : List Pt) : dropPts (D.take (j + 1)) L = dropPts (D.take j) L ++ (if x.pt ∈ L then [] else [x]) := by
  rw [cns_snoc hx]
  unfold dropPts
  rw [List.filter_append]
  congr 1
  by_cases h : x.pt ∈ L
  · simp [List.filter, h]
  · simp [List.filter, h]
set_option maxRecDepth 100000 in
set_option maxHeartbeats 1000000 in
theorem rtake_any (w : World) (A : Nat → Prop) (m : Nat) (D : List Cn) (h : DocAt w A m D) (hs : SortC D) (hld : D.length ≤ 1000) (L : List Pt) (v : Value) (hv : PsAt w v L) (hok : ∀ p ∈ L, PtOk p) (hlen : L.length ≤ 1000) (hN : L.Nodup) :
    Calls Try.prog 15 #[.pointer (some ⟨m, 0, none⟩), v] w fun e w' =>
      ((∃ p ∈ L, p ∉ D.map Cn.pt) ∧ e = .returned (.tuple #[.slice none 0 0, .int .i64 9]) ∧ Below w.heap.size w w') ∨
      ((∀ p ∈ L, p ∈ D.map Cn.pt) ∧ ∃ v' M, e = .returned (.tuple #[v', .int .i64 0]) ∧ M.map Cn.pt = L ∧ (∀ c ∈ M, c ∈ D) ∧ RowAt w' 33 v' (outsC M) ∧ (∀ g, v'.ownBlock = some g → w.heap.size ≤ g) ∧ Besides m m w w' ∧ DocAt w' (fun g => w.heap.size ≤ g) m (dropPts D L)) := by
  have CT := hide (rtwice_any L v w hv hok (by omega) false ⟨fun _ => hN, fun _ => rfl⟩)
  have HDOC := hide h
  have HS := hide hs
  have HV := hide hv
  have HOK := hide hok
  have HLD : Hid (D.length ≤ 1000) := hide hld
  have HLL : Hid (L.length ≤ 1000) := hide hlen
  have HZ := hide zero_cn
  obtain ⟨a, cap, rfl, hc1, hc2⟩ := hv.form
  clear h hs hv hok hN hld hlen
  go_enter Try.func15, Try.ntmps15
  go_wp2_with fail
  refine CT.out.mono ?_
  rintro e w1 ⟨rfl, hb1⟩
  have HB1 := hide hb1
  have HI0 : Hid (RTakI w1 w1.heap.size D L (.slice none 0 0) (.int .i64 0) w1) := hide ⟨0, Nat.zero_le _, rfl, Below.refl _ _, [], by simp, (fun _ h => by cases h), RowOwn.nil _ _ _ _⟩
  clear hb1 CT
  go_wp2_with fail
  go_loopw [6, 21] (fun v i wr => RTakI w1 w1.heap.size D L v i wr) (fun _ i _ => L.length - (intOf i).toNat)
  case atStart => exact HI0.out
  case round =>
    clear HI0
    obtain ⟨j, hj, rfl, hB, M, hM, hMD, hrow⟩ := hrel
    have HB := hide (below_on HB1.out hB)
    have HBJ := hide hB
    have HM := hide hM
    have HMD := hide hMD
    have HROW := hide hrow
    by_cases hlt : j < L.length
    · obtain ⟨x, hx⟩ : ∃ x, L[j]? = some x := ⟨_, List.getElem?_eq_getElem hlt⟩
      obtain ⟨b2, off2, rfl, hr⟩ := (HV.out.on HB.out).get hx
      have hxo := HOK.out x (List.mem_of_getElem? hx)
      have HXO := hide hxo
      have HX := hide hx
      have HXR := hide hr
      have HN1 : Hid ((Try.prog.info? 47).map (·.size) = some (pC x).length) := hide (by rw [pC_length hxo]; exact info_pt)
      have H1 : Hid (∀ u ∈ pC x, u.oneCell' = true) := hide (pC_one x)
      have HT : Hid (∀ w : World, (w.alloc (.cells #[.int .u8 0, .int .u8 0, .int .u8 0, .int .u8 0, .int .u8 0, .int .u8 0, .int .u8 0, .int .u8 0, .int .u8 0, .int .u8 0, .int .u8 0, .int .u8 0, .int .u8 0, .int .u8 0, .int .u8 0, .int .u8 0, .int .u8 0, .int .u8 0, .int .u8 0, .int .u8 0, .int .u8 0, .int .u8 0, .int .u8 0, .int .u8 0, .int .u8 0, .int .u8 0, .int .u8 0, .int .u8 0, .int .u8 0, .int .u8 0, .int .u8 0, .int .u8 0, .int .u32 0] 47)).there w.heap.size 0 (pC x).length) := hide (fun w => by rw [pC_length hxo]; exact p_there w)
      have hk1 : (j : Int) < (L.length : Int) := by omega
      clear hr hx hxo hB hM hMD hrow
      go_upto_region 7 with (first | (refine wpList_load_mid rfl 47 (.tmp 23) rfl b2 (off2 + j * 33) rfl (pC x) _ HXR.out Try.underlying47 rfl HN1.out ?_) | (refine wp_store_row rfl 47 (.tmp 8) (.tmp 24) rfl wr.heap.size 0 (pC x) rfl rfl (HT.out wr) HN1.out H1.out ?_))
      have hW : ((wr.alloc (.cells #[.int .u8 0, .int .u8 0, .int .u8 0, .int .u8 0, .int .u8 0, .int .u8 0, .int .u8 0, .int .u8 0, .int .u8 0, .int .u8 0, .int .u8 0, .int .u8 0, .int .u8 0, .int .u8 0, .int .u8 0, .int .u8 0, .int .u8 0, .int .u8 0, .int .u8 0, .int .u8 0, .int .u8 0, .int .u8 0, .int .u8 0, .int .u8 0, .int .u8 0, .int .u8 0, .int .u8 0, .int .u8 0, .int .u8 0, .int .u8 0, .int .u8 0, .int .u8 0, .int .u32 0] 47)).setCells wr.heap.size 0 (pC x)).rangeAt wr.heap.size 0 (pC x) := World.rangeAt_setCells_same _ _ _ _ (HT.out wr)
      have hB2 : Below wr.heap.size wr ((wr.alloc (.cells #[.int .u8 0, .int .u8 0, .int .u8 0, .int .u8 0, .int .u8 0, .int .u8 0, .int .u8 0, .int .u8 0, .int .u8 0, .int .u8 0, .int .u8 0, .int .u8 0, .int .u8 0, .int .u8 0, .int .u8 0, .int .u8 0, .int .u8 0, .int .u8 0, .int .u8 0, .int .u8 0, .int .u8 0, .int .u8 0, .int .u8 0, .int .u8 0, .int .u8 0, .int .u8 0, .int .u8 0, .int .u8 0, .int .u8 0, .int .u8 0, .int .u8 0, .int .u8 0, .int .u32 0] 47)).setCells wr.heap.size 0 (pC x)) := below_sets (Nat.le_refl _) _ _ _ (below_new wr _)
      generalize (wr.alloc (.cells #[.int .u8 0, .int .u8 0, .int .u8 0, .int .u8 0, .int .u8 0, .int .u8 0, .int .u8 0, .int .u8 0, .int .u8 0, .int .u8 0, .int .u8 0, .int .u8 0, .int .u8 0, .int .u8 0, .int .u8 0, .int .u8 0, .int .u8 0, .int .u8 0, .int .u8 0, .int .u8 0, .int .u8 0, .int .u8 0, .int .u8 0, .int .u8 0, .int .u8 0, .int .u8 0, .int .u8 0, .int .u8 0, .int .u8 0, .int .u8 0, .int .u8 0, .int .u8 0, .int .u32 0] 47)).setCells wr.heap.size 0 (pC x) = W at *
      have HRP := hide hW
      have HBW := hide (below_on HB.out hB2)
      have HBJ2 := hide (below_on HBJ.out hB2)
      have HROW2 := hide (HROW.out.move (w1 := W) fun g _ hl => hB2.block g hl)
      obtain ⟨o, r, hl⟩ := looks D x
      have hol := outC_length (hl.lock HDOC.out.ok)
      have HOL : Hid ((outC o).length = 33) := hide hol
      have HLO : Hid ((Try.prog.info? 50).map (·.size) = some (outC o).length) := hide (by rw [hol]; exact info_out)
      have HTO : Hid (∀ w : World, (w.alloc (.cells #[.int .u64 0, .int .u8 0, .int .u8 0, .int .u8 0, .int .u8 0, .int .u8 0, .int .u8 0, .int .u8 0, .int .u8 0, .int .u8 0, .int .u8 0, .int .u8 0, .int .u8 0, .int .u8 0, .int .u8 0, .int .u8 0, .int .u8 0, .int .u8 0, .int .u8 0, .int .u8 0, .int .u8 0, .int .u8 0, .int .u8 0, .int .u8 0, .int .u8 0, .int .u8 0, .int .u8 0, .int .u8 0, .int .u8 0, .int .u8 0, .int .u8 0, .int .u8 0, .int .u8 0] 50)).there w.heap.size 0 (outC o).length) := hide (fun w => by rw [hol]; exact o_there w)
      have HO1 := hide (outC_one o)
      have CF := hide (rfind_any W A m D (HDOC.out.on HBW.out) HS.out.nodup x HXO.out (by have := HLD.out; omega) o r hl)
      have HLK := hide hl
      clear hW hB2 HXR H1 HT HB HBJ HROW hl hol
      generalize wr.heap.size = gb at *
      generalize hX : outC o = X at *
      have HXE := hide hX
      clear hX
      go_wp2_with (refine wpList_load_mid rfl 47 (.tmp 8) rfl gb 0 rfl (pC x) _ HRP.out Try.underlying47 rfl HN1.out ?_)
      refine CF.out.mono ?_
      rintro e W2 ⟨rfl, hb2⟩
      have HBW2 := hide (below_on HBW.out hb2)
      have HBJ3 := hide (below_on HBJ2.out hb2)
      have HROW3 := hide (HROW2.out.move (w1 := W2) fun g _ hl => hb2.block g hl)
      clear hb2 CF HRP HBW HBJ2 HROW2
      go_upto_region 8 with ((with_reducible show wpList _ _ _ (_ :: _) _ _); refine wp_store_row rfl 50 (.tmp 9) (.tmp 29) rfl W2.heap.size 0 X rfl rfl (HTO.out W2) HLO.out HO1.out ?_)
      have hRX : ((W2.alloc (.cells #[.int .u64 0, .int .u8 0, .int .u8 0, .int .u8 0, .int .u8 0, .int .u8 0, .int .u8 0, .int .u8 0, .int .u8 0, .int .u8 0, .int .u8 0, .int .u8 0, .int .u8 0, .int .u8 0, .int .u8 0, .int .u8 0, .int .u8 0, .int .u8 0, .int .u8 0, .int .u8 0, .int .u8 0, .int .u8 0, .int .u8 0, .int .u8 0, .int .u8 0, .int .u8 0, .int .u8 0, .int .u8 0, .int .u8 0, .int .u8 0, .int .u8 0, .int .u8 0, .int .u8 0] 50)).setCells W2.heap.size 0 X).rangeAt W2.heap.size 0 X := World.rangeAt_setCells_same _ _ _ _ (HTO.out W2)
      have hb3 : Below W2.heap.size W2 ((W2.alloc (.cells #[.int .u64 0, .int .u8 0, .int .u8 0, .int .u8 0, .int .u8 0, .int .u8 0, .int .u8 0, .int .u8 0, .int .u8 0, .int .u8 0, .int .u8 0, .int .u8 0, .int .u8 0, .int .u8 0, .int .u8 0, .int .u8 0, .int .u8 0, .int .u8 0, .int .u8 0, .int .u8 0, .int .u8 0, .int .u8 0, .int .u8 0, .int .u8 0, .int .u8 0, .int .u8 0, .int .u8 0, .int .u8 0, .int .u8 0, .int .u8 0, .int .u8 0, .int .u8 0, .int .u8 0] 50)).setCells W2.heap.size 0 X) := below_sets (Nat.le_refl _) _ _ _ (below_new W2 _)
      generalize (W2.alloc (.cells #[.int .u64 0, .int .u8 0, .int .u8 0, .int .u8 0, .int .u8 0, .int .u8 0, .int .u8 0, .int .u8 0, .int .u8 0, .int .u8 0, .int .u8 0, .int .u8 0, .int .u8 0, .int .u8 0, .int .u8 0, .int .u8 0, .int .u8 0, .int .u8 0, .int .u8 0, .int .u8 0, .int .u8 0, .int .u8 0, .int .u8 0, .int .u8 0, .int .u8 0, .int .u8 0, .int .u8 0, .int .u8 0, .int .u8 0, .int .u8 0, .int .u8 0, .int .u8 0, .int .u8 0] 50)).setCells W2.heap.size 0 X = W4 at *
      have HBW4 := hide (below_on HBW2.out hb3)
      have HBJ4 := hide (below_on HBJ3.out hb3)
      have HROW4 := hide (HROW3.out.move (w1 := W4) fun g _ hl => hb3.block g hl)
      have HRX := hide hRX
      clear hb3 hRX HTO HBW2 HBJ3 HROW3
      generalize W2.heap.size = gx at *
      cases r with
      | false =>
        have hno : x ∉ D.map Cn.pt := fun h => by have := HLK.out.is.2 h; cases this
        have R : Hid (∃ p ∈ L, p ∉ D.map Cn.pt) := hide ⟨x, List.mem_of_getElem? HX.out, hno⟩
        clear hno
        go_wp2
        go_ret2
        exact Or.inl ⟨R.out, rfl, HBW4.out⟩
      | true =>
        obtain ⟨d, hd, hdx, hdo⟩ : ∃ d ∈ D, d.pt = x ∧ d.out = o := by
          rcases HLK.out with ⟨-, h⟩ | ⟨h, -⟩
          · exact h
          · cases h
        have HD1 := hide (show d ∈ D ∧ d.pt = x ∧ d.out = o from ⟨hd, hdx, hdo⟩)
        clear hd hdx hdo
        have hbn := below_new W4 (.cells X.toArray 50)
        have HNEW := hide (range_new W4 X 50)
        have HROW5 := hide (HROW4.out.move (w1 := W4.alloc (.cells X.toArray 50)) fun g _ hl => hbn.block g hl)
        have hw4 : w1.heap.size ≤ (W4.alloc (.cells X.toArray 50)).heap.size := Nat.le_trans HBJ4.out.size hbn.size
        have hml : M.length = j := by
          have := congrArg List.length HM.out
          rw [List.length_map, List.length_take] at this
          omega
        obtain ⟨v5, W6, hrun, hrow5, hgr, -⟩ := run_append_row (W4.alloc (.cells X.toArray 50)) 38 50 38 _ 33 40 Try.underlying38 infoOut rfl (by omega) (by omega) w1.heap.size u6 (outsC M) HROW5.out W4.heap.size X HNEW.out ⟨HOL.out, HO1.out⟩ (by rw [outsC_length]; have := HLL.out; omega) hw4
        obtain ⟨va, vc, rfl, -, -⟩ := hrow5.row.form
        have hlt5 := HROW5.out.lt
        have R : Hid (RTakI w1 w1.heap.size D L (.slice va ((outsC M) ++ [X]).length vc) (.int .i64 ((j + 1 : Nat) : Int)) W6) := hide ⟨j + 1, by omega, rfl, (below_on HBJ4.out hbn).grown hgr hw4 fun g hg => (hlt5 g hg).1, M ++ [d], by
          obtain ⟨e1, e2⟩ := List.getElem?_eq_some_iff.1 HX.out
          rw [List.map_append, HM.out, List.take_succ_eq_append_getElem e1, e2, List.map_cons, List.map_nil, HD1.out.2.1], (fun c hc => by
          rcases List.mem_append.1 hc with h | h
          · exact HMD.out c h
          · rw [List.mem_singleton.1 h]; exact HD1.out.1), by
          rw [show outsC (M ++ [d]) = outsC M ++ [X] by unfold outsC; rw [List.map_append, List.map_cons, List.map_nil, HD1.out.2.2, HXE.out]]
          exact hrow5⟩
        clear hbn HNEW HROW5 hw4 hrow5 hgr hlt5 hml
        obtain ⟨nn, hnn⟩ : ∃ nn, nn = ((outsC M) ++ [X]).length := ⟨_, rfl⟩
        rw [← hnn] at hrun R
        clear hnn
        go_wp2_with (first
          | (refine wpList_load_mid rfl 50 (.tmp 9) rfl gx 0 rfl X _ HRX.out Try.underlying50 rfl HLO.out ?_)
          | (refine wp_build_one rfl 38 50 (.tmp 34) rfl _ 33 40 Try.underlying38 infoOut (by omega) (by omega) X HOL.out rfl ?_)
          | (at_builtin; refine wp_app rfl (.tmp 33) (.tmp 35) 38 rfl (v1 := u6) (v2 := .slice (some ⟨W4.heap.size, 0, none⟩) 1 1) (v := .slice va nn vc) (w' := W6) rfl rfl ?_ ?_; exact hrun))
        go_roundw
        case rel => first | exact R.out | ((repeat apply Exists.intro); exact ⟨R.out, rfl⟩)
        case measure => simp [intOf]; omega
    · have hk2 : (L.length : Int) ≤ (j : Int) := by omega
      rw [List.take_of_length_le (by omega)] at hM
      have HMM := hide hM
      obtain ⟨w3, rfl⟩ : ∃ u, u = wr := ⟨_, rfl⟩
      clear hB hM hMD hrow HBJ HM
      have hdoc := HDOC.out.on HB.out
      obtain ⟨dv, hc0, hf0, hdv, hown, hdk⟩ := hdoc
      have HC0 := hide hc0
      have HF0 := hide hf0
      have HDV := hide hdv
      have HDK := hide hdk
      obtain ⟨da, dcap, rfl, hdc1, hdc2⟩ := hdv.form
      clear hf0 hdv hown hdk
      have HJ0 : Hid (RTakJ w3 w3.heap.size D L (.slice none 0 0) (.int .i64 0) w3) := hide ⟨0, Nat.zero_le _, rfl, Below.refl _ _, by simp [dropPts]; exact RowOwn.nil _ _ _ _⟩
      go_wp2_with fail
      clear hc0
      go_loopw [11, 43] (fun v i wr => RTakJ w3 w3.heap.size D L v i wr) (fun _ i _ => D.length - (intOf i).toNat)
      case atStart => exact HJ0.out
      case round =>
        clear HJ0
        obtain ⟨q, hq, rfl, hB, hrow⟩ := hrel
        have HBQ := hide hB
        have HROWQ := hide hrow
        by_cases hlt2 : q < D.length
        · obtain ⟨x, hx⟩ : ∃ x, D[q]? = some x := ⟨_, List.getElem?_eq_getElem hlt2⟩
          obtain ⟨b2, off2, rfl, hr⟩ := (HDV.out.on hB).get hx
          have hxo := HDK.out x (List.mem_of_getElem? hx)
          have HXO := hide hxo
          have HX := hide hx
          have HXR := hide hr
          have HN1 : Hid ((Try.prog.info? 59).map (·.size) = some (cnC x).length) := hide (by rw [cnC_length hxo]; exact info_cn)
          have H1 : Hid (∀ u ∈ cnC x, u.oneCell' = true) := hide (cnC_one x)
          have HLX : Hid ((cnC x).length = 66) := hide (cnC_length hxo)
          have HT : Hid (∀ w : World, (w.alloc (.cells coinZ 59)).there w.heap.size 0 (cnC x).length) := hide (fun w => by rw [cnC_length hxo]; exact cn_there w)
          have HIX : Hid ((Try.prog.info? 47).map (·.size) = some (pC x.pt).length) := hide (by rw [pC_length hxo.1]; exact info_pt)
          have hk3 : (q : Int) < (D.length : Int) := by omega
          have hzc := HZ.out wr
          clear hr hx hxo hB hrow
          go_upto_region 16 with (first | (refine wpList_load_mid rfl 59 (.tmp 45) rfl b2 (off2 + q * 66) rfl (cnC x) _ HXR.out Try.underlying59 rfl HN1.out ?_) | (refine wp_store_row rfl 59 (.tmp 13) (.tmp 46) rfl wr.heap.size 0 (cnC x) rfl rfl (HT.out wr) HN1.out H1.out ?_))
          have hW : ((wr.alloc (.cells coinZ 59)).setCells wr.heap.size 0 (cnC x)).rangeAt wr.heap.size 0 (cnC x) := World.rangeAt_setCells_same _ _ _ _ (HT.out wr)
          have hB2 : Below wr.heap.size wr ((wr.alloc (.cells coinZ 59)).setCells wr.heap.size 0 (cnC x)) := below_sets (Nat.le_refl _) _ _ _ (below_new wr _)
          generalize (wr.alloc (.cells coinZ 59)).setCells wr.heap.size 0 (cnC x) = W at *
          have HRW := hide hW
          have HRP := hide (cn_range hW HXO.out).1
          have HBW := hide (below_on HBQ.out hB2)
          have HROWW := hide (HROWQ.out.move (w1 := W) fun g _ hl => hB2.block g hl)
          clear hW hB2 HXR HT hzc HBQ HROWQ
          generalize wr.heap.size = gb at *
          have HG0 : Hid (RTakG W L x.pt (.bool false) (.int .i64 0) W) := hide ⟨0, Nat.zero_le _, rfl, Below.refl _ _, false, rfl, by simp⟩
          obtain ⟨w5, rfl⟩ : ∃ u, u = wr := ⟨_, rfl⟩
          generalize hK : cnC x = K at *
          have HKE := hide hK
          clear hK
          go_wp2_with fail
          go_loopw [14, 49] (fun d i wr => RTakG W L x.pt d i wr) (fun _ i _ => L.length - (intOf i).toNat)
          case atStart => exact HG0.out
          case round =>
            clear HG0
            obtain ⟨t, ht, rfl, hB, d0, rfl, hd0⟩ := hrel
            have HBT := hide hB
            have HD0 := hide hd0
            clear hd0
            by_cases hlt3 : t < L.length
            · obtain ⟨y, hy⟩ : ∃ y, L[t]? = some y := ⟨_, List.getElem?_eq_getElem hlt3⟩
              obtain ⟨b5, off5, rfl, hrr⟩ := (HV.out.on (below_on (below_on HB.out HBW.out) hB)).get hy
              have hyo := HOK.out y (List.mem_of_getElem? hy)
              have HYR := hide hrr
              have HNY : Hid ((Try.prog.info? 47).map (·.size) = some (pC y).length) := hide (by rw [pC_length hyo]; exact info_pt)
              have HY1 : Hid (∀ u ∈ pC y, u.oneCell' = true) := hide (pC_one y)
              have HTY : Hid (∀ w : World, (w.alloc (.cells #[.int .u8 0, .int .u8 0, .int .u8 0, .int .u8 0, .int .u8 0, .int .u8 0, .int .u8 0, .int .u8 0, .int .u8 0, .int .u8 0, .int .u8 0, .int .u8 0, .int .u8 0, .int .u8 0, .int .u8 0, .int .u8 0, .int .u8 0, .int .u8 0, .int .u8 0, .int .u8 0, .int .u8 0, .int .u8 0, .int .u8 0, .int .u8 0, .int .u8 0, .int .u8 0, .int .u8 0, .int .u8 0, .int .u8 0, .int .u8 0, .int .u8 0, .int .u8 0, .int .u32 0] 47)).there w.heap.size 0 (pC y).length) := hide (fun w => by rw [pC_length hyo]; exact p_there w)
              have hk4 : (t : Int) < (L.length : Int) := by omega
              have HEQ := hide (eql_pts x.pt y HXO.out.1 hyo)
              have HNX : Hid (x.pt ∈ L.take (t + 1) ↔ x.pt ∈ L.take t ∨ x.pt = y) := hide (by
                obtain ⟨e1, e2⟩ := List.getElem?_eq_some_iff.1 hy
                rw [List.take_succ_eq_append_getElem e1, e2, List.mem_append, List.mem_singleton])
              clear hrr hy hyo hB
              go_upto_region 20 with (first | (refine wpList_load_mid rfl 47 (.tmp 51) rfl b5 (off5 + t * 33) rfl (pC y) _ HYR.out Try.underlying47 rfl HNY.out ?_) | (refine wp_store_row rfl 47 (.tmp 16) (.tmp 52) rfl wr.heap.size 0 (pC y) rfl rfl (HTY.out wr) HNY.out HY1.out ?_))
              have hW : ((wr.alloc (.cells #[.int .u8 0, .int .u8 0, .int .u8 0, .int .u8 0, .int .u8 0, .int .u8 0, .int .u8 0, .int .u8 0, .int .u8 0, .int .u8 0, .int .u8 0, .int .u8 0, .int .u8 0, .int .u8 0, .int .u8 0, .int .u8 0, .int .u8 0, .int .u8 0, .int .u8 0, .int .u8 0, .int .u8 0, .int .u8 0, .int .u8 0, .int .u8 0, .int .u8 0, .int .u8 0, .int .u8 0, .int .u8 0, .int .u8 0, .int .u8 0, .int .u8 0, .int .u8 0, .int .u32 0] 47)).setCells wr.heap.size 0 (pC y)).rangeAt wr.heap.size 0 (pC y) := World.rangeAt_setCells_same _ _ _ _ (HTY.out wr)
              have hB2 : Below wr.heap.size wr ((wr.alloc (.cells #[.int .u8 0, .int .u8 0, .int .u8 0, .int .u8 0, .int .u8 0, .int .u8 0, .int .u8 0, .int .u8 0, .int .u8 0, .int .u8 0, .int .u8 0, .int .u8 0, .int .u8 0, .int .u8 0, .int .u8 0, .int .u8 0, .int .u8 0, .int .u8 0, .int .u8 0, .int .u8 0, .int .u8 0, .int .u8 0, .int .u8 0, .int .u8 0, .int .u8 0, .int .u8 0, .int .u8 0, .int .u8 0, .int .u8 0, .int .u8 0, .int .u8 0, .int .u8 0, .int .u32 0] 47)).setCells wr.heap.size 0 (pC y)) := below_sets (Nat.le_refl _) _ _ _ (below_new wr _)
              generalize (wr.alloc (.cells #[.int .u8 0, .int .u8 0, .int .u8 0, .int .u8 0, .int .u8 0, .int .u8 0, .int .u8 0, .int .u8 0, .int .u8 0, .int .u8 0, .int .u8 0, .int .u8 0, .int .u8 0, .int .u8 0, .int .u8 0, .int .u8 0, .int .u8 0, .int .u8 0, .int .u8 0, .int .u8 0, .int .u8 0, .int .u8 0, .int .u8 0, .int .u8 0, .int .u8 0, .int .u8 0, .int .u8 0, .int .u8 0, .int .u8 0, .int .u8 0, .int .u8 0, .int .u8 0, .int .u32 0] 47)).setCells wr.heap.size 0 (pC y) = W2 at *
              have HY2 := hide hW
              have HB2 := hide (below_on HBT.out hB2)
              have HX2 := hide (range_on HRP.out HB2.out)
              clear hW hB2 HYR HY1 HTY HBT
              generalize wr.heap.size = gy at *
              have R : Hid (∀ r' : Bool, (r' = true ↔ d0 = true ∨ x.pt = y) → RTakG W L x.pt (.bool r') (.int .i64 ((t + 1 : Nat) : Int)) W2) := hide fun r' h => ⟨t + 1, by omega, rfl, HB2.out, r', rfl, by rw [h, HNX.out, HD0.out]⟩
              have hEQ := HEQ.out
              clear HNX HEQ HD0
              cases d0 with
              | true =>
                have R := hide (R.out true (by simp))
                clear hEQ
                go_wp2_with fail
                go_roundw
                case rel => first | exact R.out | ((repeat apply Exists.intro); exact ⟨R.out, rfl⟩)
                case measure => simp [intOf]; omega
              | false =>
                have R := hide (R.out (decide (x.pt = y)) (by simp))
                generalize decide (x.pt = y) = d1 at *
                generalize pC x.pt = P at *
                generalize pC y = P2 at *
                go_wp2_with (first
                  | (refine cw_load (by rfl) 47 (.tmp 55) rfl gb 0 rfl P _ HX2.out Try.underlying47 rfl HIX.out ?_)
                  | (refine cw_load (by rfl) 47 (.tmp 16) rfl gy 0 rfl P2 _ HY2.out Try.underlying47 rfl HNY.out ?_))
                go_roundw
                case rel => first | exact R.out | ((repeat apply Exists.intro); exact ⟨R.out, rfl⟩)
                case measure => simp [intOf]; omega
            · have hk4 : (L.length : Int) ≤ (t : Int) := by omega
              have HBW2 := hide (below_on HBW.out hB)
              have HRW2 := hide (range_on HRW.out hB)
              have HROW2 := hide (HROWW.out.move (w1 := wr) fun g _ hl => hB.block g hl)
              have HNEXT := hide (drop_snoc HX.out L)
              clear hB HBT
              have hd0 := HD0.out
              rw [List.take_of_length_le (show L.length ≤ t by omega)] at hd0
              have HD := hide hd0
              clear hd0 HD0
              cases d0 with
              | true =>
                have R : Hid (RTakJ w3 w3.heap.size D L u11 (.int .i64 ((q + 1 : Nat) : Int)) wr) := hide ⟨q + 1, by omega, rfl, HBW2.out, by
                  rw [HNEXT.out, if_pos (HD.out.1 rfl), List.append_nil]
                  exact HROW2.out⟩
                clear HNEXT HROW2 HBW2
                go_wp2_with fail
                go_roundw
                case rel => first | exact R.out | ((repeat apply Exists.intro); exact ⟨R.out, rfl⟩)
                case measure => simp [intOf]; omega
              | false =>
                have hbn := below_new wr (.cells K.toArray 59)
                have HNEW := hide (range_new wr K 59)
                have HROW5 := hide (HROW2.out.move (w1 := wr.alloc (.cells K.toArray 59)) fun g _ hl => hbn.block g hl)
                have hw4 : w3.heap.size ≤ (wr.alloc (.cells K.toArray 59)).heap.size := Nat.le_trans HBW2.out.size hbn.size
                have hml := dropPts_len (D.take q) L
                rw [List.length_take] at hml
                obtain ⟨v5, W6, hrun, hrow5, hgr, -⟩ := run_append_row (wr.alloc (.cells K.toArray 59)) 30 59 30 _ 66 80 Try.underlying30 infoCn rfl (by omega) (by omega) w3.heap.size u11 ((dropPts (D.take q) L).map cnC) HROW5.out wr.heap.size K HNEW.out ⟨HLX.out, H1.out⟩ (by rw [List.length_map]; have := HLD.out; omega) hw4
                obtain ⟨va, vc, rfl, -, -⟩ := hrow5.row.form
                have hlt5 := HROW5.out.lt
                have R : Hid (RTakJ w3 w3.heap.size D L (.slice va (((dropPts (D.take q) L).map cnC) ++ [K]).length vc) (.int .i64 ((q + 1 : Nat) : Int)) W6) := hide ⟨q + 1, by omega, rfl, (below_on HBW2.out hbn).grown hgr hw4 fun g hg => (hlt5 g hg).1, by
                  rw [HNEXT.out, if_neg (fun h => by have := HD.out.2 h; cases this), List.map_append, List.map_cons, List.map_nil, HKE.out]
                  exact hrow5⟩
                clear hbn HNEW HROW5 hw4 hrow5 hgr hlt5 hml HNEXT
                obtain ⟨nn, hnn⟩ : ∃ nn, nn = (((dropPts (D.take q) L).map cnC) ++ [K]).length := ⟨_, rfl⟩
                rw [← hnn] at hrun R
                clear hnn
                go_wp2_with (first
                  | (refine wpList_load_mid rfl 59 (.tmp 13) rfl gb 0 rfl K _ HRW2.out Try.underlying59 rfl HN1.out ?_)
                  | (refine wp_build_one rfl 30 59 (.tmp 64) rfl _ 66 80 Try.underlying30 infoCn (by omega) (by omega) K HLX.out rfl ?_)
                  | (at_builtin; refine wp_app rfl (.tmp 63) (.tmp 65) 30 rfl (v1 := u11) (v2 := .slice (some ⟨wr.heap.size, 0, none⟩) 1 1) (v := .slice va nn vc) (w' := W6) rfl rfl ?_ ?_; exact hrun))
                go_roundw
                case rel => first | exact R.out | ((repeat apply Exists.intro); exact ⟨R.out, rfl⟩)
                case measure => simp [intOf]; omega
        · have hk3 : (D.length : Int) ≤ (q : Int) := by omega
          rw [List.take_of_length_le (show D.length ≤ q by omega)] at hrow
          have HROWE := hide hrow
          have HBE := hide (below_on HB.out hB)
          have c9 := (hB.cell (World.block_lt_of_cell? _ _ HC0.out)).trans HC0.out
          have f9 := (World.frozen?_of_block (w := w3) (a := ⟨m, 0, none⟩) (hB.block m (World.block_lt_of_cell? _ _ HC0.out))).trans HF0.out
          have HC9 := hide c9
          have HF9 := hide f9
          have HOUT := hide (HROW.out.move (w1 := wr) fun g _ hl => hB.block g hl)
          have HSZ : Hid (w.heap.size ≤ w1.heap.size ∧ w.heap.size ≤ w3.heap.size) := hide ⟨HB1.out.size, HB.out.size⟩
          have HMB : Hid (m < w.heap.size) := hide HDOC.out.lt
          obtain ⟨ua, uc, rfl, -, -⟩ := hrow.row.form
          simp only [List.length_map] at HROWE ⊢
          clear hB hrow HROWQ HBQ
          go_wp2
          go_ret2
          refine Or.inr ⟨fun p hp => ?_, u6, M, rfl, HMM.out, HMD.out, ?_, fun g hg => Nat.le_trans HSZ.out.1 (HOUT.out.lt g hg).1, (Besides.of_below HBE.out).set ⟨m, 0, none⟩ (Or.inl rfl) _, ?_⟩
          · rw [← HMM.out] at hp
            obtain ⟨c, hc, rfl⟩ := List.mem_map.1 hp
            exact mem_pt (HMD.out c hc)
          · exact (HOUT.out.move (w1 := wr.setCell ⟨m, 0, none⟩ _) fun g hg _ => Below.heap_setCell _ _ _ _ (by show g ≠ m; have := HSZ.out.1; have := HMB.out; omega)).row
          · exact DocAt.weak (A := fun g => w3.heap.size ≤ g) (A' := fun g => w.heap.size ≤ g) (doc_stored HC9.out HF9.out (by have := HSZ.out.2; have := HMB.out; omega) HROWE.out fun d hd => HDK.out d (List.mem_filter.1 hd).1) (fun g h => Nat.le_trans HSZ.out.2 h)

end Go.Proofs.Ytkemdfikcmgaaaa
