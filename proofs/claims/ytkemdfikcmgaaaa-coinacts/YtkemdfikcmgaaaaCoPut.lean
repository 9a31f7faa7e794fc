/-
  What coin.Set's Put does at this program, whatever the set and the coins.
-/
import Derived.Test.YtkemdfikcmgaaaaCoPts
import Derived.Test.YtkemdfikcmgaaaaCoRep
import Derived.Test.YtkemdfikcmgaaaaCoAny
namespace Go.Proofs.Ytkemdfikcmgaaaa
open Go.RowKit

theorem pts_own {w : World} {base : Nat} {v : Value} {L : List Cn} (h : RowOwn w base 47 33 v (L.map fun c => pC c.pt)) : PsAt w v (L.map Cn.pt) := by
  have := h.row
  unfold PsAt
  rw [List.map_map]
  exact this
theorem pts_ok {L : List Cn} (h : ∀ c ∈ L, CnOk c) : ∀ p ∈ L.map Cn.pt, PtOk p := by
  intro p hp
  obtain ⟨c, hc, rfl⟩ := List.mem_map.1 hp
  exact (h c hc).1
set_option maxRecDepth 100000 in
set_option maxHeartbeats 400000 in
/-- A point stands twice. -/
theorem put_twice (w : World) (b : Nat) (m : Option Nat) (C : List Cn) (_h : SetAt w b m C) (L : List Cn) (v : Value) (hv : CnsAt w v L) (hok : ∀ c ∈ L, CnOk c) (hn : L.length ≤ 1000) (hN : ¬ (L.map Cn.pt).Nodup) :
    Calls Try.prog 12 #[.pointer (some ⟨b, 0, none⟩), v] w fun e w' => e = .returned (.int .i64 12) ∧ Below w.heap.size w w' := by
  have CP := hide (pointsOf_any L v w hv hok hn)
  have CR : Hid (∀ w' v', Below w.heap.size w w' → RowOwn w' w.heap.size 47 33 v' (L.map fun c => pC c.pt) → Calls Try.prog 27 #[v'] w' fun e w2 => e = .returned (.bool true) ∧ Below w'.heap.size w' w2) := hide (fun w' v' _ hr =>
    corep_any _ v' w' (pts_own hr) (pts_ok hok) (by rw [List.length_map]; omega) true ⟨fun e => (by cases e), fun e => absurd e hN⟩)
  obtain ⟨a, cap, rfl, hc1, hc2⟩ := hv.form
  clear hv hok hn hN _h
  go_enter Try.func12, Try.ntmps12
  go_wp2_with fail
  refine CP.out.mono ?_
  rintro e w1 ⟨pv, rfl, hb1, hrow⟩
  have HB1 := hide hb1
  have CR1 := hide (CR.out w1 pv hb1 hrow)
  clear hb1 hrow
  go_wp2_with fail
  refine CR1.out.mono ?_
  rintro e w2 ⟨rfl, hb2⟩
  have HB2 := hide (below_on HB1.out hb2)
  clear hb2
  go_wp2
  go_ret
  exact ⟨rfl, HB2.out⟩

set_option maxRecDepth 100000 in
set_option maxHeartbeats 400000 in
/-- A point is there. -/
theorem put_there (w : World) (b : Nat) (m : Option Nat) (C : List Cn) (h : SetAt w b m C) (L : List Cn) (v : Value) (hv : CnsAt w v L) (hok : ∀ c ∈ L, CnOk c) (hn : L.length ≤ 1000) (hN : (L.map Cn.pt).Nodup) (hin : ∃ p ∈ L.map Cn.pt, p ∈ C.map Cn.pt) :
    Calls Try.prog 12 #[.pointer (some ⟨b, 0, none⟩), v] w fun e w' => e = .returned (.int .i64 10) ∧ Below w.heap.size w w' := by
  have CP := hide (pointsOf_any L v w hv hok hn)
  have CR : Hid (∀ w' v', Below w.heap.size w w' → RowOwn w' w.heap.size 47 33 v' (L.map fun c => pC c.pt) → Calls Try.prog 27 #[v'] w' fun e w2 => e = .returned (.bool false) ∧ Below w'.heap.size w' w2) := hide (fun w' v' _ hr =>
    corep_any _ v' w' (pts_own hr) (pts_ok hok) (by rw [List.length_map]; omega) false ⟨fun _ => hN, fun _ => rfl⟩)
  have CC : Hid (∀ w' v', Below w.heap.size w w' → PsAt w' v' (L.map Cn.pt) → Calls Try.prog 28 #[v', .func (.func 29) #[.pointer (some ⟨b, 0, none⟩)] #[]] w' fun e w2 => e = .returned (.bool true) ∧ Below w'.heap.size w' w2) := hide (fun w' v' hb hr =>
    ccontains_any w' b m C (h.on hb) _ v' hr (pts_ok hok) (by rw [List.length_map]; omega) true ⟨fun _ => hin, fun _ => rfl⟩)
  obtain ⟨a, cap, rfl, hc1, hc2⟩ := hv.form
  clear hv hok hn hN h hin
  go_enter Try.func12, Try.ntmps12
  go_wp2_with fail
  refine CP.out.mono ?_
  rintro e w1 ⟨pv, rfl, hb1, hrow⟩
  have HB1 := hide hb1
  have CR1 := hide (CR.out w1 pv hb1 hrow)
  have HROW := hide (pts_own hrow)
  clear hb1 hrow
  go_wp2_with fail
  refine CR1.out.mono ?_
  rintro e w2 ⟨rfl, hb2⟩
  have HB2 := hide (below_on HB1.out hb2)
  have CC2 := hide (CC.out w2 _ HB2.out (HROW.out.on hb2))
  clear hb2
  go_wp2_with fail
  refine CC2.out.mono ?_
  rintro e w3 ⟨rfl, hb3⟩
  have HB3 := hide (below_on HB2.out hb3)
  clear hb3
  go_wp2
  go_ret
  exact ⟨rfl, HB3.out⟩

/-- So far these are put. -/
def Putting (w : World) (b : Nat) (m : Option Nat) (k : Nat) (C L : List Cn) (i : Value) (wr : World) : Prop := ∃ j : Nat, j ≤ L.length ∧ i = .int .i64 j ∧ SetAt wr b (some k) (C ++ L.take j) ∧ Besides b (m.getD b) w wr
theorem new_pt {C L : List Cn} {j : Nat} {x : Cn} (hx : L[j]? = some x) (hN : (L.map Cn.pt).Nodup) (hin : ∀ p ∈ L.map Cn.pt, p ∉ C.map Cn.pt) : x.pt ∉ (C ++ L.take j).map Cn.pt := by
  rw [List.map_append, List.mem_append]
  rintro (h | h)
  · exact hin _ (mem_pt (List.mem_of_getElem? hx)) h
  · have h1 : ((L.take (j + 1)).map Cn.pt).Nodup := by
      rw [List.map_take]
      exact hN.sublist (List.take_sublist _ _)
    rw [take_more hx, List.nodup_append] at h1
    exact h1.2.2 _ h _ (List.mem_singleton.2 rfl) rfl
theorem app_take {α : Type} {C L : List α} {j : Nat} {x : α} (hx : L[j]? = some x) : C ++ L.take (j + 1) = (C ++ L.take j) ++ [x] := by
  obtain ⟨e1, e2⟩ := List.getElem?_eq_some_iff.1 hx
  rw [List.take_succ_eq_append_getElem e1, e2, List.append_assoc]
set_option maxRecDepth 100000 in
set_option maxHeartbeats 1000000 in
theorem put_all (w : World) (b : Nat) (m m0 : Option Nat) (hm0 : m0 = m) (C : List Cn) (h : SetAt w b m C) (L : List Cn) (v : Value) (hv : Keeps (off b (m0.getD b)) w fun w => CnsAt w v L) (hok : ∀ c ∈ L, CnOk c) (hn : L.length ≤ 1000) (hC : C.length ≤ 100000) (hN : (L.map Cn.pt).Nodup) (hin : ∀ p ∈ L.map Cn.pt, p ∉ C.map Cn.pt) :
    Calls Try.prog 12 #[.pointer (some ⟨b, 0, none⟩), v] w fun e w' => e = .returned (.int .i64 0) ∧ ∃ k, SetAt w' b (some k) (C ++ L) ∧ (m0 = some k ∨ m0 = none ∧ w.heap.size ≤ k) ∧ Besides b (m0.getD b) w w' := by
  have CP := hide (pointsOf_any L v w hv.self hok hn)
  have CR : Hid (∀ w' v', Below w.heap.size w w' → RowOwn w' w.heap.size 47 33 v' (L.map fun c => pC c.pt) → Calls Try.prog 27 #[v'] w' fun e w2 => e = .returned (.bool false) ∧ Below w'.heap.size w' w2) := hide (fun w' v' _ hr =>
    corep_any _ v' w' (pts_own hr) (pts_ok hok) (by rw [List.length_map]; omega) false ⟨fun _ => hN, fun _ => rfl⟩)
  have CC : Hid (∀ w' v', Below w.heap.size w w' → PsAt w' v' (L.map Cn.pt) → Calls Try.prog 28 #[v', .func (.func 29) #[.pointer (some ⟨b, 0, none⟩)] #[]] w' fun e w2 => e = .returned (.bool false) ∧ Below w'.heap.size w' w2) := hide (fun w' v' hb hr =>
    ccontains_any w' b m C (h.on hb) _ v' hr (pts_ok hok) (by rw [List.length_map]; omega) false ⟨fun e => (by cases e), fun ⟨p, h1, h2⟩ => absurd h2 (hin p h1)⟩)
  have HSET := hide h
  have HV := hide hv
  have HL := hide hok
  have HCN : Hid (C.length ≤ 100000) := hide hC
  have HLN : Hid (L.length ≤ 1000) := hide hn
  have HND := hide hN
  have HIN := hide hin
  have HZ := hide zero_cn
  have HM0 := hide hm0
  obtain ⟨a, cap, rfl, hc1, hc2⟩ := hv.self.form
  clear hv hok hC hN h hin hm0
  have hmm := @run_makeMap Try.prog
  go_enter Try.func12, Try.ntmps12
  go_wp2_with fail
  refine CP.out.mono ?_
  rintro e w1 ⟨pv, rfl, hb1, hrow⟩
  have HB1 := hide hb1
  have CR1 := hide (CR.out w1 pv hb1 hrow)
  have HROW := hide (pts_own hrow)
  clear hb1 hrow CP CR
  go_wp2_with fail
  refine CR1.out.mono ?_
  rintro e w2 ⟨rfl, hb2⟩
  have HB2 := hide (below_on HB1.out hb2)
  have CC2 := hide (CC.out w2 _ HB2.out (HROW.out.on hb2))
  clear hb2 CR1 CC
  go_wp2_with fail
  refine CC2.out.mono ?_
  rintro e w3 ⟨rfl, hb3⟩
  have HB3 := hide (below_on HB2.out hb3)
  have HS3 := hide (HSET.out.on HB3.out)
  clear hb3 CC2 HB1 HB2 HROW
  obtain ⟨c0, f0, hnone, hsome⟩ := HS3.out
  have HQ : Hid (∀ p : Option Nat, (binOp .eql 65 (.map p) (.map none)).run Try.prog w3 = .ok (.bool p.isNone) w3) := hide (fun p => crun_eql_map w3 65 _ _ p Try.underlying65)
  -- a map there is, or is made
  rcases m with _ | k
  focus
    have hq := HQ.out none
    simp only [Option.isNone_none] at hq
    have hC0 := hnone rfl
    have HS0 : Hid (SetAt ((w3.alloc (.map #[] 0)).setCell ⟨b, 0, none⟩ (.map (some w3.heap.size))) b (some w3.heap.size) C) := hide (by
      have h := HS3.out
      rw [hC0] at h ⊢
      exact set_made h)
    have HK : Hid (m0 = some w3.heap.size ∨ m0 = none ∧ w.heap.size ≤ w3.heap.size) := hide (Or.inr ⟨HM0.out, HB3.out.size⟩)
    have HBS : Hid (Besides b (m0.getD b) w ((w3.alloc (.map #[] 0)).setCell ⟨b, 0, none⟩ (.map (some w3.heap.size)))) := hide ((Besides.of_below (HB3.out.alloc HB3.out.size _)).set ⟨b, 0, none⟩ (Or.inl rfl) _)
    obtain ⟨c1, f1, -, -⟩ := HS3.out.on (below_new w3 (.map #[] 0))
    clear hnone hsome HB3 HS3 HSET HQ hC0 HM0
    go_upto_region 10 with fail
    generalize (w3.alloc (.map #[] 0)).setCell ⟨b, 0, none⟩ (.map (some w3.heap.size)) = W1 at *
    generalize w3.heap.size = k at *
    clear c0 f0 c1 f1 hq
  rotate_left
  focus
    have hq := HQ.out (some k)
    simp only [Option.isNone_some] at hq
    have HS0 := hide HS3.out
    have HK : Hid (m0 = some k ∨ m0 = none ∧ w.heap.size ≤ k) := hide (Or.inl HM0.out)
    have HBS : Hid (Besides b (m0.getD b) w w3) := hide (Besides.of_below HB3.out)
    clear hnone hsome HB3 HS3 HSET HQ HM0
    go_upto_region 10 with fail
    clear c0 f0 hq
    generalize w3 = W1 at *
  rotate_left
  all_goals
    have HS : Hid (Putting w b m0 k C L (.int .i64 0) W1) := hide ⟨0, Nat.zero_le _, rfl, by rw [List.take_zero, List.append_nil]; exact HS0.out, HBS.out⟩
    clear HS0 HBS
    go_wp2_with fail
    go_loopw [29] (fun i wr => Putting w b m0 k C L i wr) (fun i _ => L.length - (intOf i).toNat)
    case atStart => exact HS.out
    case round =>
      clear HS
      obtain ⟨j, hj, rfl, hset, hbes⟩ := hrel
      have HSJ := hide hset
      have HBES := hide hbes
      by_cases hlt : j < L.length
      · obtain ⟨x, hx⟩ : ∃ x, L[j]? = some x := ⟨_, List.getElem?_eq_getElem hlt⟩
        have hvj := HV.out wr (fun g hg hp => hbes.block g hg hp.1 hp.2)
        obtain ⟨b2, off2, rfl, hr⟩ := hvj.get hx
        have hxo := HL.out x (List.mem_of_getElem? hx)
        have HXO := hide hxo
        have HXR := hide hr
        have HN : Hid ((Try.prog.info? 59).map (·.size) = some (cnC x).length) := hide (by rw [cnC_length hxo]; exact info_cn)
        have H1 : Hid (∀ u ∈ cnC x, u.oneCell' = true) := hide (cnC_one x)
        have HT : Hid (∀ w : World, (w.alloc (.cells coinZ 59)).there w.heap.size 0 (cnC x).length) := hide (fun w => by rw [cnC_length hxo]; exact cn_there w)
        have hk1 : (j : Int) < (L.length : Int) := by omega
        have HLP : Hid ((Try.prog.info? 47).map (·.size) = some (pC x.pt).length) := hide (by rw [pC_length hxo.1]; exact info_pt)
        have HLO : Hid ((Try.prog.info? 50).map (·.size) = some (outC x.out).length) := hide (by rw [outC_length hxo.2.2.1]; exact info_out)
        have HX := hide hx
        have hzc := HZ.out wr
        clear hr hx hxo hset hbes hvj
        go_upto_region 13 with (first | (refine wpList_load_mid rfl 59 (.tmp 31) rfl b2 (off2 + j * 66) rfl (cnC x) _ HXR.out Try.underlying59 rfl HN.out ?_) | (refine wp_store_row rfl 59 (.tmp 7) (.tmp 32) rfl wr.heap.size 0 (cnC x) rfl rfl (HT.out wr) HN.out H1.out ?_))
        have hW : ((wr.alloc (.cells coinZ 59)).setCells wr.heap.size 0 (cnC x)).rangeAt wr.heap.size 0 (cnC x) := World.rangeAt_setCells_same _ _ _ _ (HT.out wr)
        have hB2 : Below wr.heap.size wr ((wr.alloc (.cells coinZ 59)).setCells wr.heap.size 0 (cnC x)) := below_sets (Nat.le_refl _) _ _ _ ((Below.refl _ _).alloc (Nat.le_refl _) _)
        have hgs : wr.heap.size < ((wr.alloc (.cells coinZ 59)).setCells wr.heap.size 0 (cnC x)).heap.size := by rw [size_setCells, alloc_size]; omega
        generalize (wr.alloc (.cells coinZ 59)).setCells wr.heap.size 0 (cnC x) = W2 at *
        have hP := cn_range hW HXO.out
        have hset2 : SetAt W2.drew b (some k) (C ++ L.take j) := (HSJ.out.on hB2).heap rfl fun _ _ => rfl
        obtain ⟨s0, s1, -, s3⟩ := hset2
        obtain ⟨hkb, hmap⟩ := s3 k rfl
        have hkl : k < wr.heap.size := (HSJ.out.2.2.2 k rfl).2.lt
        have hbl := HSJ.out.lt
        obtain ⟨w4, hrun, hmap4, hg4⟩ := hmap.put HXO.out (new_pt HX.out HND.out HIN.out) (by rw [List.length_append, List.length_take]; have := HCN.out; have := HLN.out; omega)
        have hblk : ∀ g, g < W2.heap.size → g ≠ k → w4.heap[g]? = W2.heap[g]? := fun g hg hne => hg4.block g hg (fun e => hne (Option.some.inj e))
        have HR4 : Hid (w4.cell? ⟨b, 0, none⟩ = some (.map (some k)) ∧ w4.rangeAt wr.heap.size 0 (pC x.pt) ∧ w4.rangeAt wr.heap.size 33 (outC x.out)) := hide (by
          refine ⟨(World.cell?_of_block (w := W2) (a := ⟨b, 0, none⟩) (hblk b (by omega) (Ne.symm hkb))).trans s0, ?_, ?_⟩
          · intro i u hu
            exact (World.cell?_of_block (w := W2) (hblk wr.heap.size hgs (by omega))).trans (hP.1 i u hu)
          · intro i u hu
            have := hP.2 i u hu
            rw [Nat.zero_add] at this
            exact (World.cell?_of_block (w := W2) (hblk wr.heap.size hgs (by omega))).trans this)
        have HR2 : Hid (W2.drew.cell? ⟨b, 0, none⟩ = some (.map (some k)) ∧ W2.drew.rangeAt wr.heap.size 0 (pC x.pt) ∧ W2.drew.rangeAt wr.heap.size 33 (outC x.out)) := hide ⟨s0, hP.1, by have h := hP.2; rw [Nat.zero_add] at h; exact h⟩
        have R : Hid (Putting w b m0 k C L (.int .i64 ((j + 1 : Nat) : Int)) w4) := hide ⟨j + 1, by omega, rfl, by
          rw [app_take HX.out]
          exact ⟨HR4.out.1, (World.frozen?_of_block (w := W2) (a := ⟨b, 0, none⟩) (hblk b (by omega) (Ne.symm hkb))).trans s1, fun e => (by cases e), fun q hq => (by cases hq; exact ⟨hkb, hmap4⟩)⟩, by
          refine (HBES.out.on hB2).then (q' := k) ⟨hg4.os, hg4.tape, hg4.output, hg4.size, fun g hg _ h2 => hblk g hg h2⟩ ?_
          rcases HK.out with e | ⟨e, h⟩
          · rw [e]
            exact Or.inl rfl
          · exact Or.inr (Or.inr h)⟩
        have HRUN := hide hrun
        clear hW hB2 hgs hP s0 s1 s3 hkb hmap hkl hbl hmap4 hg4 hblk hrun HXR HN H1 HT hzc HSJ HBES
        generalize wr.heap.size = gb at *
        generalize pC x.pt = P at *
        generalize outC x.out = X at *
        refine wp_region_held_drew (S := fun wx => wx.cell? ⟨b, 0, none⟩ = some (.map (some k)) ∧ wx.rangeAt gb 0 P ∧ wx.rangeAt gb 33 X) (by kernel_rfl) HR2.out (fun hHeld => ?_)
        refine wpAnyH_take (i := 0) (oi := { dst := some 33, op := Op.move (Operand.tmp 0), type := 25, pos := "coin.go:43", after := #[], guard := none }) (v := .pointer (some ⟨b, 0, none⟩)) rfl (by kernel_rfl) (by kernel_rfl) (by kernel_rfl) (fun _ _ _ h => h) (Or.inl ⟨by rfl, fun w _ => by go_simp⟩) (by assumption) ?_
        simp only [Act.put, List.setIfInBounds_toArray, List.set_cons_zero, List.set_cons_succ]
        refine wpAnyH_take (i := 1) (oi := { dst := some 34, op := Op.nilCheck (Operand.tmp 33), type := 0, pos := "coin.go:43", after := #[{ on := 0, ground := Ground.data }], guard := none }) (v := .pointer (some ⟨b, 0, none⟩)) rfl (by kernel_rfl) (by kernel_rfl) (by kernel_rfl) (fun _ _ _ h => h) (Or.inl ⟨by rfl, fun w _ => by go_simp⟩) (by assumption) ?_
        simp only [Act.put, List.setIfInBounds_toArray, List.set_cons_zero, List.set_cons_succ]
        refine wpAnyH_take (i := 2) (oi := { dst := some 35, op := Op.fieldAddr 67 (Operand.tmp 34) 0, type := 0, pos := "coin.go:43", after := #[{ on := 1, ground := Ground.data }], guard := none }) (v := .pointer (some ⟨b, 0, none⟩)) rfl (by kernel_rfl) (by kernel_rfl) (by kernel_rfl) (fun _ _ _ h => h) (Or.inl ⟨by rfl, fun w _ => by go_simp⟩) (by assumption) ?_
        simp only [Act.put, List.setIfInBounds_toArray, List.set_cons_zero, List.set_cons_succ]
        refine wpAnyH_take (i := 3) (oi := { dst := some 36, op := Op.load 65 (Operand.tmp 35), type := 65, pos := "coin.go:43", after := #[{ on := 2, ground := Ground.data }], guard := none }) (v := .map (some k)) rfl (by kernel_rfl) (by kernel_rfl) (by kernel_rfl) (fun _ _ _ h => h) (Or.inl ⟨by rfl, fun wx h => by have c0 := h.1; go_simp⟩) (by assumption) ?_
        simp only [Act.put, List.setIfInBounds_toArray, List.set_cons_zero, List.set_cons_succ]
        refine wpAnyH_take (i := 4) (oi := { dst := some 37, op := Op.fieldAddr 59 (Operand.tmp 7) 0, type := 0, pos := "coin.go:43", after := #[], guard := none }) (v := .pointer (some ⟨gb, 0, none⟩)) rfl (by kernel_rfl) (by kernel_rfl) (by kernel_rfl) (fun _ _ _ h => h) (Or.inl ⟨by rfl, fun w _ => by go_simp⟩) (by assumption) ?_
        simp only [Act.put, List.setIfInBounds_toArray, List.set_cons_zero, List.set_cons_succ]
        refine wpAnyH_take (i := 5) (oi := { dst := some 38, op := Op.load 47 (Operand.tmp 37), type := 47, pos := "coin.go:43", after := #[{ on := 4, ground := Ground.data }], guard := none }) (v := .agg (P).toArray) rfl (by kernel_rfl) (by kernel_rfl) (by kernel_rfl) (fun _ _ _ h => h) (yieldsIf_load_mid (by rfl) 47 (.tmp 37) rfl gb 0 rfl (P) _ (fun w h => h.2.1) Try.underlying47 rfl HLP.out) (by assumption) ?_
        simp only [Act.put, List.setIfInBounds_toArray, List.set_cons_zero, List.set_cons_succ]
        refine wpAnyH_take (i := 6) (oi := { dst := some 39, op := Op.fieldAddr 59 (Operand.tmp 7) 1, type := 0, pos := "coin.go:43", after := #[], guard := none }) (v := .pointer (some ⟨gb, 33, none⟩)) rfl (by kernel_rfl) (by kernel_rfl) (by kernel_rfl) (fun _ _ _ h => h) (Or.inl ⟨by rfl, fun w _ => by go_simp⟩) (by assumption) ?_
        simp only [Act.put, List.setIfInBounds_toArray, List.set_cons_zero, List.set_cons_succ]
        refine wpAnyH_take (i := 7) (oi := { dst := some 40, op := Op.load 50 (Operand.tmp 39), type := 50, pos := "coin.go:43", after := #[{ on := 6, ground := Ground.data }], guard := none }) (v := .agg (X).toArray) rfl (by kernel_rfl) (by kernel_rfl) (by kernel_rfl) (fun _ _ _ h => h) (yieldsIf_load_mid (by rfl) 50 (.tmp 39) rfl gb 33 rfl (X) _ (fun w h => h.2.2) Try.underlying50 rfl HLO.out) (by assumption) ?_
        simp only [Act.put, List.setIfInBounds_toArray, List.set_cons_zero, List.set_cons_succ]
        refine wpAnyH_ready (rs := [8]) (by kernel_rfl) (by simp) (AllReadyH.cons (o := { dst := none, op := Op.mapUpdate 65 (Operand.tmp 36) (Operand.tmp 38) (Operand.tmp 40), type := 0, pos := "coin.go:43", after := #[{ on := 3, ground := Ground.data }, { on := 5, ground := Ground.data }, { on := 7, ground := Ground.data }, { on := 0, ground := Ground.phase }, { on := 1, ground := Ground.phase }, { on := 2, ground := Ground.phase }, { on := 3, ground := Ground.phase }, { on := 4, ground := Ground.phase }, { on := 5, ground := Ground.phase }, { on := 6, ground := Ground.phase }, { on := 7, ground := Ground.phase }], guard := none }) rfl (fun K hK => ?_) AllReadyH.nil)
        refine step_update rfl 65 (.tmp 36) (.tmp 38) (.tmp 40) rfl rfl rfl rfl HRUN.out ?_
        refine hK.out _ _ ?_ (fun hHeld => ?_)
        · exact HR4.out
        clear hK K
        try simp only [Act.put]
        refine wpAnyH_done (by kernel_rfl) ?_ _
        clear hHeld HR2 HR4 HRUN HLP HLO
        go_wp2
        go_roundw
        case rel => first | exact R.out | ((repeat apply Exists.intro); exact ⟨R.out, rfl⟩)
        case measure => simp [intOf]; omega
      · have hk2 : (L.length : Int) ≤ (j : Int) := by omega
        have R : Hid (∃ k, SetAt wr b (some k) (C ++ L) ∧ (m0 = some k ∨ m0 = none ∧ w.heap.size ≤ k) ∧ Besides b (m0.getD b) w wr) := hide ⟨k, by
          rw [List.take_of_length_le (by omega)] at hset
          exact hset, HK.out, hbes⟩
        clear hset hbes
        go_wp2
        go_ret
        exact ⟨rfl, R.out⟩
/-- All are put. -/
theorem put_ok (w : World) (b : Nat) (m : Option Nat) (C : List Cn) (h : SetAt w b m C) (L : List Cn) (v : Value) (hv : Keeps (off b (m.getD b)) w fun w => CnsAt w v L) (hok : ∀ c ∈ L, CnOk c) (hn : L.length ≤ 1000) (hC : C.length ≤ 100000) (hN : (L.map Cn.pt).Nodup) (hin : ∀ p ∈ L.map Cn.pt, p ∉ C.map Cn.pt) :
    Calls Try.prog 12 #[.pointer (some ⟨b, 0, none⟩), v] w fun e w' => e = .returned (.int .i64 0) ∧ ∃ k, SetAt w' b (some k) (C ++ L) ∧ (m = some k ∨ m = none ∧ w.heap.size ≤ k) ∧ Besides b (m.getD b) w w' :=
  put_all w b m m rfl C h L v hv hok hn hC hN hin

end Go.Proofs.Ytkemdfikcmgaaaa
