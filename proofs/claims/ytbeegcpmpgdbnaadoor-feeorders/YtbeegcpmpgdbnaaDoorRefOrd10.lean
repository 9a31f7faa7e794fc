/-
  What pappusref10.Order answers at this program, whatever the weights: the places, in order.
-/
import Derived.Test.YtbeegcpmpgdbnaaDoorFeeSoP
import Derived.Test.YtbeegcpmpgdbnaaDoorRefWst10
import Derived.Test.YtbeegcpmpgdbnaaDoorRefOrdP
import Derived.Test.YtbeegcpmpgdbnaaDoorRefOrdR
import Derived.Test.YtbeegcpmpgdbnaaDoorTxStep
namespace Go.Proofs.YtbeegcpmpgdbnaaDoor
open Go.RowKit Go.Shelf Go.Lib Go.Sort

def Ordering (w : World) (L : List Wt) (v i : Value) (wr : World) : Prop := ∃ (k : Nat) (P : List Nat), k ≤ L.length ∧ i = .int .i64 k ∧ OrdK L k P ∧ Below w.heap.size w wr ∧ RowOwn wr w.heap.size 3 1 v (plC P) ∧ (k = 0 → v = .slice none 0 0)
def Sinking (w0 : World) (L : List Wt) (P : List Nat) (k : Nat) (q : Value) (wr : World) : Prop := ∃ n : Nat, n ≤ k ∧ q = .int .i64 n ∧ Below w0.heap.size w0 wr ∧ ∀ j, n ≤ j → ∀ x, P[j]? = some x → lessW (L.getD x default) (L.getD k default) = true

set_option maxRecDepth 100000 in
set_option maxHeartbeats 2000000 in
theorem rorder10_any (L : List Wt) (hok : ∀ x ∈ L, WtOk x) (hn : L.length ≤ 1000) (v : Value) (w : World) (h : RowAt w 2 v (L.map wtC)) :
    Calls Tryd.prog 19 #[v] w fun e w' => ∃ v' P, e = .returned v' ∧ Ordd L P ∧ Below w.heap.size w w' ∧ RowOwn w' w.heap.size 3 1 v' (plC P) := by
  have mixed : Tryd.prog.follows .mixedOrders = true := by kernel_rfl
  have aE := Tryd.isAgg55
  have zE := Tryd.sizeOf55
  have hf := h.form
  rw [List.length_map] at hf
  obtain ⟨a, cap, rfl, hc1, hc2⟩ := hf
  have HI := hide h
  have HL := hide hok
  have HS : Hid (Ordering w L (.slice none 0 0) (.int .i64 0) w) := hide ⟨0, [], Nat.zero_le _, rfl, OrdK.nil L, Below.refl _ _, RowOwn.nil _ _ _ _, fun _ => rfl⟩
  clear h hok hc1 hc2
  go_enter Tryd.func19, Tryd.ntmps19
  go_wp2
  go_loopw [3, 9] (fun v i wr => Ordering w L v i wr) (fun _ i _ => L.length - (intOf i).toNat)
  case atStart => exact HS.out
  case round =>
    clear HS
    rename World => w0
    obtain ⟨k, P, hk, rfl, hP, hB, hown, hnil⟩ := hrel
    have hpl : (plC P).length = k := by simp [plC, hP.1]
    have hf := hown.row.form
    rw [hpl] at hf
    obtain ⟨pa, pc, rfl, hpc, -⟩ := hf
    have HP := hide hP
    have HB := hide hB
    have HOWN := hide hown
    have HNIL := hide hnil
    have HPC := hide hpc
    clear hP hB hown hpl hnil hpc
    by_cases hlt : k < L.length
    · obtain ⟨y, hy⟩ : ∃ y, L[k]? = some y := ⟨_, List.getElem?_eq_getElem hlt⟩
      have hk1 : (k : Int) < (L.length : Int) := by omega
      have HY := hide hy
      have HEY : Hid (L.getD k default = y) := hide (by rw [List.getD, hy]; rfl)
      have HS : Hid (Sinking w0 L P k (.int .i64 (k : Int)) w0) := hide ⟨k, Nat.le_refl _, rfl, Below.refl _ _, fun j hj x hx => by
        have := (List.getElem?_eq_some_iff.1 hx).1
        rw [HP.out.1] at this
        omega⟩
      clear hy
      go_wp2
      go_loopw [5] (fun q wr => Sinking w0 L P k q wr) (fun q _ => (intOf q).toNat)
      case atStart => exact HS.out
      case round =>
        clear HS
        obtain ⟨n, hnk, rfl, hB0, hall⟩ := hrel
        have HBR := hide hB0
        have HALL := hide hall
        clear hB0 hall
        have HG : Hid (∀ m os, Below w.heap.size w (grow (wr.drewN m) os)) := hide (fun m os => below_grow (below_on HB.out HBR.out) m os)
        have HGO : Hid (∀ m os, RowOwn (grow (wr.drewN m) os) w.heap.size 3 1 (.slice pa k pc) (plC P)) := hide (fun m os => HOWN.out.move fun g _ hl => (below_grow HBR.out m os).block g hl)
        have hl3 := HPC.out
        have hs2 : ¬ (pc : Int) < (n : Int) := by omega
        have hs2' : (n : Int) ≤ (pc : Int) := by omega
        have hs3 : (n : Int) ≤ (k : Int) := by omega
        have hs4 : ¬ (k : Int) < (n : Int) := by omega
        have hs5 : (0 : Int) ≤ (n : Int) := by omega
        rcases Nat.eq_zero_or_pos n with h0 | h0
        · subst h0
          rcases Nat.eq_zero_or_pos k with hk0 | hk0
          · subst hk0
            have hv := HNIL.out rfl
            simp only [Value.slice.injEq] at hv
            obtain ⟨rfl, -, rfl⟩ := hv
            go_wp2_with fail
            quiet_grown_cheap (first | (go_at_call 23; fail))
            have hb := HG.out nq osq
            generalize grow (wr.drewN nq) osq = W3 at *
            obtain ⟨w1, v2, w2, r1, r2, r3, ho, hb2⟩ := splice_nil w W3 0 hb
            have HSQ := hide r1
            have HSR := hide r2
            have HST := hide r3
            have R : Hid (Ordering w L v2 (.int .i64 ((0 + 1 : Nat) : Int)) w2) := hide ⟨0 + 1, _, by omega, rfl, ins_ordd HP.out hnk HALL.out (Or.inl rfl), hb2, by
              have e : P = [] := List.length_eq_zero_iff.1 HP.out.1
              rw [e]
              exact ho, fun h => by omega⟩
            clear r1 r2 r3 ho hb2 hb HG HGO
            go_wp2_with (at_builtin; first | (refine wp_app rfl (.tmp 33) (.tmp 36) 46 rfl rfl rfl HSQ.out ?_) | (refine wp_app rfl (.tmp 38) (.tmp 40) 46 rfl rfl rfl HSR.out ?_) | (refine wp_app rfl (.tmp 42) (.tmp 45) 46 rfl rfl rfl HST.out ?_))
            go_roundw
            case rel => first | exact R.out | ((repeat apply Exists.intro); exact ⟨R.out, rfl⟩)
            case measure => simp [intOf]; omega
          · obtain ⟨p0, hp0⟩ : ∃ x, P[0]? = some x := ⟨_, List.getElem?_eq_getElem (by rw [HP.out.1]; exact hk0)⟩
            obtain ⟨bp, op, rfl, -⟩ := place_cell HOWN.out.row hp0
            go_wp2_with fail
            quiet_grown_cheap (first | (go_at_call 23; fail))
            have hb := HG.out nq osq
            have ho := HGO.out nq osq
            generalize grow (wr.drewN nq) osq = W3 at *
            obtain ⟨v1, w1, v2, w2, v3, w3, tt, hto, r1, r2, r3, hown3, hb3⟩ := splice_runs w W3 P k 0 k ⟨bp, op, none⟩ pc HP.out.1 hnk (by omega) hb ho rfl
            simp only [Nat.zero_mul, Nat.add_zero, Nat.sub_zero, ite_self] at hto r3
            cases hto
            clear HG HGO hb ho hp0
            have HSQ := hide r1
            have HSR := hide r2
            have HST := hide r3
            have R : Hid (Ordering w L v3 (.int .i64 ((k + 1 : Nat) : Int)) w3) := hide ⟨k + 1, _, by omega, rfl, ins_ordd HP.out hnk HALL.out (Or.inl rfl), hb3, hown3, fun h => by omega⟩
            clear r1 r2 r3 hown3 hb3
            go_wp2_with (at_builtin; first | (refine wp_app rfl (.tmp 33) (.tmp 36) 46 rfl rfl rfl HSQ.out ?_) | (refine wp_app rfl (.tmp 38) (.tmp 40) 46 rfl rfl rfl HSR.out ?_) | (refine wp_app rfl (.tmp 42) (.tmp 45) 46 rfl rfl rfl HST.out ?_))
            go_roundw
            case rel => first | exact R.out | ((repeat apply Exists.intro); exact ⟨R.out, rfl⟩)
            case measure => simp [intOf]; omega
        · obtain ⟨m, rfl⟩ : ∃ m, n = m + 1 := ⟨n - 1, by omega⟩
          obtain ⟨x, hx⟩ : ∃ x, P[m]? = some x := ⟨_, List.getElem?_eq_getElem (by rw [HP.out.1]; omega)⟩
          obtain ⟨bp, op, rfl, hpx⟩ := place_cell (HOWN.out.move fun g _ hl => HBR.out.block g hl).row hx
          have hxk := HP.out.2.1 x (List.mem_of_getElem? hx)
          obtain ⟨wx, hwx⟩ : ∃ z, L[x]? = some z := ⟨_, List.getElem?_eq_getElem (by omega)⟩
          obtain ⟨bw, ow, e5, hrx⟩ := (HI.out.on (below_on HB.out HBR.out)).get (k := x) (c := wtC wx) (by rw [List.getElem?_map, hwx]; rfl)
          subst e5
          obtain ⟨bw', ow', e7, hry⟩ := (HI.out.on (below_on HB.out HBR.out)).get (k := k) (c := wtC y) (by rw [List.getElem?_map, HY.out]; rfl)
          cases e7
          have f0 := fun n os => range_grown hrx n os 0 _ rfl
          have f1 := fun n os => range_grown hrx n os 1 _ rfl
          have g0 := fun n os => range_grown hry n os 0 _ rfl
          have g1 := fun n os => range_grown hry n os 1 _ rfl
          simp only [Nat.add_zero] at f0 f1 g0 g1
          have p0 := fun n os => Go.cell_grown (World.block_lt_of_cell? _ _ hpx) hpx n os
          have C := hide (fun w => rless_any wx y (HL.out wx (List.mem_of_getElem? hwx)) (HL.out y (List.mem_of_getElem? HY.out)) w)
          have ex : L.getD x default = wx := by rw [List.getD, hwx]; rfl
          have hwr : IntKind.i64.wrap (m : Int) = (m : Int) := by simp [IntKind.wrap, IntKind.bits, IntKind.signed]; omega
          have hm0 : ¬ (m : Int) < 0 := by omega
          have hm1 : (m : Int) < (k : Int) := by omega
          have hx1 : (x : Int) < (L.length : Int) := by omega
          have hpos : (0 : Int) < (m : Int) + 1 := by omega
          have HX := hide hx
          have HEX := hide ex
          clear hrx hry hpx hwx ex hx
          cases hl : lessW wx y with
          | true =>
            rw [hl] at C
            have R : Hid (∀ r os, Sinking w0 L P k (.int .i64 ((m : Nat) : Int)) (grow (wr.drewN r) os)) := hide (fun r os => ⟨m, by omega, rfl, below_grow HBR.out r os, fun j hj z hz => by
              by_cases e : j = m
              · rw [e, HX.out] at hz
                cases hz
                rw [HEX.out, HEY.out]
                exact hl
              · exact HALL.out j (by omega) z hz⟩)
            clear hl
            go_wp2_with fail
            quiet_grown_cheap (first | (go_at_call 23; first | (refine Calls.grown_of (C.out _)) | fail))
            have RR := hide (R.out nq osq)
            clear R f0 f1 g0 g1 p0 C HG HGO
            generalize grow (wr.drewN nq) osq = W3 at *
            go_wp2
            go_roundw
            case rel => first | exact RR.out | ((repeat apply Exists.intro); exact ⟨RR.out, rfl⟩)
            case measure => simp [intOf]
          | false =>
            rw [hl] at C
            have HN : Hid (∃ p, P[m + 1 - 1]? = some p ∧ lessW (L.getD p default) (L.getD k default) = false) := hide ⟨x, by rw [Nat.add_sub_cancel]; exact HX.out, by rw [HEX.out, HEY.out]; exact hl⟩
            clear hl
            go_wp2_with fail
            quiet_grown_cheap (first | (go_at_call 23; first | (refine Calls.grown_of (C.out _)) | fail))
            have hb := HG.out nq osq
            have ho := HGO.out nq osq
            clear f0 f1 g0 g1 p0 C HG HGO
            generalize grow (wr.drewN nq) osq = W3 at *
            obtain ⟨v1, w1, v2, w2, v3, w3, tt, hto, r1, r2, r3, hown3, hb3⟩ := splice_runs w W3 P k (m + 1) k ⟨bp, op, none⟩ pc HP.out.1 hnk (by omega) hb ho rfl
            simp only [Nat.mul_one] at hto r3
            clear hb ho
            have HSQ := hide r1
            have HSR := hide r2
            have HST := hide r3
            have R : Hid (Ordering w L v3 (.int .i64 ((k + 1 : Nat) : Int)) w3) := hide ⟨k + 1, _, by omega, rfl, ins_ordd HP.out hnk HALL.out (Or.inr HN.out), hb3, hown3, fun h => by omega⟩
            clear r1 r2 r3 hown3 hb3
            go_wp2_with (at_builtin; first | (refine wp_app rfl (.tmp 33) (.tmp 36) 46 rfl rfl rfl HSQ.out ?_) | (refine wp_app rfl (.tmp 38) (.tmp 40) 46 rfl rfl rfl HSR.out ?_) | (refine wp_app rfl (.tmp 42) (.tmp 45) 46 rfl rfl rfl HST.out ?_))
            go_roundw
            case rel => first | exact R.out | ((repeat apply Exists.intro); exact ⟨R.out, rfl⟩)
            case measure => simp [intOf]; omega
    · have hk2 : (L.length : Int) ≤ (k : Int) := by omega
      obtain rfl : k = L.length := by omega
      have R : Hid (Ordd L P ∧ Below w.heap.size w w0 ∧ RowOwn w0 w.heap.size 3 1 (.slice pa L.length pc) (plC P)) := hide ⟨HP.out.ordd, HB.out, HOWN.out⟩
      go_wp2
      go_ret
      exact ⟨_, P, rfl, R.out⟩

end Go.Proofs.YtbeegcpmpgdbnaaDoor
