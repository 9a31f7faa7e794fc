/-
  What pappusref10.Worst answers at this program, whatever the weights.
-/
import Derived.Test.YtbeegcpmpgdbnaaDoorFeeSoP
import Derived.Test.YtbeegcpmpgdbnaaDoorRefLess10
namespace Go.Proofs.YtbeegcpmpgdbnaaDoor
open Go.RowKit Go.Shelf Go.Lib Go.Sort

/-- Is none of the first so many less than the k-th? -/
def leastK (L : List Wt) (k : Nat) : Nat → Bool
  | 0 => true
  | i + 1 => leastK L k i && !lessW (L.getD i default) (L.getD k default)
theorem leastK_true (L : List Wt) (k : Nat) : ∀ n, leastK L k n = true ↔ ∀ i, i < n → lessW (L.getD i default) (L.getD k default) = false
  | 0 => by simp [leastK]
  | n + 1 => by
    rw [leastK, Bool.and_eq_true, leastK_true L k n]
    constructor
    · rintro ⟨h1, h2⟩ i hi
      by_cases e : i = n
      · subst e
        simpa using h2
      · exact h1 i (by omega)
    · intro h
      exact ⟨fun i hi => h i (by omega), by rw [h n (by omega)]; rfl⟩
/-- The first that none is less than is the worst. -/
theorem worst_at {L : List Wt} {k : Nat} (hk : k < L.length) (h1 : ∀ j, j < k → leastK L j L.length = false) (h2 : leastK L k L.length = true) : worstK L L.length = (k : Int) := by
  obtain ⟨j, hj, hjl, hs1, hs2⟩ := worstK_spec L L.length (Nat.le_refl _) (by omega)
  rw [hj]
  have h3 := (leastK_true L j L.length).2 (fun i hi => hs1 i hi)
  rcases Nat.lt_trichotomy j k with h | h | h
  · rw [h1 j h] at h3
    cases h3
  · rw [h]
  · have a := hs2 k h
    rw [(leastK_true L k L.length).1 h2 j hjl] at a
    cases a
theorem worst_none {L : List Wt} (h1 : ∀ j, j < L.length → leastK L j L.length = false) : worstK L L.length = -1 := by
  rcases Nat.eq_zero_or_pos L.length with h | h
  · rw [h]
    rfl
  · obtain ⟨j, hj, hjl, hs1, hs2⟩ := worstK_spec L L.length (Nat.le_refl _) (by omega)
    have h3 := (leastK_true L j L.length).2 (fun i hi => hs1 i hi)
    rw [h1 j hjl] at h3
    cases h3
def Seeking (w : World) (L : List Wt) (i : Value) (wr : World) : Prop := ∃ k : Nat, k ≤ L.length ∧ i = .int .i64 k ∧ Below w.heap.size w wr ∧ ∀ j, j < k → leastK L j L.length = false
def Leasting (w : World) (L : List Wt) (k : Nat) (b i : Value) (wr : World) : Prop := ∃ j : Nat, j ≤ L.length ∧ i = .int .i64 j ∧ b = .bool (leastK L k j) ∧ Below w.heap.size w wr
theorem info_rwt : (Tryd.prog.info? 55).map (·.size) = some 2 := by kernel_rfl

set_option maxRecDepth 100000 in
set_option maxHeartbeats 2000000 in
theorem rworst_any (L : List Wt) (hok : ∀ x ∈ L, WtOk x) (_hn : L.length ≤ 1000000) (v : Value) (w : World) (h : RowAt w 2 v (L.map wtC)) :
    Calls Tryd.prog 21 #[v] w fun e w' => e = .returned (.int .i64 (worstK L L.length)) ∧ Below w.heap.size w w' := by
  have mixed : Tryd.prog.follows .mixedOrders = true := by kernel_rfl
  have aE := Tryd.isAgg55
  have zE := Tryd.sizeOf55
  have hf := h.form
  rw [List.length_map] at hf
  obtain ⟨a, cap, rfl, hc1, hc2⟩ := hf
  have HI := hide h
  have HL := hide hok
  have HS : Hid (Seeking w L (.int .i64 0) w) := hide ⟨0, Nat.zero_le _, rfl, Below.refl _ _, fun j hj => absurd hj (by omega)⟩
  clear h hok hc1 hc2
  go_enter Tryd.func21, Tryd.ntmps21
  go_wp2
  go_loopw [9] (fun i wr => Seeking w L i wr) (fun i _ => L.length - (intOf i).toNat)
  case atStart => exact HS.out
  case round =>
    clear HS
    rename World => w0
    obtain ⟨k, hk, rfl, hB, hno⟩ := hrel
    have HB0 := hide hB
    have HNO := hide hno
    clear hB hno
    by_cases hlt : k < L.length
    · obtain ⟨y, hy⟩ : ∃ y, L[k]? = some y := ⟨_, List.getElem?_eq_getElem hlt⟩
      have hk1 : (k : Int) < (L.length : Int) := by omega
      have ey : L.getD k default = y := by rw [List.getD, hy]; rfl
      have HS : Hid (Leasting w0 L k (.bool true) (.int .i64 0) w0) := hide ⟨0, Nat.zero_le _, rfl, rfl, Below.refl _ _⟩
      have HY := hide hy
      have HEY := hide ey
      clear hy ey
      go_wp2
      go_loopw [4, 14] (fun b i wr => Leasting w0 L k b i wr) (fun _ i _ => L.length - (intOf i).toNat)
      case atStart => exact HS.out
      case round =>
        clear HS
        obtain ⟨i, hi, rfl, rfl, hB⟩ := hrel
        by_cases hlt2 : i < L.length
        · obtain ⟨x, hx⟩ : ∃ x, L[i]? = some x := ⟨_, List.getElem?_eq_getElem hlt2⟩
          obtain ⟨b, off, rfl, hr⟩ := (HI.out.on (below_on HB0.out hB)).get (k := i) (c := wtC x) (by rw [List.getElem?_map, hx]; rfl)
          have hi1 : (i : Int) < (L.length : Int) := by omega
          have HXR := hide hr
          have HB := hide hB
          have HX := hide hx
          have H1 : Hid (∀ u ∈ wtC x, u.oneCell' = true) := hide (by
            intro u hu
            simp only [wtC, List.mem_cons, List.not_mem_nil, or_false] at hu
            rcases hu with rfl | rfl <;> rfl)
          have HT : Hid (∀ w : World, (w.alloc (.cells #[.int .u64 0, .int .i64 0] 55)).there w.heap.size 0 (wtC x).length) := hide (fun w => there_new w _ _)
          clear hr hB hx
          go_upto_region 8 with (first | (refine wpList_load_mid rfl 55 (.tmp 16) rfl b (off + i * 2) rfl (wtC x) _ HXR.out Tryd.underlying55 rfl info_rwt ?_) | (refine wp_store_row rfl 55 (.tmp 6) (.tmp 17) rfl wr.heap.size 0 (wtC x) rfl rfl (HT.out wr) info_rwt H1.out ?_))
          have hW : ((wr.alloc (.cells #[.int .u64 0, .int .i64 0] 55)).setCells wr.heap.size 0 (wtC x)).rangeAt wr.heap.size 0 (wtC x) := World.rangeAt_setCells_same _ _ _ _ (HT.out wr)
          have hB2 : Below wr.heap.size wr ((wr.alloc (.cells #[.int .u64 0, .int .i64 0] 55)).setCells wr.heap.size 0 (wtC x)) := below_sets (Nat.le_refl _) _ _ _ ((Below.refl _ _).alloc (Nat.le_refl _) _)
          generalize (wr.alloc (.cells #[.int .u64 0, .int .i64 0] 55)).setCells wr.heap.size 0 (wtC x) = W2 at *
          have HB2 := hide (below_on HB.out hB2)
          have fx := fun n os => range_grown hW n os 0 _ rfl
          have fx1 := fun n os => range_grown hW n os 1 _ rfl
          simp only [Nat.zero_add, Nat.add_zero] at fx fx1
          clear hW hB2 HXR H1 HT HB
          generalize wr.heap.size = gb at *
          have HEX : Hid (L.getD i default = x) := hide (by rw [List.getD, HX.out]; rfl)
          obtain ⟨r, hr⟩ : ∃ r, r = leastK L k i := ⟨_, rfl⟩
          have HR := hide hr
          rw [← hr]
          clear hr
          cases r with
          | false =>
            have HE : Hid (leastK L k (i + 1) = false) := hide (by rw [leastK, ← HR.out]; rfl)
            go_wp2_with fail
            quiet_grown_cheap (first | (go_at_call 23; first | (refine Calls.grown_of (C.out _)) | fail))
            have R : Hid (Leasting w0 L k (.bool (leastK L k (i + 1))) (.int .i64 ((i + 1 : Nat) : Int)) (grow (W2.drewN nq) osq)) := hide ⟨i + 1, by omega, rfl, rfl, below_grow HB2.out _ _⟩
            rw [HE.out] at R
            clear fx fx1 
            generalize grow (W2.drewN nq) osq = W3 at *
            go_wp2
            go_roundw
            case rel => first | exact R.out | ((repeat apply Exists.intro); exact ⟨R.out, rfl⟩)
            case measure => simp [intOf]; omega
          | true =>
            obtain ⟨b', off', e', hry⟩ := (HI.out.on (below_on HB0.out HB2.out)).get (k := k) (c := wtC y) (by rw [List.getElem?_map, HY.out]; rfl)
            cases e'
            have fy := fun n os => range_grown hry n os 0 _ rfl
            have fy1 := fun n os => range_grown hry n os 1 _ rfl
            simp only [Nat.add_zero] at fy fy1
            have C := hide (fun w => rless_any x y (HL.out x (List.mem_of_getElem? HX.out)) (HL.out y (List.mem_of_getElem? HY.out)) w)
            have HE0 : Hid (leastK L k (i + 1) = !lessW x y) := hide (by rw [leastK, ← HR.out, HEX.out, HEY.out]; rfl)
            clear hry
            cases hl : lessW x y with
            | true =>
              rw [hl] at C HE0
              have HE : Hid (leastK L k (i + 1) = false) := hide HE0.out
              clear hl HE0
              go_wp2_with fail
              quiet_grown_cheap (first | (go_at_call 23; first | (refine Calls.grown_of (C.out _)) | fail))
              have R : Hid (Leasting w0 L k (.bool (leastK L k (i + 1))) (.int .i64 ((i + 1 : Nat) : Int)) (grow (W2.drewN nq) osq)) := hide ⟨i + 1, by omega, rfl, rfl, below_grow HB2.out _ _⟩
              rw [HE.out] at R
              clear fx fx1 fy fy1
              generalize grow (W2.drewN nq) osq = W3 at *
              go_wp2
              go_roundw
              case rel => first | exact R.out | ((repeat apply Exists.intro); exact ⟨R.out, rfl⟩)
              case measure => simp [intOf]; omega
            | false =>
              rw [hl] at C HE0
              have HE : Hid (leastK L k (i + 1) = true) := hide HE0.out
              clear hl HE0
              go_wp2_with fail
              quiet_grown_cheap (first | (go_at_call 23; first | (refine Calls.grown_of (C.out _)) | fail))
              have R : Hid (Leasting w0 L k (.bool (leastK L k (i + 1))) (.int .i64 ((i + 1 : Nat) : Int)) (grow (W2.drewN nq) osq)) := hide ⟨i + 1, by omega, rfl, rfl, below_grow HB2.out _ _⟩
              rw [HE.out] at R
              clear fx fx1 fy fy1
              generalize grow (W2.drewN nq) osq = W3 at *
              go_wp2
              go_roundw
              case rel => first | exact R.out | ((repeat apply Exists.intro); exact ⟨R.out, rfl⟩)
              case measure => simp [intOf]; omega
        · have hi2 : (L.length : Int) ≤ (i : Int) := by omega
          obtain rfl : i = L.length := by omega
          have HB5 := hide (below_on HB0.out hB)
          clear hB HB0
          obtain ⟨r, hr⟩ : ∃ r, r = leastK L k L.length := ⟨_, rfl⟩
          have HR := hide hr
          rw [← hr]
          clear hr
          cases r with
          | true =>
            have HQ := hide (worst_at hlt HNO.out HR.out.symm)
            go_wp2
            go_ret
            exact ⟨by rw [HQ.out]; first | done | rfl, HB5.out⟩
          | false =>
            have R : Hid (Seeking w L (.int .i64 ((k + 1 : Nat) : Int)) wr) := hide ⟨k + 1, by omega, rfl, HB5.out, fun j hj => by
              by_cases e : j = k
              · rw [e]
                exact HR.out.symm
              · exact HNO.out j (by omega)⟩
            go_wp2
            go_roundw
            case rel => first | exact R.out | ((repeat apply Exists.intro); exact ⟨R.out, rfl⟩)
            case measure => simp [intOf]; omega
    · have hk2 : (L.length : Int) ≤ (k : Int) := by omega
      obtain rfl : k = L.length := by omega
      have HQ := hide (worst_none HNO.out)
      go_wp2
      go_ret
      exact ⟨by rw [HQ.out]; first | done | rfl, HB0.out⟩

end Go.Proofs.YtbeegcpmpgdbnaaDoor
