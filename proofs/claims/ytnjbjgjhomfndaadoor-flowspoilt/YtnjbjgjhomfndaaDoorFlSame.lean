/-
  What pappusref06.Same answers at this program of two rows of the same items.
-/
import Derived.Test.YtnjbjgjhomfndaaDoorFlItems
import Derived.Test.YtnjbjgjhomfndaaDoorSame
namespace Go.Proofs.YtnjbjgjhomfndaaDoor
open Go.RowKit

/-- The slice bears the items. -/
def ItemsAt (w : World) (v : Value) (L : List It) : Prop :=
  ∃ (a : Option Addr) (cap : Nat), v = .slice a L.length cap ∧ L.length ≤ cap ∧ cap ≤ 9223372036854775807 ∧
    (0 < L.length → ∃ b off : Nat, a = some ⟨b, off, none⟩ ∧ ∀ i x, L[i]? = some x → ∃ bv, w.cell? ⟨b, off + 3 * i, none⟩ = some (.string (strOfNums x.c)) ∧ w.cell? ⟨b, off + 3 * i + 1, none⟩ = some bv ∧ w.cell? ⟨b, off + 3 * i + 2, none⟩ = some (.int .i64 x.e) ∧ Bytes w bv x.b)
theorem ItemsAt.at {w w' : World} {v : Value} {L : List It} (h : ItemsAt w v L) (hb : ∀ p : Addr, p.block < w.heap.size → w'.cell? p = w.cell? p) : ItemsAt w' v L := by
  obtain ⟨a, cap, h1, h2, h3, h4⟩ := h
  refine ⟨a, cap, h1, h2, h3, fun hl => ?_⟩
  obtain ⟨b, off, rfl, hc⟩ := h4 hl
  refine ⟨b, off, rfl, fun i x hx => ?_⟩
  obtain ⟨bv, c0, c1, c2, c3⟩ := hc i x hx
  exact ⟨bv, (hb _ (World.block_lt_of_cell? _ _ c0)).trans c0, (hb _ (World.block_lt_of_cell? _ _ c1)).trans c1, (hb _ (World.block_lt_of_cell? _ _ c2)).trans c2, c3.at hb⟩
theorem ItemsAt.below {w w' : World} {v : Value} {L : List It} (h : ItemsAt w v L) (hb : Below w.heap.size w w') : ItemsAt w' v L := h.at fun _ hp => hb.cell hp
theorem Items.read {w : World} {base : Nat} {av : Nat → Prop} {v : Value} {L : List It} (h : Items w base av v L) : ItemsAt w v L := by
  obtain ⟨a, cap, h1, h2, h3⟩ := h.length
  refine ⟨a, cap, h1, h2, h3, fun hl => ?_⟩
  obtain ⟨D, rfl, hrow, -, hbod⟩ := h
  rw [List.length_map] at hl
  rcases id hrow.2 with ⟨-, h0⟩ | ⟨g, cap', cur, rfl, -⟩
  · omega
  · simp only [Value.slice.injEq] at h1
    obtain ⟨rfl, -, -⟩ := h1
    refine ⟨g, 0, rfl, fun i x hx => ?_⟩
    rw [List.getElem?_map] at hx
    obtain ⟨y, hy, rfl⟩ := Option.map_eq_some_iff.1 hx
    obtain ⟨e0, e1, e2⟩ := rowC_get D i y hy
    have hlt : i < D.length := (List.getElem?_eq_some_iff.1 hy).1
    have hc : ∀ j, j < D.length * 3 → w.cell? ⟨g, 0 + j, none⟩ = (rowC D)[j]? := fun j hj => by rw [Nat.zero_add]; exact World.ownsRow.cellAt hrow j hj
    exact ⟨y.2, (hc _ (by omega)).trans e0, by rw [Nat.add_assoc]; exact (hc _ (by omega)).trans e1, by rw [Nat.add_assoc]; exact (hc _ (by omega)).trans e2, (hbod y (List.mem_of_getElem? hy)).2.self⟩

/-- What holds at the head of a round of Same. -/
def Saming (w : World) (n : Nat) (i : Value) (wr : World) : Prop := ∃ k : Nat, k ≤ n ∧ i = .int .i64 k ∧ Below w.heap.size w wr

set_option maxRecDepth 100000 in
set_option maxHeartbeats 1000000 in
theorem same6_any (L : List It) (v u : Value) (w : World) (hv : ItemsAt w v L) (hu : ItemsAt w u L) :
    Calls Tryd.prog 12 #[v, u] w fun e w' => e = .returned (.bool true) ∧ Below w.heap.size w w' := by
  have HV := hide hv
  have HU := hide hu
  obtain ⟨a, cap, rfl, hc1, hc2, hc3⟩ := hv
  obtain ⟨a', cap', rfl, hd1, hd2, hd3⟩ := hu
  clear hc3 hd3
  have HS : Hid (Saming w L.length (.int .i64 0) w) := hide ⟨0, by omega, rfl, Below.refl _ _⟩
  go_enter Tryd.func12, Tryd.ntmps12
  go_wp2
  go_loopw [14] (fun i wr => Saming w L.length i wr) (fun i _ => L.length - (intOf i).toNat)
  case atStart => exact HS.out
  case round =>
    clear HS
    obtain ⟨k, hk, rfl, hB⟩ := hrel
    have HB := hide hB
    clear hB
    by_cases hlt : k < L.length
    · obtain ⟨a1, cap1, e1, -, -, h5⟩ := HV.out
      obtain ⟨a2, cap2, e2, -, -, h6⟩ := HU.out
      obtain ⟨b, off, rfl, hcb⟩ := h5 (by omega)
      obtain ⟨b', off', rfl, hcb'⟩ := h6 (by omega)
      simp only [Value.slice.injEq, true_and] at e1 e2
      obtain ⟨rfl, rfl⟩ := e1
      obtain ⟨rfl, rfl⟩ := e2
      obtain ⟨x, hx⟩ : ∃ x, L[k]? = some x := ⟨_, List.getElem?_eq_getElem hlt⟩
      obtain ⟨bv, c0, c1, c2, c3⟩ := hcb k x hx
      obtain ⟨bv', d0, d1, d2, d3⟩ := hcb' k x hx
      have on : ∀ {p : Addr} {y : Value}, w.cell? p = some y → wr.cell? p = some y := fun h => (HB.out.cell (World.block_lt_of_cell? _ _ h)).trans h
      have k0 := on c0
      have k1 := on c1
      have k2 := on c2
      have j0 := on d0
      have j1 := on d1
      have j2 := on d2
      have HC3 := hide (c3.below HB.out)
      have HD3 := hide (d3.below HB.out)
      obtain ⟨pa, pc, rfl, -, -⟩ := c3.form
      obtain ⟨pa', pc', rfl, -, -⟩ := d3.form
      have SM := hide (fun wx p q (h : Bytes wx p x.b) (j : Bytes wx q x.b) => same_any x.b x.b p q wx h j)
      rw [decide_eq_true rfl] at SM
      clear hcb hcb' c0 c1 c2 c3 d0 d1 d2 d3 on h5 h6 hx
      generalize strOfNums x.c = C at *
      generalize x.e = E at *
      have hk1 : (k : Int) < (L.length : Int) := by omega
      have hmul : off + k * 3 = off + 3 * k := by omega
      have hmul' : off' + k * 3 = off' + 3 * k := by omega
      go_upto_region 6 with fail
      have hal : Below wr.heap.size wr (wr.alloc (.cells #[.string C, .slice pa x.b.length pc, .int .i64 E] 52)) := (Below.refl _ _).alloc (Nat.le_refl _) _
      have hn := range_new wr [.string C, .slice pa x.b.length pc, .int .i64 E] 52
      have n0 := hn 0 _ rfl
      have n1 := hn 1 _ rfl
      have n2 := hn 2 _ rfl
      simp only [Nat.add_zero, Nat.zero_add] at n0 n1 n2
      have on : ∀ {p : Addr} {y : Value}, wr.cell? p = some y → (wr.alloc (.cells #[.string C, .slice pa x.b.length pc, .int .i64 E] 52)).cell? p = some y := fun h => (hal.cell (World.block_lt_of_cell? _ _ h)).trans h
      have m0 := on j0
      have m1 := on j1
      have m2 := on j2
      have hC3 := HC3.out.below hal
      have hD3 := HD3.out.below hal
      have HB1 := hide (below_on HB.out hal)
      clear hn on j0 j1 j2 k0 k1 k2 HC3 HD3 hal
      generalize wr.alloc (.cells #[.string C, .slice pa x.b.length pc, .int .i64 E] 52) = W at *
      generalize wr.heap.size = g at *
      have S := hide (fun m => SM.out (W.drewN m) _ _ (hC3.below (⟨rfl, rfl, rfl, Nat.le_refl _, fun _ _ => rfl⟩ : Below W.heap.size W (W.drewN m))) (hD3.below (⟨rfl, rfl, rfl, Nat.le_refl _, fun _ _ => rfl⟩ : Below W.heap.size W (W.drewN m))))
      clear hC3 hD3 SM
      generalize x.b.length = N at *
      go_quiet ((go_at_call 21; exact Calls.quiet_of (S.out _)))
      have R : Hid (Saming w L.length (.int .i64 ((k + 1 : Nat) : Int)) (W.drewN nq)) := hide ⟨k + 1, by omega, rfl, HB1.out.trans ⟨rfl, rfl, rfl, Nat.le_refl _, fun _ _ => rfl⟩⟩
      clear HB1
      generalize W.drewN nq = W2 at *
      go_wp2
      go_roundw
      case rel => first | exact R.out | ((repeat apply Exists.intro); exact ⟨R.out, rfl⟩)
      case measure => simp [intOf]; omega
    · have hk2 : (L.length : Int) ≤ (k : Int) := by omega
      go_wp2
      go_ret
      exact ⟨rfl, HB.out⟩

end Go.Proofs.YtnjbjgjhomfndaaDoor
