/-
  What sha.spread answers at this program.
-/
import Derived.Test.YtbhninaaeeoamabDoorArrWalk
import Derived.Test.YtbhninaaeeoamabDoorShaTurn
import Derived.Deep.RegionHeld3
import Derived.BigQuiet
import Derived.WalkLawsBesides
namespace Go.Proofs.YtbhninaaeeoamabDoor
open Go.RowKit

theorem back_length (bs : List Int) : ∀ n, (back bs n).length = n
  | 0 => rfl
  | n + 1 => by simp [back, back_length bs n]
/-- An array of 64 numbers of which those of l stand, the last one first. -/
def padded (l : List Int) : List Int := l.reverse ++ List.replicate (64 - l.length) 0
theorem padded_length {l : List Int} (h : l.length ≤ 64) : (padded l).length = 64 := by simp [padded]; omega
theorem padded_get {l : List Int} (j : Nat) (h : j < l.length) : (padded l).getD (l.length - 1 - j) 0 = l.getD j 0 := by
  have h1 : l.length - 1 - j < l.reverse.length := by simp; omega
  simp only [padded, List.getD, List.getElem?_append_left h1, List.getElem?_reverse (by omega : l.length - 1 - j < l.length)]
  rw [show l.length - 1 - (l.length - 1 - j) = j by omega]
theorem padded_set {l : List Int} (h : l.length < 64) (z : Int) : (padded l).set l.length z = padded (z :: l) := by
  have h1 : 64 - l.length = (64 - (z :: l).length) + 1 := by simp; omega
  simp only [padded, List.reverse_cons, List.append_assoc]
  rw [h1, List.set_append_right _ _ (by simp)]
  simp [List.replicate_succ]
theorem padded_full {l : List Int} (h : l.length = 64) : padded l = l.reverse := by simp [padded, h]

/-- What holds at the head of a round of the loops. -/
def Spread (w : World) (bs : List Int) (k : Nat) (wr : World) : Prop :=
  Below w.heap.size w wr ∧ Arr wr w.heap.size 0 .u8 bs ∧ Arr wr (w.heap.size + 1) 0 .u32 (List.replicate 64 0) ∧ Arr wr (w.heap.size + 1 + 1) 0 .u32 (padded (back bs k))
def Spread1 (w : World) (bs : List Int) (i : Value) (wr : World) : Prop := ∃ k : Nat, k ≤ 16 ∧ i = .int .i64 k ∧ Spread w bs k wr
def Spread2 (w : World) (bs : List Int) (i : Value) (wr : World) : Prop := ∃ k : Nat, 16 ≤ k ∧ k ≤ 64 ∧ i = .int .i64 k ∧ Spread w bs k wr
theorem Spread.next {w wr : World} {bs : List Int} {k : Nat} (h : Spread w bs k wr) (hk : k < 64) (z : Int) (hz : back bs (k + 1) = z :: back bs k) : Spread w bs (k + 1) (wr.setCell ⟨w.heap.size + 1 + 1, k, none⟩ (.int .u32 z)).drew := by
  obtain ⟨h1, h2, h3, h4⟩ := h
  refine ⟨(h1.setCell (by simp; omega) _).drew, (h2.beside _ _ (Or.inl (by simp; omega))).drew, (h3.beside _ _ (Or.inl (by simp))).drew, ?_⟩
  have hl := back_length bs k
  have := h4.set0 k (by rw [padded_length] <;> omega) z
  rw [show (padded (back bs k)).set k z = padded (z :: back bs k) by rw [← padded_set (by omega), hl]] at this
  rw [hz]
  exact this.drew
theorem Spread.drew {w wr : World} {bs : List Int} {k : Nat} (h : Spread w bs k wr) : Spread w bs k wr.drew := ⟨h.1.drew, h.2.1.drew, h.2.2.1.drew, h.2.2.2.drew⟩
theorem Spread.start (w : World) (bs : List Int) (cs ds : Array Value) (hc : cs = (vals .u32 (List.replicate 64 0)).toArray) (hd : ds = (vals .u32 (List.replicate 64 0)).toArray) (t t' t'' : TypeId) :
    Spread w bs 0 (((w.alloc (.cells (vals .u8 bs).toArray t)).alloc (.cells cs t')).alloc (.cells ds t'')) := by
  subst hc hd
  refine ⟨(((Below.refl _ _).alloc (Nat.le_refl _) _).alloc (by rw [alloc_size]; omega) _).alloc (by rw [alloc_size, alloc_size]; omega) _, ((Arr.new w .u8 bs t).alloc _).alloc _, ?_, ?_⟩
  · have := (Arr.new (w.alloc (.cells (vals .u8 bs).toArray t)) .u32 (List.replicate 64 0) t').alloc (.cells (vals .u32 (List.replicate 64 0)).toArray t'')
    rwa [alloc_size] at this
  · have := Arr.new ((w.alloc (.cells (vals .u8 bs).toArray t)).alloc (.cells (vals .u32 (List.replicate 64 0)).toArray t')) .u32 (List.replicate 64 0) t''
    rwa [alloc_size, alloc_size] at this

theorem info_w : (Tryd.prog.info? 82).map (·.size) = some 64 := by kernel_rfl
set_option maxHeartbeats 1000000 in
theorem spread_any (bs : List Int) (w : World) (hb : bs.length = 64) :
    Calls Tryd.prog 42 #[.agg (vals .u8 bs).toArray] w fun e w' => e = .returned (.agg (vals .u32 (sched bs)).toArray) ∧ Below w.heap.size w w' := by
  have HL := hide hb
  have T7 := hide (fun x w => turn_any x 7 w (by omega) (by omega))
  have T18 := hide (fun x w => turn_any x 18 w (by omega) (by omega))
  have T17 := hide (fun x w => turn_any x 17 w (by omega) (by omega))
  have T19 := hide (fun x w => turn_any x 19 w (by omega) (by omega))
  clear hb
  go_enter Tryd.func42, Tryd.ntmps42
  go_wp2
  go_loopw [10] (fun i wr => Spread1 w bs i wr) (fun i _ => 16 - (intOf i).toNat)
  case atStart => exact ⟨0, by omega, rfl, Spread.start w bs _ _ rfl rfl _ _ _⟩
  case round =>
    obtain ⟨k, hk, rfl, hS⟩ := hrel
    have HS := hide hS
    by_cases hlt : k < 16
    · have R := hide (fun z hz => Spread.next hS (by omega) z hz)
      obtain ⟨-, hB, -, hW⟩ := hS
      have c0 := hB.cell0 (4 * k) (by have := HL.out; omega)
      have c1 := hB.cell0 (4 * k + 1) (by have := HL.out; omega)
      have c2 := hB.cell0 (4 * k + 2) (by have := HL.out; omega)
      have c3 := hB.cell0 (4 * k + 3) (by have := HL.out; omega)
      have hkl : k < (padded (back bs k)).length := by rw [padded_length (by rw [back_length]; omega)]; omega
      have c4 := hW.cell0 k hkl
      have c5 := hW.free0 k hkl
      have HN : Hid (back bs (k + 1) = wordI (bs.getD (4 * k) 0) (bs.getD (4 * k + 1) 0) (bs.getD (4 * k + 2) 0) (bs.getD (4 * k + 3) 0) :: back bs k) := by
        refine hide ?_
        simp only [back, if_pos hlt]
      clear hB hW hkl
      generalize bs.getD (4 * k) 0 = x0 at *
      generalize bs.getD (4 * k + 1) 0 = x1 at *
      generalize bs.getD (4 * k + 2) 0 = x2 at *
      generalize bs.getD (4 * k + 3) 0 = x3 at *
      generalize (padded (back bs k)).getD k 0 = x4 at *
      obtain ⟨q0, hq0⟩ : ∃ q, q = 4 * k := ⟨_, rfl⟩
      obtain ⟨q1, hq1⟩ : ∃ q, q = 4 * k + 1 := ⟨_, rfl⟩
      obtain ⟨q2, hq2⟩ : ∃ q, q = 4 * k + 2 := ⟨_, rfl⟩
      obtain ⟨q3, hq3⟩ : ∃ q, q = 4 * k + 3 := ⟨_, rfl⟩
      rw [← hq0] at c0
      rw [← hq1] at c1
      rw [← hq2] at c2
      rw [← hq3] at c3
      have e0 : IntKind.i64.wrap (4 * (k : Int)) = (q0 : Int) := wrap_small (by omega) (by omega)
      have e1 : IntKind.i64.wrap ((q0 : Int) + 1) = (q1 : Int) := wrap_small (by omega) (by omega)
      have e2 : IntKind.i64.wrap ((q0 : Int) + 2) = (q2 : Int) := wrap_small (by omega) (by omega)
      have e3 : IntKind.i64.wrap ((q0 : Int) + 3) = (q3 : Int) := wrap_small (by omega) (by omega)
      have b0 : (q0 : Int) < 64 := by omega
      have b1 : (q1 : Int) < 64 := by omega
      have b2 : (q2 : Int) < 64 := by omega
      have b3 : (q3 : Int) < 64 := by omega
      have b4 : (k : Int) < 64 := by omega
      have HG : Hid (w.heap.size + 1 + 1 ≠ w.heap.size) := hide (by omega)
      clear hq0 hq1 hq2 hq3
      generalize hg0 : w.heap.size = g0 at *
      generalize hg2 : g0 + 1 + 1 = g2 at *
      clear hg0 hg2
      go_wp2
      go_region_held3 (fun wx => wx.cell? ⟨g0, q0, none⟩ = some (.int .u8 x0) ∧ wx.cell? ⟨g0, q1, none⟩ = some (.int .u8 x1) ∧ wx.cell? ⟨g0, q2, none⟩ = some (.int .u8 x2) ∧ wx.cell? ⟨g0, q3, none⟩ = some (.int .u8 x3)) (first | exact ⟨cell_keep c0 HG.out, cell_keep c1 HG.out, cell_keep c2 HG.out, cell_keep c3 HG.out⟩ | (go_keep; done)) (fail)
      go_wp2
      go_roundw
      case rel => exact ⟨k + 1, by omega, by go_num, R.out _ HN.out⟩
      case measure => simp [intOf]; omega
    · obtain rfl : k = 16 := by omega
      clear hlt hk HS
      have HS := hide hS
      clear hS
      go_wp2
      go_loopw [5] (fun i wr => Spread2 w bs i wr) (fun i _ => 64 - (intOf i).toNat)
      case atStart => exact ⟨16, by omega, by omega, rfl, HS.out⟩
      case round =>
        clear HS
        obtain ⟨k, hk0, hk, rfl, hS⟩ := hrel
        by_cases hlt : k < 64
        · have R := hide (fun (wx : World) (hx : Spread w bs k wx) (z : Int) (hz : back bs (k + 1) = z :: back bs k) => Spread.next hx hlt z hz)
          have HS := hide hS
          obtain ⟨-, -, -, hW⟩ := hS
          have hl : (padded (back bs k)).length = 64 := by rw [padded_length (by rw [back_length]; omega)]
          obtain ⟨q2, hq2⟩ : ∃ q, q = k - 2 := ⟨_, rfl⟩
          obtain ⟨q7, hq7⟩ : ∃ q, q = k - 7 := ⟨_, rfl⟩
          obtain ⟨q15, hq15⟩ : ∃ q, q = k - 15 := ⟨_, rfl⟩
          obtain ⟨q16, hq16⟩ : ∃ q, q = k - 16 := ⟨_, rfl⟩
          have c2 := hW.cell0 q2 (by omega)
          have c7 := hW.cell0 q7 (by omega)
          have c15 := hW.cell0 q15 (by omega)
          have c16 := hW.cell0 q16 (by omega)
          have c4 := hW.cell0 k (by omega)
          have c5 := hW.free0 k (by omega)
          have hbl := back_length bs k
          have p2 := padded_get (l := back bs k) 1 (by omega)
          have p7 := padded_get (l := back bs k) 6 (by omega)
          have p15 := padded_get (l := back bs k) 14 (by omega)
          have p16 := padded_get (l := back bs k) 15 (by omega)
          rw [hbl, show k - 1 - 1 = q2 by omega] at p2
          rw [hbl, show k - 1 - 6 = q7 by omega] at p7
          rw [hbl, show k - 1 - 14 = q15 by omega] at p15
          rw [hbl, show k - 1 - 15 = q16 by omega] at p16
          have HN : Hid (back bs (k + 1) = nextI (back bs k) :: back bs k) := by
            refine hide ?_
            simp only [back, if_neg (show ¬ k < 16 by omega)]
          rw [show nextI (back bs k) = addI (addI (addI (low1 ((back bs k).getD 1 0)) ((back bs k).getD 6 0)) (low0 ((back bs k).getD 14 0))) ((back bs k).getD 15 0) from rfl, ← p2, ← p7, ← p15, ← p16] at HN
          clear hW hl hbl p2 p7 p15 p16
          generalize (padded (back bs k)).getD q2 0 = x2 at *
          generalize (padded (back bs k)).getD q7 0 = x7 at *
          generalize (padded (back bs k)).getD q15 0 = x15 at *
          generalize (padded (back bs k)).getD q16 0 = x16 at *
          generalize (padded (back bs k)).getD k 0 = x4 at *
          have e2 : IntKind.i64.wrap ((k : Int) - 2) = (q2 : Int) := wrap_small (by omega) (by omega)
          have e7 : IntKind.i64.wrap ((k : Int) - 7) = (q7 : Int) := wrap_small (by omega) (by omega)
          have e15 : IntKind.i64.wrap ((k : Int) - 15) = (q15 : Int) := wrap_small (by omega) (by omega)
          have e16 : IntKind.i64.wrap ((k : Int) - 16) = (q16 : Int) := wrap_small (by omega) (by omega)
          have b2 : (q2 : Int) < 64 := by omega
          have b7 : (q7 : Int) < 64 := by omega
          have b15 : (q15 : Int) < 64 := by omega
          have b16 : (q16 : Int) < 64 := by omega
          have b4 : (k : Int) < 64 := by omega
          have n2 : Hid (k ≠ q2 ∧ k ≠ q7 ∧ k ≠ q15 ∧ k ≠ q16) := hide (by omega)
          clear hq2 hq7 hq15 hq16
          generalize hg0 : w.heap.size = g0 at *
          generalize hg2 : g0 + 1 + 1 = g2 at *
          clear hg0 hg2
          go_wp2
          go_region_held3 (fun wx => wx.cell? ⟨g2, q15, none⟩ = some (.int .u32 x15) ∧ wx.cell? ⟨g2, q2, none⟩ = some (.int .u32 x2)) (first | (go_keep; done)) (fail)
          go_wp2_with fail
          refine (T7.out _ _).mono ?_
          rintro e w1 ⟨rfl, rfl⟩
          go_wp2_with fail
          refine (T18.out _ _).mono ?_
          rintro e w1 ⟨rfl, rfl⟩
          go_wp2_with fail
          refine (T17.out _ _).mono ?_
          rintro e w1 ⟨rfl, rfl⟩
          go_wp2_with fail
          refine (T19.out _ _).mono ?_
          rintro e w1 ⟨rfl, rfl⟩
          go_wp2_with fail
          go_region_held3 (fun wx => wx.cell? ⟨g2, q7, none⟩ = some (.int .u32 x7) ∧ wx.cell? ⟨g2, q16, none⟩ = some (.int .u32 x16)) (first | exact ⟨cell_keep2 c7 n2.out.2.1, cell_keep2 c16 n2.out.2.2.2⟩ | (go_keep; done)) (fail)
          have RR : Hid (Spread2 w bs (.int .i64 ((k + 1 : Nat) : Int)) (wr.setCell ⟨g2, k, none⟩ (.int .u32 (addI (addI (addI (low1 x2) x7) (low0 x15)) x16))).drew.drew) := hide ⟨k + 1, by omega, by omega, rfl, R.out _ HS.out.drew _ HN.out⟩
          go_wp2
          go_roundw
          case rel => first | exact RR.out | ((repeat apply Exists.intro); exact ⟨RR.out, rfl⟩)
          case measure => simp [intOf]; omega
        · obtain rfl : k = 64 := by omega
          clear hlt hk
          obtain ⟨hbel, -, hR, hW⟩ := hS
          rw [padded_full (back_length bs 64)] at hW
          have HR : Hid (wr.there (w.heap.size + 1) 0 64) := hide (by simpa using hR.2)
          have HW := hide hW
          have HN : Hid ((back bs 64).reverse.length = 64) := hide (by simp [back_length])
          have HB := hide hbel
          clear hR hW hbel
          go_wp2_with (first | (refine wp_load_arr rfl 82 (.tmp 3) rfl _ 0 rfl .u32 _ HW.out _ Tryd.underlying82 rfl 64 info_w HN.out ?_) | (refine wp_store_arr rfl 82 (.tmp 2) (.tmp 88) rfl _ 0 .u32 (back bs 64).reverse rfl rfl 64 HR.out info_w HN.out ?_))
          refine ret_arr 2 82 rfl _ 0 rfl .u32 (back bs 64).reverse (Arr.put (by rw [HN.out]; exact HR.out)) _ Tryd.underlying82 rfl 64 info_w HN.out rfl ⟨rfl, below_sets (by omega) _ _ _ HB.out⟩

end Go.Proofs.YtbhninaaeeoamabDoor
