/-
  What sha.Block answers at this program: the plain block.
-/
import Derived.Test.YtbhninaaeeoamabDoorShaSpread
import Derived.Test.YtbhninaaeeoamabDoorShaMix
import Derived.Deep.DeepCutAuto
namespace Go.Proofs.YtbhninaaeeoamabDoor
open Go.RowKit

theorem index_arr (zs : List Int) (hz : zs.length = 8) (k : Nat) (hk : k < 8) (w : World) : (Instr.index 66 (.agg (vals .u32 zs).toArray) (.int .i64 k)).run Tryd.prog w = .ok (.int .u32 (zs.getD k 0)) w := by
  simp [Instr.index, run_underlying Tryd.underlying66, asIntOf, go_sem]
  rw [if_pos hk, vals_get .u32 zs k (by omega)]
  rfl
theorem St.of (s : List Int) (h : s.length = 8) : (stOf s).list = s := by
  match s, h with
  | [_, _, _, _, _, _, _, _], _ => rfl
/-- The state of which the first k numbers are summed up. -/
def part (s m : List Int) (k : Nat) : List Int := (List.zipWith addI s m).take k ++ s.drop k
theorem part_length (s m : List Int) (h : s.length = m.length) (k : Nat) (hk : k ≤ s.length) : (part s m k).length = s.length := by simp [part]; omega
theorem part_get (s m : List Int) (h : s.length = m.length) (k : Nat) (hk : k < s.length) : (part s m k).getD k 0 = s.getD k 0 := by
  have h1 : ((List.zipWith addI s m).take k).length = k := by simp; omega
  simp only [part, List.getD]
  rw [List.getElem?_append_right (by omega), h1, Nat.sub_self, List.getElem?_drop, Nat.add_zero]
theorem part_set (s m : List Int) (h : s.length = m.length) (k : Nat) (hk : k < s.length) : (part s m k).set k (addI (s.getD k 0) (m.getD k 0)) = part s m (k + 1) := by
  have h1 : ((List.zipWith addI s m).take k).length = k := by simp; omega
  have h2 : k < (List.zipWith addI s m).length := by simp; omega
  have h3 : (List.zipWith addI s m)[k] = addI (s.getD k 0) (m.getD k 0) := by
    simp [List.getD, hk, show k < m.length by omega]
  simp only [part]
  rw [List.set_append_right _ _ (by omega), h1, Nat.sub_self, List.drop_eq_getElem_cons hk, List.set_cons_zero, List.take_succ_eq_append_getElem h2, h3, List.append_assoc]
  rfl
theorem part_zero (s m : List Int) : part s m 0 = s := by simp [part]
theorem part_all (s m : List Int) (h : s.length = m.length) (n : Nat) (hn : n = s.length) : part s m n = List.zipWith addI s m := by
  subst hn
  rw [part, List.drop_length, List.append_nil, List.take_of_length_le (by simp; omega)]
/-- What holds at the head of a round. -/
def Blocking (w : World) (g : Nat) (s m : List Int) (i : Value) (wr : World) : Prop :=
  ∃ k : Nat, k ≤ 8 ∧ i = .int .i64 k ∧ Below w.heap.size w wr ∧ Arr wr g 0 .u32 (part s m k) ∧ Arr wr (g + 1 + 1) 0 .u32 (List.replicate 8 0)
theorem Blocking.next {w wr : World} {g : Nat} {s m : List Int} {k : Nat} (hs : s.length = 8) (hm : m.length = 8) (hg : w.heap.size ≤ g) (hk : k < 8) (hbel : Below w.heap.size w wr) (hA : Arr wr g 0 .u32 (part s m k)) (hR : Arr wr (g + 1 + 1) 0 .u32 (List.replicate 8 0)) :
    Blocking w g s m (.int .i64 ((k + 1 : Nat) : Int)) (wr.setCell ⟨g, k, none⟩ (.int .u32 (addI (s.getD k 0) (m.getD k 0)))) := by
  refine ⟨k + 1, by omega, rfl, hbel.setCell hg _, ?_, hR.beside _ _ (Or.inl (by simp; omega))⟩
  rw [← part_set s m (by omega) k (by omega)]
  exact hA.set0 k (by rw [part_length] <;> omega) _
theorem Blocking.start (w : World) (s : St) (bs : List Int) (cs : Array Value) (hc : cs = (vals .u32 (List.replicate 8 0)).toArray) (t t' t'' : TypeId) :
    Below w.heap.size w (((w.alloc (.cells (vals .u32 s.list).toArray t)).alloc (.cells (vals .u8 bs).toArray t')).alloc (.cells cs t'')) ∧
    Arr (((w.alloc (.cells (vals .u32 s.list).toArray t)).alloc (.cells (vals .u8 bs).toArray t')).alloc (.cells cs t'')) w.heap.size 0 .u32 s.list ∧
    Arr (((w.alloc (.cells (vals .u32 s.list).toArray t)).alloc (.cells (vals .u8 bs).toArray t')).alloc (.cells cs t'')) (w.heap.size + 1) 0 .u8 bs ∧
    Arr (((w.alloc (.cells (vals .u32 s.list).toArray t)).alloc (.cells (vals .u8 bs).toArray t')).alloc (.cells cs t'')) (w.heap.size + 1 + 1) 0 .u32 (List.replicate 8 0) := by
  subst hc
  refine ⟨(((Below.refl _ _).alloc (Nat.le_refl _) _).alloc (by rw [alloc_size]; omega) _).alloc (by rw [alloc_size, alloc_size]; omega) _, ((Arr.new w .u32 s.list t).alloc _).alloc _, ?_, ?_⟩
  · have := (Arr.new (w.alloc (.cells (vals .u32 s.list).toArray t)) .u8 bs t').alloc (.cells (vals .u32 (List.replicate 8 0)).toArray t'')
    rwa [alloc_size] at this
  · have := Arr.new ((w.alloc (.cells (vals .u32 s.list).toArray t)).alloc (.cells (vals .u8 bs).toArray t')) .u32 (List.replicate 8 0) t''
    rwa [alloc_size, alloc_size] at this
theorem info_b : (Tryd.prog.info? 67).map (·.size) = some 64 := by kernel_rfl

/-- A new box of eight numbers, still as it was made. -/
def EightAt (w : World) (b : Nat) : Prop := Arr w b 0 .u32 (List.replicate 8 0)
theorem eight_new {w w' : World} (h : Below (w.alloc (.cells #[.int .u32 0, .int .u32 0, .int .u32 0, .int .u32 0, .int .u32 0, .int .u32 0, .int .u32 0, .int .u32 0] 66)).heap.size (w.alloc (.cells #[.int .u32 0, .int .u32 0, .int .u32 0, .int .u32 0, .int .u32 0, .int .u32 0, .int .u32 0, .int .u32 0] 66)) w') : EightAt w' w.heap.size :=
  (Arr.new w .u32 (List.replicate 8 0) 66).on h
theorem below_alloc {w w' : World} (h : Below w.heap.size w w') (o : Obj) : Below w.heap.size w (w'.alloc o) := h.alloc h.size o
theorem eight_drew {w w' : World} (h : Below (w.alloc (.cells #[.int .u32 0, .int .u32 0, .int .u32 0, .int .u32 0, .int .u32 0, .int .u32 0, .int .u32 0, .int .u32 0] 66)).drew.heap.size (w.alloc (.cells #[.int .u32 0, .int .u32 0, .int .u32 0, .int .u32 0, .int .u32 0, .int .u32 0, .int .u32 0, .int .u32 0] 66)).drew w') : EightAt w' w.heap.size :=
  (Arr.new w .u32 (List.replicate 8 0) 66).drew.on h
theorem eight_on {w w' : World} {b : Nat} (h : Below w.heap.size w w') (e : EightAt w b) : EightAt w' b := Arr.on e h
theorem eight_store (w : World) (b : Nat) (m : St) (e : EightAt w b) : (storeCells ⟨b, 0, none⟩ (vals .u32 m.list) 0).run Tryd.prog w = .ok () (w.setCells b 0 (vals .u32 m.list)) :=
  run_storeCells_cells b 0 (vals .u32 m.list) 0 w (fun j hj => by simpa using (e.2 j (by simpa [vals, St.list] using hj)).1) (fun j hj => by simpa using (e.2 j (by simpa [vals, St.list] using hj)).2) (fun v hv => by
    simp only [vals, List.mem_map] at hv
    obtain ⟨z, _, rfl⟩ := hv
    rfl)
theorem eight_store2 (w : World) (m : St) : (storeCells ⟨w.heap.size, 0, none⟩ (vals .u32 m.list) 0).run Tryd.prog (w.alloc (.cells #[.int .u32 0, .int .u32 0, .int .u32 0, .int .u32 0, .int .u32 0, .int .u32 0, .int .u32 0, .int .u32 0] 66)) =
    .ok () ((w.alloc (.cells #[.int .u32 0, .int .u32 0, .int .u32 0, .int .u32 0, .int .u32 0, .int .u32 0, .int .u32 0, .int .u32 0] 66)).setCells w.heap.size 0 (vals .u32 m.list)) :=
  eight_store _ _ m (eight_new (Below.refl _ _))
theorem block_meet {w W wq : World} {b5 : Nat} {s M : St} (HB : Below w.heap.size w W) (HA : Arr W w.heap.size 0 .u32 s.list ∧ Arr W (w.heap.size + 1 + 1) 0 .u32 (List.replicate 8 0)) (HZ : W.heap.size = w.heap.size + 1 + 1 + 1)
    (hq : Below W.heap.size W wq) (e : EightAt wq b5) (h5 : W.heap.size ≤ b5) :
    ∃ b, (Value.pointer (some ⟨b5, 0, none⟩)) = .pointer (some ⟨b, 0, none⟩) ∧ b ≠ w.heap.size ∧ b ≠ w.heap.size + 1 + 1 ∧ Arr (wq.setCells b5 0 (vals .u32 M.list)) b 0 .u32 M.list ∧ Blocking w w.heap.size s.list M.list (.int .i64 ((0 : Nat) : Int)) (wq.setCells b5 0 (vals .u32 M.list)) := by
  refine ⟨b5, rfl, by omega, by omega, Arr.put e.2, 0, by omega, rfl, below_sets (by omega) _ _ _ (below_on' HB hq (Nat.le_refl _)), ?_, (HA.2.on hq).apart _ _ _ (Or.inl (by omega))⟩
  rw [part_zero]
  exact (HA.1.on hq).apart _ _ _ (Or.inl (by omega))

set_option maxRecDepth 100000 in
set_option maxHeartbeats 1000000 in
theorem block_st (s : St) (bs : List Int) (w : World) (hb : bs.length = 64) (hk : Ks w) :
    Calls Tryd.prog 39 #[.agg (vals .u32 s.list).toArray, .agg (vals .u8 bs).toArray] w fun e w' => e = .returned (.agg (vals .u32 (List.zipWith addI s.list (steps (sched bs) s 64).list)).toArray) ∧ Below w.heap.size w w' := by
  have HK := hide hk
  have hk0 := hk.lt
  have SP := hide (fun w => spread_any bs w hb)
  have MX : Hid (∀ w, Ks w → Calls Tryd.prog 41 #[.agg (vals .u32 s.list).toArray, .agg (vals .u32 (sched bs)).toArray] w fun e w' => e = .returned (.agg (vals .u32 (steps (sched bs) s 64).list).toArray) ∧ Below w.heap.size w w') :=
    hide (fun w h => mix_any s (sched bs) w (by simp [sched, back_length]) h)
  have IX := hide (fun k hk w => index_arr (steps (sched bs) s 64).list rfl k hk w)
  clear hk
  generalize hM : steps (sched bs) s 64 = M at *
  have HM := hide hM
  clear hM
  generalize sched bs = ws at *
  have ST := fun (wx : World) (b : Nat) (h : EightAt wx b) => eight_store wx b M h
  have ST2 := fun (wx : World) => eight_store2 wx M
  go_enter Tryd.func39, Tryd.ntmps39
  go_wp2
  obtain ⟨W, hW⟩ : ∃ W, W = (((w.alloc (.cells (vals .u32 s.list).toArray 66)).alloc (.cells (vals .u8 bs).toArray 67)).alloc (.cells #[.int .u32 0, .int .u32 0, .int .u32 0, .int .u32 0, .int .u32 0, .int .u32 0, .int .u32 0, .int .u32 0] 66)) := ⟨_, rfl⟩
  rw [← hW]
  have hst := Blocking.start w s bs #[.int .u32 0, .int .u32 0, .int .u32 0, .int .u32 0, .int .u32 0, .int .u32 0, .int .u32 0, .int .u32 0] rfl 66 67 66
  rw [← hW] at hst
  have HZ : Hid (W.heap.size = w.heap.size + 1 + 1 + 1) := hide (by rw [hW, alloc_size, alloc_size, alloc_size])
  clear hW
  obtain ⟨hbel, hA, hB, hR⟩ := hst
  have HS : Hid (∀ wx, Below W.heap.size W wx → Below W.heap.size W wx ∧ wx.cell? ⟨w.heap.size, 0, none⟩ = some (.int .u32 s.a) ∧ wx.cell? ⟨w.heap.size, 1, none⟩ = some (.int .u32 s.b) ∧ wx.cell? ⟨w.heap.size, 2, none⟩ = some (.int .u32 s.c) ∧ wx.cell? ⟨w.heap.size, 3, none⟩ = some (.int .u32 s.d)
      ∧ wx.cell? ⟨w.heap.size, 4, none⟩ = some (.int .u32 s.e) ∧ wx.cell? ⟨w.heap.size, 5, none⟩ = some (.int .u32 s.f) ∧ wx.cell? ⟨w.heap.size, 6, none⟩ = some (.int .u32 s.g) ∧ wx.cell? ⟨w.heap.size, 7, none⟩ = some (.int .u32 s.h) ∧ wx.rangeAt (w.heap.size + 1) 0 (vals .u8 bs)) := hide (fun wx hx =>
    have h := hA.on hx
    ⟨hx, h.cell0 0 (by simp [St.list]), h.cell0 1 (by simp [St.list]), h.cell0 2 (by simp [St.list]), h.cell0 3 (by simp [St.list]), h.cell0 4 (by simp [St.list]), h.cell0 5 (by simp [St.list]), h.cell0 6 (by simp [St.list]), h.cell0 7 (by simp [St.list]), (hB.on hx).1⟩)
  have HA := hide (And.intro hA hR)
  have HB := hide hbel
  have HKW := hide (HK.out.on hbel)
  have hi34 : (Tryd.prog.info? 67).map (·.size) = some (vals .u8 bs).length := by rw [vals_length, hb]; exact info_b
  have hu34 := Tryd.underlying67
  clear hbel hA hB hR
  go_cut [5] (fun s5 wx => ∃ b5, s5 = .pointer (some ⟨b5, 0, none⟩) ∧ b5 ≠ w.heap.size ∧ b5 ≠ w.heap.size + 1 + 1 ∧ Arr wx b5 0 .u32 M.list ∧ Blocking w w.heap.size s.list M.list (.int .i64 ((0 : Nat) : Int)) wx)
  case first =>
    go_region_held3 (fun wx => Below W.heap.size W wx ∧ wx.cell? ⟨w.heap.size, 0, none⟩ = some (.int .u32 s.a) ∧ wx.cell? ⟨w.heap.size, 1, none⟩ = some (.int .u32 s.b) ∧ wx.cell? ⟨w.heap.size, 2, none⟩ = some (.int .u32 s.c) ∧ wx.cell? ⟨w.heap.size, 3, none⟩ = some (.int .u32 s.d)
        ∧ wx.cell? ⟨w.heap.size, 4, none⟩ = some (.int .u32 s.e) ∧ wx.cell? ⟨w.heap.size, 5, none⟩ = some (.int .u32 s.f) ∧ wx.cell? ⟨w.heap.size, 6, none⟩ = some (.int .u32 s.g) ∧ wx.cell? ⟨w.heap.size, 7, none⟩ = some (.int .u32 s.h) ∧ wx.rangeAt (w.heap.size + 1) 0 (vals .u8 bs))
      (((with_reducible refine HS.out _ ?_); (repeat (with_reducible first | exact hb2 | exact hb1 | exact Below.refl _ _ | refine Below.drew ?_ | refine below_alloc ?_ _ | refine below_sets hb2.size _ _ _ ?_ | refine below_sets hb1.size _ _ _ ?_ | refine below_sets (Nat.le_refl _) _ _ _ ?_ | fail))))
      (first
        | (go_at_call 42; refine (SP.out _).mono ?_; rintro e w1 ⟨rfl, hbel1⟩; (try (with_reducible have z1 := eight_drew hbel1)); have hb1 : Below W.heap.size W w1 := (by with_reducible (first | exact below_on' (Below.drew (Below.refl _ _)) hbel1 (Nat.le_refl _) | exact below_on' (Below.drew (below_alloc (Below.refl _ _) _)) hbel1 (Nat.le_refl _))))
        | (go_at_call 41; refine (MX.out _ (HKW.out.on (by with_reducible (first | exact hb1 | exact below_alloc hb1 _)))).mono ?_; rintro e w2 ⟨rfl, hbel2⟩; (try (with_reducible have z2 := eight_new hbel2)); (try (with_reducible have z2 := eight_on hbel2 z1)); have hb2 : Below W.heap.size W w2 := (by with_reducible (first | exact below_on' hb1 hbel2 (Nat.le_refl _) | exact below_on' (below_alloc hb1 _) hbel2 (Nat.le_refl _)))))
    all_goals
      go_wp2_with fail
      go_meet
      case rel =>
        first
        | exact block_meet HB.out HA.out HZ.out hb2 z2 hb1.size
        | exact block_meet HB.out HA.out HZ.out hb2 z2 (Nat.le_refl _)
        | exact block_meet HB.out HA.out HZ.out (below_alloc hb2 _) (eight_new (Below.refl _ _)) hb2.size
  case rest =>
    obtain ⟨b5, rfl, hn1, hn2, hM, hBl⟩ := hcut
    have HM5 := hide hM
    have HBl := hide hBl
    have HN : Hid (b5 ≠ w.heap.size ∧ b5 ≠ w.heap.size + 1 + 1) := hide ⟨hn1, hn2⟩
    clear hM hBl hn1 hn2 HS HA HB HKW HZ
    go_wp2_with (first | (refine wp_load_arr rfl 66 (.tmp 5) rfl _ 0 rfl .u32 _ HM5.out _ Tryd.underlying66 rfl 8 info_s rfl ?_))
    go_loopw [13] (fun i wr => Blocking w w.heap.size s.list M.list i wr) (fun i _ => 8 - (intOf i).toNat)
    case atStart => exact HBl.out
    case round =>
      obtain ⟨k, hk, rfl, hbel, hA, hR⟩ := hrel
      by_cases hlt : k < 8
      · have R := hide (Blocking.next (s := s.list) (m := M.list) rfl rfl (Nat.le_refl _) hlt hbel hA hR)
        have ix := fun wx => IX.out k hlt wx
        have hpl : (part s.list M.list k).length = 8 := part_length s.list M.list rfl k (show k ≤ 8 by omega)
        have c0 := hA.cell0 k (by omega)
        have c1 := hA.free0 k (by omega)
        rw [part_get s.list M.list rfl k (show k < 8 from hlt)] at c0
        clear hbel hA hR hpl
        generalize s.list.getD k 0 = x at *
        generalize M.list.getD k 0 = y at *
        go_wp2
        go_roundw
        case rel => first | exact R.out | ((repeat apply Exists.intro); exact ⟨R.out, rfl⟩)
        case measure => simp [intOf]; omega
      · obtain rfl : k = 8 := by omega
        rw [part_all s.list M.list rfl 8 rfl] at hA
        have HA := hide hA
        have HR : Hid (wr.there (w.heap.size + 1 + 1) 0 8) := hide (by simpa using hR.2)
        have HB := hide hbel
        clear hbel hA hR hlt hk HBl
        generalize hL : List.zipWith addI s.list M.list = L at *
        have HL : Hid (L.length = 8) := hide (by rw [← hL]; rfl)
        have HLL := hide hL
        clear hL
        go_wp2_with (first | (refine wp_load_arr rfl 66 (.tmp 2) rfl _ 0 rfl .u32 _ HA.out _ Tryd.underlying66 rfl 8 info_s HL.out ?_) | (refine wp_store_arr rfl 66 (.tmp 4) (.tmp 24) rfl _ 0 .u32 L rfl rfl 8 HR.out info_s HL.out ?_))
        refine ret_arr 4 66 rfl _ 0 rfl .u32 L (Arr.put (by rw [HL.out]; exact HR.out)) _ Tryd.underlying66 rfl 8 info_s HL.out rfl ⟨by rw [HLL.out], below_sets (by omega) _ _ _ HB.out⟩

/-- sha.Block. -/
theorem block_any (s bs : List Int) (w : World) (hs : s.length = 8) (hb : bs.length = 64) (hk : Ks w) :
    Calls Tryd.prog 39 #[.agg (vals .u32 s).toArray, .agg (vals .u8 bs).toArray] w fun e w' => e = .returned (.agg (vals .u32 (blockI s bs)).toArray) ∧ Below w.heap.size w w' := by
  have := block_st (stOf s) bs w hb hk
  rw [St.of s hs] at this
  exact this
theorem block_length (s bs : List Int) (hs : s.length = 8) : (blockI s bs).length = 8 := by simp [blockI, St.list, hs]

end Go.Proofs.YtbhninaaeeoamabDoor
