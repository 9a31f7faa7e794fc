/-
  What slices.SortFunc does at this program with coins and coin.order.
-/
import Derived.Test.YtkemdfikcmgaaaaCoOrder
import Derived.Test.YtkemdfikcmgaaaaCoSortL
namespace Go.Proofs.Ytkemdfikcmgaaaa
open Go.RowKit Go.Shelf Go.Sort

/-- A coin that is one. -/
abbrev OkCn := { c : Cn // CnOk c }
instance : Inhabited OkCn := ⟨⟨⟨List.replicate 32 0, 0, noOut⟩, ⟨by rfl, by unfold AllB Byte; decide, by decide, by decide⟩, noOut_ok⟩⟩
def encCn (x : OkCn) : List Value := cnC x.1
def cmpCn (x y : OkCn) : Int := cmpPt x.1.pt y.1.pt
theorem cn_swo : SWO (ltOf cmpCn) where
  irrefl x := by
    unfold ltOf cmpCn
    rw [cmpPt_self]
    rfl
  trans x y z h1 h2 := by
    unfold ltOf cmpCn at *
    simp only [decide_eq_true_eq] at *
    exact cmpPt_trans h1 h2
  ntrans x y z h1 h2 := by
    unfold ltOf cmpCn at *
    simp only [decide_eq_false_iff_not] at *
    intro h
    by_cases e : x.1.pt = y.1.pt
    · rw [e] at h
      exact h2 h
    · by_cases e2 : y.1.pt = z.1.pt
      · rw [← e2] at h
        exact h1 h
      · have a1 := (cmpPt_ne e).resolve_left h1
        have a2 := (cmpPt_ne e2).resolve_left h2
        have a3 := cmpPt_trans (cmpPt_trans a2 a1) h
        rw [cmpPt_self] at a3
        omega
theorem cmp_lays (blk off size : Nat) (w : World) : CmpLays Try.prog 33 #[] encCn 66 cmpCn blk off size w := fun _ _ _ _ x y => by
  have := order_any x.1 y.1 x.2 y.2
  simpa [encCn, cmpCn] using this _
theorem flatK_list (d : Array OkCn) : (flatK encCn 66 d).toList = (d.toList.map encCn).flatten := by
  have hlen : ∀ c ∈ d.toList.map encCn, c.length = 66 := by
    intro c hc
    obtain ⟨x, _, rfl⟩ := List.mem_map.1 hc
    exact cnC_length x.2
  have hfl : (d.toList.map encCn).flatten.length = d.size * 66 := by
    rw [List.length_flatten]
    have : (d.toList.map encCn).map List.length = List.replicate d.size 66 := by
      rw [List.eq_replicate_iff]
      refine ⟨by simp, fun n hn => ?_⟩
      obtain ⟨c, hc, rfl⟩ := List.mem_map.1 hn
      exact hlen c hc
    rw [this]
    simp
  refine List.ext_getElem? fun t => ?_
  by_cases ht : t < d.size * 66
  · have hi : t / 66 < d.size := by omega
    have h1 : (d.toList.map encCn)[t / 66]? = some (encCn d[t / 66]!) := by
      rw [List.getElem?_map, List.getElem?_eq_getElem (by simpa using hi)]
      simp [hi]
    have h66 : (encCn d[t / 66]!).length = 66 := cnC_length (d[t / 66]!).2
    have h2 : (encCn d[t / 66]!)[t % 66]? = some (encCn d[t / 66]!)[t % 66]! := by
      have : t % 66 < (encCn d[t / 66]!).length := by rw [h66]; omega
      rw [getElem!_pos (encCn d[t / 66]!) (t % 66) this, List.getElem?_eq_getElem this]
    have h3 := flat_get 66 _ hlen _ _ h1 _ _ h2
    rw [show t / 66 * 66 + t % 66 = t by omega] at h3
    rw [h3, Array.getElem?_toList, ← get_flatK encCn 66 d t ht, getElem!_pos (flatK encCn 66 d) t (by rw [size_flatK]; exact ht), Array.getElem?_eq_getElem]
  · rw [List.getElem?_eq_none (by simp; omega), List.getElem?_eq_none (by rw [hfl]; omega)]
theorem holds_own {w : World} {g cap : Nat} {cur : Array Value} (d : Array OkCn) (hb : w.heap[g]? = some (.cells cur 59 (0, 0))) (ht : cur.toList.take (d.size * 66) = (d.toList.map encCn).flatten) (_hc : cap = cap) : HoldsK encCn 66 w g 0 d := by
  intro j hj
  rw [size_flatK] at hj
  refine ⟨?_, by simp [World.frozen?, hb]⟩
  have h1 : (cur.toList.take (d.size * 66))[j]? = (flatK encCn 66 d).toList[j]? := by rw [ht, flatK_list]
  rw [List.getElem?_take_of_lt hj, Array.getElem?_toList, Array.getElem?_toList] at h1
  simp only [World.cell?, hb, Nat.zero_add]
  simp only [Option.isSome_none, Bool.false_eq_true, if_false]
  rw [h1, Array.getElem?_eq_getElem (by rw [size_flatK]; exact hj), getElem!_pos (flatK encCn 66 d) j (by rw [size_flatK]; exact hj)]
  rfl
theorem heap_sortedK {w : World} {g n : Nat} {os : Array Obj} {cur : Array Value} {e : TypeId} (F : Array Value) (hb : w.heap[g]? = some (.cells cur e (0, 0))) :
    (grow (putRow id (Sort.ahead w n) g 0 F) os).heap[g]? = some (.cells (putCells id 0 F cur) e (0, 0)) := by
  have hg : g < w.heap.size := (Array.getElem?_eq_some_iff.1 hb).1
  rw [heap_grow_old _ _ (by simpa using hg)]
  simp [putRow, mapBlock, Sort.ahead, Array.getElem?_modify, hb, onCells]
theorem grownBy_sortedK {w : World} {g n : Nat} {os : Array Obj} (F : Array Value) : w.grownBy (grow (putRow id (Sort.ahead w n) g 0 F) os) (some g) := by
  refine ⟨rfl, rfl, rfl, by simp, fun k hk hne => ?_⟩
  rw [heap_grow_old _ _ (by simpa using hk)]
  have : g ≠ k := fun e => hne (by rw [e])
  simp [putRow, mapBlock, Sort.ahead, Array.getElem?_modify, this]
theorem take_putCellsK (cur F : Array Value) (h : F.size ≤ cur.size) : (putCells id 0 F cur).toList.take F.size = F.toList := by
  apply List.ext_getElem?
  intro j
  by_cases hj : j < F.size
  · rw [List.getElem?_take_of_lt hj, Array.getElem?_toList]
    simp [putCells, hj, show j < cur.size by omega]
  · rw [List.getElem?_take_eq_none (by omega), List.getElem?_eq_none (by simp; omega)]
/-- Rows of coins, sorted. -/
theorem sort_any (w : World) (base : Nat) (v : Value) (L : List Cn) (h : RowOwn w base 59 66 v (L.map cnC)) (hok : ∀ c ∈ L, CnOk c) (hN : (L.map Cn.pt).Nodup) (hn : L.length ≤ 100000) :
    Calls Try.prog 32 #[v, .func (.func 33) #[] #[]] w fun e w' => e = .returned (.tuple #[]) ∧ ∃ M : List Cn, M.Perm L ∧ SortC M ∧ RowOwn w' base 59 66 v (M.map cnC) ∧ w.grownBy w' v.ownBlock := by
  rcases id h.1.2 with ⟨rfl, h0⟩ | ⟨g, cap, cur, rfl, hbg, hg, hnc, hm, hcs, ht⟩
  · have hL : L = [] := by
      cases L with
      | nil => rfl
      | cons x L => simp at h0
    subst hL
    refine (AnyF.slices_SortFunc_none (P := Try.prog) (ρ := Try.sortCo_ren) Try.sortCo none 0 (.func (.func 33) #[] #[]) w).mono ?_
    rintro e w' ⟨rfl, rfl⟩
    exact ⟨rfl, [], .refl _, List.Pairwise.nil, h, rfl, rfl, rfl, Nat.le_refl _, fun _ _ _ => rfl⟩
  · obtain ⟨d, hd⟩ : ∃ d : Array OkCn, d.toList.map Subtype.val = L := ⟨(L.attach.map fun x => (⟨x.1, hok x.1 x.2⟩ : OkCn)).toArray, by simp [List.map_map, Function.comp_def]⟩
    have hds : d.size = L.length := by rw [← hd]; simp
    have hmap : d.toList.map encCn = L.map cnC := by rw [← hd, List.map_map]; rfl
    rw [List.length_map] at hnc ht
    have hH : HoldsK encCn 66 w g 0 d := holds_own (cap := cap) d hg (by rw [hds, ht, hmap]) rfl
    have eg : ∀ args w, (callFunc 33 args).run Try.prog w = .ok (.enter 33 args) w := enters_of Try.func33 (by kernel_rfl) rfl
    have hcon := AnyQ.slices_SortFunc (P := Try.prog) (ρ := Try.sortCo_ren) Try.sortCo 66 Try.isAgg59 Try.sizeOf59 encCn (fun x => cnC_length x.2) (fun x u hu => cnC_one x.1 u hu) cmpCn cn_swo 33 #[] g 0 cap d w eg (cmp_lays g 0 d.size w) hH (Array.getElem?_eq_some_iff.1 hg).1 (by omega)
    rw [hds] at hcon
    rw [List.length_map]
    refine hcon.mono ?_
    rintro e w' ⟨rfl, d', n, os, hp, hs, rfl⟩
    have hsz : d'.size = L.length := hp.1.trans hds
    have hperm : d'.toList.Perm d.toList := by
      have := hp.2.2
      rw [← hds] at this
      rw [show d.extract 0 d.size = d by simp, show d'.extract 0 d.size = d' by rw [← show d'.size = d.size from hp.1]; simp] at this
      exact this
    refine ⟨rfl, d'.toList.map Subtype.val, by rw [← hd]; exact hperm.map _, ?_, ?_, grownBy_sortedK _⟩
    · unfold SortC
      rw [List.pairwise_map, List.pairwise_iff_getElem]
      intro i j hi hj hij
      simp only [Array.length_toList] at hi hj
      have hlt := hs i j (Nat.zero_le _) hij (by omega)
      rw [getElem!_pos d' j hj, getElem!_pos d' i hi] at hlt
      unfold ltOf cmpCn at hlt
      simp only [decide_eq_false_iff_not] at hlt
      have hne : (d'[i]).1.pt ≠ (d'[j]).1.pt := by
        intro e
        have hnd : ((d'.toList.map Subtype.val).map Cn.pt).Nodup := ((hperm.map Subtype.val).map Cn.pt).nodup_iff.2 (by rw [hd]; exact hN)
        rw [List.Nodup, List.pairwise_map, List.pairwise_map, List.pairwise_iff_getElem] at hnd
        exact hnd i j (by simpa using hi) (by simpa using hj) hij (by simpa using e)
      simpa using (cmpPt_ne hne).resolve_right hlt
    · have hF : (flatK encCn 66 d').toList = ((d'.toList.map Subtype.val).map cnC).flatten := by
        rw [flatK_list, List.map_map]
        rfl
      have hFs : (flatK encCn 66 d').size = L.length * 66 := by rw [size_flatK, hsz]
      refine ⟨⟨?_, Or.inr ⟨g, cap, _, ?_, hbg, heap_sortedK _ hg, ?_, hm, ?_, ?_⟩⟩, fun c hc => ?_⟩
      · rw [← hF]
        simp [hsz]
      · simp [hsz]
      · simp [hsz]; exact hnc
      · simp [putCells, hcs]
      · have e : ((d'.toList.map Subtype.val).map cnC).length = L.length := by simp [hsz]
        rw [e, ← hFs, take_putCellsK _ _ (by rw [hFs, hcs]; exact Nat.mul_le_mul_right _ hnc), hF]
      · obtain ⟨x, hx, rfl⟩ := List.mem_map.1 hc
        obtain ⟨y, hy, rfl⟩ := List.mem_map.1 hx
        exact ⟨cnC_length y.2, cnC_one y.1⟩

end Go.Proofs.Ytkemdfikcmgaaaa
