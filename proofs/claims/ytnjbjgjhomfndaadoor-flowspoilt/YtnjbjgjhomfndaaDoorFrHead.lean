/-
  What frame.Head answers at this program, whatever the bytes.
-/
import Derived.Test.YtnjbjgjhomfndaaDoorFrHeadOf
import Derived.Test.YtnjbjgjhomfndaaDoorFrTrim
import Derived.Test.YtnjbjgjhomfndaaDoorKitA
import Derived.Test.YtnjbjgjhomfndaaDoorOctGet
namespace Go.Proofs.YtnjbjgjhomfndaaDoor
open Go.RowKit

/-- A header as a value. -/
def hdrV (c : List Int) (n s : Int) : Value := .agg #[.string (strOfNums c), .int .i64 n, .int .u32 s]
/-- What Head comes to. -/
def HeadDone (w : World) (l : List Int) (e : Ending) (w' : World) : Prop :=
  e = .returned (.tuple #[hdrV (hdC l) (hdN l) (hdS l), .int .i64 (hdE l)]) ∧ Below w.heap.size w w'
theorem headDone_bad {w w' : World} {l : List Int} {z : Int} (h : hdE l = z) (hz : ¬ z = 0) (hb : Below w.heap.size w w') : HeadDone w l (.returned (.tuple #[.agg #[.string ⟨#[]⟩, .int .i64 0, .int .u32 0], .int .i64 z])) w' := by
  subst h
  refine ⟨?_, hb⟩
  unfold hdC hdN hdS
  rw [if_neg hz, if_neg hz, if_neg hz]
  rfl
theorem hdr_one {c : ByteArray} {n s : Int} : ∀ v ∈ [Value.string c, .int .i64 n, .int .u32 s], v.oneCell' = true := by simp [Value.oneCell']
theorem info_hdr : (Tryd.prog.info? 56).map (·.size) = some 3 := by kernel_rfl
theorem get4 (t : List Int) (h : t.length = 4) : getX t = num t ∧ getE t = 0 := by
  unfold getX getE
  rw [h]
  exact ⟨rfl, rfl⟩
theorem num4 (t : List Int) (h : t.length = 4) (hb : ∀ z ∈ t, Byte z) : 0 ≤ num t ∧ num t < 4294967296 := by
  have h1 := num_nonneg t hb
  have h2 := num_lt t hb
  rw [h] at h2
  exact ⟨h1, by simpa using h2⟩

set_option maxRecDepth 100000 in
set_option maxHeartbeats 1000000 in
theorem head_not (w : World) (v : Value) (l : List Int) (hv : Bytes w v l) (h24 : ¬ l.length = 24) :
    Calls Tryd.prog 20 #[v] w fun e w' => HeadDone w l e w' := by
  have hE : hdE l = 2 := by unfold hdE; rw [if_neg h24]
  have HD := hide (fun w' => headDone_bad (w := w) (w' := w') hE (by omega))
  obtain ⟨a, cap, rfl, hc1, hc2⟩ := hv.form
  have h24' : ((l.length : Int) == 24) = false := beq_eq_false_iff_ne.2 (by omega)
  clear hv hE
  go_enter Tryd.func20, Tryd.ntmps20
  go_wp2
  exact ret_row_tmp 2 3 56 rfl _ 0 rfl [.string ⟨#[]⟩, .int .i64 0, .int .u32 0] (range_new w _ _) _ Tryd.underlying56 rfl info_hdr _ rfl rfl (HD.out _ ((Below.refl _ _).alloc (Nat.le_refl _) _))

theorem eql4 (xs ys : List Int) (hx : xs.length = 4) (hy : ys.length = 4) (w : World) : (Op.equalIn 10000 73 (.agg (vals .u8 xs).toArray) (.agg (vals .u8 ys).toArray)).run Tryd.prog w = .ok (decide (xs = ys)) w :=
  eql_arr w 73 5 4 .u8 Tryd.underlying73 Tryd.underlying5 (fun _ => by kernel_rfl) xs ys hx hy

set_option maxRecDepth 100000 in
set_option maxHeartbeats 1000000 in
theorem head_24 (w : World) (v : Value) (l : List Int) (hv : Bytes w v l) (hb : ∀ z ∈ l, Byte z) (h24 : l.length = 24) :
    Calls Tryd.prog 20 #[v] w fun e w' => HeadDone w l e w' := by
  obtain ⟨b, off, cap, rfl, hc1, hc2, -⟩ := hv.lies (by omega)
  have F := hide (fun wx (h : Bytes wx (.slice (some ⟨b, off, none⟩) l.length cap) l) => firstOf_any wx _ l h (by omega))
  have M := hide (fun wx => magic_any wx)
  have HT : Hid ((l.take 4).length = 4) := hide (by simp; omega)
  have HQ := hide (eql4 (l.take 4) magicL HT.out rfl)
  have HV := hide hv
  have HR := hide (there_new w #[.string ⟨#[]⟩, .int .i64 0, .int .u32 0] 56)
  have HB0 := hide ((Below.refl w.heap.size w).alloc (Nat.le_refl _) (.cells #[.string ⟨#[]⟩, .int .i64 0, .int .u32 0] 56))
  by_cases hm : l.take 4 = magicL
  · have l1 : ((l.drop 16).take 4).length = 4 := by simp; omega
    have l2 : (l.drop 20).length = 4 := by simp; omega
    have b1 : ∀ z ∈ (l.drop 16).take 4, Byte z := fun z hz => hb z (List.mem_of_mem_drop (List.mem_of_mem_take hz))
    have b2 : ∀ z ∈ l.drop 20, Byte z := fun z hz => hb z (List.mem_of_mem_drop hz)
    have b3 : ∀ z ∈ (l.drop 4).take 12, Byte z := fun z hz => hb z (List.mem_of_mem_drop (List.mem_of_mem_take hz))
    have G1 := hide (fun wx p (h : Bytes wx p ((l.drop 16).take 4)) => get_any _ p wx h b1)
    rw [(get4 _ l1).1, (get4 _ l1).2] at G1
    obtain ⟨n0, n1⟩ := num4 _ l1 b1
    have S1 := hide (fun wx (h : Bytes wx (.slice (some ⟨b, off, none⟩) 24 cap) l) => h.mid 16 20 (by omega) (by omega) (by omega) 4 (cap - 16) rfl rfl)
    by_cases hn : num ((l.drop 16).take 4) ≤ 2048
    · have hE : hdE l = 0 := by unfold hdE; rw [if_pos h24, if_pos hm, if_pos hn]
      have G2 := hide (fun wx p (h : Bytes wx p (l.drop 20)) => get_any _ p wx h b2)
      rw [(get4 _ l2).1, (get4 _ l2).2] at G2
      obtain ⟨s0, s1⟩ := num4 _ l2 b2
      have S2 : Hid (∀ wx, Bytes wx (.slice (some ⟨b, off, none⟩) 24 cap) l → Bytes wx (.slice (some ⟨b, off + 20, none⟩) 4 (cap - 20)) (l.drop 20)) := hide (fun wx h => by
        have := h.mid 20 24 (by omega) (by omega) (by omega) 4 (cap - 20) rfl rfl
        rwa [List.take_of_length_le (by omega)] at this)
      have S3 := hide (fun wx (h : Bytes wx (.slice (some ⟨b, off, none⟩) 24 cap) l) => h.mid 4 16 (by omega) (by omega) (by omega) 12 (cap - 4) rfl rfl)
      have N := hide (fun wx p (h : Bytes wx p ((l.drop 4).take 12)) => nameOf_any _ p wx h b3 (by simp; omega))
      have HD : Hid (∀ w', Below w.heap.size w w' → HeadDone w l (.returned (.tuple #[.agg #[.string (strOfNums (nameL ((l.drop 4).take 12))), .int .i64 (num ((l.drop 16).take 4)), .int .u32 (num (l.drop 20))], .int .i64 0])) w') := hide (fun w' hb => by
        refine ⟨?_, hb⟩
        unfold hdC hdN hdS
        rw [hE, if_pos rfl, if_pos rfl, if_pos rfl]
        rfl)
      rw [decide_eq_true hm] at HQ
      rw [h24] at *
      clear hv hE l1 l2 b1 b2 b3 hb hm
      generalize (l.drop 4).take 12 = t at *
      generalize hx : num ((l.drop 16).take 4) = x at *
      generalize (l.drop 16).take 4 = t1 at *
      generalize hy : num (l.drop 20) = y at *
      generalize l.drop 20 = t2 at *
      generalize l.take 4 = t4 at *
      clear hx hy
      go_enter Tryd.func20, Tryd.ntmps20
      go_upto_region 3 with fail
      generalize w.alloc (.cells #[.string ⟨#[]⟩, .int .i64 0, .int .u32 0] 56) = W0 at *
      go_wp2_with fail
      refine (F.out _ (HV.out.below HB0.out)).mono ?_
      rintro e w1 ⟨rfl, hbel1⟩
      have HB1 := hide (below_on HB0.out hbel1)
      have HR1 := hide (there_on HR.out hbel1)
      clear hbel1 HR HB0
      go_wp2_with fail
      refine (M.out _).mono ?_
      rintro e w2 ⟨rfl, hbel2⟩
      have HB2 := hide (below_on HB1.out hbel2)
      have HR2 : Hid (w2.there w.heap.size 0 3) := hide (there_on HR1.out hbel2)
      have hq := HQ.out w2
      clear hbel2 HR1 HB1
      go_wp2_with fail
      refine (G1.out _ _ (S1.out _ (HV.out.below HB2.out))).mono ?_
      rintro e w' ⟨rfl, rfl⟩
      go_wp2_with fail
      refine (G2.out _ _ (S2.out _ (HV.out.below HB2.out))).mono ?_
      rintro e w3 ⟨rfl, rfl⟩
      go_wp2_with fail
      refine (N.out _ _ (S3.out _ (HV.out.below HB2.out))).mono ?_
      rintro e w4 ⟨rfl, rfl⟩
      generalize strOfNums (nameL t) = S at *
      go_wp2_with (refine wp_store_row rfl 56 (.tmp 2) (.tmp 39) rfl _ 0 [.string S, .int .i64 x, .int .u32 y] rfl rfl HR2.out info_hdr hdr_one ?_)
      refine ret_row_tmp 2 3 56 rfl _ 0 rfl [.string S, .int .i64 x, .int .u32 y] (World.rangeAt_setCells_same _ _ _ _ HR2.out) _ Tryd.underlying56 rfl info_hdr (.int .i64 0) rfl rfl (HD.out _ (below_sets (Nat.le_refl _) _ _ _ HB2.out))
    · have hE : hdE l = 5 := by unfold hdE; rw [if_pos h24, if_pos hm, if_neg hn]
      have HD := hide (fun w' => headDone_bad (w := w) (w' := w') hE (by omega))
      have hn' : 2048 < num ((l.drop 16).take 4) := by omega
      rw [decide_eq_true hm] at HQ
      rw [h24] at *
      clear hv hE l1 l2 b1 b2 b3 hb hm hn
      generalize num ((l.drop 16).take 4) = x at *
      generalize (l.drop 16).take 4 = t1 at *
      generalize l.take 4 = t4 at *
      go_enter Tryd.func20, Tryd.ntmps20
      go_upto_region 3 with fail
      generalize w.alloc (.cells #[.string ⟨#[]⟩, .int .i64 0, .int .u32 0] 56) = W0 at *
      go_wp2_with fail
      refine (F.out _ (HV.out.below HB0.out)).mono ?_
      rintro e w1 ⟨rfl, hbel1⟩
      have HB1 := hide (below_on HB0.out hbel1)
      have HR1 := hide (there_on HR.out hbel1)
      clear hbel1 HR HB0
      go_wp2_with fail
      refine (M.out _).mono ?_
      rintro e w2 ⟨rfl, hbel2⟩
      have HB2 := hide (below_on HB1.out hbel2)
      have HR2 : Hid (w2.there w.heap.size 0 3) := hide (there_on HR1.out hbel2)
      have hq := HQ.out w2
      clear hbel2 HR1 HB1
      go_wp2_with fail
      refine (G1.out _ _ (S1.out _ (HV.out.below HB2.out))).mono ?_
      rintro e w' ⟨rfl, rfl⟩
      go_wp2_with (refine wp_store_row rfl 56 (.tmp 2) (.tmp 25) rfl _ 0 [.string ⟨#[]⟩, .int .i64 0, .int .u32 0] rfl rfl HR2.out info_hdr hdr_one ?_)
      refine ret_row_tmp 2 3 56 rfl _ 0 rfl [.string ⟨#[]⟩, .int .i64 0, .int .u32 0] (World.rangeAt_setCells_same _ _ _ _ HR2.out) _ Tryd.underlying56 rfl info_hdr (.int .i64 5) rfl rfl (HD.out _ (below_sets (Nat.le_refl _) _ _ _ HB2.out))
  · have hE : hdE l = 6 := by unfold hdE; rw [if_pos h24, if_neg hm]
    have HD := hide (fun w' => headDone_bad (w := w) (w' := w') hE (by omega))
    rw [decide_eq_false hm] at HQ
    rw [h24] at *
    clear hv hE hb hm
    generalize l.take 4 = t4 at *
    go_enter Tryd.func20, Tryd.ntmps20
    go_upto_region 3 with fail
    generalize w.alloc (.cells #[.string ⟨#[]⟩, .int .i64 0, .int .u32 0] 56) = W0 at *
    go_wp2_with fail
    refine (F.out _ (HV.out.below HB0.out)).mono ?_
    rintro e w1 ⟨rfl, hbel1⟩
    have HB1 := hide (below_on HB0.out hbel1)
    have HR1 := hide (there_on HR.out hbel1)
    clear hbel1 HR HB0
    go_wp2_with fail
    refine (M.out _).mono ?_
    rintro e w2 ⟨rfl, hbel2⟩
    have HB2 := hide (below_on HB1.out hbel2)
    have HR2 : Hid (w2.there w.heap.size 0 3) := hide (there_on HR1.out hbel2)
    have hq := HQ.out w2
    clear hbel2 HR1 HB1
    go_wp2_with (refine wp_store_row rfl 56 (.tmp 2) (.tmp 16) rfl _ 0 [.string ⟨#[]⟩, .int .i64 0, .int .u32 0] rfl rfl HR2.out info_hdr hdr_one ?_)
    refine ret_row_tmp 2 3 56 rfl _ 0 rfl [.string ⟨#[]⟩, .int .i64 0, .int .u32 0] (World.rangeAt_setCells_same _ _ _ _ HR2.out) _ Tryd.underlying56 rfl info_hdr (.int .i64 6) rfl rfl (HD.out _ (below_sets (Nat.le_refl _) _ _ _ HB2.out))

theorem head_any (w : World) (v : Value) (l : List Int) (hv : Bytes w v l) (hb : ∀ z ∈ l, Byte z) :
    Calls Tryd.prog 20 #[v] w fun e w' => HeadDone w l e w' := by
  by_cases h : l.length = 24
  · exact head_24 w v l hv hb h
  · exact head_not w v l hv h

end Go.Proofs.YtnjbjgjhomfndaaDoor
