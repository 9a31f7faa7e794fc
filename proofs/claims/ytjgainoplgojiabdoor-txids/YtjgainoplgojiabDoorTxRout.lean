/-
  What the reader's out answers at this program, whatever is left.
-/
import Derived.Test.YtjgainoplgojiabDoorTxRin
namespace Go.Proofs.YtjgainoplgojiabDoor
open Go.RowKit

/-- An output's cells in a block of the call's own. -/
def OutBox (w : World) (q : Nat) (x : Int) (lk : List Int) : Prop := w.rangeAt q 0 ([.int .u64 x] ++ vals .u8 lk) ∧ w.there q 0 33 ∧ lk.length = 32
theorem OutBox.heap {w w' : World} {q : Nat} {x : Int} {lk : List Int} (h : OutBox w q x lk) (e : w'.heap[q]? = w.heap[q]?) : OutBox w' q x lk := ⟨range_heap h.1 e, there_heap h.2.1 e, h.2.2⟩
theorem OutBox.lock {w : World} {q : Nat} {x : Int} {lk : List Int} (h : OutBox w q x lk) (t' : List Int) (hl : t'.length = 32) : OutBox (w.setCells q 1 (vals .u8 t')) q x t' := by
  have := range_sets_right (c := [Value.int .u64 x]) (d' := vals .u8 t') h.1 (by rw [vals_length, vals_length, hl, h.2.2]) (by rw [vals_length, hl]; exact there_part h.2.1 1 32 (by omega))
  exact ⟨this, there_sets h.2.1 _ _ _, hl⟩
theorem OutBox.val {w : World} {q : Nat} {x : Int} {lk : List Int} (h : OutBox w q x lk) (y : Int) : OutBox (w.setCell ⟨q, 0, none⟩ (.int .u64 y)) q y lk :=
  ⟨range_set h.1 0 (by simp) (.int .u64 y), there_setC h.2.1 _ _, h.2.2⟩
theorem OutBox.cells {w : World} {q : Nat} {x : Int} {lk : List Int} (h : OutBox w q x lk) : w.cell? ⟨q, 0, none⟩ = some (.int .u64 x) ∧ w.frozen? ⟨q, 0, none⟩ = false := by
  have := h.1 0 _ rfl
  simp only [Nat.zero_add] at this
  exact ⟨this, there_free0 h.2.1 0 (by omega)⟩
/-- What out answers. -/
def OutDone (w : World) (p : Nat) (s : RdS) (e : Ending) (w' : World) : Prop :=
  e = .returned (.agg (outC (outS s).1).toArray) ∧ Rd w' p (outS s).2 ∧ Besides p p w w'
set_option maxRecDepth 100000 in
set_option maxHeartbeats 2000000 in
theorem rout_any (w : World) (p : Nat) (s : RdS) (h : Rd w p s) :
    Calls Tryd.prog 32 #[.pointer (some ⟨p, 0, none⟩)] w (OutDone w p s) := by
  have hb : AllB s.1 := by obtain ⟨v, -, -, -, -, hb, -⟩ := h; exact hb
  have hplt := h.lt
  obtain ⟨W1, hW1⟩ : ∃ W1, W1 = w.alloc (.cells #[.int .u64 0, .int .u8 0, .int .u8 0, .int .u8 0, .int .u8 0, .int .u8 0, .int .u8 0, .int .u8 0, .int .u8 0, .int .u8 0, .int .u8 0, .int .u8 0, .int .u8 0, .int .u8 0, .int .u8 0, .int .u8 0, .int .u8 0, .int .u8 0, .int .u8 0, .int .u8 0, .int .u8 0, .int .u8 0, .int .u8 0, .int .u8 0, .int .u8 0, .int .u8 0, .int .u8 0, .int .u8 0, .int .u8 0, .int .u8 0, .int .u8 0, .int .u8 0, .int .u8 0] 45) := ⟨_, rfl⟩
  obtain ⟨W2, hW2⟩ : ∃ W2, W2 = W1.alloc (.cells #[.int .u64 0, .int .u8 0, .int .u8 0, .int .u8 0, .int .u8 0, .int .u8 0, .int .u8 0, .int .u8 0, .int .u8 0, .int .u8 0, .int .u8 0, .int .u8 0, .int .u8 0, .int .u8 0, .int .u8 0, .int .u8 0, .int .u8 0, .int .u8 0, .int .u8 0, .int .u8 0, .int .u8 0, .int .u8 0, .int .u8 0, .int .u8 0, .int .u8 0, .int .u8 0, .int .u8 0, .int .u8 0, .int .u8 0, .int .u8 0, .int .u8 0, .int .u8 0, .int .u8 0] 45) := ⟨_, rfl⟩
  have s1 : W1.heap.size = w.heap.size + 1 := by rw [hW1]; exact alloc_size _ _
  have b1 : Below w.heap.size w W1 := by rw [hW1]; exact (Below.refl _ _).alloc (Nat.le_refl _) _
  have b2 : Below W1.heap.size W1 W2 := by rw [hW2]; exact (Below.refl _ _).alloc (Nat.le_refl _) _
  have t1 : W1.there w.heap.size 0 33 := by rw [hW1]; exact out_there w
  have t2 : W2.there w.heap.size 0 33 := there_on t1 b2
  have x2 : OutBox W2 (w.heap.size + 1) 0 (List.replicate 32 0) := by
    rw [← s1, hW2]
    exact ⟨range_new W1 ([.int .u64 0] ++ vals .u8 (List.replicate 32 0)) 45, out_there W1, by simp⟩
  have s2 : W2.heap.size = w.heap.size + 2 := by rw [hW2, alloc_size, s1]
  have hbs2 : Besides p p w W2 := .of_below (below_on b1 b2)
  have k2 := (takeS_all (n := 8) hb).2.1
  have HNU := hide (rnum_any W2 p s 8 (h.on (below_on b1 b2)) (Or.inr rfl))
  have HA := hide (fun wx h => rhash_any wx p (numS 8 s).2 h)
  have HTL : Hid ((hashS (numS 8 s).2).1.length = 32) := hide (hashS_all (s := (numS 8 s).2) k2).2.1
  have HEND : Hid ((outS s).1 = ⟨(numS 8 s).1, (hashS (numS 8 s).2).1⟩ ∧ (outS s).2 = (hashS (numS 8 s).2).2) := hide ⟨rfl, rfl⟩
  unfold HashDone at HA
  unfold NumDone at HNU
  rw [show ((8 : Nat) : Int) = 8 from rfl] at HNU
  generalize numS 8 s = A at *
  generalize hashS A.2 = B at *
  obtain ⟨vv, sa⟩ := A
  obtain ⟨lk, sb⟩ := B
  simp only at *
  have HX2 := hide x2
  have HT2 := hide t2
  have HBS2 := hide hbs2
  have E1 := hide hW1
  have E2 := hide hW2
  have HPL := hide hplt
  have S2 := hide s2
  clear hW1 hW2 t1 t2 x2 b1 b2 hb h hbs2 s1 s2 k2 hplt
  go_enter Tryd.func32, Tryd.ntmps32
  go_upto_region 2 with fail
  rw [← E1.out, ← E2.out]
  clear E1 E2
  generalize hg : w.heap.size = g at *
  have HG := hide hg
  clear hg
  go_wp2_with fail
  refine HNU.out.mono ?_
  rintro e w3 ⟨rfl, hr3, hbs3, hs3⟩
  have l2 := S2.out
  have lp := HPL.out
  have hx3 := HX2.out.heap (hbs3.block (g + 1) (by omega) (by omega) (by omega))
  have ht3 := there_beside HT2.out hbs3 (by omega) (by omega)
  obtain ⟨c0, f0⟩ := hx3.cells
  have HX4 := hide (hx3.val vv)
  have HT4 := hide (there_setC ht3 ⟨g + 1, 0, none⟩ (.int .u64 vv))
  have HR4 := hide (hr3.box (g + 1) 0 (.int .u64 vv) (by omega))
  have HB4 : Hid (Besides p p w (w3.setCell ⟨g + 1, 0, none⟩ (.int .u64 vv))) := hide (box_besides (HBS2.out.trans hbs3) _ _ _ (by rw [HG.out]; omega))
  have HS4 : Hid (g + 2 ≤ (w3.setCell ⟨g + 1, 0, none⟩ (.int .u64 vv)).heap.size) := hide (by rw [size_setCell]; omega)
  clear hr3 hbs3 hx3 ht3 hs3 l2 lp HNU HX2 HT2 HBS2
  go_upto_region 3 with fail
  generalize w3.setCell ⟨g + 1, 0, none⟩ (.int .u64 vv) = W4 at *
  clear c0 f0
  go_wp2_with fail
  refine (HA.out _ HR4.out).mono ?_
  rintro e w5 ⟨rfl, hr5, hbs5⟩
  have lp := HPL.out
  have l4 := HS4.out
  have hs5 := hbs5.size
  have hx5 := HX4.out.heap (hbs5.block (g + 1) (by omega) (by omega) (by omega))
  have ht5 := there_beside HT4.out hbs5 (by omega) (by omega)
  have HX6 := hide (hx5.lock lk HTL.out)
  have HT6 := hide (there_sets ht5 (g + 1) 1 (vals .u8 lk))
  have HR6 := hide (hr5.boxes (g + 1) 1 (vals .u8 lk) (by omega))
  have HB6 : Hid (Besides p p w (w5.setCells (g + 1) 1 (vals .u8 lk))) := hide (sets_besides (HB4.out.trans hbs5) _ _ _ (by rw [HG.out]; omega))
  have HTH5 : Hid (w5.there (g + 1) 1 32) := hide (by have := there_part hx5.2.1 1 32 (by omega); simpa using this)
  clear hr5 hbs5 hx5 ht5 hs5 lp l4 HA HX4 HT4 HB4 HR4 HS4
  go_upto_region 4 with (refine wp_store_arr rfl 34 (.tmp 9) (.tmp 8) rfl (g + 1) 1 .u8 lk rfl rfl 32 HTH5.out info_hash HTL.out ?_)
  generalize w5.setCells (g + 1) 1 (vals .u8 lk) = W6 at *
  clear HTH5
  have HLEN : Hid ((outC ⟨vv, lk⟩).length = 33) := hide (outC_length HTL.out)
  have HN : Hid ((Tryd.prog.info? 45).map (·.size) = some (outC ⟨vv, lk⟩).length) := hide (by rw [HLEN.out]; exact info_out)
  have HTT : Hid (W6.there g 0 (outC ⟨vv, lk⟩).length) := hide (by rw [HLEN.out]; exact HT6.out)
  go_wp2_with (first | (refine wpList_load_mid rfl 45 (.tmp 3) rfl (g + 1) 0 rfl (outC ⟨vv, lk⟩) _ HX6.out.1 Tryd.underlying45 rfl HN.out ?_) | (refine wp_store_row rfl 45 (.tmp 2) (.tmp 10) rfl g 0 (outC ⟨vv, lk⟩) rfl rfl HTT.out HN.out (outC_one _) ?_))
  refine ret_row 2 45 rfl g 0 rfl (outC ⟨vv, lk⟩) (World.rangeAt_setCells_same _ _ _ _ HTT.out) _ Tryd.underlying45 rfl HN.out rfl ⟨by rw [HEND.out.1], ?_, ?_⟩
  · rw [HEND.out.2]
    exact HR6.out.boxes g 0 _ (by have := HPL.out; omega)
  · exact sets_besides HB6.out g 0 _ (by rw [HG.out]; exact Nat.le_refl _)

end Go.Proofs.YtjgainoplgojiabDoor
