/-
  What the reader's in and out answer at this program, whatever is left.
-/
import Derived.Test.YtjgainoplgojiabDoorTxRhash
import Derived.Test.YtjgainoplgojiabDoorTxAddIn
import Derived.Test.YtjgainoplgojiabDoorClon
namespace Go.Proofs.YtjgainoplgojiabDoor
open Go.RowKit

theorem range_sets_left {w : World} {b o : Nat} {c c' d : List Value} (h : w.rangeAt b o (c ++ d)) (hl : c'.length = c.length) (ht : w.there b o c'.length) : (w.setCells b o c').rangeAt b o (c' ++ d) := fun j v hv => by
  by_cases hj : j < c'.length
  · rw [List.getElem?_append_left hj] at hv
    exact World.rangeAt_setCells_same _ _ _ _ ht j v hv
  · rw [World.cell?_setCells_out _ _ _ _ _ (fun _ _ => Or.inr (by show o + c'.length ≤ o + j; omega))]
    refine h j v ?_
    rw [List.getElem?_append_right (by omega)] at hv ⊢
    rw [← hl]
    exact hv
theorem range_sets_right {w : World} {b o : Nat} {c d d' : List Value} (h : w.rangeAt b o (c ++ d)) (_hl : d'.length = d.length) (ht : w.there b (o + c.length) d'.length) : (w.setCells b (o + c.length) d').rangeAt b o (c ++ d') := fun j v hv => by
  by_cases hj : j < c.length
  · rw [World.cell?_setCells_out _ _ _ _ _ (fun _ _ => Or.inl (by show o + j < o + c.length; omega))]
    refine h j v ?_
    rw [List.getElem?_append_left hj] at hv ⊢
    exact hv
  · rw [List.getElem?_append_right (by omega)] at hv
    have := World.rangeAt_setCells_same w b (o + c.length) d' ht (j - c.length) v hv
    rwa [show o + c.length + (j - c.length) = o + j by omega] at this
theorem range_set {w : World} {b : Nat} {c : List Value} (h : w.rangeAt b 0 c) (i : Nat) (hi : i < c.length) (u : Value) : (w.setCell ⟨b, i, none⟩ u).rangeAt b 0 (c.set i u) := fun j v hv => by
  rw [Nat.zero_add]
  by_cases e : i = j
  · subst e
    have h0 := h i c[i] (List.getElem?_eq_getElem hi)
    rw [Nat.zero_add] at h0
    rw [World.cell?_setCell_same _ _ _ h0, ← hv]
    simp [hi]
  · rw [World.cell?_setCell_other _ _ _ _ (by simp)]
    have h0 := h j v (by rw [List.getElem?_set_ne e] at hv; exact hv)
    rwa [Nat.zero_add] at h0
/-- An input's cells in a block of the call's own. -/
def InBox (w : World) (q : Nat) (tx : List Int) (n : Int) (kv : Value) : Prop := w.rangeAt q 0 (vals .u8 tx ++ [.int .u32 n, kv]) ∧ w.there q 0 34 ∧ tx.length = 32
theorem InBox.heap {w w' : World} {q : Nat} {tx : List Int} {n : Int} {kv : Value} (h : InBox w q tx n kv) (e : w'.heap[q]? = w.heap[q]?) : InBox w' q tx n kv := ⟨range_heap h.1 e, there_heap h.2.1 e, h.2.2⟩
theorem InBox.tx {w : World} {q : Nat} {tx : List Int} {n : Int} {kv : Value} (h : InBox w q tx n kv) (t' : List Int) (hl : t'.length = 32) : InBox (w.setCells q 0 (vals .u8 t')) q t' n kv :=
  ⟨range_sets_left h.1 (by rw [vals_length, vals_length, hl, h.2.2]) (by rw [vals_length, hl]; exact there_part h.2.1 0 32 (by omega)), there_sets h.2.1 _ _ _, hl⟩
theorem InBox.n {w : World} {q : Nat} {tx : List Int} {n : Int} {kv : Value} (h : InBox w q tx n kv) (m : Int) : InBox (w.setCell ⟨q, 32, none⟩ (.int .u32 m)) q tx m kv := by
  have hv : (vals .u8 tx).length = 32 := by rw [vals_length]; exact h.2.2
  refine ⟨?_, there_setC h.2.1 _ _, h.2.2⟩
  have := range_set h.1 32 (by simp [hv]) (.int .u32 m)
  rw [List.set_append_right _ _ (by omega), hv] at this
  exact this
theorem InBox.key {w : World} {q : Nat} {tx : List Int} {n : Int} {kv : Value} (h : InBox w q tx n kv) (u : Value) : InBox (w.setCell ⟨q, 33, none⟩ u) q tx n u := by
  have hv : (vals .u8 tx).length = 32 := by rw [vals_length]; exact h.2.2
  refine ⟨?_, there_setC h.2.1 _ _, h.2.2⟩
  have := range_set h.1 33 (by simp [hv]) u
  rw [List.set_append_right _ _ (by omega), hv] at this
  exact this
theorem InBox.cells {w : World} {q : Nat} {tx : List Int} {n : Int} {kv : Value} (h : InBox w q tx n kv) : (∃ u, w.cell? ⟨q, 32, none⟩ = some u) ∧ w.cell? ⟨q, 33, none⟩ = some kv ∧ w.frozen? ⟨q, 32, none⟩ = false ∧ w.frozen? ⟨q, 33, none⟩ = false := by
  have := inC_key (x := (⟨tx, n, []⟩, kv)) h.1 h.2.2
  simp only [Nat.zero_add] at this
  exact ⟨⟨_, this.2⟩, this.1, there_free0 h.2.1 32 (by omega), there_free0 h.2.1 33 (by omega)⟩
theorem box_besides {p : Nat} {w w' : World} (h : Besides p p w w') (q i : Nat) (v : Value) (hb : w.heap.size ≤ q) : Besides p p w (w'.setCell ⟨q, i, none⟩ v) := sets_besides h q i [v] hb
theorem Rd.box {w : World} {p : Nat} {s : RdS} (h : Rd w p s) (q i : Nat) (v : Value) (hq : p < q) : Rd (w.setCell ⟨q, i, none⟩ v) p s :=
  h.move (by rw [size_setCell]; exact Nat.le_refl _) fun g hg => Below.heap_setCell _ _ _ _ (by show g ≠ q; omega)
theorem Rd.boxes {w : World} {p : Nat} {s : RdS} (h : Rd w p s) (q o : Nat) (vs : List Value) (hq : p < q) : Rd (w.setCells q o vs) p s :=
  h.move (by rw [size_setCells]; exact Nat.le_refl _) fun g hg => (below_sets (B := q) (Nat.le_refl _) vs o w (Below.refl _ _)).block g (by omega)
theorem there_beside {w w' : World} {p b o n : Nat} (h : w.there b o n) (hb : Besides p p w w') (hlt : b < w.heap.size) (hne : b ≠ p) : w'.there b o n := there_heap h (hb.block b hlt hne hne)

/-- What in answers. -/
def InDone (w : World) (p : Nat) (s : RdS) (e : Ending) (w' : World) : Prop :=
  ∃ kv, e = .returned (.agg (inC ((inS s).1, kv)).toArray) ∧ Rd w' p (inS s).2 ∧ Besides p p w w' ∧ Bytes w' kv (inS s).1.key ∧ ∀ k, kv.ownBlock = some k → w.heap.size ≤ k ∧ k < w'.heap.size
set_option maxRecDepth 100000 in
set_option maxHeartbeats 2000000 in
theorem rin_any (w : World) (p : Nat) (s : RdS) (h : Rd w p s) :
    Calls Tryd.prog 31 #[.pointer (some ⟨p, 0, none⟩)] w (InDone w p s) := by
  have hb : AllB s.1 := by obtain ⟨v, -, -, -, -, hb, -⟩ := h; exact hb
  have hplt := h.lt
  obtain ⟨W1, hW1⟩ : ∃ W1, W1 = w.alloc (.cells #[.int .u8 0, .int .u8 0, .int .u8 0, .int .u8 0, .int .u8 0, .int .u8 0, .int .u8 0, .int .u8 0, .int .u8 0, .int .u8 0, .int .u8 0, .int .u8 0, .int .u8 0, .int .u8 0, .int .u8 0, .int .u8 0, .int .u8 0, .int .u8 0, .int .u8 0, .int .u8 0, .int .u8 0, .int .u8 0, .int .u8 0, .int .u8 0, .int .u8 0, .int .u8 0, .int .u8 0, .int .u8 0, .int .u8 0, .int .u8 0, .int .u8 0, .int .u8 0, .int .u32 0, .slice none 0 0] 51) := ⟨_, rfl⟩
  obtain ⟨W2, hW2⟩ : ∃ W2, W2 = W1.alloc (.cells #[.int .u8 0, .int .u8 0, .int .u8 0, .int .u8 0, .int .u8 0, .int .u8 0, .int .u8 0, .int .u8 0, .int .u8 0, .int .u8 0, .int .u8 0, .int .u8 0, .int .u8 0, .int .u8 0, .int .u8 0, .int .u8 0, .int .u8 0, .int .u8 0, .int .u8 0, .int .u8 0, .int .u8 0, .int .u8 0, .int .u8 0, .int .u8 0, .int .u8 0, .int .u8 0, .int .u8 0, .int .u8 0, .int .u8 0, .int .u8 0, .int .u8 0, .int .u8 0, .int .u32 0, .slice none 0 0] 51) := ⟨_, rfl⟩
  have s1 : W1.heap.size = w.heap.size + 1 := by rw [hW1]; exact alloc_size _ _
  have b1 : Below w.heap.size w W1 := by rw [hW1]; exact (Below.refl _ _).alloc (Nat.le_refl _) _
  have b2 : Below W1.heap.size W1 W2 := by rw [hW2]; exact (Below.refl _ _).alloc (Nat.le_refl _) _
  have t1 : W1.there w.heap.size 0 34 := by rw [hW1]; exact in_there w
  have t2 : W2.there w.heap.size 0 34 := there_on t1 b2
  have x2 : InBox W2 (w.heap.size + 1) (List.replicate 32 0) 0 (.slice none 0 0) := by
    rw [← s1, hW2]
    exact ⟨range_new W1 (vals .u8 (List.replicate 32 0) ++ [.int .u32 0, .slice none 0 0]) 51, in_there W1, by simp⟩
  have s2 : W2.heap.size = w.heap.size + 2 := by rw [hW2, alloc_size, s1]
  have hbs2 : Besides p p w W2 := .of_below (below_on b1 b2)
  obtain ⟨g1, g2, g3, -⟩ := inS_all hb
  obtain ⟨a1, a2, a3, a4⟩ := hashS_all hb
  have n1 : 0 ≤ (numS 4 (hashS s).2).1 ∧ (numS 4 (hashS s).2).1 < 4294967296 := g1.2.2.1
  have HA := hide (rhash_any W2 p s (h.on (below_on b1 b2)))
  have HNU := hide (fun wx h => rnum_any wx p (hashS s).2 4 h (Or.inl rfl))
  have HCO := hide (fun wx h => rcount_any wx p (numS 4 (hashS s).2).2 64 h (Nat.le_refl _))
  have HTA := hide (fun wx h => rtake_any wx p (countS 64 (numS 4 (hashS s).2).2).2 (countS 64 (numS 4 (hashS s).2).2).1 h (by have := (countS_all (n := 64) (s := (numS 4 (hashS s).2).2) (takeS_all (n := 4) a3).2.1).2.1; omega))
  have HKL : Hid ((inS s).1.key.length ≤ 64) := hide g2
  have HEND : Hid ((inS s).1 = ⟨(hashS s).1, (numS 4 (hashS s).2).1, (takeS (countS 64 (numS 4 (hashS s).2).2).1 (countS 64 (numS 4 (hashS s).2).2).2).1⟩ ∧ (inS s).2 = (takeS (countS 64 (numS 4 (hashS s).2).2).1 (countS 64 (numS 4 (hashS s).2).2).2).2) := hide ⟨rfl, rfl⟩
  unfold HashDone at HA
  unfold NumDone at HNU
  unfold CountDone at HCO
  unfold TakeDone at HTA
  rw [show ((4 : Nat) : Int) = 4 from rfl] at HNU
  rw [show ((64 : Nat) : Int) = 64 from rfl] at HCO
  generalize hashS s = A at *
  generalize numS 4 A.2 = B at *
  generalize countS 64 B.2 = C at *
  generalize takeS C.1 C.2 = D at *
  obtain ⟨tx, sa⟩ := A
  obtain ⟨nn, sb⟩ := B
  obtain ⟨cc, sc⟩ := C
  obtain ⟨kk, sd⟩ := D
  simp only at *
  have HX2 := hide x2
  have HT2 := hide t2
  have HBS2 := hide hbs2
  have E1 := hide hW1
  have E2 := hide hW2
  have HPL := hide hplt
  have S2 := hide s2
  have HTL := hide a2
  have hwr : IntKind.u32.wrap nn = nn := by simp [IntKind.wrap, IntKind.bits, IntKind.signed]; omega
  clear hW1 hW2 t1 t2 x2 b1 b2 hb h hbs2 s1 s2 g1 g2 g3 a1 a2 a3 a4 hplt n1
  go_enter Tryd.func31, Tryd.ntmps31
  go_upto_region 2 with fail
  rw [← E1.out, ← E2.out]
  clear E1 E2
  generalize hg : w.heap.size = g at *
  have HG := hide hg
  clear hg
  -- the hash
  go_wp2_with fail
  refine HA.out.mono ?_
  rintro e w3 ⟨rfl, hr3, hbs3⟩
  have l2 := S2.out
  have lp := HPL.out
  have hx3 := HX2.out.heap (hbs3.block (g + 1) (by omega) (by omega) (by omega))
  have ht3 := there_beside HT2.out hbs3 (by omega) (by omega)
  have hs3 := hbs3.size
  have HX4 := hide (hx3.tx tx HTL.out)
  have HT4 := hide (there_sets ht3 (g + 1) 0 (vals .u8 tx))
  have HR4 := hide (hr3.boxes (g + 1) 0 (vals .u8 tx) (by omega))
  have HB4 : Hid (Besides p p w (w3.setCells (g + 1) 0 (vals .u8 tx))) := hide (sets_besides (HBS2.out.trans hbs3) _ _ _ (by rw [HG.out]; omega))
  have HS4 : Hid (g + 2 ≤ (w3.setCells (g + 1) 0 (vals .u8 tx)).heap.size) := hide (by rw [size_setCells]; omega)
  have HTH3 : Hid (w3.there (g + 1) 0 32) := hide (there_part hx3.2.1 0 32 (by omega))
  clear hr3 hbs3 hx3 ht3 hs3 l2 lp HA HX2 HT2 HBS2
  go_upto_region 3 with (refine wp_store_arr rfl 34 (.tmp 7) (.tmp 5) rfl (g + 1) 0 .u8 tx rfl rfl 32 HTH3.out info_hash HTL.out ?_)
  generalize w3.setCells (g + 1) 0 (vals .u8 tx) = W4 at *
  clear HTH3
  -- the number
  go_wp2_with fail
  refine (HNU.out _ HR4.out).mono ?_
  rintro e w5 ⟨rfl, hr5, hbs5, hs5⟩
  have lp := HPL.out
  have l4 := HS4.out
  have hx5 := HX4.out.heap (hbs5.block (g + 1) (by omega) (by omega) (by omega))
  have ht5 := there_beside HT4.out hbs5 (by omega) (by omega)
  obtain ⟨⟨u32, c32⟩, -, f32, -⟩ := hx5.cells
  have HX6 := hide (hx5.n nn)
  have HT6 := hide (there_setC ht5 ⟨g + 1, 32, none⟩ (.int .u32 nn))
  have HR6 := hide (hr5.box (g + 1) 32 (.int .u32 nn) (by omega))
  have HB6 : Hid (Besides p p w (w5.setCell ⟨g + 1, 32, none⟩ (.int .u32 nn))) := hide (box_besides (HB4.out.trans hbs5) _ _ _ (by rw [HG.out]; omega))
  have HS6 : Hid (g + 2 ≤ (w5.setCell ⟨g + 1, 32, none⟩ (.int .u32 nn)).heap.size) := hide (by rw [size_setCell]; omega)
  clear hr5 hbs5 hx5 ht5 hs5 lp l4 HNU HX4 HT4 HB4 HR4 HS4
  go_upto_region 4 with fail
  generalize w5.setCell ⟨g + 1, 32, none⟩ (.int .u32 nn) = W6 at *
  clear c32 f32
  -- the key
  go_wp2_with fail
  refine (HCO.out _ HR6.out).mono ?_
  rintro e w7 ⟨rfl, hr7, hbs7, hs7⟩
  have lp := HPL.out
  have l6 := HS6.out
  have HX7 := hide (HX6.out.heap (hbs7.block (g + 1) (by omega) (by omega) (by omega)))
  have HT7 := hide (there_beside HT6.out hbs7 (by omega) (by omega))
  have HR7 := hide hr7
  have HB7 := hide (HB6.out.trans hbs7)
  have HS7 : Hid (g + 2 ≤ w7.heap.size) := hide (by omega)
  clear hr7 hbs7 hs7 lp l6 HCO HX6 HT6 HB6 HR6 HS6
  go_wp2_with fail
  refine (HTA.out _ HR7.out).mono ?_
  rintro e w8 ⟨v8, rfl, hr8, hk8, hbs8, hs8⟩
  have lp := HPL.out
  have l7 := HS7.out
  have HX8 := hide (HX7.out.heap (hbs8.block (g + 1) (by omega) (by omega) (by omega)))
  have HT8 := hide (there_beside HT7.out hbs8 (by omega) (by omega))
  have HR8 := hide hr8
  have HB8 := hide (HB7.out.trans hbs8)
  have HS8 : Hid (g + 2 ≤ w8.heap.size) := hide (by omega)
  have hkl : kk.length ≤ 900000 := by
    have h1 := HKL.out
    rw [HEND.out.1] at h1
    simp only at h1
    omega
  have CL := hide (clone_any kk v8 w8 hk8.self hkl)
  clear hr8 hk8 hbs8 hs8 lp l7 hkl HTA HX7 HT7 HB7 HR7 HS7
  go_wp2_with fail
  refine CL.out.mono ?_
  rintro e w9 ⟨kv, rfl, hown9, hb9⟩
  have lp := HPL.out
  have l8 := HS8.out
  have hx9 := HX8.out.heap (hb9.block (g + 1) (by omega))
  have ht9 := there_on HT8.out hb9
  obtain ⟨-, c33, -, f33⟩ := hx9.cells
  have hone : kv.oneCell' = true := hown9.bytes.oneCell
  have HX10 := hide (hx9.key kv)
  have HT10 := hide (there_setC ht9 ⟨g + 1, 33, none⟩ kv)
  have HR10 := hide ((HR8.out.on hb9).box (g + 1) 33 kv (by omega))
  have HB10 : Hid (Besides p p w (w9.setCell ⟨g + 1, 33, none⟩ kv)) := hide (box_besides (HB8.out.on hb9) _ _ _ (by rw [HG.out]; omega))
  have HOB : Hid (∀ k, kv.ownBlock = some k → g + 2 ≤ k ∧ k < (w9.setCell ⟨g + 1, 33, none⟩ kv).heap.size) := hide (fun k hk => by
    have := World.ownsRow.lt hown9 k hk
    rw [size_setCell]
    omega)
  have HBY : Hid (Bytes (w9.setCell ⟨g + 1, 33, none⟩ kv) kv kk) := hide (hown9.bytes.keeps (P := fun k => k ≠ g + 1) (fun k hk => by have := (World.ownsRow.lt hown9 k hk).1; omega) _ fun k _ hk => Below.heap_setCell _ _ _ _ (by show k ≠ g + 1; exact hk))
  have HONE := hide hone
  obtain ⟨pa, pc, rfl, -, -⟩ := hown9.bytes.form
  clear hown9 hb9 hx9 ht9 lp l8 CL HX8 HT8 HB8 HR8 HS8 hone
  go_upto_region 5 with fail
  generalize w9.setCell ⟨g + 1, 33, none⟩ (.slice pa kk.length pc) = W10 at *
  clear c33 f33
  generalize hkv : Value.slice pa kk.length pc = kv at *
  have HKV := hide hkv
  clear hkv
  have HLEN : Hid ((inC (⟨tx, nn, kk⟩, kv)).length = 34) := hide (inC_length HTL.out)
  have HN : Hid ((Tryd.prog.info? 51).map (·.size) = some (inC (⟨tx, nn, kk⟩, kv)).length) := hide (by rw [HLEN.out]; exact info_in)
  have HTT : Hid (W10.there g 0 (inC (⟨tx, nn, kk⟩, kv)).length) := hide (by rw [HLEN.out]; exact HT10.out)
  go_wp2_with (first | (refine wpList_load_mid rfl 51 (.tmp 3) rfl (g + 1) 0 rfl (inC (⟨tx, nn, kk⟩, kv)) _ HX10.out.1 Tryd.underlying51 rfl HN.out ?_) | (refine wp_store_row rfl 51 (.tmp 2) (.tmp 19) rfl g 0 (inC (⟨tx, nn, kk⟩, kv)) rfl rfl HTT.out HN.out (inC_one HONE.out) ?_))
  refine ret_row 2 51 rfl g 0 rfl (inC (⟨tx, nn, kk⟩, kv)) (World.rangeAt_setCells_same _ _ _ _ HTT.out) _ Tryd.underlying51 rfl HN.out rfl ⟨kv, by rw [HEND.out.1], ?_, ?_, ?_, ?_⟩
  · rw [HEND.out.2]
    exact HR10.out.boxes g 0 _ (by have := HPL.out; omega)
  · exact sets_besides HB10.out g 0 _ (by rw [HG.out]; exact Nat.le_refl _)
  · rw [HEND.out.1]
    exact HBY.out.keeps (P := fun k => g < k) (fun k hk => by have := HOB.out k hk; omega) _ fun k hlt hk => by
      exact (Besides.sets (p := g) (q := g) (w := W10) (Or.inl rfl) (inC (⟨tx, nn, kk⟩, kv)) 0 W10 (Besides.refl _ _ _)).block k hlt (by omega) (by omega)
  · intro k hk
    rw [HG.out, size_setCells]
    have := HOB.out k hk
    omega

end Go.Proofs.YtjgainoplgojiabDoor
