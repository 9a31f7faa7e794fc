/-
  What (*flow.Flow).tell comes to at this program.
-/
import Derived.Test.YtnjbjgjhomfndaaDoorFlMem
import Derived.Test.YtnjbjgjhomfndaaDoorFrGet
import Derived.Test.YtnjbjgjhomfndaaDoorConcat
import Derived.BigQuiet
import Derived.Deep.OwnRows
import Derived.Deep.RegionHeld3
namespace Go.Proofs.YtnjbjgjhomfndaaDoor
open Go.RowKit

/-- An item's cells. -/
def itL (c : ByteArray) (v : Value) (e : Int) : List Value := [.string c, v, .int .i64 e]
theorem info_it : (Tryd.prog.info? 52).map (·.size) = some 3 := by kernel_rfl
theorem info_fl : (Tryd.prog.info? 61).map (·.size) = some 27 := by kernel_rfl
theorem it_one {c : ByteArray} {v : Value} {e : Int} (h : v.oneCell' = true) : ∀ u ∈ itL c v e, u.oneCell' = true := by
  intro u hu
  simp only [itL, List.mem_cons, List.not_mem_nil, or_false] at hu
  rcases hu with rfl | rfl | rfl
  · rfl
  · exact h
  · rfl
theorem Own.one {w : World} {base : Nat} {v : Value} {l : List Int} (h : Own w base v l) : v.oneCell' = true := by
  obtain ⟨_, ⟨rfl, _⟩ | ⟨g, cap, cur, rfl, _⟩⟩ := h <;> rfl
/-- What tell comes to. -/
def TellDone (w : World) (p q : Nat) (r : List Int) (e : Ending) (w' : World) : Prop :=
  (geE r = 4 ∧ e = .returned (.tuple #[.agg #[.string ⟨#[]⟩, .slice none 0 0, .int .i64 0], .bool false]) ∧ ∃ q', Flw w' p q' r false ∧ (q' = q ∨ w.heap.size ≤ q') ∧ Besides p q w w') ∨
  (¬ geE r = 4 ∧ ∃ v', e = .returned (.tuple #[.agg #[.string (strOfNums (geC r)), v', .int .i64 (geE r)], .bool true]) ∧ Own w' w.heap.size v' (geB r) ∧ Flw w' p p [] (decide (geE r = 5 ∨ geE r = 6)) ∧ Besides p q w w')

set_option maxRecDepth 100000 in
set_option maxHeartbeats 1000000 in
theorem tell_short (w : World) (p q : Nat) (r : List Int) (hm : Mid w p q r) (h24 : r.length < 24) :
    Calls Tryd.prog 23 #[.pointer (some ⟨p, 0, none⟩)] w fun e w' => TellDone w p q r e w' := by
  obtain ⟨hd, bv, hA, ⟨-, hhd, hbv, hqp⟩ | ⟨h, -⟩⟩ := hm
  · have hlt := hA.lt
    have hB0 : Below w.heap.size w (w.alloc (.cells #[.string ⟨#[]⟩, .slice none 0 0, .int .i64 0] 52)) := (Below.refl _ _).alloc (Nat.le_refl _) _
    have hT0 : (w.alloc (.cells #[.string ⟨#[]⟩, .slice none 0 0, .int .i64 0] 52)).there w.heap.size 0 (itL ⟨#[]⟩ (.slice none 0 0) 0).length := there_new w #[.string ⟨#[]⟩, .slice none 0 0, .int .i64 0] _
    have c25 := (hB0.cell (p := ⟨p, 25, none⟩) hlt).trans hA.2.2.1
    have hr : (r.length : Int) < 24 := by omega
    have HD : Hid (∀ w', Below w.heap.size w w' → TellDone w p q r (.returned (.tuple #[.agg #[.string ⟨#[]⟩, .slice none 0 0, .int .i64 0], .bool false])) w') := hide (fun w' hb =>
      Or.inl ⟨geE_short h24, rfl, q, Or.inr ⟨rfl, geE_short h24, hd, bv, hA.heap (hb.block _ hlt), Or.inl ⟨h24, hhd, hbv, hqp⟩⟩, Or.inl rfl, .of_below hb⟩)
    have HT := hide hT0
    have HB := hide hB0
    clear hhd hbv hqp hA hT0 hB0 hlt
    go_enter Tryd.func23, Tryd.ntmps23
    go_upto_region 1 with fail
    generalize w.alloc (.cells #[.string ⟨#[]⟩, .slice none 0 0, .int .i64 0] 52) = W at *
    go_wp2_with (refine wp_store_row rfl 52 (.tmp 2) (.tmp 14) rfl w.heap.size 0 (itL ⟨#[]⟩ (.slice none 0 0) 0) rfl rfl HT.out info_it (it_one rfl) ?_)
    refine ret_row_tmp 2 3 52 rfl w.heap.size 0 rfl (itL ⟨#[]⟩ (.slice none 0 0) 0) (World.rangeAt_setCells_same _ _ _ _ HT.out) _ Tryd.underlying52 rfl info_it (.bool false) rfl rfl (HD.out _ (below_sets (Nat.le_refl _) _ _ _ HB.out))
  · omega

theorem flZero (d : Bool) : Value.agg #[.int .u8 0, .int .u8 0, .int .u8 0, .int .u8 0, .int .u8 0, .int .u8 0, .int .u8 0, .int .u8 0, .int .u8 0, .int .u8 0, .int .u8 0, .int .u8 0, .int .u8 0, .int .u8 0, .int .u8 0, .int .u8 0, .int .u8 0, .int .u8 0, .int .u8 0, .int .u8 0, .int .u8 0, .int .u8 0, .int .u8 0, .int .u8 0, .slice none 0 0, .int .i64 0, .bool d] = .agg (flCells zero24 (.slice none 0 0) 0 d).toArray := rfl
theorem fl_one {hd : List Int} {bv : Value} {n : Int} {d : Bool} (h : bv.oneCell' = true) : ∀ u ∈ flCells hd bv n d, u.oneCell' = true := by
  intro u hu
  simp only [flCells, vals, List.mem_append, List.mem_map, List.mem_cons, List.not_mem_nil, or_false] at hu
  rcases hu with ⟨z, -, rfl⟩ | rfl | rfl | rfl
  · rfl
  · exact h
  · rfl
  · rfl

set_option maxRecDepth 100000 in
set_option maxHeartbeats 1000000 in
theorem tell_bad (w : World) (p q : Nat) (r : List Int) (hm : Mid w p q r) (hb : ∀ z ∈ r, Byte z) (h24 : ¬ r.length < 24) (hh : ¬ hdE (r.take 24) = 0) :
    Calls Tryd.prog 23 #[.pointer (some ⟨p, 0, none⟩)] w fun e w' => TellDone w p q r e w' := by
  have hgE := geE_bad h24 hh
  have hgc := hdE_cases (b := r.take 24) (by rw [List.length_take]; omega)
  obtain ⟨hd, bv, hA, ⟨h1, hhd, hbv, hqp⟩ | ⟨-, h2, h3, -⟩⟩ := hm
  · have hr24 : r.length = 24 := by omega
    have hhr : hd = r := by rw [← hhd, hr24, List.take_of_length_le (by have := hA.2.2.2.2.2; omega)]
    subst hhr
    have ht : hd.take 24 = hd := List.take_of_length_le (by omega)
    rw [ht] at hgE hgc hh
    have hlt := hA.lt
    have hB0 : Below w.heap.size w (w.alloc (.cells #[.string ⟨#[]⟩, .slice none 0 0, .int .i64 0] 52)) := (Below.refl _ _).alloc (Nat.le_refl _) _
    have hT0 : (w.alloc (.cells #[.string ⟨#[]⟩, .slice none 0 0, .int .i64 0] 52)).there w.heap.size 0 (itL ⟨#[]⟩ (.slice none 0 0) 0).length := there_new w #[.string ⟨#[]⟩, .slice none 0 0, .int .i64 0] _
    have c25 := (hB0.cell (p := ⟨p, 25, none⟩) hlt).trans hA.2.2.1
    rw [hr24] at c25
    have HBY : Hid (∀ wx, Below w.heap.size w wx → Bytes wx (.slice (some ⟨p, 0, none⟩) 24 24) hd) := hide (fun wx hb => by
      have := (hA.heap (hb.block _ hlt)).1.bytes (by omega)
      rwa [hr24] at this)
    have HTP : Hid (∀ wx, Below w.heap.size w wx → wx.there p 0 (flCells zero24 (.slice none 0 0) 0 true).length) := hide (fun wx hb => (hA.heap (hb.block _ hlt)).2.2.2.2.1)
    have HH := hide (fun wx v (h : Bytes wx v hd) => head_any wx v hd h hb)
    unfold HeadDone at HH
    simp only [hdrV] at HH
    obtain ⟨z, hz⟩ : ∃ z, z = hdE hd := ⟨_, rfl⟩
    rw [← hz] at HH hh hgE hgc
    have hne : (z == 0) = false := beq_eq_false_iff_ne.2 hh
    have HD : Hid (∀ w', Besides p q w w' → FlAt w' p zero24 (.slice none 0 0) 0 true → TellDone w p q hd (.returned (.tuple #[.agg #[.string ⟨#[]⟩, .slice none 0 0, .int .i64 z], .bool true])) w') := hide (fun w' hb hF => by
      obtain ⟨e1, e2, -⟩ := get_none (b := hd) (by omega)
      refine Or.inr ⟨by omega, .slice none 0 0, ?_, ?_, ?_, hb⟩
      · rw [e1, hgE]
        rfl
      · rw [e2]
        exact Own.nil _ _
      · exact Or.inl ⟨decide_eq_true (by omega), rfl, rfl, _, _, hF⟩)
    have HT := hide hT0
    have HB := hide hB0
    have HLT := hide hlt
    clear hhd hbv hA hT0 hB0 hlt ht hgc hgE hb hz h24 h1
    generalize strOfNums (hdC hd) = c at *
    generalize hdN hd = n at *
    generalize hdS hd = sm at *
    go_enter Tryd.func23, Tryd.ntmps23
    go_upto_region 1 with fail
    generalize w.alloc (.cells #[.string ⟨#[]⟩, .slice none 0 0, .int .i64 0] 52) = W at *
    go_wp2_with fail
    refine (HH.out _ _ (HBY.out _ HB.out)).mono ?_
    rintro e w1 ⟨rfl, hbel1⟩
    have hb1 : Below W.heap.size W (w1.alloc (.cells #[.string c, .int .i64 n, .int .u32 sm] 56)) := below_on hbel1 ((Below.refl _ _).alloc (Nat.le_refl _) _)
    have HB1 := hide (below_on HB.out hb1)
    have HT1 := hide (there_on HT.out hb1)
    clear hbel1 hb1
    go_upto_region 4 with fail
    generalize w1.alloc (.cells #[.string c, .int .i64 n, .int .u32 sm] 56) = W1 at *
    have HT2 := hide (World.there_setCells HT1.out p 0 (flCells zero24 (.slice none 0 0) 0 true))
    have HF := hide (flAt_put (w := W1) (p := p) (hd := zero24) (bv := .slice none 0 0) (n := 0) (d := true) rfl (HTP.out _ HB1.out))
    have HBS : Hid (Besides p q w (W1.setCells p 0 (flCells zero24 (.slice none 0 0) 0 true))) := hide (Besides.sets (Or.inl rfl) _ _ _ (.of_below HB1.out))
    have HTP1 := hide (HTP.out _ HB1.out)
    go_upto_region 6 with (refine wp_store_row rfl 61 (.tmp 27) (.tmp 26) rfl p 0 (flCells zero24 (.slice none 0 0) 0 true) rfl (flZero true) HTP1.out info_fl (fl_one rfl) ?_)
    go_wp2_with ((refine wp_store_row rfl 52 (.tmp 2) (.tmp 29) rfl w.heap.size 0 (itL ⟨#[]⟩ (.slice none 0 0) z) rfl rfl HT2.out info_it (it_one rfl) ?_))
    refine ret_row_tmp 2 3 52 rfl w.heap.size 0 rfl (itL ⟨#[]⟩ (.slice none 0 0) z) (World.rangeAt_setCells_same _ _ _ _ HT2.out) _ Tryd.underlying52 rfl info_it (.bool true) rfl rfl (HD.out _ ?_ ?_)
    · have := below_sets (B := w.heap.size) (Nat.le_refl w.heap.size) (itL ⟨#[]⟩ (.slice none 0 0) z) 0 _ (Below.refl w.heap.size (W1.setCells p 0 (flCells zero24 (.slice none 0 0) 0 true)))
      exact ⟨this.os.trans HBS.out.os, this.tape.trans HBS.out.tape, this.output.trans HBS.out.output, Nat.le_trans HBS.out.size this.size, fun k hk h1 h2 => (this.block k hk).trans (HBS.out.block k hk h1 h2)⟩
    · exact HF.out.apart _ _ _ (by have := HLT.out; omega)
  · rw [h2] at hh
    exact absurd h3 hh

theorem made_zeros (n : Nat) : madeCells #[Value.int .u8 0] n = (vals .u8 (List.replicate n 0)).toArray := by
  apply Array.ext'
  refine List.ext_getElem (by simp [madeCells, vals]) fun i h1 h2 => ?_
  simp [madeCells, vals, Nat.mod_one]
/-- 'make([]byte, n)'. -/
theorem wp_make_bytes {w : World} {ops : Array Oper} {rest : List Oper} {o : Oper} {a : Act} {Q : Exit → Act → World → Prop} (hg : o.guard = none) (l c : Operand) (hop : o.op = Op.makeSlice 28 l c)
    (n : Nat) (hl : a.eval l = .int .i64 (n : Int)) (hc : a.eval c = .int .i64 (n : Int)) (hn : n ≤ 1000000)
    (hK : wpList Tryd.prog ops Q rest (a.put o.dst (.slice (some ⟨w.heap.size, 0, none⟩) n n)) (w.alloc (.cells (vals .u8 (List.replicate n 0)).toArray 5))) : wpList Tryd.prog ops Q (o :: rest) a w := by
  obtain ⟨i0, hi, hz0, hz1, hz2⟩ := info_parts infoB
  refine wpList_make_row w hg l c 28 hop 5 i0 (.int .u8 0) Tryd.underlying28 hi hz0 hz1 rfl .i64 .i64 n hl hc (by rw [hz2]; omega) (by omega) ?_
  rw [made_zeros]
  exact hK

/-- A row of the call's own, while cells elsewhere are written. -/
theorem heap_setCells {k b : Nat} (h : k ≠ b) : ∀ (vs : List Value) (o : Nat) (w : World), (w.setCells b o vs).heap[k]? = w.heap[k]?
  | [], _, _ => rfl
  | v :: vs, o, w => by rw [World.setCells, heap_setCells h vs (o + 1), Below.heap_setCell _ _ _ _ h]
theorem own_sets {w : World} {base : Nat} {v : Value} {l : List Int} (h : Own w base v l) (b o : Nat) (vs : List Value) (hne : ∀ k, v.ownBlock = some k → k ≠ b) : Own (w.setCells b o vs) base v l := by
  refine ⟨h.1, ?_⟩
  rcases h.2 with h0 | ⟨g, cap, cur, rfl, hbg, hg, rest⟩
  · exact .inl h0
  · exact .inr ⟨g, cap, cur, rfl, hbg, (heap_setCells (hne g rfl) vs o w).trans hg, rest⟩
theorem Arr.bytesL {w : World} {b o : Nat} {l : List Int} (h : Arr w b o .u8 l) (hl : l.length ≤ 1000000) : Bytes w (.slice (some ⟨b, o, none⟩) l.length l.length) l :=
  ⟨_, _, rfl, Nat.le_refl _, by omega, by simp, fun _ => ⟨b, o, rfl, fun i hi => h.cell i hi⟩⟩

set_option maxRecDepth 100000 in
set_option maxHeartbeats 1000000 in
theorem tell_rest (w : World) (p q : Nat) (r : List Int) (hm : Mid w p q r) (hb : ∀ z ∈ r, Byte z) (hk : Keeps (off p q) w Ks) (h24 : ¬ r.length < 24) (hh : hdE (r.take 24) = 0) :
    Calls Tryd.prog 23 #[.pointer (some ⟨p, 0, none⟩)] w fun e w' => TellDone w p q r e w' := by
  obtain ⟨hd, bv, hA, hway⟩ := hm
  have hhd : r.take 24 = hd := by
    rcases hway with ⟨h1, h2, -⟩ | ⟨-, h2, -⟩
    · have h3 : r.length = 24 := by omega
      have h4 := hA.2.2.2.2.2
      rw [List.take_of_length_le (by omega), ← h2, List.take_of_length_le (by omega)]
    · exact h2
  rw [hhd] at hh
  have hbh : ∀ z ∈ hd, Byte z := fun z hz => hb z (by rw [← hhd] at hz; exact List.mem_of_mem_take hz)
  have hhl := hA.2.2.2.2.2
  obtain ⟨n, hn⟩ : ∃ n : Nat, hdN hd = n := ⟨(hdN hd).toNat, by have := (hdN_range hd hbh).1; omega⟩
  have hn2 : n ≤ 2048 := by have := (hdN_range hd hbh).2; omega
  have hlt := hA.lt
  have hB0 : Below w.heap.size w (w.alloc (.cells #[.string ⟨#[]⟩, .slice none 0 0, .int .i64 0] 52)) := (Below.refl _ _).alloc (Nat.le_refl _) _
  have hT0 : (w.alloc (.cells #[.string ⟨#[]⟩, .slice none 0 0, .int .i64 0] 52)).there w.heap.size 0 3 := there_new w #[.string ⟨#[]⟩, .slice none 0 0, .int .i64 0] _
  have c25 := (hB0.cell (p := ⟨p, 25, none⟩) hlt).trans hA.2.2.1
  have HBY : Hid (∀ wx, Below w.heap.size w wx → Bytes wx (.slice (some ⟨p, 0, none⟩) 24 24) hd) := hide (fun wx hb => by
    have := (hA.heap (hb.block _ hlt)).1.bytes (by omega)
    rwa [hhl] at this)
  have HFL : Hid (∀ wx, Below w.heap.size w wx → FlAt wx p hd bv r.length false) := hide (fun wx hb => hA.heap (hb.block _ hlt))
  have HH := hide (fun wx v (h : Bytes wx v hd) => head_any wx v hd h hbh)
  unfold HeadDone at HH
  simp only [hdrV] at HH
  rw [hh, hn] at HH
  have hr24 : ¬ ((r.length : Int) < 24) := by omega
  have HT := hide hT0
  have HB := hide hB0
  have HLT := hide hlt
  have HKK := hide hk
  have HWAY := hide hway
  have HBB := hide hb
  have HHD := hide hhd
  have HHH := hide hh
  have HN := hide hn
  have HBH := hide hbh
  have HHL := hide hhl
  clear hA hT0 hB0 hlt hb hhd hh hn hbh hk hway hhl
  generalize strOfNums (hdC hd) = c at *
  generalize hdS hd = sm at *
  go_enter Tryd.func23, Tryd.ntmps23
  go_upto_region 1 with fail
  generalize w.alloc (.cells #[.string ⟨#[]⟩, .slice none 0 0, .int .i64 0] 52) = W at *
  go_wp2_with fail
  refine (HH.out _ _ (HBY.out _ HB.out)).mono ?_
  rintro e w1 ⟨rfl, hbel1⟩
  have hb1 : Below W.heap.size W (w1.alloc (.cells #[.string c, .int .i64 n, .int .u32 sm] 56)) := below_on hbel1 ((Below.refl _ _).alloc (Nat.le_refl _) _)
  have HB1 := hide (below_on HB.out hb1)
  have HT1 := hide (there_on HT.out hb1)
  have HX := hide ((box_hdr w1 c n sm).2)
  have HW1S := hide (alloc_size w1 (.cells #[.string c, .int .i64 n, .int .u32 sm] 56))
  have HS1 : Hid (w.heap.size ≤ w1.heap.size) := hide (below_on HB.out hbel1).size
  clear hbel1 hb1 HB HT HH HBY
  go_upto_region 7 with fail
  generalize w1.alloc (.cells #[.string c, .int .i64 n, .int .u32 sm] 56) = W1 at *
  generalize w1.heap.size = g1 at *
  have HF1 := hide (HFL.out _ HB1.out)
  clear HFL
  have CM : Hid (∃ (W2 : World) (q2 : Nat) (B : List Int), True) := hide ⟨w, 0, [], trivial⟩
  clear CM
  have c24 := HF1.out.2.1
  have f24 := there_free HF1.out.2.2.2.2.1 24 (by omega)
  -- what holds ahead of the last test: the body is there
  have hnn : (n : Int) ≤ 2048 := by omega
  rcases HWAY.out with ⟨h1, -, rfl, hqp⟩ | ⟨-, -, -, hqp, B, ⟨rfl, hAB⟩, hBl, hrl, hBr⟩
  have HLT1 : Hid (p < W1.heap.size) := hide HF1.out.lt
  have hNB := (Below.refl W1.heap.size W1).alloc (Nat.le_refl _) (.cells (vals .u8 (List.replicate n 0)).toArray 5)
  have c24' : (W1.alloc (.cells (vals .u8 (List.replicate n 0)).toArray 5)).cell? ⟨p, 24, none⟩ = some (.slice none 0 0) := (hNB.cell (p := ⟨p, 24, none⟩) HLT1.out).trans c24
  have f24' : (W1.alloc (.cells (vals .u8 (List.replicate n 0)).toArray 5)).frozen? ⟨p, 24, none⟩ = false := (hNB.frozen (p := ⟨p, 24, none⟩) HLT1.out).trans f24
  have hg1 : W1.cell? ⟨g1, 1, none⟩ = some (.int .i64 n) := (HX.out W1 (Below.refl _ _)).2.1
  have HNA := hide (Arr.new W1 .u8 (List.replicate n 0) 5)
  have HNB := hide hNB
  have HQPE := hide hqp
  clear hNB hqp
  have hnil := fun w => Lib.run_eql_slice_nil (P := Tryd.prog) w 28 5 none 0 0 0 0 Tryd.underlying28
  simp only [Option.isNone_none] at hnil
  go_wp2_with (refine wp_make_bytes rfl (.tmp 37) (.tmp 37) rfl n rfl rfl (by omega) ?_)
  have hF2 := (HF1.out.heap (HNB.out.block p HLT1.out)).body (.slice (some ⟨W1.heap.size, 0, none⟩) n n)
  have hA2 := HNA.out.beside ⟨p, 24, none⟩ (.slice (some ⟨W1.heap.size, 0, none⟩) n n) (Or.inl (by show p ≠ W1.heap.size; have := HLT1.out; omega))
  have hB2 := (Besides.of_below (p := p) (q := q) HNB.out).set ⟨p, 24, none⟩ (Or.inl rfl) (.slice (some ⟨W1.heap.size, 0, none⟩) n n)
  have hT2 := there_setCell (there_on HT1.out HNB.out) ⟨p, 24, none⟩ (.slice (some ⟨W1.heap.size, 0, none⟩) n n)
  have hG2 : ((W1.alloc (.cells (vals .u8 (List.replicate n 0)).toArray 5)).setCell ⟨p, 24, none⟩ (.slice (some ⟨W1.heap.size, 0, none⟩) n n)).cell? ⟨g1, 1, none⟩ = some (.int .i64 n) := by
    rw [World.cell?_setCell_other _ _ _ _ (by simp)]
    exact (HX.out _ HNB.out).2.1
  have HC : Hid (∃ B : List Int, BodyAt ((W1.alloc (.cells (vals .u8 (List.replicate n 0)).toArray 5)).setCell ⟨p, 24, none⟩ (.slice (some ⟨W1.heap.size, 0, none⟩) n n)) W1.heap.size (.slice (some ⟨W1.heap.size, 0, none⟩) n n) B ∧ B.length = n ∧ r.length ≤ 24 + n ∧ B.take (r.length - 24) = r.drop 24) := hide ⟨List.replicate n 0, ⟨by simp, hA2⟩, by simp, by omega, by
    rw [show r.length - 24 = 0 by omega, List.take_zero, List.drop_of_length_le (by omega)]⟩
  have HQ2 : Hid (W1.heap.size = q ∨ w.heap.size ≤ W1.heap.size) := hide (Or.inr HB1.out.size)
  have HQP : Hid (W1.heap.size ≠ p) := hide (by have := HLT1.out; omega)
  have HQW : Hid (W1.heap.size ≠ w.heap.size ∨ n = 0) := hide (Or.inl (by have := HW1S.out; have := HS1.out; omega))
  have HF2 := hide hF2
  have HB2 := hide ((Besides.of_below (p := p) (q := q) HB1.out).trans hB2)
  have HT2 := hide hT2
  clear hF2 hA2 hB2 hT2 c24 f24 c24' f24' HNA HNB HX HT1 HF1 HWAY h1 hg1 HLT1 HW1S HB1 HQPE hnil
  generalize (W1.alloc (.cells (vals .u8 (List.replicate n 0)).toArray 5)).setCell ⟨p, 24, none⟩ (.slice (some ⟨W1.heap.size, 0, none⟩) n n) = W2 at *
  generalize hq2 : W1.heap.size = q2 at *
  clear hq2
  rotate_left
  have hBn : B.length = n := by have := HN.out; omega
  rw [hBn] at HF1 c24
  try rw [hBn]
  obtain ⟨q2, hq2⟩ : ∃ q2, q2 = q := ⟨q, rfl⟩
  rw [← hq2] at HF1 c24
  try rw [← hq2]
  have hnil := fun w => Lib.run_eql_slice_nil (P := Tryd.prog) w 28 5 (some ⟨q2, 0, none⟩) n n 0 0 Tryd.underlying28
  simp only [Option.isNone_some] at hnil
  have hg1 : W1.cell? ⟨g1, 1, none⟩ = some (.int .i64 n) := (HX.out W1 (Below.refl _ _)).2.1
  have HC : Hid (∃ B : List Int, BodyAt W1 q2 (.slice (some ⟨q2, 0, none⟩) n n) B ∧ B.length = n ∧ r.length ≤ 24 + n ∧ B.take (r.length - 24) = r.drop 24) := hide ⟨B, ⟨by rw [hBn], by rw [hq2]; exact hAB.on HB1.out⟩, hBn, by omega, hBr⟩
  have HQ2 : Hid (q2 = q ∨ w.heap.size ≤ q2) := hide (Or.inl hq2)
  have HQP : Hid (q2 ≠ p) := hide (by rw [hq2]; exact hqp)
  have HQW : Hid (q2 ≠ w.heap.size ∨ n = 0) := hide (by
    rcases Nat.eq_zero_or_pos n with h0 | h0
    · exact Or.inr h0
    · exact Or.inl (by have := hAB.lt (by omega); omega))
  have HF2 := hide HF1.out
  have HB2 : Hid (Besides p q w W1) := hide (.of_below HB1.out)
  have HT2 := hide HT1.out
  have hG2 := hg1
  clear hg1 hBl hrl hBr hAB hqp HT1 HF1 HWAY HX HB1 HW1S hBn
  clear hq2 B
  rw [hnil]
  go_wp2_with fail
  clear c24 f24 hnil
  obtain ⟨W2, hW2⟩ : ∃ W2, W2 = W1 := ⟨_, rfl⟩
  rw [← hW2] at HC HF2 HB2 HT2 hG2 ⊢
  clear hW2
  rotate_left
  all_goals
    clear c25
    have h25 := HF2.out.2.2.1
    by_cases hfu : r.length < 24 + n
    · have hx : (r.length : Int) < 24 + (n : Int) := by omega
      go_quiet (fail)
      have hb3 : Below W2.heap.size W2 (W2.drewN nq) := ⟨rfl, rfl, rfl, Nat.le_refl _, fun _ _ => rfl⟩
      have HF3 := hide (HF2.out.heap (w' := W2.drewN nq) rfl)
      have HT3 := hide (there_on HT2.out hb3)
      have HB3 := hide (HB2.out.on hb3)
      have HC3 : Hid (∃ B : List Int, BodyAt (W2.drewN nq) q2 (.slice (some ⟨q2, 0, none⟩) n n) B ∧ B.length = n ∧ r.length ≤ 24 + n ∧ B.take (r.length - 24) = r.drop 24) := hide (by
        obtain ⟨B, ⟨e, hA⟩, h⟩ := HC.out
        exact ⟨B, ⟨e, hA.heap rfl⟩, h⟩)
      clear hb3 HF2 HT2 HB2 HC h25 hG2
      generalize W2.drewN nq = W3 at *
      have HD : Hid (∀ w', Besides p q w w' → FlAt w' p hd (.slice (some ⟨q2, 0, none⟩) n n) r.length false → (∃ B : List Int, BodyAt w' q2 (.slice (some ⟨q2, 0, none⟩) n n) B ∧ B.length = n ∧ r.length ≤ 24 + n ∧ B.take (r.length - 24) = r.drop 24) → TellDone w p q r (.returned (.tuple #[.agg #[.string ⟨#[]⟩, .slice none 0 0, .int .i64 0], .bool false])) w') := hide (fun w' hb hF ⟨B, hB, hl, _, hBr⟩ => by
        have hge : geE r = 4 := geE_cut h24 (by rw [HHD.out]; exact HHH.out) (by rw [HHD.out, HN.out]; omega)
        exact Or.inl ⟨hge, rfl, q2, Or.inr ⟨rfl, hge, hd, _, hF, Or.inr ⟨by omega, HHD.out, HHH.out, HQP.out, B, hB, by rw [HN.out, hl], by omega, hBr⟩⟩, HQ2.out, hb⟩)
      go_wp2_with (refine wp_store_row rfl 52 (.tmp 2) (.tmp 49) rfl w.heap.size 0 (itL ⟨#[]⟩ (.slice none 0 0) 0) rfl rfl HT3.out info_it (it_one rfl) ?_)
      refine ret_row_tmp 2 3 52 rfl w.heap.size 0 rfl (itL ⟨#[]⟩ (.slice none 0 0) 0) (World.rangeAt_setCells_same _ _ _ _ HT3.out) _ Tryd.underlying52 rfl info_it (.bool false) rfl rfl (HD.out _ ?_ ?_ ?_)
      · have := below_sets (B := w.heap.size) (Nat.le_refl w.heap.size) (itL ⟨#[]⟩ (.slice none 0 0) 0) 0 _ (Below.refl w.heap.size W3)
        exact ⟨this.os.trans HB3.out.os, this.tape.trans HB3.out.tape, this.output.trans HB3.out.output, Nat.le_trans HB3.out.size this.size, fun k hk h1 h2 => (this.block k hk).trans (HB3.out.block k hk h1 h2)⟩
      · exact HF3.out.apart _ _ _ (by have := HLT.out; omega)
      · obtain ⟨B, ⟨e, hA⟩, hl, h⟩ := HC3.out
        exact ⟨B, ⟨e, hA.apart _ _ _ (by rcases HQW.out with hq | hq; exact Or.inl hq; exact Or.inr (Or.inl (by omega)))⟩, hl, h⟩
    · have hx : ¬ ((r.length : Int) < 24 + (n : Int)) := by omega
      go_quiet (fail)
      have hb3 : Below W2.heap.size W2 (W2.drewN nq) := ⟨rfl, rfl, rfl, Nat.le_refl _, fun _ _ => rfl⟩
      have HF3 := hide (HF2.out.heap (w' := W2.drewN nq) rfl)
      have HT3 := hide (there_on HT2.out hb3)
      have HB3 := hide (HB2.out.on hb3)
      have c24 := HF3.out.2.1
      obtain ⟨B, ⟨-, hAB⟩, hBl, hrl, hBr⟩ := HC.out
      have HAB := hide (hAB.heap (w' := W2.drewN nq) rfl)
      have hrr : hd ++ B = r := by
        rw [← HHD.out, show B = r.drop 24 by rw [← hBr, List.take_of_length_le (by omega)], List.take_append_drop]
      have CC := hide (fun wx v (hp : Parts wx v [hd, B]) => concat_any [hd, B] v wx hp (by simp [HHL.out]; omega))
      rw [show [hd, B].flatten = r by simp [hrr]] at CC
      have GG := hide (fun wx v (h : Bytes wx v r) (k : Ks wx) => fget_any wx v r h HBB.out k)
      unfold GetDone at GG
      have HKS : Hid (∀ wx, Below (W2.drewN nq).heap.size (W2.drewN nq) wx → Ks wx) := hide (fun wx hb => (HKK.out.besides (HB3.out.on hb) (Or.inl rfl)).self)
      have HV1 : Hid (∀ wx, Below (W2.drewN nq).heap.size (W2.drewN nq) wx → Bytes wx (.slice (some ⟨p, 0, none⟩) 24 24) hd) := hide (fun wx hb => by
        have := (HF3.out.heap (hb.block _ HF3.out.lt)).1.bytes (by have := HHL.out; omega)
        rwa [HHL.out] at this)
      have HV2 : Hid (∀ wx, Below (W2.drewN nq).heap.size (W2.drewN nq) wx → Bytes wx (.slice (some ⟨q2, 0, none⟩) n n) B) := hide (fun wx hb => by
        have := (HAB.out.on hb).bytesL (by omega)
        rwa [hBl] at this)
      clear hb3 HF2 HT2 HB2 HC h25 hG2 hAB hBl hrl hBr hrr
      generalize W2.drewN nq = W3 at *
      have HCC : Hid (∀ wx, Below W3.heap.size W3 wx → Below W3.heap.size W3 wx ∧ wx.cell? ⟨p, 24, none⟩ = some (.slice (some ⟨q2, 0, none⟩) n n)) := hide (fun wx h => ⟨h, (HF3.out.heap (h.block _ HF3.out.lt)).2.1⟩)
      have CD : Hid (Calls Tryd.prog 33 #[.slice (some ⟨W3.heap.size, 0, none⟩) 2 2] (W3.alloc (.cells #[.slice (some ⟨p, 0, none⟩) 24 24, .slice (some ⟨q2, 0, none⟩) n n] 28)).drew fun e w' => ∃ v', e = .returned v' ∧ Bytes w' v' r ∧ Below W3.heap.size W3 w') := hide (by
        have hbw : Below W3.heap.size W3 (W3.alloc (.cells #[.slice (some ⟨p, 0, none⟩) 24 24, .slice (some ⟨q2, 0, none⟩) n n] 28)).drew := ((Below.refl _ _).alloc (Nat.le_refl _) _).drew
        have hpp := (Parts.two W3 _ _ _ _ (HV1.out W3 (Below.refl _ _)) (HV2.out W3 (Below.refl _ _))).below (Below.refl _ _).drew
        refine (CC.out _ _ hpp).mono ?_
        rintro e w' ⟨v', rfl, ho, hb⟩
        exact ⟨v', rfl, ho.bytes, below_on hbw hb⟩)
      clear CC
      go_wp2_with fail
      go_region_held3 (fun wx => Below W3.heap.size W3 wx ∧ wx.cell? ⟨p, 24, none⟩ = some (.slice (some ⟨q2, 0, none⟩) n n))
        (((with_reducible refine HCC.out _ ?_); (with_reducible first | exact hb5 | exact hb4 | exact Below.refl _ _ | exact (Below.refl _ _).drew | exact ((Below.refl _ _).alloc (Nat.le_refl _) _).drew | exact (Below.refl _ _).alloc (Nat.le_refl _) _ | exact hb4.drew | exact hb5.drew | fail)))
        (first
          | (go_at_call 33; (with_reducible refine CD.out.mono ?_); rintro e w4 ⟨v4, rfl, hv4, hb4⟩)
          | (go_at_call 32; (with_reducible refine (GG.out _ _ hv4 (HKS.out _ hb4)).mono ?_); rintro e w5 ⟨v5, rfl, ho5, hb5'⟩; have hb5 : Below W3.heap.size W3 w5 := below_on hb4 hb5'))
      have hge : geE r = 0 ∨ geE r = 7 ∨ geE r = 8 := geE_full h24 (by rw [HHD.out]; exact HHH.out) (by rw [HHD.out, HN.out]; omega)
      have HF5 := hide (HF3.out.heap (hb5.block _ HF3.out.lt))
      have HB5 := hide (HB3.out.on hb5)
      have HT5 := hide (there_on HT3.out hb5)
      have HO5 := hide (ho5.low (Nat.le_trans HB3.out.size hb4.size))
      have HTP5 : Hid (w5.there p 0 (flCells zero24 (.slice none 0 0) 0 false).length) := hide HF5.out.2.2.2.2.1
      have HF6 := hide (flAt_put (w := w5) (p := p) (hd := zero24) (bv := .slice none 0 0) (n := 0) (d := false) rfl HF5.out.2.2.2.2.1)
      have HB6 : Hid (Besides p q w (w5.setCells p 0 (flCells zero24 (.slice none 0 0) 0 false))) := hide (Besides.sets (Or.inl rfl) _ _ _ HB5.out)
      have HT6 := hide (World.there_setCells HT5.out p 0 (flCells zero24 (.slice none 0 0) 0 false))
      obtain ⟨a5, c5, rfl, -, -⟩ := ho5.bytes.form
      have HD : Hid (∀ w', Besides p q w w' → FlAt w' p zero24 (.slice none 0 0) 0 false → Own w' w.heap.size (.slice a5 (geB r).length c5) (geB r) → TellDone w p q r (.returned (.tuple #[.agg #[.string (strOfNums (geC r)), .slice a5 (geB r).length c5, .int .i64 (geE r)], .bool true])) w') := hide (fun w' hb hF ho => by
        refine Or.inr ⟨by omega, _, rfl, ho, ?_, hb⟩
        rw [decide_eq_false (by omega)]
        exact Or.inr ⟨rfl, geE_short (by simp), _, _, hF, Or.inl ⟨by simp, rfl, rfl, rfl⟩⟩)
      have HOW : Hid (∀ k, (Value.slice a5 (geB r).length c5).ownBlock = some k → k ≠ p ∧ k ≠ w.heap.size) := hide (fun k hk => by
        have h1 := (World.ownsRow.lt ho5 k hk).1
        have h2 := hb4.size
        have h3 := HF3.out.lt
        have h4 : w.heap.size < W3.heap.size := World.block_lt_of_cell? _ _ (there_cell HT3.out 0 (by omega)).choose_spec
        omega)
      clear ho5 hb5 hb5' hb4 hv4 hge HF3 HT3 HB3 HAB HV1 HV2 CD HCC HKS GG
      generalize geE r = E5 at *
      generalize strOfNums (geC r) = C5 at *
      generalize geB r = B5 at *
      go_upto_region 13 with (refine wp_store_row rfl 61 (.tmp 68) (.tmp 67) rfl p 0 (flCells zero24 (.slice none 0 0) 0 false) rfl (flZero false) HTP5.out info_fl (fl_one rfl) ?_)
      go_wp2_with (refine wp_store_row rfl 52 (.tmp 2) (.tmp 72) rfl w.heap.size 0 (itL C5 (.slice a5 B5.length c5) E5) rfl rfl HT6.out info_it (it_one rfl) ?_)
      refine ret_row_tmp 2 3 52 rfl w.heap.size 0 rfl (itL C5 (.slice a5 B5.length c5) E5) (World.rangeAt_setCells_same _ _ _ _ HT6.out) _ Tryd.underlying52 rfl info_it (.bool true) rfl rfl (HD.out _ ?_ ?_ ?_)
      · have := below_sets (B := w.heap.size) (Nat.le_refl w.heap.size) (itL C5 (.slice a5 B5.length c5) E5) 0 _ (Below.refl w.heap.size (w5.setCells p 0 (flCells zero24 (.slice none 0 0) 0 false)))
        exact ⟨this.os.trans HB6.out.os, this.tape.trans HB6.out.tape, this.output.trans HB6.out.output, Nat.le_trans HB6.out.size this.size, fun k hk h1 h2 => (this.block k hk).trans (HB6.out.block k hk h1 h2)⟩
      · exact HF6.out.apart _ _ _ (by have := HLT.out; omega)
      · exact own_sets (own_sets HO5.out _ _ _ fun k hk => (HOW.out k hk).1) _ _ _ fun k hk => (HOW.out k hk).2

theorem tell_any (w : World) (p q : Nat) (r : List Int) (hm : Mid w p q r) (hb : ∀ z ∈ r, Byte z) (hk : Keeps (off p q) w Ks) :
    Calls Tryd.prog 23 #[.pointer (some ⟨p, 0, none⟩)] w fun e w' => TellDone w p q r e w' := by
  by_cases h24 : r.length < 24
  · exact tell_short w p q r hm h24
  · by_cases hh : hdE (r.take 24) = 0
    · exact tell_rest w p q r hm hb hk h24 hh
    · exact tell_bad w p q r hm hb h24 hh

end Go.Proofs.YtnjbjgjhomfndaaDoor
