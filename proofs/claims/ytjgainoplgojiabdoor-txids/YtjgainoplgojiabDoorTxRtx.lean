/-
  What the reader's tx answers at this program, whatever is left.
-/
import Derived.Test.YtjgainoplgojiabDoorTxRout
import Derived.Great.BuildSlice
namespace Go.Proofs.YtjgainoplgojiabDoor
open Go.RowKit

/-- A slice of one struct. -/
theorem run_one (w : World) (t ty : TypeId) (z : Value) (size bytes : Nat) (ht : Tryd.prog.underlying t = some (.slice ty))
    (hinfo : (Tryd.prog.info? ty).map (fun i => (i.zero, i.size, i.bytes)) = some (some z, size, bytes)) (hsz : 0 < size) (hsz2 : size ≤ 1000) (c : List Value) (hc : c.length = size) :
    (Instr.buildSlice t 1 #[(0, .agg c.toArray)]).run Tryd.prog w = .ok (.slice (some ⟨w.heap.size, 0, none⟩) 1 1) (w.alloc (.cells c.toArray ty)) := by
  obtain ⟨i0, hi, hz0, hz1, hz2⟩ := info_parts hinfo
  refine run_buildSlice w t ty 1 _ c.toArray i0 z ht hi hz0 (by rw [hz1]; omega) (by rw [hz1]; omega) ?_
  rw [hz1]
  have h := Go.Great.fill_whole hsz [Value.agg c.toArray] ((Array.range (1 * size)).map (z.cells[· % z.cells.size]!)) (by intro v hv; rw [List.mem_singleton.1 hv]; simpa [Value.cells] using hc) (by simp)
  simpa [Value.cells] using h
/-- 'append' of elements onto a row of the call's own, as a run. -/
theorem run_append_row (w : World) (t ty rt : TypeId) (z : Value) (size bytes : Nat) (ht : Tryd.prog.underlying t = some (.slice ty))
    (hinfo : (Tryd.prog.info? ty).map (fun i => (i.zero, i.size, i.bytes)) = some (some z, size, bytes)) (hzs : z.cells.size = size) (hsz : 0 < size) (hby : bytes ≤ 1000)
    (base : Nat) (v : Value) (C : List (List Value)) (hown : RowOwn w base ty size v C) (b : Nat) (c : List Value) (hc : w.rangeAt b 0 c) (hE : c.length = size ∧ ∀ y ∈ c, y.oneCell' = true)
    (hlen : C.length ≤ 10000) (hb : base ≤ w.heap.size) :
    ∃ v' w', (Builtin.append_ #[t, t] rt #[v, .slice (some ⟨b, 0, none⟩) 1 1]).run Tryd.prog w = .ok v' w' ∧ RowOwn w' base ty size v' (C ++ [c]) ∧ w.grownBy w' v.ownBlock ∧ (v'.ownBlock = v.ownBlock ∨ ∀ k, v'.ownBlock = some k → w.heap.size ≤ k) := by
  obtain ⟨i0, hi, hz0, hz1, hz2⟩ := info_parts hinfo
  have hbyt : (C.length + 1) * bytes ≤ 140737488355328 := by
    have := Nat.mul_le_mul (show C.length + 1 ≤ 10001 by omega) hby
    omega
  obtain ⟨v', w', h1, h2, h3, h4⟩ := run_append_where (P := Tryd.prog) w base t rt ty i0 z size bytes ht hi hz0 hz1 hz2 hzs hsz v C.length C.flatten hown.1 ⟨b, 0, none⟩ 1 1 c (by rw [hE.1]; omega) (fun j u hu => by rw [Addr.add_mid]; exact hc j u hu) hE.2 (by unfold maxLen; omega) hbyt hb
  refine ⟨v', w', h1, ⟨by simpa using h2, fun d hd => ?_⟩, h3, h4⟩
  rcases List.mem_append.1 hd with q | q
  · exact hown.2 d q
  · rw [List.mem_singleton.1 q]
    exact hE
/-- A transaction's cells in a block of the call's own. -/
def TxBox (w : World) (q : Nat) (ver : Int) (iv ov : Value) : Prop := w.cell? ⟨q, 0, none⟩ = some (.int .u32 ver) ∧ w.cell? ⟨q, 1, none⟩ = some iv ∧ w.cell? ⟨q, 2, none⟩ = some ov ∧ w.there q 0 3
theorem TxBox.heap {w w' : World} {q : Nat} {ver : Int} {iv ov : Value} (h : TxBox w q ver iv ov) (e : w'.heap[q]? = w.heap[q]?) : TxBox w' q ver iv ov := by
  obtain ⟨h0, h1, h2, h3⟩ := h
  have hc : ∀ i, w'.cell? ⟨q, i, none⟩ = w.cell? ⟨q, i, none⟩ := fun i => World.cell?_of_block (w := w) e
  exact ⟨(hc 0).trans h0, (hc 1).trans h1, (hc 2).trans h2, there_heap h3 e⟩
theorem TxBox.ver {w : World} {q : Nat} {ver : Int} {iv ov : Value} (h : TxBox w q ver iv ov) (z : Int) : TxBox (w.setCell ⟨q, 0, none⟩ (.int .u32 z)) q z iv ov := by
  obtain ⟨h0, h1, h2, h3⟩ := h
  exact ⟨World.cell?_setCell_same _ _ _ h0, by rw [World.cell?_setCell_other _ _ _ _ (by simp)]; exact h1, by rw [World.cell?_setCell_other _ _ _ _ (by simp)]; exact h2, there_setC h3 _ _⟩
theorem TxBox.ins {w : World} {q : Nat} {ver : Int} {iv ov : Value} (h : TxBox w q ver iv ov) (z : Value) : TxBox (w.setCell ⟨q, 1, none⟩ z) q ver z ov := by
  obtain ⟨h0, h1, h2, h3⟩ := h
  exact ⟨by rw [World.cell?_setCell_other _ _ _ _ (by simp)]; exact h0, World.cell?_setCell_same _ _ _ h1, by rw [World.cell?_setCell_other _ _ _ _ (by simp)]; exact h2, there_setC h3 _ _⟩
theorem TxBox.outs {w : World} {q : Nat} {ver : Int} {iv ov : Value} (h : TxBox w q ver iv ov) (z : Value) : TxBox (w.setCell ⟨q, 2, none⟩ z) q ver iv z := by
  obtain ⟨h0, h1, h2, h3⟩ := h
  exact ⟨by rw [World.cell?_setCell_other _ _ _ _ (by simp)]; exact h0, by rw [World.cell?_setCell_other _ _ _ _ (by simp)]; exact h1, World.cell?_setCell_same _ _ _ h2, there_setC h3 _ _⟩
/-- What holds while the inputs are read: the transaction's block is g + 1, its result's g, its rows lie behind. -/
structure Reads (w : World) (p g : Nat) (ver : Int) (L : List TIn) (s : RdS) (wr : World) : Prop where
  rd : Rd wr p s
  bes : Besides p p w wr
  size : g + 2 ≤ wr.heap.size
  res : wr.there g 0 3
  box : ∃ iv, TxBox wr (g + 1) ver iv (.slice none 0 0) ∧ InsOwn wr (g + 2) iv L
/-- While the outputs are: these lie behind B, the inputs below it. -/
structure ReadsO (w : World) (p g B : Nat) (ver : Int) (L : List TIn) (M : List TOut) (s : RdS) (wr : World) : Prop where
  rd : Rd wr p s
  bes : Besides p p w wr
  size : g + 2 ≤ B ∧ B ≤ wr.heap.size
  res : wr.there g 0 3
  box : ∃ iv ov, TxBox wr (g + 1) ver iv ov ∧ Keeps (fun k => g + 2 ≤ k ∧ k < B) wr (fun w => InsAt w iv L) ∧ RowOwn wr B 45 33 ov (M.map outC)
theorem InsOwn.keeps {w : World} {base : Nat} {v : Value} {L : List TIn} (h : InsOwn w base v L) : Keeps (fun k => base ≤ k ∧ k < w.heap.size) w fun w => InsAt w v L := by
  intro w' hw
  obtain ⟨D, h1, h2, h3⟩ := h
  exact ⟨D, h1, (h2.move (w1 := w') fun g hb hl => hw g hl ⟨hb, hl⟩).row, fun x hx => h3 x hx w' fun g hl hp => hw g hl ⟨hp.1, hl⟩⟩
theorem Reads.turn {w : World} {p g : Nat} {ver : Int} {L : List TIn} {s : RdS} {wr : World} (h : Reads w p g ver L s wr) : ReadsO w p g wr.heap.size ver L [] s wr := by
  obtain ⟨h1, h2, h3, h4, iv, h5, h6⟩ := h
  exact ⟨h1, h2, ⟨h3, Nat.le_refl _⟩, h4, iv, _, h5, h6.keeps, RowOwn.nil _ _ _ _⟩
/-- The round of the inputs, of the outputs. -/
def ReadIns (w : World) (p g : Nat) (ver : Int) (K : Nat) (s : RdS) (i : Value) (wr : World) : Prop := ∃ k : Nat, k ≤ K ∧ i = .int .i64 k ∧ Reads w p g ver (insS k s).1 (insS k s).2 wr
def ReadOuts (w : World) (p g B : Nat) (ver : Int) (L : List TIn) (K : Nat) (s : RdS) (i : Value) (wr : World) : Prop := ∃ k : Nat, k ≤ K ∧ i = .int .i64 k ∧ ReadsO w p g B ver L (outsS k s).1 (outsS k s).2 wr
theorem tx_there (w : World) : (w.alloc (.cells #[.int .u32 0, .slice none 0 0, .slice none 0 0] 26)).there w.heap.size 0 3 := there_new w _ _

set_option maxRecDepth 100000 in
set_option maxHeartbeats 2000000 in
theorem rins_round (w : World) (p g : Nat) (hw : w.heap.size = g) (hp : p < g) (ver : Int) (L : List TIn) (s : RdS) (wr : World) (h : Reads w p g ver L s wr) (hL : L.length ≤ 8) :
    ∃ iv, (∃ a n c, iv = Value.slice a n c) ∧ wr.cell? ⟨g + 1, 1, none⟩ = some iv ∧ Calls Tryd.prog 31 #[.pointer (some ⟨p, 0, none⟩)] wr.drew fun e w3 => ∃ kv,
      e = .returned (.agg (inC ((inS s).1, kv)).toArray) ∧ w3.cell? ⟨g + 1, 1, none⟩ = some iv ∧ w3.frozen? ⟨g + 1, 1, none⟩ = false ∧ (w3.alloc (.cells (inC ((inS s).1, kv)).toArray 51)).cell? ⟨g + 1, 1, none⟩ = some iv ∧
      ∃ v4 w4, (Builtin.append_ #[23, 23] 23 #[iv, .slice (some ⟨w3.heap.size, 0, none⟩) 1 1]).run Tryd.prog (w3.alloc (.cells (inC ((inS s).1, kv)).toArray 51)) = .ok v4 w4 ∧
        w4.cell? ⟨g + 1, 1, none⟩ = some iv ∧ w4.frozen? ⟨g + 1, 1, none⟩ = false ∧ (∃ a n c, v4 = Value.slice a n c) ∧ Reads w p g ver (L ++ [(inS s).1]) (inS s).2 (w4.setCell ⟨g + 1, 1, none⟩ v4) := by
  obtain ⟨hrd, hbes, hsz, hres, iv, hbox, hins⟩ := h
  refine ⟨iv, hins.at.form.elim fun a h => h.elim fun c h => ⟨a, _, c, h.1⟩, hbox.2.1, ?_⟩
  have hb : AllB s.1 := by obtain ⟨v, -, -, -, -, hb, -⟩ := hrd; exact hb
  have hio := inS_all hb
  refine (rin_any wr.drew p s (hrd.on (Below.refl _ _).drew)).mono ?_
  rintro e w3 ⟨kv, rfl, hr3, hbs3, hk3, hkb⟩
  have hs3 : wr.heap.size ≤ w3.heap.size := hbs3.size
  have hblk : ∀ k, k < wr.heap.size → k ≠ p → w3.heap[k]? = wr.heap[k]? := fun k hk hne => hbs3.block k hk hne hne
  have hbox3 := hbox.heap (hblk (g + 1) (by omega) (by omega))
  have hres3 := there_heap hres (hblk g (by omega) (by omega))
  have hins3 : InsOwn w3 (g + 2) iv L := hins.move hs3 fun k h1 h2 => hblk k h2 (by omega)
  refine ⟨kv, rfl, hbox3.2.1, there_free0 hbox3.2.2.2 1 (by omega), (((Below.refl _ _).alloc (Nat.le_refl _) _ : Below w3.heap.size w3 _).cell (World.block_lt_of_cell? _ _ hbox3.2.1)).trans hbox3.2.1, ?_⟩
  obtain ⟨D, hD, hrow, hkeys⟩ := hins3
  have hbel : Below w3.heap.size w3 (w3.alloc (.cells (inC ((inS s).1, kv)).toArray 51)) := (Below.refl _ _).alloc (Nat.le_refl _) _
  have hsz4 : (w3.alloc (.cells (inC ((inS s).1, kv)).toArray 51)).heap.size = w3.heap.size + 1 := alloc_size _ _
  have hnew := range_new w3 (inC ((inS s).1, kv)) 51
  have hDl : (D.map inC).length ≤ 10000 := by rw [List.length_map]; have := congrArg List.length hD; rw [List.length_map] at this; omega
  generalize w3.alloc (.cells (inC ((inS s).1, kv)).toArray 51) = W4 at *
  have hrow4 := hrow.move (w1 := W4) fun k _ h2 => hbel.block k h2
  obtain ⟨v4, w4, hrun, hrow5, hgr, hwh⟩ := run_append_row W4 23 51 23 _ 34 64 Tryd.underlying23 infoIn rfl (by omega) (by omega) (g + 2) iv (D.map inC) hrow4 w3.heap.size (inC ((inS s).1, kv)) hnew ⟨inC_length hio.1.1, inC_one hk3.oneCell⟩ hDl (by omega)
  have hlt := hrow.lt
  have hblk5 : ∀ k, k < w3.heap.size → iv.ownBlock ≠ some k → w4.heap[k]? = w3.heap[k]? := fun k hk hne => (hgr.block k (by omega) (fun e => hne e.symm)).trans (hbel.block k hk)
  have hne1 : iv.ownBlock ≠ some (g + 1) := fun e => by have := hlt _ e; omega
  have hne0 : iv.ownBlock ≠ some g := fun e => by have := hlt _ e; omega
  have hnep : ∀ k, k ≤ p → iv.ownBlock ≠ some k := fun k hk e => by have := hlt _ e; omega
  have hs5 : w3.heap.size + 1 ≤ w4.heap.size := by have := hgr.size; omega
  have hbox5 := hbox3.heap (hblk5 (g + 1) (by omega) hne1)
  refine ⟨v4, w4, hrun, hbox5.2.1, there_free0 hbox5.2.2.2 1 (by omega), hrow5.row.form.elim fun a h => h.elim fun c h => ⟨a, _, c, h.1⟩, ?_⟩
  have hsk : ∀ k, k ≠ g + 1 → (w4.setCell ⟨g + 1, 1, none⟩ v4).heap[k]? = w4.heap[k]? := fun k hk => Below.heap_setCell _ _ _ _ (by show k ≠ g + 1; exact hk)
  have hins5 : InsOwn w4 (g + 2) v4 (L ++ [(inS s).1]) := by
    rw [← hD]
    refine InsOwn.more (w := W4) (v := iv) (kv := kv) (fun x hx => (hkeys x hx).step hbel.size fun k hk _ => hbel.block k hk) hrow5 hgr hwh (hk3.below hbel) fun k e => ?_
    have h1 := hkb k e
    have h1' : wr.heap.size ≤ k := h1.1
    refine ⟨by omega, fun e' => ?_, by omega⟩
    have := hins.elim fun _ h => h.2.1.lt k e'
    omega
  refine ⟨?_, ?_, ?_, ?_, v4, hbox5.ins v4, ?_⟩
  · refine (hr3.move (w1 := w4) (by omega) fun k hk => hblk5 k (by have := hr3.lt; omega) (hnep k hk)).move (by rw [size_setCell]; exact Nat.le_refl _) fun k hk => hsk k (by omega)
  · have h3 : Besides p p w w3 := hbes.drew.trans hbs3
    refine box_besides ⟨hgr.os.trans (hbel.os.trans h3.os), hgr.tape.trans (hbel.tape.trans h3.tape), hgr.output.trans (hbel.output.trans h3.output), by omega, fun k hk h1 h2 => (hblk5 k (by omega) (fun e => by have := hlt _ e; omega)).trans (h3.block k hk h1 h2)⟩ _ _ _ (by omega)
  · rw [size_setCell]; omega
  · exact there_heap (there_heap hres3 (hblk5 g (by omega) hne0)) (hsk g (by omega))
  · exact hins5.move (by rw [size_setCell]; exact Nat.le_refl _) fun k h1 _ => hsk k (by omega)

set_option maxRecDepth 100000 in
set_option maxHeartbeats 2000000 in
theorem routs_round (w : World) (p g B : Nat) (hw : w.heap.size = g) (hp : p < g) (ver : Int) (L : List TIn) (M : List TOut) (s : RdS) (wr : World) (h : ReadsO w p g B ver L M s wr) (hM : M.length ≤ 8) :
    ∃ ov, (∃ a n c, ov = Value.slice a n c) ∧ wr.cell? ⟨g + 1, 2, none⟩ = some ov ∧ Calls Tryd.prog 32 #[.pointer (some ⟨p, 0, none⟩)] wr.drew fun e w3 =>
      e = .returned (.agg (outC (outS s).1).toArray) ∧ w3.cell? ⟨g + 1, 2, none⟩ = some ov ∧ w3.frozen? ⟨g + 1, 2, none⟩ = false ∧ (w3.alloc (.cells (outC (outS s).1).toArray 45)).cell? ⟨g + 1, 2, none⟩ = some ov ∧
      ∃ v4 w4, (Builtin.append_ #[24, 24] 24 #[ov, .slice (some ⟨w3.heap.size, 0, none⟩) 1 1]).run Tryd.prog (w3.alloc (.cells (outC (outS s).1).toArray 45)) = .ok v4 w4 ∧
        w4.cell? ⟨g + 1, 2, none⟩ = some ov ∧ w4.frozen? ⟨g + 1, 2, none⟩ = false ∧ (∃ a n c, v4 = Value.slice a n c) ∧ ReadsO w p g B ver L (M ++ [(outS s).1]) (outS s).2 (w4.setCell ⟨g + 1, 2, none⟩ v4) := by
  obtain ⟨hrd, hbes, ⟨hsz, hsB⟩, hres, iv, ov, hbox, hins, hrow0⟩ := h
  refine ⟨ov, hrow0.row.form.elim fun a h => h.elim fun c h => ⟨a, _, c, h.1⟩, hbox.2.2.1, ?_⟩
  have hb : AllB s.1 := by obtain ⟨v, -, -, -, -, hb, -⟩ := hrd; exact hb
  have hio := outS_all hb
  refine (rout_any wr.drew p s (hrd.on (Below.refl _ _).drew)).mono ?_
  rintro e w3 ⟨rfl, hr3, hbs3⟩
  have hs3 : wr.heap.size ≤ w3.heap.size := hbs3.size
  have hblk : ∀ k, k < wr.heap.size → k ≠ p → w3.heap[k]? = wr.heap[k]? := fun k hk hne => hbs3.block k hk hne hne
  have hbox3 := hbox.heap (hblk (g + 1) (by omega) (by omega))
  have hres3 := there_heap hres (hblk g (by omega) (by omega))
  have hrow := hrow0.move (w1 := w3) fun k h1 h2 => hblk k h2 (by omega)
  refine ⟨rfl, hbox3.2.2.1, there_free0 hbox3.2.2.2 2 (by omega), (((Below.refl _ _).alloc (Nat.le_refl _) _ : Below w3.heap.size w3 _).cell (World.block_lt_of_cell? _ _ hbox3.2.2.1)).trans hbox3.2.2.1, ?_⟩
  have hbel : Below w3.heap.size w3 (w3.alloc (.cells (outC (outS s).1).toArray 45)) := (Below.refl _ _).alloc (Nat.le_refl _) _
  have hsz4 : (w3.alloc (.cells (outC (outS s).1).toArray 45)).heap.size = w3.heap.size + 1 := alloc_size _ _
  have hnew := range_new w3 (outC (outS s).1) 45
  have hDl : (M.map outC).length ≤ 10000 := by rw [List.length_map]; omega
  generalize w3.alloc (.cells (outC (outS s).1).toArray 45) = W4 at *
  have hrow4 := hrow.move (w1 := W4) fun k _ h2 => hbel.block k h2
  obtain ⟨v4, w4, hrun, hrow5, hgr, hwh⟩ := run_append_row W4 24 45 24 _ 33 40 Tryd.underlying24 infoOut rfl (by omega) (by omega) B ov (M.map outC) hrow4 w3.heap.size (outC (outS s).1) hnew ⟨outC_length hio.1.2.1, outC_one _⟩ hDl (by omega)
  have hlt := hrow0.lt
  have hblk5 : ∀ k, k < w3.heap.size → ov.ownBlock ≠ some k → w4.heap[k]? = w3.heap[k]? := fun k hk hne => (hgr.block k (by omega) (fun e => hne e.symm)).trans (hbel.block k hk)
  have hne : ∀ k, k < B → ov.ownBlock ≠ some k := fun k hk e => by have := hlt _ e; omega
  have hs5 : w3.heap.size + 1 ≤ w4.heap.size := by have := hgr.size; omega
  have hbox5 := hbox3.heap (hblk5 (g + 1) (by omega) (hne _ (by omega)))
  refine ⟨v4, w4, hrun, hbox5.2.2.1, there_free0 hbox5.2.2.2 2 (by omega), hrow5.row.form.elim fun a h => h.elim fun c h => ⟨a, _, c, h.1⟩, ?_⟩
  have hsk : ∀ k, k ≠ g + 1 → (w4.setCell ⟨g + 1, 2, none⟩ v4).heap[k]? = w4.heap[k]? := fun k hk => Below.heap_setCell _ _ _ _ (by show k ≠ g + 1; exact hk)
  refine ⟨?_, ?_, ⟨hsz, ?_⟩, ?_, iv, v4, hbox5.outs v4, ?_, ?_⟩
  · refine (hr3.move (w1 := w4) (by omega) fun k hk => hblk5 k (by have := hr3.lt; omega) (hne k (by omega))).move (by rw [size_setCell]; exact Nat.le_refl _) fun k hk => hsk k (by omega)
  · have h3 : Besides p p w w3 := hbes.drew.trans hbs3
    refine box_besides ⟨hgr.os.trans (hbel.os.trans h3.os), hgr.tape.trans (hbel.tape.trans h3.tape), hgr.output.trans (hbel.output.trans h3.output), by omega, fun k hk h1 h2 => (hblk5 k (by omega) (hne k (by omega))).trans (h3.block k hk h1 h2)⟩ _ _ _ (by omega)
  · rw [size_setCell]; omega
  · exact there_heap (there_heap hres3 (hblk5 g (by omega) (hne _ (by omega)))) (hsk g (by omega))
  · exact hins.step (by rw [size_setCell]; omega) fun k hk hp => (hsk k (by omega)).trans ((hblk5 k (by omega) (hne k (by omega))).trans (hblk k hk (by omega)))
  · have := hrow5.move (w1 := w4.setCell ⟨g + 1, 2, none⟩ v4) fun k h1 _ => hsk k (by omega)
    simpa using this

end Go.Proofs.YtjgainoplgojiabDoor
