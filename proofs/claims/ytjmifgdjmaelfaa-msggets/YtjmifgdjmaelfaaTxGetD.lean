/-
  What the document's Get of a transaction answers at this program, whatever the bytes.
-/
import Derived.Test.YtjmifgdjmaelfaaTxGetR
import Derived.Test.YtjmifgdjmaelfaaTxPtB
import Derived.Deep.RegionHeld3
namespace Go.Proofs.Ytjmifgdjmaelfaa
open Go.RowKit

/-- 'append' of bytes onto bytes of the call's own, as a run. -/
theorem run_append_bytes (w : World) (rt : TypeId) (base : Nat) (v : Value) (l : List Int) (hown : Own w base v l) (a : Addr) (m : List Int) (cap : Nat) (hsrc : Bytes w (.slice (some a) m.length cap) m) (hsz : l.length + m.length ≤ 1000000) (hb : base ≤ w.heap.size) :
    ∃ v' w', (Builtin.append_ #[22, 22] rt #[v, .slice (some a) m.length cap]).run Try.prog w = .ok v' w' ∧ Own w' base v' (l ++ m) ∧ w.grownBy w' v.ownBlock := by
  obtain ⟨i0, hi, hz0, hz1, hz2⟩ := info_parts infoB
  obtain ⟨ad, cap', e, hcap, hmax, hnone, hcell⟩ := hsrc
  cases e
  obtain ⟨v', w', h1, h2, h3, -⟩ := run_append_where (P := Try.prog) w base 22 rt 5 i0 (.int .u8 0) 1 1 Try.underlying22 hi hz0 hz1 hz2 rfl (by decide) v l.length (l.map (Value.int .u8)) hown a m.length cap (m.map (Value.int .u8)) (by simp) (fun j u hj => by
    have hjl : j < m.length := by
      have := (List.getElem?_eq_some_iff.1 hj).1
      simpa using this
    obtain ⟨b, off, e, hc⟩ := hcell (by omega)
    cases e
    have e2 : (⟨b, off, none⟩ : Addr).add j = ⟨b, off + j, none⟩ := by simp [Addr.add]
    rw [e2, hc j hjl, ← hj]
    simp [List.getD, hjl]) (ints_oneCell _ _) (by unfold maxLen; omega) (by omega) hb
  refine ⟨v', w', h1, ?_, h3⟩
  unfold Own
  rw [List.length_append, List.map_append]
  exact h2
/-- A slice of a slice that lies somewhere, with both bounds, told ahead. -/
theorem cut7 (b off n cap lo m : Nat) (k hi : Int) (h1 : k = lo) (h2 : hi = (lo : Int) + m) (hh : lo + m ≤ n) (hn : n ≤ cap) :
    ∃ off1 c1, (∀ w, (Instr.slice 22 (.slice (some ⟨b, off, none⟩) n cap) (some (.int .i64 k)) (some (.int .i64 hi)) none).run Try.prog w = .ok (.slice (some ⟨b, off1, none⟩) m c1) w) ∧ ∀ (w0 : World) (r : List Int), Bytes w0 (.slice (some ⟨b, off, none⟩) n cap) r → Bytes w0 (.slice (some ⟨b, off1, none⟩) m c1) ((r.drop lo).take m) := by
  obtain rfl : hi = ((lo + m : Nat) : Int) := by omega
  subst h1
  have e0 : (if cap = lo then (some ⟨b, off, none⟩ : Option Addr) else (some ⟨b, off, none⟩ : Option Addr).map (·.add lo)) = some ⟨b, if cap = lo then off else off + lo, none⟩ := by
    split <;> simp [Addr.add]
  have em : lo + m - lo = m := by omega
  refine ⟨if cap = lo then off else off + lo, cap - lo, fun w => ?_, fun w0 r h => ?_⟩
  · rw [run_slice_lh w 22 _ n cap (by rw [Try.underlying22]; kernel_rfl) .i64 .i64 (lo : Int) ((lo + m : Nat) : Int) (by omega) (by omega) (by omega)]
    have e : (sizeOf (Try.prog.elem 22)).run Try.prog w = .ok 1 w := by kernel_rfl
    rw [e, ← e0]
    simp [Result.andThen, sliced]
    omega
  · have h3 := (h.drop lo (by omega)).take m (by omega)
    rw [e0] at h3
    exact h3

/-- What holds while the document's Get reads: the result's block is g, the transaction's g + 1, its rows lie behind. -/
structure DReads (g : Nat) (w : World) (ver : Int) (L : List TIn) (wr : World) : Prop where
  bel : Below g w wr
  size : g + 2 ≤ wr.heap.size
  res : wr.there g 0 3
  box : ∃ iv, TxBox wr (g + 1) ver iv (.slice none 0 0) ∧ InsOwn wr (g + 2) iv L
theorem DReads.on {g : Nat} {w : World} {ver : Int} {L : List TIn} {wr w5 : World} (h : DReads g w ver L wr) (hb : Below wr.heap.size wr w5) : DReads g w ver L w5 := by
  obtain ⟨h1, h2, h3, iv, h5, h6⟩ := h
  exact ⟨h1.trans (hb.mono (by omega)), by have := hb.size; omega, there_on h3 hb, iv, h5.heap (hb.block _ (by omega)), h6.move hb.size fun k _ h => hb.block k h⟩
def DIns (g : Nat) (w : World) (ver : Int) (l : List Int) (K : Nat) (s : RdS) (a i : Value) (wr : World) : Prop :=
  ∃ k n : Nat, k ≤ K ∧ i = .int .i64 k ∧ a = .int .i64 n ∧ n ≤ l.length ∧ (insS k s).2 = (l.drop n, 0) ∧ DReads g w ver (insS k s).1 wr
/-- While the outputs are read: they lie behind B, the inputs below it. -/
structure DReadsO (g B : Nat) (w : World) (ver : Int) (L : List TIn) (M : List TOut) (wr : World) : Prop where
  bel : Below g w wr
  size : g + 2 ≤ B ∧ B ≤ wr.heap.size
  res : wr.there g 0 3
  box : ∃ iv ov, TxBox wr (g + 1) ver iv ov ∧ Keeps (fun k => g + 2 ≤ k ∧ k < B) wr (fun w => InsAt w iv L) ∧ RowOwn wr B 42 33 ov (M.map outC)
theorem DReadsO.on {g B : Nat} {w : World} {ver : Int} {L : List TIn} {M : List TOut} {wr w5 : World} (h : DReadsO g B w ver L M wr) (hb : Below wr.heap.size wr w5) : DReadsO g B w ver L M w5 := by
  obtain ⟨h1, ⟨h2, h2'⟩, h3, iv, ov, h5, h6, h7⟩ := h
  exact ⟨h1.trans (hb.mono (by omega)), ⟨h2, by have := hb.size; omega⟩, there_on h3 hb, iv, ov, h5.heap (hb.block _ (by omega)), h6.below hb, h7.move fun k _ h => hb.block k h⟩
theorem DReads.turn {g : Nat} {w : World} {ver : Int} {L : List TIn} {wr : World} (h : DReads g w ver L wr) : DReadsO g wr.heap.size w ver L [] wr := by
  obtain ⟨h1, h2, h3, iv, h5, h6⟩ := h
  exact ⟨h1, ⟨h2, Nat.le_refl _⟩, h3, iv, _, h5, h6.keeps, RowOwn.nil _ _ _ _⟩
def DOuts (g B : Nat) (w : World) (ver : Int) (L : List TIn) (l : List Int) (K : Nat) (s : RdS) (a i : Value) (wr : World) : Prop :=
  ∃ k n : Nat, k ≤ K ∧ i = .int .i64 k ∧ a = .int .i64 n ∧ n ≤ l.length ∧ (outsS k s).2 = (l.drop n, 0) ∧ DReadsO g B w ver L (outsS k s).1 wr
/-- An error's end. -/
theorem dget_bad (l : List Int) (w wr : World) (e : Int) (h : gtE l = e) (he : e ≠ 0) (hb : Below w.heap.size w wr) :
    GetDone w l (.returned (.tuple #[.agg #[.int .u32 0, .slice none 0 0, .slice none 0 0], .int .i64 0, .int .i64 e])) (wr.setCells w.heap.size 0 [.int .u32 0, .slice none 0 0, .slice none 0 0]) := by
  subst h
  obtain ⟨h1, h2⟩ := get_bad he
  exact ⟨_, _, by rw [h1, h2]; rfl, below_sets (Nat.le_refl _) _ _ _ hb, by rw [h1]; exact fun w' _ => TxAt.none w'⟩
theorem gt_of {l : List Int} {t : Tr} {n : Nat} (h : txS (l, 0) = (t, (l.drop n, 0))) (hn : n ≤ l.length) : gtE l = 0 ∧ gtT l = t ∧ gtN l = (n : Int) := by
  have hE : gtE l = 0 := by unfold gtE; rw [h]
  refine ⟨hE, ?_, ?_⟩
  · unfold gtT; rw [if_pos hE, h]
  · unfold gtN; rw [if_pos hE, h]; simp only [List.length_drop]; omega
theorem DReadsO.done {g B : Nat} {w : World} {ver : Int} {L : List TIn} {M : List TOut} {wr : World} (h : DReadsO g B w ver L M wr) :
    ∃ iv ov, wr.rangeAt (g + 1) 0 [.int .u32 ver, iv, ov] ∧ (∀ u ∈ [Value.int .u32 ver, iv, ov], u.oneCell' = true) ∧ Below g w (wr.setCells g 0 [.int .u32 ver, iv, ov]) ∧
      Keeps (fun k => g ≤ k) (wr.setCells g 0 [.int .u32 ver, iv, ov]) (fun w => TxAt w iv ov ⟨ver, L, M⟩) := by
  obtain ⟨h2, ⟨h3, h3'⟩, h4, iv, ov, h5, h6, h7⟩ := h
  have hi := h6.self.form
  have ho := h7.row.form
  have hk : ∀ vs : List Value, Keeps (fun k => g + 1 ≤ k) (wr.setCells g 0 vs) (fun w => TxAt w iv ov ⟨ver, L, M⟩) := fun vs => by
    have hb : ∀ k, k < wr.heap.size → g + 1 ≤ k → (wr.setCells g 0 vs).heap[k]? = wr.heap[k]? := fun k hk h => (Besides.sets (p := g) (q := g) (w := wr) (Or.inl rfl) vs 0 wr (Besides.refl _ _ _)).block k hk (by omega) (by omega)
    have ka : Keeps (fun k => g + 1 ≤ k) wr (fun w => TxAt w iv ov ⟨ver, L, M⟩) := fun w' hw => ⟨h6 w' fun k hk hp => hw k hk (by omega), h7.keeps w' fun k hk hp => hw k hk (by omega)⟩
    exact ka.step (by rw [size_setCells]; exact Nat.le_refl _) hb
  refine ⟨iv, ov, txBox_range h5, ?_, below_sets (Nat.le_refl g) _ _ _ h2, (hk _).weak fun k _ h => by omega⟩
  obtain ⟨a, c, rfl, -⟩ := hi
  obtain ⟨a', c', rfl, -⟩ := ho
  intro u hu
  simp only [List.mem_cons, List.not_mem_nil, or_false] at hu
  rcases hu with rfl | rfl | rfl <;> rfl
theorem zero_one : ∀ u ∈ [Value.int .u32 0, .slice none 0 0, .slice none 0 0], u.oneCell' = true := by simp [Value.oneCell']

/-- One more input: all that the round's last region meets, told ahead. -/
theorem dins_round {g : Nat} {w : World} {ver : Int} {L : List TIn} {wr : World} (h : DReads g w ver L wr) (hL : L.length ≤ 8) (gp : Nat) (x : TIn) (hp : wr.rangeAt gp 0 (ptC x.tx x.n)) (hx : x.tx.length = 32) (hg : g + 2 ≤ gp)
    (b off cap m : Nat) (hm : x.key.length = m) (hk : Bytes wr (.slice (some ⟨b, off, none⟩) m cap) x.key) (hk64 : m ≤ 64) (hap : ∀ iv, wr.cell? ⟨g + 1, 1, none⟩ = some iv → iv.ownBlock ≠ some gp) :
    ∃ (iv : Value) (v9 : Value) (w9 : World) (v11 : Value) (w11 : World), (∃ a n c, iv = Value.slice a n c) ∧ (∃ a n c, v9 = Value.slice a n c) ∧ (∃ a n c, v11 = Value.slice a n c) ∧ wr.drew.cell? ⟨g + 1, 1, none⟩ = some iv ∧
      (wr.alloc (.cells #[] 5)).cell? ⟨g + 1, 1, none⟩ = some iv ∧ w9.cell? ⟨g + 1, 1, none⟩ = some iv ∧ (w9.alloc (.cells (inC (x, v9)).toArray 48)).cell? ⟨g + 1, 1, none⟩ = some iv ∧ w11.cell? ⟨g + 1, 1, none⟩ = some iv ∧ w11.frozen? ⟨g + 1, 1, none⟩ = false ∧
      wr.drew.rangeAt gp 0 (ptC x.tx x.n) ∧ (wr.alloc (.cells #[] 5)).drew.rangeAt gp 0 (ptC x.tx x.n) ∧ w9.rangeAt gp 0 (ptC x.tx x.n) ∧ (w9.alloc (.cells (inC (x, v9)).toArray 48)).rangeAt gp 0 (ptC x.tx x.n) ∧ w11.rangeAt gp 0 (ptC x.tx x.n) ∧ (w11.setCell ⟨g + 1, 1, none⟩ v11).rangeAt gp 0 (ptC x.tx x.n) ∧
      (Builtin.append_ #[22, 22] 22 #[.slice (some ⟨wr.heap.size, 0, none⟩) 0 0, .slice (some ⟨b, off, none⟩) m cap]).run Try.prog (wr.alloc (.cells #[] 5)).drew = .ok v9 w9 ∧
      (Builtin.append_ #[25, 25] 25 #[iv, .slice (some ⟨w9.heap.size, 0, none⟩) 1 1]).run Try.prog (w9.alloc (.cells (inC (x, v9)).toArray 48)) = .ok v11 w11 ∧
      DReads g w ver (L ++ [x]) (w11.setCell ⟨g + 1, 1, none⟩ v11) := by
  subst hm
  obtain ⟨hbel, hsz, hres, iv, hbox, hins⟩ := h
  have bd : Below wr.heap.size wr wr.drew := (Below.refl _ _).drew
  have sd : wr.drew.heap.size = wr.heap.size := rfl
  have b8 : Below wr.heap.size wr (wr.drew.alloc (.cells #[] 5)) := bd.alloc (Nat.le_refl _) _
  have s8 : (wr.drew.alloc (.cells #[] 5)).heap.size = wr.heap.size + 1 := alloc_size _ _
  have o8 : Own (wr.drew.alloc (.cells #[] 5)) wr.heap.size (.slice (some ⟨wr.heap.size, 0, none⟩) 0 0) [] := Own.made wr.drew wr.heap.size (Nat.le_refl _)
  obtain ⟨v9, w9, hrun9, o9, g9⟩ := run_append_bytes (wr.drew.alloc (.cells #[] 5)) 22 wr.heap.size _ [] o8 ⟨b, off, none⟩ x.key cap (hk.below b8) (by simp; omega) (by omega)
  rw [List.nil_append] at o9
  have b9 : Below wr.heap.size wr w9 := b8.grown g9 (by omega) fun k hk => (World.ownsRow.lt o8 k hk).1
  have hbox9 := hbox.heap (b9.block (g + 1) (by omega))
  have hins9 : InsOwn w9 (g + 2) iv L := hins.move b9.size fun k _ h2 => b9.block k h2
  have hbn : Below w9.heap.size w9 (w9.alloc (.cells (inC (x, v9)).toArray 48)) := (Below.refl _ _).alloc (Nat.le_refl _) _
  have s10 : (w9.alloc (.cells (inC (x, v9)).toArray 48)).heap.size = w9.heap.size + 1 := alloc_size _ _
  have hnew := range_new w9 (inC (x, v9)) 48
  have hone : v9.oneCell' = true := o9.bytes.oneCell
  obtain ⟨D, hD, hrow, hkeys⟩ := hins9
  have hDl : (D.map inC).length ≤ 10000 := by rw [List.length_map]; have := congrArg List.length hD; rw [List.length_map] at this; omega
  have hbox10 := hbox9.heap (hbn.block (g + 1) (by have := b9.size; omega))
  have hrow10 := hrow.move (w1 := w9.alloc (.cells (inC (x, v9)).toArray 48)) fun k _ h2 => hbn.block k h2
  obtain ⟨v11, w11, hrun11, hrow11, g11, hwh⟩ := run_append_row (w9.alloc (.cells (inC (x, v9)).toArray 48)) 25 48 25 _ 34 64 Try.underlying25 infoIn rfl (by omega) (by omega) (g + 2) iv (D.map inC) hrow10 w9.heap.size (inC (x, v9)) hnew ⟨inC_length hx, inC_one hone⟩ hDl (by have := b9.size; omega)
  have hlt := hrow.lt
  have hblk : ∀ k, k < w9.heap.size → iv.ownBlock ≠ some k → w11.heap[k]? = w9.heap[k]? := fun k hk hne => (g11.block k (by omega) (fun e => hne e.symm)).trans (hbn.block k hk)
  have hne : ∀ k, k < g + 2 → iv.ownBlock ≠ some k := fun k hk e => by have := hlt _ e; omega
  have hs11 : w9.heap.size + 1 ≤ w11.heap.size := by have := g11.size; omega
  have hs9 := b9.size
  have hbox11 := hbox9.heap (hblk (g + 1) (by omega) (hne _ (by omega)))
  have hkb := fun k (e : v9.ownBlock = some k) => World.ownsRow.lt o9 k e
  have hins11 : InsOwn w11 (g + 2) v11 (L ++ [x]) := by
    rw [← hD]
    refine InsOwn.more (w := w9.alloc (.cells (inC (x, v9)).toArray 48)) (v := iv) (kv := v9) (fun x hx => (hkeys x hx).step hbn.size fun k hk _ => hbn.block k hk) hrow11 g11 hwh (o9.bytes.below hbn) fun k e => ?_
    have h1 := hkb k e
    refine ⟨by omega, fun e' => ?_, by omega⟩
    have := hins.elim fun _ h => h.2.1.lt k e'
    omega
  have hsk : ∀ k, k ≠ g + 1 → (w11.setCell ⟨g + 1, 1, none⟩ v11).heap[k]? = w11.heap[k]? := fun k hk => Below.heap_setCell _ _ _ _ (by show k ≠ g + 1; exact hk)
  have hgp : gp < w9.heap.size := by
    have h0 : (ptC x.tx x.n)[32]? = some (.int .u32 x.n) := by simp [ptC, vals, hx]
    have := World.block_lt_of_cell? _ _ (hp 32 _ h0)
    have h1 : gp < wr.heap.size := this
    omega
  have r11 : w11.rangeAt gp 0 (ptC x.tx x.n) := range_heap (range_on hp b9) (hblk gp hgp (hap iv hbox.2.1))
  refine ⟨iv, v9, w9, v11, w11, hins.at.form.elim fun a h => h.elim fun c h => ⟨a, _, c, h.1⟩, o9.bytes.form.elim fun a h => h.elim fun c h => ⟨a, _, c, h.1⟩, hrow11.row.form.elim fun a h => h.elim fun c h => ⟨a, _, c, h.1⟩,
    (hbox.heap (w' := wr.drew) rfl).2.1, (hbox.heap (b8.block (g + 1) (by omega))).2.1, hbox9.2.1, hbox10.2.1, hbox11.2.1, there_free0 hbox11.2.2.2 1 (by omega), range_on hp bd, range_on hp b8, range_on hp b9, range_on (range_on hp b9) hbn, r11, range_heap r11 (hsk gp (by omega)), hrun9, hrun11, ?_⟩
  refine ⟨?_, by rw [size_setCell]; omega, ?_, v11, hbox11.ins v11, hins11.move (by rw [size_setCell]; exact Nat.le_refl _) fun k h1 _ => hsk k (by omega)⟩
  · refine below_set ?_ (by show g ≤ g + 1; omega) _
    have h1 : Below g w (w9.alloc (.cells (inC (x, v9)).toArray 48)) := (hbel.trans (b9.mono (by omega))).alloc (by omega) _
    exact h1.grown g11 (by omega) fun k e => by have := hlt k e; omega
  · refine there_heap (there_heap (there_on hres b9) (hblk g (by omega) (hne _ (by omega)))) (hsk g (by omega))
/-- One more output. -/
theorem douts_round {g B : Nat} {w : World} {ver : Int} {L : List TIn} {M : List TOut} {wr w3 : World} (h0 : DReadsO g B w ver L M wr) (hb3 : Below wr.heap.size wr w3) (hM : M.length ≤ 8) (x : TOut) (hx : x.lock.length = 32) :
    ∃ (ov : Value) (v4 : Value) (w4 : World), (∃ a n c, ov = Value.slice a n c) ∧ (∃ a n c, v4 = Value.slice a n c) ∧ wr.cell? ⟨g + 1, 2, none⟩ = some ov ∧ w3.cell? ⟨g + 1, 2, none⟩ = some ov ∧ (w3.alloc (.cells (outC x).toArray 42)).cell? ⟨g + 1, 2, none⟩ = some ov ∧
      w4.cell? ⟨g + 1, 2, none⟩ = some ov ∧ w4.frozen? ⟨g + 1, 2, none⟩ = false ∧
      (Builtin.append_ #[26, 26] 26 #[ov, .slice (some ⟨w3.heap.size, 0, none⟩) 1 1]).run Try.prog (w3.alloc (.cells (outC x).toArray 42)) = .ok v4 w4 ∧
      DReadsO g B w ver L (M ++ [x]) (w4.setCell ⟨g + 1, 2, none⟩ v4) := by
  have hc0 := h0.box.elim fun iv h => h.elim fun ov h => (⟨ov, h.1.2.2.1⟩ : ∃ ov, wr.cell? ⟨g + 1, 2, none⟩ = some ov)
  obtain ⟨ov0, hc0⟩ := hc0
  obtain ⟨hbel, ⟨hsz, hsB⟩, hres, iv, ov, hbox, hins, hrow⟩ := h0.on hb3
  have e0 : ov0 = ov := by
    have := (hb3.cell (World.block_lt_of_cell? _ _ hc0)).trans hc0
    rw [hbox.2.2.1] at this
    exact (Option.some.inj this).symm
  subst e0
  have hbn : Below w3.heap.size w3 (w3.alloc (.cells (outC x).toArray 42)) := (Below.refl _ _).alloc (Nat.le_refl _) _
  have s4 : (w3.alloc (.cells (outC x).toArray 42)).heap.size = w3.heap.size + 1 := alloc_size _ _
  have hnew := range_new w3 (outC x) 42
  have hDl : (M.map outC).length ≤ 10000 := by rw [List.length_map]; omega
  have hrow4 := hrow.move (w1 := w3.alloc (.cells (outC x).toArray 42)) fun k _ h2 => hbn.block k h2
  obtain ⟨v4, w4, hrun, hrow5, hgr, hwh⟩ := run_append_row (w3.alloc (.cells (outC x).toArray 42)) 26 42 26 _ 33 40 Try.underlying26 infoOut rfl (by omega) (by omega) B ov0 (M.map outC) hrow4 w3.heap.size (outC x) hnew ⟨outC_length hx, outC_one _⟩ hDl (by omega)
  have hlt := hrow.lt
  have hblk5 : ∀ k, k < w3.heap.size → ov0.ownBlock ≠ some k → w4.heap[k]? = w3.heap[k]? := fun k hk hne => (hgr.block k (by omega) (fun e => hne e.symm)).trans (hbn.block k hk)
  have hne : ∀ k, k < B → ov0.ownBlock ≠ some k := fun k hk e => by have := hlt _ e; omega
  have hs5 : w3.heap.size + 1 ≤ w4.heap.size := by have := hgr.size; omega
  have hbox5 := hbox.heap (hblk5 (g + 1) (by omega) (hne _ (by omega)))
  have hsk : ∀ k, k ≠ g + 1 → (w4.setCell ⟨g + 1, 2, none⟩ v4).heap[k]? = w4.heap[k]? := fun k hk => Below.heap_setCell _ _ _ _ (by show k ≠ g + 1; exact hk)
  refine ⟨ov0, v4, w4, hrow.row.form.elim fun a h => h.elim fun c h => ⟨a, _, c, h.1⟩, hrow5.row.form.elim fun a h => h.elim fun c h => ⟨a, _, c, h.1⟩, hc0, hbox.2.2.1, (hbox.heap (hbn.block (g + 1) (by omega))).2.2.1, hbox5.2.2.1, there_free0 hbox5.2.2.2 2 (by omega), hrun, ?_⟩
  refine ⟨?_, ⟨hsz, by rw [size_setCell]; omega⟩, ?_, iv, v4, hbox5.outs v4, ?_, ?_⟩
  · refine below_set ?_ (by show g ≤ g + 1; omega) _
    exact (hbel.alloc (by omega) _).grown hgr (by omega) fun k e => by have := hlt k e; omega
  · exact there_heap (there_heap hres (hblk5 g (by omega) (hne _ (by omega)))) (hsk g (by omega))
  · exact hins.step (by rw [size_setCell]; omega) fun k hk hp => (hsk k (by omega)).trans (hblk5 k (by omega) (hne k (by omega)))
  · have := hrow5.move (w1 := w4.setCell ⟨g + 1, 2, none⟩ v4) fun k h1 _ => hsk k (by omega)
    simpa using this

end Go.Proofs.Ytjmifgdjmaelfaa
