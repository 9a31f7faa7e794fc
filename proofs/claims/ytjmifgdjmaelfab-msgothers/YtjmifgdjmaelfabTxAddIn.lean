/-
  What tx.addIn, addOut answer at this program, whatever stands there.
-/
import Derived.Test.YtjmifgdjmaelfabTxAdd
namespace Go.Proofs.Ytjmifgdjmaelfab
open Go.RowKit

theorem range_left {w : World} {b o : Nat} {c d : List Value} (h : w.rangeAt b o (c ++ d)) : w.rangeAt b o c := fun j v hv => h j v (by rw [List.getElem?_append_left (List.getElem?_eq_some_iff.1 hv).1]; exact hv)
theorem range_right {w : World} {b o : Nat} {c d : List Value} (h : w.rangeAt b o (c ++ d)) : w.rangeAt b (o + c.length) d := fun j v hv => by
  have := h (c.length + j) v (by rw [List.getElem?_append_right (by omega), show c.length + j - c.length = j by omega]; exact hv)
  rwa [← Nat.add_assoc] at this
theorem there_part {w : World} {b o n : Nat} (h : w.there b o n) (i m : Nat) (hi : i + m ≤ n) : w.there b (o + i) m := fun j hj => by
  have := h (i + j) (by omega)
  rwa [← Nat.add_assoc] at this
theorem box_in (w : World) (x : TIn × Value) (hl : x.1.tx.length = 32) (t : TypeId) : Arr (w.alloc (.cells (inC x).toArray t)) w.heap.size 0 .u8 x.1.tx := by
  refine ⟨range_left (range_new w (inC x) t), ?_⟩
  have e : (inC x).toArray.size = 34 := List.size_toArray.trans (inC_length hl)
  have := there_new w (inC x).toArray t
  rw [e] at this
  exact there_part this 0 _ (by omega)
theorem box_out (w : World) (x : TOut) (hl : x.lock.length = 32) (t : TypeId) : Arr (w.alloc (.cells (outC x).toArray t)) w.heap.size 1 .u8 x.lock ∧ (w.alloc (.cells (outC x).toArray t)).cell? ⟨w.heap.size, 0, none⟩ = some (.int .u64 x.val) := by
  have hr := range_new w (outC x) t
  have e : (outC x).toArray.size = 33 := List.size_toArray.trans (outC_length hl)
  have := there_new w (outC x).toArray t
  rw [e] at this
  refine ⟨⟨?_, ?_⟩, ?_⟩
  · have h := range_right (c := [Value.int .u64 x.val]) (d := vals .u8 x.lock) hr
    simpa using h
  · have h := there_part this 1 x.lock.length (by omega)
    simpa using h
  · have h := hr 0 _ rfl
    simpa using h
/-- What lies in a new block stays, while a row elsewhere grows. -/
theorem Grew.cell {w w' : World} {v v' : Value} (h : Grew w w' v v') {p : Addr} {u : Value} (hc : w.cell? p = some u) (hne : v.ownBlock ≠ some p.block) : w'.cell? p = some u := h.1.cell hc (fun e => hne e.symm)

set_option maxRecDepth 100000 in
set_option maxHeartbeats 1000000 in
theorem addIn_any (w : World) (base : Nat) (v : Value) (l : List Int) (x : TIn) (kv : Value) (hx : InOk x) (hk : x.key.length ≤ 1000) (hkv : Keeps (fun g => g < base) w fun w => Bytes w kv x.key) (hown : Own w base v l) (hb : base ≤ w.heap.size) (hl : l.length ≤ 800000) :
    Calls Try.prog 41 #[v, .agg (inC (x, kv)).toArray] w fun e w' => ∃ v', e = .returned v' ∧ Own w' base v' (l ++ inB x) ∧ Grew w w' v v' := by
  obtain ⟨x1, x2, x3, x4⟩ := hx
  have hvl : (var (x.key.length : Int)).length ≤ 9 := by have := var_length (x.key.length : Int); rcases size_cases (x.key.length : Int) with ⟨_, h⟩ | ⟨_, _, h⟩ | ⟨_, _, h⟩ | ⟨_, h⟩ <;> omega
  have hpl : (put 4 x.n).length = 4 := put_length 4 x.n
  have AN := hide (fun w v (h : Own w base v (l ++ x.tx)) hb => addNumber_any w base v (l ++ x.tx) x.n 4 (Or.inl rfl) x3.1 (by simpa using x3.2) h hb (by simp; omega))
  have AC := hide (fun w v (h : Own w base v (l ++ x.tx ++ put 4 x.n)) hb => addCount_any w base v (l ++ x.tx ++ put 4 x.n) x.key.length (by omega) h hb (by simp; omega))
  have A0 := box_in w (x, kv) x1 54
  have A1 := inC_key (range_new w (inC (x, kv)) 54) x1
  obtain ⟨pa, pc, rfl, hp1, hp2⟩ := hkv.self.form
  simp only [Nat.zero_add] at A0 A1
  have hbel : Below w.heap.size w (w.alloc (.cells (inC (x, .slice pa x.key.length pc)).toArray 54)) := (Below.refl _ _).alloc (Nat.le_refl _) _
  have HO := hide (hown.on hbel)
  have HK := hide (keeps_low hkv hbel hb)
  have HOB : Hid (∀ k, v.ownBlock = some k → k < w.heap.size) := hide (fun k hk => (World.ownsRow.lt hown k hk).2)
  have HSZ := hide hbel.size
  have HG0 : Hid (Grew w (w.alloc (.cells (inC (x, .slice pa x.key.length pc)).toArray 54)) v v) := hide (Grew.of_below v hbel)
  have HR : Hid (∀ w' v', Own w' base v' (l ++ (x.tx ++ (put 4 x.n ++ (var (x.key.length : Int) ++ x.key)))) → Own w' base v' (l ++ inB x)) := hide (fun w' v' h => h)
  have hx32 : (x.tx.length : Int) = 32 := by omega
  have HX := hide x1
  have HA := hide A0
  clear hown hkv hbel A0
  go_enter Try.func41, Try.ntmps41
  go_upto_region 1 with fail
  generalize w.alloc (.cells (inC (x, .slice pa x.key.length pc)).toArray 54) = W0 at *
  generalize hgs : w.heap.size = g at *
  have HGS := hide hgs
  clear hgs
  have HC1 := hide A1
  clear A1
  have HWB : Hid (base ≤ W0.heap.size) := hide (Nat.le_trans hb HSZ.out)
  go_wp2_with (at_builtin; refine wp_append_by rfl _ _ rfl base _ l rfl HO.out _ x.tx rfl (HA.out.asBytes 32 HX.out (by omega)) ?c1 ?c2 ?_)
  case c1 => have := HX.out; omega
  case c2 => exact HWB.out
  intro v1 w1 hown1 hg1
  have hne : v.ownBlock ≠ some g := fun e => by have := HOB.out g e; omega
  have hb1 := HO.out.grew hg1 HWB.out
  have hc1 := hg1.cell HC1.out.1 hne
  have hc2 := hg1.cell HC1.out.2 hne
  have hne1 : v1.ownBlock ≠ some g := fun e => by
    rcases hg1.2 with q | q
    · exact hne (q.symm.trans e)
    · have := q g e
      have := World.block_lt_of_cell? _ _ HC1.out.1
      simp only at this
      omega
  have HO1 := hide hown1
  have HK1 := hide (keeps_low HK.out hb1 (Nat.le_refl _))
  have HG1 := hide (HG0.out.trans hg1)
  have HN1 := hide hne1
  have HB1 : Hid (base ≤ w1.heap.size) := hide (Nat.le_trans HWB.out hg1.1.size)
  have HC1' := hide hc1
  clear hown1 hg1 hne hb1 hne1 HO HK HG0 HA HC1 HOB hc1
  go_wp2_with fail
  refine (AN.out _ _ HO1.out HB1.out).mono ?_
  rintro e w2 ⟨v2, rfl, hown2, hg2⟩
  have hb2 := HO1.out.grew hg2 HB1.out
  have hc1 := hg2.cell HC1'.out HN1.out
  have hne2 : v2.ownBlock ≠ some g := fun e => by
    rcases hg2.2 with q | q
    · exact HN1.out (q.symm.trans e)
    · have := q g e
      have := World.block_lt_of_cell? _ _ HC1'.out
      simp only at this
      omega
  have HO2 := hide hown2
  have HK2 := hide (keeps_low HK1.out hb2 (Nat.le_refl _))
  have HG2 := hide (HG1.out.trans hg2)
  have HN2 := hide hne2
  have HB2 : Hid (base ≤ w2.heap.size) := hide (Nat.le_trans HB1.out hg2.1.size)
  clear hown2 hg2 hb2 hne2 HO1 HK1 HG1 HC1' HN1 AN hc2
  go_wp2_with fail
  refine (AC.out _ _ HO2.out HB2.out).mono ?_
  rintro e w3 ⟨v3, rfl, hown3, hg3⟩
  have hb3 := HO2.out.grew hg3 HB2.out
  have hc3 := hg3.cell hc1 HN2.out
  have HO3 := hide hown3
  have HK3 := hide (keeps_low HK2.out hb3 (Nat.le_refl _))
  have HG3 := hide (HG2.out.trans hg3)
  have HB3 : Hid (base ≤ w3.heap.size) := hide (Nat.le_trans HB2.out hg3.1.size)
  clear hown3 hg3 hb3 HO2 HK2 HG2 HN2 AC hc1
  go_wp2_with (at_builtin; refine wp_append_by rfl _ _ rfl base _ _ rfl HO3.out _ x.key rfl HK3.out.self ?c3 ?c4 ?_)
  case c3 => simp; have := HX.out; omega
  case c4 => exact HB3.out
  intro v4 w4 hown4 hg4
  have R : Hid (Own w4 base v4 (l ++ inB x) ∧ Grew w w4 v v4) := hide ⟨HR.out _ _ hown4, HG3.out.trans hg4⟩
  clear hown4 hg4
  go_wp2
  go_ret
  exact ⟨_, rfl, R.out⟩

set_option maxRecDepth 100000 in
set_option maxHeartbeats 1000000 in
theorem addOut_any (w : World) (base : Nat) (v : Value) (l : List Int) (x : TOut) (hx : OutOk x) (hown : Own w base v l) (hb : base ≤ w.heap.size) (hl : l.length ≤ 800000) :
    Calls Try.prog 42 #[v, .agg (outC x).toArray] w fun e w' => ∃ v', e = .returned v' ∧ Own w' base v' (l ++ outB x) ∧ Grew w w' v v' := by
  obtain ⟨x1, x2, x3⟩ := hx
  have hpl : (put 8 x.val).length = 8 := put_length 8 x.val
  have AN := hide (fun w v (h : Own w base v l) hb => addNumber_any w base v l x.val 8 (Or.inr rfl) x1.1 (by simpa using x1.2) h hb (by omega))
  obtain ⟨A0, A1⟩ := box_out w x x2 84
  have hbel : Below w.heap.size w (w.alloc (.cells (outC x).toArray 84)) := (Below.refl _ _).alloc (Nat.le_refl _) _
  have HO := hide (hown.on hbel)
  have HOB : Hid (∀ k, v.ownBlock = some k → k < w.heap.size) := hide (fun k hk => (World.ownsRow.lt hown k hk).2)
  have HSZ := hide hbel.size
  have HG0 : Hid (Grew w (w.alloc (.cells (outC x).toArray 84)) v v) := hide (Grew.of_below v hbel)
  have HR : Hid (∀ w' v', Own w' base v' (l ++ (put 8 x.val ++ x.lock)) → Own w' base v' (l ++ outB x)) := hide (fun w' v' h => h)
  have HX := hide x2
  have HA := hide A0
  clear hown hbel A0
  go_enter Try.func42, Try.ntmps42
  go_upto_region 1 with fail
  generalize w.alloc (.cells (outC x).toArray 84) = W0 at *
  generalize hgs : w.heap.size = g at *
  have HGS := hide hgs
  clear hgs
  have HWB : Hid (base ≤ W0.heap.size) := hide (Nat.le_trans hb HSZ.out)
  go_wp2_with fail
  refine (AN.out _ _ HO.out HWB.out).mono ?_
  rintro e w1 ⟨v1, rfl, hown1, hg1⟩
  have hne : v.ownBlock ≠ some g := fun e => by have := HOB.out g e; omega
  have HA1 : Hid (Arr w1 g 1 .u8 x.lock) := hide (HA.out.at (fun i hi => World.cell?_of_block (hg1.1.block g (HA.out.lt (by have := HX.out; omega)) fun e => hne e.symm)) (fun i hi => World.frozen?_of_block (hg1.1.block g (HA.out.lt (by have := HX.out; omega)) fun e => hne e.symm)))
  have HO1 := hide hown1
  have HG1 := hide (HG0.out.trans hg1)
  have HB1 : Hid (base ≤ w1.heap.size) := hide (Nat.le_trans HWB.out hg1.1.size)
  clear hown1 hg1 hne HO HG0 HA HOB AN A1
  go_wp2_with (at_builtin; refine wp_append_by rfl _ _ rfl base _ _ rfl HO1.out _ x.lock rfl (HA1.out.asBytes 32 HX.out (by omega)) ?c3 ?c4 ?_)
  case c3 => simp; have := HX.out; omega
  case c4 => exact HB1.out
  intro v4 w4 hown4 hg4
  have R : Hid (Own w4 base v4 (l ++ outB x) ∧ Grew w w4 v v4) := hide ⟨HR.out _ _ hown4, HG1.out.trans hg4⟩
  clear hown4 hg4
  go_wp2
  go_ret
  exact ⟨_, rfl, R.out⟩

end Go.Proofs.Ytjmifgdjmaelfab
