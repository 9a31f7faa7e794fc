import Derived.Test.YtbeegcpmpgdbnabDoorTxR
import Derived.Test.YtbeegcpmpgdbnabDoorOctPutP
import Derived.Test.YtbeegcpmpgdbnabDoorOctAdd
import Derived.Test.YtbeegcpmpgdbnabDoorKit
/-
  What tx.addNumber, addCount, addIn, addOut answer at this program, whatever stands there.
-/
namespace Go.Proofs.YtbeegcpmpgdbnabDoor
open Go.RowKit

/-- Of the old blocks v's own alone may have turned; v' lies there, or in a new one. -/
def Grew (w w' : World) (v v' : Value) : Prop := w.grownBy w' v.ownBlock ∧ (v'.ownBlock = v.ownBlock ∨ ∀ k, v'.ownBlock = some k → w.heap.size ≤ k)
theorem Grew.of_below {w w' : World} (v : Value) (h : Below w.heap.size w w') : Grew w w' v v := ⟨⟨h.os, h.tape, h.output, h.size, fun k hk _ => h.block k hk⟩, Or.inl rfl⟩
theorem Grew.trans {w w1 w2 : World} {v v1 v2 : Value} (h : Grew w w1 v v1) (k : Grew w1 w2 v1 v2) : Grew w w2 v v2 := by
  obtain ⟨g, p⟩ := h
  obtain ⟨g', p'⟩ := k
  refine ⟨⟨g'.os.trans g.os, g'.tape.trans g.tape, g'.output.trans g.output, Nat.le_trans g.size g'.size, fun i hi hne => ?_⟩, ?_⟩
  · refine (g'.block i (Nat.lt_of_lt_of_le hi g.size) fun e => ?_).trans (g.block i hi hne)
    rcases p with e' | p
    · exact hne (e.trans e')
    · have := p i e.symm
      omega
  · have hs := g.size
    rcases p' with e | p'
    · rw [e]; exact p
    · exact Or.inr fun i hi => Nat.le_trans hs (p' i hi)
theorem Grew.below {w w' : World} {v v' : Value} {B : Nat} (h : Grew w w' v v') (hv : ∀ k, v.ownBlock = some k → B ≤ k) (hB : B ≤ w.heap.size) : Below B w w' :=
  ⟨h.1.os, h.1.tape, h.1.output, h.1.size, fun k hk => h.1.block k (by omega) fun e => by have := hv k e.symm; omega⟩
theorem Own.grew {w w' : World} {base : Nat} {v v' : Value} {l : List Int} (h : Own w base v l) (g : Grew w w' v v') (hb : base ≤ w.heap.size) : Below base w w' := g.below (fun k hk => (World.ownsRow.lt h k hk).1) hb
theorem keeps_low {B B' : Nat} {w w' : World} {X : World → Prop} (h : Keeps (fun g => g < B) w X) (hb : Below B' w w') (hB : B ≤ B') : Keeps (fun g => g < B) w' X := h.step hb.size fun g _ hp => hb.block g (by omega)
theorem Arr.asBytes {w : World} {b o : Nat} {l : List Int} (h : Arr w b o .u8 l) (n : Nat) (hl : l.length = n) (hn : n ≤ 1000000) : Bytes w (.slice (some ⟨b, o, none⟩) n n) l := by
  subst hl
  exact ⟨_, _, rfl, Nat.le_refl _, by omega, by simp, fun _ => ⟨b, o, rfl, fun i hi => h.cell i hi⟩⟩
/-- 'append', of bytes onto a row of the call's own, and where that is then. -/
theorem wp_append_by {w : World} {ops : Array Oper} {rest : List Oper} {o : Oper} {a : Act} {Q : Exit → Act → World → Prop} (hgd : o.guard = none) (s x : Operand)
    (ho : o.op = .call { callee := .builtin .append, args := #[s, x], argTypes := #[43, 43] })
    (base : Nat) (v : Value) (l : List Int) (hs : a.eval s = v) (hown : Own w base v l) (src : Value) (m : List Int) (hx : a.eval x = src) (hsrc : Bytes w src m)
    (hsz : l.length + m.length ≤ 1000000) (hb : base ≤ w.heap.size)
    (h : ∀ v' w', Own w' base v' (l ++ m) → Grew w w' v v' → wpList Tryd.prog ops Q rest (a.put o.dst v') w') : wpList Tryd.prog ops Q (o :: rest) a w := by
  obtain ⟨i0, hi, hz0, hz1, hz2⟩ := info_parts infoB
  obtain ⟨ad, cap, rfl, hcap, hmax, hnone, hcell⟩ := hsrc
  cases ad with
  | none =>
    obtain rfl := hnone rfl
    obtain rfl : m = [] := List.length_eq_zero_iff.1 (by omega)
    refine wpList_append_own_none hgd s x 43 ho base 5 i0 1 Tryd.underlying43 hi v l.length _ hs hown hx ?_
    exact h v w (by rw [List.append_nil]; exact hown) (Grew.of_below v (Below.refl _ _))
  | some ad =>
    refine wp_append_where hgd s x 43 ho base 5 i0 (.int .u8 0) 1 1 Tryd.underlying43 hi hz0 hz1 hz2 rfl (by decide) v l.length _ hs hown ad m.length cap (m.map (Value.int .u8)) hx (by simp) ?_ (ints_oneCell _ _) (by unfold maxLen; omega) (by omega) hb ?_
    · intro j u hj
      have hjl : j < m.length := by
        have := (List.getElem?_eq_some_iff.1 hj).1
        simpa using this
      obtain ⟨b, off, e, hc⟩ := hcell (by omega)
      cases e
      have e2 : (⟨b, off, none⟩ : Addr).add j = ⟨b, off + j, none⟩ := by simp [Addr.add]
      rw [e2, hc j hjl, ← hj]
      simp [List.getD, hjl]
    · intro v' w' hown' hgrow hwhere
      refine h v' w' ?_ ⟨hgrow, hwhere⟩
      unfold Own
      rw [List.map_append, List.length_append]
      exact hown'

theorem addNumber_any (w : World) (base : Nat) (v : Value) (l : List Int) (x : Int) (n : Nat) (hn : n = 4 ∨ n = 8) (hx0 : 0 ≤ x) (hx : x < 256 ^ n) (hown : Own w base v l) (hb : base ≤ w.heap.size) (hl : l.length ≤ 900000) :
    Calls Tryd.prog 32 #[v, .int .u64 x, .int .i64 n] w fun e w' => ∃ v', e = .returned v' ∧ Own w' base v' (l ++ put n x) ∧ Grew w w' v v' := by
  have hw : Word x := by
    rcases hn with rfl | rfl
    · simp at hx; exact ⟨hx0, by omega⟩
    · simp at hx; exact ⟨hx0, by omega⟩
  have P := hide (put_any x n w hw)
  have e1 : putL x n = put n x := by
    unfold putL
    rw [if_pos ⟨by rcases hn with rfl | rfl <;> rfl, by rw [Int.toNat_natCast]; exact hx⟩, Int.toNat_natCast]
  rw [e1] at P
  have HP : Hid ((put n x).length ≤ 8) := hide (by rw [put_length]; omega)
  generalize put n x = m at *
  generalize putE x n = pe at *
  generalize (n : Int) = N at *
  have HO := hide hown
  clear e1 hown hx hw hn
  go_enter Tryd.func32, Tryd.ntmps32
  go_wp2_with fail
  refine P.out.mono ?_
  rintro e w1 ⟨v1, rfl, hown1, hbel1⟩
  have HO1 := hide (HO.out.on hbel1)
  have HM := hide hown1.bytes
  have HB1 := hide hbel1
  clear hown1 hbel1
  go_wp2_with (at_builtin; refine wp_append_by rfl _ _ rfl base _ l rfl HO1.out _ m rfl HM.out ?c1 ?c2 ?_)
  case c1 => have := HP.out; omega
  case c2 => exact Nat.le_trans hb HB1.out.size
  intro v2 w2 hown2 hg2
  have R : Hid (Own w2 base v2 (l ++ m) ∧ Grew w w2 v v2) := hide ⟨hown2, (Grew.of_below v HB1.out).trans hg2⟩
  clear hown2 hg2
  go_wp2
  go_ret
  exact ⟨_, rfl, R.out⟩

theorem addCount_any (w : World) (base : Nat) (v : Value) (l : List Int) (n : Nat) (hn : n ≤ 1000000) (hown : Own w base v l) (hb : base ≤ w.heap.size) (hl : l.length ≤ 900000) :
    Calls Tryd.prog 33 #[v, .int .i64 n] w fun e w' => ∃ v', e = .returned v' ∧ Own w' base v' (l ++ var (n : Int)) ∧ Grew w w' v v' := by
  have P := hide (octVar_any w (n : Int) ⟨by omega, by omega⟩)
  have HP : Hid ((var (n : Int)).length ≤ 9) := hide (by have := var_length (n : Int); rcases size_cases (n : Int) with ⟨_, h⟩ | ⟨_, _, h⟩ | ⟨_, _, h⟩ | ⟨_, h⟩ <;> omega)
  have hw : IntKind.u64.wrap (n : Int) = (n : Int) := by simp [IntKind.wrap, IntKind.bits, IntKind.signed]; omega
  generalize var (n : Int) = m at *
  have HO := hide hown
  clear hown
  go_enter Tryd.func33, Tryd.ntmps33
  go_wp2_with fail
  refine P.out.mono ?_
  rintro e w1 ⟨v1, rfl, hown1, hbel1⟩
  have HO1 := hide (HO.out.on hbel1)
  have HM := hide hown1.bytes
  have HB1 := hide hbel1
  clear hown1 hbel1
  go_wp2_with (at_builtin; refine wp_append_by rfl _ _ rfl base _ l rfl HO1.out _ m rfl HM.out ?c1 ?c2 ?_)
  case c1 => have := HP.out; omega
  case c2 => exact Nat.le_trans hb HB1.out.size
  intro v2 w2 hown2 hg2
  have R : Hid (Own w2 base v2 (l ++ m) ∧ Grew w w2 v v2) := hide ⟨hown2, (Grew.of_below v HB1.out).trans hg2⟩
  clear hown2 hg2
  go_wp2
  go_ret
  exact ⟨_, rfl, R.out⟩

end Go.Proofs.YtbeegcpmpgdbnabDoor

/-
  What tx.addIn, addOut answer at this program, whatever stands there.
-/
namespace Go.Proofs.YtbeegcpmpgdbnabDoor
open Go.RowKit

/-- What lies in a new block stays, while a row elsewhere grows. -/
theorem Grew.cell {w w' : World} {v v' : Value} (h : Grew w w' v v') {p : Addr} {u : Value} (hc : w.cell? p = some u) (hne : v.ownBlock ≠ some p.block) : w'.cell? p = some u := h.1.cell hc (fun e => hne e.symm)

set_option maxRecDepth 100000 in
set_option maxHeartbeats 1000000 in
theorem addIn_any (w : World) (base : Nat) (v : Value) (l : List Int) (x : TIn) (kv : Value) (hx : InOk x) (hk : x.key.length ≤ 1000) (hkv : Keeps (fun g => g < base) w fun w => Bytes w kv x.key) (hown : Own w base v l) (hb : base ≤ w.heap.size) (hl : l.length ≤ 800000) :
    Calls Tryd.prog 34 #[v, .agg (inC (x, kv)).toArray] w fun e w' => ∃ v', e = .returned v' ∧ Own w' base v' (l ++ inB x) ∧ Grew w w' v v' := by
  obtain ⟨x1, x2, x3, x4⟩ := hx
  have hvl : (var (x.key.length : Int)).length ≤ 9 := by have := var_length (x.key.length : Int); rcases size_cases (x.key.length : Int) with ⟨_, h⟩ | ⟨_, _, h⟩ | ⟨_, _, h⟩ | ⟨_, h⟩ <;> omega
  have hpl : (put 4 x.n).length = 4 := put_length 4 x.n
  have AN := hide (fun w v (h : Own w base v (l ++ x.tx)) hb => addNumber_any w base v (l ++ x.tx) x.n 4 (Or.inl rfl) x3.1 (by simpa using x3.2) h hb (by simp; omega))
  have AC := hide (fun w v (h : Own w base v (l ++ x.tx ++ put 4 x.n)) hb => addCount_any w base v (l ++ x.tx ++ put 4 x.n) x.key.length (by omega) h hb (by simp; omega))
  have A0 := box_in w (x, kv) x1 49
  have A1 := inC_key (range_new w (inC (x, kv)) 49) x1
  obtain ⟨pa, pc, rfl, hp1, hp2⟩ := hkv.self.form
  simp only [Nat.zero_add] at A0 A1
  have hbel : Below w.heap.size w (w.alloc (.cells (inC (x, .slice pa x.key.length pc)).toArray 49)) := (Below.refl _ _).alloc (Nat.le_refl _) _
  have HO := hide (hown.on hbel)
  have HK := hide (keeps_low hkv hbel hb)
  have HOB : Hid (∀ k, v.ownBlock = some k → k < w.heap.size) := hide (fun k hk => (World.ownsRow.lt hown k hk).2)
  have HSZ := hide hbel.size
  have HG0 : Hid (Grew w (w.alloc (.cells (inC (x, .slice pa x.key.length pc)).toArray 49)) v v) := hide (Grew.of_below v hbel)
  have HR : Hid (∀ w' v', Own w' base v' (l ++ (x.tx ++ (put 4 x.n ++ (var (x.key.length : Int) ++ x.key)))) → Own w' base v' (l ++ inB x)) := hide (fun w' v' h => h)
  have hx32 : (x.tx.length : Int) = 32 := by omega
  have HX := hide x1
  have HA := hide A0
  clear hown hkv hbel A0
  go_enter Tryd.func34, Tryd.ntmps34
  go_upto_region 1 with fail
  generalize w.alloc (.cells (inC (x, .slice pa x.key.length pc)).toArray 49) = W0 at *
  generalize hgs : w.heap.size = g at *
  have HGS := hide hgs
  clear hgs
  have HC1 := hide A1
  clear A1
  have HWB : Hid (base ≤ W0.heap.size) := hide (Nat.le_trans hb HSZ.out)
  go_wp2_with (at_builtin; refine wp_append_by rfl _ _ rfl base _ l rfl HO.out _ x.tx rfl (HA.out.asBytes 32 HX.out (by omega)) ?c1 ?c2 ?_)
  case c1 => have := HX.out; omega
  case c2 => exact HWB.out
  intro v1 w1 hown1 hg1
  have hne : v.ownBlock ≠ some g := fun e => by have := HOB.out g e; omega
  have hb1 := HO.out.grew hg1 HWB.out
  have hc1 := hg1.cell HC1.out.1 hne
  have hc2 := hg1.cell HC1.out.2 hne
  have hne1 : v1.ownBlock ≠ some g := fun e => by
    rcases hg1.2 with q | q
    · exact hne (q.symm.trans e)
    · have := q g e
      have := World.block_lt_of_cell? _ _ HC1.out.1
      simp only at this
      omega
  have HO1 := hide hown1
  have HK1 := hide (keeps_low HK.out hb1 (Nat.le_refl _))
  have HG1 := hide (HG0.out.trans hg1)
  have HN1 := hide hne1
  have HB1 : Hid (base ≤ w1.heap.size) := hide (Nat.le_trans HWB.out hg1.1.size)
  have HC1' := hide hc1
  clear hown1 hg1 hne hb1 hne1 HO HK HG0 HA HC1 HOB hc1
  go_wp2_with fail
  refine (AN.out _ _ HO1.out HB1.out).mono ?_
  rintro e w2 ⟨v2, rfl, hown2, hg2⟩
  have hb2 := HO1.out.grew hg2 HB1.out
  have hc1 := hg2.cell HC1'.out HN1.out
  have hne2 : v2.ownBlock ≠ some g := fun e => by
    rcases hg2.2 with q | q
    · exact HN1.out (q.symm.trans e)
    · have := q g e
      have := World.block_lt_of_cell? _ _ HC1'.out
      simp only at this
      omega
  have HO2 := hide hown2
  have HK2 := hide (keeps_low HK1.out hb2 (Nat.le_refl _))
  have HG2 := hide (HG1.out.trans hg2)
  have HN2 := hide hne2
  have HB2 : Hid (base ≤ w2.heap.size) := hide (Nat.le_trans HB1.out hg2.1.size)
  clear hown2 hg2 hb2 hne2 HO1 HK1 HG1 HC1' HN1 AN hc2
  go_wp2_with fail
  refine (AC.out _ _ HO2.out HB2.out).mono ?_
  rintro e w3 ⟨v3, rfl, hown3, hg3⟩
  have hb3 := HO2.out.grew hg3 HB2.out
  have hc3 := hg3.cell hc1 HN2.out
  have HO3 := hide hown3
  have HK3 := hide (keeps_low HK2.out hb3 (Nat.le_refl _))
  have HG3 := hide (HG2.out.trans hg3)
  have HB3 : Hid (base ≤ w3.heap.size) := hide (Nat.le_trans HB2.out hg3.1.size)
  clear hown3 hg3 hb3 HO2 HK2 HG2 HN2 AC hc1
  go_wp2_with (at_builtin; refine wp_append_by rfl _ _ rfl base _ _ rfl HO3.out _ x.key rfl HK3.out.self ?c3 ?c4 ?_)
  case c3 => simp; have := HX.out; omega
  case c4 => exact HB3.out
  intro v4 w4 hown4 hg4
  have R : Hid (Own w4 base v4 (l ++ inB x) ∧ Grew w w4 v v4) := hide ⟨HR.out _ _ hown4, HG3.out.trans hg4⟩
  clear hown4 hg4
  go_wp2
  go_ret
  exact ⟨_, rfl, R.out⟩

set_option maxRecDepth 100000 in
set_option maxHeartbeats 1000000 in
theorem addOut_any (w : World) (base : Nat) (v : Value) (l : List Int) (x : TOut) (hx : OutOk x) (hown : Own w base v l) (hb : base ≤ w.heap.size) (hl : l.length ≤ 800000) :
    Calls Tryd.prog 35 #[v, .agg (outC x).toArray] w fun e w' => ∃ v', e = .returned v' ∧ Own w' base v' (l ++ outB x) ∧ Grew w w' v v' := by
  obtain ⟨x1, x2, x3⟩ := hx
  have hpl : (put 8 x.val).length = 8 := put_length 8 x.val
  have AN := hide (fun w v (h : Own w base v l) hb => addNumber_any w base v l x.val 8 (Or.inr rfl) x1.1 (by simpa using x1.2) h hb (by omega))
  obtain ⟨A0, A1⟩ := box_out w x x2 51
  have hbel : Below w.heap.size w (w.alloc (.cells (outC x).toArray 51)) := (Below.refl _ _).alloc (Nat.le_refl _) _
  have HO := hide (hown.on hbel)
  have HOB : Hid (∀ k, v.ownBlock = some k → k < w.heap.size) := hide (fun k hk => (World.ownsRow.lt hown k hk).2)
  have HSZ := hide hbel.size
  have HG0 : Hid (Grew w (w.alloc (.cells (outC x).toArray 51)) v v) := hide (Grew.of_below v hbel)
  have HR : Hid (∀ w' v', Own w' base v' (l ++ (put 8 x.val ++ x.lock)) → Own w' base v' (l ++ outB x)) := hide (fun w' v' h => h)
  have HX := hide x2
  have HA := hide A0
  clear hown hbel A0
  go_enter Tryd.func35, Tryd.ntmps35
  go_upto_region 1 with fail
  generalize w.alloc (.cells (outC x).toArray 51) = W0 at *
  generalize hgs : w.heap.size = g at *
  have HGS := hide hgs
  clear hgs
  have HWB : Hid (base ≤ W0.heap.size) := hide (Nat.le_trans hb HSZ.out)
  go_wp2_with fail
  refine (AN.out _ _ HO.out HWB.out).mono ?_
  rintro e w1 ⟨v1, rfl, hown1, hg1⟩
  have hne : v.ownBlock ≠ some g := fun e => by have := HOB.out g e; omega
  have HA1 : Hid (Arr w1 g 1 .u8 x.lock) := hide (HA.out.at (fun i hi => World.cell?_of_block (hg1.1.block g (HA.out.lt (by have := HX.out; omega)) fun e => hne e.symm)) (fun i hi => World.frozen?_of_block (hg1.1.block g (HA.out.lt (by have := HX.out; omega)) fun e => hne e.symm)))
  have HO1 := hide hown1
  have HG1 := hide (HG0.out.trans hg1)
  have HB1 : Hid (base ≤ w1.heap.size) := hide (Nat.le_trans HWB.out hg1.1.size)
  clear hown1 hg1 hne HO HG0 HA HOB AN A1
  go_wp2_with (at_builtin; refine wp_append_by rfl _ _ rfl base _ _ rfl HO1.out _ x.lock rfl (HA1.out.asBytes 32 HX.out (by omega)) ?c3 ?c4 ?_)
  case c3 => simp; have := HX.out; omega
  case c4 => exact HB1.out
  intro v4 w4 hown4 hg4
  have R : Hid (Own w4 base v4 (l ++ outB x) ∧ Grew w w4 v v4) := hide ⟨HR.out _ _ hown4, HG1.out.trans hg4⟩
  clear hown4 hg4
  go_wp2
  go_ret
  exact ⟨_, rfl, R.out⟩

end Go.Proofs.YtbeegcpmpgdbnabDoor

/-
  A row of the call's own, from a lower block on. Nothing here speaks of one function.
-/
namespace Go.Proofs.YtbeegcpmpgdbnabDoor
open Go.RowKit

theorem Own.low {w : World} {base base' : Nat} {v : Value} {l : List Int} (h : Own w base v l) (hb : base' ≤ base) : Own w base' v l := by
  obtain ⟨h1, h2⟩ := h
  refine ⟨h1, ?_⟩
  rcases h2 with h2 | ⟨g, cap, cur, hv, hg, r⟩
  · exact Or.inl h2
  · exact Or.inr ⟨g, cap, cur, hv, by omega, r⟩

end Go.Proofs.YtbeegcpmpgdbnabDoor

/-
  What tx.Put and Size answer at this program, whatever the transaction.
-/
namespace Go.Proofs.YtbeegcpmpgdbnabDoor
open Go.RowKit

/-- What holds at the head of a round of Put. -/
def Putting {α : Type} (W0 : World) (f : α → List Int) (pre : List Int) (L : List α) (v i : Value) (wr : World) : Prop :=
  ∃ k : Nat, k ≤ L.length ∧ i = .int .i64 k ∧ Own wr W0.heap.size v (pre ++ (L.take k).flatMap f) ∧ Below W0.heap.size W0 wr
theorem flat_len {α : Type} {f : α → List Int} {m : Nat} : ∀ (L : List α), (∀ x ∈ L, (f x).length ≤ m) → (L.flatMap f).length ≤ L.length * m
  | [], _ => by simp
  | x :: L, h => by
    have h1 := flat_len L (fun y hy => h y (by simp [hy]))
    have h2 := h x (by simp)
    simp only [List.flatMap_cons, List.length_append, List.length_cons, Nat.add_mul]
    omega
theorem var9 (x : Int) : (var x).length ≤ 9 := by have := var_length x; rcases size_cases x with ⟨_, h⟩ | ⟨_, _, h⟩ | ⟨_, _, h⟩ | ⟨_, h⟩ <;> omega
theorem inB_len {x : TIn} (h : x.tx.length = 32) (hk : x.key.length ≤ 64) : (inB x).length ≤ 109 := by
  have := var9 (x.key.length : Int)
  simp only [inB, List.length_append, put_length]
  omega
theorem outB_len {x : TOut} (h : x.lock.length = 32) : (outB x).length ≤ 40 := by
  simp only [outB, List.length_append, put_length]
  omega
theorem take_flat {α : Type} {f : α → List Int} {L : List α} {k : Nat} {x : α} (hx : L[k]? = some x) : (L.take (k + 1)).flatMap f = (L.take k).flatMap f ++ f x := by
  have hlt : k < L.length := (List.getElem?_eq_some_iff.1 hx).1
  rw [List.take_succ_eq_append_getElem hlt, List.flatMap_append, (List.getElem?_eq_some_iff.1 hx).2]
  simp
theorem take_len {α : Type} {f : α → List Int} {m : Nat} {L : List α} (k : Nat) (h : ∀ x ∈ L, (f x).length ≤ m) (h8 : L.length ≤ 8) : ((L.take k).flatMap f).length ≤ 8 * m := by
  have := flat_len (L.take k) (fun x hx => h x (List.mem_of_mem_take hx))
  refine Nat.le_trans this (Nat.mul_le_mul_right m ?_)
  simp
  omega

set_option maxRecDepth 100000 in
set_option maxHeartbeats 2000000 in
theorem tput_form (t : Tr) (iv ov : Value) (w : World) (hi : InsAt w iv t.ins) (ho : OutsAt w ov t.outs) (hok : TrOk t) (hf : formB t = true) :
    Calls Tryd.prog 18 #[.agg #[.int .u32 t.ver, iv, ov]] w fun e w' => ∃ v', e = .returned (.tuple #[v', .int .i64 0]) ∧ Own w' w.heap.size v' (txB t) ∧ Below w.heap.size w w' := by
  obtain ⟨hv, hin, hout⟩ := hok
  obtain ⟨f1, f2, f3⟩ := (formB_iff t).1 hf
  have F := hide (fun wx h1 h2 => formed_any t iv ov wx h1 h2 (fun x hx => (hin x hx).1))
  rw [hf] at F
  have hbel : Below w.heap.size w (w.alloc (.cells #[.int .u32 t.ver, iv, ov] 36)) := (Below.refl _ _).alloc (Nat.le_refl _) _
  have HI := hide (hi.on hbel)
  have HO := hide (ho.on hbel)
  have HIN : Hid (∀ x ∈ t.ins, InOk x ∧ x.key.length ≤ 64 ∧ (inB x).length ≤ 109) := hide (fun x hx => ⟨hin x hx, f3 x hx, inB_len (hin x hx).1 (f3 x hx)⟩)
  have HOUT : Hid (∀ x ∈ t.outs, OutOk x ∧ (outB x).length ≤ 40) := hide (fun x hx => ⟨hout x hx, outB_len (hout x hx).2.1⟩)
  have hn := range_new w [.int .u32 t.ver, iv, ov] 36
  have n0 := hn 0 _ rfl
  have n1 := hn 1 _ rfl
  have n2 := hn 2 _ rfl
  simp only [Nat.add_zero, Nat.zero_add] at n0 n1 n2
  have HLOW : Hid (w.heap.size ≤ (w.alloc (.cells #[.int .u32 t.ver, iv, ov] 36)).heap.size) := hide hbel.size
  have HBW := hide hbel
  obtain ⟨a, cap, rfl, hc1, hc2⟩ := hi.form
  obtain ⟨a', cap', rfl, hd1, hd2⟩ := ho.form
  have AN := hide (fun wx B (h : B ≤ wx.heap.size) => addNumber_any wx B (.slice none 0 0) [] t.ver 4 (Or.inl rfl) hv.1 (by simpa using hv.2) (Own.nil _ _) h (by simp))
  clear hbel hi ho hin hout hn f3 hf
  obtain ⟨ver, ins, outs⟩ := t
  simp only at *
  have HT : Hid (∀ pre1 pre2, pre1 = put 4 ver ++ var (ins.length : Int) → pre2 = pre1 ++ ins.flatMap inB ++ var (outs.length : Int) → pre2 ++ outs.flatMap outB = txB ⟨ver, ins, outs⟩) := hide (by
    rintro _ _ rfl rfl
    simp [txB])
  have H4 : Hid ((put 4 ver).length = 4) := hide (put_length 4 ver)
  generalize hP4 : put 4 ver = p4 at *
  have HP4 := hide hP4
  clear hP4
  go_enter Tryd.func18, Tryd.ntmps18
  go_upto_region 1 with fail
  generalize w.alloc (.cells #[.int .u32 ver, .slice a ins.length cap, .slice a' outs.length cap'] 36) = W0 at *
  generalize hg0 : w.heap.size = g0 at *
  have HG0 := hide hg0
  clear hg0
  have on : Hid (∀ (wr : World), Below W0.heap.size W0 wr → wr.cell? ⟨g0, 0, none⟩ = some (.int .u32 ver) ∧ wr.cell? ⟨g0, 1, none⟩ = some (.slice a ins.length cap) ∧ wr.cell? ⟨g0, 2, none⟩ = some (.slice a' outs.length cap')) := hide (by
    intro wr hb
    exact ⟨(hb.cell (World.block_lt_of_cell? _ _ n0)).trans n0, (hb.cell (World.block_lt_of_cell? _ _ n1)).trans n1, (hb.cell (World.block_lt_of_cell? _ _ n2)).trans n2⟩)
  go_wp2_with fail
  refine (F.out _ HI.out HO.out).mono ?_
  rintro e w1 ⟨rfl, hb1⟩
  obtain ⟨m0, m1, m2⟩ := on.out w1 hb1
  have HB1 := hide hb1
  clear hb1 n0 n1 n2 F
  go_wp2_with fail
  refine (AN.out _ W0.heap.size HB1.out.size).mono ?_
  rintro e w2 ⟨v2, rfl, hown2, hg2⟩
  have hb2 := HB1.out.trans ((Own.nil w1 W0.heap.size).grew hg2 HB1.out.size)
  rw [List.nil_append] at hown2
  obtain ⟨k0, k1, k2⟩ := on.out w2 hb2
  have HB2 := hide hb2
  have AC := hide (addCount_any w2 W0.heap.size v2 _ ins.length (by omega) hown2 hb2.size (by have := H4.out; omega))
  have HO2 := hide hown2
  clear hown2 hg2 hb2 m0 m1 m2 AN HB1
  go_wp2_with fail
  refine AC.out.mono ?_
  rintro e w3 ⟨v3, rfl, hown3, hg3⟩
  have hb3 := HB2.out.trans (HO2.out.grew hg3 HB2.out.size)
  obtain ⟨q0, q1, q2⟩ := on.out w3 hb3
  have HPL : Hid ((p4 ++ var (ins.length : Int)).length ≤ 13) := hide (by have := H4.out; have := var9 (ins.length : Int); simp; omega)
  have HPE : Hid (p4 ++ var (ins.length : Int) = p4 ++ var (ins.length : Int)) := hide rfl
  generalize hpre : p4 ++ var (ins.length : Int) = pre at *
  have HPRE := hide hpre
  have HS : Hid (Putting W0 inB pre ins v3 (.int .i64 0) w3) := hide ⟨0, by omega, rfl, by simpa using hown3, hb3⟩
  clear hown3 hg3 hb3 k0 k1 k2 AC HO2 hpre HPE
  go_wp2_with fail
  go_loopw [4, 24] (fun v i wr => Putting W0 inB pre ins v i wr) (fun _ i _ => ins.length - (intOf i).toNat)
  case atStart => exact HS.out
  case round =>
    clear HS q0 q1 q2
    obtain ⟨k, hk, rfl, hown, hB⟩ := hrel
    have HB := hide hB
    have HOWN := hide hown
    have HLEN : Hid ((pre ++ (ins.take k).flatMap inB).length ≤ 1000) := hide (by
      have := take_len k (fun x hx => (HIN.out x hx).2.2) f1
      have := HPL.out
      simp only [List.length_append]
      omega)
    by_cases hlt : k < ins.length
    · obtain ⟨x, hx⟩ : ∃ x, ins[k]? = some x := ⟨_, List.getElem?_eq_getElem hlt⟩
      obtain ⟨b, off, kv, rfl, hr, hbv⟩ := HI.out.get hx
      obtain ⟨hxo, hx64, -⟩ := HIN.out x (List.mem_of_getElem? hx)
      have hxl := hxo.1
      have HR := hide (range_on hr hB)
      have HN : Hid ((Tryd.prog.info? 49).map (·.size) = some (inC (x, kv)).length) := hide (by rw [inC_length hxl]; exact info_in)
      have H1 : Hid (∀ u ∈ inC (x, kv), u.oneCell' = true) := hide (inC_one hbv.oneCell)
      have HTH : Hid (∀ w : World, (w.alloc (.cells #[.int .u8 0, .int .u8 0, .int .u8 0, .int .u8 0, .int .u8 0, .int .u8 0, .int .u8 0, .int .u8 0, .int .u8 0, .int .u8 0, .int .u8 0, .int .u8 0, .int .u8 0, .int .u8 0, .int .u8 0, .int .u8 0, .int .u8 0, .int .u8 0, .int .u8 0, .int .u8 0, .int .u8 0, .int .u8 0, .int .u8 0, .int .u8 0, .int .u8 0, .int .u8 0, .int .u8 0, .int .u8 0, .int .u8 0, .int .u8 0, .int .u8 0, .int .u8 0, .int .u32 0, .slice none 0 0] 49)).there w.heap.size 0 (inC (x, kv)).length) := hide (fun w => by rw [inC_length hxl]; exact in_there w)
      have HKV := hide (hbv.old (P := fun g => g < W0.heap.size) hB (fun g hg => hg))
      have HXO := hide hxo
      have HX := hide hx
      have hk1 : (k : Int) < (ins.length : Int) := by omega
      clear hr hbv hx hxo hown hB
      go_upto_region 8 with (first | (refine wpList_load_mid rfl 49 (.tmp 26) rfl b (off + k * 34) rfl (inC (x, kv)) _ HR.out Tryd.underlying49 rfl HN.out ?_) | (refine wp_store_row rfl 49 (.tmp 6) (.tmp 27) rfl wr.heap.size 0 (inC (x, kv)) rfl rfl (HTH.out wr) HN.out H1.out ?_))
      have hW : ((wr.alloc (.cells #[.int .u8 0, .int .u8 0, .int .u8 0, .int .u8 0, .int .u8 0, .int .u8 0, .int .u8 0, .int .u8 0, .int .u8 0, .int .u8 0, .int .u8 0, .int .u8 0, .int .u8 0, .int .u8 0, .int .u8 0, .int .u8 0, .int .u8 0, .int .u8 0, .int .u8 0, .int .u8 0, .int .u8 0, .int .u8 0, .int .u8 0, .int .u8 0, .int .u8 0, .int .u8 0, .int .u8 0, .int .u8 0, .int .u8 0, .int .u8 0, .int .u8 0, .int .u8 0, .int .u32 0, .slice none 0 0] 49)).setCells wr.heap.size 0 (inC (x, kv))).rangeAt wr.heap.size 0 (inC (x, kv)) := World.rangeAt_setCells_same _ _ _ _ (HTH.out wr)
      have hB2 : Below wr.heap.size wr ((wr.alloc (.cells #[.int .u8 0, .int .u8 0, .int .u8 0, .int .u8 0, .int .u8 0, .int .u8 0, .int .u8 0, .int .u8 0, .int .u8 0, .int .u8 0, .int .u8 0, .int .u8 0, .int .u8 0, .int .u8 0, .int .u8 0, .int .u8 0, .int .u8 0, .int .u8 0, .int .u8 0, .int .u8 0, .int .u8 0, .int .u8 0, .int .u8 0, .int .u8 0, .int .u8 0, .int .u8 0, .int .u8 0, .int .u8 0, .int .u8 0, .int .u8 0, .int .u8 0, .int .u8 0, .int .u32 0, .slice none 0 0] 49)).setCells wr.heap.size 0 (inC (x, kv))) := below_sets (Nat.le_refl _) _ _ _ ((Below.refl _ _).alloc (Nat.le_refl _) _)
      generalize (wr.alloc (.cells #[.int .u8 0, .int .u8 0, .int .u8 0, .int .u8 0, .int .u8 0, .int .u8 0, .int .u8 0, .int .u8 0, .int .u8 0, .int .u8 0, .int .u8 0, .int .u8 0, .int .u8 0, .int .u8 0, .int .u8 0, .int .u8 0, .int .u8 0, .int .u8 0, .int .u8 0, .int .u8 0, .int .u8 0, .int .u8 0, .int .u8 0, .int .u8 0, .int .u8 0, .int .u8 0, .int .u8 0, .int .u8 0, .int .u8 0, .int .u8 0, .int .u8 0, .int .u8 0, .int .u32 0, .slice none 0 0] 49)).setCells wr.heap.size 0 (inC (x, kv)) = W2 at *
      have HRW := hide hW
      have HOW := hide (HOWN.out.on hB2)
      have HBW2 : Hid (Below W0.heap.size W0 W2) := hide (below_on' HB.out hB2 (Nat.le_refl _))
      have AI := hide (addIn_any W2 W0.heap.size _ _ x kv HXO.out (by omega) (keeps_low HKV.out hB2 HB.out.size) HOW.out HBW2.out.size (by have := HLEN.out; omega))
      clear hW hB2 HR H1 HTH
      generalize wr.heap.size = g at *
      go_wp2_with (refine wpList_load_mid rfl 49 (.tmp 6) rfl g 0 rfl (inC (x, kv)) _ HRW.out Tryd.underlying49 rfl HN.out ?_)
      refine AI.out.mono ?_
      rintro e w4 ⟨v4, rfl, hown4, hg4⟩
      have hb4 := HBW2.out.trans (HOW.out.grew hg4 HBW2.out.size)
      have R : Hid (Putting W0 inB pre ins v4 (.int .i64 ((k + 1 : Nat) : Int)) w4) := hide ⟨k + 1, by omega, rfl, by rw [take_flat HX.out, ← List.append_assoc]; exact hown4, hb4⟩
      clear hown4 hg4 hb4 AI
      go_wp2
      go_roundw
      case rel => first | exact R.out | ((repeat apply Exists.intro); exact ⟨R.out, rfl⟩)
      case measure => simp [intOf]; omega
    · have hk2 : (ins.length : Int) ≤ (k : Int) := by omega
      have htk : ins.take k = ins := List.take_of_length_le (by omega)
      rw [htk] at HOWN HLEN
      obtain ⟨q0, q1, q2⟩ := on.out wr hB
      have AC := hide (addCount_any wr W0.heap.size _ _ outs.length (by omega) HOWN.out HB.out.size (by have := HLEN.out; omega))
      have HLEN2 : Hid ((pre ++ ins.flatMap inB ++ var (outs.length : Int)).length ≤ 1100) := hide (by have := HLEN.out; have := var9 (outs.length : Int); simp only [List.length_append] at *; omega)
      have HT2 := hide (HT.out _ _ rfl rfl)
      generalize pre ++ ins.flatMap inB ++ var (outs.length : Int) = pre2 at *
      clear hown hB htk
      go_wp2_with fail
      refine AC.out.mono ?_
      rintro e w3 ⟨v3, rfl, hown3, hg3⟩
      have hb3 := HB.out.trans (HOWN.out.grew hg3 HB.out.size)
      obtain ⟨q3, q4, q5⟩ := on.out w3 hb3
      have HS : Hid (Putting W0 outB pre2 outs v3 (.int .i64 0) w3) := hide ⟨0, by omega, rfl, by simpa using hown3, hb3⟩
      clear hown3 hg3 hb3 AC q0 q1 q2
      go_wp2_with fail
      go_loopw [4, 40] (fun v i wr => Putting W0 outB pre2 outs v i wr) (fun _ i _ => outs.length - (intOf i).toNat)
      case atStart => exact HS.out
      case round =>
        clear HS q3 q4 q5
        obtain ⟨k, hk, rfl, hown, hB⟩ := hrel
        have HB := hide hB
        have HOWN := hide hown
        have HLEN3 : Hid ((pre2 ++ (outs.take k).flatMap outB).length ≤ 2000) := hide (by
          have := take_len k (fun x hx => (HOUT.out x hx).2) f2
          have := HLEN2.out
          simp only [List.length_append]
          omega)
        by_cases hlt : k < outs.length
        · obtain ⟨x, hx⟩ : ∃ x, outs[k]? = some x := ⟨_, List.getElem?_eq_getElem hlt⟩
          obtain ⟨b, off, rfl, hr⟩ := HO.out.get hx
          obtain ⟨hxo, -⟩ := HOUT.out x (List.mem_of_getElem? hx)
          have hxl := hxo.2.1
          have HR := hide (range_on hr hB)
          have HN : Hid ((Tryd.prog.info? 51).map (·.size) = some (outC x).length) := hide (by rw [outC_length hxl]; exact info_out)
          have H1 : Hid (∀ u ∈ outC x, u.oneCell' = true) := hide (outC_one x)
          have HTH : Hid (∀ w : World, (w.alloc (.cells #[.int .u64 0, .int .u8 0, .int .u8 0, .int .u8 0, .int .u8 0, .int .u8 0, .int .u8 0, .int .u8 0, .int .u8 0, .int .u8 0, .int .u8 0, .int .u8 0, .int .u8 0, .int .u8 0, .int .u8 0, .int .u8 0, .int .u8 0, .int .u8 0, .int .u8 0, .int .u8 0, .int .u8 0, .int .u8 0, .int .u8 0, .int .u8 0, .int .u8 0, .int .u8 0, .int .u8 0, .int .u8 0, .int .u8 0, .int .u8 0, .int .u8 0, .int .u8 0, .int .u8 0] 51)).there w.heap.size 0 (outC x).length) := hide (fun w => by rw [outC_length hxl]; exact out_there w)
          have HXO := hide hxo
          have HX := hide hx
          have hk1 : (k : Int) < (outs.length : Int) := by omega
          clear hr hx hxo hown hB
          go_upto_region 14 with (first | (refine wpList_load_mid rfl 51 (.tmp 42) rfl b (off + k * 33) rfl (outC x) _ HR.out Tryd.underlying51 rfl HN.out ?_) | (refine wp_store_row rfl 51 (.tmp 8) (.tmp 43) rfl wr.heap.size 0 (outC x) rfl rfl (HTH.out wr) HN.out H1.out ?_))
          have hW : ((wr.alloc (.cells #[.int .u64 0, .int .u8 0, .int .u8 0, .int .u8 0, .int .u8 0, .int .u8 0, .int .u8 0, .int .u8 0, .int .u8 0, .int .u8 0, .int .u8 0, .int .u8 0, .int .u8 0, .int .u8 0, .int .u8 0, .int .u8 0, .int .u8 0, .int .u8 0, .int .u8 0, .int .u8 0, .int .u8 0, .int .u8 0, .int .u8 0, .int .u8 0, .int .u8 0, .int .u8 0, .int .u8 0, .int .u8 0, .int .u8 0, .int .u8 0, .int .u8 0, .int .u8 0, .int .u8 0] 51)).setCells wr.heap.size 0 (outC x)).rangeAt wr.heap.size 0 (outC x) := World.rangeAt_setCells_same _ _ _ _ (HTH.out wr)
          have hB2 : Below wr.heap.size wr ((wr.alloc (.cells #[.int .u64 0, .int .u8 0, .int .u8 0, .int .u8 0, .int .u8 0, .int .u8 0, .int .u8 0, .int .u8 0, .int .u8 0, .int .u8 0, .int .u8 0, .int .u8 0, .int .u8 0, .int .u8 0, .int .u8 0, .int .u8 0, .int .u8 0, .int .u8 0, .int .u8 0, .int .u8 0, .int .u8 0, .int .u8 0, .int .u8 0, .int .u8 0, .int .u8 0, .int .u8 0, .int .u8 0, .int .u8 0, .int .u8 0, .int .u8 0, .int .u8 0, .int .u8 0, .int .u8 0] 51)).setCells wr.heap.size 0 (outC x)) := below_sets (Nat.le_refl _) _ _ _ ((Below.refl _ _).alloc (Nat.le_refl _) _)
          generalize (wr.alloc (.cells #[.int .u64 0, .int .u8 0, .int .u8 0, .int .u8 0, .int .u8 0, .int .u8 0, .int .u8 0, .int .u8 0, .int .u8 0, .int .u8 0, .int .u8 0, .int .u8 0, .int .u8 0, .int .u8 0, .int .u8 0, .int .u8 0, .int .u8 0, .int .u8 0, .int .u8 0, .int .u8 0, .int .u8 0, .int .u8 0, .int .u8 0, .int .u8 0, .int .u8 0, .int .u8 0, .int .u8 0, .int .u8 0, .int .u8 0, .int .u8 0, .int .u8 0, .int .u8 0, .int .u8 0] 51)).setCells wr.heap.size 0 (outC x) = W2 at *
          have HRW := hide hW
          have HOW := hide (HOWN.out.on hB2)
          have HBW2 : Hid (Below W0.heap.size W0 W2) := hide (below_on' HB.out hB2 (Nat.le_refl _))
          have AI := hide (addOut_any W2 W0.heap.size _ _ x HXO.out HOW.out HBW2.out.size (by have := HLEN3.out; omega))
          clear hW hB2 HR H1 HTH
          generalize wr.heap.size = g at *
          go_wp2_with (refine wpList_load_mid rfl 51 (.tmp 8) rfl g 0 rfl (outC x) _ HRW.out Tryd.underlying51 rfl HN.out ?_)
          refine AI.out.mono ?_
          rintro e w4 ⟨v4, rfl, hown4, hg4⟩
          have hb4 := HBW2.out.trans (HOW.out.grew hg4 HBW2.out.size)
          have R : Hid (Putting W0 outB pre2 outs v4 (.int .i64 ((k + 1 : Nat) : Int)) w4) := hide ⟨k + 1, by omega, rfl, by rw [take_flat HX.out, ← List.append_assoc]; exact hown4, hb4⟩
          clear hown4 hg4 hb4 AI
          go_wp2
          go_roundw
          case rel => first | exact R.out | ((repeat apply Exists.intro); exact ⟨R.out, rfl⟩)
          case measure => simp [intOf]; omega
        · have hk2 : (outs.length : Int) ≤ (k : Int) := by omega
          have htk : outs.take k = outs := List.take_of_length_le (by omega)
          rw [htk, HT2.out] at HOWN
          have R : Hid (Own wr g0 u4 (txB ⟨ver, ins, outs⟩) ∧ Below g0 w wr) := hide ⟨HOWN.out.low HLOW.out, HBW.out.trans (HB.out.mono HLOW.out)⟩
          clear hown hB htk
          go_wp2
          go_ret2
          rw [HG0.out]
          exact ⟨_, rfl, R.out⟩

theorem tput_long (t : Tr) (iv ov : Value) (w : World) (hi : InsAt w iv t.ins) (ho : OutsAt w ov t.outs) (hok : TrOk t) (hf : formB t = false) :
    Calls Tryd.prog 18 #[.agg #[.int .u32 t.ver, iv, ov]] w fun e w' => ∃ v', e = .returned (.tuple #[v', .int .i64 5]) ∧ Own w' w.heap.size v' [] ∧ Below w.heap.size w w' := by
  have hbel : Below w.heap.size w (w.alloc (.cells #[.int .u32 t.ver, iv, ov] 36)) := (Below.refl _ _).alloc (Nat.le_refl _) _
  have F := hide (formed_any t iv ov _ (hi.on hbel) (ho.on hbel) (fun x hx => (hok.2.1 x hx).1))
  rw [hf] at F
  have HB := hide hbel
  obtain ⟨a, cap, rfl, hc1, hc2⟩ := hi.form
  obtain ⟨a', cap', rfl, hd1, hd2⟩ := ho.form
  clear hi ho hok hf hbel
  obtain ⟨ver, ins, outs⟩ := t
  simp only at *
  go_enter Tryd.func18, Tryd.ntmps18
  go_wp2_with fail
  refine F.out.mono ?_
  rintro e w1 ⟨rfl, hb1⟩
  have R := hide (below_on HB.out hb1)
  clear hb1
  go_wp2
  go_ret2
  exact ⟨_, rfl, Own.nil _ _, R.out⟩
theorem tput_any (t : Tr) (iv ov : Value) (w : World) (hi : InsAt w iv t.ins) (ho : OutsAt w ov t.outs) (hok : TrOk t) :
    Calls Tryd.prog 18 #[.agg #[.int .u32 t.ver, iv, ov]] w fun e w' => ∃ v', e = .returned (.tuple #[v', .int .i64 (ptE t)]) ∧ Own w' w.heap.size v' (ptL t) ∧ Below w.heap.size w w' := by
  unfold ptL ptE
  cases hf : formB t with
  | true =>
    rw [if_pos rfl, if_pos rfl]
    exact tput_form t iv ov w hi ho hok hf
  | false =>
    rw [if_neg (by decide), if_neg (by decide)]
    exact tput_long t iv ov w hi ho hok hf
end Go.Proofs.YtbeegcpmpgdbnabDoor
