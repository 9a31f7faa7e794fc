/-
  What tx.addNumber, addCount, addIn, addOut answer at this program, whatever stands there.
-/
import Derived.Test.YtjmifgdjmaelfabTxForm
import Derived.Test.YtjmifgdjmaelfabOctNum
import Derived.Test.YtjmifgdjmaelfabOctAdd
import Derived.Test.YtjmifgdjmaelfabKit
namespace Go.Proofs.Ytjmifgdjmaelfab
open Go.RowKit

/-- Of the old blocks v's own alone may have turned; v' lies there, or in a new one. -/
def Grew (w w' : World) (v v' : Value) : Prop := w.grownBy w' v.ownBlock ∧ (v'.ownBlock = v.ownBlock ∨ ∀ k, v'.ownBlock = some k → w.heap.size ≤ k)
theorem Grew.of_below {w w' : World} (v : Value) (h : Below w.heap.size w w') : Grew w w' v v := ⟨⟨h.os, h.tape, h.output, h.size, fun k hk _ => h.block k hk⟩, Or.inl rfl⟩
theorem Grew.trans {w w1 w2 : World} {v v1 v2 : Value} (h : Grew w w1 v v1) (k : Grew w1 w2 v1 v2) : Grew w w2 v v2 := by
  obtain ⟨g, p⟩ := h
  obtain ⟨g', p'⟩ := k
  refine ⟨⟨g'.os.trans g.os, g'.tape.trans g.tape, g'.output.trans g.output, Nat.le_trans g.size g'.size, fun i hi hne => ?_⟩, ?_⟩
  · refine (g'.block i (Nat.lt_of_lt_of_le hi g.size) fun e => ?_).trans (g.block i hi hne)
    rcases p with e' | p
    · exact hne (e.trans e')
    · have := p i e.symm
      omega
  · have hs := g.size
    rcases p' with e | p'
    · rw [e]; exact p
    · exact Or.inr fun i hi => Nat.le_trans hs (p' i hi)
theorem Grew.below {w w' : World} {v v' : Value} {B : Nat} (h : Grew w w' v v') (hv : ∀ k, v.ownBlock = some k → B ≤ k) (hB : B ≤ w.heap.size) : Below B w w' :=
  ⟨h.1.os, h.1.tape, h.1.output, h.1.size, fun k hk => h.1.block k (by omega) fun e => by have := hv k e.symm; omega⟩
theorem Own.grew {w w' : World} {base : Nat} {v v' : Value} {l : List Int} (h : Own w base v l) (g : Grew w w' v v') (hb : base ≤ w.heap.size) : Below base w w' := g.below (fun k hk => (World.ownsRow.lt h k hk).1) hb
theorem keeps_low {B B' : Nat} {w w' : World} {X : World → Prop} (h : Keeps (fun g => g < B) w X) (hb : Below B' w w') (hB : B ≤ B') : Keeps (fun g => g < B) w' X := h.step hb.size fun g _ hp => hb.block g (by omega)
theorem Arr.asBytes {w : World} {b o : Nat} {l : List Int} (h : Arr w b o .u8 l) (n : Nat) (hl : l.length = n) (hn : n ≤ 1000000) : Bytes w (.slice (some ⟨b, o, none⟩) n n) l := by
  subst hl
  exact ⟨_, _, rfl, Nat.le_refl _, by omega, by simp, fun _ => ⟨b, o, rfl, fun i hi => h.cell i hi⟩⟩
/-- 'append', of bytes onto a row of the call's own, and where that is then. -/
theorem wp_append_by {w : World} {ops : Array Oper} {rest : List Oper} {o : Oper} {a : Act} {Q : Exit → Act → World → Prop} (hgd : o.guard = none) (s x : Operand)
    (ho : o.op = .call { callee := .builtin .append, args := #[s, x], argTypes := #[34, 34] })
    (base : Nat) (v : Value) (l : List Int) (hs : a.eval s = v) (hown : Own w base v l) (src : Value) (m : List Int) (hx : a.eval x = src) (hsrc : Bytes w src m)
    (hsz : l.length + m.length ≤ 1000000) (hb : base ≤ w.heap.size)
    (h : ∀ v' w', Own w' base v' (l ++ m) → Grew w w' v v' → wpList Try.prog ops Q rest (a.put o.dst v') w') : wpList Try.prog ops Q (o :: rest) a w := by
  obtain ⟨i0, hi, hz0, hz1, hz2⟩ := info_parts infoB
  obtain ⟨ad, cap, rfl, hcap, hmax, hnone, hcell⟩ := hsrc
  cases ad with
  | none =>
    obtain rfl := hnone rfl
    obtain rfl : m = [] := List.length_eq_zero_iff.1 (by omega)
    refine wpList_append_own_none hgd s x 34 ho base 5 i0 1 Try.underlying34 hi v l.length _ hs hown hx ?_
    exact h v w (by rw [List.append_nil]; exact hown) (Grew.of_below v (Below.refl _ _))
  | some ad =>
    refine wp_append_where hgd s x 34 ho base 5 i0 (.int .u8 0) 1 1 Try.underlying34 hi hz0 hz1 hz2 rfl (by decide) v l.length _ hs hown ad m.length cap (m.map (Value.int .u8)) hx (by simp) ?_ (ints_oneCell _ _) (by unfold maxLen; omega) (by omega) hb ?_
    · intro j u hj
      have hjl : j < m.length := by
        have := (List.getElem?_eq_some_iff.1 hj).1
        simpa using this
      obtain ⟨b, off, e, hc⟩ := hcell (by omega)
      cases e
      have e2 : (⟨b, off, none⟩ : Addr).add j = ⟨b, off + j, none⟩ := by simp [Addr.add]
      rw [e2, hc j hjl, ← hj]
      simp [List.getD, hjl]
    · intro v' w' hown' hgrow hwhere
      refine h v' w' ?_ ⟨hgrow, hwhere⟩
      unfold Own
      rw [List.map_append, List.length_append]
      exact hown'

theorem addNumber_any (w : World) (base : Nat) (v : Value) (l : List Int) (x : Int) (n : Nat) (hn : n = 4 ∨ n = 8) (hx0 : 0 ≤ x) (hx : x < 256 ^ n) (hown : Own w base v l) (hb : base ≤ w.heap.size) (hl : l.length ≤ 900000) :
    Calls Try.prog 39 #[v, .int .u64 x, .int .i64 n] w fun e w' => ∃ v', e = .returned v' ∧ Own w' base v' (l ++ put n x) ∧ Grew w w' v v' := by
  have hw : Word x := by
    rcases hn with rfl | rfl
    · simp at hx; exact ⟨hx0, by omega⟩
    · simp at hx; exact ⟨hx0, by omega⟩
  have P := hide (put_any x n w hw)
  have e1 : putL x n = put n x := by
    unfold putL
    rw [if_pos ⟨by rcases hn with rfl | rfl <;> rfl, by rw [Int.toNat_natCast]; exact hx⟩, Int.toNat_natCast]
  rw [e1] at P
  have HP : Hid ((put n x).length ≤ 8) := hide (by rw [put_length]; omega)
  generalize put n x = m at *
  generalize putE x n = pe at *
  generalize (n : Int) = N at *
  have HO := hide hown
  clear e1 hown hx hw hn
  go_enter Try.func39, Try.ntmps39
  go_wp2_with fail
  refine P.out.mono ?_
  rintro e w1 ⟨v1, rfl, hown1, hbel1⟩
  have HO1 := hide (HO.out.on hbel1)
  have HM := hide hown1.bytes
  have HB1 := hide hbel1
  clear hown1 hbel1
  go_wp2_with (at_builtin; refine wp_append_by rfl _ _ rfl base _ l rfl HO1.out _ m rfl HM.out ?c1 ?c2 ?_)
  case c1 => have := HP.out; omega
  case c2 => exact Nat.le_trans hb HB1.out.size
  intro v2 w2 hown2 hg2
  have R : Hid (Own w2 base v2 (l ++ m) ∧ Grew w w2 v v2) := hide ⟨hown2, (Grew.of_below v HB1.out).trans hg2⟩
  clear hown2 hg2
  go_wp2
  go_ret
  exact ⟨_, rfl, R.out⟩

theorem addCount_any (w : World) (base : Nat) (v : Value) (l : List Int) (n : Nat) (hn : n ≤ 1000000) (hown : Own w base v l) (hb : base ≤ w.heap.size) (hl : l.length ≤ 900000) :
    Calls Try.prog 40 #[v, .int .i64 n] w fun e w' => ∃ v', e = .returned v' ∧ Own w' base v' (l ++ var (n : Int)) ∧ Grew w w' v v' := by
  have P := hide (octVar_any w (n : Int) ⟨by omega, by omega⟩)
  have HP : Hid ((var (n : Int)).length ≤ 9) := hide (by have := var_length (n : Int); rcases size_cases (n : Int) with ⟨_, h⟩ | ⟨_, _, h⟩ | ⟨_, _, h⟩ | ⟨_, h⟩ <;> omega)
  have hw : IntKind.u64.wrap (n : Int) = (n : Int) := by simp [IntKind.wrap, IntKind.bits, IntKind.signed]; omega
  generalize var (n : Int) = m at *
  have HO := hide hown
  clear hown
  go_enter Try.func40, Try.ntmps40
  go_wp2_with fail
  refine P.out.mono ?_
  rintro e w1 ⟨v1, rfl, hown1, hbel1⟩
  have HO1 := hide (HO.out.on hbel1)
  have HM := hide hown1.bytes
  have HB1 := hide hbel1
  clear hown1 hbel1
  go_wp2_with (at_builtin; refine wp_append_by rfl _ _ rfl base _ l rfl HO1.out _ m rfl HM.out ?c1 ?c2 ?_)
  case c1 => have := HP.out; omega
  case c2 => exact Nat.le_trans hb HB1.out.size
  intro v2 w2 hown2 hg2
  have R : Hid (Own w2 base v2 (l ++ m) ∧ Grew w w2 v v2) := hide ⟨hown2, (Grew.of_below v HB1.out).trans hg2⟩
  clear hown2 hg2
  go_wp2
  go_ret
  exact ⟨_, rfl, R.out⟩

end Go.Proofs.Ytjmifgdjmaelfab
