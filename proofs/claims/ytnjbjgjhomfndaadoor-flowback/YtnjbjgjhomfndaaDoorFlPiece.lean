/-
  A flow that is fed piece by piece, what it tells gathered in a row: with no word of one function of the laws.
-/
import Derived.Test.YtnjbjgjhomfndaaDoorFlAlive
import Derived.Laws.AppendOwnNone
namespace Go.Proofs.YtnjbjgjhomfndaaDoor
open Go.RowKit

/-- 'append', of all items of one row onto another. -/
theorem wp_append_all {w : World} {ops : Array Oper} {rest : List Oper} {o : Oper} {a : Act} {Q : Exit → Act → World → Prop} (hgd : o.guard = none) (s x : Operand)
    (ho : o.op = .call { callee := .builtin .append, args := #[s, x], argTypes := #[32, 32] })
    (base : Nat) (av : Nat → Prop) (v : Value) (L : List It) (hs : a.eval s = v) (hI : Items w base av v L) (base2 : Nat) (av2 : Nat → Prop) (u : Value) (M : List It) (hx : a.eval x = u) (hJ : Items w base2 av2 u M)
    (hap : ∀ g, g < w.heap.size → ¬ av2 g → ¬ av g ∧ v.ownBlock ≠ some g)
    (hsz : L.length + M.length ≤ 1000000) (hb : base ≤ w.heap.size) (hav : ∀ k, w.heap.size ≤ k → ¬ av k)
    (h : ∀ v' w', Items w' base av v' (L ++ M) → w.grownBy w' v.ownBlock → wpList Tryd.prog ops Q rest (a.put o.dst v') w') : wpList Tryd.prog ops Q (o :: rest) a w := by
  obtain ⟨E, rfl, hrow, hav2, hbod⟩ := id hJ
  rcases id hrow.2 with ⟨hu, h0⟩ | ⟨g, cap, cur, hu, hbg, hg, hn, hm, hcs, htk⟩
  · obtain ⟨D, rfl, hrowD, -⟩ := id hI
    obtain rfl : E = [] := List.length_eq_zero_iff.1 h0
    obtain ⟨i0, hi, -, -, -⟩ := info_parts infoI
    refine wpList_append_own_none hgd s x 32 ho base 52 i0 3 Tryd.underlying32 hi v D.length _ hs hrowD (hx.trans hu) ?_
    refine h v w ?_ ⟨rfl, rfl, rfl, Nat.le_refl _, fun _ _ _ => rfl⟩
    rw [List.map_nil, List.append_nil]
    exact hI
  · subst hu
    rw [List.length_map] at hsz
    refine wp_append_items hgd s x ho base av v L hs hI _ ⟨g, 0, none⟩ E.length cap hx rfl E rfl (World.ownsRow.cells hrow (g := g) rfl) (fun y hy => ⟨(hbod y hy).1, (hbod y hy).2.weak fun k hk hp => hap k hk hp.1⟩) hsz hb hav fun v' w' h1 h2 _ => h v' w' h1 h2

/-- What holds of a flow and of what it has told, when x of b has come. -/
def Pieced (w0 : World) (p : Nat) (b : List Int) (gv rv : Value) (wr : World) (q : Nat) (x y r : List Int) (d : Bool) (L : List It) : Prop :=
  b = x ++ y ∧ Keeps (off p p) w0 (fun w => Bytes w rv y) ∧ Flw wr p q r d ∧ Runs x L r d ∧ Items wr w0.heap.size (fun g => g < w0.heap.size ∨ g = q) gv L ∧ Besides p p w0 wr ∧ (q = p ∨ w0.heap.size ≤ q)
theorem Pieced.items {w0 wr w1 : World} {p : Nat} {b : List Int} {gv rv : Value} {q q' : Nat} {x y r : List Int} {d : Bool} {L : List It} (h : Pieced w0 p b gv rv wr q x y r d L) (hp : p < w0.heap.size) (hB : Besides p q wr w1) (hq : q' = q ∨ q' = p ∨ wr.heap.size ≤ q') :
    Items w1 w0.heap.size (fun g => g < w0.heap.size ∨ g = q') gv L := by
  obtain ⟨-, -, -, -, hI, hBs, hq0⟩ := h
  refine hI.move hB.size (fun g hg ha => ?_) (fun g hg ha => ?_)
  · have h1 : ¬ g < w0.heap.size := fun h => ha (Or.inl h)
    exact hB.block g hg (by omega) (fun h => ha (Or.inr h))
  · have h1 : ¬ g < w0.heap.size := fun h => ha (Or.inl h)
    have h2 : g ≠ q := fun h => ha (Or.inr h)
    rintro (h | h)
    · exact h1 h
    · omega
theorem Pieced.apart {w0 wr : World} {p : Nat} {b : List Int} {gv rv : Value} {q : Nat} {x y r : List Int} {d : Bool} {L : List It} (h : Pieced w0 p b gv rv wr q x y r d L) (g : Nat) (q' : Nat) (hg : ¬ (g < wr.heap.size ∨ g = q')) : ¬ (g < w0.heap.size ∨ g = q') ∧ gv.ownBlock ≠ some g := by
  obtain ⟨-, -, -, -, ⟨D, -, hrow, -⟩, hBs, -⟩ := h
  have := hBs.size
  refine ⟨by omega, fun e => ?_⟩
  have := (World.ownsRow.lt hrow g e).2
  omega
/-- A piece more. -/
theorem Pieced.next {w0 wr w1 w2 : World} {p : Nat} {b : List Int} {gv rv gv' rv' : Value} {q q' : Nat} {x y r s z t : List Int} {d d' : Bool} {L L2 : List It} (h : Pieced w0 p b gv rv wr q x y r d L) (hp : p < w0.heap.size) (hxb : ∀ z ∈ x, Byte z) (hy : y = z ++ t) (hR : FRuns d r z L2 s d')
    (hf : Flw w1 p q' s d') (hB : Besides p q wr w1) (hq : q' = q ∨ q' = p ∨ wr.heap.size ≤ q') (hI : Items w2 w0.heap.size (fun g => g < w0.heap.size ∨ g = q') gv' (L ++ L2)) (hg : w1.grownBy w2 gv.ownBlock) (hrv : Keeps (off p p) w0 fun w => Bytes w rv' t) :
    Pieced w0 p b gv' rv' w2 q' (x ++ z) t s d' (L ++ L2) := by
  have hI1 := h.items hp hB hq
  obtain ⟨hb, hk, hf0, hRx, hI0, hBs, hq0⟩ := h
  have hsz := hBs.size
  have hav : ∀ k, gv.ownBlock = some k → w0.heap.size ≤ k ∧ k ≠ q' := fun k hk => by
    obtain ⟨D, -, hrow, hv, -⟩ := hI1
    exact ⟨(World.ownsRow.lt hrow k hk).1, fun e => hv k hk (Or.inr e)⟩
  refine ⟨by rw [hb, hy, List.append_assoc], hrv, ?_, FRuns.join hRx hxb hR, hI, (hBs.then hB (by omega)).grown hg (fun k hk => (hav k hk).1), by omega⟩
  refine hf.heap (hg.block p hf.lt.1 fun e => ?_) (hg.block q' hf.lt.2 fun e => ?_)
  · have := (hav p e.symm).1
    omega
  · exact (hav q' e.symm).2 rfl

end Go.Proofs.YtnjbjgjhomfndaaDoor
