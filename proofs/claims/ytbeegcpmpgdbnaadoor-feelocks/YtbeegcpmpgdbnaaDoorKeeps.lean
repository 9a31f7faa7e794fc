/-
  What turns and what stays: of the old blocks two alone turn; what hangs on some blocks alone. Nothing here speaks of one function.
-/
import Derived.Test.YtbeegcpmpgdbnaaDoorKitA
namespace Go.Proofs.YtbeegcpmpgdbnaaDoor
open Go.RowKit

/-- Of the old blocks only p and q turn. -/
structure Besides (p q : Nat) (w w' : World) : Prop where
  os : w'.os = w.os
  tape : w'.tape = w.tape
  output : w'.output = w.output
  size : w.heap.size ≤ w'.heap.size
  block : ∀ k, k < w.heap.size → k ≠ p → k ≠ q → w'.heap[k]? = w.heap[k]?
theorem Besides.refl (p q : Nat) (w : World) : Besides p q w w := ⟨rfl, rfl, rfl, Nat.le_refl _, fun _ _ _ _ => rfl⟩
/-- The second one may turn to a new one. -/
theorem Besides.then {p q q' : Nat} {w w1 w2 : World} (h : Besides p q w w1) (k : Besides p q' w1 w2) (hq : q' = q ∨ q' = p ∨ w.heap.size ≤ q') : Besides p q w w2 :=
  ⟨k.os.trans h.os, k.tape.trans h.tape, k.output.trans h.output, Nat.le_trans h.size k.size, fun i hi h1 h2 =>
    (k.block i (Nat.lt_of_lt_of_le hi h.size) h1 (by rcases hq with rfl | rfl | hq; exact h2; exact h1; omega)).trans (h.block i hi h1 h2)⟩
theorem Besides.trans {p q : Nat} {w w1 w2 : World} (h : Besides p q w w1) (k : Besides p q w1 w2) : Besides p q w w2 := h.then k (Or.inl rfl)
theorem Besides.of_below {p q : Nat} {w w' : World} (h : Below w.heap.size w w') : Besides p q w w' := ⟨h.os, h.tape, h.output, h.size, fun k hk _ _ => h.block k hk⟩
theorem Besides.on {p q : Nat} {w w1 w2 : World} (h : Besides p q w w1) (k : Below w1.heap.size w1 w2) : Besides p q w w2 := h.trans (.of_below k)
theorem Besides.ground {p q B : Nat} {w w' : World} (h : Besides p q w w') (hp : B ≤ p) (hq : B ≤ q) (hB : B ≤ w.heap.size) : Below B w w' :=
  ⟨h.os, h.tape, h.output, h.size, fun k hk => h.block k (by omega) (by omega) (by omega)⟩
theorem Besides.drew {p q : Nat} {w w' : World} (h : Besides p q w w') : Besides p q w w'.drew := ⟨h.os, h.tape, h.output, h.size, h.block⟩
theorem Besides.set {p q : Nat} {w w' : World} (h : Besides p q w w') (a : Addr) (ha : a.block = p ∨ a.block = q) (v : Value) : Besides p q w (w'.setCell a v) :=
  h.trans ⟨rfl, rfl, rfl, by simp [World.setCell], fun k _ h1 h2 => Below.heap_setCell _ _ _ _ (by omega)⟩
theorem Besides.sets {p q b : Nat} {w : World} (hb : b = p ∨ b = q) : ∀ (vs : List Value) (o : Nat) (w' : World), Besides p q w w' → Besides p q w (w'.setCells b o vs)
  | [], _, _, h => h
  | v :: vs, o, _, h => Besides.sets hb vs (o + 1) _ (h.set ⟨b, o, none⟩ hb v)
theorem Besides.grown {p q : Nat} {w w1 w2 : World} {row : Option Nat} (h : Besides p q w w1) (hg : w1.grownBy w2 row) (hr : ∀ k, row = some k → w.heap.size ≤ k) : Besides p q w w2 :=
  ⟨hg.os.trans h.os, hg.tape.trans h.tape, hg.output.trans h.output, Nat.le_trans h.size hg.size, fun k hk h1 h2 =>
    (hg.block k (Nat.lt_of_lt_of_le hk h.size) (fun e => by have := hr k e.symm; omega)).trans (h.block k hk h1 h2)⟩
theorem Besides.swap {p q : Nat} {w w' : World} (h : Besides p q w w') : Besides q p w w' := ⟨h.os, h.tape, h.output, h.size, fun k hk h1 h2 => h.block k hk h2 h1⟩
theorem size_setCell (w : World) (a : Addr) (v : Value) : (w.setCell a v).heap.size = w.heap.size := by simp [World.setCell]
theorem size_setCells : ∀ (b o : Nat) (vs : List Value) (w : World), (w.setCells b o vs).heap.size = w.heap.size
  | _, _, [], _ => rfl
  | b, o, v :: vs, w => by rw [World.setCells, size_setCells b (o + 1) vs, size_setCell]

/-- It holds wherever the blocks that P takes are as they are in w. -/
def Keeps (P : Nat → Prop) (w : World) (X : World → Prop) : Prop := ∀ w', (∀ g, g < w.heap.size → P g → w'.heap[g]? = w.heap[g]?) → X w'
theorem Keeps.self {P : Nat → Prop} {w : World} {X : World → Prop} (h : Keeps P w X) : X w := h w (fun _ _ _ => rfl)
theorem Keeps.step {P : Nat → Prop} {w w1 : World} {X : World → Prop} (h : Keeps P w X) (hs : w.heap.size ≤ w1.heap.size) (hb : ∀ g, g < w.heap.size → P g → w1.heap[g]? = w.heap[g]?) : Keeps P w1 X :=
  fun w' hw => h w' fun g hg hp => (hw g (by omega) hp).trans (hb g hg hp)
theorem Keeps.weak {P Q : Nat → Prop} {w : World} {X : World → Prop} (h : Keeps P w X) (hPQ : ∀ g, g < w.heap.size → P g → Q g) : Keeps Q w X :=
  fun w' hw => h w' fun g hg hp => hw g hg (hPQ g hg hp)
theorem Keeps.map {P : Nat → Prop} {w : World} {X Y : World → Prop} (h : Keeps P w X) (hXY : ∀ w', X w' → Y w') : Keeps P w Y := fun w' hw => hXY w' (h w' hw)
/-- Neither p nor q. -/
def off (p q : Nat) (g : Nat) : Prop := g ≠ p ∧ g ≠ q
theorem Keeps.besides {p q q' : Nat} {w w1 : World} {X : World → Prop} (h : Keeps (off p q) w X) (hb : Besides p q w w1) (hq : q' = q ∨ q' = p ∨ w.heap.size ≤ q') : Keeps (off p q') w1 X :=
  fun w' hw => h w' fun g hg hp => (hw g (Nat.lt_of_lt_of_le hg hb.size) ⟨hp.1, by rcases hq with rfl | rfl | hq; exact hp.2; exact hp.1; omega⟩).trans (hb.block g hg hp.1 hp.2)
theorem Keeps.below {P : Nat → Prop} {w w1 : World} {X : World → Prop} (h : Keeps P w X) (hb : Below w.heap.size w w1) : Keeps P w1 X := h.step hb.size fun g hg _ => hb.block g hg
/-- What held of old memory. -/
theorem keeps_old {P : Nat → Prop} {w0 w : World} {X : World → Prop} (h : ∀ w', Below w0.heap.size w0 w' → X w') (hb : Below w0.heap.size w0 w) (hX : ∀ w' w'' : World, w'.heap = w''.heap → X w' → X w'') (hP : ∀ g, g < w0.heap.size → P g) : Keeps P w X := by
  intro w' hw
  have hh : ∀ g, g < w0.heap.size → w'.heap[g]? = w0.heap[g]? := fun g hg => (hw g (Nat.lt_of_lt_of_le hg hb.size) (hP g hg)).trans (hb.block g hg)
  refine hX { w0 with heap := w'.heap } w' rfl (h _ ⟨rfl, rfl, rfl, ?_, fun k hk => hh k hk⟩)
  show w0.heap.size ≤ w'.heap.size
  rcases Nat.lt_or_ge w'.heap.size w0.heap.size with hlt | hge
  · have h1 := hh w'.heap.size hlt
    rw [Array.getElem?_eq_none (Nat.le_refl _), Array.getElem?_eq_getElem hlt] at h1
    cases h1
  · exact hge
theorem cell_heap {w w' : World} (h : w.heap = w'.heap) (a : Addr) : w'.cell? a = w.cell? a := World.cell?_of_block (w := w) (by rw [h])
theorem Bytes.heap {w w' : World} {v : Value} {l : List Int} (e : w.heap = w'.heap) (h : Bytes w v l) : Bytes w' v l := h.at fun p _ => cell_heap e p
theorem Bytes.old {P : Nat → Prop} {w0 w : World} {v : Value} {l : List Int} (h : Bytes w0 v l) (hb : Below w0.heap.size w0 w) (hP : ∀ g, g < w0.heap.size → P g) : Keeps P w fun w => Bytes w v l :=
  keeps_old (fun _ hb' => h.below hb') hb (fun _ _ e k => k.heap e) hP
theorem Bytes.keeps {P : Nat → Prop} {w : World} {v : Value} {l : List Int} (h : Bytes w v l) (hP : ∀ k, v.ownBlock = some k → P k) : Keeps P w fun w => Bytes w v l := by
  intro w' hw
  obtain ⟨a, cap, h1, h2, h3, h4, h5⟩ := h
  refine ⟨a, cap, h1, h2, h3, h4, fun hl => ?_⟩
  obtain ⟨b, off, rfl, hc⟩ := h5 hl
  refine ⟨b, off, rfl, fun i hi => ?_⟩
  have hlt : b < w.heap.size := World.block_lt_of_cell? _ _ (hc i hi)
  have hb : P b := hP b (by rw [h1]; rfl)
  exact (World.cell?_of_block (w := w) (a := ⟨b, off + i, none⟩) (hw b hlt hb)).trans (hc i hi)
theorem Own.keeps {P : Nat → Prop} {w : World} {base : Nat} {v : Value} {l : List Int} (h : Own w base v l) (hP : ∀ k, base ≤ k → v.ownBlock = some k → P k) : Keeps P w fun w => Bytes w v l :=
  h.bytes.keeps fun k hk => hP k (World.ownsRow.lt h k hk).1 hk

/-- 'append' onto a row of the call's own: where the row is then. -/
theorem run_append_where {P : Program} (w : World) (base : Nat) (t ty e : TypeId) (i : TypeInfo) (z : Value) (size bytes : Nat) (ht : P.underlying t = some (.slice e)) (hi : P.info? e = some i) (hz : i.zero = some z)
    (hsize : i.size = size) (hby : i.bytes = bytes) (hzs : z.cells.size = size) (hsz : 0 < size)
    (v : Value) (n : Nat) (xs : List Value) (hown : w.ownsRow base e size v n xs)
    (a : Addr) (m c : Nat) (news : List Value) (hl : news.length = m * size) (hnews : ∀ j u, news[j]? = some u → w.cell? (a.add j) = some u) (h1 : ∀ u ∈ news, u.oneCell' = true)
    (h63 : n + m ≤ maxLen) (hbytes : (n + m) * bytes ≤ 140737488355328) (hbase : base ≤ w.heap.size) :
    ∃ v' w', (Builtin.append_ #[t, t] ty #[v, .slice (some a) m c]).run P w = .ok v' w' ∧ w'.ownsRow base e size v' (n + m) (xs ++ news) ∧ w.grownBy w' v.ownBlock ∧
      (v'.ownBlock = v.ownBlock ∨ ∀ k, v'.ownBlock = some k → w.heap.size ≤ k) := by
  obtain ⟨v', w', hr, h2, h3, -⟩ := run_append_own w base t ty e i z size bytes ht hi hz hsize hby hzs hsz v n xs hown a m c news hl hnews h1 h63 hbytes hbase
  refine ⟨v', w', hr, h2, h3, ?_⟩
  rcases id hown.2 with ⟨rfl, rfl⟩ | ⟨g, cap, cur, rfl, hbg, hg, hnc, hcm, hcs, htake⟩
  · right
    have hx : xs = [] := List.eq_nil_of_length_eq_zero (by simpa using hown.1)
    subst hx
    obtain ⟨v2, w2, hr2, k2, -⟩ := run_append_own w w.heap.size t ty e i z size bytes ht hi hz hsize hby hzs hsz _ 0 [] (World.ownsRow_nil w w.heap.size e size) a m c news hl hnews h1 h63 hbytes (Nat.le_refl _)
    rw [hr] at hr2
    cases hr2
    exact fun k hk => (World.ownsRow.lt k2 k hk).1
  · by_cases hroom : n + m ≤ cap
    · left
      subst hsize
      have hfit : n * i.size + news.length ≤ cur.size := by rw [hl, hcs, ← Nat.add_mul]; exact Nat.mul_le_mul_right _ hroom
      have hr2 := run_append_room (P := P) w t ty e i ht hi g n cap cur hg a m c news hl hnews h1 hroom hfit
      rw [hr] at hr2
      cases hr2
      rfl
    · right
      obtain ⟨v2, w2, hr2, k2, -⟩ := run_append_arg_grows (P := P) w t ty e i z size bytes ht hi hz hsize hby hzs hsz ⟨g, 0, none⟩ n cap xs hown.1 (World.ownsRow.cells hown (g := g) rfl) a m c news hl hnews (by omega) h63 hbytes
      rw [hr] at hr2
      cases hr2
      exact fun k hk => (World.ownsRow.lt k2 k hk).1
theorem wp_append_where {P : Program} {w : World} {ops : Array Oper} {rest : List Oper} {o : Oper} {ac : Act} {Q : Exit → Act → World → Prop} (hgd : o.guard = none) (s x : Operand) (t : TypeId)
    (ho : o.op = .call { callee := .builtin .append, args := #[s, x], argTypes := #[t, t] })
    (base : Nat) (e : TypeId) (i : TypeInfo) (z : Value) (size bytes : Nat) (ht : P.underlying t = some (.slice e)) (hi : P.info? e = some i) (hz : i.zero = some z)
    (hsize : i.size = size) (hby : i.bytes = bytes) (hzs : z.cells.size = size) (hsz : 0 < size)
    (v : Value) (n : Nat) (xs : List Value) (hs : ac.eval s = v) (hown : w.ownsRow base e size v n xs)
    (a : Addr) (m c : Nat) (news : List Value) (hx : ac.eval x = .slice (some a) m c) (hl : news.length = m * size) (hnews : ∀ j u, news[j]? = some u → w.cell? (a.add j) = some u) (h1 : ∀ u ∈ news, u.oneCell' = true)
    (h63 : n + m ≤ maxLen) (hbytes : (n + m) * bytes ≤ 140737488355328) (hbase : base ≤ w.heap.size)
    (h : ∀ v' w', w'.ownsRow base e size v' (n + m) (xs ++ news) → w.grownBy w' v.ownBlock → (v'.ownBlock = v.ownBlock ∨ ∀ k, v'.ownBlock = some k → w.heap.size ≤ k) → wpList P ops Q rest (ac.put o.dst v') w') : wpList P ops Q (o :: rest) ac w := by
  obtain ⟨v', w', hr, h2, h3, h4⟩ := run_append_where (P := P) w base t o.type e i z size bytes ht hi hz hsize hby hzs hsz v n xs hown a m c news hl hnews h1 h63 hbytes hbase
  refine wpList_plain hgd fun K hK => ?_
  unfold Oper.wp
  simp [execOp, ho, resolve, invoke, builtin, hs, hx, hr, Result.andThen]
  exact hK _ _ (h v' w' h2 h3 h4)

end Go.Proofs.YtbeegcpmpgdbnaaDoor
