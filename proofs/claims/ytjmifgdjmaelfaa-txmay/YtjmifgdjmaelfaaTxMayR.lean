/-
  An input is added to a copy of a transaction's inputs: the rows, told ahead.
-/
import Derived.Test.YtjmifgdjmaelfaaTxMayP
import Derived.Test.YtjmifgdjmaelfaaTxRows
import Derived.Test.YtjmifgdjmaelfaaTxPtB
namespace Go.Proofs.Ytjmifgdjmaelfaa
open Go.RowKit

theorem below_alloc' {w a : World} (h : Below w.heap.size w a) (o : Obj) : Below w.heap.size w (a.alloc o) := h.alloc h.size o
theorem RowOwn.alloc' {w : World} {base : Nat} {ty : TypeId} {s : Nat} {v : Value} {C : List (List Value)} (h : RowOwn w base ty s v C) (o : Obj) : RowOwn (w.alloc o) base ty s v C :=
  h.move fun g _ hg => (below_alloc' (Below.refl _ _) o).block g hg
theorem range_alloc {w : World} {b o : Nat} {vs : List Value} (h : w.rangeAt b o vs) (ob : Obj) : (w.alloc ob).rangeAt b o vs := range_on h (below_alloc' (Below.refl _ _) ob)
/-- The inputs are copied. -/
theorem may3 {wr : World} (W : World) (hb : Below wr.heap.size wr W) (base : Nat) (h0 : wr.heap.size ≤ base) (hW : base ≤ W.heap.size) (v0 : Value) (hown : RowOwn W base 48 34 v0 []) (D : List (TIn × Value)) (a : Option Addr) (n cap : Nat) (hn : D.length = n) (hp : 0 < n) (h8 : n ≤ 8)
    (hrow : RowAt wr 34 (.slice a n cap) (D.map inC)) (hx : ∀ x ∈ D, x.1.tx.length = 32 ∧ x.2.oneCell' = true) :
    ∃ ra rc w', (Builtin.append_ #[25, 25] 25 #[v0, .slice a n cap]).run Try.prog W.drew = .ok (.slice ra n rc) w' ∧ RowOwn w' base 48 34 (.slice ra n rc) (D.map inC) ∧ Below wr.heap.size wr w' ∧ W.heap.size ≤ w'.heap.size ∧
      (∀ k, k < W.heap.size → v0.ownBlock ≠ some k → w'.heap[k]? = W.heap[k]?) ∧ ∀ k, (Value.slice ra n rc).ownBlock = some k → v0.ownBlock = some k ∨ W.heap.size ≤ k := by
  subst hn
  have hrow' := hrow.on hb
  obtain ⟨a', cap', e, -, -, -, h5⟩ := hrow'
  simp only [Value.slice.injEq, List.length_map, true_and] at e
  obtain ⟨rfl, rfl⟩ := e
  obtain ⟨b, off, rfl, hc⟩ := h5 (by simpa using hp)
  obtain ⟨v', w', h1, h2, h3, h4⟩ := run_append_rows W.drew 25 48 25 _ 34 64 Try.underlying25 infoIn rfl (by omega) (by omega) base v0 [] (hown.move (w1 := W.drew) fun _ _ _ => rfl) b off cap (D.map inC) (fun i c hi => hc i c hi) (fun c hc => by
    obtain ⟨x, hx', rfl⟩ := List.mem_map.1 hc
    exact ⟨inC_length (hx x hx').1, inC_one (hx x hx').2⟩) (by simp; omega) hW
  rw [List.nil_append] at h2
  rw [List.length_map] at h1
  obtain ⟨ra, rc, rfl, -, -⟩ := h2.row.form
  rw [List.length_map] at h1 h2 h4
  refine ⟨ra, rc, w', h1, h2, ?_, h3.size, fun k hk hne => h3.block k hk (fun e => hne e.symm), fun k hk => ?_⟩
  · exact hb.drew.grown h3 (hb.size) fun k hk => by have := hown.lt k hk; omega
  · rcases h4 with e | e
    · left; rw [← e]; exact hk
    · right; exact e k hk
/-- One more is appended, and stored into the copy. -/
theorem may12 {wr : World} (W : World) (hb : Below wr.heap.size wr W) (n : Nat) (ra : Option Addr) (rc : Nat) (D : List (TIn × Value)) (hown : RowOwn W (wr.heap.size + 1) 48 34 (.slice ra n rc) (D.map inC)) (h8 : n ≤ 8) (hD : D.length = n) (hkeys : ∀ x ∈ D, Bytes wr x.2 x.1.key)
    (x : TIn) (kb : Nat) (kv : Value) (hkv : kv = .slice (some ⟨kb, 0, none⟩) 1 1) (hk : Bytes W kv x.key) (hk1 : wr.heap.size < kb) (hk2 : kb < W.heap.size) (hk3 : (Value.slice ra n rc).ownBlock ≠ some kb) (q : Nat) (hq : W.rangeAt q 0 (inC (x, kv))) (hx : x.tx.length = 32)
    (ver : Int) (iv ov : Value) (hbox : TxBox W wr.heap.size ver iv ov) (hsz : wr.heap.size + 1 ≤ W.heap.size) :
    ∃ va vc w', (Builtin.append_ #[25, 25] 25 #[.slice ra n rc, .slice (some ⟨q, 0, none⟩) 1 1]).run Try.prog W = .ok (.slice va (n + 1) vc) w' ∧ w'.cell? ⟨wr.heap.size, 1, none⟩ = some iv ∧ w'.frozen? ⟨wr.heap.size, 1, none⟩ = false ∧ Below wr.heap.size wr w' ∧
      Below wr.heap.size wr (w'.setCell ⟨wr.heap.size, 1, none⟩ (.slice va (n + 1) vc)) ∧ InsAt (w'.setCell ⟨wr.heap.size, 1, none⟩ (.slice va (n + 1) vc)) (.slice va (n + 1) vc) (D.map Prod.fst ++ [x]) ∧
      TxBox (w'.setCell ⟨wr.heap.size, 1, none⟩ (.slice va (n + 1) vc)) wr.heap.size ver (.slice va (n + 1) vc) ov := by
  subst hD hkv
  obtain ⟨v', w', h1, h2, h3, h4⟩ := run_append_row W 25 48 25 _ 34 64 Try.underlying25 infoIn rfl (by omega) (by omega) (wr.heap.size + 1) _ (D.map inC) hown q (inC (x, .slice (some ⟨kb, 0, none⟩) 1 1)) hq ⟨inC_length hx, inC_one rfl⟩ (by simp; omega) hsz
  obtain ⟨va, vc, rfl, -, -⟩ := h2.row.form
  have hlen : (D.map inC ++ [inC (x, .slice (some ⟨kb, 0, none⟩) 1 1)]).length = D.length + 1 := by simp
  rw [hlen] at h1 h2 h4
  have hlt := hown.lt
  have hblk : ∀ k, k < W.heap.size → (Value.slice ra D.length rc).ownBlock ≠ some k → w'.heap[k]? = W.heap[k]? := fun k hk hne => h3.block k hk (fun e => hne e.symm)
  have hqb : (Value.slice ra D.length rc).ownBlock ≠ some wr.heap.size := fun e => by have := hlt _ e; omega
  have hbox' := hbox.heap (hblk _ (by omega) hqb)
  have hb' : Below wr.heap.size wr w' := hb.grown h3 hb.size fun k hk => by have := hlt k hk; omega
  have hbs := below_set hb' (show wr.heap.size ≤ (⟨wr.heap.size, 1, none⟩ : Addr).block from Nat.le_refl _) (Value.slice va (D.length + 1) vc)
  have hsk : ∀ k, k ≠ wr.heap.size → (w'.setCell ⟨wr.heap.size, 1, none⟩ (.slice va (D.length + 1) vc)).heap[k]? = w'.heap[k]? := fun k hk => Below.heap_setCell _ _ _ _ (by show k ≠ wr.heap.size; exact hk)
  refine ⟨va, vc, w', h1, hbox'.2.1, there_free0 hbox'.2.2.2 1 (by omega), hb', hbs, ⟨D ++ [(x, .slice (some ⟨kb, 0, none⟩) 1 1)], by simp, ?_, fun y hy => ?_⟩, hbox'.ins _⟩
  · have := (h2.move (w1 := w'.setCell ⟨wr.heap.size, 1, none⟩ (.slice va (D.length + 1) vc)) fun k h _ => hsk k (by omega)).row
    rw [List.map_append]
    exact this
  · rcases List.mem_append.1 hy with p | p
    · exact (hkeys y p).below hbs
    · rw [List.mem_singleton.1 p]
      exact hk.keeps (P := fun k => k = kb) (fun k e => by simpa [Value.ownBlock] using e.symm) _ fun k hk4 e => by
        subst e
        exact (hsk k (by omega)).trans (hblk k hk4 hk3)
theorem TxBox.alloc' {w : World} {q : Nat} {ver : Int} {iv ov : Value} (h : TxBox w q ver iv ov) (o : Obj) : TxBox (w.alloc o) q ver iv ov :=
  h.heap ((below_alloc' (Below.refl _ _) o).block q (World.block_lt_of_cell? _ _ h.1))
theorem kept_key {W w3 : World} {kb : Nat} {key : List Int} (h : Bytes W (.slice (some ⟨kb, 0, none⟩) 1 1) key) (e : w3.heap[kb]? = W.heap[kb]?) : Bytes w3 (.slice (some ⟨kb, 0, none⟩) 1 1) key :=
  h.keeps (P := fun k => k = kb) (fun k e => by simpa [Value.ownBlock] using e.symm) _ fun k _ ek => by subst ek; exact e

end Go.Proofs.Ytjmifgdjmaelfaa
