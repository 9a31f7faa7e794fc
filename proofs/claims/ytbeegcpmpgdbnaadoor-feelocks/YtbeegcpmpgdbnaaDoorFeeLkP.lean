/-
  Another key for one input: pure, and in memory.
-/
import Derived.Test.YtbeegcpmpgdbnaaDoorFeeOf
import Derived.Test.YtbeegcpmpgdbnaaDoorFeeGr
namespace Go.Proofs.YtbeegcpmpgdbnaaDoor
open Go.RowKit

/-- One cell of one row set. -/
theorem row_set {w : World} {s g o n cap : Nat} {C : List (List Value)} (hs : ∀ c ∈ C, c.length = s) (h : RowAt w s (.slice (some ⟨g, o, none⟩) n cap) C) {k j : Nat} {c : List Value} (hc : C[k]? = some c) (hj : j < s) (u : Value) :
    RowAt (w.setCell ⟨g, o + k * s + j, none⟩ u) s (.slice (some ⟨g, o, none⟩) n cap) (C.set k (c.set j u)) := by
  obtain ⟨a, cap', e, h1, h2, h3, h4⟩ := h
  have hk := (List.getElem?_eq_some_iff.1 hc).1
  obtain ⟨b, off, e2, hr⟩ := h4 (by omega)
  subst e2
  simp only [Value.slice.injEq, Option.some.injEq, Addr.mk.injEq, and_true] at e
  obtain ⟨⟨rfl, rfl⟩, rfl, rfl⟩ := e
  have hcl := hs c (List.mem_of_getElem? hc)
  refine ⟨_, cap, by rw [List.length_set], by simpa using h1, h2, h3, fun _ => ⟨g, o, rfl, ?_⟩⟩
  intro i d hd jj v hv
  by_cases hi : i = k
  · subst hi
    rw [List.getElem?_set_self hk] at hd
    cases hd
    by_cases hjj : jj = j
    · subst hjj
      rw [List.getElem?_set_self (by omega)] at hv
      cases hv
      exact World.cell?_setCell_same _ _ _ (hr i c hc jj _ (List.getElem?_eq_getElem (by omega)))
    · rw [List.getElem?_set_ne (by omega)] at hv
      rw [World.cell?_setCell_other _ _ _ _ (by intro e; simp only [Addr.mk.injEq] at e; omega)]
      exact hr i c hc jj v hv
  · rw [List.getElem?_set_ne (by omega)] at hd
    have hjs : jj < s := by
      have := (List.getElem?_eq_some_iff.1 hv).1
      rw [hs d (List.mem_of_getElem? hd)] at this
      exact this
    have hne : i * s + jj ≠ k * s + j := by
      rcases Nat.lt_or_gt_of_ne hi with h | h
      · have := Nat.mul_le_mul_right s (show i + 1 ≤ k by omega)
        rw [Nat.add_mul, Nat.one_mul] at this
        omega
      · have := Nat.mul_le_mul_right s (show k + 1 ≤ i by omega)
        rw [Nat.add_mul, Nat.one_mul] at this
        omega
    rw [World.cell?_setCell_other _ _ _ _ (by intro e; simp only [Addr.mk.injEq] at e; omega)]
    exact hr i d hd jj v hv
theorem own_room {w : World} {base s n cap : Nat} {t : TypeId} {a : Addr} {C : List (List Value)} (h : RowOwn w base t s (.slice (some a) n cap) C) : a.off = 0 ∧ base ≤ a.block ∧ ∀ i, w.frozen? ⟨a.block, i, none⟩ = false := by
  obtain ⟨⟨hl, hr⟩, hs⟩ := h
  rcases hr with ⟨e, _⟩ | ⟨g', cap', cur, e, hbg, hg, -, -, -, -⟩
  · cases e
  · simp only [Value.slice.injEq, Option.some.injEq] at e
    obtain ⟨rfl, -, -⟩ := e
    exact ⟨rfl, hbg, fun i => by simp [World.frozen?, hg]⟩
theorem TBox.mid {w : World} {q : Nat} {x y z : Value} (h : TBox w q x y z) (u : Value) : TBox (w.setCell ⟨q, 1, none⟩ u) q x u z :=
  ⟨by rw [World.cell?_setCell_other _ _ _ _ (by simp)]; exact h.1, World.cell?_setCell_same _ _ _ h.2.1, by rw [World.cell?_setCell_other _ _ _ _ (by simp)]; exact h.2.2⟩
theorem TBox.beside {w : World} {q g i : Nat} {x y z : Value} (h : TBox w q x y z) (hg : g ≠ q) (u : Value) : TBox (w.setCell ⟨g, i, none⟩ u) q x y z :=
  ⟨by rw [World.cell?_setCell_other _ _ _ _ (by intro e; simp only [Addr.mk.injEq] at e; omega)]; exact h.1, by rw [World.cell?_setCell_other _ _ _ _ (by intro e; simp only [Addr.mk.injEq] at e; omega)]; exact h.2.1, by rw [World.cell?_setCell_other _ _ _ _ (by intro e; simp only [Addr.mk.injEq] at e; omega)]; exact h.2.2⟩
/-- An input with another key. -/
def rekey (x : TIn) (key : List Int) : TIn := ⟨x.tx, x.n, key⟩
theorem inC_set (x : TIn) (kv kv2 : Value) (key : List Int) (hx : x.tx.length = 32) : (inC (x, kv)).set 33 kv2 = inC (rekey x key, kv2) := by
  have hl : (vals .u8 x.tx).length = 32 := by rw [vals_length]; exact hx
  simp only [inC, rekey]
  rw [List.set_append_right _ _ (by omega)]
  simp [hl]
/-- The inputs, one with another key. -/
theorem ins_set {w0 w : World} {D : List (TIn × Value)} {g n cap : Nat} (hL : ∀ x ∈ D.map Prod.fst, x.tx.length = 32) (hb : ∀ x ∈ D, Bytes w0 x.2 x.1.key) (h : RowAt w 34 (.slice (some ⟨g, 0, none⟩) n cap) (D.map inC)) {k : Nat} {x : TIn} (hx : (D.map Prod.fst)[k]? = some x)
    {kv : Value} {key : List Int} (hkv : Bytes w0 kv key) (hB : Below w0.heap.size w0 (w.setCell ⟨g, k * 34 + 33, none⟩ kv)) :
    InsAt (w.setCell ⟨g, k * 34 + 33, none⟩ kv) (.slice (some ⟨g, 0, none⟩) n cap) ((D.map Prod.fst).set k (rekey x key)) := by
  rw [List.getElem?_map] at hx
  obtain ⟨y, hy, rfl⟩ : ∃ y, D[k]? = some y ∧ y.1 = x := by
    cases e : D[k]? with
    | none => rw [e] at hx; cases hx
    | some y => rw [e] at hx; exact ⟨y, rfl, by simpa using hx⟩
  have hyl := hL y.1 (List.mem_map_of_mem (List.mem_of_getElem? hy))
  refine ⟨D.set k (rekey y.1 key, kv), by rw [List.map_set], ?_, ?_⟩
  · have hr := row_set (s := 34) (o := 0) (k := k) (j := 33) (c := inC y) (fun c hc => by
      obtain ⟨z, hz, rfl⟩ := List.mem_map.1 hc
      exact inC_length (hL z.1 (List.mem_map_of_mem hz))) h (by rw [List.getElem?_map, hy]; rfl) (by omega) kv
    rw [Nat.zero_add] at hr
    rw [List.map_set]
    have e := inC_set y.1 y.2 kv key hyl
    rw [show (y.1, y.2) = y from rfl] at e
    rw [← e]
    exact hr
  · intro z hz
    rcases List.mem_or_eq_of_mem_set hz with hz | rfl
    · exact (hb z hz).below hB
    · exact hkv.below hB
/-- Of the transaction that has another key for one input: what Check says, and whether all locks open. -/
theorem rekey_check {t : Tr} {p d : Bool} {k : Nat} {x : TIn} {key : List Int} (hc : chE t p d = 0) (hk : key.length ≤ 64) : chE ⟨t.ver, t.ins.set k (rekey x key), t.outs⟩ p d = 0 := by
  have hf := (formB_iff t).1 (chE_form hc)
  have hf2 : formB ⟨t.ver, t.ins.set k (rekey x key), t.outs⟩ = true := (formB_iff _).2 ⟨by simpa using hf.1, hf.2.1, fun z hz => by
    rcases List.mem_or_eq_of_mem_set hz with hz | rfl
    · exact hf.2.2 z hz
    · exact hk⟩
  unfold chE at hc ⊢
  rw [if_neg (by rw [chE_form (by unfold chE; exact hc)]; decide)] at hc
  rw [if_neg (by rw [hf2]; decide)]
  simpa using hc
theorem rekey_points {L : List TIn} {k : Nat} {x : TIn} {key : List Int} (hx : L[k]? = some x) : (L.set k (rekey x key)).map ptOf = L.map ptOf := by
  rw [List.map_set]
  apply List.ext_getElem?
  intro i
  obtain ⟨h1, h2⟩ := List.getElem?_eq_some_iff.1 hx
  by_cases e : k = i
  · subst e
    rw [List.getElem?_set_self (by simpa using h1), List.getElem?_map, hx]
    rfl
  · rw [List.getElem?_set_ne e]
theorem rekey_opens {L : List TIn} {M : List TOut} {k : Nat} {x : TIn} {y : TOut} {key : List Int} (hx : L[k]? = some x) (hy : M[k]? = some y) (h : Opens L M) : Opens (L.set k (rekey x key)) M ↔ digest key = y.lock := by
  have h1 := (List.getElem?_eq_some_iff.1 hx).1
  constructor
  · intro H
    exact H k (rekey x key) y (List.getElem?_set_self h1) hy
  · intro e j a b ha hb
    by_cases ej : k = j
    · subst ej
      rw [List.getElem?_set_self h1] at ha
      rw [hy] at hb
      cases ha
      cases hb
      exact e
    · rw [List.getElem?_set_ne ej] at ha
      exact h j a b ha hb
theorem rekey_ok {t : Tr} {k : Nat} {x : TIn} {key : List Int} (hok : TrOk t) (hx : t.ins[k]? = some x) (hk : AllB key) : TrOk ⟨t.ver, t.ins.set k (rekey x key), t.outs⟩ := by
  refine ⟨hok.1, fun z hz => ?_, hok.2.2⟩
  rcases List.mem_or_eq_of_mem_set hz with hz | rfl
  · exact hok.2.1 z hz
  · have h := hok.2.1 x (List.mem_of_getElem? hx)
    exact ⟨h.1, h.2.1, h.2.2.1, hk⟩
theorem chE_some {t : Tr} {p d : Bool} (h : chE t p d = 0) : 0 < t.ins.length := by
  unfold chE at h
  rw [if_neg (by rw [chE_form (by unfold chE; exact h)]; decide)] at h
  by_cases c : t.ins.length = 0 ∨ t.outs.length = 0
  · rw [if_pos c] at h
    cases h
  · omega
/-- What is taken is checked, has as many outputs, and all locks open. -/
theorem ofE_lock {t : Tr} {prev : List TOut} {p d r : Bool} (h : ofE t prev p d r = 0) : chE t p d = 0 ∧ prev.length = t.ins.length ∧ r = true := by
  unfold ofE at h
  by_cases c0 : chE t p d = 0
  · rw [if_neg (by simpa using c0)] at h
    by_cases c1 : prev.length = t.ins.length
    · rw [if_neg (by simpa using c1)] at h
      cases r with
      | false => simp at h
      | true => exact ⟨c0, c1, rfl⟩
    · rw [if_pos c1] at h
      cases h
  · rw [if_pos c0] at h
    exact absurd h c0
/-- What is answered of the transaction with another key. -/
theorem rekey_of {t : Tr} {prev : List TOut} {p d : Bool} {k : Nat} {x : TIn} {key : List Int} (h : ofE t prev p d true = 0) (hk : key.length ≤ 64) (r : Bool) :
    ofE ⟨t.ver, t.ins.set k (rekey x key), t.outs⟩ prev p d r = (if r = true then 0 else 13) ∧ (r = false → ofV ⟨t.ver, t.ins.set k (rekey x key), t.outs⟩ prev p d r = 0) := by
  have c0 : chE t p d = 0 := by
    unfold ofE at h
    by_cases c : chE t p d = 0
    · exact c
    · rw [if_pos c] at h
      exact absurd h c
  have c1 : prev.length = t.ins.length := by
    unfold ofE at h
    rw [if_neg (by simpa using c0)] at h
    by_cases c : prev.length = t.ins.length
    · exact c
    · rw [if_pos c] at h
      cases h
  have c2 : ¬ (sumE (valsO prev) ≠ 0 ∨ csumV (valsO prev) < csumV (valsO t.outs)) := by
    unfold ofE at h
    rw [if_neg (by simpa using c0), if_neg (by simpa using c1), if_neg (by decide)] at h
    intro c
    rw [if_pos c] at h
    cases h
  have c3 := rekey_check (k := k) (x := x) c0 hk
  constructor
  · unfold ofE
    rw [if_neg (by simpa using c3), if_neg (by simpa using c1)]
    cases r with
    | false => simp
    | true =>
      rw [if_neg (by decide), if_neg c2]
      rfl
  · rintro rfl
    unfold ofV
    exact if_neg fun c => by cases c.2.2.1

end Go.Proofs.YtbeegcpmpgdbnaaDoor
