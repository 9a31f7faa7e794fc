import Derived.Test.YtjmifgdjmaelfaaDoorTxP
import Derived.Test.YtjmifgdjmaelfaaDoorKit
/-
  Plain messages, with no word of the program: their shapes, what is put of them, what is read of a command and a body.
-/
namespace Go.Proofs.YtjmifgdjmaelfaaDoor

structure Mg where
  kind : Int
  n : Int
  code : Int
  ids : List (List Int)
  tx : Tr
def noMg : Mg := ⟨0, 0, 0, [], noTr⟩
def IdOk (l : List Int) : Prop := l.length = 32 ∧ AllB l
def MgOk (m : Mg) : Prop := (-9223372036854775808 ≤ m.kind ∧ m.kind < 9223372036854775808) ∧ (0 ≤ m.n ∧ m.n < 18446744073709551616) ∧ (0 ≤ m.code ∧ m.code < 4294967296) ∧ (∀ x ∈ m.ids, IdOk x) ∧ TrOk m.tx
structure Shp where
  cmd : ByteArray
  maxIds : Nat
  codeLen : Nat
  maxCode : Int
  nLen : Nat
  hasTx : Bool
/-- A kind's shape. -/
def shp (k : Int) : Shp :=
  if k = 1 then ⟨⟨#[118, 101, 114, 115, 105, 111, 110]⟩, 0, 4, 4294967295, 8, false⟩
  else if k = 2 then ⟨⟨#[118, 101, 114, 97, 99, 107]⟩, 0, 0, 0, 0, false⟩
  else if k = 3 then ⟨⟨#[112, 105, 110, 103]⟩, 0, 0, 0, 8, false⟩
  else if k = 4 then ⟨⟨#[112, 111, 110, 103]⟩, 0, 0, 0, 8, false⟩
  else if k = 5 then ⟨⟨#[105, 110, 118]⟩, 32, 0, 0, 0, false⟩
  else if k = 6 then ⟨⟨#[103, 101, 116, 100, 97, 116, 97]⟩, 32, 0, 0, 0, false⟩
  else if k = 7 then ⟨⟨#[110, 111, 116, 102, 111, 117, 110, 100]⟩, 32, 0, 0, 0, false⟩
  else if k = 8 then ⟨⟨#[116, 120]⟩, 0, 0, 0, 0, true⟩
  else if k = 9 then ⟨⟨#[115, 116, 101, 109, 116, 120]⟩, 0, 0, 0, 0, true⟩
  else if k = 10 then ⟨⟨#[114, 101, 106, 101, 99, 116]⟩, 1, 1, 255, 0, false⟩
  else if k = 11 then ⟨⟨#[115, 101, 110, 100, 115, 116, 101, 109]⟩, 0, 1, 1, 0, false⟩
  else ⟨⟨#[]⟩, 0, 0, 0, 0, false⟩
def isKind (k : Int) : Bool := decide (1 ≤ k) && decide (k ≤ 11)
def ShpOk (s : Shp) : Prop := (s.codeLen = 0 ∨ s.codeLen = 1 ∨ s.codeLen = 4) ∧ (s.nLen = 0 ∨ s.nLen = 8) ∧ s.maxIds ≤ 32 ∧ 0 ≤ s.maxCode ∧ s.maxCode < 256 ^ s.codeLen ∧ s.maxCode < 4294967296 ∧ s.cmd.size ≤ 12
theorem kinds {k : Int} (h : isKind k = true) : k = 1 ∨ k = 2 ∨ k = 3 ∨ k = 4 ∨ k = 5 ∨ k = 6 ∨ k = 7 ∨ k = 8 ∨ k = 9 ∨ k = 10 ∨ k = 11 := by
  simp [isKind] at h
  omega
theorem shp_no {k : Int} (h : isKind k = false) : shp k = ⟨⟨#[]⟩, 0, 0, 0, 0, false⟩ := by
  have h' : ¬ (1 ≤ k ∧ k ≤ 11) := by simpa [isKind] using h
  unfold shp
  repeat (rw [if_neg (by omega)])
theorem shp_ok (k : Int) : ShpOk (shp k) := by
  cases h : isKind k with
  | false => rw [shp_no h]; unfold ShpOk; decide
  | true => rcases kinds h with rfl | rfl | rfl | rfl | rfl | rfl | rfl | rfl | rfl | rfl | rfl <;> (unfold ShpOk; decide)
/-- A kind's shape: a transaction, ids with a count, or of fixed size. -/
theorem shp_class {k : Int} (h : isKind k = true) : ((shp k).hasTx = true ∧ (shp k).maxIds = 0 ∧ (shp k).codeLen = 0 ∧ (shp k).nLen = 0 ∧ (shp k).maxCode = 0) ∨
    ((shp k).hasTx = false ∧ (shp k).maxIds = 32 ∧ (shp k).codeLen = 0 ∧ (shp k).nLen = 0 ∧ (shp k).maxCode = 0) ∨ ((shp k).hasTx = false ∧ (shp k).maxIds ≤ 1) := by
  rcases kinds h with rfl | rfl | rfl | rfl | rfl | rfl | rfl | rfl | rfl | rfl | rfl <;> decide
/-- The kind that a command names. -/
def kindOf (c : ByteArray) : Int :=
  if strL c = strL (shp 1).cmd then 1 else if strL c = strL (shp 2).cmd then 2 else if strL c = strL (shp 3).cmd then 3 else if strL c = strL (shp 4).cmd then 4
  else if strL c = strL (shp 5).cmd then 5 else if strL c = strL (shp 6).cmd then 6 else if strL c = strL (shp 7).cmd then 7 else if strL c = strL (shp 8).cmd then 8
  else if strL c = strL (shp 9).cmd then 9 else if strL c = strL (shp 10).cmd then 10 else if strL c = strL (shp 11).cmd then 11 else 0
theorem kindOf_is {c : ByteArray} {k : Int} (hk : isKind k = true) (h : strL c = strL (shp k).cmd) : kindOf c = k := by
  unfold kindOf
  rw [h]
  rcases kinds hk with rfl | rfl | rfl | rfl | rfl | rfl | rfl | rfl | rfl | rfl | rfl <;> decide
theorem kindOf_no {c : ByteArray} (h : ∀ k, isKind k = true → strL c ≠ strL (shp k).cmd) : kindOf c = 0 := by
  unfold kindOf
  repeat (rw [if_neg (h _ (by decide))])
theorem kindOf_cmd {k : Int} (hk : isKind k = true) : kindOf (shp k).cmd = k := kindOf_is hk rfl
theorem kindOf_kind {c : ByteArray} (h : kindOf c ≠ 0) : isKind (kindOf c) = true ∧ c = (shp (kindOf c)).cmd := by
  by_cases hc : ∃ k, isKind k = true ∧ strL c = strL (shp k).cmd
  · obtain ⟨k, h1, h2⟩ := hc
    rw [kindOf_is h1 h2]
    exact ⟨h1, strL_inj h2⟩
  · exact absurd (kindOf_no fun k hk e => hc ⟨k, hk, e⟩) h
theorem kindOf_ways (c : ByteArray) : kindOf c = 0 ∨ isKind (kindOf c) = true := by
  by_cases h : kindOf c = 0
  · exact Or.inl h
  · exact Or.inr (kindOf_kind h).1
theorem kind_ne {k : Int} (h : isKind k = true) : k ≠ 0 := by rintro rfl; exact absurd h (by decide)

/-! What may not be of a message, its body. -/
def bareB (t : Tr) : Bool := decide (t.ver = 0) && decide (t.ins.length = 0) && decide (t.outs.length = 0)
theorem bareB_iff (t : Tr) : bareB t = true ↔ t = noTr := by
  obtain ⟨v, i, o⟩ := t
  simp [bareB, noTr, and_assoc]
def coversB (s : Shp) (m : Mg) : Bool :=
  !(decide (s.maxIds = 0) && decide (0 < m.ids.length)) && !(decide (s.codeLen = 0) && decide (m.code ≠ 0)) && !(decide (s.nLen = 0) && decide (m.n ≠ 0)) && (s.hasTx || bareB m.tx)
theorem coversB_iff (s : Shp) (m : Mg) : coversB s m = true ↔ (s.maxIds = 0 → m.ids = []) ∧ (s.codeLen = 0 → m.code = 0) ∧ (s.nLen = 0 → m.n = 0) ∧ (s.hasTx = false → m.tx = noTr) := by
  unfold coversB
  simp only [Bool.and_eq_true, Bool.or_eq_true, Bool.not_eq_true', Bool.and_eq_false_iff, decide_eq_false_iff_not, bareB_iff, List.length_pos_iff, ne_eq, Classical.not_not, and_assoc]
  refine and_congr ⟨fun h e => h.resolve_left (fun q => q e), fun h => ?_⟩ (and_congr ⟨fun h e => h.resolve_left (fun q => q e), fun h => ?_⟩ (and_congr ⟨fun h e => h.resolve_left (fun q => q e), fun h => ?_⟩ ?_))
  · by_cases e : s.maxIds = 0
    · exact Or.inr (h e)
    · exact Or.inl e
  · by_cases e : s.codeLen = 0
    · exact Or.inr (h e)
    · exact Or.inl e
  · by_cases e : s.nLen = 0
    · exact Or.inr (h e)
    · exact Or.inl e
  · cases s.hasTx <;> simp
def chkE (s : Shp) (m : Mg) : Int :=
  if coversB s m = false then 2 else if 0 < s.maxIds ∧ m.ids.length = 0 then 9 else if s.maxIds < m.ids.length then 5 else if s.maxCode < m.code then 3 else 0
theorem chkE_ok {s : Shp} {m : Mg} (h : chkE s m = 0) : coversB s m = true ∧ (0 < s.maxIds → 0 < m.ids.length) ∧ m.ids.length ≤ s.maxIds ∧ m.code ≤ s.maxCode := by
  unfold chkE at h
  split at h
  · cases h
  · rename_i h1
    split at h
    · cases h
    · rename_i h2
      split at h
      · cases h
      · rename_i h3
        split at h
        · cases h
        · rename_i h4
          exact ⟨by simpa using h1, fun hp => by omega, by omega, by omega⟩
theorem chkE_zero {s : Shp} {m : Mg} (h1 : coversB s m = true) (h2 : 0 < s.maxIds → 0 < m.ids.length) (h3 : m.ids.length ≤ s.maxIds) (h4 : m.code ≤ s.maxCode) : chkE s m = 0 := by
  unfold chkE
  rw [if_neg (by rw [h1]; decide), if_neg (by omega), if_neg (by omega), if_neg (by omega)]
def mbL (s : Shp) (m : Mg) : List Int :=
  if s.hasTx = true then ptL m.tx else (if 1 < s.maxIds then var (m.ids.length : Int) else []) ++ (m.ids.flatten ++ (put s.codeLen m.code ++ put s.nLen m.n))
def mbE (s : Shp) (m : Mg) : Int := if s.hasTx = true then ptE m.tx else 0
/-- What Put answers. -/
def mpE (m : Mg) : Int := if isKind m.kind = false then 2 else if chkE (shp m.kind) m ≠ 0 then chkE (shp m.kind) m else mbE (shp m.kind) m
def mpC (m : Mg) : ByteArray := if mpE m = 0 then (shp m.kind).cmd else ⟨#[]⟩
def mpB (m : Mg) : List Int := if mpE m = 0 then mbL (shp m.kind) m else []
theorem mpE_ok {m : Mg} (h : mpE m = 0) : isKind m.kind = true ∧ chkE (shp m.kind) m = 0 ∧ mbE (shp m.kind) m = 0 := by
  unfold mpE at h
  split at h
  · cases h
  · rename_i h1
    split at h
    · rename_i h2; exact absurd h h2
    · rename_i h2
      exact ⟨by simpa using h1, by simpa using h2, h⟩
theorem mpE_zero {m : Mg} (h1 : isKind m.kind = true) (h2 : chkE (shp m.kind) m = 0) (h3 : mbE (shp m.kind) m = 0) : mpE m = 0 := by
  unfold mpE
  rw [if_neg (by rw [h1]; decide), if_neg (by rw [h2]; decide), h3]

/-! Ids out of bytes. -/
def hsL (l : List Int) : List (List Int) := (List.range (l.length / 32)).map fun i => (l.drop (32 * i)).take 32
theorem hsL_length (l : List Int) : (hsL l).length = l.length / 32 := by simp [hsL]
theorem hsL_ok {l : List Int} (h : AllB l) : ∀ x ∈ hsL l, IdOk x := by
  intro x hx
  simp only [hsL, List.mem_map, List.mem_range] at hx
  obtain ⟨i, hi, rfl⟩ := hx
  have : 32 * (i + 1) ≤ l.length := by omega
  exact ⟨by simp; omega, (h.drop _).take _⟩
theorem hsL_cons {x l : List Int} (h : x.length = 32) : hsL (x ++ l) = x :: hsL l := by
  unfold hsL
  rw [List.length_append, h, show (32 + l.length) / 32 = l.length / 32 + 1 by omega, List.range_succ_eq_map, List.map_cons, List.map_map]
  congr 1
  · simp [h]
  · refine List.map_congr_left fun i _ => ?_
    show List.take 32 (List.drop (32 * (i + 1)) (x ++ l)) = List.take 32 (List.drop (32 * i) l)
    rw [List.drop_append, List.drop_eq_nil_of_le (by omega), List.nil_append, show 32 * (i + 1) - x.length = 32 * i by omega]
theorem hsL_nil : hsL [] = [] := rfl
theorem hsL_flat : ∀ (L : List (List Int)), (∀ x ∈ L, x.length = 32) → hsL L.flatten = L
  | [], _ => rfl
  | x :: L, h => by rw [List.flatten_cons, hsL_cons (h x (by simp)), hsL_flat L fun y hy => h y (by simp [hy])]
theorem flat_32 : ∀ (L : List (List Int)), (∀ x ∈ L, x.length = 32) → L.flatten.length = 32 * L.length
  | [], _ => rfl
  | x :: L, h => by rw [List.flatten_cons, List.length_append, h x (by simp), flat_32 L fun y hy => h y (by simp [hy]), List.length_cons]; omega
theorem hsL_back : ∀ (q : Nat) (l : List Int), l.length = 32 * q → (hsL l).flatten = l
  | 0, l, h => by
    obtain rfl : l = [] := List.length_eq_zero_iff.1 (by omega)
    rfl
  | q + 1, l, h => by
    have e : l = l.take 32 ++ l.drop 32 := (List.take_append_drop 32 l).symm
    have h1 : (l.take 32).length = 32 := by simp; omega
    have h2 := hsL_back q (l.drop 32) (by simp; omega)
    generalize l.take 32 = a at *
    generalize l.drop 32 = b at *
    rw [e, hsL_cons h1, List.flatten_cons, h2]

/-! What is read of a command and a body. -/
def sizedE (len n : Nat) : Int := if len < n then 4 else if n < len then 5 else 0
theorem sizedE_zero {len n : Nat} (h : sizedE len n = 0) : len = n := by
  unfold sizedE at h
  split at h
  · cases h
  · split at h
    · cases h
    · omega
theorem sizedE_same (n : Nat) : sizedE n n = 0 := by unfold sizedE; rw [if_neg (by omega), if_neg (by omega)]
theorem sizedE_less {len n : Nat} (h : len < n) : sizedE len n = 4 := if_pos h
theorem sizedE_more {len n : Nat} (h : n < len) : sizedE len n = 5 := by unfold sizedE; rw [if_neg (by omega), if_pos h]
def lsE (b : List Int) (most : Nat) : Int :=
  if readE b ≠ 0 then readE b else if readX b = 0 then 9 else if (most : Int) < readX b then 5 else sizedE (b.length - (readN b).toNat) ((readX b).toNat * 32)
def lsI (b : List Int) (most : Nat) : List (List Int) := if lsE b most = 0 then hsL (b.drop (readN b).toNat) else []
def fxN (s : Shp) : Nat := s.maxIds * 32 + s.codeLen + s.nLen
def fxC (s : Shp) (b : List Int) : Int := num ((b.drop (s.maxIds * 32)).take s.codeLen)
def fxE (s : Shp) (b : List Int) : Int := if sizedE b.length (fxN s) ≠ 0 then sizedE b.length (fxN s) else if s.maxCode < fxC s b then 6 else 0
def fxM (s : Shp) (b : List Int) : Mg := if fxE s b = 0 then ⟨0, num (b.drop (s.maxIds * 32 + s.codeLen)), fxC s b, hsL (b.take (s.maxIds * 32)), noTr⟩ else noMg
/-- What Get answers. -/
def mgE (c : ByteArray) (b : List Int) : Int :=
  if kindOf c = 0 then 8 else if (shp (kindOf c)).hasTx = true then whE b else if 1 < (shp (kindOf c)).maxIds then lsE b (shp (kindOf c)).maxIds else fxE (shp (kindOf c)) b
def mgM (c : ByteArray) (b : List Int) : Mg :=
  if mgE c b ≠ 0 then noMg else if (shp (kindOf c)).hasTx = true then ⟨kindOf c, 0, 0, [], whT b⟩ else if 1 < (shp (kindOf c)).maxIds then ⟨kindOf c, 0, 0, lsI b (shp (kindOf c)).maxIds, noTr⟩
  else ⟨kindOf c, (fxM (shp (kindOf c)) b).n, (fxM (shp (kindOf c)) b).code, (fxM (shp (kindOf c)) b).ids, noTr⟩
theorem mgM_bad {c : ByteArray} {b : List Int} (h : mgE c b ≠ 0) : mgM c b = noMg := if_pos h

end Go.Proofs.YtjmifgdjmaelfaaDoor

/-
  Plain messages: what is put is read, cut off it is too short, with a byte more too long; what is read has been put so. With no word of the program.
-/
namespace Go.Proofs.YtjmifgdjmaelfaaDoor

theorem pow4 : (256 : Int) ^ 4 = 4294967296 := by decide
theorem pow8 : (256 : Int) ^ 8 = 18446744073709551616 := by decide
theorem code_fits {s : Shp} (h : ShpOk s) {x : Int} (h1 : x ≤ s.maxCode) : x < 256 ^ s.codeLen := by have := h.2.2.2.2.1; omega
theorem num_fits {s : Shp} (h : ShpOk s) {x : Int} (h0 : s.nLen = 0 → x = 0) (h1 : x < 18446744073709551616) : x < 256 ^ s.nLen := by
  rcases h.2.1 with e | e
  · rw [h0 e, e]; decide
  · rw [e, pow8]; exact h1
/-- A transaction, whole. -/
theorem wh_put {t : Tr} (h : TrOk t) (hf : formB t = true) : whE (txB t) = 0 ∧ whT (txB t) = t := by
  obtain ⟨h1, h2, h3⟩ := get_put t h hf []
  rw [List.append_nil] at h1 h2 h3
  have e : whE (txB t) = 0 := by unfold whE; rw [if_neg (by rw [h1]; decide), h3, if_neg (by omega)]
  exact ⟨e, by unfold whT; rw [if_pos e, h2]⟩
theorem wh_long {t : Tr} (h : TrOk t) (hf : formB t = true) (x : Int) : whE (txB t ++ [x]) = 5 := by
  obtain ⟨h1, h2, h3⟩ := get_put t h hf [x]
  unfold whE
  rw [if_neg (by rw [h1]; decide), h3, if_pos (by simp only [List.length_append, List.length_singleton]; omega)]
theorem mb_tx {s : Shp} {m : Mg} (h : s.hasTx = true) : mbL s m = ptL m.tx ∧ mbE s m = ptE m.tx := ⟨if_pos h, if_pos h⟩
theorem mb_no {s : Shp} {m : Mg} (h : s.hasTx = false) : mbL s m = (if 1 < s.maxIds then var (m.ids.length : Int) else []) ++ (m.ids.flatten ++ (put s.codeLen m.code ++ put s.nLen m.n)) ∧ mbE s m = 0 := ⟨if_neg (by rw [h]; decide), if_neg (by rw [h]; decide)⟩
theorem ptE_form {t : Tr} (h : ptE t = 0) : formB t = true ∧ ptL t = txB t := by
  unfold ptE at h
  split at h
  · rename_i q; exact ⟨q, if_pos q⟩
  · cases h
theorem form_ptE {t : Tr} (h : formB t = true) : ptE t = 0 ∧ ptL t = txB t := ⟨if_pos h, if_pos h⟩
theorem put0 (x : Int) : put 0 x = [] := rfl
/-- The three kinds of a body. -/
inductive Body (m : Mg) (l : List Int) : Prop where
  | tx (h : (shp m.kind).hasTx = true) (hf : formB m.tx = true) (hn : m.n = 0) (hc : m.code = 0) (hi : m.ids = []) (hl : l = txB m.tx)
  | list (h : (shp m.kind).hasTx = false) (hm : (shp m.kind).maxIds = 32) (h0 : 0 < m.ids.length) (h32 : m.ids.length ≤ 32) (hn : m.n = 0) (hc : m.code = 0) (ht : m.tx = noTr) (hl : l = var (m.ids.length : Int) ++ m.ids.flatten)
  | fixed (h : (shp m.kind).hasTx = false) (hm : (shp m.kind).maxIds ≤ 1) (hi : m.ids.length = (shp m.kind).maxIds) (hc : m.code ≤ (shp m.kind).maxCode) (hn : (shp m.kind).nLen = 0 → m.n = 0) (ht : m.tx = noTr) (hl : l = m.ids.flatten ++ (put (shp m.kind).codeLen m.code ++ put (shp m.kind).nLen m.n))
theorem mp_body {m : Mg} (h : mpE m = 0) : isKind m.kind = true ∧ mpC m = (shp m.kind).cmd ∧ Body m (mpB m) := by
  obtain ⟨h1, h2, h3⟩ := mpE_ok h
  obtain ⟨c1, c2, c3, c4⟩ := chkE_ok h2
  obtain ⟨d1, d2, d3, d4⟩ := (coversB_iff _ _).1 c1
  have hb : mpB m = mbL (shp m.kind) m := if_pos h
  refine ⟨h1, if_pos h, ?_⟩
  rcases shp_class h1 with ⟨a1, a2, a3, a4, a5⟩ | ⟨a1, a2, a3, a4, a5⟩ | ⟨a1, a2⟩
  · rw [(mb_tx a1).2] at h3
    obtain ⟨f1, f2⟩ := ptE_form h3
    exact .tx a1 f1 (d3 a4) (d2 a3) (d1 a2) (by rw [hb, (mb_tx a1).1, f2])
  · refine .list a1 a2 (c2 (by omega)) (by omega) (d3 a4) (d2 a3) (d4 a1) ?_
    rw [hb, (mb_no a1).1, a2, a3, a4, put0, put0, if_pos (by omega), List.append_nil, List.append_nil]
  · refine .fixed a1 a2 ?_ c4 d3 (d4 a1) ?_
    · by_cases e : (shp m.kind).maxIds = 0
      · rw [e, d1 e]; rfl
      · have := c2 (by omega); omega
    · rw [hb, (mb_no a1).1, if_neg (by omega), List.nil_append]
theorem mg_tx {k : Int} (hk : isKind k = true) (h : (shp k).hasTx = true) (b : List Int) : mgE (shp k).cmd b = whE b ∧ mgM (shp k).cmd b = if whE b = 0 then ⟨k, 0, 0, [], whT b⟩ else noMg := by
  have e := kindOf_cmd hk
  have e1 : mgE (shp k).cmd b = whE b := by unfold mgE; rw [e, if_neg (kind_ne hk), if_pos h]
  refine ⟨e1, ?_⟩
  unfold mgM
  rw [e1, e]
  by_cases q : whE b = 0
  · rw [if_neg (by simp [q]), if_pos h, if_pos q]
  · rw [if_pos q, if_neg q]
theorem mg_list {k : Int} (hk : isKind k = true) (h : (shp k).hasTx = false) (hm : (shp k).maxIds = 32) (b : List Int) : mgE (shp k).cmd b = lsE b 32 ∧ mgM (shp k).cmd b = if lsE b 32 = 0 then ⟨k, 0, 0, lsI b 32, noTr⟩ else noMg := by
  have e := kindOf_cmd hk
  have e1 : mgE (shp k).cmd b = lsE b 32 := by unfold mgE; rw [e, if_neg (kind_ne hk), if_neg (by rw [h]; decide), hm, if_pos (by omega)]
  refine ⟨e1, ?_⟩
  unfold mgM
  rw [e1, e]
  by_cases q : lsE b 32 = 0
  · rw [if_neg (by simp [q]), if_neg (by rw [h]; decide), hm, if_pos (by omega), if_pos q]
  · rw [if_pos q, if_neg q]
theorem mg_fixed {k : Int} (hk : isKind k = true) (h : (shp k).hasTx = false) (hm : (shp k).maxIds ≤ 1) (b : List Int) : mgE (shp k).cmd b = fxE (shp k) b ∧
    mgM (shp k).cmd b = if fxE (shp k) b = 0 then ⟨k, num (b.drop ((shp k).maxIds * 32 + (shp k).codeLen)), fxC (shp k) b, hsL (b.take ((shp k).maxIds * 32)), noTr⟩ else noMg := by
  have e := kindOf_cmd hk
  have e1 : mgE (shp k).cmd b = fxE (shp k) b := by unfold mgE; rw [e, if_neg (kind_ne hk), if_neg (by rw [h]; decide), if_neg (by omega)]
  refine ⟨e1, ?_⟩
  unfold mgM
  rw [e1, e]
  by_cases q : fxE (shp k) b = 0
  · rw [if_neg (by simp [q]), if_neg (by rw [h]; decide), if_neg (by omega), if_pos q]
    unfold fxM
    rw [if_pos q]
  · rw [if_pos q, if_neg q]
/-- A counted list, with anything behind it. -/
theorem ls_put (L : List (List Int)) (_ : ∀ x ∈ L, x.length = 32) (h0 : 0 < L.length) (h32 : L.length ≤ 32) (r : List Int) :
    readE (var (L.length : Int) ++ r) = 0 ∧ readX (var (L.length : Int) ++ r) = L.length ∧ readN (var (L.length : Int) ++ r) = 1 ∧ (var (L.length : Int)).length = 1 := by
  obtain ⟨h1, h2, h3⟩ := read_var (L.length : Int) (by omega) (by omega) r
  have hv : var (L.length : Int) = [(L.length : Int)] := by unfold var; rw [if_pos (by omega)]
  refine ⟨h3, h1, ?_, by rw [hv]; rfl⟩
  rw [h2, hv]; rfl
theorem ls_way {b : List Int} {X : Int} (h1 : readE b = 0) (h2 : readX b = X) (h3 : readN b = 1) (h0 : 0 < X) (h32 : X ≤ 32) : lsE b 32 = sizedE (b.length - 1) (X.toNat * 32) := by
  unfold lsE
  rw [if_neg (by rw [h1]; decide), h2, if_neg (by omega), if_neg (by omega), h3]
  rfl
/-- The parts of a body of fixed size. -/
theorem fx_parts {s : Shp} {x c n : List Int} (hx : x.length = s.maxIds * 32) (hc : c.length = s.codeLen) (hn : n.length = s.nLen) :
    (x ++ (c ++ n)).length = fxN s ∧ (x ++ (c ++ n)).take (s.maxIds * 32) = x ∧ fxC s (x ++ (c ++ n)) = num c ∧ (x ++ (c ++ n)).drop (s.maxIds * 32 + s.codeLen) = n := by
  refine ⟨by simp [fxN]; omega, ?_, ?_, ?_⟩
  · rw [← hx]; simp
  · unfold fxC
    rw [← hx, List.drop_left, ← hc, List.take_left]
  · rw [← hx, ← hc, List.drop_append, List.drop_eq_nil_of_le (by omega), List.nil_append, show x.length + c.length - x.length = c.length by omega, List.drop_left]
/-- What is put is read. -/
theorem mg_put (m : Mg) (hok : MgOk m) (h : mpE m = 0) : mgE (mpC m) (mpB m) = 0 ∧ mgM (mpC m) (mpB m) = m := by
  obtain ⟨h1, h2, hb⟩ := mp_body h
  obtain ⟨-, hn, hc, hi, ht⟩ := hok
  generalize mpB m = l at *
  rw [h2]
  obtain ⟨k, n, c, ids, t⟩ := m
  simp only at *
  cases hb with
  | tx a1 a2 a3 a4 a5 a6 =>
    simp only at *
    subst a3 a4 a5 a6
    obtain ⟨e1, e2⟩ := mg_tx h1 a1 (txB t)
    obtain ⟨w1, w2⟩ := wh_put ht a2
    rw [e1, e2, w1, if_pos rfl, w2]
    exact ⟨rfl, rfl⟩
  | list a1 a2 a3 a4 a5 a6 a7 a8 =>
    simp only at *
    subst a5 a6 a7
    rw [a8]
    clear a8
    obtain ⟨r1, r2, r3, r4⟩ := ls_put ids (fun x hx => (hi x hx).1) a3 a4 ids.flatten
    have hl : lsE (var (ids.length : Int) ++ ids.flatten) 32 = 0 := by
      rw [ls_way r1 r2 r3 (by omega) (by omega), List.length_append, r4, flat_32 ids (fun x hx => (hi x hx).1), show 1 + 32 * ids.length - 1 = ((ids.length : Int).toNat) * 32 by omega]
      exact sizedE_same _
    obtain ⟨e1, e2⟩ := mg_list h1 a1 a2 (var (ids.length : Int) ++ ids.flatten)
    rw [e1, e2, hl, if_pos rfl]
    refine ⟨rfl, ?_⟩
    unfold lsI
    rw [if_pos hl, r3, show (1 : Int).toNat = 1 from rfl, ← r4, List.drop_left, hsL_flat ids fun x hx => (hi x hx).1]
  | fixed a1 a2 a3 a4 a5 a6 a7 =>
    simp only at *
    subst a6 a7
    have so := shp_ok k
    obtain ⟨p1, p2, p3, p4⟩ := fx_parts (s := shp k) (x := ids.flatten) (c := put (shp k).codeLen c) (n := put (shp k).nLen n) (by rw [flat_32 ids fun x hx => (hi x hx).1, a3, Nat.mul_comm]) (put_length _ _) (put_length _ _)
    obtain ⟨e1, e2⟩ := mg_fixed h1 a1 a2 (ids.flatten ++ (put (shp k).codeLen c ++ put (shp k).nLen n))
    have hcn : num (put (shp k).codeLen c) = c := num_put _ _ hc.1 (code_fits so a4)
    have hnn : num (put (shp k).nLen n) = n := num_put _ _ hn.1 (num_fits so a5 hn.2)
    have hf : fxE (shp k) (ids.flatten ++ (put (shp k).codeLen c ++ put (shp k).nLen n)) = 0 := by
      unfold fxE
      rw [p1, sizedE_same, if_neg (by decide), p3, hcn, if_neg (by omega)]
    rw [e1, e2, hf, if_pos rfl, p2, p3, p4, hcn, hnn, hsL_flat ids fun x hx => (hi x hx).1]
    exact ⟨rfl, rfl⟩
/-- With a byte more it is too long. -/
theorem mg_long (m : Mg) (hok : MgOk m) (h : mpE m = 0) (y : Int) : mgE (mpC m) (mpB m ++ [y]) = 5 := by
  obtain ⟨h1, h2, hb⟩ := mp_body h
  obtain ⟨-, hn, hc, hi, ht⟩ := hok
  generalize mpB m = l at *
  rw [h2]
  obtain ⟨k, n, c, ids, t⟩ := m
  simp only at *
  cases hb with
  | tx a1 a2 a3 a4 a5 a6 =>
    simp only at *
    subst a6
    rw [(mg_tx h1 a1 _).1]
    exact wh_long ht a2 y
  | list a1 a2 a3 a4 a5 a6 a7 a8 =>
    simp only at *
    rw [a8]
    obtain ⟨r1, r2, r3, r4⟩ := ls_put ids (fun x hx => (hi x hx).1) a3 a4 (ids.flatten ++ [y])
    rw [(mg_list h1 a1 a2 _).1, List.append_assoc, ls_way r1 r2 r3 (by omega) (by omega)]
    refine sizedE_more ?_
    rw [List.length_append, r4, List.length_append, flat_32 ids (fun x hx => (hi x hx).1)]
    simp
    omega
  | fixed a1 a2 a3 a4 a5 a6 a7 =>
    simp only at *
    subst a7
    obtain ⟨p1, p2, p3, p4⟩ := fx_parts (s := shp k) (x := ids.flatten) (c := put (shp k).codeLen c) (n := put (shp k).nLen n) (by rw [flat_32 ids fun x hx => (hi x hx).1, a3, Nat.mul_comm]) (put_length _ _) (put_length _ _)
    rw [(mg_fixed h1 a1 a2 _).1]
    unfold fxE
    have : sizedE ((ids.flatten ++ (put (shp k).codeLen c ++ put (shp k).nLen n)) ++ [y]).length (fxN (shp k)) = 5 := sizedE_more (by rw [List.length_append, p1]; simp)
    rw [this, if_pos (by decide)]
/-- Cut off it is too short. -/
theorem mg_cut (m : Mg) (hok : MgOk m) (h : mpE m = 0) (j : Nat) (hj : j < (mpB m).length) : mgE (mpC m) ((mpB m).take j) = 4 := by
  obtain ⟨h1, h2, hb⟩ := mp_body h
  obtain ⟨-, hn, hc, hi, ht⟩ := hok
  generalize mpB m = l at *
  rw [h2]
  obtain ⟨k, n, c, ids, t⟩ := m
  simp only at *
  cases hb with
  | tx a1 a2 a3 a4 a5 a6 =>
    simp only at *
    subst a6
    rw [(mg_tx h1 a1 _).1]
    exact (get_cut t ht a2 j hj).2.1
  | list a1 a2 a3 a4 a5 a6 a7 a8 =>
    simp only at *
    rw [a8] at hj ⊢
    clear a8
    rw [(mg_list h1 a1 a2 _).1]
    rcases Nat.eq_zero_or_pos j with rfl | hp
    · rw [List.take_zero]
      unfold lsE
      have e : readE [] = 4 := by decide
      rw [if_pos (by rw [e]; decide), e]
    · obtain ⟨r1, r2, r3, r4⟩ := ls_put ids (fun x hx => (hi x hx).1) a3 a4 (ids.flatten.take (j - 1))
      have e : (var (ids.length : Int) ++ ids.flatten).take j = var (ids.length : Int) ++ ids.flatten.take (j - 1) := by
        rw [List.take_append, r4, List.take_of_length_le (by omega)]
      rw [List.length_append, r4] at hj
      rw [e, ls_way r1 r2 r3 (by omega) (by omega)]
      have hf := flat_32 ids (fun x hx => (hi x hx).1)
      refine sizedE_less ?_
      rw [List.length_append, r4, List.length_take]
      omega
  | fixed a1 a2 a3 a4 a5 a6 a7 =>
    simp only at *
    subst a7
    obtain ⟨p1, p2, p3, p4⟩ := fx_parts (s := shp k) (x := ids.flatten) (c := put (shp k).codeLen c) (n := put (shp k).nLen n) (by rw [flat_32 ids fun x hx => (hi x hx).1, a3, Nat.mul_comm]) (put_length _ _) (put_length _ _)
    rw [(mg_fixed h1 a1 a2 _).1]
    unfold fxE
    have : sizedE ((ids.flatten ++ (put (shp k).codeLen c ++ put (shp k).nLen n)).take j).length (fxN (shp k)) = 4 := sizedE_less (by rw [List.length_take]; omega)
    rw [this, if_pos (by decide)]
/-- A body's bytes and how many there may be. -/
theorem mpB_all (m : Mg) (hok : MgOk m) (h : mpE m = 0) : AllB (mpB m) ∧ (mpB m).length ≤ 2000 ∧ ((mpB m).length = 0 → m.kind = 2) := by
  obtain ⟨h1, h2, hb⟩ := mp_body h
  obtain ⟨-, hn, hc, hi, ht⟩ := hok
  generalize mpB m = l at *
  obtain ⟨k, n, c, ids, t⟩ := m
  simp only at *
  have hfl : AllB ids.flatten := fun z hz => by
    obtain ⟨x, hx, hzx⟩ := List.mem_flatten.1 hz
    exact (hi x hx).2 z hzx
  have hf := flat_32 ids (fun x hx => (hi x hx).1)
  cases hb with
  | tx a1 a2 a3 a4 a5 a6 =>
    simp only at *
    subst a6
    have := txB_ge t
    exact ⟨txB_all ht, txB_le t ht a2, fun e => by omega⟩
  | list a1 a2 a3 a4 a5 a6 a7 a8 =>
    simp only at *
    rw [a8]
    obtain ⟨r1, r2, r3, r4⟩ := ls_put ids (fun x hx => (hi x hx).1) a3 a4 []
    refine ⟨AllB.append (var_byte _ (by omega)) hfl, ?_, fun e => ?_⟩
    · rw [List.length_append, r4]; omega
    · rw [List.length_append, r4] at e; omega
  | fixed a1 a2 a3 a4 a5 a6 a7 =>
    simp only at *
    subst a7
    obtain ⟨p1, p2, p3, p4⟩ := fx_parts (s := shp k) (x := ids.flatten) (c := put (shp k).codeLen c) (n := put (shp k).nLen n) (by rw [hf, a3, Nat.mul_comm]) (put_length _ _) (put_length _ _)
    refine ⟨AllB.append hfl (AllB.append (put_byte _ _) (put_byte _ _)), ?_, fun e => ?_⟩
    · rw [p1]
      have so := shp_ok k
      unfold fxN
      rcases so.1 with e | e | e <;> rcases so.2.1 with e' | e' <;> rw [e, e'] <;> omega
    · rw [p1] at e
      clear p1 p2 p3 p4 a5 a4 a3 hc hn
      rcases kinds h1 with rfl | rfl | rfl | rfl | rfl | rfl | rfl | rfl | rfl | rfl | rfl <;> first | rfl | (exact absurd e (by decide)) | (exact absurd a1 (by decide))
/-- What is read is a message. -/
theorem mgM_ok (c : ByteArray) (b : List Int) (hb : AllB b) : MgOk (mgM c b) := by
  have hno : MgOk noMg := ⟨⟨by decide, by decide⟩, ⟨by decide, by decide⟩, ⟨by decide, by decide⟩, fun _ h => (by cases h), ⟨⟨by decide, by decide⟩, fun _ h => (by cases h), fun _ h => by cases h⟩⟩
  have htn : TrOk noTr := hno.2.2.2.2
  by_cases h0 : kindOf c = 0
  · rw [mgM_bad (by unfold mgE; rw [if_pos h0]; decide)]
    exact hno
  · obtain ⟨hk, he⟩ := kindOf_kind h0
    generalize kindOf c = k at *
    subst he
    have hkr : -9223372036854775808 ≤ k ∧ k < 9223372036854775808 := by rcases kinds hk with rfl | rfl | rfl | rfl | rfl | rfl | rfl | rfl | rfl | rfl | rfl <;> decide
    rcases shp_class hk with ⟨a1, -⟩ | ⟨a1, a2, -⟩ | ⟨a1, a2⟩
    · rw [(mg_tx hk a1 b).2]
      split
      · refine ⟨hkr, ⟨Int.le_refl 0, by show (0 : Int) < _; decide⟩, ⟨Int.le_refl 0, by show (0 : Int) < _; decide⟩, fun _ h => (by cases h), ?_⟩
        show TrOk (whT b)
        by_cases q1 : whE b = 0
        · by_cases q2 : gtE b = 0
          · have e : whT b = (txS (b, 0)).1 := by unfold whT gtT; rw [if_pos q1, if_pos q2]
            rw [e]
            exact (txS_all (s := (b, 0)) hb).1
          · have e : whT b = noTr := by unfold whT gtT; rw [if_pos q1, if_neg q2]
            rw [e]
            exact htn
        · have e : whT b = noTr := by unfold whT; rw [if_neg q1]
          rw [e]
          exact htn
      · exact hno
    · rw [(mg_list hk a1 a2 b).2]
      split
      · refine ⟨hkr, ⟨Int.le_refl 0, by show (0 : Int) < _; decide⟩, ⟨Int.le_refl 0, by show (0 : Int) < _; decide⟩, fun x hx => ?_, htn⟩
        replace hx : x ∈ lsI b 32 := hx
        by_cases q : lsE b 32 = 0
        · have e : lsI b 32 = hsL (b.drop (readN b).toNat) := by unfold lsI; rw [if_pos q]
          rw [e] at hx
          exact hsL_ok (hb.drop _) x hx
        · have e : lsI b 32 = [] := by unfold lsI; rw [if_neg q]
          rw [e] at hx
          cases hx
      · exact hno
    · rw [(mg_fixed hk a1 a2 b).2]
      split
      · rename_i hf
        have so := shp_ok k
        have hsz : b.length = fxN (shp k) := by
          unfold fxE at hf
          split at hf
          · rename_i q; exact absurd hf q
          · rename_i q; exact sizedE_zero (by simpa using q)
        have hcl : ((b.drop ((shp k).maxIds * 32)).take (shp k).codeLen).length ≤ 4 := by
          rw [List.length_take]
          have := so.1
          omega
        have hnl : (b.drop ((shp k).maxIds * 32 + (shp k).codeLen)).length ≤ 8 := by
          rw [List.length_drop, hsz]
          have := so.2.1
          unfold fxN
          omega
        exact ⟨hkr, num_u64 (hb.drop _) hnl, num_u32 ((hb.drop _).take _) hcl, hsL_ok (hb.take _), htn⟩
      · exact hno

end Go.Proofs.YtjmifgdjmaelfaaDoor

/-
  Plain messages: what is read has been put so; other kinds, other fields. With no word of the program.
-/
namespace Go.Proofs.YtjmifgdjmaelfaaDoor

theorem wh_ok {b : List Int} (hb : AllB b) (h : whE b = 0) : txB (whT b) = b ∧ TrOk (whT b) ∧ formB (whT b) = true := by
  have h' := h
  unfold whE at h
  split at h
  · rename_i q; exact absurd h q
  · rename_i q
    have hg : gtE b = 0 := by simpa using q
    split at h
    · cases h
    · rename_i q2
      obtain ⟨n, g1, g2, g3, g4, g5⟩ := get_ok hb hg
      have e : whT b = gtT b := by unfold whT; rw [if_pos h']
      rw [g1] at q2
      rw [e, g3, List.take_of_length_le (by omega)]
      exact ⟨rfl, g4, g5⟩
/-- What is read has been put so. -/
theorem mg_one (c : ByteArray) (b : List Int) (hb : AllB b) (h : mgE c b = 0) : mpE (mgM c b) = 0 ∧ mpC (mgM c b) = c ∧ mpB (mgM c b) = b := by
  have hk0 : kindOf c ≠ 0 := fun e => by
    have : mgE c b = 8 := by unfold mgE; rw [if_pos e]
    rw [this] at h
    cases h
  obtain ⟨hk, he⟩ := kindOf_kind hk0
  generalize kindOf c = k at *
  subst he
  have fin : ∀ m : Mg, m.kind = k → chkE (shp k) m = 0 → mbE (shp k) m = 0 → mbL (shp k) m = b → mpE m = 0 ∧ mpC m = (shp k).cmd ∧ mpB m = b := by
    rintro m rfl h1 h2 h3
    have e := mpE_zero hk h1 h2
    exact ⟨e, if_pos e, by rw [← h3]; exact if_pos e⟩
  rcases shp_class hk with ⟨a1, a2, a3, a4, a5⟩ | ⟨a1, a2, a3, a4, a5⟩ | ⟨a1, a2⟩
  · obtain ⟨e1, e2⟩ := mg_tx hk a1 b
    rw [e1] at h
    rw [e2, if_pos h]
    obtain ⟨t1, t2, t3⟩ := wh_ok hb h
    refine fin _ rfl (chkE_zero ((coversB_iff _ _).2 ⟨fun _ => rfl, fun _ => rfl, fun _ => rfl, fun h => ?_⟩) (fun h => ?_) ?_ ?_) ?_ ?_
    · rw [a1] at h; cases h
    · omega
    · exact Nat.zero_le _
    · rw [a5]; exact Int.le_refl 0
    · rw [(mb_tx a1).2]; exact (form_ptE t3).1
    · rw [(mb_tx a1).1, (form_ptE t3).2]; exact t1
  · obtain ⟨e1, e2⟩ := mg_list hk a1 a2 b
    rw [e1] at h
    rw [e2, if_pos h]
    have h' := h
    unfold lsE at h
    split at h
    · rename_i q; exact absurd h q
    · rename_i q1
      split at h
      · cases h
      · rename_i q2
        split at h
        · cases h
        · rename_i q3
          obtain ⟨n, r1, r2, r3, r4, r5, r6, r7⟩ := read_ok b hb (by simpa using q1)
          have hz := sizedE_zero h
          have hi : lsI b 32 = hsL (b.drop n) := by unfold lsI; rw [if_pos h', r1]; rfl
          rw [r1] at hz
          have hdl : (b.drop n).length = 32 * (readX b).toNat := by
            rw [List.length_drop]
            simp only [Int.toNat_natCast] at hz
            omega
          have hlen : (hsL (b.drop n)).length = (readX b).toNat := by rw [hsL_length, hdl]; omega
          refine fin _ rfl (chkE_zero ((coversB_iff _ _).2 ⟨fun h => ?_, fun _ => rfl, fun _ => rfl, fun _ => rfl⟩) (fun _ => ?_) ?_ ?_) (mb_no a1).2 ?_
          · rw [a2] at h; cases h
          · show 0 < (lsI b 32).length
            rw [hi, hlen]; omega
          · show (lsI b 32).length ≤ _
            rw [hi, hlen, a2]
            have : readX b ≤ 32 := by simpa using q3
            omega
          · rw [a5]; exact Int.le_refl 0
          · rw [(mb_no a1).1, a2, a3, a4, put0, if_pos (by omega), List.append_nil, List.append_nil]
            show var ((lsI b 32).length : Int) ++ (lsI b 32).flatten = b
            rw [hi, hlen, hsL_back _ _ hdl, Int.toNat_of_nonneg r6, r5]
            exact List.take_append_drop n b
  · obtain ⟨e1, e2⟩ := mg_fixed hk a1 a2 b
    rw [e1] at h
    rw [e2, if_pos h]
    have so := shp_ok k
    unfold fxE at h
    split at h
    · rename_i q; exact absurd h q
    · rename_i q1
      split at h
      · cases h
      · rename_i q2
        have hsz := sizedE_zero (show sizedE b.length (fxN (shp k)) = 0 by simpa using q1)
        unfold fxN at hsz
        have l1 : (b.take ((shp k).maxIds * 32)).length = 32 * (shp k).maxIds := by rw [List.length_take]; omega
        have l2 : ((b.drop ((shp k).maxIds * 32)).take (shp k).codeLen).length = (shp k).codeLen := by rw [List.length_take, List.length_drop]; omega
        have l3 : (b.drop ((shp k).maxIds * 32 + (shp k).codeLen)).length = (shp k).nLen := by rw [List.length_drop]; omega
        have hids : (hsL (b.take ((shp k).maxIds * 32))).length = (shp k).maxIds := by rw [hsL_length, l1]; omega
        refine fin _ rfl (chkE_zero ((coversB_iff _ _).2 ⟨fun h => ?_, fun h => ?_, fun h => ?_, fun _ => rfl⟩) (fun h => ?_) ?_ ?_) (mb_no a1).2 ?_
        · exact List.length_eq_zero_iff.1 (by rw [hids, h])
        · show fxC (shp k) b = 0
          unfold fxC
          rw [List.length_eq_zero_iff.1 (l2.trans h)]
          rfl
        · show num (b.drop ((shp k).maxIds * 32 + (shp k).codeLen)) = 0
          rw [List.length_eq_zero_iff.1 (l3.trans h)]
          rfl
        · show 0 < (hsL (b.take ((shp k).maxIds * 32))).length
          rw [hids]; exact h
        · show (hsL (b.take ((shp k).maxIds * 32))).length ≤ _
          rw [hids]
          exact Nat.le_refl _
        · show fxC (shp k) b ≤ _
          omega
        · rw [(mb_no a1).1, if_neg (by omega), List.nil_append]
          show (hsL (b.take ((shp k).maxIds * 32))).flatten ++ (put (shp k).codeLen (fxC (shp k) b) ++ put (shp k).nLen (num (b.drop ((shp k).maxIds * 32 + (shp k).codeLen)))) = b
          rw [hsL_back _ _ l1]
          have p1 := put_num _ ((hb.drop ((shp k).maxIds * 32)).take (shp k).codeLen)
          have p2 := put_num _ (hb.drop ((shp k).maxIds * 32 + (shp k).codeLen))
          rw [l2] at p1
          rw [l3] at p2
          unfold fxC
          rw [p1, p2, ← List.drop_drop]
          rw [List.take_append_drop, List.take_append_drop]

end Go.Proofs.YtjmifgdjmaelfaaDoor
