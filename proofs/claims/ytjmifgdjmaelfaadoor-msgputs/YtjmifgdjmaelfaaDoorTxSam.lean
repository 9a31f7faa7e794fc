import Derived.Test.YtjmifgdjmaelfaaDoorTxEql
import Derived.Test.YtjmifgdjmaelfaaDoorTxForm
import Derived.Test.YtjmifgdjmaelfaaDoorTxWr
import Derived.Test.YtjmifgdjmaelfaaDoorBytEq
import Derived.Test.YtjmifgdjmaelfaaDoorTxInC
import Derived.Test.YtjmifgdjmaelfaaDoorTxBox
/-
  What tx.Same answers at this program, of any two transactions.
-/
namespace Go.Proofs.YtjmifgdjmaelfaaDoor
open Go.RowKit

def inEq (x y : TIn) : Bool := (decide (x.tx = y.tx) && decide (x.n = y.n)) && decide (x.key = y.key)
theorem inEq_iff (x y : TIn) : inEq x y = true ↔ x = y := by
  obtain ⟨a, b, c⟩ := x
  obtain ⟨a', b', c'⟩ := y
  simp [inEq, and_assoc]
def outEq (x y : TOut) : Bool := decide (x.val = y.val) && decide (x.lock = y.lock)
theorem outEq_iff (x y : TOut) : outEq x y = true ↔ x = y := by
  obtain ⟨a, b⟩ := x
  obtain ⟨a', b'⟩ := y
  simp [outEq]

set_option maxRecDepth 100000 in
set_option maxHeartbeats 1000000 in
theorem tsamein_any (x y : TIn) (kv kv' : Value) (w : World) (hx : InOk x) (hy : InOk y) (hk : Bytes w kv x.key) (hk' : Bytes w kv' y.key) :
    Calls Tryd.prog 85 #[.agg (inC (x, kv)).toArray, .agg (inC (y, kv')).toArray] w fun e w' => e = .returned (.bool (inEq x y)) ∧ Below w.heap.size w w' := by
  have b1 := below_on (show Below w.heap.size w (w.alloc (.cells (inC (x, kv)).toArray 64)) from (Below.refl _ _).alloc (Nat.le_refl _) _) (show Below _ _ ((w.alloc (.cells (inC (x, kv)).toArray 64)).alloc (.cells (inC (y, kv')).toArray 64)) from (Below.refl _ _).alloc (Nat.le_refl _) _)
  have r1 := range_on (range_new w (inC (x, kv)) 64) (show Below _ _ ((w.alloc (.cells (inC (x, kv)).toArray 64)).alloc (.cells (inC (y, kv')).toArray 64)) from (Below.refl _ _).alloc (Nat.le_refl _) _)
  have r2 := range_new (w.alloc (.cells (inC (x, kv)).toArray 64)) (inC (y, kv')) 64
  rw [alloc_size] at r2
  obtain ⟨p1, c1⟩ := inC_range r1 hx.1
  obtain ⟨p2, c2⟩ := inC_range r2 hy.1
  simp only [Nat.zero_add] at p1 c1 p2 c2
  have EQ := hide (equal_any x.key y.key kv kv' _ (hk.below b1) (hk'.below b1) hx.2.2.2 hy.2.2.2)
  have hEQ := eql_pt x.tx y.tx x.n y.n hx.1 hy.1
  have HLP : Hid ((Tryd.prog.info? 45).map (·.size) = some (ptC x.tx x.n).length) := hide (by rw [ptC_length _ hx.1]; exact info_pt)
  have HLQ : Hid ((Tryd.prog.info? 45).map (·.size) = some (ptC y.tx y.n).length) := hide (by rw [ptC_length _ hy.1]; exact info_pt)
  have HP1 := hide p1
  have HP2 := hide p2
  have HB := hide b1
  unfold inEq
  obtain ⟨a, c, rfl, -, -⟩ := hk.form
  obtain ⟨a', c', rfl, -, -⟩ := hk'.form
  clear r1 r2 p1 p2 b1 hx hy hk hk'
  generalize (decide (x.tx = y.tx) && decide (x.n = y.n)) = d1 at *
  generalize decide (x.key = y.key) = d2 at *
  generalize x.key.length = kl at *
  generalize y.key.length = kl' at *
  generalize ptC x.tx x.n = P1 at *
  generalize ptC y.tx y.n = P2 at *
  go_enter Tryd.func85, Tryd.ntmps85
  go_upto_region 1 with fail
  generalize (w.alloc (.cells (inC (x, .slice a kl c)).toArray 64)).alloc (.cells (inC (y, .slice a' kl' c')).toArray 64) = W at *
  generalize hg : w.heap.size = g at *
  have HG := hide hg
  clear hg
  cases d1 with
  | true =>
    go_wp2_with (first | (refine wpList_load_mid rfl 45 (.tmp 5) rfl g 0 rfl P1 _ HP1.out Tryd.underlying45 rfl HLP.out ?_) | (refine wpList_load_mid rfl 45 (.tmp 7) rfl (g + 1) 0 rfl P2 _ HP2.out Tryd.underlying45 rfl HLQ.out ?_))
    refine EQ.out.mono ?_
    rintro e w1 ⟨rfl, rfl⟩
    go_wp2
    go_ret
    rw [HG.out]
    exact ⟨by simp, HB.out⟩
  | false =>
    go_wp2_with (first | (refine wpList_load_mid rfl 45 (.tmp 5) rfl g 0 rfl P1 _ HP1.out Tryd.underlying45 rfl HLP.out ?_) | (refine wpList_load_mid rfl 45 (.tmp 7) rfl (g + 1) 0 rfl P2 _ HP2.out Tryd.underlying45 rfl HLQ.out ?_))
    go_ret
    rw [HG.out]
    exact ⟨by simp, HB.out⟩

end Go.Proofs.YtjmifgdjmaelfaaDoor

/-
  What slices.EqualFunc over inputs, slices.Equal over outputs and tx.Same answer at this program.
-/
namespace Go.Proofs.YtjmifgdjmaelfaaDoor
open Go.RowKit

/-- So far they are the same. -/
def Eqing {α : Type} (w : World) (L M : List α) (i : Value) (wr : World) : Prop := ∃ k : Nat, k ≤ L.length ∧ i = .int .i64 k ∧ L.take k = M.take k ∧ Below w.heap.size w wr
theorem take_more {α : Type} {L M : List α} {k : Nat} {x y : α} (h : L.take k = M.take k) (hx : L[k]? = some x) (hy : M[k]? = some y) (e : x = y) : L.take (k + 1) = M.take (k + 1) := by
  obtain ⟨h1, h2⟩ := List.getElem?_eq_some_iff.1 hx
  obtain ⟨h3, h4⟩ := List.getElem?_eq_some_iff.1 hy
  rw [List.take_succ_eq_append_getElem h1, List.take_succ_eq_append_getElem h3, h, h2, h4, e]
theorem ne_at {α : Type} {L M : List α} {k : Nat} {x y : α} (hx : L[k]? = some x) (hy : M[k]? = some y) (e : x ≠ y) : L ≠ M := fun h => by
  subst h
  rw [hx] at hy
  exact e (by simpa using hy)
theorem bool_of {b : Bool} {p : Prop} (h : b = true ↔ p) : (p → b = true) ∧ (¬ p → b = false) := ⟨h.2, fun hp => by cases b; rfl; exact absurd (h.1 rfl) hp⟩

set_option maxRecDepth 100000 in
set_option maxHeartbeats 2000000 in
theorem eqfunc_any (L M : List TIn) (iv iv' : Value) (w : World) (h : InsAt w iv L) (h' : InsAt w iv' M) (hL : ∀ x ∈ L, InOk x) (hM : ∀ x ∈ M, InOk x) (r : Bool) (hr : r = true ↔ L = M) :
    Calls Tryd.prog 84 #[iv, iv', .func (.func 85) #[] #[]] w fun e w' => e = .returned (.bool r) ∧ Below w.heap.size w w' := by
  obtain ⟨hr1, hr2⟩ := bool_of hr
  have HI := hide h
  have HI' := hide h'
  have HL := hide hL
  have HM := hide hM
  obtain ⟨a, cap, rfl, hc1, hc2⟩ := h.form
  obtain ⟨a', cap', rfl, hc1', hc2'⟩ := h'.form
  clear h h' hL hM hr
  by_cases hlen : L.length = M.length
  · have HS : Hid (Eqing w L M (.int .i64 0) w) := hide ⟨0, Nat.zero_le _, rfl, by simp, Below.refl _ _⟩
    have HLEN := hide hlen
    have HR1 := hide hr1
    have HR2 := hide hr2
    rw [← hlen]
    clear hlen hr1 hr2
    go_enter Tryd.func84, Tryd.ntmps84
    go_wp2_with fail
    go_loopw [17] (fun i wr => Eqing w L M i wr) (fun i _ => L.length - (intOf i).toNat)
    case atStart => exact HS.out
    case round =>
      clear HS
      obtain ⟨k, hk, rfl, heq, hB⟩ := hrel
      have HB := hide hB
      have HQ := hide heq
      by_cases hlt : k < L.length
      · obtain ⟨x, hx⟩ : ∃ x, L[k]? = some x := ⟨_, List.getElem?_eq_getElem hlt⟩
        obtain ⟨y, hy⟩ : ∃ y, M[k]? = some y := ⟨_, List.getElem?_eq_getElem (by have := HLEN.out; omega)⟩
        obtain ⟨b, off, kv, rfl, hr, hbv⟩ := (HI.out.on hB).get hx
        obtain ⟨b', off', kv', rfl, hr', hbv'⟩ := (HI'.out.on hB).get hy
        have hxo := HL.out x (List.mem_of_getElem? hx)
        have hyo := HM.out y (List.mem_of_getElem? hy)
        have HXL := hide hxo.1
        have HYL := hide hyo.1
        have HR := hide hr
        have HN : Hid ((Tryd.prog.info? 64).map (·.size) = some (inC (x, kv)).length) := hide (by rw [inC_length hxo.1]; exact info_in)
        have HN' : Hid ((Tryd.prog.info? 64).map (·.size) = some (inC (y, kv')).length) := hide (by rw [inC_length hyo.1]; exact info_in)
        have H1 : Hid (∀ u ∈ inC (x, kv), u.oneCell' = true) := hide (inC_one hbv.oneCell)
        have H1' : Hid (∀ u ∈ inC (y, kv'), u.oneCell' = true) := hide (inC_one hbv'.oneCell)
        have HT : Hid (∀ w : World, (w.alloc (.cells #[.int .u8 0, .int .u8 0, .int .u8 0, .int .u8 0, .int .u8 0, .int .u8 0, .int .u8 0, .int .u8 0, .int .u8 0, .int .u8 0, .int .u8 0, .int .u8 0, .int .u8 0, .int .u8 0, .int .u8 0, .int .u8 0, .int .u8 0, .int .u8 0, .int .u8 0, .int .u8 0, .int .u8 0, .int .u8 0, .int .u8 0, .int .u8 0, .int .u8 0, .int .u8 0, .int .u8 0, .int .u8 0, .int .u8 0, .int .u8 0, .int .u8 0, .int .u8 0, .int .u32 0, .slice none 0 0] 64)).there w.heap.size 0 (inC (x, kv)).length) := hide (fun w => by rw [inC_length hxo.1]; exact in_there w)
        have HT' : Hid (∀ w : World, (w.alloc (.cells #[.int .u8 0, .int .u8 0, .int .u8 0, .int .u8 0, .int .u8 0, .int .u8 0, .int .u8 0, .int .u8 0, .int .u8 0, .int .u8 0, .int .u8 0, .int .u8 0, .int .u8 0, .int .u8 0, .int .u8 0, .int .u8 0, .int .u8 0, .int .u8 0, .int .u8 0, .int .u8 0, .int .u8 0, .int .u8 0, .int .u8 0, .int .u8 0, .int .u8 0, .int .u8 0, .int .u8 0, .int .u8 0, .int .u8 0, .int .u8 0, .int .u8 0, .int .u8 0, .int .u32 0, .slice none 0 0] 64)).there w.heap.size 0 (inC (y, kv')).length) := hide (fun w => by rw [inC_length hyo.1]; exact in_there w)
        have hk1 : (k : Int) < (L.length : Int) := by omega
        have HX := hide hx
        have HY := hide hy
        have SI := hide (fun w h1 h2 => tsamein_any x y kv kv' w hxo hyo h1 h2)
        clear hB heq hx hy hxo hyo
        go_upto_region 6 with (first | (refine wpList_load_mid rfl 64 (.tmp 20) rfl b (off + k * 34) rfl (inC (x, kv)) _ HR.out Tryd.underlying64 rfl HN.out ?_) | (refine wp_store_row rfl 64 (.tmp 8) (.tmp 21) rfl wr.heap.size 0 (inC (x, kv)) rfl rfl (HT.out wr) HN.out H1.out ?_))
        have hW : ((wr.alloc (.cells #[.int .u8 0, .int .u8 0, .int .u8 0, .int .u8 0, .int .u8 0, .int .u8 0, .int .u8 0, .int .u8 0, .int .u8 0, .int .u8 0, .int .u8 0, .int .u8 0, .int .u8 0, .int .u8 0, .int .u8 0, .int .u8 0, .int .u8 0, .int .u8 0, .int .u8 0, .int .u8 0, .int .u8 0, .int .u8 0, .int .u8 0, .int .u8 0, .int .u8 0, .int .u8 0, .int .u8 0, .int .u8 0, .int .u8 0, .int .u8 0, .int .u8 0, .int .u8 0, .int .u32 0, .slice none 0 0] 64)).setCells wr.heap.size 0 (inC (x, kv))).rangeAt wr.heap.size 0 (inC (x, kv)) := World.rangeAt_setCells_same _ _ _ _ (HT.out wr)
        have hB2 : Below wr.heap.size wr ((wr.alloc (.cells #[.int .u8 0, .int .u8 0, .int .u8 0, .int .u8 0, .int .u8 0, .int .u8 0, .int .u8 0, .int .u8 0, .int .u8 0, .int .u8 0, .int .u8 0, .int .u8 0, .int .u8 0, .int .u8 0, .int .u8 0, .int .u8 0, .int .u8 0, .int .u8 0, .int .u8 0, .int .u8 0, .int .u8 0, .int .u8 0, .int .u8 0, .int .u8 0, .int .u8 0, .int .u8 0, .int .u8 0, .int .u8 0, .int .u8 0, .int .u8 0, .int .u8 0, .int .u8 0, .int .u32 0, .slice none 0 0] 64)).setCells wr.heap.size 0 (inC (x, kv))) := below_sets (Nat.le_refl _) _ _ _ ((Below.refl _ _).alloc (Nat.le_refl _) _)
        generalize (wr.alloc (.cells #[.int .u8 0, .int .u8 0, .int .u8 0, .int .u8 0, .int .u8 0, .int .u8 0, .int .u8 0, .int .u8 0, .int .u8 0, .int .u8 0, .int .u8 0, .int .u8 0, .int .u8 0, .int .u8 0, .int .u8 0, .int .u8 0, .int .u8 0, .int .u8 0, .int .u8 0, .int .u8 0, .int .u8 0, .int .u8 0, .int .u8 0, .int .u8 0, .int .u8 0, .int .u8 0, .int .u8 0, .int .u8 0, .int .u8 0, .int .u8 0, .int .u8 0, .int .u8 0, .int .u32 0, .slice none 0 0] 64)).setCells wr.heap.size 0 (inC (x, kv)) = W2 at *
        have HR' := hide (range_on hr' hB2)
        have HB2 := hide (below_on HB.out hB2)
        have HK2 := hide (hbv.below hB2)
        have HK2' := hide (hbv'.below hB2)
        have HW2 := hide hW
        clear hr hr' hbv hbv' hW hB2 HB HR HT
        generalize wr.heap.size = g1 at *
        simp only [Act.put]
        go_upto_region 7 with (first | (refine wpList_load_mid rfl 64 (.tmp 24) rfl b' (off' + k * 34) rfl (inC (y, kv')) _ HR'.out Tryd.underlying64 rfl HN'.out ?_) | (refine wp_store_row rfl 64 (.tmp 9) (.tmp 25) rfl W2.heap.size 0 (inC (y, kv')) rfl rfl (HT'.out W2) HN'.out H1'.out ?_))
        have hW : ((W2.alloc (.cells #[.int .u8 0, .int .u8 0, .int .u8 0, .int .u8 0, .int .u8 0, .int .u8 0, .int .u8 0, .int .u8 0, .int .u8 0, .int .u8 0, .int .u8 0, .int .u8 0, .int .u8 0, .int .u8 0, .int .u8 0, .int .u8 0, .int .u8 0, .int .u8 0, .int .u8 0, .int .u8 0, .int .u8 0, .int .u8 0, .int .u8 0, .int .u8 0, .int .u8 0, .int .u8 0, .int .u8 0, .int .u8 0, .int .u8 0, .int .u8 0, .int .u8 0, .int .u8 0, .int .u32 0, .slice none 0 0] 64)).setCells W2.heap.size 0 (inC (y, kv'))).rangeAt W2.heap.size 0 (inC (y, kv')) := World.rangeAt_setCells_same _ _ _ _ (HT'.out W2)
        have hB3 : Below W2.heap.size W2 ((W2.alloc (.cells #[.int .u8 0, .int .u8 0, .int .u8 0, .int .u8 0, .int .u8 0, .int .u8 0, .int .u8 0, .int .u8 0, .int .u8 0, .int .u8 0, .int .u8 0, .int .u8 0, .int .u8 0, .int .u8 0, .int .u8 0, .int .u8 0, .int .u8 0, .int .u8 0, .int .u8 0, .int .u8 0, .int .u8 0, .int .u8 0, .int .u8 0, .int .u8 0, .int .u8 0, .int .u8 0, .int .u8 0, .int .u8 0, .int .u8 0, .int .u8 0, .int .u8 0, .int .u8 0, .int .u32 0, .slice none 0 0] 64)).setCells W2.heap.size 0 (inC (y, kv'))) := below_sets (Nat.le_refl _) _ _ _ ((Below.refl _ _).alloc (Nat.le_refl _) _)
        generalize (W2.alloc (.cells #[.int .u8 0, .int .u8 0, .int .u8 0, .int .u8 0, .int .u8 0, .int .u8 0, .int .u8 0, .int .u8 0, .int .u8 0, .int .u8 0, .int .u8 0, .int .u8 0, .int .u8 0, .int .u8 0, .int .u8 0, .int .u8 0, .int .u8 0, .int .u8 0, .int .u8 0, .int .u8 0, .int .u8 0, .int .u8 0, .int .u8 0, .int .u8 0, .int .u8 0, .int .u8 0, .int .u8 0, .int .u8 0, .int .u8 0, .int .u8 0, .int .u8 0, .int .u8 0, .int .u32 0, .slice none 0 0] 64)).setCells W2.heap.size 0 (inC (y, kv')) = W3 at *
        have HA := hide (range_on HW2.out hB3)
        have HA' := hide hW
        have HB3 := hide (below_on HB2.out hB3)
        have SI3 := hide (SI.out W3 (HK2.out.below hB3) (HK2'.out.below hB3))
        clear hW hB3 HB2 HK2 HK2' HW2 HR' HT' SI
        generalize W2.heap.size = g2 at *
        simp only [Act.put]
        go_wp2_with (first | (refine wpList_load_mid rfl 64 (.tmp 8) rfl g1 0 rfl (inC (x, kv)) _ HA.out Tryd.underlying64 rfl HN.out ?_) | (refine wpList_load_mid rfl 64 (.tmp 9) rfl g2 0 rfl (inC (y, kv')) _ HA'.out Tryd.underlying64 rfl HN'.out ?_))
        refine SI3.out.mono ?_
        rintro e w4 ⟨rfl, hb4⟩
        have HB4 := hide (below_on HB3.out hb4)
        clear hb4 HB3 HA HA' SI3
        cases hd : inEq x y with
        | true =>
          have hxy := (inEq_iff x y).1 hd
          have R : Hid (Eqing w L M (.int .i64 ((k + 1 : Nat) : Int)) w4) := hide ⟨k + 1, by omega, rfl, take_more HQ.out HX.out HY.out hxy, HB4.out⟩
          clear hd hxy HB4
          go_wp2
          go_roundw
          case rel => first | exact R.out | ((repeat apply Exists.intro); exact ⟨R.out, rfl⟩)
          case measure => simp [intOf]; omega
        | false =>
          have hne : L ≠ M := ne_at HX.out HY.out fun e => by rw [(inEq_iff x y).2 e] at hd; cases hd
          have HF := hide (HR2.out hne)
          clear hd hne
          go_wp2
          go_ret
          exact ⟨by rw [HF.out]; first | done | rfl, HB4.out⟩
      · have hk2 : (L.length : Int) ≤ (k : Int) := by omega
        have HF : Hid (r = true) := hide (HR1.out (by
          have h := HQ.out
          rw [List.take_of_length_le (by omega), List.take_of_length_le (by have := HLEN.out; omega)] at h
          exact h))
        clear heq hB
        go_wp2
        go_ret
        exact ⟨by rw [HF.out]; first | done | rfl, HB.out⟩
  · have HF := hide (hr2 fun e => hlen (by rw [e]))
    have hl2 : ((L.length : Int) == (M.length : Int)) = false := by simpa using fun e => hlen (by omega)
    have hl3 : ¬ (L.length : Int) = (M.length : Int) := fun e => hlen (by omega)
    clear hlen hr1 hr2
    go_enter Tryd.func84, Tryd.ntmps84
    go_wp2
    go_ret
    exact ⟨by rw [HF.out]; first | done | rfl, Below.refl _ _⟩

set_option maxRecDepth 100000 in
set_option maxHeartbeats 2000000 in
theorem eqouts_any (L M : List TOut) (iv iv' : Value) (w : World) (h : OutsAt w iv L) (h' : OutsAt w iv' M) (hL : ∀ x ∈ L, OutOk x) (hM : ∀ x ∈ M, OutOk x) (r : Bool) (hr : r = true ↔ L = M) :
    Calls Tryd.prog 86 #[iv, iv'] w fun e w' => e = .returned (.bool r) ∧ Below w.heap.size w w' := by
  obtain ⟨hr1, hr2⟩ := bool_of hr
  have HI := hide h
  have HI' := hide h'
  have HL := hide hL
  have HM := hide hM
  obtain ⟨a, cap, rfl, hc1, hc2⟩ := OutsAt.form h
  obtain ⟨a', cap', rfl, hc1', hc2'⟩ := OutsAt.form h'
  clear h h' hL hM hr
  by_cases hlen : L.length = M.length
  · have HS : Hid (Eqing w L M (.int .i64 0) w) := hide ⟨0, Nat.zero_le _, rfl, by simp, Below.refl _ _⟩
    have HLEN := hide hlen
    have HR1 := hide hr1
    have HR2 := hide hr2
    rw [← hlen]
    clear hlen hr1 hr2
    go_enter Tryd.func86, Tryd.ntmps86
    go_wp2_with fail
    go_loopw [13] (fun i wr => Eqing w L M i wr) (fun i _ => L.length - (intOf i).toNat)
    case atStart => exact HS.out
    case round =>
      clear HS
      obtain ⟨k, hk, rfl, heq, hB⟩ := hrel
      have HB := hide hB
      have HQ := hide heq
      by_cases hlt : k < L.length
      · obtain ⟨x, hx⟩ : ∃ x, L[k]? = some x := ⟨_, List.getElem?_eq_getElem hlt⟩
        obtain ⟨y, hy⟩ : ∃ y, M[k]? = some y := ⟨_, List.getElem?_eq_getElem (by have := HLEN.out; omega)⟩
        obtain ⟨b, off, rfl, hr⟩ := OutsAt.get (HI.out.on hB) hx
        obtain ⟨b', off', rfl, hr'⟩ := OutsAt.get (HI'.out.on hB) hy
        have hxo := HL.out x (List.mem_of_getElem? hx)
        have hyo := HM.out y (List.mem_of_getElem? hy)
        have HN : Hid ((Tryd.prog.info? 66).map (·.size) = some (outC x).length) := hide (by rw [outC_length hxo.2.1]; exact info_out)
        have HN' : Hid ((Tryd.prog.info? 66).map (·.size) = some (outC y).length) := hide (by rw [outC_length hyo.2.1]; exact info_out)
        have hk1 : (k : Int) < (L.length : Int) := by omega
        have HX := hide hx
        have HY := hide hy
        have hEQ := eql_out x y hxo.2.1 hyo.2.1
        have HD : Hid ((decide (x.val = y.val) && decide (x.lock = y.lock)) = outEq x y) := hide rfl
        rw [HD.out] at hEQ
        have HR1' := hide hr
        have HR2' := hide hr'
        clear hB heq hx hy hxo hyo HD hr hr'
        go_upto_region 6 with fail
        generalize hpx : outC x = PX at *
        generalize hpy : outC y = PY at *
        have HPX := hide hpx
        have HPY := hide hpy
        clear hpx hpy
        cases hd : outEq x y with
        | true =>
          have hxy := (outEq_iff x y).1 hd
          rw [hd] at hEQ
          refine wp_region_quiet_lit (by kernel_rfl) (by kernel_rfl) ?_
          repeat (first
            | (go_big_quiet_want; refine quiet_load 66 (.tmp 18) rfl b (off + k * 33) rfl PX _ (range_drewN HR1'.out) Tryd.underlying66 rfl HN.out ?_; go_simp; go_big_quiet_on)
            | (go_big_quiet_want; refine quiet_load 66 (.tmp 22) rfl b' (off' + k * 33) rfl PY _ (range_drewN HR2'.out) Tryd.underlying66 rfl HN'.out ?_; go_simp; go_big_quiet_on)
            | (go_big_quiet_step (fail)))
          refine wpQuiet_nil ?_
          intro _ hw'
          obtain ⟨nq, hw''⟩ := hw'
          subst hw''
          have R : Hid (Eqing w L M (.int .i64 ((k + 1 : Nat) : Int)) (wr.drewN nq)) := hide ⟨k + 1, by omega, rfl, take_more HQ.out HX.out HY.out hxy, HB.out.trans ⟨rfl, rfl, rfl, Nat.le_refl _, fun _ _ => rfl⟩⟩
          clear hd hxy HB hEQ HR1' HR2'
          generalize wr.drewN nq = W3 at *
          go_wp2
          go_roundw
          case rel => first | exact R.out | ((repeat apply Exists.intro); exact ⟨R.out, rfl⟩)
          case measure => simp [intOf]; omega
        | false =>
          have hne : L ≠ M := ne_at HX.out HY.out fun e => by rw [(outEq_iff x y).2 e] at hd; cases hd
          have HF := hide (HR2.out hne)
          rw [hd] at hEQ
          refine wp_region_quiet_lit (by kernel_rfl) (by kernel_rfl) ?_
          repeat (first
            | (go_big_quiet_want; refine quiet_load 66 (.tmp 18) rfl b (off + k * 33) rfl PX _ (range_drewN HR1'.out) Tryd.underlying66 rfl HN.out ?_; go_simp; go_big_quiet_on)
            | (go_big_quiet_want; refine quiet_load 66 (.tmp 22) rfl b' (off' + k * 33) rfl PY _ (range_drewN HR2'.out) Tryd.underlying66 rfl HN'.out ?_; go_simp; go_big_quiet_on)
            | (go_big_quiet_step (fail)))
          refine wpQuiet_nil ?_
          intro _ hw'
          obtain ⟨nq, hw''⟩ := hw'
          subst hw''
          have R : Hid (Below w.heap.size w (wr.drewN nq)) := hide (HB.out.trans ⟨rfl, rfl, rfl, Nat.le_refl _, fun _ _ => rfl⟩)
          clear hd hne HB hEQ HR1' HR2'
          generalize wr.drewN nq = W3 at *
          go_wp2
          go_ret
          exact ⟨by rw [HF.out]; first | done | rfl, R.out⟩
      · have hk2 : (L.length : Int) ≤ (k : Int) := by omega
        have HF : Hid (r = true) := hide (HR1.out (by
          have h := HQ.out
          rw [List.take_of_length_le (by omega), List.take_of_length_le (by have := HLEN.out; omega)] at h
          exact h))
        clear heq hB
        go_wp2
        go_ret
        exact ⟨by rw [HF.out]; first | done | rfl, HB.out⟩
  · have HF := hide (hr2 fun e => hlen (by rw [e]))
    have hl2 : ((L.length : Int) == (M.length : Int)) = false := by simpa using fun e => hlen (by omega)
    have hl3 : ¬ (L.length : Int) = (M.length : Int) := fun e => hlen (by omega)
    clear hlen hr1 hr2
    go_enter Tryd.func86, Tryd.ntmps86
    go_wp2
    go_ret
    exact ⟨by rw [HF.out]; first | done | rfl, Below.refl _ _⟩

end Go.Proofs.YtjmifgdjmaelfaaDoor

/-
  What tx.Same answers at this program, of any two transactions.
-/
namespace Go.Proofs.YtjmifgdjmaelfaaDoor
open Go.RowKit

set_option maxRecDepth 100000 in
set_option maxHeartbeats 300000 in
theorem tsame_any (t u : Tr) (iv ov iv' ov' : Value) (w : World) (h : TxAt w iv ov t) (h' : TxAt w iv' ov' u) (ht : TrOk t) (hu : TrOk u) (r : Bool) (hr : r = true ↔ t = u) :
    Calls Tryd.prog 63 #[.agg #[.int .u32 t.ver, iv, ov], .agg #[.int .u32 u.ver, iv', ov']] w fun e w' => e = .returned (.bool r) ∧ Below w.heap.size w w' := by
  have b2 := below_on (below_new w (.cells #[.int .u32 t.ver, iv, ov] 26)) (below_new _ (.cells #[.int .u32 u.ver, iv', ov'] 26))
  have HX := hide ((TBox.new w (.int .u32 t.ver) iv ov 26).on (below_new _ (.cells #[.int .u32 u.ver, iv', ov'] 26)))
  have hy := TBox.new (w.alloc (.cells #[.int .u32 t.ver, iv, ov] 26)) (.int .u32 u.ver) iv' ov' 26
  rw [alloc_size] at hy
  have HY := hide hy
  have HB := hide b2
  have HT := hide (h.on b2)
  have HU := hide (h'.on b2)
  have EI := hide (fun w r h h' hr => eqfunc_any t.ins u.ins iv iv' w h h' ht.2.1 hu.2.1 r hr)
  have EO := hide (fun w r h h' hr => eqouts_any t.outs u.outs ov ov' w h h' ht.2.2 hu.2.2 r hr)
  have HR : Hid (r = true ↔ (t.ver = u.ver ∧ t.ins = u.ins ∧ t.outs = u.outs)) := hide (by
    rw [hr]
    obtain ⟨a, b, c⟩ := t
    obtain ⟨a', b', c'⟩ := u
    simp)
  obtain ⟨a, cap, rfl, -, -⟩ := h.1.form
  obtain ⟨oa, oc, rfl, -, -⟩ := h.2.form
  obtain ⟨a', cap', rfl, -, -⟩ := h'.1.form
  obtain ⟨oa', oc', rfl, -, -⟩ := h'.2.form
  clear b2 hy h h' ht hu hr
  go_enter Tryd.func63, Tryd.ntmps63
  go_upto_region 1 with fail
  generalize (w.alloc (.cells #[.int .u32 t.ver, .slice a t.ins.length cap, .slice oa t.outs.length oc] 26)).alloc (.cells #[.int .u32 u.ver, .slice a' u.ins.length cap', .slice oa' u.outs.length oc'] 26) = W at *
  generalize hg : w.heap.size = g at *
  have HG := hide hg
  clear hg
  obtain ⟨p0, p1, p2⟩ := HX.out
  obtain ⟨q0, q1, q2⟩ := HY.out
  generalize hv : t.ver = v at *
  generalize hv' : u.ver = v' at *
  have HV := hide hv
  have HV' := hide hv'
  clear hv hv'
  by_cases e1 : v = v'
  · subst e1
    have E1 := EI.out W
    by_cases e2 : t.ins = u.ins
    · have C1 := hide (E1 true HT.out.1 HU.out.1 (by simp [e2]))
      have E2 := hide e2
      clear E1 e2 EI
      go_wp2_with fail
      refine C1.out.mono ?_
      rintro e w1 ⟨rfl, hb1⟩
      have HB1 := hide (HB.out.trans (hb1.mono (by have := HB.out.size; have := HG.out; omega)))
      have E3 := EO.out w1
      have t1 := HT.out.on hb1
      have u1 := HU.out.on hb1
      clear p0 p1 p2 q0 q1 q2
      obtain ⟨p0, p1, p2⟩ := HX.out.on hb1
      obtain ⟨q0, q1, q2⟩ := HY.out.on hb1
      by_cases e3 : t.outs = u.outs
      · have C2 := hide (E3 true t1.2 u1.2 (by simp [e3]))
        have HF : Hid (r = true) := hide (HR.out.2 ⟨by first | trivial | rfl, E2.out, e3⟩)
        clear E3 e3 t1 u1 hb1 EO HT HU HX HY HB
        go_wp2_with fail
        refine C2.out.mono ?_
        rintro e w2 ⟨rfl, hb2⟩
        have R := hide (HB1.out.trans (hb2.mono (by have := HB1.out.size; have := HG.out; omega)))
        clear hb2 HB1 C1 C2
        go_wp2
        go_ret
        rw [HG.out]
        exact ⟨by rw [HF.out]; first | done | rfl, R.out⟩
      · have C2 := hide (E3 false t1.2 u1.2 (by simp [e3]))
        have HF : Hid (r = false) := hide (by cases hr : r with | false => rfl | true => exact absurd (HR.out.1 hr).2.2 e3)
        clear E3 e3 t1 u1 hb1 EO HT HU HX HY HB
        go_wp2_with fail
        refine C2.out.mono ?_
        rintro e w2 ⟨rfl, hb2⟩
        have R := hide (HB1.out.trans (hb2.mono (by have := HB1.out.size; have := HG.out; omega)))
        clear hb2 HB1 C1 C2
        go_wp2
        go_ret
        rw [HG.out]
        exact ⟨by rw [HF.out]; first | done | rfl, R.out⟩
    · have C1 := hide (E1 false HT.out.1 HU.out.1 (by simp [e2]))
      have HF : Hid (r = false) := hide (by cases hr : r with | false => rfl | true => exact absurd (HR.out.1 hr).2.1 e2)
      clear E1 e2 EI EO HT HU HX HY
      go_wp2_with fail
      refine C1.out.mono ?_
      rintro e w1 ⟨rfl, hb1⟩
      have R := hide (HB.out.trans (hb1.mono (by have := HB.out.size; have := HG.out; omega)))
      clear hb1 HB C1 p0 p1 p2 q0 q1 q2
      go_wp2
      go_ret
      rw [HG.out]
      exact ⟨by rw [HF.out]; first | done | rfl, R.out⟩
  · have HF : Hid (r = false) := hide (by cases hr : r with | false => rfl | true => exact absurd (HR.out.1 hr).1 e1)
    have e1' : (v == v') = false := by simpa using e1
    clear EI EO HT HU HX HY e1
    go_wp2
    go_ret
    rw [HG.out]
    exact ⟨by rw [HF.out]; first | done | rfl, HB.out⟩

end Go.Proofs.YtjmifgdjmaelfaaDoor
