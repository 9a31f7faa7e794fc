import Derived.Test.YtbeegcpmpgdbnaaDoorRowS
import Derived.Test.YtbeegcpmpgdbnaaDoorKitA
import Derived.Deep.RegionHeld3
import Derived.Deep.Cut
import Derived.Deep.QuietTactic
/-
  Transactions in memory. Nothing here speaks of one function.
-/
namespace Go.Proofs.YtbeegcpmpgdbnaaDoor
open Go.RowKit

/-! Inputs, outputs. -/
def inC (x : TIn × Value) : List Value := vals .u8 x.1.tx ++ [.int .u32 x.1.n, x.2]
theorem inC_length {x : TIn × Value} (h : x.1.tx.length = 32) : (inC x).length = 34 := by simp [inC, vals, h]
theorem inC_one {x : TIn × Value} (h : x.2.oneCell' = true) : ∀ u ∈ inC x, u.oneCell' = true := by
  intro u hu
  rcases List.mem_append.1 hu with q | q
  · exact vals_cell _ _ u q
  · simp only [List.mem_cons, List.not_mem_nil, or_false] at q
    rcases q with rfl | rfl
    · rfl
    · exact h
theorem Bytes.oneCell {w : World} {v : Value} {l : List Int} (h : Bytes w v l) : v.oneCell' = true := by
  obtain ⟨a, cap, rfl, -⟩ := h.form
  rfl
/-- The slice bears the inputs. -/
def InsAt (w : World) (v : Value) (L : List TIn) : Prop := ∃ D : List (TIn × Value), D.map Prod.fst = L ∧ RowAt w 34 v (D.map inC) ∧ ∀ x ∈ D, Bytes w x.2 x.1.key
def OutsAt (w : World) (v : Value) (L : List TOut) : Prop := RowAt w 33 v (L.map outC)
theorem InsAt.on {w w' : World} {v : Value} {L : List TIn} (h : InsAt w v L) (hb : Below w.heap.size w w') : InsAt w' v L := by
  obtain ⟨D, h1, h2, h3⟩ := h
  exact ⟨D, h1, h2.on hb, fun x hx => (h3 x hx).below hb⟩
theorem OutsAt.on {w w' : World} {v : Value} {L : List TOut} (h : OutsAt w v L) (hb : Below w.heap.size w w') : OutsAt w' v L := RowAt.on h hb
theorem InsAt.form {w : World} {v : Value} {L : List TIn} (h : InsAt w v L) : ∃ a cap, v = .slice a L.length cap ∧ L.length ≤ cap ∧ cap ≤ 9223372036854775807 := by
  obtain ⟨D, rfl, h2, -⟩ := h
  have := h2.form
  simpa using this
theorem OutsAt.form {w : World} {v : Value} {L : List TOut} (h : OutsAt w v L) : ∃ a cap, v = .slice a L.length cap ∧ L.length ≤ cap ∧ cap ≤ 9223372036854775807 := by
  have := RowAt.form h
  simpa using this
theorem InsAt.nil (w : World) : InsAt w (.slice none 0 0) [] := ⟨[], rfl, RowAt.nil _ _, fun _ h => by cases h⟩
theorem OutsAt.nil (w : World) : OutsAt w (.slice none 0 0) [] := RowAt.nil _ _
theorem InsAt.get {w : World} {a : Option Addr} {n cap : Nat} {L : List TIn} (h : InsAt w (.slice a n cap) L) {k : Nat} {x : TIn} (hk : L[k]? = some x) :
    ∃ b off kv, a = some ⟨b, off, none⟩ ∧ w.rangeAt b (off + k * 34) (inC (x, kv)) ∧ Bytes w kv x.key := by
  obtain ⟨D, rfl, h2, h3⟩ := h
  obtain ⟨a', cap', e, -, -, -, h5⟩ := h2
  simp only [Value.slice.injEq] at e
  obtain ⟨rfl, -, -⟩ := e
  rw [List.getElem?_map] at hk
  obtain ⟨y, hy, rfl⟩ := Option.map_eq_some_iff.1 hk
  obtain ⟨b, off, rfl, hc⟩ := h5 (by have := (List.getElem?_eq_some_iff.1 hy).1; simp; omega)
  exact ⟨b, off, y.2, rfl, hc k (inC y) (by simp [hy]), h3 y (List.mem_of_getElem? hy)⟩
theorem OutsAt.get {w : World} {a : Option Addr} {n cap : Nat} {L : List TOut} (h : OutsAt w (.slice a n cap) L) {k : Nat} {x : TOut} (hk : L[k]? = some x) :
    ∃ b off, a = some ⟨b, off, none⟩ ∧ w.rangeAt b (off + k * 33) (outC x) := by
  obtain ⟨a', cap', e, -, -, -, h5⟩ := h
  simp only [Value.slice.injEq] at e
  obtain ⟨rfl, -, -⟩ := e
  obtain ⟨b, off, rfl, hc⟩ := h5 (by have := (List.getElem?_eq_some_iff.1 hk).1; simp; omega)
  exact ⟨b, off, rfl, hc k (outC x) (by simp [hk])⟩
/-- Inputs of the call's own. -/
def InsOwn (w : World) (base : Nat) (v : Value) (L : List TIn) : Prop :=
  ∃ D : List (TIn × Value), D.map Prod.fst = L ∧ RowOwn w base 39 34 v (D.map inC) ∧ ∀ x ∈ D, Keeps (fun g => base ≤ g ∧ v.ownBlock ≠ some g) w fun w => Bytes w x.2 x.1.key
theorem InsOwn.at {w : World} {base : Nat} {v : Value} {L : List TIn} (h : InsOwn w base v L) : InsAt w v L := by
  obtain ⟨D, h1, h2, h3⟩ := h
  exact ⟨D, h1, h2.row, fun x hx => (h3 x hx).self⟩
theorem InsOwn.move {w w1 : World} {base : Nat} {v : Value} {L : List TIn} (h : InsOwn w base v L) (hs : w.heap.size ≤ w1.heap.size) (hb : ∀ g, base ≤ g → g < w.heap.size → w1.heap[g]? = w.heap[g]?) : InsOwn w1 base v L := by
  obtain ⟨D, h1, h2, h3⟩ := h
  exact ⟨D, h1, h2.move hb, fun x hx => (h3 x hx).step hs fun g hg hp => hb g hp.1 hg⟩
theorem InsOwn.nil (w : World) (base : Nat) : InsOwn w base (.slice none 0 0) [] := ⟨[], rfl, RowOwn.nil _ _ _ _, fun _ h => by cases h⟩
/-- One more input. -/
theorem InsOwn.more {w w' : World} {base : Nat} {v v' : Value} {D : List (TIn × Value)} {x : TIn} {kv : Value} (hD : ∀ x ∈ D, Keeps (fun g => base ≤ g ∧ v.ownBlock ≠ some g) w fun w => Bytes w x.2 x.1.key)
    (h : RowOwn w' base 39 34 v' (D.map inC ++ [inC (x, kv)])) (hg : w.grownBy w' v.ownBlock) (hw : v'.ownBlock = v.ownBlock ∨ ∀ k, v'.ownBlock = some k → w.heap.size ≤ k)
    (hkv : Bytes w kv x.key) (hk : ∀ k, kv.ownBlock = some k → base ≤ k ∧ v.ownBlock ≠ some k ∧ k < w.heap.size) : InsOwn w' base v' (D.map Prod.fst ++ [x]) := by
  have keep : ∀ {X : World → Prop}, Keeps (fun g => base ≤ g ∧ v.ownBlock ≠ some g) w X → Keeps (fun g => base ≤ g ∧ v'.ownBlock ≠ some g) w' X := fun hX w2 hw2 => hX w2 fun g hlt hp => by
    have h2 : v'.ownBlock ≠ some g := by
      rcases hw with e | hw
      · rw [e]; exact hp.2
      · intro e
        have := hw g e
        omega
    exact (hw2 g (Nat.lt_of_lt_of_le hlt hg.size) ⟨hp.1, h2⟩).trans (hg.block g hlt (fun e => hp.2 e.symm))
  refine ⟨D ++ [(x, kv)], by simp, by simpa using h, fun y hy => ?_⟩
  rcases List.mem_append.1 hy with q | q
  · exact keep (hD y q)
  · obtain rfl := List.mem_singleton.1 q
    exact keep (hkv.keeps fun k e => ⟨(hk k e).1, (hk k e).2.1⟩)
theorem infoIn : (Tryd.prog.info? 39).map (fun i => (i.zero, i.size, i.bytes)) = some (some (.agg #[.int .u8 0, .int .u8 0, .int .u8 0, .int .u8 0, .int .u8 0, .int .u8 0, .int .u8 0, .int .u8 0, .int .u8 0, .int .u8 0, .int .u8 0, .int .u8 0, .int .u8 0, .int .u8 0, .int .u8 0, .int .u8 0, .int .u8 0, .int .u8 0, .int .u8 0, .int .u8 0, .int .u8 0, .int .u8 0, .int .u8 0, .int .u8 0, .int .u8 0, .int .u8 0, .int .u8 0, .int .u8 0, .int .u8 0, .int .u8 0, .int .u8 0, .int .u8 0, .int .u32 0, .slice none 0 0]), 34, 64) := by kernel_rfl
theorem info_in : (Tryd.prog.info? 39).map (·.size) = some 34 := by kernel_rfl
theorem info_tx : (Tryd.prog.info? 26).map (·.size) = some 3 := by kernel_rfl
end Go.Proofs.YtbeegcpmpgdbnaaDoor

/-
  A transaction in memory: its rows, its three cells, an input's and an output's box. Nothing here speaks of one function.
-/
namespace Go.Proofs.YtbeegcpmpgdbnaaDoor
open Go.RowKit

/-- The transaction's rows. -/
def TxAt (w : World) (iv ov : Value) (t : Tr) : Prop := InsAt w iv t.ins ∧ OutsAt w ov t.outs
theorem TxAt.on {w w' : World} {iv ov : Value} {t : Tr} (h : TxAt w iv ov t) (hb : Below w.heap.size w w') : TxAt w' iv ov t := ⟨h.1.on hb, h.2.on hb⟩
/-- A transaction's three cells. -/
def TBox (w : World) (q : Nat) (x y z : Value) : Prop := w.cell? ⟨q, 0, none⟩ = some x ∧ w.cell? ⟨q, 1, none⟩ = some y ∧ w.cell? ⟨q, 2, none⟩ = some z
theorem TBox.on {w w' : World} {q : Nat} {x y z : Value} (h : TBox w q x y z) (hb : Below w.heap.size w w') : TBox w' q x y z :=
  ⟨(hb.cell (World.block_lt_of_cell? _ _ h.1)).trans h.1, (hb.cell (World.block_lt_of_cell? _ _ h.2.1)).trans h.2.1, (hb.cell (World.block_lt_of_cell? _ _ h.2.2)).trans h.2.2⟩
theorem TBox.new (w : World) (x y z : Value) (t : TypeId) : TBox (w.alloc (.cells #[x, y, z] t)) w.heap.size x y z := by
  have hr := range_new w [x, y, z] t
  have n0 := hr 0 _ rfl
  have n1 := hr 1 _ rfl
  have n2 := hr 2 _ rfl
  simp only [Nat.zero_add, Nat.add_zero] at n0 n1 n2
  exact ⟨n0, n1, n2⟩
theorem there_part {w : World} {b o n : Nat} (h : w.there b o n) (i m : Nat) (hi : i + m ≤ n) : w.there b (o + i) m := fun j hj => by
  have := h (i + j) (by omega)
  rwa [← Nat.add_assoc] at this
theorem box_in (w : World) (x : TIn × Value) (hl : x.1.tx.length = 32) (t : TypeId) : Arr (w.alloc (.cells (inC x).toArray t)) w.heap.size 0 .u8 x.1.tx := by
  refine ⟨range_left (range_new w (inC x) t), ?_⟩
  have e : (inC x).toArray.size = 34 := List.size_toArray.trans (inC_length hl)
  have := there_new w (inC x).toArray t
  rw [e] at this
  exact there_part this 0 _ (by omega)
theorem box_out (w : World) (x : TOut) (hl : x.lock.length = 32) (t : TypeId) : Arr (w.alloc (.cells (outC x).toArray t)) w.heap.size 1 .u8 x.lock ∧ (w.alloc (.cells (outC x).toArray t)).cell? ⟨w.heap.size, 0, none⟩ = some (.int .u64 x.val) := by
  have hr := range_new w (outC x) t
  have e : (outC x).toArray.size = 33 := List.size_toArray.trans (outC_length hl)
  have := there_new w (outC x).toArray t
  rw [e] at this
  refine ⟨⟨?_, ?_⟩, ?_⟩
  · have h := range_right (c := [Value.int .u64 x.val]) (d := vals .u8 x.lock) hr
    simpa using h
  · have h := there_part this 1 x.lock.length (by omega)
    simpa using h
  · have h := hr 0 _ rfl
    simpa using h

end Go.Proofs.YtbeegcpmpgdbnaaDoor

/-
  What tx.formed answers at this program, whatever the transaction.
-/
namespace Go.Proofs.YtbeegcpmpgdbnaaDoor
open Go.RowKit

/-- What holds at the head of a round of formed. -/
def Forming (w : World) (L : List TIn) (i : Value) (wr : World) : Prop := ∃ k : Nat, k ≤ L.length ∧ i = .int .i64 k ∧ Below w.heap.size w wr ∧ ∀ x ∈ L.take k, x.key.length ≤ 64
theorem in_there (w : World) : (w.alloc (.cells #[.int .u8 0, .int .u8 0, .int .u8 0, .int .u8 0, .int .u8 0, .int .u8 0, .int .u8 0, .int .u8 0, .int .u8 0, .int .u8 0, .int .u8 0, .int .u8 0, .int .u8 0, .int .u8 0, .int .u8 0, .int .u8 0, .int .u8 0, .int .u8 0, .int .u8 0, .int .u8 0, .int .u8 0, .int .u8 0, .int .u8 0, .int .u8 0, .int .u8 0, .int .u8 0, .int .u8 0, .int .u8 0, .int .u8 0, .int .u8 0, .int .u8 0, .int .u8 0, .int .u32 0, .slice none 0 0] 39)).there w.heap.size 0 34 := there_new w _ _
theorem out_there (w : World) : (w.alloc (.cells #[.int .u64 0, .int .u8 0, .int .u8 0, .int .u8 0, .int .u8 0, .int .u8 0, .int .u8 0, .int .u8 0, .int .u8 0, .int .u8 0, .int .u8 0, .int .u8 0, .int .u8 0, .int .u8 0, .int .u8 0, .int .u8 0, .int .u8 0, .int .u8 0, .int .u8 0, .int .u8 0, .int .u8 0, .int .u8 0, .int .u8 0, .int .u8 0, .int .u8 0, .int .u8 0, .int .u8 0, .int .u8 0, .int .u8 0, .int .u8 0, .int .u8 0, .int .u8 0, .int .u8 0] 60)).there w.heap.size 0 33 := there_new w _ _
theorem take_mem {α : Type} {L : List α} {k : Nat} {x y : α} (hk : L[k]? = some x) (h : y ∈ L.take (k + 1)) : y ∈ L.take k ∨ y = x := by
  have hlt : k < L.length := (List.getElem?_eq_some_iff.1 hk).1
  rw [List.take_succ_eq_append_getElem hlt] at h
  rcases List.mem_append.1 h with q | q
  · exact Or.inl q
  · right
    have := List.mem_singleton.1 q
    rw [this]
    exact (List.getElem?_eq_some_iff.1 hk).2
theorem inC_key {w : World} {b o : Nat} {x : TIn × Value} (h : w.rangeAt b o (inC x)) (hl : x.1.tx.length = 32) : w.cell? ⟨b, o + 33, none⟩ = some x.2 ∧ w.cell? ⟨b, o + 32, none⟩ = some (.int .u32 x.1.n) := by
  have hv : (vals .u8 x.1.tx).length = 32 := by rw [vals_length]; exact hl
  constructor
  · refine h 33 _ ?_
    unfold inC
    rw [List.getElem?_append_right (by omega), hv]
    rfl
  · refine h 32 _ ?_
    unfold inC
    rw [List.getElem?_append_right (by omega), hv]
    rfl

set_option maxRecDepth 100000 in
set_option maxHeartbeats 1000000 in
theorem formed_any (t : Tr) (iv ov : Value) (w : World) (hi : InsAt w iv t.ins) (ho : OutsAt w ov t.outs) (hl : ∀ x ∈ t.ins, x.tx.length = 32) :
    Calls Tryd.prog 39 #[.agg #[.int .u32 t.ver, iv, ov]] w fun e w' => e = .returned (.bool (formB t)) ∧ Below w.heap.size w w' := by
  have HI := hide hi
  have HL := hide hl
  obtain ⟨a, cap, rfl, hc1, hc2⟩ := hi.form
  obtain ⟨a', cap', rfl, hd1, hd2⟩ := ho.form
  clear hi ho hl
  obtain ⟨ver, ins, outs⟩ := t
  simp only at *
  by_cases h8 : ins.length ≤ 8
  · by_cases h9 : outs.length ≤ 8
    · have e8 : ¬ (8 : Int) < (ins.length : Int) := by omega
      have e9 : ¬ (8 : Int) < (outs.length : Int) := by omega
      have HS : Hid (Forming w ins (.int .i64 0) (w.alloc (.cells #[.int .u32 ver, .slice a ins.length cap, .slice a' outs.length cap'] 26))) := hide ⟨0, by omega, rfl, (Below.refl _ _).alloc (Nat.le_refl _) _, by simp⟩
      have HF : Hid (formB ⟨ver, ins, outs⟩ = ins.all fun x => decide (x.key.length ≤ 64)) := hide (by simp [formB, h8, h9])
      go_enter Tryd.func39, Tryd.ntmps39
      go_wp2
      go_loopw [18] (fun i wr => Forming w ins i wr) (fun i _ => ins.length - (intOf i).toNat)
      case atStart => exact HS.out
      case round =>
        clear HS
        obtain ⟨k, hk, rfl, hB, hall⟩ := hrel
        have HB := hide hB
        have HALL := hide hall
        clear hB hall
        by_cases hlt : k < ins.length
        · obtain ⟨x, hx⟩ : ∃ x, ins[k]? = some x := ⟨_, List.getElem?_eq_getElem hlt⟩
          obtain ⟨b, off, kv, rfl, hr, hbv⟩ := (HI.out.on HB.out).get hx
          have hxl := HL.out x (List.mem_of_getElem? hx)
          have HR := hide hr
          have HN : Hid ((Tryd.prog.info? 39).map (·.size) = some (inC (x, kv)).length) := hide (by rw [inC_length hxl]; exact info_in)
          have H1 : Hid (∀ u ∈ inC (x, kv), u.oneCell' = true) := hide (inC_one hbv.oneCell)
          have HT : Hid (∀ w : World, (w.alloc (.cells #[.int .u8 0, .int .u8 0, .int .u8 0, .int .u8 0, .int .u8 0, .int .u8 0, .int .u8 0, .int .u8 0, .int .u8 0, .int .u8 0, .int .u8 0, .int .u8 0, .int .u8 0, .int .u8 0, .int .u8 0, .int .u8 0, .int .u8 0, .int .u8 0, .int .u8 0, .int .u8 0, .int .u8 0, .int .u8 0, .int .u8 0, .int .u8 0, .int .u8 0, .int .u8 0, .int .u8 0, .int .u8 0, .int .u8 0, .int .u8 0, .int .u8 0, .int .u8 0, .int .u32 0, .slice none 0 0] 39)).there w.heap.size 0 (inC (x, kv)).length) := hide (fun w => by rw [inC_length hxl]; exact in_there w)
          have hk1 : (k : Int) < (ins.length : Int) := by omega
          obtain ⟨pa, pc, rfl, hp1, hp2⟩ := hbv.form
          have HX := hide hx
          clear hr hbv hx
          go_upto_region 6 with (first | (refine wpList_load_mid rfl 39 (.tmp 20) rfl b (off + k * 34) rfl (inC (x, .slice pa x.key.length pc)) _ HR.out Tryd.underlying39 rfl HN.out ?_) | (refine wp_store_row rfl 39 (.tmp 4) (.tmp 21) rfl wr.heap.size 0 (inC (x, .slice pa x.key.length pc)) rfl rfl (HT.out wr) HN.out H1.out ?_))
          have hW : ((wr.alloc (.cells #[.int .u8 0, .int .u8 0, .int .u8 0, .int .u8 0, .int .u8 0, .int .u8 0, .int .u8 0, .int .u8 0, .int .u8 0, .int .u8 0, .int .u8 0, .int .u8 0, .int .u8 0, .int .u8 0, .int .u8 0, .int .u8 0, .int .u8 0, .int .u8 0, .int .u8 0, .int .u8 0, .int .u8 0, .int .u8 0, .int .u8 0, .int .u8 0, .int .u8 0, .int .u8 0, .int .u8 0, .int .u8 0, .int .u8 0, .int .u8 0, .int .u8 0, .int .u8 0, .int .u32 0, .slice none 0 0] 39)).setCells wr.heap.size 0 (inC (x, .slice pa x.key.length pc))).rangeAt wr.heap.size 0 (inC (x, .slice pa x.key.length pc)) := World.rangeAt_setCells_same _ _ _ _ (HT.out wr)
          have hB2 : Below wr.heap.size wr ((wr.alloc (.cells #[.int .u8 0, .int .u8 0, .int .u8 0, .int .u8 0, .int .u8 0, .int .u8 0, .int .u8 0, .int .u8 0, .int .u8 0, .int .u8 0, .int .u8 0, .int .u8 0, .int .u8 0, .int .u8 0, .int .u8 0, .int .u8 0, .int .u8 0, .int .u8 0, .int .u8 0, .int .u8 0, .int .u8 0, .int .u8 0, .int .u8 0, .int .u8 0, .int .u8 0, .int .u8 0, .int .u8 0, .int .u8 0, .int .u8 0, .int .u8 0, .int .u8 0, .int .u8 0, .int .u32 0, .slice none 0 0] 39)).setCells wr.heap.size 0 (inC (x, .slice pa x.key.length pc))) := below_sets (Nat.le_refl _) _ _ _ ((Below.refl _ _).alloc (Nat.le_refl _) _)
          generalize (wr.alloc (.cells #[.int .u8 0, .int .u8 0, .int .u8 0, .int .u8 0, .int .u8 0, .int .u8 0, .int .u8 0, .int .u8 0, .int .u8 0, .int .u8 0, .int .u8 0, .int .u8 0, .int .u8 0, .int .u8 0, .int .u8 0, .int .u8 0, .int .u8 0, .int .u8 0, .int .u8 0, .int .u8 0, .int .u8 0, .int .u8 0, .int .u8 0, .int .u8 0, .int .u8 0, .int .u8 0, .int .u8 0, .int .u8 0, .int .u8 0, .int .u8 0, .int .u8 0, .int .u8 0, .int .u32 0, .slice none 0 0] 39)).setCells wr.heap.size 0 (inC (x, .slice pa x.key.length pc)) = W2 at *
          have hkc := (inC_key hW hxl).1
          rw [Nat.zero_add] at hkc
          simp only at hkc
          have HB2 := hide (below_on HB.out hB2)
          clear hW hB2 HR HN H1 HT
          generalize wr.heap.size = g at *
          by_cases h64 : x.key.length ≤ 64
          · have e64 : ¬ (64 : Int) < (x.key.length : Int) := by omega
            have R : Hid (Forming w ins (.int .i64 ((k + 1 : Nat) : Int)) W2) := hide ⟨k + 1, by omega, rfl, HB2.out, fun y hy => by
              rcases take_mem HX.out hy with q | rfl
              · exact HALL.out y q
              · exact h64⟩
            go_wp2
            go_roundw
            case rel => first | exact R.out | ((repeat apply Exists.intro); exact ⟨R.out, rfl⟩)
            case measure => simp [intOf]; omega
          · have e64 : (64 : Int) < (x.key.length : Int) := by omega
            have HE : Hid (formB ⟨ver, ins, outs⟩ = false) := hide (by
              rw [HF.out, List.all_eq_false]
              exact ⟨x, List.mem_of_getElem? HX.out, by simpa using h64⟩)
            go_wp2
            go_ret
            exact ⟨by rw [HE.out]; rfl, HB2.out⟩
        · have hk2 : (ins.length : Int) ≤ (k : Int) := by omega
          have HE : Hid (formB ⟨ver, ins, outs⟩ = true) := hide (by
            rw [HF.out, List.all_eq_true]
            have h := HALL.out
            rw [List.take_of_length_le (by omega)] at h
            exact fun x hx => decide_eq_true (h x hx))
          go_wp2
          go_ret
          exact ⟨by rw [HE.out]; rfl, HB.out⟩
    · have e8 : ¬ (8 : Int) < (ins.length : Int) := by omega
      have e9 : (8 : Int) < (outs.length : Int) := by omega
      have HF : Hid (formB ⟨ver, ins, outs⟩ = false) := hide (by simp [formB, h9])
      go_enter Tryd.func39, Tryd.ntmps39
      go_wp2
      go_ret
      exact ⟨by rw [HF.out]; rfl, (Below.refl _ _).alloc (Nat.le_refl _) _⟩
  · have e8 : (8 : Int) < (ins.length : Int) := by omega
    have HF : Hid (formB ⟨ver, ins, outs⟩ = false) := hide (by simp [formB, h8])
    go_enter Tryd.func39, Tryd.ntmps39
    go_wp2
    go_ret
    exact ⟨by rw [HF.out]; rfl, (Below.refl _ _).alloc (Nat.le_refl _) _⟩

end Go.Proofs.YtbeegcpmpgdbnaaDoor
