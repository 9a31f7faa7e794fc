/-
  What tx.Put and Size answer at this program, whatever the transaction.
-/
import Derived.Test.YtjmifgdjmaelfabTxAddIn
import Derived.Test.YtjmifgdjmaelfabClon
namespace Go.Proofs.Ytjmifgdjmaelfab
open Go.RowKit

/-- What holds at the head of a round of Put. -/
def Putting {α : Type} (W0 : World) (f : α → List Int) (pre : List Int) (L : List α) (v i : Value) (wr : World) : Prop :=
  ∃ k : Nat, k ≤ L.length ∧ i = .int .i64 k ∧ Own wr W0.heap.size v (pre ++ (L.take k).flatMap f) ∧ Below W0.heap.size W0 wr
theorem flat_len {α : Type} {f : α → List Int} {m : Nat} : ∀ (L : List α), (∀ x ∈ L, (f x).length ≤ m) → (L.flatMap f).length ≤ L.length * m
  | [], _ => by simp
  | x :: L, h => by
    have h1 := flat_len L (fun y hy => h y (by simp [hy]))
    have h2 := h x (by simp)
    simp only [List.flatMap_cons, List.length_append, List.length_cons, Nat.add_mul]
    omega
theorem var9 (x : Int) : (var x).length ≤ 9 := by have := var_length x; rcases size_cases x with ⟨_, h⟩ | ⟨_, _, h⟩ | ⟨_, _, h⟩ | ⟨_, h⟩ <;> omega
theorem inB_len {x : TIn} (h : x.tx.length = 32) (hk : x.key.length ≤ 64) : (inB x).length ≤ 109 := by
  have := var9 (x.key.length : Int)
  simp only [inB, List.length_append, put_length]
  omega
theorem outB_len {x : TOut} (h : x.lock.length = 32) : (outB x).length ≤ 40 := by
  simp only [outB, List.length_append, put_length]
  omega
theorem take_flat {α : Type} {f : α → List Int} {L : List α} {k : Nat} {x : α} (hx : L[k]? = some x) : (L.take (k + 1)).flatMap f = (L.take k).flatMap f ++ f x := by
  have hlt : k < L.length := (List.getElem?_eq_some_iff.1 hx).1
  rw [List.take_succ_eq_append_getElem hlt, List.flatMap_append, (List.getElem?_eq_some_iff.1 hx).2]
  simp
theorem take_len {α : Type} {f : α → List Int} {m : Nat} {L : List α} (k : Nat) (h : ∀ x ∈ L, (f x).length ≤ m) (h8 : L.length ≤ 8) : ((L.take k).flatMap f).length ≤ 8 * m := by
  have := flat_len (L.take k) (fun x hx => h x (List.mem_of_mem_take hx))
  refine Nat.le_trans this (Nat.mul_le_mul_right m ?_)
  simp
  omega

set_option maxRecDepth 100000 in
set_option maxHeartbeats 2000000 in
theorem tput_form (t : Tr) (iv ov : Value) (w : World) (hi : InsAt w iv t.ins) (ho : OutsAt w ov t.outs) (hok : TrOk t) (hf : formB t = true) :
    Calls Try.prog 27 #[.agg #[.int .u32 t.ver, iv, ov]] w fun e w' => ∃ v', e = .returned (.tuple #[v', .int .i64 0]) ∧ Own w' w.heap.size v' (txB t) ∧ Below w.heap.size w w' := by
  obtain ⟨hv, hin, hout⟩ := hok
  obtain ⟨f1, f2, f3⟩ := (formB_iff t).1 hf
  have F := hide (fun wx h1 h2 => formed_any t iv ov wx h1 h2 (fun x hx => (hin x hx).1))
  rw [hf] at F
  have hbel : Below w.heap.size w (w.alloc (.cells #[.int .u32 t.ver, iv, ov] 28)) := (Below.refl _ _).alloc (Nat.le_refl _) _
  have HI := hide (hi.on hbel)
  have HO := hide (ho.on hbel)
  have HIN : Hid (∀ x ∈ t.ins, InOk x ∧ x.key.length ≤ 64 ∧ (inB x).length ≤ 109) := hide (fun x hx => ⟨hin x hx, f3 x hx, inB_len (hin x hx).1 (f3 x hx)⟩)
  have HOUT : Hid (∀ x ∈ t.outs, OutOk x ∧ (outB x).length ≤ 40) := hide (fun x hx => ⟨hout x hx, outB_len (hout x hx).2.1⟩)
  have hn := range_new w [.int .u32 t.ver, iv, ov] 28
  have n0 := hn 0 _ rfl
  have n1 := hn 1 _ rfl
  have n2 := hn 2 _ rfl
  simp only [Nat.add_zero, Nat.zero_add] at n0 n1 n2
  have HLOW : Hid (w.heap.size ≤ (w.alloc (.cells #[.int .u32 t.ver, iv, ov] 28)).heap.size) := hide hbel.size
  have HBW := hide hbel
  obtain ⟨a, cap, rfl, hc1, hc2⟩ := hi.form
  obtain ⟨a', cap', rfl, hd1, hd2⟩ := ho.form
  have AN := hide (fun wx B (h : B ≤ wx.heap.size) => addNumber_any wx B (.slice none 0 0) [] t.ver 4 (Or.inl rfl) hv.1 (by simpa using hv.2) (Own.nil _ _) h (by simp))
  clear hbel hi ho hin hout hn f3 hf
  obtain ⟨ver, ins, outs⟩ := t
  simp only at *
  have HT : Hid (∀ pre1 pre2, pre1 = put 4 ver ++ var (ins.length : Int) → pre2 = pre1 ++ ins.flatMap inB ++ var (outs.length : Int) → pre2 ++ outs.flatMap outB = txB ⟨ver, ins, outs⟩) := hide (by
    rintro _ _ rfl rfl
    simp [txB])
  have H4 : Hid ((put 4 ver).length = 4) := hide (put_length 4 ver)
  generalize hP4 : put 4 ver = p4 at *
  have HP4 := hide hP4
  clear hP4
  go_enter Try.func27, Try.ntmps27
  go_upto_region 1 with fail
  generalize w.alloc (.cells #[.int .u32 ver, .slice a ins.length cap, .slice a' outs.length cap'] 28) = W0 at *
  generalize hg0 : w.heap.size = g0 at *
  have HG0 := hide hg0
  clear hg0
  have on : Hid (∀ (wr : World), Below W0.heap.size W0 wr → wr.cell? ⟨g0, 0, none⟩ = some (.int .u32 ver) ∧ wr.cell? ⟨g0, 1, none⟩ = some (.slice a ins.length cap) ∧ wr.cell? ⟨g0, 2, none⟩ = some (.slice a' outs.length cap')) := hide (by
    intro wr hb
    exact ⟨(hb.cell (World.block_lt_of_cell? _ _ n0)).trans n0, (hb.cell (World.block_lt_of_cell? _ _ n1)).trans n1, (hb.cell (World.block_lt_of_cell? _ _ n2)).trans n2⟩)
  go_wp2_with fail
  refine (F.out _ HI.out HO.out).mono ?_
  rintro e w1 ⟨rfl, hb1⟩
  obtain ⟨m0, m1, m2⟩ := on.out w1 hb1
  have HB1 := hide hb1
  clear hb1 n0 n1 n2 F
  go_wp2_with fail
  refine (AN.out _ W0.heap.size HB1.out.size).mono ?_
  rintro e w2 ⟨v2, rfl, hown2, hg2⟩
  have hb2 := HB1.out.trans ((Own.nil w1 W0.heap.size).grew hg2 HB1.out.size)
  rw [List.nil_append] at hown2
  obtain ⟨k0, k1, k2⟩ := on.out w2 hb2
  have HB2 := hide hb2
  have AC := hide (addCount_any w2 W0.heap.size v2 _ ins.length (by omega) hown2 hb2.size (by have := H4.out; omega))
  have HO2 := hide hown2
  clear hown2 hg2 hb2 m0 m1 m2 AN HB1
  go_wp2_with fail
  refine AC.out.mono ?_
  rintro e w3 ⟨v3, rfl, hown3, hg3⟩
  have hb3 := HB2.out.trans (HO2.out.grew hg3 HB2.out.size)
  obtain ⟨q0, q1, q2⟩ := on.out w3 hb3
  have HPL : Hid ((p4 ++ var (ins.length : Int)).length ≤ 13) := hide (by have := H4.out; have := var9 (ins.length : Int); simp; omega)
  have HPE : Hid (p4 ++ var (ins.length : Int) = p4 ++ var (ins.length : Int)) := hide rfl
  generalize hpre : p4 ++ var (ins.length : Int) = pre at *
  have HPRE := hide hpre
  have HS : Hid (Putting W0 inB pre ins v3 (.int .i64 0) w3) := hide ⟨0, by omega, rfl, by simpa using hown3, hb3⟩
  clear hown3 hg3 hb3 k0 k1 k2 AC HO2 hpre HPE
  go_wp2_with fail
  go_loopw [4, 24] (fun v i wr => Putting W0 inB pre ins v i wr) (fun _ i _ => ins.length - (intOf i).toNat)
  case atStart => exact HS.out
  case round =>
    clear HS q0 q1 q2
    obtain ⟨k, hk, rfl, hown, hB⟩ := hrel
    have HB := hide hB
    have HOWN := hide hown
    have HLEN : Hid ((pre ++ (ins.take k).flatMap inB).length ≤ 1000) := hide (by
      have := take_len k (fun x hx => (HIN.out x hx).2.2) f1
      have := HPL.out
      simp only [List.length_append]
      omega)
    by_cases hlt : k < ins.length
    · obtain ⟨x, hx⟩ : ∃ x, ins[k]? = some x := ⟨_, List.getElem?_eq_getElem hlt⟩
      obtain ⟨b, off, kv, rfl, hr, hbv⟩ := HI.out.get hx
      obtain ⟨hxo, hx64, -⟩ := HIN.out x (List.mem_of_getElem? hx)
      have hxl := hxo.1
      have HR := hide (range_on hr hB)
      have HN : Hid ((Try.prog.info? 54).map (·.size) = some (inC (x, kv)).length) := hide (by rw [inC_length hxl]; exact info_in)
      have H1 : Hid (∀ u ∈ inC (x, kv), u.oneCell' = true) := hide (inC_one hbv.oneCell)
      have HTH : Hid (∀ w : World, (w.alloc (.cells #[.int .u8 0, .int .u8 0, .int .u8 0, .int .u8 0, .int .u8 0, .int .u8 0, .int .u8 0, .int .u8 0, .int .u8 0, .int .u8 0, .int .u8 0, .int .u8 0, .int .u8 0, .int .u8 0, .int .u8 0, .int .u8 0, .int .u8 0, .int .u8 0, .int .u8 0, .int .u8 0, .int .u8 0, .int .u8 0, .int .u8 0, .int .u8 0, .int .u8 0, .int .u8 0, .int .u8 0, .int .u8 0, .int .u8 0, .int .u8 0, .int .u8 0, .int .u8 0, .int .u32 0, .slice none 0 0] 54)).there w.heap.size 0 (inC (x, kv)).length) := hide (fun w => by rw [inC_length hxl]; exact in_there w)
      have HKV := hide (hbv.old (P := fun g => g < W0.heap.size) hB (fun g hg => hg))
      have HXO := hide hxo
      have HX := hide hx
      have hk1 : (k : Int) < (ins.length : Int) := by omega
      clear hr hbv hx hxo hown hB
      go_upto_region 8 with (first | (refine wpList_load_mid rfl 54 (.tmp 26) rfl b (off + k * 34) rfl (inC (x, kv)) _ HR.out Try.underlying54 rfl HN.out ?_) | (refine wp_store_row rfl 54 (.tmp 6) (.tmp 27) rfl wr.heap.size 0 (inC (x, kv)) rfl rfl (HTH.out wr) HN.out H1.out ?_))
      have hW : ((wr.alloc (.cells #[.int .u8 0, .int .u8 0, .int .u8 0, .int .u8 0, .int .u8 0, .int .u8 0, .int .u8 0, .int .u8 0, .int .u8 0, .int .u8 0, .int .u8 0, .int .u8 0, .int .u8 0, .int .u8 0, .int .u8 0, .int .u8 0, .int .u8 0, .int .u8 0, .int .u8 0, .int .u8 0, .int .u8 0, .int .u8 0, .int .u8 0, .int .u8 0, .int .u8 0, .int .u8 0, .int .u8 0, .int .u8 0, .int .u8 0, .int .u8 0, .int .u8 0, .int .u8 0, .int .u32 0, .slice none 0 0] 54)).setCells wr.heap.size 0 (inC (x, kv))).rangeAt wr.heap.size 0 (inC (x, kv)) := World.rangeAt_setCells_same _ _ _ _ (HTH.out wr)
      have hB2 : Below wr.heap.size wr ((wr.alloc (.cells #[.int .u8 0, .int .u8 0, .int .u8 0, .int .u8 0, .int .u8 0, .int .u8 0, .int .u8 0, .int .u8 0, .int .u8 0, .int .u8 0, .int .u8 0, .int .u8 0, .int .u8 0, .int .u8 0, .int .u8 0, .int .u8 0, .int .u8 0, .int .u8 0, .int .u8 0, .int .u8 0, .int .u8 0, .int .u8 0, .int .u8 0, .int .u8 0, .int .u8 0, .int .u8 0, .int .u8 0, .int .u8 0, .int .u8 0, .int .u8 0, .int .u8 0, .int .u8 0, .int .u32 0, .slice none 0 0] 54)).setCells wr.heap.size 0 (inC (x, kv))) := below_sets (Nat.le_refl _) _ _ _ ((Below.refl _ _).alloc (Nat.le_refl _) _)
      generalize (wr.alloc (.cells #[.int .u8 0, .int .u8 0, .int .u8 0, .int .u8 0, .int .u8 0, .int .u8 0, .int .u8 0, .int .u8 0, .int .u8 0, .int .u8 0, .int .u8 0, .int .u8 0, .int .u8 0, .int .u8 0, .int .u8 0, .int .u8 0, .int .u8 0, .int .u8 0, .int .u8 0, .int .u8 0, .int .u8 0, .int .u8 0, .int .u8 0, .int .u8 0, .int .u8 0, .int .u8 0, .int .u8 0, .int .u8 0, .int .u8 0, .int .u8 0, .int .u8 0, .int .u8 0, .int .u32 0, .slice none 0 0] 54)).setCells wr.heap.size 0 (inC (x, kv)) = W2 at *
      have HRW := hide hW
      have HOW := hide (HOWN.out.on hB2)
      have HBW2 : Hid (Below W0.heap.size W0 W2) := hide (below_on' HB.out hB2 (Nat.le_refl _))
      have AI := hide (addIn_any W2 W0.heap.size _ _ x kv HXO.out (by omega) (keeps_low HKV.out hB2 HB.out.size) HOW.out HBW2.out.size (by have := HLEN.out; omega))
      clear hW hB2 HR H1 HTH
      generalize wr.heap.size = g at *
      go_wp2_with (refine wpList_load_mid rfl 54 (.tmp 6) rfl g 0 rfl (inC (x, kv)) _ HRW.out Try.underlying54 rfl HN.out ?_)
      refine AI.out.mono ?_
      rintro e w4 ⟨v4, rfl, hown4, hg4⟩
      have hb4 := HBW2.out.trans (HOW.out.grew hg4 HBW2.out.size)
      have R : Hid (Putting W0 inB pre ins v4 (.int .i64 ((k + 1 : Nat) : Int)) w4) := hide ⟨k + 1, by omega, rfl, by rw [take_flat HX.out, ← List.append_assoc]; exact hown4, hb4⟩
      clear hown4 hg4 hb4 AI
      go_wp2
      go_roundw
      case rel => first | exact R.out | ((repeat apply Exists.intro); exact ⟨R.out, rfl⟩)
      case measure => simp [intOf]; omega
    · have hk2 : (ins.length : Int) ≤ (k : Int) := by omega
      have htk : ins.take k = ins := List.take_of_length_le (by omega)
      rw [htk] at HOWN HLEN
      obtain ⟨q0, q1, q2⟩ := on.out wr hB
      have AC := hide (addCount_any wr W0.heap.size _ _ outs.length (by omega) HOWN.out HB.out.size (by have := HLEN.out; omega))
      have HLEN2 : Hid ((pre ++ ins.flatMap inB ++ var (outs.length : Int)).length ≤ 1100) := hide (by have := HLEN.out; have := var9 (outs.length : Int); simp only [List.length_append] at *; omega)
      have HT2 := hide (HT.out _ _ rfl rfl)
      generalize pre ++ ins.flatMap inB ++ var (outs.length : Int) = pre2 at *
      clear hown hB htk
      go_wp2_with fail
      refine AC.out.mono ?_
      rintro e w3 ⟨v3, rfl, hown3, hg3⟩
      have hb3 := HB.out.trans (HOWN.out.grew hg3 HB.out.size)
      obtain ⟨q3, q4, q5⟩ := on.out w3 hb3
      have HS : Hid (Putting W0 outB pre2 outs v3 (.int .i64 0) w3) := hide ⟨0, by omega, rfl, by simpa using hown3, hb3⟩
      clear hown3 hg3 hb3 AC q0 q1 q2
      go_wp2_with fail
      go_loopw [4, 40] (fun v i wr => Putting W0 outB pre2 outs v i wr) (fun _ i _ => outs.length - (intOf i).toNat)
      case atStart => exact HS.out
      case round =>
        clear HS q3 q4 q5
        obtain ⟨k, hk, rfl, hown, hB⟩ := hrel
        have HB := hide hB
        have HOWN := hide hown
        have HLEN3 : Hid ((pre2 ++ (outs.take k).flatMap outB).length ≤ 2000) := hide (by
          have := take_len k (fun x hx => (HOUT.out x hx).2) f2
          have := HLEN2.out
          simp only [List.length_append]
          omega)
        by_cases hlt : k < outs.length
        · obtain ⟨x, hx⟩ : ∃ x, outs[k]? = some x := ⟨_, List.getElem?_eq_getElem hlt⟩
          obtain ⟨b, off, rfl, hr⟩ := HO.out.get hx
          obtain ⟨hxo, -⟩ := HOUT.out x (List.mem_of_getElem? hx)
          have hxl := hxo.2.1
          have HR := hide (range_on hr hB)
          have HN : Hid ((Try.prog.info? 84).map (·.size) = some (outC x).length) := hide (by rw [outC_length hxl]; exact info_out)
          have H1 : Hid (∀ u ∈ outC x, u.oneCell' = true) := hide (outC_one x)
          have HTH : Hid (∀ w : World, (w.alloc (.cells #[.int .u64 0, .int .u8 0, .int .u8 0, .int .u8 0, .int .u8 0, .int .u8 0, .int .u8 0, .int .u8 0, .int .u8 0, .int .u8 0, .int .u8 0, .int .u8 0, .int .u8 0, .int .u8 0, .int .u8 0, .int .u8 0, .int .u8 0, .int .u8 0, .int .u8 0, .int .u8 0, .int .u8 0, .int .u8 0, .int .u8 0, .int .u8 0, .int .u8 0, .int .u8 0, .int .u8 0, .int .u8 0, .int .u8 0, .int .u8 0, .int .u8 0, .int .u8 0, .int .u8 0] 84)).there w.heap.size 0 (outC x).length) := hide (fun w => by rw [outC_length hxl]; exact out_there w)
          have HXO := hide hxo
          have HX := hide hx
          have hk1 : (k : Int) < (outs.length : Int) := by omega
          clear hr hx hxo hown hB
          go_upto_region 14 with (first | (refine wpList_load_mid rfl 84 (.tmp 42) rfl b (off + k * 33) rfl (outC x) _ HR.out Try.underlying84 rfl HN.out ?_) | (refine wp_store_row rfl 84 (.tmp 8) (.tmp 43) rfl wr.heap.size 0 (outC x) rfl rfl (HTH.out wr) HN.out H1.out ?_))
          have hW : ((wr.alloc (.cells #[.int .u64 0, .int .u8 0, .int .u8 0, .int .u8 0, .int .u8 0, .int .u8 0, .int .u8 0, .int .u8 0, .int .u8 0, .int .u8 0, .int .u8 0, .int .u8 0, .int .u8 0, .int .u8 0, .int .u8 0, .int .u8 0, .int .u8 0, .int .u8 0, .int .u8 0, .int .u8 0, .int .u8 0, .int .u8 0, .int .u8 0, .int .u8 0, .int .u8 0, .int .u8 0, .int .u8 0, .int .u8 0, .int .u8 0, .int .u8 0, .int .u8 0, .int .u8 0, .int .u8 0] 84)).setCells wr.heap.size 0 (outC x)).rangeAt wr.heap.size 0 (outC x) := World.rangeAt_setCells_same _ _ _ _ (HTH.out wr)
          have hB2 : Below wr.heap.size wr ((wr.alloc (.cells #[.int .u64 0, .int .u8 0, .int .u8 0, .int .u8 0, .int .u8 0, .int .u8 0, .int .u8 0, .int .u8 0, .int .u8 0, .int .u8 0, .int .u8 0, .int .u8 0, .int .u8 0, .int .u8 0, .int .u8 0, .int .u8 0, .int .u8 0, .int .u8 0, .int .u8 0, .int .u8 0, .int .u8 0, .int .u8 0, .int .u8 0, .int .u8 0, .int .u8 0, .int .u8 0, .int .u8 0, .int .u8 0, .int .u8 0, .int .u8 0, .int .u8 0, .int .u8 0, .int .u8 0] 84)).setCells wr.heap.size 0 (outC x)) := below_sets (Nat.le_refl _) _ _ _ ((Below.refl _ _).alloc (Nat.le_refl _) _)
          generalize (wr.alloc (.cells #[.int .u64 0, .int .u8 0, .int .u8 0, .int .u8 0, .int .u8 0, .int .u8 0, .int .u8 0, .int .u8 0, .int .u8 0, .int .u8 0, .int .u8 0, .int .u8 0, .int .u8 0, .int .u8 0, .int .u8 0, .int .u8 0, .int .u8 0, .int .u8 0, .int .u8 0, .int .u8 0, .int .u8 0, .int .u8 0, .int .u8 0, .int .u8 0, .int .u8 0, .int .u8 0, .int .u8 0, .int .u8 0, .int .u8 0, .int .u8 0, .int .u8 0, .int .u8 0, .int .u8 0] 84)).setCells wr.heap.size 0 (outC x) = W2 at *
          have HRW := hide hW
          have HOW := hide (HOWN.out.on hB2)
          have HBW2 : Hid (Below W0.heap.size W0 W2) := hide (below_on' HB.out hB2 (Nat.le_refl _))
          have AI := hide (addOut_any W2 W0.heap.size _ _ x HXO.out HOW.out HBW2.out.size (by have := HLEN3.out; omega))
          clear hW hB2 HR H1 HTH
          generalize wr.heap.size = g at *
          go_wp2_with (refine wpList_load_mid rfl 84 (.tmp 8) rfl g 0 rfl (outC x) _ HRW.out Try.underlying84 rfl HN.out ?_)
          refine AI.out.mono ?_
          rintro e w4 ⟨v4, rfl, hown4, hg4⟩
          have hb4 := HBW2.out.trans (HOW.out.grew hg4 HBW2.out.size)
          have R : Hid (Putting W0 outB pre2 outs v4 (.int .i64 ((k + 1 : Nat) : Int)) w4) := hide ⟨k + 1, by omega, rfl, by rw [take_flat HX.out, ← List.append_assoc]; exact hown4, hb4⟩
          clear hown4 hg4 hb4 AI
          go_wp2
          go_roundw
          case rel => first | exact R.out | ((repeat apply Exists.intro); exact ⟨R.out, rfl⟩)
          case measure => simp [intOf]; omega
        · have hk2 : (outs.length : Int) ≤ (k : Int) := by omega
          have htk : outs.take k = outs := List.take_of_length_le (by omega)
          rw [htk, HT2.out] at HOWN
          have R : Hid (Own wr g0 u4 (txB ⟨ver, ins, outs⟩) ∧ Below g0 w wr) := hide ⟨HOWN.out.low HLOW.out, HBW.out.trans (HB.out.mono HLOW.out)⟩
          clear hown hB htk
          go_wp2
          go_ret2
          rw [HG0.out]
          exact ⟨_, rfl, R.out⟩

theorem tput_long (t : Tr) (iv ov : Value) (w : World) (hi : InsAt w iv t.ins) (ho : OutsAt w ov t.outs) (hok : TrOk t) (hf : formB t = false) :
    Calls Try.prog 27 #[.agg #[.int .u32 t.ver, iv, ov]] w fun e w' => ∃ v', e = .returned (.tuple #[v', .int .i64 5]) ∧ Own w' w.heap.size v' [] ∧ Below w.heap.size w w' := by
  have hbel : Below w.heap.size w (w.alloc (.cells #[.int .u32 t.ver, iv, ov] 28)) := (Below.refl _ _).alloc (Nat.le_refl _) _
  have F := hide (formed_any t iv ov _ (hi.on hbel) (ho.on hbel) (fun x hx => (hok.2.1 x hx).1))
  rw [hf] at F
  have HB := hide hbel
  obtain ⟨a, cap, rfl, hc1, hc2⟩ := hi.form
  obtain ⟨a', cap', rfl, hd1, hd2⟩ := ho.form
  clear hi ho hok hf hbel
  obtain ⟨ver, ins, outs⟩ := t
  simp only at *
  go_enter Try.func27, Try.ntmps27
  go_wp2_with fail
  refine F.out.mono ?_
  rintro e w1 ⟨rfl, hb1⟩
  have R := hide (below_on HB.out hb1)
  clear hb1
  go_wp2
  go_ret2
  exact ⟨_, rfl, Own.nil _ _, R.out⟩
theorem tput_any (t : Tr) (iv ov : Value) (w : World) (hi : InsAt w iv t.ins) (ho : OutsAt w ov t.outs) (hok : TrOk t) :
    Calls Try.prog 27 #[.agg #[.int .u32 t.ver, iv, ov]] w fun e w' => ∃ v', e = .returned (.tuple #[v', .int .i64 (ptE t)]) ∧ Own w' w.heap.size v' (ptL t) ∧ Below w.heap.size w w' := by
  unfold ptL ptE
  cases hf : formB t with
  | true =>
    rw [if_pos rfl, if_pos rfl]
    exact tput_form t iv ov w hi ho hok hf
  | false =>
    rw [if_neg (by decide), if_neg (by decide)]
    exact tput_long t iv ov w hi ho hok hf
end Go.Proofs.Ytjmifgdjmaelfab
