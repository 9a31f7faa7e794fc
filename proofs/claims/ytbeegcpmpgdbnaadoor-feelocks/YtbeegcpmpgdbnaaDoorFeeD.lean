import Derived.Test.YtbeegcpmpgdbnaaDoorShaB
import Derived.Test.YtbeegcpmpgdbnaaDoorCalB
import Derived.Deep.Cut
import Derived.Test.YtbeegcpmpgdbnaaDoorHashEq
import Derived.Test.YtbeegcpmpgdbnaaDoorTxStep
import Derived.Test.YtbeegcpmpgdbnaaDoorTxR
import Derived.Test.YtbeegcpmpgdbnaaDoorCalA
import Derived.Test.YtbeegcpmpgdbnaaDoorRowAdd
/-
  What fee.Lock and fee.Floor answer at this program.
-/
namespace Go.Proofs.YtbeegcpmpgdbnaaDoor
open Go.RowKit

set_option maxRecDepth 100000 in
set_option maxHeartbeats 1000000 in
theorem lock_any (w : World) (v : Value) (l : List Int) (h : Bytes w v l) (hk : Ks w) (hl : l.length ≤ 100000000) :
    Calls Tryd.prog 13 #[v] w fun e w' => e = .returned (.agg (vals .u8 (digest l)).toArray) ∧ Below w.heap.size w w' := by
  have S1 := hide (fun wx p (h : Bytes wx p l) (k : Ks wx) => sum_one wx p l h k hl)
  have HL1 := hide (digest_length l)
  have hb0 : Below w.heap.size w (w.alloc (.cells #[.int .u8 0, .int .u8 0, .int .u8 0, .int .u8 0, .int .u8 0, .int .u8 0, .int .u8 0, .int .u8 0, .int .u8 0, .int .u8 0, .int .u8 0, .int .u8 0, .int .u8 0, .int .u8 0, .int .u8 0, .int .u8 0, .int .u8 0, .int .u8 0, .int .u8 0, .int .u8 0, .int .u8 0, .int .u8 0, .int .u8 0, .int .u8 0, .int .u8 0, .int .u8 0, .int .u8 0, .int .u8 0, .int .u8 0, .int .u8 0, .int .u8 0, .int .u8 0] 34)) := (Below.refl w.heap.size w).alloc (Nat.le_refl _) _
  have HV := hide (h.below hb0)
  have HK := hide (hk.alloc (.cells #[.int .u8 0, .int .u8 0, .int .u8 0, .int .u8 0, .int .u8 0, .int .u8 0, .int .u8 0, .int .u8 0, .int .u8 0, .int .u8 0, .int .u8 0, .int .u8 0, .int .u8 0, .int .u8 0, .int .u8 0, .int .u8 0, .int .u8 0, .int .u8 0, .int .u8 0, .int .u8 0, .int .u8 0, .int .u8 0, .int .u8 0, .int .u8 0, .int .u8 0, .int .u8 0, .int .u8 0, .int .u8 0, .int .u8 0, .int .u8 0, .int .u8 0, .int .u8 0] 34))
  have HB0 := hide hb0
  have HT0 := hide (Arr.new w .u8 (List.replicate 32 0) 34)
  obtain ⟨a, cap, rfl, hc1, hc2⟩ := h.form
  clear h hk hb0
  generalize digest l = D1 at *
  go_enter Tryd.func13, Tryd.ntmps13
  go_upto_region 1 with fail
  change Hid (Arr (w.alloc (.cells #[.int .u8 0, .int .u8 0, .int .u8 0, .int .u8 0, .int .u8 0, .int .u8 0, .int .u8 0, .int .u8 0, .int .u8 0, .int .u8 0, .int .u8 0, .int .u8 0, .int .u8 0, .int .u8 0, .int .u8 0, .int .u8 0, .int .u8 0, .int .u8 0, .int .u8 0, .int .u8 0, .int .u8 0, .int .u8 0, .int .u8 0, .int .u8 0, .int .u8 0, .int .u8 0, .int .u8 0, .int .u8 0, .int .u8 0, .int .u8 0, .int .u8 0, .int .u8 0] 34)) w.heap.size 0 .u8 (List.replicate 32 0)) at HT0
  generalize w.alloc (.cells #[.int .u8 0, .int .u8 0, .int .u8 0, .int .u8 0, .int .u8 0, .int .u8 0, .int .u8 0, .int .u8 0, .int .u8 0, .int .u8 0, .int .u8 0, .int .u8 0, .int .u8 0, .int .u8 0, .int .u8 0, .int .u8 0, .int .u8 0, .int .u8 0, .int .u8 0, .int .u8 0, .int .u8 0, .int .u8 0, .int .u8 0, .int .u8 0, .int .u8 0, .int .u8 0, .int .u8 0, .int .u8 0, .int .u8 0, .int .u8 0, .int .u8 0, .int .u8 0] 34) = W0 at *
  go_wp2_with fail
  refine (S1.out W0 _ HV.out HK.out).mono ?_
  rintro e w1 ⟨rfl, hbel1⟩
  have HT1 : Hid (w1.there w.heap.size 0 32) := hide (by simpa using (HT0.out.on hbel1).2)
  have HB1 := hide (below_on HB0.out hbel1)
  clear hbel1 HT0 HB0 S1 HV HK
  go_wp2_with (refine wp_store_arr rfl 34 (.tmp 2) (.tmp 5) rfl _ 0 .u8 D1 rfl rfl 32 HT1.out info_h HL1.out ?_)
  refine ret_arr 2 34 rfl _ 0 rfl .u8 D1 (Arr.put (by rw [HL1.out]; exact HT1.out)) _ Tryd.underlying34 rfl 32 info_h HL1.out rfl ⟨rfl, below_sets (Nat.le_refl _) _ _ _ HB1.out⟩

/-- A size that is never below nought. -/
def sz0 (n : Int) : Nat := (max n 0).toNat
def floorV (n : Int) : Int := (needV (sz0 n) 100 : Nat)
set_option maxHeartbeats 1000000 in
theorem floor_any (n : Int) (h1 : -9223372036854775808 ≤ n) (h2 : n < 9223372036854775808) (w : World) :
    Calls Tryd.prog 15 #[.int .i64 n] w fun e w' => e = .returned (.int .u64 (floorV n)) ∧ Below w.heap.size w w' := by
  have C := hide (fun w => need_all (sz0 n) 100 (by unfold sz0; omega) (by omega) w)
  have e1 : IntKind.u64.wrap (max n 0) = (sz0 n : Int) := by
    rw [IntKind.wrap_u64]
    unfold sz0
    omega
  have HF : Hid (floorV n = (needV (sz0 n) 100 : Nat)) := hide rfl
  generalize needV (sz0 n) 100 = q at *
  generalize needE (sz0 n) 100 = e at *
  generalize sz0 n = s at *
  generalize floorV n = f at *
  clear h1 h2
  go_enter Tryd.func15, Tryd.ntmps15
  go_wp2_with fail
  refine (C.out _).mono ?_
  rintro e w' ⟨rfl, hb⟩
  have HB := hide hb
  clear hb C e1
  go_wp2
  go_ret
  exact ⟨by rw [HF.out]; first | done | rfl, HB.out⟩

end Go.Proofs.YtbeegcpmpgdbnaaDoor

/-
  What fee.opened answers at this program, whatever the inputs and the outputs.
-/
namespace Go.Proofs.YtbeegcpmpgdbnaaDoor
open Go.RowKit

/-- Each key opens its output's lock. -/
def Opens (L : List TIn) (M : List TOut) : Prop := ∀ (j : Nat) x y, L[j]? = some x → M[j]? = some y → digest x.key = y.lock
def Opening (w : World) (L : List TIn) (M : List TOut) (i : Value) (wr : World) : Prop := ∃ k : Nat, k ≤ L.length ∧ i = .int .i64 k ∧ Below w.heap.size w wr ∧ ∀ (j : Nat) x y, j < k → L[j]? = some x → M[j]? = some y → digest x.key = y.lock

set_option maxRecDepth 100000 in
set_option maxHeartbeats 2000000 in
theorem opened_any (L : List TIn) (M : List TOut) (iv ov : Value) (w : World) (hi : InsAt w iv L) (ho : OutsAt w ov M) (hlen : M.length = L.length) (hL : ∀ x ∈ L, x.tx.length = 32 ∧ x.key.length ≤ 100000000) (hM : ∀ y ∈ M, y.lock.length = 32) (_hn : L.length ≤ 1000000) (hk : Ks w) (r : Bool) (hr : r = true ↔ Opens L M) :
    Calls Tryd.prog 26 #[iv, ov] w fun e w' => e = .returned (.bool r) ∧ Below w.heap.size w w' := by
  have hnm : (Tryd.f13.name == "runtime.NumGoroutine") = false := by kernel_rfl
  have hbd : Tryd.f13.body.isNone = false := by kernel_rfl
  have HS : Hid (Opening w L M (.int .i64 0) w) := hide ⟨0, Nat.zero_le _, rfl, Below.refl _ _, fun j _ _ h => absurd h (Nat.not_lt_zero _)⟩
  have HI := hide hi
  have HO := hide ho
  have HL := hide hL
  have HM := hide hM
  have HK := hide hk
  have HR := hide hr
  obtain ⟨a, cap, rfl, hc1, hc2⟩ := hi.form
  have hfo := OutsAt.form ho
  rw [hlen] at hfo
  obtain ⟨a', cap', rfl, hd1, hd2⟩ := hfo
  clear hi ho hL hM hk hr
  go_enter Tryd.func26, Tryd.ntmps26
  go_wp2_with fail
  go_loopw [9] (fun i wr => Opening w L M i wr) (fun i _ => L.length - (intOf i).toNat)
  case atStart => exact HS.out
  case round =>
    clear HS
    obtain ⟨k, hk, rfl, hB, hall⟩ := hrel
    have HB := hide hB
    have HALL := hide hall
    by_cases hlt : k < L.length
    · obtain ⟨x, hx⟩ : ∃ x, L[k]? = some x := ⟨_, List.getElem?_eq_getElem hlt⟩
      obtain ⟨y, hy⟩ : ∃ y, M[k]? = some y := ⟨_, List.getElem?_eq_getElem (by omega)⟩
      obtain ⟨b, off, kv, rfl, hrx, hbv⟩ := (HI.out.on hB).get hx
      obtain ⟨b', off', rfl, hry⟩ := OutsAt.get (OutsAt.on HO.out hB) hy
      have hxl := (HL.out x (List.mem_of_getElem? hx)).1
      have HKL := hide (HL.out x (List.mem_of_getElem? hx)).2
      have HYL := hide (HM.out y (List.mem_of_getElem? hy))
      have HXR := hide hrx
      have HN : Hid ((Tryd.prog.info? 39).map (·.size) = some (inC (x, kv)).length) := hide (by rw [inC_length hxl]; exact info_in)
      have H1 : Hid (∀ u ∈ inC (x, kv), u.oneCell' = true) := hide (inC_one hbv.oneCell)
      have HT : Hid (∀ w : World, (w.alloc (.cells #[.int .u8 0, .int .u8 0, .int .u8 0, .int .u8 0, .int .u8 0, .int .u8 0, .int .u8 0, .int .u8 0, .int .u8 0, .int .u8 0, .int .u8 0, .int .u8 0, .int .u8 0, .int .u8 0, .int .u8 0, .int .u8 0, .int .u8 0, .int .u8 0, .int .u8 0, .int .u8 0, .int .u8 0, .int .u8 0, .int .u8 0, .int .u8 0, .int .u8 0, .int .u8 0, .int .u8 0, .int .u8 0, .int .u8 0, .int .u8 0, .int .u8 0, .int .u8 0, .int .u32 0, .slice none 0 0] 39)).there w.heap.size 0 (inC (x, kv)).length) := hide (fun w => by rw [inC_length hxl]; exact in_there w)
      have hk1 : (k : Int) < (L.length : Int) := by omega
      have HX := hide hx
      have HY := hide hy
      clear hx hy hB hall
      go_upto_region 4 with (first | (refine wpList_load_mid rfl 39 (.tmp 12) rfl b (off + k * 34) rfl (inC (x, kv)) _ HXR.out Tryd.underlying39 rfl HN.out ?_) | (refine wp_store_row rfl 39 (.tmp 6) (.tmp 13) rfl wr.heap.size 0 (inC (x, kv)) rfl rfl (HT.out wr) HN.out H1.out ?_))
      have hW : ((wr.alloc (.cells #[.int .u8 0, .int .u8 0, .int .u8 0, .int .u8 0, .int .u8 0, .int .u8 0, .int .u8 0, .int .u8 0, .int .u8 0, .int .u8 0, .int .u8 0, .int .u8 0, .int .u8 0, .int .u8 0, .int .u8 0, .int .u8 0, .int .u8 0, .int .u8 0, .int .u8 0, .int .u8 0, .int .u8 0, .int .u8 0, .int .u8 0, .int .u8 0, .int .u8 0, .int .u8 0, .int .u8 0, .int .u8 0, .int .u8 0, .int .u8 0, .int .u8 0, .int .u8 0, .int .u32 0, .slice none 0 0] 39)).setCells wr.heap.size 0 (inC (x, kv))).rangeAt wr.heap.size 0 (inC (x, kv)) := World.rangeAt_setCells_same _ _ _ _ (HT.out wr)
      have hB2 : Below wr.heap.size wr ((wr.alloc (.cells #[.int .u8 0, .int .u8 0, .int .u8 0, .int .u8 0, .int .u8 0, .int .u8 0, .int .u8 0, .int .u8 0, .int .u8 0, .int .u8 0, .int .u8 0, .int .u8 0, .int .u8 0, .int .u8 0, .int .u8 0, .int .u8 0, .int .u8 0, .int .u8 0, .int .u8 0, .int .u8 0, .int .u8 0, .int .u8 0, .int .u8 0, .int .u8 0, .int .u8 0, .int .u8 0, .int .u8 0, .int .u8 0, .int .u8 0, .int .u8 0, .int .u8 0, .int .u8 0, .int .u32 0, .slice none 0 0] 39)).setCells wr.heap.size 0 (inC (x, kv))) := below_sets (Nat.le_refl _) _ _ _ ((Below.refl _ _).alloc (Nat.le_refl _) _)
      generalize (wr.alloc (.cells #[.int .u8 0, .int .u8 0, .int .u8 0, .int .u8 0, .int .u8 0, .int .u8 0, .int .u8 0, .int .u8 0, .int .u8 0, .int .u8 0, .int .u8 0, .int .u8 0, .int .u8 0, .int .u8 0, .int .u8 0, .int .u8 0, .int .u8 0, .int .u8 0, .int .u8 0, .int .u8 0, .int .u8 0, .int .u8 0, .int .u8 0, .int .u8 0, .int .u8 0, .int .u8 0, .int .u8 0, .int .u8 0, .int .u8 0, .int .u8 0, .int .u8 0, .int .u8 0, .int .u32 0, .slice none 0 0] 39)).setCells wr.heap.size 0 (inC (x, kv)) = W at *
      have HB2 := hide (below_on HB.out hB2)
      have c33 := (inC_key hW hxl).1
      simp only [Nat.zero_add] at c33
      have HC := hide c33
      have HRY : Hid (W.rangeAt b' (off' + k * 33 + 1) (vals .u8 y.lock)) := hide (by
        have h := range_right (c := [Value.int .u64 y.val]) (d := vals .u8 y.lock) (range_on hry hB2)
        simpa using h)
      have HLY : Hid ((Tryd.prog.info? 34).map (·.size) = some (vals .u8 y.lock).length) := hide (by rw [vals_length, HYL.out]; exact info_hash)
      have hkb : Bytes W.drew kv x.key := (hbv.below hB2).drew
      have C := hide (lock_any W.drew kv x.key hkb ((HK.out.on HB2.out).on (Below.refl _ _).drew) HKL.out)
      have HD := hide (digest_length x.key)
      have EQ := fun w => eql_hash8 (digest x.key) y.lock HD.out HYL.out w
      obtain ⟨d, hd⟩ : ∃ d, d = decide (digest x.key = y.lock) := ⟨_, rfl⟩
      have HDD := hide hd
      rw [← hd] at EQ
      clear hd hW hB2 HXR HN H1 HT hrx hry hkb c33
      generalize hDg : digest x.key = D at *
      have HDG := hide hDg
      clear hDg
      generalize hgb : wr.heap.size = gb at *
      clear hgb
      try simp only [Act.put]
      refine wp_region_held_drew (S := fun wx => Below W.heap.size W wx) (by kernel_rfl) (Below.refl _ _).drew (fun hHeld => ?_)
      refine wpAnyH_take (i := 0) (oi := { dst := some 14, op := Op.fieldAddr 39 (Operand.tmp 6) 1, type := 0, pos := "fee.go:83", after := #[], guard := none }) (v := .pointer (some ⟨gb, 33, none⟩)) rfl (by kernel_rfl) (by kernel_rfl) (by kernel_rfl) (fun _ _ _ h => h) (Or.inl ⟨by rfl, fun w _ => by go_simp⟩) (by assumption) ?_
      simp only [Act.put, List.setIfInBounds_toArray, List.set_cons_zero, List.set_cons_succ]
      refine wpAnyH_take (i := 1) (oi := { dst := some 15, op := Op.load 37 (Operand.tmp 14), type := 37, pos := "fee.go:83", after := #[{ on := 0, ground := Ground.data }], guard := none }) (v := kv) rfl (by kernel_rfl) (by kernel_rfl) (by kernel_rfl) (fun _ _ _ h => h) (Or.inl ⟨by rfl, fun wx h => by have c0 := (h.cell (World.block_lt_of_cell? _ _ HC.out)).trans HC.out; go_simp⟩) (by assumption) ?_
      simp only [Act.put, List.setIfInBounds_toArray, List.set_cons_zero, List.set_cons_succ]
      refine wpAnyH_take (i := 3) (oi := { dst := some 17, op := Op.move (Operand.tmp 1), type := 24, pos := "fee.go:83", after := #[], guard := none }) (v := .slice (some ⟨b', off', none⟩) L.length cap') rfl (by kernel_rfl) (by kernel_rfl) (by kernel_rfl) (fun _ _ _ h => h) (Or.inl ⟨by rfl, fun w _ => by go_simp⟩) (by assumption) ?_
      simp only [Act.put, List.setIfInBounds_toArray, List.set_cons_zero, List.set_cons_succ]
      refine wpAnyH_take (i := 4) (oi := { dst := some 18, op := Op.move (Operand.tmp 5), type := 3, pos := "fee.go:83", after := #[], guard := none }) (v := .int .i64 (k : Int)) rfl (by kernel_rfl) (by kernel_rfl) (by kernel_rfl) (fun _ _ _ h => h) (Or.inl ⟨by rfl, fun w _ => by go_simp⟩) (by assumption) ?_
      simp only [Act.put, List.setIfInBounds_toArray, List.set_cons_zero, List.set_cons_succ]
      refine wpAnyH_take (i := 5) (oi := { dst := some 19, op := Op.indexAddr 24 (Operand.tmp 17) (Operand.tmp 18), type := 0, pos := "fee.go:83", after := #[{ on := 3, ground := Ground.data }, { on := 4, ground := Ground.data }], guard := none }) (v := .pointer (some ⟨b', off' + k * 33, none⟩)) rfl (by kernel_rfl) (by kernel_rfl) (by kernel_rfl) (fun _ _ _ h => h) (Or.inl ⟨by rfl, fun w _ => by go_simp⟩) (by assumption) ?_
      simp only [Act.put, List.setIfInBounds_toArray, List.set_cons_zero, List.set_cons_succ]
      refine wpAnyH_take (i := 6) (oi := { dst := some 20, op := Op.fieldAddr 60 (Operand.tmp 19) 1, type := 0, pos := "fee.go:83", after := #[{ on := 5, ground := Ground.data }], guard := none }) (v := .pointer (some ⟨b', off' + k * 33 + 1, none⟩)) rfl (by kernel_rfl) (by kernel_rfl) (by kernel_rfl) (fun _ _ _ h => h) (Or.inl ⟨by rfl, fun w _ => by go_simp⟩) (by assumption) ?_
      simp only [Act.put, List.setIfInBounds_toArray, List.set_cons_zero, List.set_cons_succ]
      refine wpAnyH_take (i := 7) (oi := { dst := some 21, op := Op.load 34 (Operand.tmp 20), type := 34, pos := "fee.go:83", after := #[{ on := 6, ground := Ground.data }], guard := none }) (v := .agg (vals .u8 y.lock).toArray) rfl (by kernel_rfl) (by kernel_rfl) (by kernel_rfl) (fun _ _ _ h => h) (yieldsIf_load_mid (by rfl) 34 (.tmp 20) rfl b' (off' + k * 33 + 1) rfl (vals .u8 y.lock) _ (fun w h => range_on HRY.out h) Tryd.underlying34 rfl HLY.out) (by assumption) ?_
      simp only [Act.put, List.setIfInBounds_toArray, List.set_cons_zero, List.set_cons_succ]
      refine wpAnyH_ready (rs := [2]) (by kernel_rfl) (by simp) (AllReadyH.cons (o := { dst := some 16, op := Op.call { callee := Callee.value (Operand.func 13), args := #[Operand.tmp 15], argTypes := #[37] }, type := 34, pos := "fee.go:83", after := #[{ on := 1, ground := Ground.data }], guard := none }) rfl (fun K hK => ?_) AllReadyH.nil)
      refine step_go (vs := #[kv]) rfl 13 _ Tryd.func13 hnm hbd _ _ rfl (by simp [Act.eval]) ?_
      refine C.out.mono ?_
      rintro e w3 ⟨rfl, hb3⟩
      refine ⟨_, rfl, ?_⟩
      refine hK.out _ _ ?_ (fun hHeld => ?_)
      · exact below_on (Below.refl _ _).drew hb3
      clear hK K
      try simp only [Act.put, List.setIfInBounds_toArray, List.set_cons_zero, List.set_cons_succ]
      refine wpAnyH_take (i := 8) (oi := { dst := some 22, op := Op.binOp BinOp.neq 34 (Operand.tmp 16) (Operand.tmp 21) 34, type := 4, pos := "fee.go:83", after := #[{ on := 2, ground := Ground.data }, { on := 7, ground := Ground.data }], guard := none }) (v := .bool (!d)) rfl (by kernel_rfl) (by kernel_rfl) (by kernel_rfl) (fun _ _ _ h => h) (Or.inl ⟨by rfl, fun w _ => by go_simp⟩) (by assumption) ?_
      simp only [Act.put, List.setIfInBounds_toArray, List.set_cons_zero, List.set_cons_succ]
      refine wpAnyH_done (by kernel_rfl) ?_ _
      clear hHeld
      have HB3 := hide (below_on HB2.out (below_on (Below.refl _ _).drew hb3))
      clear hb3
      cases d with
      | true =>
        have R : Hid (Opening w L M (.int .i64 ((k + 1 : Nat) : Int)) w3) := hide ⟨k + 1, by omega, rfl, HB3.out, fun j x1 y1 hj h1 h2 => by
          by_cases e : j = k
          · subst e
            rw [HX.out] at h1
            rw [HY.out] at h2
            cases h1
            cases h2
            rw [HDG.out]
            exact of_decide_eq_true HDD.out.symm
          · exact HALL.out j x1 y1 (by omega) h1 h2⟩
        clear HB3 EQ
        go_wp2
        go_roundw
        case rel => first | exact R.out | ((repeat apply Exists.intro); exact ⟨R.out, rfl⟩)
        case measure => simp [intOf]; omega
      | false =>
        have HF : Hid (r = false) := hide (by
          cases hr : r with
          | false => rfl
          | true =>
            have h := HR.out.1 hr k x y HX.out HY.out
            rw [HDG.out] at h
            have := of_decide_eq_false HDD.out.symm
            exact absurd h this)
        clear EQ
        go_wp2
        go_ret
        exact ⟨by rw [HF.out]; first | done | rfl, HB3.out⟩
    · have hk2 : (L.length : Int) ≤ (k : Int) := by omega
      have HF : Hid (r = true) := hide (HR.out.2 fun j x y h1 h2 => hall j x y (by
        have := (List.getElem?_eq_some_iff.1 h1).1
        omega) h1 h2)
      clear hB hall
      go_wp2
      go_ret
      exact ⟨by rw [HF.out]; first | done | rfl, HB.out⟩

end Go.Proofs.YtbeegcpmpgdbnaaDoor

/-
  What fee.total answers at this program, whatever the outputs: their values, added.
-/
namespace Go.Proofs.YtbeegcpmpgdbnaaDoor
open Go.RowKit

theorem infoU64 : (Tryd.prog.info? 29).map (fun i => (i.zero, i.size, i.bytes)) = some (some (.int .u64 0), 1, 8) := by kernel_rfl
def uC (K : List Int) : List (List Value) := K.map fun z => [Value.int .u64 z]
theorem slice_of_row {w : World} {base : Nat} {v : Value} {K : List Int} (h : RowOwn w base 29 1 v (uC K)) : Slice w v K := by
  have hr := h.row
  have hl : (uC K).length = K.length := by simp [uC]
  obtain ⟨a, cap, rfl, h2, h3, h4, h5⟩ := hr
  rw [hl] at *
  by_cases h0 : 0 < K.length
  · obtain ⟨b, off, rfl, hc⟩ := h5 h0
    refine Or.inr ⟨b, off, cap, rfl, fun i hi => ?_, by omega⟩
    have := hc i [.int .u64 (K.getD i 0)] (by simp [uC, List.getD, hi]) 0 _ rfl
    simpa using this
  · have e : K = [] := List.length_eq_zero_iff.1 (by omega)
    subst e
    exact Or.inl ⟨a, cap, rfl, rfl⟩
/-- The values. -/
def valsO (L : List TOut) : List Int := L.map TOut.val
def Totalling (w : World) (L : List TOut) (v i : Value) (wr : World) : Prop := ∃ k : Nat, k ≤ L.length ∧ i = .int .i64 k ∧ Below w.heap.size w wr ∧ RowOwn wr w.heap.size 29 1 v (uC (valsO (L.take k)))

set_option maxRecDepth 100000 in
set_option maxHeartbeats 1000000 in
theorem total_any (L : List TOut) (v : Value) (w : World) (h : OutsAt w v L) (hL : ∀ x ∈ L, OutOk x) (hn : L.length ≤ 1000) :
    Calls Tryd.prog 27 #[v] w fun e w' => e = .returned (.tuple #[.int .u64 (csumV (valsO L)), .int .i64 (sumE (valsO L))]) ∧ Below w.heap.size w w' := by
  have HS : Hid (Totalling w L (.slice none 0 0) (.int .i64 0) w) := hide ⟨0, Nat.zero_le _, rfl, Below.refl _ _, RowOwn.nil _ _ _ _⟩
  have HO := hide h
  have HL := hide hL
  obtain ⟨a, cap, rfl, hc1, hc2⟩ := OutsAt.form h
  clear h hL
  go_enter Tryd.func27, Tryd.ntmps27
  go_wp2_with fail
  go_loopw [4, 9] (fun v i wr => Totalling w L v i wr) (fun _ i _ => L.length - (intOf i).toNat)
  case atStart => exact HS.out
  case round =>
    clear HS
    obtain ⟨k, hk, rfl, hB, hown⟩ := hrel
    have HB := hide hB
    have HOWN := hide hown
    by_cases hlt : k < L.length
    · obtain ⟨x, hx⟩ : ∃ x, L[k]? = some x := ⟨_, List.getElem?_eq_getElem hlt⟩
      obtain ⟨b, off, rfl, hr⟩ := OutsAt.get (OutsAt.on HO.out hB) hx
      have hxo := HL.out x (List.mem_of_getElem? hx)
      have hxl := hxo.2.1
      have HXR := hide hr
      have HN : Hid ((Tryd.prog.info? 60).map (·.size) = some (outC x).length) := hide (by rw [outC_length hxl]; exact info_out)
      have H1 : Hid (∀ u ∈ outC x, u.oneCell' = true) := hide (outC_one x)
      have HT : Hid (∀ w : World, (w.alloc (.cells #[.int .u64 0, .int .u8 0, .int .u8 0, .int .u8 0, .int .u8 0, .int .u8 0, .int .u8 0, .int .u8 0, .int .u8 0, .int .u8 0, .int .u8 0, .int .u8 0, .int .u8 0, .int .u8 0, .int .u8 0, .int .u8 0, .int .u8 0, .int .u8 0, .int .u8 0, .int .u8 0, .int .u8 0, .int .u8 0, .int .u8 0, .int .u8 0, .int .u8 0, .int .u8 0, .int .u8 0, .int .u8 0, .int .u8 0, .int .u8 0, .int .u8 0, .int .u8 0, .int .u8 0] 60)).there w.heap.size 0 (outC x).length) := hide (fun w => by rw [outC_length hxl]; exact out_there w)
      have hk1 : (k : Int) < (L.length : Int) := by omega
      have HX := hide hx
      clear hr hx hxo hxl hB hown
      go_upto_region 5 with (first | (refine wpList_load_mid rfl 60 (.tmp 11) rfl b (off + k * 33) rfl (outC x) _ HXR.out Tryd.underlying60 rfl HN.out ?_) | (refine wp_store_row rfl 60 (.tmp 6) (.tmp 12) rfl wr.heap.size 0 (outC x) rfl rfl (HT.out wr) HN.out H1.out ?_))
      have hW : ((wr.alloc (.cells #[.int .u64 0, .int .u8 0, .int .u8 0, .int .u8 0, .int .u8 0, .int .u8 0, .int .u8 0, .int .u8 0, .int .u8 0, .int .u8 0, .int .u8 0, .int .u8 0, .int .u8 0, .int .u8 0, .int .u8 0, .int .u8 0, .int .u8 0, .int .u8 0, .int .u8 0, .int .u8 0, .int .u8 0, .int .u8 0, .int .u8 0, .int .u8 0, .int .u8 0, .int .u8 0, .int .u8 0, .int .u8 0, .int .u8 0, .int .u8 0, .int .u8 0, .int .u8 0, .int .u8 0] 60)).setCells wr.heap.size 0 (outC x)).rangeAt wr.heap.size 0 (outC x) := World.rangeAt_setCells_same _ _ _ _ (HT.out wr)
      have hB2 : Below wr.heap.size wr ((wr.alloc (.cells #[.int .u64 0, .int .u8 0, .int .u8 0, .int .u8 0, .int .u8 0, .int .u8 0, .int .u8 0, .int .u8 0, .int .u8 0, .int .u8 0, .int .u8 0, .int .u8 0, .int .u8 0, .int .u8 0, .int .u8 0, .int .u8 0, .int .u8 0, .int .u8 0, .int .u8 0, .int .u8 0, .int .u8 0, .int .u8 0, .int .u8 0, .int .u8 0, .int .u8 0, .int .u8 0, .int .u8 0, .int .u8 0, .int .u8 0, .int .u8 0, .int .u8 0, .int .u8 0, .int .u8 0] 60)).setCells wr.heap.size 0 (outC x)) := below_sets (Nat.le_refl _) _ _ _ ((Below.refl _ _).alloc (Nat.le_refl _) _)
      have c0 := hW 0 _ rfl
      simp only [Nat.add_zero] at c0
      generalize (wr.alloc (.cells #[.int .u64 0, .int .u8 0, .int .u8 0, .int .u8 0, .int .u8 0, .int .u8 0, .int .u8 0, .int .u8 0, .int .u8 0, .int .u8 0, .int .u8 0, .int .u8 0, .int .u8 0, .int .u8 0, .int .u8 0, .int .u8 0, .int .u8 0, .int .u8 0, .int .u8 0, .int .u8 0, .int .u8 0, .int .u8 0, .int .u8 0, .int .u8 0, .int .u8 0, .int .u8 0, .int .u8 0, .int .u8 0, .int .u8 0, .int .u8 0, .int .u8 0, .int .u8 0, .int .u8 0] 60)).setCells wr.heap.size 0 (outC x) = W2 at *
      have HB2 := hide (below_on HB.out hB2)
      have HOWN2 := hide (HOWN.out.move (w1 := W2) fun g _ hl => hB2.block g hl)
      clear hW hB2 HXR HN H1 HT HB HOWN
      generalize wr.heap.size = gb at *
      generalize hV : x.val = V at *
      have HVV := hide hV
      clear hV
      simp only [Act.put]
      have hbn := below_new W2 (.cells #[.int .u64 V] 29)
      have HNEW := hide (range_new W2 [.int .u64 V] 29)
      have HOWN3 := hide (HOWN2.out.move (w1 := W2.alloc (.cells #[.int .u64 V] 29)) fun g _ hl => hbn.block g hl)
      have HB4 := hide (HB2.out.alloc HB2.out.size (.cells #[.int .u64 V] 29))
      have hw4 : w.heap.size ≤ (W2.alloc (.cells #[.int .u64 V] 29)).heap.size := HB4.out.size
      obtain ⟨v4, w4, hrun, hrow5, hgr, hwh⟩ := run_append_row (W2.alloc (.cells #[.int .u64 V] 29)) 58 29 58 _ 1 8 Tryd.underlying58 infoU64 rfl (by omega) (by omega) w.heap.size u4 (uC (valsO (L.take k))) HOWN3.out W2.heap.size [.int .u64 V] HNEW.out ⟨rfl, fun y hy => by rw [List.mem_singleton.1 hy]; rfl⟩ (by simp [uC, valsO]; omega) hw4
      have hlt5 := HOWN3.out.lt
      have R1 : Hid (Below w.heap.size w w4) := hide (HB4.out.grown hgr hw4 fun j hj => (hlt5 j hj).1)
      have R : Hid (Totalling w L v4 (.int .i64 ((k + 1 : Nat) : Int)) w4) := hide ⟨k + 1, by omega, rfl, R1.out, by
        obtain ⟨e1, e2⟩ := List.getElem?_eq_some_iff.1 HX.out
        have e : uC (valsO (L.take (k + 1))) = uC (valsO (L.take k)) ++ [[.int .u64 V]] := by
          rw [List.take_succ_eq_append_getElem e1, e2]
          simp [uC, valsO, HVV.out]
        rw [e]
        exact hrow5⟩
      clear hbn hrow5 hgr hwh hw4 hlt5 R1 HOWN2 HOWN3 HB4 HNEW
      go_wp2_with (at_builtin; refine wp_app rfl (.tmp 13) (.tmp 16) 58 rfl (v1 := u4) (v2 := .slice (some ⟨W2.heap.size, 0, none⟩) 1 1) (v := v4) (w' := w4) rfl rfl ?_ ?_; exact hrun)
      go_roundw
      case rel => first | exact R.out | ((repeat apply Exists.intro); exact ⟨R.out, rfl⟩)
      case measure => simp [intOf]; omega
    · have hk2 : (L.length : Int) ≤ (k : Int) := by omega
      have htk : L.take k = L := List.take_of_length_le (by omega)
      rw [htk] at hown
      have C := csum_any (valsO L) u4 wr (fun z hz => by
        obtain ⟨x, hx, rfl⟩ := List.mem_map.1 hz
        exact (HL.out x hx).1) (slice_of_row hown)
      generalize hV : csumV (valsO L) = V at *
      generalize hE : sumE (valsO L) = E at *
      have HVE := hide (And.intro hV hE)
      clear hV hE hown HOWN
      go_wp2_with fail
      refine C.mono ?_
      clear C
      rintro e w1 ⟨rfl, rfl⟩
      clear hB
      go_wp2
      go_ret2
      exact ⟨by rw [HVE.out.1, HVE.out.2]; first | done | rfl, HB.out⟩

end Go.Proofs.YtbeegcpmpgdbnaaDoor
