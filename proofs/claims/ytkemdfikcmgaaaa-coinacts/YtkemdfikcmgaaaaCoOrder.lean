/-
  What coin.order answers at this program, whatever the coins.
-/
import Derived.Test.YtkemdfikcmgaaaaCoSet
import Derived.Test.YtkemdfikcmgaaaaTxStep
import Derived.Lib.BytesEntry
import Derived.Lib.Bytes
import Derived.Lib.Bytealg
import Derived.Sort.Grow
namespace Go.Proofs.Ytkemdfikcmgaaaa
open Go.RowKit

theorem u8_lt {a b : Int} (ha : Byte a) (hb : Byte b) : UInt8.ofNat a.toNat < UInt8.ofNat b.toNat ↔ a < b := by
  unfold Byte at ha hb
  rw [UInt8.lt_iff_toNat_lt]
  simp only [UInt8.toNat_ofNat']
  omega
theorem lexB_bytes : ∀ l m : List Int, AllB l → AllB m → Lib.compareBytes (Lib.bytesOf l) (Lib.bytesOf m) = lexB l m
  | [], [], _, _ => rfl
  | [], _ :: _, _, _ => rfl
  | _ :: _, [], _, _ => rfl
  | a :: l, b :: m, hl, hm => by
    have ih := lexB_bytes l m (fun z hz => hl z (by simp [hz])) (fun z hz => hm z (by simp [hz]))
    have h1 := u8_lt (hl a (by simp)) (hm b (by simp))
    have h2 := u8_lt (hm b (by simp)) (hl a (by simp))
    show (if UInt8.ofNat a.toNat < UInt8.ofNat b.toNat then (-1 : Int) else if UInt8.ofNat b.toNat < UInt8.ofNat a.toNat then 1 else Lib.compareBytes (Lib.bytesOf l) (Lib.bytesOf m)) = (if a < b then -1 else if b < a then 1 else lexB l m)
    rw [ih]
    by_cases c1 : a < b
    · rw [if_pos (h1.2 c1), if_pos c1]
    · rw [if_neg (fun h => c1 (h1.1 h)), if_neg c1]
      by_cases c2 : b < a
      · rw [if_pos (h2.2 c2), if_pos c2]
      · rw [if_neg (fun h => c2 (h2.1 h)), if_neg c2]
theorem run_bytesOf {w : World} {v : Value} {l : List Int} (h : Bytes w v l) : (Extern.Bytes.bytesOf v).run Try.prog w = .ok ⟨(Lib.bytesOf l).toArray⟩ w := by
  obtain ⟨a, cap, rfl, -, -, hnone, hcell⟩ := h
  by_cases hl : 0 < l.length
  · obtain ⟨b, off, rfl, hc⟩ := hcell hl
    have := Lib.run_loadBytesX (P := Try.prog) (w := w) l ⟨b, off, none⟩ .empty (fun j x hj => by
      have hj2 := (List.getElem?_eq_some_iff.1 hj).1
      have := hc j hj2
      rw [Addr.add_mid, this]
      simp [List.getD, hj])
    show (Extern.Bytes.loadBytes _ _ _).run Try.prog w = _
    rw [this]
    congr 1
    show (⟨#[] ++ (Lib.bytesOf l).toArray⟩ : ByteArray) = _
    rw [Array.empty_append]
  · obtain rfl : l = [] := List.length_eq_zero_iff.1 (by omega)
    cases a with
    | none => rfl
    | some a => rfl
theorem run_compare {w : World} {v v' : Value} {l m : List Int} (h : Bytes w v l) (h' : Bytes w v' m) (hl : AllB l) (hm : AllB m) : (Extern.BytealgCompare.compare #[v, v']).run Try.prog w = .ok (.int .i64 (lexB l m)) w := by
  change Sem.run Try.prog (do pure (goInt (Extern.BytealgCompare.cmp (← Extern.Bytes.bytesOf v) (← Extern.Bytes.bytesOf v')))) w = _
  simp only [Sem.run_bind, run_bytesOf h, run_bytesOf h', Sem.run_pure, Result.andThen]
  rw [Lib.cmp_eq, ← lexB_bytes l m hl hm]
  rfl
set_option maxRecDepth 100000 in
set_option maxHeartbeats 1000000 in
theorem bcompare_any (w : World) (v v' : Value) (l m : List Int) (h : Bytes w v l) (h' : Bytes w v' m) (hl : AllB l) (hm : AllB m) :
    Calls Try.prog 38 #[v, v'] w fun e w' => e = .returned (.int .i64 (lexB l m)) ∧ w' = w := by
  have HR := hide (run_compare h h' hl hm)
  clear h h' hl hm
  go_enter Try.func38, Try.ntmps38
  go_wp2
  rw [run_callFunc_extern Try.func51 (by kernel_rfl) (by kernel_rfl) (by kernel_rfl) (e := Extern.BytealgCompare.compare) (by kernel_rfl), HR.out]
  simp only [Result.andThen]
  rw [Oper.upon_value]
  go_wp2
  go_ret
  exact ⟨rfl, rfl⟩
theorem cnan_any (x : Int) (w : World) : Calls Try.prog 52 #[.int .u32 x] w fun e w' => e = .returned (.bool false) ∧ w' = w := by
  go_enter Try.func52, Try.ntmps52
  go_wp2
  go_ret
  exact ⟨rfl, rfl⟩
set_option maxRecDepth 100000 in
set_option maxHeartbeats 1000000 in
theorem ccmp_any (x y : Int) (w : World) : Calls Try.prog 39 #[.int .u32 x, .int .u32 y] w fun e w' => e = .returned (.int .i64 (cmpN x y)) ∧ w' = w := by
  have CX := hide (cnan_any x w)
  have CY := hide (cnan_any y w)
  unfold cmpN
  by_cases h1 : x < y
  · go_enter Try.func39, Try.ntmps39
    go_wp2_with fail
    refine CX.out.mono ?_
    rintro e w1 ⟨rfl, rfl⟩
    go_wp2_with fail
    refine CY.out.mono ?_
    rintro e w2 ⟨rfl, rfl⟩
    go_wp2
    go_ret
    exact ⟨rfl, rfl⟩
  · by_cases h2 : y < x
    · go_enter Try.func39, Try.ntmps39
      go_wp2_with fail
      refine CX.out.mono ?_
      rintro e w1 ⟨rfl, rfl⟩
      go_wp2_with fail
      refine CY.out.mono ?_
      rintro e w2 ⟨rfl, rfl⟩
      go_wp2
      go_ret
      exact ⟨rfl, rfl⟩
    · go_enter Try.func39, Try.ntmps39
      go_wp2_with fail
      refine CX.out.mono ?_
      rintro e w1 ⟨rfl, rfl⟩
      go_wp2_with fail
      refine CY.out.mono ?_
      rintro e w2 ⟨rfl, rfl⟩
      go_wp2
      go_ret
      exact ⟨rfl, rfl⟩
theorem tx_bytes {w : World} {g : Nat} {c : Cn} (h : w.rangeAt g 0 (cnC c)) (hc : CnOk c) : Bytes w (.slice (some ⟨g, 0, none⟩) 32 32) c.tx := by
  have hl : c.tx.length = 32 := hc.1.1
  refine ⟨_, 32, by rw [hl], by omega, by omega, by simp, fun _ => ⟨g, 0, rfl, fun i hi => ?_⟩⟩
  refine h i _ ?_
  unfold cnC ptC
  rw [List.append_assoc, List.getElem?_append_left (by rw [vals_length]; exact hi)]
  have := vals_get .u8 c.tx i hi
  simpa using this
theorem n_cell {w : World} {g : Nat} {c : Cn} (h : w.rangeAt g 0 (cnC c)) (hc : CnOk c) : w.cell? ⟨g, 32, none⟩ = some (.int .u32 c.n) := by
  have hl : c.tx.length = 32 := hc.1.1
  have := h 32 (.int .u32 c.n) (by
    unfold cnC ptC
    rw [List.append_assoc, List.getElem?_append_right (by rw [vals_length]; omega), vals_length, hl]
    rfl)
  simpa using this
set_option maxRecDepth 100000 in
set_option maxHeartbeats 1000000 in
theorem order_any (x y : Cn) (hx : CnOk x) (hy : CnOk y) (w : World) :
    Calls Try.prog 33 #[.agg (cnC x).toArray, .agg (cnC y).toArray] w fun e w' => e = .returned (.int .i64 (cmpPt x.pt y.pt)) ∧ ∃ q os, w' = Go.Sort.grow (w.drewN q) os := by
  have hb2 := below_new (w.alloc (.cells (cnC x).toArray 59)) (.cells (cnC y).toArray 59)
  have hrx := range_on (range_new w (cnC x) 59) hb2
  have hry := range_new (w.alloc (.cells (cnC x).toArray 59)) (cnC y) 59
  rw [alloc_size] at hry
  have HBX := hide (tx_bytes hrx hx)
  have HBY := hide (tx_bytes hry hy)
  have nx := n_cell hrx hx
  have ny := n_cell hry hy
  have HW : Hid (∀ n, ∃ q os, ((w.alloc (.cells (cnC x).toArray 59)).alloc (.cells (cnC y).toArray 59)).drewN n = Go.Sort.grow (w.drewN q) os) := hide (fun n => ⟨n, _, by
    rw [Go.Sort.alloc_eq_grow, Go.Sort.alloc_eq_grow, Go.Sort.grow_grow]
    rfl⟩)
  have HB := hide (show AllB x.tx ∧ AllB y.tx from ⟨hx.1.2.1, hy.1.2.1⟩)
  clear hb2 hrx hry hx hy
  go_enter Try.func33, Try.ntmps33
  go_upto_region 1 with fail
  generalize (w.alloc (.cells (cnC x).toArray 59)).alloc (.cells (cnC y).toArray 59) = W at *
  have CB := hide (bcompare_any W.drew _ _ _ _ HBX.out.drew HBY.out.drew HB.out.1 HB.out.2)
  generalize hg : w.heap.size = g at *
  clear hg
  have hnm : (Try.f38.name == "runtime.NumGoroutine") = false := by kernel_rfl
  have hbd : Try.f38.body.isNone = false := by kernel_rfl
  refine wp_region_held_drew (S := fun _ => True) (by kernel_rfl) trivial (fun hHeld => ?_)
  refine wpAnyH_take (i := 0) (oi := { dst := some 6, op := Op.fieldAddr 59 (Operand.tmp 2) 0, type := 0, pos := "coin.go:117", after := #[], guard := none }) (v := .pointer (some ⟨g, 0, none⟩)) rfl (by kernel_rfl) (by kernel_rfl) (by kernel_rfl) (fun _ _ _ h => h) (Or.inl ⟨by rfl, fun w _ => by go_simp⟩) (by assumption) ?_
  simp only [Act.put, List.setIfInBounds_toArray, List.set_cons_zero, List.set_cons_succ]
  refine wpAnyH_take (i := 1) (oi := { dst := some 7, op := Op.fieldAddr 47 (Operand.tmp 6) 0, type := 0, pos := "coin.go:117", after := #[{ on := 0, ground := Ground.data }], guard := none }) (v := .pointer (some ⟨g, 0, none⟩)) rfl (by kernel_rfl) (by kernel_rfl) (by kernel_rfl) (fun _ _ _ h => h) (Or.inl ⟨by rfl, fun w _ => by go_simp⟩) (by assumption) ?_
  simp only [Act.put, List.setIfInBounds_toArray, List.set_cons_zero, List.set_cons_succ]
  refine wpAnyH_take (i := 2) (oi := { dst := some 8, op := Op.slice 44 (Operand.tmp 7) none none none, type := 83, pos := "coin.go:117", after := #[{ on := 1, ground := Ground.data }], guard := none }) (v := .slice (some ⟨g, 0, none⟩) 32 32) rfl (by kernel_rfl) (by kernel_rfl) (by kernel_rfl) (fun _ _ _ h => h) (Or.inl ⟨by rfl, fun w _ => by go_simp⟩) (by assumption) ?_
  simp only [Act.put, List.setIfInBounds_toArray, List.set_cons_zero, List.set_cons_succ]
  refine wpAnyH_take (i := 3) (oi := { dst := some 9, op := Op.fieldAddr 59 (Operand.tmp 3) 0, type := 0, pos := "coin.go:117", after := #[], guard := none }) (v := .pointer (some ⟨g + 1, 0, none⟩)) rfl (by kernel_rfl) (by kernel_rfl) (by kernel_rfl) (fun _ _ _ h => h) (Or.inl ⟨by rfl, fun w _ => by go_simp⟩) (by assumption) ?_
  simp only [Act.put, List.setIfInBounds_toArray, List.set_cons_zero, List.set_cons_succ]
  refine wpAnyH_take (i := 4) (oi := { dst := some 10, op := Op.fieldAddr 47 (Operand.tmp 9) 0, type := 0, pos := "coin.go:117", after := #[{ on := 3, ground := Ground.data }], guard := none }) (v := .pointer (some ⟨g + 1, 0, none⟩)) rfl (by kernel_rfl) (by kernel_rfl) (by kernel_rfl) (fun _ _ _ h => h) (Or.inl ⟨by rfl, fun w _ => by go_simp⟩) (by assumption) ?_
  simp only [Act.put, List.setIfInBounds_toArray, List.set_cons_zero, List.set_cons_succ]
  refine wpAnyH_take (i := 5) (oi := { dst := some 11, op := Op.slice 44 (Operand.tmp 10) none none none, type := 83, pos := "coin.go:117", after := #[{ on := 4, ground := Ground.data }], guard := none }) (v := .slice (some ⟨g + 1, 0, none⟩) 32 32) rfl (by kernel_rfl) (by kernel_rfl) (by kernel_rfl) (fun _ _ _ h => h) (Or.inl ⟨by rfl, fun w _ => by go_simp⟩) (by assumption) ?_
  simp only [Act.put, List.setIfInBounds_toArray, List.set_cons_zero, List.set_cons_succ]
  refine wpAnyH_ready (rs := [6]) (by kernel_rfl) (by simp) (AllReadyH.cons (o := { dst := some 12, op := Op.call { callee := Callee.value (Operand.func 38), args := #[Operand.tmp 8, Operand.tmp 11], argTypes := #[83, 83] }, type := 3, pos := "coin.go:117", after := #[{ on := 2, ground := Ground.data }, { on := 5, ground := Ground.data }], guard := none }) rfl (fun K hK => ?_) AllReadyH.nil)
  refine step_go (vs := #[.slice (some ⟨g, 0, none⟩) 32 32, .slice (some ⟨g + 1, 0, none⟩) 32 32]) rfl 38 _ Try.func38 hnm hbd _ _ rfl (by simp [Act.eval]) ?_
  refine CB.out.mono ?_
  rintro e w3 ⟨rfl, rfl⟩
  refine ⟨_, rfl, ?_⟩
  refine hK.out _ _ ?_ (fun hHeld => ?_)
  · trivial
  clear hK K
  try simp only [Act.put, List.setIfInBounds_toArray, List.set_cons_zero, List.set_cons_succ]
  refine wpAnyH_take (i := 7) (oi := { dst := some 5, op := Op.assign (Operand.tmp 12), type := 3, pos := "coin.go:117", after := #[{ on := 6, ground := Ground.data }, { on := 6, ground := Ground.chain }, { on := 0, ground := Ground.phase }, { on := 1, ground := Ground.phase }, { on := 2, ground := Ground.phase }, { on := 3, ground := Ground.phase }, { on := 4, ground := Ground.phase }, { on := 5, ground := Ground.phase }, { on := 6, ground := Ground.phase }], guard := none }) (v := .int .i64 (lexB x.tx y.tx)) rfl (by kernel_rfl) (by kernel_rfl) (by kernel_rfl) (fun _ _ _ h => h) (Or.inl ⟨by rfl, fun w _ => by go_simp⟩) (by assumption) ?_
  simp only [Act.put, List.setIfInBounds_toArray, List.set_cons_zero, List.set_cons_succ]
  refine wpAnyH_done (by kernel_rfl) ?_ _
  clear hHeld
  have HWN := hide (HW.out 1)
  have HWD : Hid (W.drewN 1 = W.drew) := hide rfl
  have CN := hide (ccmp_any x.n y.n W.drew)
  by_cases h0 : lexB x.tx y.tx = 0
  · have HE : Hid (cmpPt x.pt y.pt = cmpN x.n y.n) := hide (if_pos h0)
    generalize cmpN x.n y.n = r at *
    go_wp2_with (go_at_call 39; refine CN.out.mono ?_; rintro e w3 ⟨rfl, rfl⟩)
    go_ret
    exact ⟨by rw [HE.out]; first | done | rfl, HWN.out⟩
  · have HE : Hid (cmpPt x.pt y.pt = lexB x.tx y.tx) := hide (if_neg h0)
    generalize lexB x.tx y.tx = r at *
    go_wp2
    go_ret
    exact ⟨by rw [HE.out]; first | done | rfl, HWN.out⟩

end Go.Proofs.Ytkemdfikcmgaaaa
