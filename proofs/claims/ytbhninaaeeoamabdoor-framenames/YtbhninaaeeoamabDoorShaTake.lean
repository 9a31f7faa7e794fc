/-
  What sha.first and (*sha.Hasher).take do at this program.
-/
import Derived.Test.YtbhninaaeeoamabDoorShaMem
import Derived.Test.YtbhninaaeeoamabDoorShaBlock
import Derived.Test.YtbhninaaeeoamabDoorCuts
namespace Go.Proofs.YtbhninaaeeoamabDoor
open Go.RowKit

theorem first_any (w : World) : Calls Tryd.prog 38 #[] w fun e w' => e = .returned (.agg (vals .u32 firstI).toArray) ∧ Below w.heap.size w w' := by
  go_enter Tryd.func38, Tryd.ntmps38
  go_wp2
  refine ret_arr 0 66 rfl _ 0 rfl .u32 firstI (Arr.new w .u32 firstI 66) _ Tryd.underlying66 rfl 8 info_s rfl rfl ⟨rfl, (Below.refl _ _).alloc (Nat.le_refl _) _⟩

/-- What holds at the head of a round. -/
def Taking (w : World) (b : Nat) (m l : List Int) (v : Value) (wr : World) : Prop :=
  ∃ k : Nat, k ≤ l.length ∧ Src wr b v (l.drop k) ∧ Under wr b (m ++ l.take k) ∧ Only b w wr
theorem Taking.next {w W3 : World} {b k n : Nat} {m l x : List Int} {v : Value} (hk : k + n ≤ l.length) (hx : x = (l.drop k).take n) (hS : Src W3 b v ((l.drop k).drop n)) (hU : Under W3 b ((m ++ l.take k) ++ x)) (hO : Only b w W3) : Taking w b m l v W3 := by
  refine ⟨k + n, hk, ?_, ?_, hO⟩
  · rw [List.drop_drop] at hS
    exact hS
  · rw [List.take_add, ← hx, ← List.append_assoc]
    exact hU
def lenOf : Value → Nat
  | .slice _ n _ => n
  | _ => 0

/-- 'copy', of bytes into cells that are there, as one step of a region that draws its order. -/
theorem step_copy {ops : Array Oper} {o : Oper} {a : Act} {w : World} {K : Act → World → Prop} {Q : Exit → Act → World → Prop} {E : Prop} (hgd : o.guard = none) (d s : Operand)
    (ho : o.op = .call { callee := .builtin .copy, args := #[d, s], argTypes := #[22, 22] }) (b off dLen dCap : Nat) (hd : a.eval d = .slice (some ⟨b, off, none⟩) dLen dCap)
    (src : Value) (l : List Int) (hs : a.eval s = src) (hsrc : Bytes w src l) (hl : 0 < l.length) (x : List Int) (hx : x = l.take (min l.length dLen)) (ht : w.there b off dLen)
    (h : K (a.put o.dst (.int .i64 x.length)) (w.setCells b off (vals .u8 x))) :
    if Region.wanted o (yielded ops a.tmps) = true then Oper.wp Tryd.prog o a w K Q else E := by
  have hw : Region.wanted o (yielded ops a.tmps) = true := by simp [Region.wanted, hgd]
  rw [if_pos hw]
  obtain ⟨sb, soff, cap, rfl, h1, h2, hc⟩ := hsrc.lies hl
  have hxl : x.length = min l.length dLen := by rw [hx]; simp
  have hrun := run_copy_cells (P := Tryd.prog) w 22 22 o.type 5 b off dLen dCap ⟨sb, soff, none⟩ l.length cap (vals .u8 x) Tryd.underlying22 (by kernel_rfl) (by rw [vals_length, hxl])
    (fun j v hv => by
      have hj : j < x.length := by have := (List.getElem?_eq_some_iff.1 hv).1; rwa [vals_length] at this
      rw [Addr.add_mid, hc j (by omega), ← hv, vals_get .u8 x j hj, hx]
      congr 2
      simp only [List.getD]
      rw [List.getElem?_take_of_lt (by omega)])
    (fun j hj => by rw [vals_length] at hj; exact (ht j (by omega)).1) (fun j hj => by rw [vals_length] at hj; exact (ht j (by omega)).2)
    (fun v hv => by
      simp only [vals, List.mem_map] at hv
      obtain ⟨z, _, rfl⟩ := hv
      rfl)
  rw [vals_length] at hrun
  unfold Oper.wp
  simp [execOp, ho, resolve, invoke, builtin, hd, hs, hrun, Result.andThen]
  exact h

theorem slice_block (b p : Nat) (hp : p < 64) (w : World) : (Instr.sliceAt 67 (.pointer (some ⟨b, 9, none⟩)) (some (.int .u64 (p : Int))) none none).run Tryd.prog w = .ok (.slice (some ⟨b, 9 + p, none⟩) (64 - p) (64 - p)) w := by
  have ht : Tryd.prog.underlying 67 = some (.array (Tryd.prog.arrayLen 67) (Tryd.prog.elem 67)) := by rw [Tryd.underlying67]; kernel_rfl
  have hl : Tryd.prog.arrayLen 67 = 64 := by kernel_rfl
  have e : (sizeOf (Tryd.prog.elem 67)).run Tryd.prog w = .ok 1 w := by kernel_rfl
  rw [run_sliceAt_array_l w 67 _ ht .u64 (p : Int) (by omega) (by rw [hl]; omega), e, hl]
  simp [Result.andThen, slicedAt, Addr.add_mid]
  omega
theorem cell_out {w : World} {b o : Nat} {v : Value} (h : w.cell? ⟨b, 0, none⟩ = some v) (vs : List Value) : (w.drew.setCells b (9 + o) vs).cell? ⟨b, 0, none⟩ = some v :=
  (World.cell?_setCells_out _ _ _ _ _ (fun _ _ => Or.inl (by show 0 < 9 + o; omega))).trans h

theorem Ks.only {w w' : World} {b : Nat} (h : Ks w) (ho : Only b w w') (hb : b ≠ 2) : Ks w' := fun i hi => (ho.cell ⟨2, i, none⟩ (by simpa using hb.symm) (World.block_lt_of_cell? _ _ (h i hi))).trans (h i hi)
/-- The state's eight cells are there. -/
def StThere (w : World) (b : Nat) : Prop := w.there b 1 8
theorem HashAt.there {w : World} {b : Nat} {size : Int} {st blk : List Int} (h : HashAt w b size st blk) : StThere w b := by
  have := h.2.2.1.2
  rwa [h.2.2.2.2.1] at this
theorem st_store (w : World) (b : Nat) (L : List Int) (hL : L.length = 8) (e : StThere w b) : (storeCells ⟨b, 1, none⟩ (vals .u32 L) 0).run Tryd.prog w = .ok () (w.setCells b 1 (vals .u32 L)) :=
  run_storeCells_cells b 1 (vals .u32 L) 0 w (fun j hj => by simpa using (e j (by simpa [vals, hL] using hj)).1) (fun j hj => by simpa using (e j (by simpa [vals, hL] using hj)).2) (fun v hv => by
    simp only [vals, List.mem_map] at hv
    obtain ⟨z, _, rfl⟩ := hv
    rfl)

set_option maxRecDepth 100000 in
set_option maxHeartbeats 1000000 in
theorem take_any (w : World) (b : Nat) (v : Value) (l m : List Int) (hH : Hashes w b m) (hS : Src w b v l) (hk : Ks w) (hb : b ≠ 2) (hsz : m.length + l.length ≤ 1000000000) :
    Calls Tryd.prog 34 #[.pointer (some ⟨b, 0, none⟩), v] w fun e w' => e = .returned (.tuple #[]) ∧ Under w' b (m ++ l) ∧ Only b w w' := by
  obtain ⟨a, cap, rfl, hc1, hc2⟩ := hS.bytes.form
  have HS := hide hS
  have HH := hide hH
  have HK := hide hk
  clear hk
  obtain ⟨st, blk, hA, hB⟩ := hH
  have c0 := hA.1
  clear hA hB hS
  go_enter Tryd.func34, Tryd.ntmps34
  go_upto_if 9 with fail
  go_cut [] (fun wx => Taking w b m l (.slice a l.length cap) wx)
  case first =>
    obtain ⟨st, blk, hA, hB, hst⟩ := HH.out
    by_cases hm : m = []
    · subst hm
      have ht : (((([] : List Int).length : Int)) == 0) = true := rfl
      have F := hide (fun wx => first_any wx)
      have HA := hide hA
      have HBl := hide hA.2.2.2.2.2
      clear hA hB hst
      go_wp2_with (first | (go_at_call 38; refine (F.out _).mono ?_; rintro e w1 ⟨rfl, hbel1⟩; have HZ1 : Hid (w1.there b 1 8) := hide (HA.out.on hbel1).there) | (refine wp_store_arr rfl 66 (.tmp 13) (.tmp 11) rfl _ 1 .u32 firstI rfl rfl 8 HZ1.out info_s rfl ?_))
      go_meet
      case rel =>
        refine ⟨0, by omega, HS.out.on (Only.sets _ _ _ (Only.of_below hbel1 (Nat.le_of_lt HA.out.lt))), ?_, Only.sets _ _ _ (Only.of_below hbel1 (Nat.le_of_lt HA.out.lt))⟩
        rw [List.take_zero, List.append_nil]
        exact ⟨blk, (HA.out.on hbel1).stated firstI rfl, Begins.nil blk HBl.out⟩
    · have ht : ((m.length : Int) == 0) = false := by simp; exact hm
      have R : Hid (Taking w b m l (.slice a l.length cap) w) := by
        rcases hst with h | h
        · exact absurd h hm
        · subst h
          exact hide ⟨0, by omega, HS.out, ⟨blk, by rw [List.take_zero, List.append_nil]; exact hA, by rw [List.take_zero, List.append_nil]; exact hB⟩, Only.refl _ _⟩
      clear hA hB hst
      go_wp2
      go_meet
      case rel => exact R.out
  case rest =>
    have HT := hide hcut
    go_wp2
    go_loopw [1] (fun v wr => Taking w b m l v wr) (fun v _ => lenOf v)
    case atStart => exact HT.out
    case round =>
      obtain ⟨k, hkl, hS, ⟨blk, hA, hB⟩, hO⟩ := hrel
      obtain ⟨a, cap, rfl, hc1, hc2⟩ := hS.bytes.form
      by_cases hr : 0 < (l.drop k).length
      · have HSr := hide hS
        generalize hq : l.drop k = r at *
        generalize hm1 : m ++ l.take k = m1 at *
        have hp : m1.length % 64 < 64 := Nat.mod_lt _ (by omega)
        have c0 := hA.1
        have c1 := hA.2.1
        obtain ⟨p, hp0⟩ : ∃ p, p = m1.length % 64 := ⟨_, rfl⟩
        obtain ⟨x, hx⟩ : ∃ x, x = r.take (min r.length (64 - p)) := ⟨_, rfl⟩
        have hth : Hid (wr.there b (9 + p) (64 - p)) := hide (fun j hj => by
          have := hA.2.2.2.1.2 (p + j) (by rw [hA.2.2.2.2.2]; omega)
          rwa [Nat.add_assoc])
        have HA := hide hA
        have HX := hide hx
        have hlen : (m1.length : Int).tmod 64 = (p : Int) := by rw [Int.tmod_eq_emod_of_nonneg (by omega)]; omega
        have hsl := fun wx => slice_block b p (by omega) wx
        have hp64 : (p : Int) < 64 := by omega
        have hrl : (0 : Int) < (r.length : Int) := by omega
        have hM : m1.length ≤ 1000000000 := by rw [← hm1]; simp; omega
        have HP := hide hp0
        have HO := hide hO
        have HB := hide hB
        have HQ := hide hq
        have HM1 := hide hm1
        clear hA hp0 hx hp hO hB hq hm1 hS hkl hc2
        generalize hML : m1.length = M at *
        have HML := hide hML
        clear hML
        go_wp2
        go_region_held3 (fun wx => wx.cell? ⟨b, 0, none⟩ = some (.int .u64 M)) (first | exact c0 | exact cell_out c0 _ | (go_keep; done))
          ((refine step_copy rfl (.tmp 25) (.tmp 26) rfl b (9 + p) (64 - p) (64 - p) rfl _ r rfl (HSr.out _ (Only.refl _ _).drew) hr x HX.out hth.out ?_))
        have hxl : x.length = min r.length (64 - p) := by rw [HX.out]; simp
        have h1 : HashAt (wr.drew.setCells b (9 + p) (vals .u8 x)) b M (stateOf m1) (splice blk p x) := (HA.out.on (Below.refl _ _).drew).copied p x (by omega)
        have o1 : Only b wr (wr.drew.setCells b (9 + p) (vals .u8 x)) := Only.sets _ _ _ (Only.refl _ _).drew
        generalize wr.drew.setCells b (9 + p) (vals .u8 x) = W1 at *
        have HS1 := hide (HSr.out.on o1)
        have HO1 := hide (HO.out.trans o1)
        have d0 := h1.1
        have d1 := h1.2.1
        have H1 := hide h1
        obtain ⟨a1, c1', t1, t2⟩ := tail_of a r.length cap x.length .i64 (by omega)
        have T1 := hide t1
        have HS2 : Hid (Src W1 b (.slice a1 (r.length - x.length) c1') (r.drop x.length)) := hide (fun w' h' => t2 w' r (HS1.out w' h'))
        clear h1 o1 t1 t2 c0 c1 hth
        have hn64 : x.length ≤ 64 := by omega
        have hadd : IntKind.u64.wrap ((M : Int) + (x.length : Int)) = ((M + x.length : Nat) : Int) := by simp [IntKind.wrap, IntKind.bits, IntKind.signed]; omega
        have HXL := hide hxl
        clear hxl
        generalize hnx : x.length = n at *
        have HNX := hide hnx
        clear hnx
        generalize hN : M + n = N at *
        have HN := hide hN
        clear hN
        by_cases hf : p + n = 64
        · have htm : ((N : Int) % 64 == 0) = true := by
            have := HP.out
            have := HN.out
            have := HML.out
            simp
            omega
          go_wp2_with (refine wp_from rfl (.tmp 28) (.tmp 29) rfl _ _ _ rfl rfl T1.out ?_)
          have h2 := H1.out.counted (N : Int)
          have o2 : Only b W1 (W1.setCell ⟨b, 0, none⟩ (.int .u64 N)) := (Only.refl _ _).set 0 _
          generalize W1.setCell ⟨b, 0, none⟩ (.int .u64 N) = W2 at *
          have HS3 := hide (HS2.out.on o2)
          have HO2 := hide (HO1.out.trans o2)
          have HK2 := hide (HK.out.only HO2.out hb)
          obtain ⟨T, hT⟩ : ∃ T : St, T.list = stateOf m1 := ⟨stOf _, St.of _ (stateOf_length _)⟩
          rw [← hT] at h2
          have HT2 := hide hT
          have H2 := hide h2
          have BL := hide (fun wx h => block_any T.list (splice blk p x) wx rfl h2.2.2.2.2.2 h)
          have HLl : Hid ((blockI T.list (splice blk p x)).length = 8) := hide (block_length _ _ rfl)
          have H33 := hide h2.2.2.1.drew.1
          have H34 := hide h2.2.2.2.1.drew.1
          have hi34 : Hid ((Tryd.prog.info? 67).map (·.size) = some (vals .u8 (splice blk p x)).length) := hide (by rw [vals_length, h2.2.2.2.2.2]; exact info_b)
          clear h2 o2 d0 d1 hT
          generalize hL : blockI T.list (splice blk p x) = L at *
          have HL := hide hL
          clear hL
          have HVL : Hid ((vals .u32 L).toArray.size = 8) := hide (by simp [vals]; exact HLl.out)
          generalize hblk : splice blk p x = blk' at *
          have HBLK := hide hblk
          clear hblk
          refine wp_region_noPanic ?_
          refine wp_region_any (by kernel_rfl) ?_
          change wpAny _ _ _ _ _ _ _ (World.drew _)
          refine wpAny_take (i := 0) (oi := { dst := some 46, op := .move (.tmp 0), type := 76, pos := "sha.go:101", after := #[], guard := none }) (v := .pointer (some ⟨b, 0, none⟩)) rfl (by kernel_rfl) (by kernel_rfl) (by kernel_rfl) (fun _ _ _ h => h) (Or.inl ⟨by rfl, fun w => by go_simp⟩) ?_
          simp only [Act.put, List.setIfInBounds_toArray, List.set_cons_zero, List.set_cons_succ]
          refine wpAny_take (i := 1) (oi := { dst := some 47, op := .move (.tmp 0), type := 76, pos := "sha.go:101", after := #[], guard := none }) (v := .pointer (some ⟨b, 0, none⟩)) rfl (by kernel_rfl) (by kernel_rfl) (by kernel_rfl) (fun _ _ _ h => h) (Or.inl ⟨by rfl, fun w => by go_simp⟩) ?_
          simp only [Act.put, List.setIfInBounds_toArray, List.set_cons_zero, List.set_cons_succ]
          refine wpAny_take (i := 2) (oi := { dst := some 48, op := .nilCheck (.tmp 47), type := 0, pos := "sha.go:101", after := #[{ on := 1, ground := .data }], guard := none }) (v := .pointer (some ⟨b, 0, none⟩)) rfl (by kernel_rfl) (by kernel_rfl) (by kernel_rfl) (fun _ _ _ h => h) (Or.inl ⟨by rfl, fun w => by go_simp⟩) ?_
          simp only [Act.put, List.setIfInBounds_toArray, List.set_cons_zero, List.set_cons_succ]
          refine wpAny_take (i := 3) (oi := { dst := some 49, op := .fieldAddr 69 (.tmp 48) 1, type := 0, pos := "sha.go:101", after := #[{ on := 2, ground := .data }], guard := none }) (v := .pointer (some ⟨b, 1, none⟩)) rfl (by kernel_rfl) (by kernel_rfl) (by kernel_rfl) (fun _ _ _ h => h) (Or.inl ⟨by rfl, fun w => by go_simp⟩) ?_
          simp only [Act.put, List.setIfInBounds_toArray, List.set_cons_zero, List.set_cons_succ]
          refine wpAny_take (i := 5) (oi := { dst := some 51, op := .move (.tmp 0), type := 76, pos := "sha.go:101", after := #[], guard := none }) (v := .pointer (some ⟨b, 0, none⟩)) rfl (by kernel_rfl) (by kernel_rfl) (by kernel_rfl) (fun _ _ _ h => h) (Or.inl ⟨by rfl, fun w => by go_simp⟩) ?_
          simp only [Act.put, List.setIfInBounds_toArray, List.set_cons_zero, List.set_cons_succ]
          refine wpAny_take (i := 6) (oi := { dst := some 52, op := .nilCheck (.tmp 51), type := 0, pos := "sha.go:101", after := #[{ on := 5, ground := .data }], guard := none }) (v := .pointer (some ⟨b, 0, none⟩)) rfl (by kernel_rfl) (by kernel_rfl) (by kernel_rfl) (fun _ _ _ h => h) (Or.inl ⟨by rfl, fun w => by go_simp⟩) ?_
          simp only [Act.put, List.setIfInBounds_toArray, List.set_cons_zero, List.set_cons_succ]
          refine wpAny_take (i := 7) (oi := { dst := some 53, op := .fieldAddr 69 (.tmp 52) 2, type := 0, pos := "sha.go:101", after := #[{ on := 6, ground := .data }], guard := none }) (v := .pointer (some ⟨b, 9, none⟩)) rfl (by kernel_rfl) (by kernel_rfl) (by kernel_rfl) (fun _ _ _ h => h) (Or.inl ⟨by rfl, fun w => by go_simp⟩) ?_
          simp only [Act.put, List.setIfInBounds_toArray, List.set_cons_zero, List.set_cons_succ]
          refine wpAny_ready (rs := [4, 8]) (by kernel_rfl) (by simp) ?_
          refine AllReady.cons (o := { dst := some 50, op := .load 66 (.tmp 49), type := 66, pos := "sha.go:101", after := #[{ on := 3, ground := .data }], guard := none }) rfl (fun K hK => ?_) (AllReady.cons (o := { dst := some 54, op := .load 67 (.tmp 53), type := 67, pos := "sha.go:101", after := #[{ on := 7, ground := .data }], guard := none }) rfl (fun K hK => ?_) AllReady.nil)
          (rw [if_pos (by rfl)]; refine wp_load_mid 66 (.tmp 49) rfl b 1 rfl (vals .u32 T.list) _ H33.out Tryd.underlying66 rfl info_s ?_; refine hK _ _ ?_; clear hK K; simp only [Act.put, List.setIfInBounds_toArray, List.set_cons_zero, List.set_cons_succ])
          refine wpAny_ready (rs := [8]) (by kernel_rfl) (by simp) (AllReady.cons (o := { dst := some 54, op := .load 67 (.tmp 53), type := 67, pos := "sha.go:101", after := #[{ on := 7, ground := .data }], guard := none }) rfl (fun K hK => ?_) AllReady.nil)
          (rw [if_pos (by rfl)]; refine wp_load_mid 67 (.tmp 53) rfl b 9 rfl (vals .u8 blk') _ H34.out Tryd.underlying67 rfl hi34.out ?_; refine hK _ _ ?_; clear hK K; simp only [Act.put, List.setIfInBounds_toArray, List.set_cons_zero, List.set_cons_succ])
          rotate_left
          (rw [if_pos (by rfl)]; refine wp_load_mid 67 (.tmp 53) rfl b 9 rfl (vals .u8 blk') _ H34.out Tryd.underlying67 rfl hi34.out ?_; refine hK _ _ ?_; clear hK K; simp only [Act.put, List.setIfInBounds_toArray, List.set_cons_zero, List.set_cons_succ])
          refine wpAny_ready (rs := [4]) (by kernel_rfl) (by simp) (AllReady.cons (o := { dst := some 50, op := .load 66 (.tmp 49), type := 66, pos := "sha.go:101", after := #[{ on := 3, ground := .data }], guard := none }) rfl (fun K hK => ?_) AllReady.nil)
          (rw [if_pos (by rfl)]; refine wp_load_mid 66 (.tmp 49) rfl b 1 rfl (vals .u32 T.list) _ H33.out Tryd.underlying66 rfl info_s ?_; refine hK _ _ ?_; clear hK K; simp only [Act.put, List.setIfInBounds_toArray, List.set_cons_zero, List.set_cons_succ])
          rotate_left
          all_goals
            refine wpAny_ready (rs := [9]) (by kernel_rfl) (by simp) (AllReady.cons (o := { dst := some 55, op := .call { callee := .value (.func 39), args := #[.tmp 50, .tmp 54], argTypes := #[66, 67] }, type := 66, pos := "sha.go:101", after := #[{ on := 4, ground := .data }, { on := 8, ground := .data }], guard := none }) rfl (fun K hK => ?_) AllReady.nil)
            go_simp
            refine (BL.out _ (HK2.out.on (Below.drew (Below.refl _ _)))).mono ?_
            rintro e w1 ⟨rfl, hbel1⟩
            have hb1 : Below W2.heap.size W2 w1 := below_on' (Below.drew (Below.refl _ _)) hbel1 (Nat.le_refl _)
            have HZ1 : Hid (w1.there b 1 8) := hide (H2.out.on hb1).there
            refine hK _ _ ?_
            clear hK K
            refine wpAny_take (i := 10) (oi := { dst := some 56, op := .nilCheck (.tmp 46), type := 0, pos := "sha.go:101", after := #[{ on := 0, ground := .data }, { on := 0, ground := .phase }, { on := 1, ground := .phase }, { on := 2, ground := .phase }, { on := 3, ground := .phase }, { on := 4, ground := .phase }, { on := 5, ground := .phase }, { on := 6, ground := .phase }, { on := 7, ground := .phase }, { on := 8, ground := .phase }, { on := 9, ground := .phase }], guard := none }) (v := .pointer (some ⟨b, 0, none⟩)) rfl (by kernel_rfl) (by kernel_rfl) (by kernel_rfl) (fun _ _ _ h => h) (Or.inl ⟨by rfl, fun w => by go_simp⟩) ?_
            simp only [Act.put, List.setIfInBounds_toArray, List.set_cons_zero, List.set_cons_succ]
            refine wpAny_take (i := 11) (oi := { dst := some 57, op := .fieldAddr 69 (.tmp 56) 1, type := 0, pos := "sha.go:101", after := #[{ on := 10, ground := .data }, { on := 0, ground := .phase }, { on := 1, ground := .phase }, { on := 2, ground := .phase }, { on := 3, ground := .phase }, { on := 4, ground := .phase }, { on := 5, ground := .phase }, { on := 6, ground := .phase }, { on := 7, ground := .phase }, { on := 8, ground := .phase }, { on := 9, ground := .phase }], guard := none }) (v := .pointer (some ⟨b, 1, none⟩)) rfl (by kernel_rfl) (by kernel_rfl) (by kernel_rfl) (fun _ _ _ h => h) (Or.inl ⟨by rfl, fun w => by go_simp⟩) ?_
            simp only [Act.put, List.setIfInBounds_toArray, List.set_cons_zero, List.set_cons_succ]
            refine wpAny_ready (rs := [12]) (by kernel_rfl) (by simp) (AllReady.cons (o := { dst := none, op := .store 66 (.tmp 57) (.tmp 55), type := 0, pos := "sha.go:101", after := #[{ on := 11, ground := .data }, { on := 9, ground := .data }, { on := 9, ground := .chain }, { on := 0, ground := .phase }, { on := 1, ground := .phase }, { on := 2, ground := .phase }, { on := 3, ground := .phase }, { on := 4, ground := .phase }, { on := 5, ground := .phase }, { on := 6, ground := .phase }, { on := 7, ground := .phase }, { on := 8, ground := .phase }, { on := 9, ground := .phase }], guard := none }) rfl (fun K hK => ?_) AllReady.nil)
            rw [if_pos (by rfl)]
            refine wp_store_mid 66 (.tmp 57) (.tmp 55) rfl b 1 (vals .u32 L).toArray rfl rfl (by rw [HVL.out]; exact HZ1.out) (by rw [HVL.out]; exact info_s) (vals_one _ _) ?_
            refine hK _ _ ?_
            clear hK K
            simp only [Act.put]
            refine wpAny_done (by kernel_rfl) ?_ _
            refine NoPanic.normal ?_
            have R : Hid (Taking w b m l (.slice a1 (r.length - n) c1') (w1.setCells b 1 (vals .u32 L))) := by
              have h3 := (H2.out.on hb1).stated L HLl.out
              have o3 : Only b W2 (w1.setCells b 1 (vals .u32 L)) := Only.sets _ _ _ (Only.of_below hb1 (Nat.le_of_lt H2.out.lt))
              refine hide (Taking.next (k := k) (n := n) (x := x) ?_ ?_ ?_ ?_ (HO2.out.trans o3))
              · have := HQ.out
                have := HXL.out
                have : (l.drop k).length = l.length - k := by simp
                rw [HQ.out] at this
                omega
              · rw [HQ.out, HX.out, HXL.out]
              · rw [HQ.out]
                exact HS3.out.on o3
              · rw [HM1.out]
                have hbf := HB.out.full (x := x) (by rw [HNX.out, HML.out, ← HP.out]; exact hf)
                rw [HML.out, ← HP.out, HBLK.out] at hbf
                refine ⟨blk', ?_, hbf.2⟩
                rw [stateOf_full m1 x (by rw [HNX.out, HML.out, ← HP.out]; exact hf), HML.out, ← hbf.1, ← HT2.out, HL.out, List.length_append, HML.out, HNX.out, HN.out]
                exact h3
            go_wp2
            go_roundw
            case rel => first | exact R.out | ((repeat apply Exists.intro); exact ⟨R.out, rfl⟩)
            case measure => simp [lenOf]; omega

        · have hpn : p + n < 64 := by have := HXL.out; omega
          have hn1 : 0 < n := by have := HXL.out; omega
          have htm : ((N : Int) % 64 == 0) = false := by
            have := HP.out
            have := HN.out
            have := HML.out
            simp
            omega
          go_wp2_with (refine wp_from rfl (.tmp 28) (.tmp 29) rfl _ _ _ rfl rfl T1.out ?_)
          have R : Hid (Taking w b m l (.slice a1 (r.length - n) c1') (W1.setCell ⟨b, 0, none⟩ (.int .u64 N))) := by
            have h2 := H1.out.counted (N : Int)
            have o2 : Only b W1 (W1.setCell ⟨b, 0, none⟩ (.int .u64 N)) := (Only.refl _ _).set 0 _
            refine hide (Taking.next (k := k) (n := n) (x := x) ?_ ?_ ?_ ?_ (HO1.out.trans o2))
            · have := HXL.out
              have : (l.drop k).length = l.length - k := by simp
              rw [HQ.out] at this
              omega
            · rw [HQ.out, HX.out, HXL.out]
            · rw [HQ.out]
              exact HS2.out.on o2
            · rw [HM1.out]
              have hbl := HB.out.less (x := x) (by rw [HNX.out, HML.out, ← HP.out]; exact hpn)
              rw [HML.out, ← HP.out] at hbl
              refine ⟨splice blk p x, ?_, hbl⟩
              rw [stateOf_less m1 x (by rw [HNX.out, HML.out, ← HP.out]; exact hpn), List.length_append, HML.out, HNX.out, HN.out]
              exact h2
          go_roundw
          case rel => first | exact R.out | ((repeat apply Exists.intro); exact ⟨R.out, rfl⟩)
          case measure => simp [lenOf]; omega
      · have h0 : (l.drop k).length = 0 := by omega
        have hkl2 : l.take k = l := List.take_of_length_le (by simp at h0; omega)
        rw [hkl2] at hA hB
        have R : Hid (Under wr b (m ++ l) ∧ Only b w wr) := hide ⟨⟨blk, hA, hB⟩, hO⟩
        clear hA hB hO hS hkl2 hr hcut HT
        rw [h0]
        clear h0
        go_wp2
        go_end0
        exact ⟨rfl, R.out⟩

end Go.Proofs.YtbhninaaeeoamabDoor
