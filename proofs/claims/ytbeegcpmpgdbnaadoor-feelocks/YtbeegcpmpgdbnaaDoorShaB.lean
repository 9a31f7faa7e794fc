import Derived.Test.YtbeegcpmpgdbnaaDoorShaA
import Derived.Test.YtbeegcpmpgdbnaaDoorKit
import Derived.Laws.StructEq
/-
  What sha.first and (*sha.Hasher).take do at this program.
-/
namespace Go.Proofs.YtbeegcpmpgdbnaaDoor
open Go.RowKit

theorem first_any (w : World) : Calls Tryd.prog 62 #[] w fun e w' => e = .returned (.agg (vals .u32 firstI).toArray) ∧ Below w.heap.size w w' := by
  go_enter Tryd.func62, Tryd.ntmps62
  go_wp2
  refine ret_arr 0 72 rfl _ 0 rfl .u32 firstI (Arr.new w .u32 firstI 72) _ Tryd.underlying72 rfl 8 info_s rfl rfl ⟨rfl, (Below.refl _ _).alloc (Nat.le_refl _) _⟩

/-- What holds at the head of a round. -/
def Taking (w : World) (b : Nat) (m l : List Int) (v : Value) (wr : World) : Prop :=
  ∃ k : Nat, k ≤ l.length ∧ Src wr b v (l.drop k) ∧ Under wr b (m ++ l.take k) ∧ Only b w wr
theorem Taking.next {w W3 : World} {b k n : Nat} {m l x : List Int} {v : Value} (hk : k + n ≤ l.length) (hx : x = (l.drop k).take n) (hS : Src W3 b v ((l.drop k).drop n)) (hU : Under W3 b ((m ++ l.take k) ++ x)) (hO : Only b w W3) : Taking w b m l v W3 := by
  refine ⟨k + n, hk, ?_, ?_, hO⟩
  · rw [List.drop_drop] at hS
    exact hS
  · rw [List.take_add, ← hx, ← List.append_assoc]
    exact hU
def lenOf : Value → Nat
  | .slice _ n _ => n
  | _ => 0

/-- 'copy', of bytes into cells that are there, as one step of a region that draws its order. -/
theorem step_copy {ops : Array Oper} {o : Oper} {a : Act} {w : World} {K : Act → World → Prop} {Q : Exit → Act → World → Prop} {E : Prop} (hgd : o.guard = none) (d s : Operand)
    (ho : o.op = .call { callee := .builtin .copy, args := #[d, s], argTypes := #[37, 37] }) (b off dLen dCap : Nat) (hd : a.eval d = .slice (some ⟨b, off, none⟩) dLen dCap)
    (src : Value) (l : List Int) (hs : a.eval s = src) (hsrc : Bytes w src l) (hl : 0 < l.length) (x : List Int) (hx : x = l.take (min l.length dLen)) (ht : w.there b off dLen)
    (h : K (a.put o.dst (.int .i64 x.length)) (w.setCells b off (vals .u8 x))) :
    if Region.wanted o (yielded ops a.tmps) = true then Oper.wp Tryd.prog o a w K Q else E := by
  have hw : Region.wanted o (yielded ops a.tmps) = true := by simp [Region.wanted, hgd]
  rw [if_pos hw]
  obtain ⟨sb, soff, cap, rfl, h1, h2, hc⟩ := hsrc.lies hl
  have hxl : x.length = min l.length dLen := by rw [hx]; simp
  have hrun := run_copy_cells (P := Tryd.prog) w 37 37 o.type 5 b off dLen dCap ⟨sb, soff, none⟩ l.length cap (vals .u8 x) Tryd.underlying37 (by kernel_rfl) (by rw [vals_length, hxl])
    (fun j v hv => by
      have hj : j < x.length := by have := (List.getElem?_eq_some_iff.1 hv).1; rwa [vals_length] at this
      rw [Addr.add_mid, hc j (by omega), ← hv, vals_get .u8 x j hj, hx]
      congr 2
      simp only [List.getD]
      rw [List.getElem?_take_of_lt (by omega)])
    (fun j hj => by rw [vals_length] at hj; exact (ht j (by omega)).1) (fun j hj => by rw [vals_length] at hj; exact (ht j (by omega)).2)
    (fun v hv => by
      simp only [vals, List.mem_map] at hv
      obtain ⟨z, _, rfl⟩ := hv
      rfl)
  rw [vals_length] at hrun
  unfold Oper.wp
  simp [execOp, ho, resolve, invoke, builtin, hd, hs, hrun, Result.andThen]
  exact h

theorem slice_block (b p : Nat) (hp : p < 64) (w : World) : (Instr.sliceAt 74 (.pointer (some ⟨b, 9, none⟩)) (some (.int .u64 (p : Int))) none none).run Tryd.prog w = .ok (.slice (some ⟨b, 9 + p, none⟩) (64 - p) (64 - p)) w := by
  have ht : Tryd.prog.underlying 74 = some (.array (Tryd.prog.arrayLen 74) (Tryd.prog.elem 74)) := by rw [Tryd.underlying74]; kernel_rfl
  have hl : Tryd.prog.arrayLen 74 = 64 := by kernel_rfl
  have e : (sizeOf (Tryd.prog.elem 74)).run Tryd.prog w = .ok 1 w := by kernel_rfl
  rw [run_sliceAt_array_l w 74 _ ht .u64 (p : Int) (by omega) (by rw [hl]; omega), e, hl]
  simp [Result.andThen, slicedAt, Addr.add_mid]
  omega
theorem cell_out {w : World} {b o : Nat} {v : Value} (h : w.cell? ⟨b, 0, none⟩ = some v) (vs : List Value) : (w.drew.setCells b (9 + o) vs).cell? ⟨b, 0, none⟩ = some v :=
  (World.cell?_setCells_out _ _ _ _ _ (fun _ _ => Or.inl (by show 0 < 9 + o; omega))).trans h

theorem Ks.only {w w' : World} {b : Nat} (h : Ks w) (ho : Only b w w') (hb : b ≠ 2) : Ks w' := fun i hi => (ho.cell ⟨2, i, none⟩ (by simpa using hb.symm) (World.block_lt_of_cell? _ _ (h i hi))).trans (h i hi)
/-- The state's eight cells are there. -/
def StThere (w : World) (b : Nat) : Prop := w.there b 1 8
theorem HashAt.there {w : World} {b : Nat} {size : Int} {st blk : List Int} (h : HashAt w b size st blk) : StThere w b := by
  have := h.2.2.1.2
  rwa [h.2.2.2.2.1] at this
theorem st_store (w : World) (b : Nat) (L : List Int) (hL : L.length = 8) (e : StThere w b) : (storeCells ⟨b, 1, none⟩ (vals .u32 L) 0).run Tryd.prog w = .ok () (w.setCells b 1 (vals .u32 L)) :=
  run_storeCells_cells b 1 (vals .u32 L) 0 w (fun j hj => by simpa using (e j (by simpa [vals, hL] using hj)).1) (fun j hj => by simpa using (e j (by simpa [vals, hL] using hj)).2) (fun v hv => by
    simp only [vals, List.mem_map] at hv
    obtain ⟨z, _, rfl⟩ := hv
    rfl)

set_option maxRecDepth 100000 in
set_option maxHeartbeats 1000000 in
theorem take_any (w : World) (b : Nat) (v : Value) (l m : List Int) (hH : Hashes w b m) (hS : Src w b v l) (hk : Ks w) (hb : b ≠ 2) (hsz : m.length + l.length ≤ 1000000000) :
    Calls Tryd.prog 56 #[.pointer (some ⟨b, 0, none⟩), v] w fun e w' => e = .returned (.tuple #[]) ∧ Under w' b (m ++ l) ∧ Only b w w' := by
  obtain ⟨a, cap, rfl, hc1, hc2⟩ := hS.bytes.form
  have HS := hide hS
  have HH := hide hH
  have HK := hide hk
  clear hk
  obtain ⟨st, blk, hA, hB⟩ := hH
  have c0 := hA.1
  clear hA hB hS
  go_enter Tryd.func56, Tryd.ntmps56
  go_upto_if 9 with fail
  go_cut [] (fun wx => Taking w b m l (.slice a l.length cap) wx)
  case first =>
    obtain ⟨st, blk, hA, hB, hst⟩ := HH.out
    by_cases hm : m = []
    · subst hm
      have ht : (((([] : List Int).length : Int)) == 0) = true := rfl
      have F := hide (fun wx => first_any wx)
      have HA := hide hA
      have HBl := hide hA.2.2.2.2.2
      clear hA hB hst
      go_wp2_with (first | (go_at_call 62; refine (F.out _).mono ?_; rintro e w1 ⟨rfl, hbel1⟩; have HZ1 : Hid (w1.there b 1 8) := hide (HA.out.on hbel1).there) | (refine wp_store_arr rfl 72 (.tmp 13) (.tmp 11) rfl _ 1 .u32 firstI rfl rfl 8 HZ1.out info_s rfl ?_))
      go_meet
      case rel =>
        refine ⟨0, by omega, HS.out.on (Only.sets _ _ _ (Only.of_below hbel1 (Nat.le_of_lt HA.out.lt))), ?_, Only.sets _ _ _ (Only.of_below hbel1 (Nat.le_of_lt HA.out.lt))⟩
        rw [List.take_zero, List.append_nil]
        exact ⟨blk, (HA.out.on hbel1).stated firstI rfl, Begins.nil blk HBl.out⟩
    · have ht : ((m.length : Int) == 0) = false := by simp; exact hm
      have R : Hid (Taking w b m l (.slice a l.length cap) w) := by
        rcases hst with h | h
        · exact absurd h hm
        · subst h
          exact hide ⟨0, by omega, HS.out, ⟨blk, by rw [List.take_zero, List.append_nil]; exact hA, by rw [List.take_zero, List.append_nil]; exact hB⟩, Only.refl _ _⟩
      clear hA hB hst
      go_wp2
      go_meet
      case rel => exact R.out
  case rest =>
    have HT := hide hcut
    go_wp2
    go_loopw [1] (fun v wr => Taking w b m l v wr) (fun v _ => lenOf v)
    case atStart => exact HT.out
    case round =>
      obtain ⟨k, hkl, hS, ⟨blk, hA, hB⟩, hO⟩ := hrel
      obtain ⟨a, cap, rfl, hc1, hc2⟩ := hS.bytes.form
      by_cases hr : 0 < (l.drop k).length
      · have HSr := hide hS
        generalize hq : l.drop k = r at *
        generalize hm1 : m ++ l.take k = m1 at *
        have hp : m1.length % 64 < 64 := Nat.mod_lt _ (by omega)
        have c0 := hA.1
        have c1 := hA.2.1
        obtain ⟨p, hp0⟩ : ∃ p, p = m1.length % 64 := ⟨_, rfl⟩
        obtain ⟨x, hx⟩ : ∃ x, x = r.take (min r.length (64 - p)) := ⟨_, rfl⟩
        have hth : Hid (wr.there b (9 + p) (64 - p)) := hide (fun j hj => by
          have := hA.2.2.2.1.2 (p + j) (by rw [hA.2.2.2.2.2]; omega)
          rwa [Nat.add_assoc])
        have HA := hide hA
        have HX := hide hx
        have hlen : (m1.length : Int).tmod 64 = (p : Int) := by rw [Int.tmod_eq_emod_of_nonneg (by omega)]; omega
        have hsl := fun wx => slice_block b p (by omega) wx
        have hp64 : (p : Int) < 64 := by omega
        have hrl : (0 : Int) < (r.length : Int) := by omega
        have hM : m1.length ≤ 1000000000 := by rw [← hm1]; simp; omega
        have HP := hide hp0
        have HO := hide hO
        have HB := hide hB
        have HQ := hide hq
        have HM1 := hide hm1
        clear hA hp0 hx hp hO hB hq hm1 hS hkl hc2
        generalize hML : m1.length = M at *
        have HML := hide hML
        clear hML
        go_wp2
        go_region_held3 (fun wx => wx.cell? ⟨b, 0, none⟩ = some (.int .u64 M)) (first | exact c0 | exact cell_out c0 _ | (go_keep; done))
          ((refine step_copy rfl (.tmp 25) (.tmp 26) rfl b (9 + p) (64 - p) (64 - p) rfl _ r rfl (HSr.out _ (Only.refl _ _).drew) hr x HX.out hth.out ?_))
        have hxl : x.length = min r.length (64 - p) := by rw [HX.out]; simp
        have h1 : HashAt (wr.drew.setCells b (9 + p) (vals .u8 x)) b M (stateOf m1) (splice blk p x) := (HA.out.on (Below.refl _ _).drew).copied p x (by omega)
        have o1 : Only b wr (wr.drew.setCells b (9 + p) (vals .u8 x)) := Only.sets _ _ _ (Only.refl _ _).drew
        generalize wr.drew.setCells b (9 + p) (vals .u8 x) = W1 at *
        have HS1 := hide (HSr.out.on o1)
        have HO1 := hide (HO.out.trans o1)
        have d0 := h1.1
        have d1 := h1.2.1
        have H1 := hide h1
        obtain ⟨a1, c1', t1, t2⟩ := tail_of a r.length cap x.length .i64 (by omega)
        have T1 := hide t1
        have HS2 : Hid (Src W1 b (.slice a1 (r.length - x.length) c1') (r.drop x.length)) := hide (fun w' h' => t2 w' r (HS1.out w' h'))
        clear h1 o1 t1 t2 c0 c1 hth
        have hn64 : x.length ≤ 64 := by omega
        have hadd : IntKind.u64.wrap ((M : Int) + (x.length : Int)) = ((M + x.length : Nat) : Int) := by simp [IntKind.wrap, IntKind.bits, IntKind.signed]; omega
        have HXL := hide hxl
        clear hxl
        generalize hnx : x.length = n at *
        have HNX := hide hnx
        clear hnx
        generalize hN : M + n = N at *
        have HN := hide hN
        clear hN
        by_cases hf : p + n = 64
        · have htm : ((N : Int) % 64 == 0) = true := by
            have := HP.out
            have := HN.out
            have := HML.out
            simp
            omega
          go_wp2_with (refine wp_from rfl (.tmp 28) (.tmp 29) rfl _ _ _ rfl rfl T1.out ?_)
          have h2 := H1.out.counted (N : Int)
          have o2 : Only b W1 (W1.setCell ⟨b, 0, none⟩ (.int .u64 N)) := (Only.refl _ _).set 0 _
          generalize W1.setCell ⟨b, 0, none⟩ (.int .u64 N) = W2 at *
          have HS3 := hide (HS2.out.on o2)
          have HO2 := hide (HO1.out.trans o2)
          have HK2 := hide (HK.out.only HO2.out hb)
          obtain ⟨T, hT⟩ : ∃ T : St, T.list = stateOf m1 := ⟨stOf _, St.of _ (stateOf_length _)⟩
          rw [← hT] at h2
          have HT2 := hide hT
          have H2 := hide h2
          have BL := hide (fun wx h => block_any T.list (splice blk p x) wx rfl h2.2.2.2.2.2 h)
          have HLl : Hid ((blockI T.list (splice blk p x)).length = 8) := hide (block_length _ _ rfl)
          have H33 := hide h2.2.2.1.drew.1
          have H34 := hide h2.2.2.2.1.drew.1
          have hi34 : Hid ((Tryd.prog.info? 74).map (·.size) = some (vals .u8 (splice blk p x)).length) := hide (by rw [vals_length, h2.2.2.2.2.2]; exact info_b)
          clear h2 o2 d0 d1 hT
          generalize hL : blockI T.list (splice blk p x) = L at *
          have HL := hide hL
          clear hL
          have HVL : Hid ((vals .u32 L).toArray.size = 8) := hide (by simp [vals]; exact HLl.out)
          generalize hblk : splice blk p x = blk' at *
          have HBLK := hide hblk
          clear hblk
          refine wp_region_noPanic ?_
          refine wp_region_any (by kernel_rfl) ?_
          change wpAny _ _ _ _ _ _ _ (World.drew _)
          refine wpAny_take (i := 0) (oi := { dst := some 46, op := .move (.tmp 0), type := 108, pos := "sha.go:101", after := #[], guard := none }) (v := .pointer (some ⟨b, 0, none⟩)) rfl (by kernel_rfl) (by kernel_rfl) (by kernel_rfl) (fun _ _ _ h => h) (Or.inl ⟨by rfl, fun w => by go_simp⟩) ?_
          simp only [Act.put, List.setIfInBounds_toArray, List.set_cons_zero, List.set_cons_succ]
          refine wpAny_take (i := 1) (oi := { dst := some 47, op := .move (.tmp 0), type := 108, pos := "sha.go:101", after := #[], guard := none }) (v := .pointer (some ⟨b, 0, none⟩)) rfl (by kernel_rfl) (by kernel_rfl) (by kernel_rfl) (fun _ _ _ h => h) (Or.inl ⟨by rfl, fun w => by go_simp⟩) ?_
          simp only [Act.put, List.setIfInBounds_toArray, List.set_cons_zero, List.set_cons_succ]
          refine wpAny_take (i := 2) (oi := { dst := some 48, op := .nilCheck (.tmp 47), type := 0, pos := "sha.go:101", after := #[{ on := 1, ground := .data }], guard := none }) (v := .pointer (some ⟨b, 0, none⟩)) rfl (by kernel_rfl) (by kernel_rfl) (by kernel_rfl) (fun _ _ _ h => h) (Or.inl ⟨by rfl, fun w => by go_simp⟩) ?_
          simp only [Act.put, List.setIfInBounds_toArray, List.set_cons_zero, List.set_cons_succ]
          refine wpAny_take (i := 3) (oi := { dst := some 49, op := .fieldAddr 88 (.tmp 48) 1, type := 0, pos := "sha.go:101", after := #[{ on := 2, ground := .data }], guard := none }) (v := .pointer (some ⟨b, 1, none⟩)) rfl (by kernel_rfl) (by kernel_rfl) (by kernel_rfl) (fun _ _ _ h => h) (Or.inl ⟨by rfl, fun w => by go_simp⟩) ?_
          simp only [Act.put, List.setIfInBounds_toArray, List.set_cons_zero, List.set_cons_succ]
          refine wpAny_take (i := 5) (oi := { dst := some 51, op := .move (.tmp 0), type := 108, pos := "sha.go:101", after := #[], guard := none }) (v := .pointer (some ⟨b, 0, none⟩)) rfl (by kernel_rfl) (by kernel_rfl) (by kernel_rfl) (fun _ _ _ h => h) (Or.inl ⟨by rfl, fun w => by go_simp⟩) ?_
          simp only [Act.put, List.setIfInBounds_toArray, List.set_cons_zero, List.set_cons_succ]
          refine wpAny_take (i := 6) (oi := { dst := some 52, op := .nilCheck (.tmp 51), type := 0, pos := "sha.go:101", after := #[{ on := 5, ground := .data }], guard := none }) (v := .pointer (some ⟨b, 0, none⟩)) rfl (by kernel_rfl) (by kernel_rfl) (by kernel_rfl) (fun _ _ _ h => h) (Or.inl ⟨by rfl, fun w => by go_simp⟩) ?_
          simp only [Act.put, List.setIfInBounds_toArray, List.set_cons_zero, List.set_cons_succ]
          refine wpAny_take (i := 7) (oi := { dst := some 53, op := .fieldAddr 88 (.tmp 52) 2, type := 0, pos := "sha.go:101", after := #[{ on := 6, ground := .data }], guard := none }) (v := .pointer (some ⟨b, 9, none⟩)) rfl (by kernel_rfl) (by kernel_rfl) (by kernel_rfl) (fun _ _ _ h => h) (Or.inl ⟨by rfl, fun w => by go_simp⟩) ?_
          simp only [Act.put, List.setIfInBounds_toArray, List.set_cons_zero, List.set_cons_succ]
          refine wpAny_ready (rs := [4, 8]) (by kernel_rfl) (by simp) ?_
          refine AllReady.cons (o := { dst := some 50, op := .load 72 (.tmp 49), type := 72, pos := "sha.go:101", after := #[{ on := 3, ground := .data }], guard := none }) rfl (fun K hK => ?_) (AllReady.cons (o := { dst := some 54, op := .load 74 (.tmp 53), type := 74, pos := "sha.go:101", after := #[{ on := 7, ground := .data }], guard := none }) rfl (fun K hK => ?_) AllReady.nil)
          (rw [if_pos (by rfl)]; refine wp_load_mid 72 (.tmp 49) rfl b 1 rfl (vals .u32 T.list) _ H33.out Tryd.underlying72 rfl info_s ?_; refine hK _ _ ?_; clear hK K; simp only [Act.put, List.setIfInBounds_toArray, List.set_cons_zero, List.set_cons_succ])
          refine wpAny_ready (rs := [8]) (by kernel_rfl) (by simp) (AllReady.cons (o := { dst := some 54, op := .load 74 (.tmp 53), type := 74, pos := "sha.go:101", after := #[{ on := 7, ground := .data }], guard := none }) rfl (fun K hK => ?_) AllReady.nil)
          (rw [if_pos (by rfl)]; refine wp_load_mid 74 (.tmp 53) rfl b 9 rfl (vals .u8 blk') _ H34.out Tryd.underlying74 rfl hi34.out ?_; refine hK _ _ ?_; clear hK K; simp only [Act.put, List.setIfInBounds_toArray, List.set_cons_zero, List.set_cons_succ])
          rotate_left
          (rw [if_pos (by rfl)]; refine wp_load_mid 74 (.tmp 53) rfl b 9 rfl (vals .u8 blk') _ H34.out Tryd.underlying74 rfl hi34.out ?_; refine hK _ _ ?_; clear hK K; simp only [Act.put, List.setIfInBounds_toArray, List.set_cons_zero, List.set_cons_succ])
          refine wpAny_ready (rs := [4]) (by kernel_rfl) (by simp) (AllReady.cons (o := { dst := some 50, op := .load 72 (.tmp 49), type := 72, pos := "sha.go:101", after := #[{ on := 3, ground := .data }], guard := none }) rfl (fun K hK => ?_) AllReady.nil)
          (rw [if_pos (by rfl)]; refine wp_load_mid 72 (.tmp 49) rfl b 1 rfl (vals .u32 T.list) _ H33.out Tryd.underlying72 rfl info_s ?_; refine hK _ _ ?_; clear hK K; simp only [Act.put, List.setIfInBounds_toArray, List.set_cons_zero, List.set_cons_succ])
          rotate_left
          all_goals
            refine wpAny_ready (rs := [9]) (by kernel_rfl) (by simp) (AllReady.cons (o := { dst := some 55, op := .call { callee := .value (.func 63), args := #[.tmp 50, .tmp 54], argTypes := #[72, 74] }, type := 72, pos := "sha.go:101", after := #[{ on := 4, ground := .data }, { on := 8, ground := .data }], guard := none }) rfl (fun K hK => ?_) AllReady.nil)
            go_simp
            refine (BL.out _ (HK2.out.on (Below.drew (Below.refl _ _)))).mono ?_
            rintro e w1 ⟨rfl, hbel1⟩
            have hb1 : Below W2.heap.size W2 w1 := below_on' (Below.drew (Below.refl _ _)) hbel1 (Nat.le_refl _)
            have HZ1 : Hid (w1.there b 1 8) := hide (H2.out.on hb1).there
            refine hK _ _ ?_
            clear hK K
            refine wpAny_take (i := 10) (oi := { dst := some 56, op := .nilCheck (.tmp 46), type := 0, pos := "sha.go:101", after := #[{ on := 0, ground := .data }, { on := 0, ground := .phase }, { on := 1, ground := .phase }, { on := 2, ground := .phase }, { on := 3, ground := .phase }, { on := 4, ground := .phase }, { on := 5, ground := .phase }, { on := 6, ground := .phase }, { on := 7, ground := .phase }, { on := 8, ground := .phase }, { on := 9, ground := .phase }], guard := none }) (v := .pointer (some ⟨b, 0, none⟩)) rfl (by kernel_rfl) (by kernel_rfl) (by kernel_rfl) (fun _ _ _ h => h) (Or.inl ⟨by rfl, fun w => by go_simp⟩) ?_
            simp only [Act.put, List.setIfInBounds_toArray, List.set_cons_zero, List.set_cons_succ]
            refine wpAny_take (i := 11) (oi := { dst := some 57, op := .fieldAddr 88 (.tmp 56) 1, type := 0, pos := "sha.go:101", after := #[{ on := 10, ground := .data }, { on := 0, ground := .phase }, { on := 1, ground := .phase }, { on := 2, ground := .phase }, { on := 3, ground := .phase }, { on := 4, ground := .phase }, { on := 5, ground := .phase }, { on := 6, ground := .phase }, { on := 7, ground := .phase }, { on := 8, ground := .phase }, { on := 9, ground := .phase }], guard := none }) (v := .pointer (some ⟨b, 1, none⟩)) rfl (by kernel_rfl) (by kernel_rfl) (by kernel_rfl) (fun _ _ _ h => h) (Or.inl ⟨by rfl, fun w => by go_simp⟩) ?_
            simp only [Act.put, List.setIfInBounds_toArray, List.set_cons_zero, List.set_cons_succ]
            refine wpAny_ready (rs := [12]) (by kernel_rfl) (by simp) (AllReady.cons (o := { dst := none, op := .store 72 (.tmp 57) (.tmp 55), type := 0, pos := "sha.go:101", after := #[{ on := 11, ground := .data }, { on := 9, ground := .data }, { on := 9, ground := .chain }, { on := 0, ground := .phase }, { on := 1, ground := .phase }, { on := 2, ground := .phase }, { on := 3, ground := .phase }, { on := 4, ground := .phase }, { on := 5, ground := .phase }, { on := 6, ground := .phase }, { on := 7, ground := .phase }, { on := 8, ground := .phase }, { on := 9, ground := .phase }], guard := none }) rfl (fun K hK => ?_) AllReady.nil)
            rw [if_pos (by rfl)]
            refine wp_store_mid 72 (.tmp 57) (.tmp 55) rfl b 1 (vals .u32 L).toArray rfl rfl (by rw [HVL.out]; exact HZ1.out) (by rw [HVL.out]; exact info_s) (vals_one _ _) ?_
            refine hK _ _ ?_
            clear hK K
            simp only [Act.put]
            refine wpAny_done (by kernel_rfl) ?_ _
            refine NoPanic.normal ?_
            have R : Hid (Taking w b m l (.slice a1 (r.length - n) c1') (w1.setCells b 1 (vals .u32 L))) := by
              have h3 := (H2.out.on hb1).stated L HLl.out
              have o3 : Only b W2 (w1.setCells b 1 (vals .u32 L)) := Only.sets _ _ _ (Only.of_below hb1 (Nat.le_of_lt H2.out.lt))
              refine hide (Taking.next (k := k) (n := n) (x := x) ?_ ?_ ?_ ?_ (HO2.out.trans o3))
              · have := HQ.out
                have := HXL.out
                have : (l.drop k).length = l.length - k := by simp
                rw [HQ.out] at this
                omega
              · rw [HQ.out, HX.out, HXL.out]
              · rw [HQ.out]
                exact HS3.out.on o3
              · rw [HM1.out]
                have hbf := HB.out.full (x := x) (by rw [HNX.out, HML.out, ← HP.out]; exact hf)
                rw [HML.out, ← HP.out, HBLK.out] at hbf
                refine ⟨blk', ?_, hbf.2⟩
                rw [stateOf_full m1 x (by rw [HNX.out, HML.out, ← HP.out]; exact hf), HML.out, ← hbf.1, ← HT2.out, HL.out, List.length_append, HML.out, HNX.out, HN.out]
                exact h3
            go_wp2
            go_roundw
            case rel => first | exact R.out | ((repeat apply Exists.intro); exact ⟨R.out, rfl⟩)
            case measure => simp [lenOf]; omega

        · have hpn : p + n < 64 := by have := HXL.out; omega
          have hn1 : 0 < n := by have := HXL.out; omega
          have htm : ((N : Int) % 64 == 0) = false := by
            have := HP.out
            have := HN.out
            have := HML.out
            simp
            omega
          go_wp2_with (refine wp_from rfl (.tmp 28) (.tmp 29) rfl _ _ _ rfl rfl T1.out ?_)
          have R : Hid (Taking w b m l (.slice a1 (r.length - n) c1') (W1.setCell ⟨b, 0, none⟩ (.int .u64 N))) := by
            have h2 := H1.out.counted (N : Int)
            have o2 : Only b W1 (W1.setCell ⟨b, 0, none⟩ (.int .u64 N)) := (Only.refl _ _).set 0 _
            refine hide (Taking.next (k := k) (n := n) (x := x) ?_ ?_ ?_ ?_ (HO1.out.trans o2))
            · have := HXL.out
              have : (l.drop k).length = l.length - k := by simp
              rw [HQ.out] at this
              omega
            · rw [HQ.out, HX.out, HXL.out]
            · rw [HQ.out]
              exact HS2.out.on o2
            · rw [HM1.out]
              have hbl := HB.out.less (x := x) (by rw [HNX.out, HML.out, ← HP.out]; exact hpn)
              rw [HML.out, ← HP.out] at hbl
              refine ⟨splice blk p x, ?_, hbl⟩
              rw [stateOf_less m1 x (by rw [HNX.out, HML.out, ← HP.out]; exact hpn), List.length_append, HML.out, HNX.out, HN.out]
              exact h2
          go_roundw
          case rel => first | exact R.out | ((repeat apply Exists.intro); exact ⟨R.out, rfl⟩)
          case measure => simp [lenOf]; omega
      · have h0 : (l.drop k).length = 0 := by omega
        have hkl2 : l.take k = l := List.take_of_length_le (by simp at h0; omega)
        rw [hkl2] at hA hB
        have R : Hid (Under wr b (m ++ l) ∧ Only b w wr) := hide ⟨⟨blk, hA, hB⟩, hO⟩
        clear hA hB hO hS hkl2 hr hcut HT
        rw [h0]
        clear h0
        go_wp2
        go_end0
        exact ⟨rfl, R.out⟩

end Go.Proofs.YtbeegcpmpgdbnaaDoor

/-
  What sha.asBytes answers at this program: a state as a sum.
-/
namespace Go.Proofs.YtbeegcpmpgdbnaaDoor
open Go.RowKit

/-- A sum of which the first k numbers stand. -/
def outs (s : List Int) (k : Nat) : List Int := (s.take k).flatMap outI ++ List.replicate (32 - 4 * k) 0
theorem flat_length (s : List Int) : (s.flatMap outI).length = 4 * s.length := by
  induction s with
  | nil => rfl
  | cons z s ih => simp only [List.flatMap_cons, List.length_append, ih, List.length_cons]; simp [outI]; omega
theorem outs_length (s : List Int) (hs : s.length = 8) (k : Nat) (hk : k ≤ 8) : (outs s k).length = 32 := by
  rw [outs, List.length_append, flat_length, List.length_take, List.length_replicate]
  omega
theorem outs_set (s : List Int) (hs : s.length = 8) (k : Nat) (hk : k < 8) :
    ((((outs s k).set (4 * k) (s.getD k 0 / 16777216 % 256)).set (4 * k + 1) (s.getD k 0 / 65536 % 256)).set (4 * k + 2) (s.getD k 0 / 256 % 256)).set (4 * k + 3) (s.getD k 0 % 256) = outs s (k + 1) := by
  have h1 : ((s.take k).flatMap outI).length = 4 * k := by rw [flat_length]; simp; omega
  have h2 : 32 - 4 * k = (32 - 4 * (k + 1)) + 1 + 1 + 1 + 1 := by omega
  have h3 : s.take (k + 1) = s.take k ++ [s.getD k 0] := by
    rw [List.take_succ_eq_append_getElem (by omega)]
    simp [List.getD, show k < s.length by omega]
  simp only [outs]
  rw [h3, h2, List.flatMap_append]
  simp only [List.replicate_succ]
  rw [List.set_append_right _ _ (by omega), h1, Nat.sub_self, List.set_cons_zero, List.set_append_right _ _ (by omega), h1, show 4 * k + 1 - 4 * k = 1 by omega, List.set_cons_succ, List.set_cons_zero,
    List.set_append_right _ _ (by omega), h1, show 4 * k + 2 - 4 * k = 2 by omega, List.set_cons_succ, List.set_cons_succ, List.set_cons_zero, List.set_append_right _ _ (by omega), h1, show 4 * k + 3 - 4 * k = 3 by omega, List.set_cons_succ, List.set_cons_succ, List.set_cons_succ, List.set_cons_zero]
  simp [outI]
theorem outs_zero (s : List Int) : outs s 0 = List.replicate 32 0 := by simp [outs]
theorem outs_all (s : List Int) (hs : s.length = 8) : outs s 8 = s.flatMap outI := by rw [outs, List.take_of_length_le (by omega)]; simp
/-- What holds at the head of a round. -/
def Outing (w : World) (s : List Int) (i : Value) (wr : World) : Prop :=
  ∃ k : Nat, k ≤ 8 ∧ i = .int .i64 k ∧ Below w.heap.size w wr ∧ Arr wr (w.heap.size + 1) 0 .u8 (List.replicate 32 0) ∧ Arr wr (w.heap.size + 1 + 1) 0 .u8 (outs s k)
theorem Outing.next {w wr : World} {s : List Int} {k : Nat} (hs : s.length = 8) (hk : k < 8) (hbel : Below w.heap.size w wr) (hR : Arr wr (w.heap.size + 1) 0 .u8 (List.replicate 32 0)) (hA : Arr wr (w.heap.size + 1 + 1) 0 .u8 (outs s k)) :
    Outing w s (.int .i64 ((k + 1 : Nat) : Int)) ((((wr.setCell ⟨w.heap.size + 1 + 1, 4 * k, none⟩ (.int .u8 (s.getD k 0 / 16777216 % 256))).setCell ⟨w.heap.size + 1 + 1, 4 * k + 1, none⟩ (.int .u8 (s.getD k 0 / 65536 % 256))).setCell ⟨w.heap.size + 1 + 1, 4 * k + 2, none⟩ (.int .u8 (s.getD k 0 / 256 % 256))).setCell ⟨w.heap.size + 1 + 1, 4 * k + 3, none⟩ (.int .u8 (s.getD k 0 % 256))) := by
  have hl := outs_length s hs k (by omega)
  refine ⟨k + 1, by omega, rfl, (((hbel.setCell (by simp; omega) _).setCell (by simp; omega) _).setCell (by simp; omega) _).setCell (by simp; omega) _,
    (((hR.beside _ _ (Or.inl (by simp))).beside _ _ (Or.inl (by simp))).beside _ _ (Or.inl (by simp))).beside _ _ (Or.inl (by simp)), ?_⟩
  rw [← outs_set s hs k hk]
  exact (((hA.set0 (4 * k) (by omega) _).set0 (4 * k + 1) (by simp; omega) _).set0 (4 * k + 2) (by simp; omega) _).set0 (4 * k + 3) (by simp; omega) _
theorem Outing.start (w : World) (s : List Int) (cs ds : Array Value) (hc : cs = (vals .u8 (List.replicate 32 0)).toArray) (hd : ds = (vals .u8 (List.replicate 32 0)).toArray) (t t' t'' : TypeId) :
    Arr (((w.alloc (.cells (vals .u32 s).toArray t)).alloc (.cells cs t')).alloc (.cells ds t'')) w.heap.size 0 .u32 s ∧ Outing w s (.int .i64 ((0 : Nat) : Int)) (((w.alloc (.cells (vals .u32 s).toArray t)).alloc (.cells cs t')).alloc (.cells ds t'')) := by
  subst hc hd
  refine ⟨((Arr.new w .u32 s t).alloc _).alloc _, 0, by omega, rfl, (((Below.refl _ _).alloc (Nat.le_refl _) _).alloc (by rw [alloc_size]; omega) _).alloc (by rw [alloc_size, alloc_size]; omega) _, ?_, ?_⟩
  · have := (Arr.new (w.alloc (.cells (vals .u32 s).toArray t)) .u8 (List.replicate 32 0) t').alloc (.cells (vals .u8 (List.replicate 32 0)).toArray t'')
    rwa [alloc_size] at this
  · have := Arr.new ((w.alloc (.cells (vals .u32 s).toArray t)).alloc (.cells (vals .u8 (List.replicate 32 0)).toArray t')) .u8 (List.replicate 32 0) t''
    rw [outs_zero]
    rwa [alloc_size, alloc_size] at this
theorem info_h : (Tryd.prog.info? 34).map (·.size) = some 32 := by kernel_rfl

set_option maxRecDepth 100000 in
set_option maxHeartbeats 1000000 in
theorem asBytes_any (s : List Int) (w : World) (hs : s.length = 8) :
    Calls Tryd.prog 57 #[.agg (vals .u32 s).toArray] w fun e w' => e = .returned (.agg (vals .u8 (s.flatMap outI)).toArray) ∧ Below w.heap.size w w' := by
  have IX := hide (fun k hk w => index_arr s hs k hk w)
  have HSL := hide hs
  clear hs
  go_enter Tryd.func57, Tryd.ntmps57
  go_upto_region 2 with fail
  obtain ⟨W, hW⟩ : ∃ W, W = (((w.alloc (.cells (vals .u32 s).toArray 72)).alloc (.cells #[.int .u8 0, .int .u8 0, .int .u8 0, .int .u8 0, .int .u8 0, .int .u8 0, .int .u8 0, .int .u8 0, .int .u8 0, .int .u8 0, .int .u8 0, .int .u8 0, .int .u8 0, .int .u8 0, .int .u8 0, .int .u8 0, .int .u8 0, .int .u8 0, .int .u8 0, .int .u8 0, .int .u8 0, .int .u8 0, .int .u8 0, .int .u8 0, .int .u8 0, .int .u8 0, .int .u8 0, .int .u8 0, .int .u8 0, .int .u8 0, .int .u8 0, .int .u8 0] 34)).alloc (.cells #[.int .u8 0, .int .u8 0, .int .u8 0, .int .u8 0, .int .u8 0, .int .u8 0, .int .u8 0, .int .u8 0, .int .u8 0, .int .u8 0, .int .u8 0, .int .u8 0, .int .u8 0, .int .u8 0, .int .u8 0, .int .u8 0, .int .u8 0, .int .u8 0, .int .u8 0, .int .u8 0, .int .u8 0, .int .u8 0, .int .u8 0, .int .u8 0, .int .u8 0, .int .u8 0, .int .u8 0, .int .u8 0, .int .u8 0, .int .u8 0, .int .u8 0, .int .u8 0] 34)) := ⟨_, rfl⟩
  rw [← hW]
  have hst : Arr W w.heap.size 0 .u32 s ∧ Outing w s (.int .i64 ((0 : Nat) : Int)) W := by rw [hW]; exact Outing.start w s _ _ rfl rfl _ _ _
  clear hW
  have HA := hide hst.1
  have HO := hide hst.2
  clear hst
  go_wp2_with (refine wp_load_arr rfl 72 (.tmp 1) rfl _ 0 rfl .u32 _ HA.out _ Tryd.underlying72 rfl 8 info_s HSL.out ?_)
  go_loopw [7] (fun i wr => Outing w s i wr) (fun i _ => 8 - (intOf i).toNat)
  case atStart => exact HO.out
  case round =>
    clear HA HO
    obtain ⟨k, hk, rfl, hbel, hR, hA⟩ := hrel
    by_cases hlt : k < 8
    · have R := hide (Outing.next HSL.out hlt hbel hR hA)
      have ix := fun wx => IX.out k hlt wx
      have hl := outs_length s HSL.out k (by omega)
      have c0 := hA.cell0 (4 * k) (by omega)
      have c1 := hA.cell0 (4 * k + 1) (by omega)
      have c2 := hA.cell0 (4 * k + 2) (by omega)
      have c3 := hA.cell0 (4 * k + 3) (by omega)
      have f0 := hA.free0 (4 * k) (by omega)
      have f1 := hA.free0 (4 * k + 1) (by omega)
      have f2 := hA.free0 (4 * k + 2) (by omega)
      have f3 := hA.free0 (4 * k + 3) (by omega)
      clear hbel hA hR hl
      generalize s.getD k 0 = x at *
      generalize (outs s k).getD (4 * k) 0 = y0 at *
      generalize (outs s k).getD (4 * k + 1) 0 = y1 at *
      generalize (outs s k).getD (4 * k + 2) 0 = y2 at *
      generalize (outs s k).getD (4 * k + 3) 0 = y3 at *
      go_wp2
      go_roundw
      case rel => first | exact R.out | ((repeat apply Exists.intro); exact ⟨R.out, rfl⟩)
      case measure => simp [intOf]; omega
    · obtain rfl : k = 8 := by omega
      rw [outs_all s HSL.out] at hA
      have HA := hide hA
      have HR : Hid (wr.there (w.heap.size + 1) 0 32) := hide (by simpa using hR.2)
      have HB := hide hbel
      clear hbel hA hR hlt hk
      have HLN : Hid ((s.flatMap outI).length = 32) := hide (by rw [flat_length, HSL.out])
      go_wp2_with (first | (refine wp_load_arr rfl 34 (.tmp 3) rfl _ 0 rfl .u8 _ HA.out _ Tryd.underlying34 rfl 32 info_h HLN.out ?_) | (refine wp_store_arr rfl 34 (.tmp 2) (.tmp 38) rfl _ 0 .u8 (s.flatMap outI) rfl rfl 32 HR.out info_h HLN.out ?_))
      refine ret_arr 2 34 rfl _ 0 rfl .u8 (s.flatMap outI) (Arr.put (by rw [HLN.out]; exact HR.out)) _ Tryd.underlying34 rfl 32 info_h HLN.out rfl ⟨rfl, below_sets (by omega) _ _ _ HB.out⟩

end Go.Proofs.YtbeegcpmpgdbnaaDoor

/-
  What sha.end answers at this program: the sum of a hasher's bytes.
-/
namespace Go.Proofs.YtbeegcpmpgdbnaaDoor
open Go.RowKit

theorem gap_lt (n : Nat) : gap n < 64 := Nat.mod_lt _ (by omega)
theorem gap_mod (n : Nat) : (n + (1 + gap n) + 8) % 64 = 0 := by unfold gap; omega
theorem gap_not (n j : Nat) (h : j < gap n) : (n + (1 + j) + 8) % 64 ≠ 0 := by unfold gap at h; omega
/-- What the tail has behind j bytes 0 and k bytes of the count. -/
def tailTo (n j k : Nat) : List Int := 128 :: List.replicate j 0 ++ (countI (8 * n)).take k
theorem tailTo_zero (n j : Nat) : tailTo n j 0 = 128 :: List.replicate j 0 := by simp [tailTo]
theorem tailTo_length (n j k : Nat) (hk : k ≤ 8) : (tailTo n j k).length = 1 + j + k := by simp [tailTo, countI]; omega
theorem tailTo_more (n j : Nat) : tailTo n j 0 ++ [0] = tailTo n (j + 1) 0 := by
  rw [tailTo_zero, tailTo_zero, List.replicate_succ', List.cons_append]
theorem tailTo_all (n : Nat) : tailTo n (gap n) 8 = tailI n := rfl
theorem tailTo_count (n j k : Nat) (hk : k < 8) : tailTo n j k ++ [(countI (8 * n)).getD k 0] = tailTo n j (k + 1) := by
  have h : k < (countI (8 * n)).length := by simp [countI]; omega
  simp only [tailTo, List.append_assoc]
  rw [List.take_succ_eq_append_getElem h]
  simp [List.getD, h]

/-- What stays while the tail is made: the box of the hasher, the place of the sum. -/
def Box (w : World) (m st blk : List Int) (wr : World) : Prop :=
  Below w.heap.size w wr ∧ HashAt wr w.heap.size m.length st blk ∧ Arr wr (w.heap.size + 1) 0 .u8 (List.replicate 32 0) ∧ w.heap.size + 1 + 1 ≤ wr.heap.size
theorem Box.on {w wr wr' : World} {m st blk : List Int} (h : Box w m st blk wr) (hb : Below (w.heap.size + 1 + 1) wr wr') : Box w m st blk wr' :=
  ⟨h.1.trans (hb.mono (by omega)), h.2.1.heap (hb.block _ (by omega)), h.2.2.1.below hb (by omega), Nat.le_trans h.2.2.2 hb.size⟩
def Ending1 (w : World) (m st blk : List Int) (v : Value) (wr : World) : Prop := ∃ j : Nat, j ≤ gap m.length ∧ Own wr (w.heap.size + 1 + 1) v (tailTo m.length j 0) ∧ Box w m st blk wr
def Ending2 (w : World) (m st blk : List Int) (v i : Value) (wr : World) : Prop := ∃ k : Nat, k ≤ 8 ∧ i = .int .i64 (56 - 8 * (k : Int)) ∧ Own wr (w.heap.size + 1 + 1) v (tailTo m.length (gap m.length) k) ∧ Box w m st blk wr
theorem Own.tail (w : World) (base : Nat) (hb : base ≤ w.heap.size) (cs : Array Value) (hc : cs.size = 72) (h0 : cs.toList.take 1 = [.int .u8 128]) : Own (w.alloc (.cells cs 5)) base (.slice (some ⟨w.heap.size, 0, none⟩) 1 72) [128] :=
  ⟨rfl, Or.inr ⟨w.heap.size, 72, cs, rfl, hb, heap_alloc_new w _, by simp, by simp [maxLen], by omega, h0⟩⟩
theorem make_tail (w : World) : (Instr.makeSlice 37 (.int .i64 1) (.int .i64 72)).run Tryd.prog w = .ok (.slice (some ⟨w.heap.size, 0, none⟩) 1 72) (w.alloc (.cells (Array.replicate 72 (.int .u8 0)) 5)) := by kernel_rfl

set_option maxRecDepth 100000 in
set_option maxHeartbeats 1000000 in
theorem end_any (w : World) (m st blk : List Int) (hst : st.length = 8) (hB : Begins blk m) (hs : m = [] ∨ st = stateOf m) (hk : Ks w) (hsz : m.length ≤ 100000000) :
    Calls Tryd.prog 45 #[.agg (cellsOf m.length st blk).toArray] w fun e w' => e = .returned (.agg (vals .u8 (digest m)).toArray) ∧ Below w.heap.size w w' := by
  have MT := make_tail
  have HK := hide hk
  have HH := hide (And.intro hB hs)
  clear hk hs
  have hbl := hB.1
  have HBX := hide (fun (cs : Array Value) (t t' : TypeId) (hc : cs = (vals .u8 (List.replicate 32 0)).toArray) => show Box w m st blk ((w.alloc (.cells (cellsOf m.length st blk).toArray t)).alloc (.cells cs t')) from by
    subst hc
    refine ⟨((Below.refl _ _).alloc (Nat.le_refl _) _).alloc (by rw [alloc_size]; omega) _, (HashAt.new w m.length st blk t hst hbl).on ((Below.refl _ _).alloc (Nat.le_refl _) _), ?_, by rw [alloc_size, alloc_size]; omega⟩
    have := Arr.new (w.alloc (.cells (cellsOf m.length st blk).toArray t)) .u8 (List.replicate 32 0) t'
    rwa [alloc_size] at this)
  clear hB hst hbl
  go_enter Tryd.func45, Tryd.ntmps45
  go_upto_region 1 with fail
  obtain ⟨W, hW⟩ : ∃ W, W = (w.alloc (.cells (cellsOf m.length st blk).toArray 88)).alloc (.cells #[.int .u8 0, .int .u8 0, .int .u8 0, .int .u8 0, .int .u8 0, .int .u8 0, .int .u8 0, .int .u8 0, .int .u8 0, .int .u8 0, .int .u8 0, .int .u8 0, .int .u8 0, .int .u8 0, .int .u8 0, .int .u8 0, .int .u8 0, .int .u8 0, .int .u8 0, .int .u8 0, .int .u8 0, .int .u8 0, .int .u8 0, .int .u8 0, .int .u8 0, .int .u8 0, .int .u8 0, .int .u8 0, .int .u8 0, .int .u8 0, .int .u8 0, .int .u8 0] 34) := ⟨_, rfl⟩
  rw [← hW]
  have hbx := HBX.out #[.int .u8 0, .int .u8 0, .int .u8 0, .int .u8 0, .int .u8 0, .int .u8 0, .int .u8 0, .int .u8 0, .int .u8 0, .int .u8 0, .int .u8 0, .int .u8 0, .int .u8 0, .int .u8 0, .int .u8 0, .int .u8 0, .int .u8 0, .int .u8 0, .int .u8 0, .int .u8 0, .int .u8 0, .int .u8 0, .int .u8 0, .int .u8 0, .int .u8 0, .int .u8 0, .int .u8 0, .int .u8 0, .int .u8 0, .int .u8 0, .int .u8 0, .int .u8 0] 88 34 rfl
  rw [← hW] at hbx
  clear hW HBX
  have HBX := hide hbx
  have c0 := hbx.2.1.1
  clear hbx
  have hm8 : (8 * (m.length : Int)) % 18446744073709551616 = 8 * (m.length : Int) := by omega
  go_wp2
  have HE1 : Hid (Ending1 w m st blk (.slice (some ⟨W.heap.size, 0, none⟩) 1 72) (W.alloc (.cells ((Array.replicate 72 (.int .u8 0)).setIfInBounds 0 (.int .u8 128)) 5))) := by
    refine hide ⟨0, by omega, ?_, HBX.out.on ((Below.refl _ _).alloc HBX.out.2.2.2 _)⟩
    rw [tailTo_zero]
    exact Own.tail W _ HBX.out.2.2.2 _ (by simp) rfl
  go_loopw [4] (fun v wr => Ending1 w m st blk v wr) (fun v _ => 100 - lenOf v)
  case atStart => exact HE1.out
  case round =>
    clear HE1 HBX c0
    obtain ⟨j, hj, hown, hbox⟩ := hrel
    obtain ⟨a, cap, rfl, hc1, hc2⟩ := hown.bytes.form
    have hlen : (tailTo m.length j 0).length = 1 + j := tailTo_length m.length j 0 (by omega)
    have HO := hide hown
    have HBX := hide hbox
    have c0 := hbox.2.1.1
    have hg := gap_lt m.length
    clear hown hbox
    by_cases hlt : j < gap m.length
    · have ht : (((m.length : Int) + ((1 + j : Nat) : Int) + 8) % 64 != 0) = true := by
        have := gap_not m.length j hlt
        simp
        omega
      rw [hlen] at hc1 HO ⊢
      clear hlen
      obtain ⟨n, hn⟩ : ∃ n, n = 1 + j := ⟨_, rfl⟩
      rw [← hn] at ht hc1 HO ⊢
      have HN := hide hn
      have hn0 : n ≤ 64 := by omega
      clear hn
      go_wp2_with (at_builtin; refine wp_append rfl (.tmp 21) (.tmp 22) rfl (w.heap.size + 1 + 1) _ _ rfl (HO.out.alloc _) _ [0] rfl (Bytes.one _ _) ?c1 ?c2 ?_)
      case c1 => rw [tailTo_length _ _ _ (by omega)]; simp; omega
      case c2 => have := HBX.out.2.2.2; rw [alloc_size]; omega
      intro v' w' hown' hbel'
      have R : Hid (Ending1 w m st blk v' w' ∧ lenOf v' = n + 1) := by
        have hb2 := ((Below.refl (w.heap.size + 1 + 1) wr).alloc HBX.out.2.2.2 (.cells #[.int .u8 0] 5)).trans hbel'
        rw [tailTo_more] at hown'
        obtain ⟨a', cap', rfl, _⟩ := hown'.bytes.form
        refine hide ⟨⟨j + 1, by omega, hown', HBX.out.on hb2⟩, ?_⟩
        have := HN.out
        simp [lenOf, tailTo_length]
        omega
      clear hown' hbel'
      go_wp2
      go_roundw
      case rel => first | exact R.out.1 | ((repeat apply Exists.intro); exact ⟨R.out.1, rfl⟩)
      case measure => rw [R.out.2]; simp [lenOf]; omega
    · obtain rfl : j = gap m.length := by omega
      have ht : (((m.length : Int) + ((1 + gap m.length : Nat) : Int) + 8) % 64 != 0) = false := by
        have := gap_mod m.length
        simp
        omega
      rw [hlen] at hc1 HO ⊢
      have HE2 : Hid (Ending2 w m st blk (.slice a (1 + gap m.length) cap) (.int .i64 56) wr) := by
        refine hide ⟨0, by omega, rfl, ?_, HBX.out⟩
        have := HO.out
        exact this
      clear hlen HO hlt hj
      obtain ⟨n, hn⟩ : ∃ n, n = 1 + gap m.length := ⟨_, rfl⟩
      rw [← hn] at ht hc1 HE2 ⊢
      have hn0 : n ≤ 64 := by omega
      clear hn hg
      go_wp2
      clear HBX
      go_loopw [4, 5] (fun v i wr => Ending2 w m st blk v i wr) (fun _ i _ => (intOf i + 8).toNat)
      case atStart => exact HE2.out
      case round =>
        clear HE2 c0 ht
        obtain ⟨k, hk, rfl, hown, hbox⟩ := hrel
        have HO := hide hown
        have HBX := hide hbox
        clear hown hbox
        by_cases hlt : k < 8
        · have R := hide (fun v' w' (hown' : Own w' (w.heap.size + 1 + 1) v' (tailTo m.length (gap m.length) k ++ [(countI (8 * m.length)).getD k 0])) (hb2 : Below (w.heap.size + 1 + 1) wr w') => show Ending2 w m st blk v' (.int .i64 (56 - 8 * ((k + 1 : Nat) : Int))) w' from by
            rw [tailTo_count _ _ _ hlt] at hown'
            exact ⟨k + 1, by omega, rfl, hown', HBX.out.on hb2⟩)
          have HS : Hid ((tailTo m.length (gap m.length) k).length ≤ 100) := hide (by rw [tailTo_length _ _ _ hk]; have := gap_lt m.length; omega)
          obtain ⟨a, cap, rfl, hc1, hc2⟩ := HO.out.bytes.form
          generalize tailTo m.length (gap m.length) k = T at *
          have hbits : (8 * (m.length : Int)) = ((8 * m.length : Nat) : Int) := by omega
          rw [hbits] at R ⊢
          clear hbits
          generalize 8 * m.length = B at *
          rcases (show k = 0 ∨ k = 1 ∨ k = 2 ∨ k = 3 ∨ k = 4 ∨ k = 5 ∨ k = 6 ∨ k = 7 by omega) with rfl | rfl | rfl | rfl | rfl | rfl | rfl | rfl
          all_goals
            first
              | (have e : (56 - 8 * ((0 : Nat) : Int)) = 56 := rfl; rw [e]; have e2 : (56 - 8 * ((0 + 1 : Nat) : Int)) = 48 := rfl; rw [e2] at R; clear e e2)
              | (have e : (56 - 8 * ((1 : Nat) : Int)) = 48 := rfl; rw [e]; have e2 : (56 - 8 * ((1 + 1 : Nat) : Int)) = 40 := rfl; rw [e2] at R; clear e e2)
              | (have e : (56 - 8 * ((2 : Nat) : Int)) = 40 := rfl; rw [e]; have e2 : (56 - 8 * ((2 + 1 : Nat) : Int)) = 32 := rfl; rw [e2] at R; clear e e2)
              | (have e : (56 - 8 * ((3 : Nat) : Int)) = 32 := rfl; rw [e]; have e2 : (56 - 8 * ((3 + 1 : Nat) : Int)) = 24 := rfl; rw [e2] at R; clear e e2)
              | (have e : (56 - 8 * ((4 : Nat) : Int)) = 24 := rfl; rw [e]; have e2 : (56 - 8 * ((4 + 1 : Nat) : Int)) = 16 := rfl; rw [e2] at R; clear e e2)
              | (have e : (56 - 8 * ((5 : Nat) : Int)) = 16 := rfl; rw [e]; have e2 : (56 - 8 * ((5 + 1 : Nat) : Int)) = 8 := rfl; rw [e2] at R; clear e e2)
              | (have e : (56 - 8 * ((6 : Nat) : Int)) = 8 := rfl; rw [e]; have e2 : (56 - 8 * ((6 + 1 : Nat) : Int)) = 0 := rfl; rw [e2] at R; clear e e2)
              | (have e : (56 - 8 * ((7 : Nat) : Int)) = 0 := rfl; rw [e]; have e2 : (56 - 8 * ((7 + 1 : Nat) : Int)) = -8 := rfl; rw [e2] at R; clear e e2)
            go_wp2_with (at_builtin; refine wp_append rfl (.tmp 28) (.tmp 33) rfl (w.heap.size + 1 + 1) _ _ rfl (HO.out.alloc _) _ _ rfl (Bytes.one _ _) ?c1 ?c2 ?_)
            case c1 => have := HS.out; simp; omega
            case c2 => have := HBX.out.2.2.2; rw [alloc_size]; omega
            intro v' w' hown' hbel'
            have RR := hide (R.out v' w' hown' (((Below.refl (w.heap.size + 1 + 1) wr).alloc HBX.out.2.2.2 _).trans hbel'))
            clear hown' hbel'
            go_wp2
            go_roundw
            case rel => first | exact RR.out | ((repeat apply Exists.intro); exact ⟨RR.out, rfl⟩)
            case measure => simp [intOf]
        · obtain rfl : k = 8 := by omega
          rw [tailTo_all] at HO
          clear hlt hk
          obtain ⟨a, cap, rfl, hc1, hc2⟩ := HO.out.bytes.form
          have e : (56 - 8 * ((8 : Nat) : Int)) = -8 := rfl
          rw [e]
          have TK := hide (take_any wr w.heap.size _ (tailI m.length) m ⟨st, blk, HBX.out.2.1, HH.out.1, HH.out.2⟩ (Src.own HO.out (by omega)) (HK.out.on HBX.out.1) (by have := HK.out.lt; omega) (by rw [← tailTo_all, tailTo_length _ _ _ (by omega)]; have := gap_lt m.length; omega))
          go_wp2_with fail
          refine TK.out.mono ?_
          rintro e w1 ⟨rfl, ⟨blk1, h1, hB1⟩, ho1⟩
          have H1 := hide h1
          have HBL : Hid (Below w.heap.size w w1) := hide (HBX.out.1.trans (ho1.ground (Nat.le_refl _)))
          have HR1 : Hid (w1.there (w.heap.size + 1) 0 32) := hide (by
            have := HBX.out.2.2.1
            have h2 : Arr w1 (w.heap.size + 1) 0 .u8 (List.replicate 32 0) := this.at (fun i _ => ho1.cell _ (by simp) (by have := HBX.out.2.2.2; simp; omega)) (fun i _ => ho1.frozen _ (by simp) (by have := HBX.out.2.2.2; simp; omega))
            simpa using h2.2)
          have HS1 : Hid (w.heap.size + 1 + 1 ≤ w1.heap.size) := hide (Nat.le_trans HBX.out.2.2.2 ho1.size)
          have AB := hide (asBytes_any (stateOf (m ++ tailI m.length)) w1 (stateOf_length _))
          have HDG : Hid ((stateOf (m ++ tailI m.length)).flatMap outI = digest m) := hide rfl
          have HDL : Hid ((digest m).length = 32) := hide (by rw [← HDG.out, flat_length, stateOf_length])
          rw [HDG.out] at AB
          have HSL := hide (stateOf_length (m ++ tailI m.length))
          clear h1 hB1 ho1 TK HO HBX hc1 hc2
          generalize stateOf (m ++ tailI m.length) = Z at *
          go_wp2_with (refine wp_load_arr rfl 72 (.tmp 37) rfl _ 1 rfl .u32 Z H1.out.2.2.1 _ Tryd.underlying72 rfl 8 info_s HSL.out ?_)
          refine AB.out.mono ?_
          rintro e w2 ⟨rfl, hbel2⟩
          have HR2 : Hid (w2.there (w.heap.size + 1) 0 32) := hide (fun j hj => by
            have := HR1.out j hj
            have hlt : w.heap.size + 1 < w1.heap.size := HS1.out
            rw [hbel2.cell hlt, hbel2.frozen hlt]
            exact this)
          have HB2 := hide (below_on' HBL.out hbel2 (Nat.le_refl _))
          clear hbel2
          go_wp2_with (refine wp_store_arr rfl 34 (.tmp 2) (.tmp 39) rfl _ 0 .u8 (digest m) rfl rfl 32 HR2.out info_h HDL.out ?_)
          refine ret_arr 2 34 rfl _ 0 rfl .u8 (digest m) (Arr.put (by rw [HDL.out]; exact HR2.out)) _ Tryd.underlying34 rfl 32 info_h HDL.out rfl ⟨rfl, below_sets (by omega) _ _ _ HB2.out⟩

end Go.Proofs.YtbeegcpmpgdbnaaDoor

/-
  What (*sha.Hasher).Write does at this program.
-/
namespace Go.Proofs.YtbeegcpmpgdbnaaDoor
open Go.RowKit

/-- A hasher's cells at first. -/
def zeroCells : List Value := cellsOf 0 (List.replicate 8 0) (List.replicate 64 0)
theorem zero_hasher : (∀ w, (zeroValue 88).run Tryd.prog w = .ok (.agg zeroCells.toArray) w) ∧ (Tryd.prog.info? 88).map (·.size) = some 73 := zero_of_info (by kernel_rfl)
theorem Hashes.new (w : World) : Hashes (w.alloc (.cells zeroCells.toArray 88)) w.heap.size [] :=
  ⟨_, _, HashAt.new w 0 _ _ _ (by simp) (by simp), Begins.nil _ (by simp), Or.inl rfl⟩
/-- A list of pieces that do not lie in block b. -/
def SrcAll (w : World) (b : Nat) (v : Value) (L : List (List Int)) : Prop :=
  ∃ (a : Option Addr) (cap : Nat), v = .slice a L.length cap ∧ L.length ≤ cap ∧ cap ≤ 9223372036854775807 ∧
    (0 < L.length → ∃ b' off : Nat, a = some ⟨b', off, none⟩ ∧ b' ≠ b ∧ ∀ i, i < L.length → ∃ p, w.cell? ⟨b', off + i, none⟩ = some p ∧ Src w b p (L.getD i []))
theorem SrcAll.on {w w' : World} {b : Nat} {v : Value} {L : List (List Int)} (h : SrcAll w b v L) (ho : Only b w w') : SrcAll w' b v L := by
  obtain ⟨a, cap, h1, h2, h3, h4⟩ := h
  refine ⟨a, cap, h1, h2, h3, fun hl => ?_⟩
  obtain ⟨b', off, rfl, hne, hc⟩ := h4 hl
  refine ⟨b', off, rfl, hne, fun i hi => ?_⟩
  obtain ⟨p, hp, hq⟩ := hc i hi
  exact ⟨p, (ho.cell _ hne (World.block_lt_of_cell? _ _ hp)).trans hp, hq.on ho⟩
theorem SrcAll.old {w0 w : World} {b : Nat} {v : Value} {L : List (List Int)} (h : Parts w0 v L) (hb : Below w0.heap.size w0 w) (hB : w0.heap.size ≤ b) : SrcAll w b v L := by
  obtain ⟨a, cap, h1, h2, h3, _, h5⟩ := h
  refine ⟨a, cap, h1, h2, h3, fun hl => ?_⟩
  obtain ⟨b', off, rfl, hc⟩ := h5 hl
  have hlt : b' < w0.heap.size := by obtain ⟨p, hp, _⟩ := hc 0 hl; exact World.block_lt_of_cell? _ _ hp
  refine ⟨b', off, rfl, by omega, fun i hi => ?_⟩
  obtain ⟨p, hp, hq⟩ := hc i hi
  exact ⟨p, (hb.cell (p := ⟨b', off + i, none⟩) hlt).trans hp, Src.old hq hb hB⟩
theorem Src.alloc {w : World} {b : Nat} {v : Value} {l : List Int} (h : Src w b v l) (hb : b < w.heap.size) (o : Obj) : Src (w.alloc o) b v l := h.on (Only.of_below ((Below.refl _ _).alloc (Nat.le_refl _) o) (Nat.le_of_lt hb))
theorem SrcAll.one {w : World} {b : Nat} {p : Value} {l : List Int} (h : Src w b p l) (hb : b < w.heap.size) : SrcAll (w.alloc (.cells #[p] 37)) b (.slice (some ⟨w.heap.size, 0, none⟩) 1 1) [l] := by
  refine ⟨_, _, rfl, Nat.le_refl _, by omega, fun _ => ⟨_, _, rfl, by omega, fun i hi => ?_⟩⟩
  obtain rfl : i = 0 := by simp at hi; omega
  exact ⟨p, by rw [cell_of_row _ _ _ _ 37 (0, 0) (heap_alloc_new w _)]; rfl, h.alloc hb _⟩
theorem SrcAll.two {w : World} {b : Nat} {p q : Value} {l m : List Int} (h : Src w b p l) (k : Src w b q m) (hb : b < w.heap.size) : SrcAll (w.alloc (.cells #[p, q] 37)) b (.slice (some ⟨w.heap.size, 0, none⟩) 2 2) [l, m] := by
  refine ⟨_, _, rfl, Nat.le_refl _, by omega, fun _ => ⟨_, _, rfl, by omega, fun i hi => ?_⟩⟩
  rcases (show i = 0 ∨ i = 1 by simp at hi; omega) with rfl | rfl
  · exact ⟨p, by rw [cell_of_row _ _ _ _ 37 (0, 0) (heap_alloc_new w _)]; rfl, h.alloc hb _⟩
  · exact ⟨q, by rw [cell_of_row _ _ _ _ 37 (0, 0) (heap_alloc_new w _)]; rfl, k.alloc hb _⟩
/-- What holds at the head of a round of Write. -/
def Writing (w : World) (b : Nat) (m : List Int) (v : Value) (L : List (List Int)) (i : Value) (wr : World) : Prop :=
  ∃ k : Nat, k ≤ L.length ∧ i = .int .i64 k ∧ Hashes wr b (m ++ (L.take k).flatten) ∧ SrcAll wr b v L ∧ Only b w wr

theorem flat_part (L : List (List Int)) (k : Nat) (hk : k < L.length) : (L.take (k + 1)).flatten = (L.take k).flatten ++ L.getD k [] := by
  rw [List.take_succ_eq_append_getElem hk, List.flatten_append]
  simp [List.getD, hk]
theorem flat_more (L : List (List Int)) (k : Nat) (hk : k < L.length) : (L.take k).flatten.length + (L.getD k []).length ≤ L.flatten.length := by
  have h := flat_part L k hk
  have e : L.flatten = (L.take (k + 1)).flatten ++ (L.drop (k + 1)).flatten := by rw [← List.flatten_append, List.take_append_drop]
  rw [e, h]
  simp
set_option maxRecDepth 100000 in
set_option maxHeartbeats 1000000 in
theorem write_any (w : World) (b : Nat) (m : List Int) (v : Value) (L : List (List Int)) (hH : Hashes w b m) (hS : SrcAll w b v L) (hk : Ks w) (hb : b ≠ 2) (hsz : m.length + L.flatten.length ≤ 1000000000) :
    Calls Tryd.prog 44 #[.pointer (some ⟨b, 0, none⟩), v] w fun e w' => e = .returned (.int .i64 0) ∧ Hashes w' b (m ++ L.flatten) ∧ Only b w w' := by
  have HK := hide hk
  have HW : Hid (Writing w b m v L (.int .i64 0) w) := hide ⟨0, by omega, rfl, by simpa using hH, hS, Only.refl _ _⟩
  obtain ⟨a, cap, rfl, hc1, hc2, -⟩ := hS
  clear hH hk
  go_enter Tryd.func44, Tryd.ntmps44
  go_wp2
  go_loopw [11] (fun i wr => Writing w b m (.slice a L.length cap) L i wr) (fun i _ => L.length - (intOf i).toNat)
  case atStart => exact HW.out
  case round =>
    clear HW
    obtain ⟨k, hkl, rfl, hH, hS, hO⟩ := hrel
    by_cases hlt : k < L.length
    · have HS := hide hS
      obtain ⟨a', cap', e, -, -, h4⟩ := hS
      obtain ⟨b', off, ea, hne, hc⟩ := h4 (by omega)
      obtain ⟨p, hp, hq⟩ := hc k hlt
      simp only [Value.slice.injEq, true_and] at e
      obtain ⟨rfl, rfl⟩ := e
      subst ea
      have hfm := flat_more L k hlt
      have TK := hide (take_any wr b p (L.getD k []) (m ++ (L.take k).flatten) hH hq (HK.out.only hO hb) hb (by rw [List.length_append]; omega))
      have HO := hide hO
      clear hc hq hH hO h4 hfm
      go_wp2_with fail
      refine TK.out.mono ?_
      rintro e w1 ⟨rfl, h1, o1⟩
      have R : Hid (Writing w b m (.slice (some ⟨b', off, none⟩) L.length cap) L (.int .i64 ((k + 1 : Nat) : Int)) w1) := by
        refine hide ⟨k + 1, by omega, rfl, ?_, HS.out.on o1, HO.out.trans o1⟩
        rw [flat_part L k hlt, ← List.append_assoc]
        exact h1.hashes
      clear h1 o1
      go_wp2
      go_roundw
      case rel => first | exact R.out | ((repeat apply Exists.intro); exact ⟨R.out, rfl⟩)
      case measure => simp [intOf]; omega
    · rw [List.take_of_length_le (by omega)] at hH
      have R := hide (And.intro hH hO)
      clear hH hO hS
      go_wp2
      go_ret
      exact ⟨rfl, R.out⟩

end Go.Proofs.YtbeegcpmpgdbnaaDoor

/-
  What sha.Sum answers at this program.
-/
namespace Go.Proofs.YtbeegcpmpgdbnaaDoor
open Go.RowKit

theorem digest_length (m : List Int) : (digest m).length = 32 := by rw [digest, flat_length, stateOf_length]
set_option maxRecDepth 100000 in
set_option maxHeartbeats 1000000 in
theorem sum_flat (w : World) (v : Value) (L : List (List Int)) (fl : List Int) (hfl : L.flatten = fl) (hP : Parts w v L) (hk : Ks w) (hsz : fl.length ≤ 100000000) :
    Calls Tryd.prog 30 #[v] w fun e w' => e = .returned (.agg (vals .u8 (digest fl)).toArray) ∧ Below w.heap.size w w' := by
  have HK := hide hk
  have HP := hide hP
  have hz := zero_hasher.1
  have hk0 := hk.lt
  have HDL := hide (digest_length fl)
  have HFL := hide hfl
  clear hP hk hfl
  go_enter Tryd.func30, Tryd.ntmps30
  go_upto_region 2 with fail
  obtain ⟨W, hW⟩ : ∃ W, W = (w.alloc (.cells #[.int .u8 0, .int .u8 0, .int .u8 0, .int .u8 0, .int .u8 0, .int .u8 0, .int .u8 0, .int .u8 0, .int .u8 0, .int .u8 0, .int .u8 0, .int .u8 0, .int .u8 0, .int .u8 0, .int .u8 0, .int .u8 0, .int .u8 0, .int .u8 0, .int .u8 0, .int .u8 0, .int .u8 0, .int .u8 0, .int .u8 0, .int .u8 0, .int .u8 0, .int .u8 0, .int .u8 0, .int .u8 0, .int .u8 0, .int .u8 0, .int .u8 0, .int .u8 0] 34)).alloc (.cells zeroCells.toArray 88) := ⟨_, rfl⟩
  rw [← hW]
  have HBW : Hid (Below w.heap.size w W ∧ Arr W w.heap.size 0 .u8 (List.replicate 32 0) ∧ Hashes W (w.heap.size + 1) []) := hide (by
    rw [hW]
    refine ⟨((Below.refl _ _).alloc (Nat.le_refl _) _).alloc (by rw [alloc_size]; omega) _, (Arr.new w .u8 (List.replicate 32 0) _).alloc _, ?_⟩
    have := Hashes.new (w.alloc (.cells #[.int .u8 0, .int .u8 0, .int .u8 0, .int .u8 0, .int .u8 0, .int .u8 0, .int .u8 0, .int .u8 0, .int .u8 0, .int .u8 0, .int .u8 0, .int .u8 0, .int .u8 0, .int .u8 0, .int .u8 0, .int .u8 0, .int .u8 0, .int .u8 0, .int .u8 0, .int .u8 0, .int .u8 0, .int .u8 0, .int .u8 0, .int .u8 0, .int .u8 0, .int .u8 0, .int .u8 0, .int .u8 0, .int .u8 0, .int .u8 0, .int .u8 0, .int .u8 0] 34))
    rwa [alloc_size] at this)
  have HW1 : Hid (W.heap.size = w.heap.size + 1 + 1) := hide (by rw [hW, alloc_size, alloc_size])
  clear hW hz
  have WR := write_any W (w.heap.size + 1) [] v L HBW.out.2.2 (SrcAll.old HP.out HBW.out.1 (by omega)) (HK.out.on HBW.out.1) (by omega) (by rw [HFL.out, List.length_nil]; omega)
  rw [HFL.out, List.nil_append] at WR
  have WR := hide WR
  go_wp2_with fail
  refine WR.out.mono ?_
  rintro e w1 ⟨rfl, h1, o1⟩
  have HH1 := hide h1
  obtain ⟨st, blk, hA, hB, hst⟩ := h1
  have HA := hide hA
  have HBL : Hid (Below w.heap.size w w1) := hide (HBW.out.1.trans (o1.ground (by omega)))
  have E := hide (end_any w1 fl st blk hA.2.2.2.2.1 hB hst (HK.out.on HBL.out) hsz)
  have HL : Hid ((Tryd.prog.info? 88).map (·.size) = some (cellsOf fl.length st blk).length) := hide (by rw [cellsOf_length _ _ _ hA.2.2.2.2.1 hA.2.2.2.2.2]; exact zero_hasher.2)
  have HR0 : Hid (Arr w1 w.heap.size 0 .u8 (List.replicate 32 0)) := hide (HBW.out.2.1.at (fun i _ => o1.cell _ (by simp) (by have := HW1.out; simp; omega)) (fun i _ => o1.frozen _ (by simp) (by have := HW1.out; simp; omega)))
  clear hA hB hst o1 WR
  go_wp2_with (refine wpList_load_mid rfl 88 (.tmp 3) rfl _ 0 rfl (cellsOf fl.length st blk) _ HA.out.range Tryd.underlying88 rfl HL.out ?_)
  refine E.out.mono ?_
  rintro e w2 ⟨rfl, hbel2⟩
  have HR1 : Hid (w2.there w.heap.size 0 32) := hide (by simpa using (HR0.out.on hbel2).2)
  have HB2 := hide (below_on HBL.out hbel2)
  clear hbel2
  go_wp2_with (refine wp_store_arr rfl 34 (.tmp 2) (.tmp 7) rfl _ 0 .u8 (digest fl) rfl rfl 32 HR1.out info_h HDL.out ?_)
  refine ret_arr 2 34 rfl _ 0 rfl .u8 (digest fl) (Arr.put (by rw [HDL.out]; exact HR1.out)) _ Tryd.underlying34 rfl 32 info_h HDL.out rfl ⟨rfl, below_sets (Nat.le_refl _) _ _ _ HB2.out⟩

/-- sha.Sum. -/
theorem sum_any (w : World) (v : Value) (L : List (List Int)) (hP : Parts w v L) (hk : Ks w) (hsz : L.flatten.length ≤ 100000000) :
    Calls Tryd.prog 30 #[v] w fun e w' => e = .returned (.agg (vals .u8 (digest L.flatten)).toArray) ∧ Below w.heap.size w w' := sum_flat w v L _ rfl hP hk hsz

end Go.Proofs.YtbeegcpmpgdbnaaDoor

/-
  Arrays held against each other; sums that are kept. Nothing here speaks of one law.
-/
namespace Go.Proofs.YtbeegcpmpgdbnaaDoor
open Go.RowKit

/-- An array of numbers is equal to itself. -/
theorem eql_self (w : World) (t e : TypeId) (n : Nat) (k : IntKind) (ht : Tryd.prog.underlying t = some (.array n e)) (he : Tryd.prog.underlying e = some (.int k)) (hsz : ∀ w, (sizeOf e).run Tryd.prog w = .ok 1 w) (xs : List Int) (hx : xs.length = n) :
    (Op.equalIn 10000 t (.agg (vals k xs).toArray) (.agg (vals k xs).toArray)).run Tryd.prog w = .ok true w := by
  rw [show (10000 : Nat) = 9998 + 2 from rfl, Op.equalIn]
  simp only [Sem.run_bind, run_underlying ht, Result.andThen_ok, hsz, Std.Legacy.Range.forIn_eq_forIn_range', Std.Legacy.Range.size, Nat.sub_zero, Nat.add_sub_cancel, Nat.div_one]
  have hl : ∀ i ∈ List.range' 0 n 1, i < n := fun i hi => by simpa using (List.mem_range'_1.1 hi).2
  generalize List.range' 0 n 1 = l at hl ⊢
  induction l with
  | nil => simp
  | cons i l ih =>
    have hi : i < n := hl i (by simp)
    have px : (Go.part e (vals k xs).toArray (i * 1)).run Tryd.prog w = .ok (.int k (xs.getD i 0)) w := by
      simp only [Go.part, isAgg, Sem.run_bind, run_underlying he, Nat.mul_one]
      simp
      rw [vals_get k xs i (by omega)]
      simp
    have pe : (Op.equalIn (9998 + 1) e (.int k (xs.getD i 0)) (.int k (xs.getD i 0))).run Tryd.prog w = .ok true w := by
      rw [run_equalIn_int w 9998 e k k _ _ he]
      simp
    simp only [List.forIn_cons, Sem.run_bind, px, pe, Result.andThen_ok]
    simp only [Bool.not_true, Bool.false_eq_true, if_false, Sem.run_pure, Result.andThen_ok]
    exact ih fun j hj => hl j (by simp [hj])
theorem eql_hash (xs : List Int) (hx : xs.length = 32) (w : World) : (Op.equalIn 10000 34 (.agg (vals .u8 xs).toArray) (.agg (vals .u8 xs).toArray)).run Tryd.prog w = .ok true w :=
  eql_self w 34 5 32 .u8 Tryd.underlying34 Tryd.underlying5 (fun _ => by kernel_rfl) xs hx

/-- A place for a sum. -/
theorem hash_room (w : World) : (w.alloc (.cells #[.int .u8 0, .int .u8 0, .int .u8 0, .int .u8 0, .int .u8 0, .int .u8 0, .int .u8 0, .int .u8 0, .int .u8 0, .int .u8 0, .int .u8 0, .int .u8 0, .int .u8 0, .int .u8 0, .int .u8 0, .int .u8 0, .int .u8 0, .int .u8 0, .int .u8 0, .int .u8 0, .int .u8 0, .int .u8 0, .int .u8 0, .int .u8 0, .int .u8 0, .int .u8 0, .int .u8 0, .int .u8 0, .int .u8 0, .int .u8 0, .int .u8 0, .int .u8 0] 34)).there w.heap.size 0 32 := by
  exact (Arr.new w .u8 (List.replicate 32 0) 34).2
theorem hash_kept (w : World) (H : List Int) (hH : H.length = 32) : Below w.heap.size w ((w.alloc (.cells #[.int .u8 0, .int .u8 0, .int .u8 0, .int .u8 0, .int .u8 0, .int .u8 0, .int .u8 0, .int .u8 0, .int .u8 0, .int .u8 0, .int .u8 0, .int .u8 0, .int .u8 0, .int .u8 0, .int .u8 0, .int .u8 0, .int .u8 0, .int .u8 0, .int .u8 0, .int .u8 0, .int .u8 0, .int .u8 0, .int .u8 0, .int .u8 0, .int .u8 0, .int .u8 0, .int .u8 0, .int .u8 0, .int .u8 0, .int .u8 0, .int .u8 0, .int .u8 0] 34)).setCells w.heap.size 0 (vals .u8 H)) ∧ Arr ((w.alloc (.cells #[.int .u8 0, .int .u8 0, .int .u8 0, .int .u8 0, .int .u8 0, .int .u8 0, .int .u8 0, .int .u8 0, .int .u8 0, .int .u8 0, .int .u8 0, .int .u8 0, .int .u8 0, .int .u8 0, .int .u8 0, .int .u8 0, .int .u8 0, .int .u8 0, .int .u8 0, .int .u8 0, .int .u8 0, .int .u8 0, .int .u8 0, .int .u8 0, .int .u8 0, .int .u8 0, .int .u8 0, .int .u8 0, .int .u8 0, .int .u8 0, .int .u8 0, .int .u8 0] 34)).setCells w.heap.size 0 (vals .u8 H)) w.heap.size 0 .u8 H :=
  ⟨below_sets (Nat.le_refl _) _ _ _ ((Below.refl _ _).alloc (Nat.le_refl _) _), Arr.put (by rw [hH]; exact hash_room w)⟩

end Go.Proofs.YtbeegcpmpgdbnaaDoor

/-
  sha.Sum of one piece; a row of bytes as a slice.
-/
namespace Go.Proofs.YtbeegcpmpgdbnaaDoor
open Go.RowKit

/-- A row of bytes as a slice. -/
theorem Arr.bytes {w : World} {b : Nat} {l : List Int} (h : Arr w b 0 .u8 l) (hl : l.length ≤ 1000) : Bytes w (.slice (some ⟨b, 0, none⟩) l.length l.length) l :=
  ⟨_, _, rfl, Nat.le_refl _, by omega, by simp, fun _ => ⟨_, _, rfl, fun i hi => h.cell i hi⟩⟩
theorem Arr.bytes32 {w : World} {b : Nat} {l : List Int} (h : Arr w b 0 .u8 l) (hl : l.length = 32) : Bytes w (.slice (some ⟨b, 0, none⟩) 32 32) l := by
  have := h.bytes (by omega)
  rwa [hl] at this
theorem Ks.alloc {w : World} (h : Ks w) (o : Obj) : Ks (w.alloc o) := h.on ((Below.refl _ _).alloc (Nat.le_refl _) o)
/-- sha.Sum of one piece, in the list that the call itself lays. -/
theorem sum_one (w : World) (p : Value) (l : List Int) (h : Bytes w p l) (hk : Ks w) (hl : l.length ≤ 100000000) :
    Calls Tryd.prog 30 #[.slice (some ⟨w.heap.size, 0, none⟩) 1 1] (w.alloc (.cells #[p] 37)) fun e w' => e = .returned (.agg (vals .u8 (digest l)).toArray) ∧ Below w.heap.size w w' :=
  (sum_flat _ _ [l] l (by simp) (Parts.one w p l h) (hk.alloc _) hl).mono (by
    rintro e w' ⟨rfl, hb⟩
    exact ⟨rfl, box1 hb⟩)

end Go.Proofs.YtbeegcpmpgdbnaaDoor
