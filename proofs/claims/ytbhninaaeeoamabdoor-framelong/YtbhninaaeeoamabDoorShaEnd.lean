/-
  What sha.end answers at this program: the sum of a hasher's bytes.
-/
import Derived.Test.YtbhninaaeeoamabDoorShaTake
import Derived.Test.YtbhninaaeeoamabDoorShaOut
namespace Go.Proofs.YtbhninaaeeoamabDoor
open Go.RowKit

theorem gap_lt (n : Nat) : gap n < 64 := Nat.mod_lt _ (by omega)
theorem gap_mod (n : Nat) : (n + (1 + gap n) + 8) % 64 = 0 := by unfold gap; omega
theorem gap_not (n j : Nat) (h : j < gap n) : (n + (1 + j) + 8) % 64 ≠ 0 := by unfold gap at h; omega
/-- What the tail has behind j bytes 0 and k bytes of the count. -/
def tailTo (n j k : Nat) : List Int := 128 :: List.replicate j 0 ++ (countI (8 * n)).take k
theorem tailTo_zero (n j : Nat) : tailTo n j 0 = 128 :: List.replicate j 0 := by simp [tailTo]
theorem tailTo_length (n j k : Nat) (hk : k ≤ 8) : (tailTo n j k).length = 1 + j + k := by simp [tailTo, countI]; omega
theorem tailTo_more (n j : Nat) : tailTo n j 0 ++ [0] = tailTo n (j + 1) 0 := by
  rw [tailTo_zero, tailTo_zero, List.replicate_succ', List.cons_append]
theorem tailTo_all (n : Nat) : tailTo n (gap n) 8 = tailI n := rfl
theorem tailTo_count (n j k : Nat) (hk : k < 8) : tailTo n j k ++ [(countI (8 * n)).getD k 0] = tailTo n j (k + 1) := by
  have h : k < (countI (8 * n)).length := by simp [countI]; omega
  simp only [tailTo, List.append_assoc]
  rw [List.take_succ_eq_append_getElem h]
  simp [List.getD, h]

/-- What stays while the tail is made: the box of the hasher, the place of the sum. -/
def Box (w : World) (m st blk : List Int) (wr : World) : Prop :=
  Below w.heap.size w wr ∧ HashAt wr w.heap.size m.length st blk ∧ Arr wr (w.heap.size + 1) 0 .u8 (List.replicate 32 0) ∧ w.heap.size + 1 + 1 ≤ wr.heap.size
theorem Box.on {w wr wr' : World} {m st blk : List Int} (h : Box w m st blk wr) (hb : Below (w.heap.size + 1 + 1) wr wr') : Box w m st blk wr' :=
  ⟨h.1.trans (hb.mono (by omega)), h.2.1.heap (hb.block _ (by omega)), h.2.2.1.below hb (by omega), Nat.le_trans h.2.2.2 hb.size⟩
def Ending1 (w : World) (m st blk : List Int) (v : Value) (wr : World) : Prop := ∃ j : Nat, j ≤ gap m.length ∧ Own wr (w.heap.size + 1 + 1) v (tailTo m.length j 0) ∧ Box w m st blk wr
def Ending2 (w : World) (m st blk : List Int) (v i : Value) (wr : World) : Prop := ∃ k : Nat, k ≤ 8 ∧ i = .int .i64 (56 - 8 * (k : Int)) ∧ Own wr (w.heap.size + 1 + 1) v (tailTo m.length (gap m.length) k) ∧ Box w m st blk wr
theorem Own.tail (w : World) (base : Nat) (hb : base ≤ w.heap.size) (cs : Array Value) (hc : cs.size = 72) (h0 : cs.toList.take 1 = [.int .u8 128]) : Own (w.alloc (.cells cs 5)) base (.slice (some ⟨w.heap.size, 0, none⟩) 1 72) [128] :=
  ⟨rfl, Or.inr ⟨w.heap.size, 72, cs, rfl, hb, heap_alloc_new w _, by simp, by simp [maxLen], by omega, h0⟩⟩
theorem make_tail (w : World) : (Instr.makeSlice 22 (.int .i64 1) (.int .i64 72)).run Tryd.prog w = .ok (.slice (some ⟨w.heap.size, 0, none⟩) 1 72) (w.alloc (.cells (Array.replicate 72 (.int .u8 0)) 5)) := by kernel_rfl

set_option maxRecDepth 100000 in
set_option maxHeartbeats 1000000 in
theorem end_any (w : World) (m st blk : List Int) (hst : st.length = 8) (hB : Begins blk m) (hs : m = [] ∨ st = stateOf m) (hk : Ks w) (hsz : m.length ≤ 100000000) :
    Calls Tryd.prog 30 #[.agg (cellsOf m.length st blk).toArray] w fun e w' => e = .returned (.agg (vals .u8 (digest m)).toArray) ∧ Below w.heap.size w w' := by
  have MT := make_tail
  have HK := hide hk
  have HH := hide (And.intro hB hs)
  clear hk hs
  have hbl := hB.1
  have HBX := hide (fun (cs : Array Value) (t t' : TypeId) (hc : cs = (vals .u8 (List.replicate 32 0)).toArray) => show Box w m st blk ((w.alloc (.cells (cellsOf m.length st blk).toArray t)).alloc (.cells cs t')) from by
    subst hc
    refine ⟨((Below.refl _ _).alloc (Nat.le_refl _) _).alloc (by rw [alloc_size]; omega) _, (HashAt.new w m.length st blk t hst hbl).on ((Below.refl _ _).alloc (Nat.le_refl _) _), ?_, by rw [alloc_size, alloc_size]; omega⟩
    have := Arr.new (w.alloc (.cells (cellsOf m.length st blk).toArray t)) .u8 (List.replicate 32 0) t'
    rwa [alloc_size] at this)
  clear hB hst hbl
  go_enter Tryd.func30, Tryd.ntmps30
  go_upto_region 1 with fail
  obtain ⟨W, hW⟩ : ∃ W, W = (w.alloc (.cells (cellsOf m.length st blk).toArray 69)).alloc (.cells #[.int .u8 0, .int .u8 0, .int .u8 0, .int .u8 0, .int .u8 0, .int .u8 0, .int .u8 0, .int .u8 0, .int .u8 0, .int .u8 0, .int .u8 0, .int .u8 0, .int .u8 0, .int .u8 0, .int .u8 0, .int .u8 0, .int .u8 0, .int .u8 0, .int .u8 0, .int .u8 0, .int .u8 0, .int .u8 0, .int .u8 0, .int .u8 0, .int .u8 0, .int .u8 0, .int .u8 0, .int .u8 0, .int .u8 0, .int .u8 0, .int .u8 0, .int .u8 0] 52) := ⟨_, rfl⟩
  rw [← hW]
  have hbx := HBX.out #[.int .u8 0, .int .u8 0, .int .u8 0, .int .u8 0, .int .u8 0, .int .u8 0, .int .u8 0, .int .u8 0, .int .u8 0, .int .u8 0, .int .u8 0, .int .u8 0, .int .u8 0, .int .u8 0, .int .u8 0, .int .u8 0, .int .u8 0, .int .u8 0, .int .u8 0, .int .u8 0, .int .u8 0, .int .u8 0, .int .u8 0, .int .u8 0, .int .u8 0, .int .u8 0, .int .u8 0, .int .u8 0, .int .u8 0, .int .u8 0, .int .u8 0, .int .u8 0] 69 52 rfl
  rw [← hW] at hbx
  clear hW HBX
  have HBX := hide hbx
  have c0 := hbx.2.1.1
  clear hbx
  have hm8 : (8 * (m.length : Int)) % 18446744073709551616 = 8 * (m.length : Int) := by omega
  go_wp2
  have HE1 : Hid (Ending1 w m st blk (.slice (some ⟨W.heap.size, 0, none⟩) 1 72) (W.alloc (.cells ((Array.replicate 72 (.int .u8 0)).setIfInBounds 0 (.int .u8 128)) 5))) := by
    refine hide ⟨0, by omega, ?_, HBX.out.on ((Below.refl _ _).alloc HBX.out.2.2.2 _)⟩
    rw [tailTo_zero]
    exact Own.tail W _ HBX.out.2.2.2 _ (by simp) rfl
  go_loopw [4] (fun v wr => Ending1 w m st blk v wr) (fun v _ => 100 - lenOf v)
  case atStart => exact HE1.out
  case round =>
    clear HE1 HBX c0
    obtain ⟨j, hj, hown, hbox⟩ := hrel
    obtain ⟨a, cap, rfl, hc1, hc2⟩ := hown.bytes.form
    have hlen : (tailTo m.length j 0).length = 1 + j := tailTo_length m.length j 0 (by omega)
    have HO := hide hown
    have HBX := hide hbox
    have c0 := hbox.2.1.1
    have hg := gap_lt m.length
    clear hown hbox
    by_cases hlt : j < gap m.length
    · have ht : (((m.length : Int) + ((1 + j : Nat) : Int) + 8) % 64 != 0) = true := by
        have := gap_not m.length j hlt
        simp
        omega
      rw [hlen] at hc1 HO ⊢
      clear hlen
      obtain ⟨n, hn⟩ : ∃ n, n = 1 + j := ⟨_, rfl⟩
      rw [← hn] at ht hc1 HO ⊢
      have HN := hide hn
      have hn0 : n ≤ 64 := by omega
      clear hn
      go_wp2_with (at_builtin; refine wp_append rfl (.tmp 21) (.tmp 22) rfl (w.heap.size + 1 + 1) _ _ rfl (HO.out.alloc _) _ [0] rfl (Bytes.one _ _) ?c1 ?c2 ?_)
      case c1 => rw [tailTo_length _ _ _ (by omega)]; simp; omega
      case c2 => have := HBX.out.2.2.2; rw [alloc_size]; omega
      intro v' w' hown' hbel'
      have R : Hid (Ending1 w m st blk v' w' ∧ lenOf v' = n + 1) := by
        have hb2 := ((Below.refl (w.heap.size + 1 + 1) wr).alloc HBX.out.2.2.2 (.cells #[.int .u8 0] 5)).trans hbel'
        rw [tailTo_more] at hown'
        obtain ⟨a', cap', rfl, _⟩ := hown'.bytes.form
        refine hide ⟨⟨j + 1, by omega, hown', HBX.out.on hb2⟩, ?_⟩
        have := HN.out
        simp [lenOf, tailTo_length]
        omega
      clear hown' hbel'
      go_wp2
      go_roundw
      case rel => first | exact R.out.1 | ((repeat apply Exists.intro); exact ⟨R.out.1, rfl⟩)
      case measure => rw [R.out.2]; simp [lenOf]; omega
    · obtain rfl : j = gap m.length := by omega
      have ht : (((m.length : Int) + ((1 + gap m.length : Nat) : Int) + 8) % 64 != 0) = false := by
        have := gap_mod m.length
        simp
        omega
      rw [hlen] at hc1 HO ⊢
      have HE2 : Hid (Ending2 w m st blk (.slice a (1 + gap m.length) cap) (.int .i64 56) wr) := by
        refine hide ⟨0, by omega, rfl, ?_, HBX.out⟩
        have := HO.out
        exact this
      clear hlen HO hlt hj
      obtain ⟨n, hn⟩ : ∃ n, n = 1 + gap m.length := ⟨_, rfl⟩
      rw [← hn] at ht hc1 HE2 ⊢
      have hn0 : n ≤ 64 := by omega
      clear hn hg
      go_wp2
      clear HBX
      go_loopw [4, 5] (fun v i wr => Ending2 w m st blk v i wr) (fun _ i _ => (intOf i + 8).toNat)
      case atStart => exact HE2.out
      case round =>
        clear HE2 c0 ht
        obtain ⟨k, hk, rfl, hown, hbox⟩ := hrel
        have HO := hide hown
        have HBX := hide hbox
        clear hown hbox
        by_cases hlt : k < 8
        · have R := hide (fun v' w' (hown' : Own w' (w.heap.size + 1 + 1) v' (tailTo m.length (gap m.length) k ++ [(countI (8 * m.length)).getD k 0])) (hb2 : Below (w.heap.size + 1 + 1) wr w') => show Ending2 w m st blk v' (.int .i64 (56 - 8 * ((k + 1 : Nat) : Int))) w' from by
            rw [tailTo_count _ _ _ hlt] at hown'
            exact ⟨k + 1, by omega, rfl, hown', HBX.out.on hb2⟩)
          have HS : Hid ((tailTo m.length (gap m.length) k).length ≤ 100) := hide (by rw [tailTo_length _ _ _ hk]; have := gap_lt m.length; omega)
          obtain ⟨a, cap, rfl, hc1, hc2⟩ := HO.out.bytes.form
          generalize tailTo m.length (gap m.length) k = T at *
          have hbits : (8 * (m.length : Int)) = ((8 * m.length : Nat) : Int) := by omega
          rw [hbits] at R ⊢
          clear hbits
          generalize 8 * m.length = B at *
          rcases (show k = 0 ∨ k = 1 ∨ k = 2 ∨ k = 3 ∨ k = 4 ∨ k = 5 ∨ k = 6 ∨ k = 7 by omega) with rfl | rfl | rfl | rfl | rfl | rfl | rfl | rfl
          all_goals
            first
              | (have e : (56 - 8 * ((0 : Nat) : Int)) = 56 := rfl; rw [e]; have e2 : (56 - 8 * ((0 + 1 : Nat) : Int)) = 48 := rfl; rw [e2] at R; clear e e2)
              | (have e : (56 - 8 * ((1 : Nat) : Int)) = 48 := rfl; rw [e]; have e2 : (56 - 8 * ((1 + 1 : Nat) : Int)) = 40 := rfl; rw [e2] at R; clear e e2)
              | (have e : (56 - 8 * ((2 : Nat) : Int)) = 40 := rfl; rw [e]; have e2 : (56 - 8 * ((2 + 1 : Nat) : Int)) = 32 := rfl; rw [e2] at R; clear e e2)
              | (have e : (56 - 8 * ((3 : Nat) : Int)) = 32 := rfl; rw [e]; have e2 : (56 - 8 * ((3 + 1 : Nat) : Int)) = 24 := rfl; rw [e2] at R; clear e e2)
              | (have e : (56 - 8 * ((4 : Nat) : Int)) = 24 := rfl; rw [e]; have e2 : (56 - 8 * ((4 + 1 : Nat) : Int)) = 16 := rfl; rw [e2] at R; clear e e2)
              | (have e : (56 - 8 * ((5 : Nat) : Int)) = 16 := rfl; rw [e]; have e2 : (56 - 8 * ((5 + 1 : Nat) : Int)) = 8 := rfl; rw [e2] at R; clear e e2)
              | (have e : (56 - 8 * ((6 : Nat) : Int)) = 8 := rfl; rw [e]; have e2 : (56 - 8 * ((6 + 1 : Nat) : Int)) = 0 := rfl; rw [e2] at R; clear e e2)
              | (have e : (56 - 8 * ((7 : Nat) : Int)) = 0 := rfl; rw [e]; have e2 : (56 - 8 * ((7 + 1 : Nat) : Int)) = -8 := rfl; rw [e2] at R; clear e e2)
            go_wp2_with (at_builtin; refine wp_append rfl (.tmp 28) (.tmp 33) rfl (w.heap.size + 1 + 1) _ _ rfl (HO.out.alloc _) _ _ rfl (Bytes.one _ _) ?c1 ?c2 ?_)
            case c1 => have := HS.out; simp; omega
            case c2 => have := HBX.out.2.2.2; rw [alloc_size]; omega
            intro v' w' hown' hbel'
            have RR := hide (R.out v' w' hown' (((Below.refl (w.heap.size + 1 + 1) wr).alloc HBX.out.2.2.2 _).trans hbel'))
            clear hown' hbel'
            go_wp2
            go_roundw
            case rel => first | exact RR.out | ((repeat apply Exists.intro); exact ⟨RR.out, rfl⟩)
            case measure => simp [intOf]
        · obtain rfl : k = 8 := by omega
          rw [tailTo_all] at HO
          clear hlt hk
          obtain ⟨a, cap, rfl, hc1, hc2⟩ := HO.out.bytes.form
          have e : (56 - 8 * ((8 : Nat) : Int)) = -8 := rfl
          rw [e]
          have TK := hide (take_any wr w.heap.size _ (tailI m.length) m ⟨st, blk, HBX.out.2.1, HH.out.1, HH.out.2⟩ (Src.own HO.out (by omega)) (HK.out.on HBX.out.1) (by have := HK.out.lt; omega) (by rw [← tailTo_all, tailTo_length _ _ _ (by omega)]; have := gap_lt m.length; omega))
          go_wp2_with fail
          refine TK.out.mono ?_
          rintro e w1 ⟨rfl, ⟨blk1, h1, hB1⟩, ho1⟩
          have H1 := hide h1
          have HBL : Hid (Below w.heap.size w w1) := hide (HBX.out.1.trans (ho1.ground (Nat.le_refl _)))
          have HR1 : Hid (w1.there (w.heap.size + 1) 0 32) := hide (by
            have := HBX.out.2.2.1
            have h2 : Arr w1 (w.heap.size + 1) 0 .u8 (List.replicate 32 0) := this.at (fun i _ => ho1.cell _ (by simp) (by have := HBX.out.2.2.2; simp; omega)) (fun i _ => ho1.frozen _ (by simp) (by have := HBX.out.2.2.2; simp; omega))
            simpa using h2.2)
          have HS1 : Hid (w.heap.size + 1 + 1 ≤ w1.heap.size) := hide (Nat.le_trans HBX.out.2.2.2 ho1.size)
          have AB := hide (asBytes_any (stateOf (m ++ tailI m.length)) w1 (stateOf_length _))
          have HDG : Hid ((stateOf (m ++ tailI m.length)).flatMap outI = digest m) := hide rfl
          have HDL : Hid ((digest m).length = 32) := hide (by rw [← HDG.out, flat_length, stateOf_length])
          rw [HDG.out] at AB
          have HSL := hide (stateOf_length (m ++ tailI m.length))
          clear h1 hB1 ho1 TK HO HBX hc1 hc2
          generalize stateOf (m ++ tailI m.length) = Z at *
          go_wp2_with (refine wp_load_arr rfl 66 (.tmp 37) rfl _ 1 rfl .u32 Z H1.out.2.2.1 _ Tryd.underlying66 rfl 8 info_s HSL.out ?_)
          refine AB.out.mono ?_
          rintro e w2 ⟨rfl, hbel2⟩
          have HR2 : Hid (w2.there (w.heap.size + 1) 0 32) := hide (fun j hj => by
            have := HR1.out j hj
            have hlt : w.heap.size + 1 < w1.heap.size := HS1.out
            rw [hbel2.cell hlt, hbel2.frozen hlt]
            exact this)
          have HB2 := hide (below_on' HBL.out hbel2 (Nat.le_refl _))
          clear hbel2
          go_wp2_with (refine wp_store_arr rfl 52 (.tmp 2) (.tmp 39) rfl _ 0 .u8 (digest m) rfl rfl 32 HR2.out info_h HDL.out ?_)
          refine ret_arr 2 52 rfl _ 0 rfl .u8 (digest m) (Arr.put (by rw [HDL.out]; exact HR2.out)) _ Tryd.underlying52 rfl 32 info_h HDL.out rfl ⟨rfl, below_sets (by omega) _ _ _ HB2.out⟩

end Go.Proofs.YtbhninaaeeoamabDoor
