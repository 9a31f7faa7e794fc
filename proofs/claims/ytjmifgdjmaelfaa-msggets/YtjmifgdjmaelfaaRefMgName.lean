/-
  What the document's Name, fixed, ids answer at this program.
-/
import Derived.Test.YtjmifgdjmaelfaaMgRd
import Derived.Test.YtjmifgdjmaelfaaTxRdr
namespace Go.Proofs.Ytjmifgdjmaelfaa
open Go.RowKit

set_option maxRecDepth 100000 in
set_option maxHeartbeats 1000000 in
theorem rname_kind (w : World) (k : Int) (h : isKind k = true) : Calls Try.prog 35 #[.int .i64 k] w fun e w' => e = .returned (.string (shp k).cmd) ∧ w' = w := by
  rcases kinds h with rfl | rfl | rfl | rfl | rfl | rfl | rfl | rfl | rfl | rfl | rfl
  · go_enter Try.func35, Try.ntmps35
    go_wp2
    go_ret
    exact ⟨rfl, rfl⟩
  · go_enter Try.func35, Try.ntmps35
    go_wp2
    go_ret
    exact ⟨rfl, rfl⟩
  · go_enter Try.func35, Try.ntmps35
    go_wp2
    go_ret
    exact ⟨rfl, rfl⟩
  · go_enter Try.func35, Try.ntmps35
    go_wp2
    go_ret
    exact ⟨rfl, rfl⟩
  · go_enter Try.func35, Try.ntmps35
    go_wp2
    go_ret
    exact ⟨rfl, rfl⟩
  · go_enter Try.func35, Try.ntmps35
    go_wp2
    go_ret
    exact ⟨rfl, rfl⟩
  · go_enter Try.func35, Try.ntmps35
    go_wp2
    go_ret
    exact ⟨rfl, rfl⟩
  · go_enter Try.func35, Try.ntmps35
    go_wp2
    go_ret
    exact ⟨rfl, rfl⟩
  · go_enter Try.func35, Try.ntmps35
    go_wp2
    go_ret
    exact ⟨rfl, rfl⟩
  · go_enter Try.func35, Try.ntmps35
    go_wp2
    go_ret
    exact ⟨rfl, rfl⟩
  · go_enter Try.func35, Try.ntmps35
    go_wp2
    go_ret
    exact ⟨rfl, rfl⟩
set_option maxRecDepth 100000 in
set_option maxHeartbeats 1000000 in
theorem rname_any (w : World) (k : Int) : Calls Try.prog 35 #[.int .i64 k] w fun e w' => e = .returned (.string (shp k).cmd) ∧ w' = w := by
  cases h : isKind k with
  | true => exact rname_kind w k h
  | false =>
    have hn := shp_no h
    have hk : ¬ (1 ≤ k ∧ k ≤ 11) := by simpa [isKind] using h
    rw [hn]
    have e1 : ¬ k = 1 := by omega
    have e2 : ¬ k = 2 := by omega
    have e3 : ¬ k = 3 := by omega
    have e4 : ¬ k = 4 := by omega
    have e5 : ¬ k = 5 := by omega
    have e6 : ¬ k = 6 := by omega
    have e7 : ¬ k = 7 := by omega
    have e8 : ¬ k = 8 := by omega
    have e9 : ¬ k = 9 := by omega
    have e10 : ¬ k = 10 := by omega
    have e11 : ¬ k = 11 := by omega
    clear h hn hk
    go_enter Try.func35, Try.ntmps35
    go_wp2
    go_ret
    exact ⟨rfl, rfl⟩
def fx8 (k : Int) : Int := if k = 1 then 12 else if k = 2 then 0 else if k = 3 then 8 else if k = 4 then 8 else if k = 10 then 33 else if k = 11 then 1 else -1
set_option maxRecDepth 100000 in
set_option maxHeartbeats 1000000 in
theorem rfixed_kind (w : World) (k : Int) (h : isKind k = true) : Calls Try.prog 36 #[.int .i64 k] w fun e w' => e = .returned (.int .i64 (fx8 k)) ∧ w' = w := by
  rcases kinds h with rfl | rfl | rfl | rfl | rfl | rfl | rfl | rfl | rfl | rfl | rfl
  · go_enter Try.func36, Try.ntmps36
    go_wp2
    go_ret
    exact ⟨rfl, rfl⟩
  · go_enter Try.func36, Try.ntmps36
    go_wp2
    go_ret
    exact ⟨rfl, rfl⟩
  · go_enter Try.func36, Try.ntmps36
    go_wp2
    go_ret
    exact ⟨rfl, rfl⟩
  · go_enter Try.func36, Try.ntmps36
    go_wp2
    go_ret
    exact ⟨rfl, rfl⟩
  · go_enter Try.func36, Try.ntmps36
    go_wp2
    go_ret
    exact ⟨rfl, rfl⟩
  · go_enter Try.func36, Try.ntmps36
    go_wp2
    go_ret
    exact ⟨rfl, rfl⟩
  · go_enter Try.func36, Try.ntmps36
    go_wp2
    go_ret
    exact ⟨rfl, rfl⟩
  · go_enter Try.func36, Try.ntmps36
    go_wp2
    go_ret
    exact ⟨rfl, rfl⟩
  · go_enter Try.func36, Try.ntmps36
    go_wp2
    go_ret
    exact ⟨rfl, rfl⟩
  · go_enter Try.func36, Try.ntmps36
    go_wp2
    go_ret
    exact ⟨rfl, rfl⟩
  · go_enter Try.func36, Try.ntmps36
    go_wp2
    go_ret
    exact ⟨rfl, rfl⟩

/-- 'copy', by its run. -/
theorem step_copy {P : Program} {ops : Array Oper} {o : Oper} {a : Act} {w : World} {K : Act → World → Prop} {Q : Exit → Act → World → Prop} {E : Prop}
    (hg : o.guard = none) (s x : Operand) (t : TypeId) (hop : o.op = Op.call { callee := Callee.builtin Builtin.copy, args := #[s, x], argTypes := #[t, t] })
    {v1 v2 : Value} (hs : a.eval s = v1) (hx : a.eval x = v2) {v : Value} {w' : World} (hrun : (Builtin.copy_ #[t, t] o.type #[v1, v2]).run P w = .ok v w') (hK : K (a.put o.dst v) w') :
    if Region.wanted o (yielded ops a.tmps) = true then Oper.wp P o a w K Q else E := by
  have hw : Region.wanted o (yielded ops a.tmps) = true := by simp [Region.wanted, hg]
  rw [if_pos hw]
  subst hs hx
  unfold Oper.wp
  simp [execOp, hop, resolve, invoke, builtin, hrun, Result.andThen]
  exact hK
/-- So far these are gathered. -/
def Iding (w : World) (l : List Int) (v i : Value) (wr : World) : Prop :=
  ∃ k n : Nat, n = 32 * k ∧ n ≤ l.length ∧ i = .int .i64 n ∧ Below w.heap.size w wr ∧ RowOwn wr w.heap.size 40 32 v (((hsL l).take k).map (vals .u8))
set_option maxRecDepth 100000 in
set_option maxHeartbeats 1000000 in
theorem rids_any (l : List Int) (v : Value) (w : World) (hv : Bytes w v l) (hl : l.length ≤ 5000) (q : Nat) (hq : l.length = 32 * q) :
    Calls Try.prog 37 #[v] w fun e w' => ∃ v', e = .returned v' ∧ Below w.heap.size w w' ∧ RowOwn w' w.heap.size 40 32 v' ((hsL l).map (vals .u8)) := by
  have HS : Hid (Iding w l (.slice none 0 0) (.int .i64 0) w) := hide ⟨0, 0, rfl, by omega, rfl, Below.refl _ _, by simpa using RowOwn.nil w w.heap.size 40 32⟩
  have HL := hide hl
  have HQ := hide hq
  have HV := hide hv
  obtain ⟨a, cap, rfl, hc1, hc2⟩ := hv.form
  clear hv hl hq
  go_enter Try.func37, Try.ntmps37
  go_wp2_with fail
  go_loopw [3, 4] (fun v i wr => Iding w l v i wr) (fun _ i _ => l.length - (intOf i).toNat)
  case atStart => exact HS.out
  case round =>
    clear HS
    obtain ⟨k, n, hn, hk, rfl, hB, hown⟩ := hrel
    have HB := hide hB
    have HOWN := hide hown
    have HNK := hide hn
    clear hB hown hn
    by_cases hlt : n < l.length
    · have e1 : (n : Int) < (l.length : Int) := by omega
      have hle : n + 32 ≤ l.length := by have := HNK.out; have := HQ.out; omega
      obtain ⟨b, off, hab⟩ : ∃ b off, a = some ⟨b, off, none⟩ := by
        obtain ⟨b, off, cap', e, -⟩ := HV.out.lies (by omega)
        cases e
        exact ⟨b, off, rfl⟩
      subst hab
      have hnew := below_new wr (.cells #[.int .u8 0, .int .u8 0, .int .u8 0, .int .u8 0, .int .u8 0, .int .u8 0, .int .u8 0, .int .u8 0, .int .u8 0, .int .u8 0, .int .u8 0, .int .u8 0, .int .u8 0, .int .u8 0, .int .u8 0, .int .u8 0, .int .u8 0, .int .u8 0, .int .u8 0, .int .u8 0, .int .u8 0, .int .u8 0, .int .u8 0, .int .u8 0, .int .u8 0, .int .u8 0, .int .u8 0, .int .u8 0, .int .u8 0, .int .u8 0, .int .u8 0, .int .u8 0] 40)
      have HT := copied_there wr
      have hv1 := ((((HV.out.below HB.out).below hnew).drew).drop n (by omega)).take 32 (by omega)
      rw [if_neg (by omega : ¬ cap = n)] at hv1
      have hv1 : Bytes (wr.alloc (.cells #[.int .u8 0, .int .u8 0, .int .u8 0, .int .u8 0, .int .u8 0, .int .u8 0, .int .u8 0, .int .u8 0, .int .u8 0, .int .u8 0, .int .u8 0, .int .u8 0, .int .u8 0, .int .u8 0, .int .u8 0, .int .u8 0, .int .u8 0, .int .u8 0, .int .u8 0, .int .u8 0, .int .u8 0, .int .u8 0, .int .u8 0, .int .u8 0, .int .u8 0, .int .u8 0, .int .u8 0, .int .u8 0, .int .u8 0, .int .u8 0, .int .u8 0, .int .u8 0] 40)).drew (.slice (some ⟨b, off + n, none⟩) 32 (cap - n)) ((l.drop n).take 32) := by rw [Option.map_some, Addr.add_mid] at hv1; exact hv1
      have HXL : Hid (((l.drop n).take 32).length = 32) := hide (by simp; omega)
      have HSUC : Hid (((hsL l).take (k + 1)).map (vals .u8) = ((hsL l).take k).map (vals .u8) ++ [vals .u8 ((l.drop n).take 32)]) := hide (by
        have hn := HNK.out
        subst hn
        rw [hsL_at (by omega), List.map_append]
        rfl)
      have HLK : Hid ((((hsL l).take k).map (vals .u8)).length ≤ 10000) := hide (by rw [List.length_map, List.length_take, hsL_length]; have := HL.out; omega)
      have HNX : Hid (RowOwn wr w.heap.size 40 32 u3 (((hsL l).take k).map (vals .u8))) := HOWN
      have hcp := run_copy_any (wr.alloc (.cells #[.int .u8 0, .int .u8 0, .int .u8 0, .int .u8 0, .int .u8 0, .int .u8 0, .int .u8 0, .int .u8 0, .int .u8 0, .int .u8 0, .int .u8 0, .int .u8 0, .int .u8 0, .int .u8 0, .int .u8 0, .int .u8 0, .int .u8 0, .int .u8 0, .int .u8 0, .int .u8 0, .int .u8 0, .int .u8 0, .int .u8 0, .int .u8 0, .int .u8 0, .int .u8 0, .int .u8 0, .int .u8 0, .int .u8 0, .int .u8 0, .int .u8 0, .int .u8 0] 40)).drew 3 wr.heap.size 0 32 32 _ _ hv1 (by rw [HXL.out]; exact Nat.le_refl _) HT
      rw [HXL.out] at hcp
      have hR : ((wr.alloc (.cells #[.int .u8 0, .int .u8 0, .int .u8 0, .int .u8 0, .int .u8 0, .int .u8 0, .int .u8 0, .int .u8 0, .int .u8 0, .int .u8 0, .int .u8 0, .int .u8 0, .int .u8 0, .int .u8 0, .int .u8 0, .int .u8 0, .int .u8 0, .int .u8 0, .int .u8 0, .int .u8 0, .int .u8 0, .int .u8 0, .int .u8 0, .int .u8 0, .int .u8 0, .int .u8 0, .int .u8 0, .int .u8 0, .int .u8 0, .int .u8 0, .int .u8 0, .int .u8 0] 40)).drew.setCells wr.heap.size 0 (vals .u8 ((l.drop n).take 32))).rangeAt wr.heap.size 0 (vals .u8 ((l.drop n).take 32)) := World.rangeAt_setCells_same _ _ _ _ (by rw [vals_length, HXL.out]; exact HT)
      have hB2 : Below wr.heap.size wr ((wr.alloc (.cells #[.int .u8 0, .int .u8 0, .int .u8 0, .int .u8 0, .int .u8 0, .int .u8 0, .int .u8 0, .int .u8 0, .int .u8 0, .int .u8 0, .int .u8 0, .int .u8 0, .int .u8 0, .int .u8 0, .int .u8 0, .int .u8 0, .int .u8 0, .int .u8 0, .int .u8 0, .int .u8 0, .int .u8 0, .int .u8 0, .int .u8 0, .int .u8 0, .int .u8 0, .int .u8 0, .int .u8 0, .int .u8 0, .int .u8 0, .int .u8 0, .int .u8 0, .int .u8 0] 40)).drew.setCells wr.heap.size 0 (vals .u8 ((l.drop n).take 32))) := below_sets (Nat.le_refl _) _ _ _ ((Below.refl _ _).alloc (Nat.le_refl _) _).drew
      have hw32 : IntKind.i64.wrap ((n : Int) + 32) = (n : Int) + 32 := by have := HL.out; simp [IntKind.wrap, IntKind.bits, IntKind.signed]; omega
      have ht32 : ((n : Int) + 32).toNat = n + 32 := by omega
      have hcn : ¬ cap = n := by omega
      have hz32 : (0 : Int) ≤ (n : Int) + 32 := by omega
      have hm8 : (n : Int) ≤ max ((n : Int) + 32) 0 := by omega
      have hc40 : (n : Int) + 32 ≤ (cap : Int) := by omega
      have hs32 : n + 32 - n = 32 := by omega
      have hn5 : n ≤ 5000 := by have := HL.out; omega
      have HHLE := hide hle
      clear HOWN hnew hv1 HT hle hlt
      go_upto_region 6 with fail
      generalize (l.drop n).take 32 = X at *
      generalize hW2 : (wr.alloc (.cells #[.int .u8 0, .int .u8 0, .int .u8 0, .int .u8 0, .int .u8 0, .int .u8 0, .int .u8 0, .int .u8 0, .int .u8 0, .int .u8 0, .int .u8 0, .int .u8 0, .int .u8 0, .int .u8 0, .int .u8 0, .int .u8 0, .int .u8 0, .int .u8 0, .int .u8 0, .int .u8 0, .int .u8 0, .int .u8 0, .int .u8 0, .int .u8 0, .int .u8 0, .int .u8 0, .int .u8 0, .int .u8 0, .int .u8 0, .int .u8 0, .int .u8 0, .int .u8 0] 40)).drew.setCells wr.heap.size 0 (vals .u8 X) = W2 at *
      clear hW2
      go_region_law (refine step_copy rfl (.tmp 12) (.tmp 17) 22 rfl rfl rfl hcp ?_)
      have HP := hide hR
      have HB2 := hide (below_on HB.out hB2)
      have HOWN2 := hide (HNX.out.move (w1 := W2) fun g _ hl => hB2.block g hl)
      have HLP : Hid ((Try.prog.info? 40).map (·.size) = some (vals .u8 X).length) := hide (by rw [vals_length, HXL.out]; exact info_hash)
      have HLEN : Hid ((vals .u8 X).length = 32) := hide (by rw [vals_length, HXL.out])
      have hPone := vals_cell .u8 X
      clear hR hB2 HNX HB hcp
      generalize wr.heap.size = gb at *
      generalize vals .u8 X = P at *
      have hlen := HLEN.out
      have hone := fold_whole P #[.int .u8 0, .int .u8 0, .int .u8 0, .int .u8 0, .int .u8 0, .int .u8 0, .int .u8 0, .int .u8 0, .int .u8 0, .int .u8 0, .int .u8 0, .int .u8 0, .int .u8 0, .int .u8 0, .int .u8 0, .int .u8 0, .int .u8 0, .int .u8 0, .int .u8 0, .int .u8 0, .int .u8 0, .int .u8 0, .int .u8 0, .int .u8 0, .int .u8 0, .int .u8 0, .int .u8 0, .int .u8 0, .int .u8 0, .int .u8 0, .int .u8 0, .int .u8 0] hlen.symm
      have hbn := below_new W2 (.cells P.toArray 40)
      have HNEW := hide (range_new W2 P 40)
      have HOWN3 := hide (HOWN2.out.move (w1 := W2.alloc (.cells P.toArray 40)) fun g _ hl => hbn.block g hl)
      have HB4 := hide (HB2.out.alloc HB2.out.size (.cells P.toArray 40))
      have hw4 : w.heap.size ≤ (W2.alloc (.cells P.toArray 40)).heap.size := HB4.out.size
      obtain ⟨v4, w4, hrun, hrow5, hgr, hwh⟩ := run_append_row (W2.alloc (.cells P.toArray 40)) 50 40 50 _ 32 32 Try.underlying50 infoHash rfl (by omega) (by omega) w.heap.size u3 (((hsL l).take k).map (vals .u8)) HOWN3.out W2.heap.size P HNEW.out ⟨hlen, hPone⟩ HLK.out hw4
      obtain ⟨va, vc, rfl, -, -⟩ := hrow5.row.form
      have HROW := hide hrow5
      have hlt5 := HOWN3.out.lt
      have R1 : Hid (Below w.heap.size w w4) := hide (HB4.out.grown hgr hw4 fun j hj => (hlt5 j hj).1)
      have R : Hid (Iding w l (.slice va ((List.map (vals .u8) (List.take k (hsL l))) ++ [P]).length vc) (.int .i64 ((n : Int) + 32)) w4) := hide ⟨k + 1, n + 32, by have := HNK.out; omega, HHLE.out, rfl, R1.out, by rw [HSUC.out]; exact HROW.out⟩
      clear hbn hPone hrow5 hgr hwh hw4 hlt5 R1 HROW
      obtain ⟨nn, hnn⟩ : ∃ nn, nn = ((List.map (vals .u8) (List.take k (hsL l))) ++ [P]).length := ⟨_, rfl⟩
      rw [← hnn] at hrun R
      have HNN := hide hnn
      clear hnn
      go_wp2_with (first
        | (refine wpList_load_mid rfl 40 (.tmp 5) rfl gb 0 rfl P _ HP.out Try.underlying40 rfl HLP.out ?_)
        | (at_builtin; refine wp_app rfl (.tmp 19) (.tmp 21) 50 rfl (v1 := u3) (v2 := .slice (some ⟨W2.heap.size, 0, none⟩) 1 1) (v := .slice va nn vc) (w' := w4) rfl rfl ?_ ?_; exact hrun))
      go_roundw
      case rel => first | exact R.out | ((repeat apply Exists.intro); exact ⟨R.out, rfl⟩)
      case measure => have := HHLE.out; simp [intOf]; omega
    · have e1 : (l.length : Int) ≤ (n : Int) := by omega
      have hall : (hsL l).take k = hsL l := List.take_of_length_le (by rw [hsL_length]; have := HNK.out; omega)
      have R := hide HOWN.out
      rw [hall] at R
      clear HOWN hall
      go_wp2
      go_ret
      exact ⟨_, rfl, HB.out, R.out⟩

end Go.Proofs.Ytjmifgdjmaelfaa
