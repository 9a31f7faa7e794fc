import Derived.Test.YtjmifgdjmaelfaaDoorMgAt
import Derived.Test.YtjmifgdjmaelfaaDoorKitA
import Derived.Test.YtjmifgdjmaelfaaDoorTxCell
import Derived.Test.YtjmifgdjmaelfaaDoorKit
import Derived.Test.YtjmifgdjmaelfaaDoorMgW
import Derived.Test.YtjmifgdjmaelfaaDoorOctRead
/-
  What msg.hashes answers at this program, whatever the bytes.
-/
namespace Go.Proofs.YtjmifgdjmaelfaaDoor
open Go.RowKit

theorem infoHash : (Tryd.prog.info? 36).map (fun i => (i.zero, i.size, i.bytes)) = some (some (.agg #[.int .u8 0, .int .u8 0, .int .u8 0, .int .u8 0, .int .u8 0, .int .u8 0, .int .u8 0, .int .u8 0, .int .u8 0, .int .u8 0, .int .u8 0, .int .u8 0, .int .u8 0, .int .u8 0, .int .u8 0, .int .u8 0, .int .u8 0, .int .u8 0, .int .u8 0, .int .u8 0, .int .u8 0, .int .u8 0, .int .u8 0, .int .u8 0, .int .u8 0, .int .u8 0, .int .u8 0, .int .u8 0, .int .u8 0, .int .u8 0, .int .u8 0, .int .u8 0]), 32, 32) := by kernel_rfl
/-- So far these are gathered. -/
def Hashing (w : World) (l : List Int) (b v : Value) (wr : World) : Prop :=
  ∃ k : Nat, 32 * k ≤ l.length ∧ Bytes w b (l.drop (32 * k)) ∧ Below w.heap.size w wr ∧ RowOwn wr w.heap.size 36 32 v (((hsL l).take k).map (vals .u8))
theorem hsL_at {l : List Int} {k : Nat} (h : 32 * (k + 1) ≤ l.length) : (hsL l).take (k + 1) = (hsL l).take k ++ [(l.drop (32 * k)).take 32] := by
  have hk : k < (hsL l).length := by rw [hsL_length]; omega
  rw [List.take_succ_eq_append_getElem hk]
  simp [hsL]
theorem copied_there (w : World) : (w.alloc (.cells #[.int .u8 0, .int .u8 0, .int .u8 0, .int .u8 0, .int .u8 0, .int .u8 0, .int .u8 0, .int .u8 0, .int .u8 0, .int .u8 0, .int .u8 0, .int .u8 0, .int .u8 0, .int .u8 0, .int .u8 0, .int .u8 0, .int .u8 0, .int .u8 0, .int .u8 0, .int .u8 0, .int .u8 0, .int .u8 0, .int .u8 0, .int .u8 0, .int .u8 0, .int .u8 0, .int .u8 0, .int .u8 0, .int .u8 0, .int .u8 0, .int .u8 0, .int .u8 0] 36)).there w.heap.size 0 32 := there_new w _ _
set_option maxRecDepth 100000 in
set_option maxHeartbeats 1000000 in
theorem hashes_any (l : List Int) (v : Value) (w : World) (hv : Bytes w v l) (hl : l.length ≤ 5000) :
    Calls Tryd.prog 82 #[v] w fun e w' => ∃ v', e = .returned v' ∧ Below w.heap.size w w' ∧ RowOwn w' w.heap.size 36 32 v' ((hsL l).map (vals .u8)) := by
  have HS : Hid (Hashing w l v (.slice none 0 0) w) := hide ⟨0, by omega, by simpa using hv, Below.refl _ _, by simpa using RowOwn.nil w w.heap.size 36 32⟩
  have HL := hide hl
  obtain ⟨a, cap, rfl, hc1, hc2⟩ := hv.form
  clear hv hl
  go_enter Tryd.func82, Tryd.ntmps82
  go_wp2_with fail
  go_loopw [0, 3] (fun b v wr => Hashing w l b v wr) (fun b _ _ => match b with | .slice _ n _ => n | _ => 0)
  case atStart => exact HS.out
  case round =>
    clear HS
    obtain ⟨k, hk, hbv, hB, hown⟩ := hrel
    have HB := hide hB
    have HOWN := hide hown
    have HV := hide hbv
    obtain ⟨n, hn⟩ : ∃ n, n = (l.drop (32 * k)).length := ⟨_, rfl⟩
    obtain ⟨ba, bc, rfl, hb1, hb2⟩ := hbv.form
    rw [← hn] at HV hb1 ⊢
    have hnl : n = l.length - 32 * k := by rw [hn, List.length_drop]
    have HNL := hide hnl
    have HN := hide hn
    clear hbv hB hown hn hnl
    by_cases hlt : 32 ≤ n
    · have e1 : (32 : Int) ≤ (n : Int) := by omega
      obtain ⟨ta, tc, htr, htb⟩ := tail_of ba n bc 32 .i64 hlt
      have HTR := hide htr
      have HTB := hide htb
      have hnew := below_new wr (.cells #[.int .u8 0, .int .u8 0, .int .u8 0, .int .u8 0, .int .u8 0, .int .u8 0, .int .u8 0, .int .u8 0, .int .u8 0, .int .u8 0, .int .u8 0, .int .u8 0, .int .u8 0, .int .u8 0, .int .u8 0, .int .u8 0, .int .u8 0, .int .u8 0, .int .u8 0, .int .u8 0, .int .u8 0, .int .u8 0, .int .u8 0, .int .u8 0, .int .u8 0, .int .u8 0, .int .u8 0, .int .u8 0, .int .u8 0, .int .u8 0, .int .u8 0, .int .u8 0] 36)
      have HT := hide (copied_there wr)
      have HV1 := hide ((HV.out.below HB.out).below hnew)
      have HM : Hid (32 = min 32 (l.drop (32 * k)).length) := hide (by rw [← HN.out]; omega)
      clear htr htb
      have HXL : Hid (((l.drop (32 * k)).take 32).length = 32) := hide (by rw [List.length_take, ← HN.out]; omega)
      have HTK : Hid (∀ vc : World, vc.there wr.heap.size 0 32 → (vc.setCells wr.heap.size 0 (vals .u8 ((l.drop (32 * k)).take 32))).rangeAt wr.heap.size 0 (vals .u8 ((l.drop (32 * k)).take 32))) := hide (fun vc h => World.rangeAt_setCells_same _ _ _ _ (by rw [vals_length, HXL.out]; exact h))
      have HNX : Hid (RowOwn wr w.heap.size 36 32 u3 (((hsL l).take k).map (vals .u8))) := HOWN
      have HSUC : Hid (((hsL l).take (k + 1)).map (vals .u8) = ((hsL l).take k).map (vals .u8) ++ [vals .u8 ((l.drop (32 * k)).take 32)]) := hide (by rw [hsL_at (by have := HNL.out; omega), List.map_append]; rfl)
      have HDR : Hid ((l.drop (32 * k)).drop 32 = l.drop (32 * (k + 1))) := hide (by rw [List.drop_drop]; congr 1)
      clear HOWN hnew
      go_upto_region 5 with (refine wp_copy_min rfl (.tmp 8) (.tmp 9) rfl wr.heap.size 0 32 32 rfl (.slice ba n bc) (l.drop (32 * k)) rfl HV1.out (by omega) HT.out 32 HM.out ?_)
      have hR := HTK.out _ HT.out
      have hB2 : Below wr.heap.size wr ((wr.alloc (.cells #[.int .u8 0, .int .u8 0, .int .u8 0, .int .u8 0, .int .u8 0, .int .u8 0, .int .u8 0, .int .u8 0, .int .u8 0, .int .u8 0, .int .u8 0, .int .u8 0, .int .u8 0, .int .u8 0, .int .u8 0, .int .u8 0, .int .u8 0, .int .u8 0, .int .u8 0, .int .u8 0, .int .u8 0, .int .u8 0, .int .u8 0, .int .u8 0, .int .u8 0, .int .u8 0, .int .u8 0, .int .u8 0, .int .u8 0, .int .u8 0, .int .u8 0, .int .u8 0] 36)).setCells wr.heap.size 0 (vals .u8 ((l.drop (32 * k)).take 32))) := below_sets (Nat.le_refl _) _ _ _ ((Below.refl _ _).alloc (Nat.le_refl _) _)
      generalize (wr.alloc (.cells #[.int .u8 0, .int .u8 0, .int .u8 0, .int .u8 0, .int .u8 0, .int .u8 0, .int .u8 0, .int .u8 0, .int .u8 0, .int .u8 0, .int .u8 0, .int .u8 0, .int .u8 0, .int .u8 0, .int .u8 0, .int .u8 0, .int .u8 0, .int .u8 0, .int .u8 0, .int .u8 0, .int .u8 0, .int .u8 0, .int .u8 0, .int .u8 0, .int .u8 0, .int .u8 0, .int .u8 0, .int .u8 0, .int .u8 0, .int .u8 0, .int .u8 0, .int .u8 0] 36)).setCells wr.heap.size 0 (vals .u8 ((l.drop (32 * k)).take 32)) = W2 at *
      have HP := hide hR
      have HB2 := hide (below_on HB.out hB2)
      have HOWN2 := hide (HNX.out.move (w1 := W2) fun g _ hl => hB2.block g hl)
      have HLP : Hid ((Tryd.prog.info? 36).map (·.size) = some (vals .u8 ((l.drop (32 * k)).take 32)).length) := hide (by rw [vals_length, HXL.out]; exact info_hash)
      have HLEN : Hid ((vals .u8 ((l.drop (32 * k)).take 32)).length = 32) := hide (by rw [vals_length, HXL.out])
      have hPone := vals_cell .u8 ((l.drop (32 * k)).take 32)
      clear hR hB2 HTK HT HV1 HNX HB HM
      generalize wr.heap.size = gb at *
      generalize vals .u8 ((l.drop (32 * k)).take 32) = P at *
      have hlen := HLEN.out
      have hone := fold_whole P #[.int .u8 0, .int .u8 0, .int .u8 0, .int .u8 0, .int .u8 0, .int .u8 0, .int .u8 0, .int .u8 0, .int .u8 0, .int .u8 0, .int .u8 0, .int .u8 0, .int .u8 0, .int .u8 0, .int .u8 0, .int .u8 0, .int .u8 0, .int .u8 0, .int .u8 0, .int .u8 0, .int .u8 0, .int .u8 0, .int .u8 0, .int .u8 0, .int .u8 0, .int .u8 0, .int .u8 0, .int .u8 0, .int .u8 0, .int .u8 0, .int .u8 0, .int .u8 0] hlen.symm
      have hbn := below_new W2 (.cells P.toArray 36)
      have HNEW := hide (range_new W2 P 36)
      have HOWN3 := hide (HOWN2.out.move (w1 := W2.alloc (.cells P.toArray 36)) fun g _ hl => hbn.block g hl)
      have HB4 := hide (HB2.out.alloc HB2.out.size (.cells P.toArray 36))
      have hw4 : w.heap.size ≤ (W2.alloc (.cells P.toArray 36)).heap.size := HB4.out.size
      obtain ⟨v4, w4, hrun, hrow5, hgr, hwh⟩ := run_append_row (W2.alloc (.cells P.toArray 36)) 49 36 49 _ 32 32 Tryd.underlying49 infoHash rfl (by omega) (by omega) w.heap.size u3 (((hsL l).take k).map (vals .u8)) HOWN3.out W2.heap.size P HNEW.out ⟨hlen, hPone⟩ (by rw [List.length_map, List.length_take, hsL_length]; have := HL.out; omega) hw4
      obtain ⟨va, vc, rfl, -, -⟩ := hrow5.row.form
      have HROW := hide hrow5
      have hlt5 := HOWN3.out.lt
      have R1 : Hid (Below w.heap.size w w4) := hide (HB4.out.grown hgr hw4 fun j hj => (hlt5 j hj).1)
      have R : Hid (Hashing w l (.slice ta (n - 32) tc) (.slice va ((List.map (vals .u8) (List.take k (hsL l))) ++ [P]).length vc) w4) := hide ⟨k + 1, by have := HNL.out; omega, by rw [← HDR.out]; exact HTB.out _ _ HV.out, R1.out, by rw [HSUC.out]; exact HROW.out⟩
      clear hbn hPone hrow5 hgr hwh hw4 hlt5 R1 HROW
      obtain ⟨nn, hnn⟩ : ∃ nn, nn = ((List.map (vals .u8) (List.take k (hsL l))) ++ [P]).length := ⟨_, rfl⟩
      rw [← hnn] at hrun R
      have HNN := hide hnn
      clear hnn
      simp only [Act.put]
      go_wp2_with (first
        | (refine wpList_load_mid rfl 36 (.tmp 4) rfl gb 0 rfl P _ HP.out Tryd.underlying36 rfl HLP.out ?_)
        | (at_builtin; refine wp_app rfl (.tmp 11) (.tmp 13) 49 rfl (v1 := u3) (v2 := .slice (some ⟨W2.heap.size, 0, none⟩) 1 1) (v := .slice va nn vc) (w' := w4) rfl rfl ?_ ?_; exact hrun)
        | (refine wp_from rfl (.tmp 15) (.const (.int .i64 32)) rfl _ _ _ rfl rfl HTR.out ?_))
      go_roundw
      case rel => first | exact R.out | ((repeat apply Exists.intro); exact ⟨R.out, rfl⟩)
      case measure => simp; omega
    · have e1 : ¬ (32 : Int) ≤ (n : Int) := by omega
      have hall : (hsL l).take k = hsL l := List.take_of_length_le (by rw [hsL_length]; have := HNL.out; omega)
      have R := hide HOWN.out
      rw [hall] at R
      clear HOWN hall
      go_wp2
      go_ret
      exact ⟨_, rfl, HB.out, R.out⟩

end Go.Proofs.YtjmifgdjmaelfaaDoor

/-
  What msg.list answers at this program, whatever the bytes.
-/
namespace Go.Proofs.YtjmifgdjmaelfaaDoor
open Go.RowKit

theorem ids_none (w : World) (base : Nat) : RowOwn w base 36 32 (.slice none 0 0) (([] : List (List Int)).map (vals .u8)) := RowOwn.nil w base _ _
set_option maxRecDepth 100000 in
set_option maxHeartbeats 1000000 in
theorem list_any (l : List Int) (v : Value) (w : World) (hv : Bytes w v l) (hb : AllB l) (hl : l.length ≤ 5000) (most : Nat) (hmost : most ≤ 1000) :
    Calls Tryd.prog 60 #[v, .int .i64 most] w fun e w' => ∃ v', e = .returned (.tuple #[v', .int .i64 (lsE l most)]) ∧ Below w.heap.size w w' ∧ RowOwn w' w.heap.size 36 32 v' ((lsI l most).map (vals .u8)) := by
  have RD := hide (read_any l v w hv hb)
  have HE : Hid (lsE l most = (if readE l ≠ 0 then readE l else if readX l = 0 then 9 else if (most : Int) < readX l then 5 else sizedE (l.length - (readN l).toNat) ((readX l).toNat * 32)) ∧ (lsE l most ≠ 0 → lsI l most = []) ∧ (lsE l most = 0 → lsI l most = hsL (l.drop (readN l).toNat))) :=
    hide ⟨rfl, fun h => if_neg h, fun h => if_pos h⟩
  have NO := hide (ids_none w w.heap.size)
  have hwm : IntKind.u64.wrap (most : Int) = (most : Int) := by simp [IntKind.wrap, IntKind.bits, IntKind.signed]; omega
  have HV := hide hv
  have HL := hide hl
  obtain ⟨a, cap, rfl, hc1, hc2⟩ := hv.form
  by_cases hE : readE l = 0
  · obtain ⟨m, hm, hm1, hm2, hm9, -, hx0, hx1⟩ := read_ok l hb hE
    obtain ⟨q, hq⟩ : ∃ q : Nat, readX l = q := ⟨(readX l).toNat, by omega⟩
    rw [hE, hm, hq] at HE RD
    clear hv hb hl hE hm hx0 hq hx1
    by_cases hq0 : q = 0
    · subst hq0
      have h9 : lsE l most = 9 := by rw [HE.out.1, if_neg (by decide), if_pos (by decide)]
      have R : Hid (lsE l most = 9 ∧ lsI l most = []) := hide ⟨h9, HE.out.2.1 (by rw [h9]; decide)⟩
      clear HE h9 HV
      go_enter Tryd.func60, Tryd.ntmps60
      go_wp2_with fail
      refine RD.out.mono ?_
      rintro e w1 ⟨rfl, rfl⟩
      go_wp2
      go_ret2
      exact ⟨_, by rw [R.out.1]; rfl, Below.refl _ _, by rw [R.out.2]; exact NO.out⟩
    · have e0 : ¬ (q : Int) = 0 := by omega
      by_cases hqm : most < q
      · have e1 : (most : Int) < (q : Int) := by omega
        have h9 : lsE l most = 5 := by rw [HE.out.1, if_neg (by decide), if_neg e0, if_pos e1]
        have R : Hid (lsE l most = 5 ∧ lsI l most = []) := hide ⟨h9, HE.out.2.1 (by rw [h9]; decide)⟩
        clear HE h9 HV hqm hq0
        go_enter Tryd.func60, Tryd.ntmps60
        go_wp2_with fail
        refine RD.out.mono ?_
        rintro e w1 ⟨rfl, rfl⟩
        go_wp2
        go_ret2
        exact ⟨_, by rw [R.out.1]; rfl, Below.refl _ _, by rw [R.out.2]; exact NO.out⟩
      · have e1 : ¬ (most : Int) < (q : Int) := by omega
        obtain ⟨ta, tc, htr, htb⟩ := tail_of a l.length cap m .i64 hm2
        have HTR := hide htr
        have HVT := hide (htb w l HV.out)
        obtain ⟨r, hr⟩ : ∃ r, r = l.length - m := ⟨_, rfl⟩
        have h9 : lsE l most = sizedE r (q * 32) := by rw [HE.out.1, if_neg (by decide), if_neg e0, if_neg e1, hr]; rfl
        have hI : lsE l most = 0 → lsI l most = hsL (l.drop m) := HE.out.2.2
        have hN := HE.out.2.1
        have hw1 : IntKind.i64.wrap (q : Int) = (q : Int) := by simp [IntKind.wrap, IntKind.bits, IntKind.signed]; omega
        have hw2 : IntKind.i64.wrap ((q : Int) * 32) = (q : Int) * 32 := by simp [IntKind.wrap, IntKind.bits, IntKind.signed]; omega
        have SZ := hide (sized_any ta r tc (q * 32))
        rw [show (((q * 32 : Nat)) : Int) = (q : Int) * 32 by omega] at SZ
        rw [← hr] at HTR HVT
        have HH := hide (fun w h => hashes_any (l.drop m) (.slice ta r tc) w h (by rw [List.length_drop]; have := HL.out; omega))
        have R9 := hide h9
        have RI := hide hI
        have RN := hide hN
        clear HE h9 hI hN HV htr htb hr hm9 hc1 hc2 hqm hq0
        generalize sizedE r (q * 32) = z at *
        go_enter Tryd.func60, Tryd.ntmps60
        go_wp2_with fail
        refine RD.out.mono ?_
        rintro e w1 ⟨rfl, rfl⟩
        go_upto_region 9 with (refine wp_from rfl (.tmp 24) (.tmp 25) rfl _ _ _ rfl rfl HTR.out ?_)
        go_wp2_with fail
        refine (SZ.out _).mono ?_
        rintro e w2 ⟨rfl, rfl⟩
        by_cases hz : z = 0
        · subst hz
          go_wp2_with fail
          refine (HH.out _ HVT.out).mono ?_
          rintro e w3 ⟨v3, rfl, hb3, hrow3⟩
          obtain ⟨va, vc, rfl, -, -⟩ := hrow3.row.form
          have R : Hid (Below w2.heap.size w2 w3 ∧ RowOwn w3 w2.heap.size 36 32 (.slice va ((hsL (l.drop m)).map (vals .u8)).length vc) ((hsL (l.drop m)).map (vals .u8))) := hide ⟨hb3, hrow3⟩
          clear hb3 hrow3
          generalize hnn : ((hsL (l.drop m)).map (vals .u8)).length = nn at *
          clear hnn
          go_wp2
          go_ret2
          exact ⟨_, by rw [R9.out]; rfl, R.out.1, by rw [RI.out R9.out]; exact R.out.2⟩
        · go_wp2
          go_ret2
          exact ⟨_, by rw [R9.out]; rfl, Below.refl _ _, by rw [RN.out (by rw [R9.out]; exact hz)]; exact NO.out⟩
  · have h9 : lsE l most = readE l := by rw [HE.out.1, if_pos hE]
    have R : Hid (lsE l most = readE l ∧ lsI l most = []) := hide ⟨h9, HE.out.2.1 (by rw [h9]; exact hE)⟩
    clear HE h9 HV hv hb
    generalize readE l = E at *
    generalize readX l = X at *
    generalize readN l = N at *
    go_enter Tryd.func60, Tryd.ntmps60
    go_wp2_with fail
    refine RD.out.mono ?_
    rintro e w1 ⟨rfl, rfl⟩
    go_wp2
    go_ret2
    exact ⟨_, by rw [R.out.1]; rfl, Below.refl _ _, by rw [R.out.2]; exact NO.out⟩

end Go.Proofs.YtjmifgdjmaelfaaDoor

/-
  What a shape's fixed answers at this program, whatever the bytes.
-/
namespace Go.Proofs.YtjmifgdjmaelfaaDoor
open Go.RowKit

/-- What fixed answers. -/
def FixDone (w : World) (s : Shp) (l : List Int) (e : Ending) (w' : World) : Prop :=
  ∃ d, e = .returned (.tuple #[.agg #[.int .i64 0, .int .u64 (fxM s l).n, .int .u32 (fxM s l).code, d, .int .u32 0, .slice none 0 0, .slice none 0 0], .int .i64 (fxE s l)]) ∧ Below w.heap.size w w' ∧ Keeps (fun k => w.heap.size ≤ k) w' fun w => IdsAt w d (fxM s l).ids
theorem set7 (W : World) (g : Nat) (a b c d e f h : Value) : ((((((W.setCell ⟨g, 0, none⟩ a).setCell ⟨g, 1, none⟩ b).setCell ⟨g, 2, none⟩ c).setCell ⟨g, 3, none⟩ d).setCell ⟨g, 4, none⟩ e).setCell ⟨g, 5, none⟩ f).setCell ⟨g, 6, none⟩ h = W.setCells g 0 [a, b, c, d, e, f, h] := rfl
theorem msg_there (w : World) : (w.alloc (.cells #[.int .i64 0, .int .u64 0, .int .u32 0, .slice none 0 0, .int .u32 0, .slice none 0 0, .slice none 0 0] 51)).there w.heap.size 0 7 := there_new w _ _
theorem RowOwn.slice {w : World} {base : Nat} {ty : TypeId} {s : Nat} {v : Value} {C : List (List Value)} (h : RowOwn w base ty s v C) : ∃ a n c, v = .slice a n c := by
  obtain ⟨a, c, e, -, -⟩ := h.row.form
  exact ⟨a, _, c, e⟩
theorem there7 {w : World} {b : Nat} (h : w.there b 0 7) : ∃ u0 u1 u2 u3 u4 u5 u6, (w.cell? ⟨b, 0, none⟩ = some u0 ∧ w.cell? ⟨b, 1, none⟩ = some u1 ∧ w.cell? ⟨b, 2, none⟩ = some u2 ∧ w.cell? ⟨b, 3, none⟩ = some u3 ∧ w.cell? ⟨b, 4, none⟩ = some u4 ∧ w.cell? ⟨b, 5, none⟩ = some u5 ∧ w.cell? ⟨b, 6, none⟩ = some u6) ∧
    (w.frozen? ⟨b, 0, none⟩ = false ∧ w.frozen? ⟨b, 1, none⟩ = false ∧ w.frozen? ⟨b, 2, none⟩ = false ∧ w.frozen? ⟨b, 3, none⟩ = false ∧ w.frozen? ⟨b, 4, none⟩ = false ∧ w.frozen? ⟨b, 5, none⟩ = false ∧ w.frozen? ⟨b, 6, none⟩ = false) := by
  obtain ⟨u0, c0⟩ := Option.isSome_iff_exists.1 (h 0 (by omega)).1
  obtain ⟨u1, c1⟩ := Option.isSome_iff_exists.1 (h 1 (by omega)).1
  obtain ⟨u2, c2⟩ := Option.isSome_iff_exists.1 (h 2 (by omega)).1
  obtain ⟨u3, c3⟩ := Option.isSome_iff_exists.1 (h 3 (by omega)).1
  obtain ⟨u4, c4⟩ := Option.isSome_iff_exists.1 (h 4 (by omega)).1
  obtain ⟨u5, c5⟩ := Option.isSome_iff_exists.1 (h 5 (by omega)).1
  obtain ⟨u6, c6⟩ := Option.isSome_iff_exists.1 (h 6 (by omega)).1
  simp only [Nat.zero_add] at c0 c1 c2 c3 c4 c5 c6
  exact ⟨u0, u1, u2, u3, u4, u5, u6, ⟨c0, c1, c2, c3, c4, c5, c6⟩, there_free0 h 0 (by omega), there_free0 h 1 (by omega), there_free0 h 2 (by omega), there_free0 h 3 (by omega), there_free0 h 4 (by omega), there_free0 h 5 (by omega), there_free0 h 6 (by omega)⟩
set_option maxRecDepth 100000 in
set_option maxHeartbeats 1000000 in
theorem fixed_any (s : Shp) (hs : ShpOk s) (l : List Int) (v : Value) (w : World) (hv : Bytes w v l) (hb : AllB l) (hl : l.length ≤ 5000) :
    Calls Tryd.prog 61 #[.agg #[.string s.cmd, .int .i64 s.maxIds, .int .i64 s.codeLen, .int .u32 s.maxCode, .int .i64 s.nLen, .bool s.hasTx], v] w (FixDone w s l) := by
  have b2 := below_on (below_new w (.cells #[.string s.cmd, .int .i64 s.maxIds, .int .i64 s.codeLen, .int .u32 s.maxCode, .int .i64 s.nLen, .bool s.hasTx] 82)) (below_new _ (.cells #[.int .i64 0, .int .u64 0, .int .u32 0, .slice none 0 0, .int .u32 0, .slice none 0 0, .slice none 0 0] 51))
  have HS := hide ((SBox.new w s 82).on (below_new _ (.cells #[.int .i64 0, .int .u64 0, .int .u32 0, .slice none 0 0, .int .u32 0, .slice none 0 0, .slice none 0 0] 51)))
  have hy := msg_there (w.alloc (.cells #[.string s.cmd, .int .i64 s.maxIds, .int .i64 s.codeLen, .int .u32 s.maxCode, .int .i64 s.nLen, .bool s.hasTx] 82))
  have hsz : ((w.alloc (.cells #[.string s.cmd, .int .i64 s.maxIds, .int .i64 s.codeLen, .int .u32 s.maxCode, .int .i64 s.nLen, .bool s.hasTx] 82)).alloc (.cells #[.int .i64 0, .int .u64 0, .int .u32 0, .slice none 0 0, .int .u32 0, .slice none 0 0, .slice none 0 0] 51)).heap.size = w.heap.size + 2 := by rw [alloc_size, alloc_size]
  rw [alloc_size] at hy
  have HY := hide hy
  have HZ := hide hsz
  have HB := hide b2
  have HV := hide (hv.below b2)
  have HL := hide hl
  have HE : Hid ((fxE s l = if sizedE l.length (fxN s) ≠ 0 then sizedE l.length (fxN s) else if s.maxCode < fxC s l then 6 else 0) ∧ (fxE s l ≠ 0 → fxM s l = noMg) ∧ (fxE s l = 0 → fxM s l = ⟨0, num (l.drop (s.maxIds * 32 + s.codeLen)), fxC s l, hsL (l.take (s.maxIds * 32)), noTr⟩)) := hide ⟨rfl, fun h => if_neg h, fun h => if_pos h⟩
  obtain ⟨a, cap, rfl, hc1, hc2⟩ := hv.form
  obtain ⟨s1, s2, s3, s4, s5, s6, -⟩ := hs
  have HAB := hide hb
  have hcn : fxN s = s.maxIds * 32 + s.codeLen + s.nLen := rfl
  have hcc : fxC s l = num ((l.drop (s.maxIds * 32)).take s.codeLen) := rfl
  have hwa : IntKind.i64.wrap ((s.maxIds : Int) * 32) = (s.maxIds : Int) * 32 := by simp [IntKind.wrap, IntKind.bits, IntKind.signed]; omega
  have hwb : IntKind.i64.wrap ((s.maxIds : Int) * 32 + (s.codeLen : Int)) = (s.maxIds : Int) * 32 + (s.codeLen : Int) := by simp [IntKind.wrap, IntKind.bits, IntKind.signed]; omega
  have hwc : IntKind.i64.wrap ((s.maxIds : Int) * 32 + (s.codeLen : Int) + (s.nLen : Int)) = (s.maxIds : Int) * 32 + (s.codeLen : Int) + (s.nLen : Int) := by simp [IntKind.wrap, IntKind.bits, IntKind.signed]; omega
  have SZ := hide (sized_any a l.length cap (fxN s))
  rw [hcn, show ((s.maxIds * 32 + s.codeLen + s.nLen : Nat) : Int) = (s.maxIds : Int) * 32 + (s.codeLen : Int) + (s.nLen : Int) by omega] at SZ
  rw [hcn] at HE
  have R0 : Hid (∀ (e : Int) (w' : World), fxE s l = e → e ≠ 0 → Below w.heap.size w w' → FixDone w s l (.returned (.tuple #[.agg #[.int .i64 0, .int .u64 0, .int .u32 0, .slice none 0 0, .int .u32 0, .slice none 0 0, .slice none 0 0], .int .i64 e])) w') := hide (fun e w' h1 h2 h3 => by
    subst h1
    have := HE.out.2.1 h2
    exact ⟨.slice none 0 0, by rw [this]; rfl, h3, by rw [this]; exact fun w' _ => IdsAt.nil w'⟩)
  clear b2 hy hsz hv hb hl hcn
  go_enter Tryd.func61, Tryd.ntmps61
  go_upto_region 1 with fail
  generalize (w.alloc (.cells #[.string s.cmd, .int .i64 s.maxIds, .int .i64 s.codeLen, .int .u32 s.maxCode, .int .i64 s.nLen, .bool s.hasTx] 82)).alloc (.cells #[.int .i64 0, .int .u64 0, .int .u32 0, .slice none 0 0, .int .u32 0, .slice none 0 0, .slice none 0 0] 51) = W at *
  generalize hg : w.heap.size = g at *
  have HG := hide hg
  clear hg
  obtain ⟨q0, q1, q2, q3, q4, q5⟩ := HS.out
  go_wp2_with fail
  refine (SZ.out _).mono ?_
  rintro e w1 ⟨rfl, rfl⟩
  generalize hzz : sizedE l.length (s.maxIds * 32 + s.codeLen + s.nLen) = z at *
  have HZZ := hide hzz
  clear hzz
  have hT : w1.there (g + 1) 0 7 := HY.out
  have HT := hide hT
  have HRZ := hide (World.rangeAt_setCells_same w1 (g + 1) 0 [.int .i64 0, .int .u64 0, .int .u32 0, .slice none 0 0, .int .u32 0, .slice none 0 0, .slice none 0 0] hT)
  have HBZ := hide (below_sets (show g ≤ g + 1 by omega) [.int .i64 0, .int .u64 0, .int .u32 0, .slice none 0 0, .int .u32 0, .slice none 0 0, .slice none 0 0] 0 w1 HB.out)
  have H1 : Hid (∀ x ∈ ([.int .i64 0, .int .u64 0, .int .u32 0, .slice none 0 0, .int .u32 0, .slice none 0 0, .slice none 0 0] : List Value), x.oneCell' = true) := hide (by simp [Value.oneCell'])
  clear hT
  by_cases hz : z = 0
  · subst hz
    have hlen := sizedE_zero HZZ.out
    have hi1 : s.maxIds * 32 ≤ s.maxIds * 32 + s.codeLen := by omega
    have hi2 : s.maxIds * 32 + s.codeLen ≤ l.length := by omega
    obtain ⟨ma, mc, hmr, hmb⟩ := cut_of a l.length cap (s.maxIds * 32) (s.maxIds * 32 + s.codeLen) hi1 hi2 hc1
    obtain ⟨ta, tc, htr, htb⟩ := tail_of a l.length cap (s.maxIds * 32 + s.codeLen) .i64 hi2
    obtain ⟨ha, hhr, hhb⟩ := head_of a l.length cap (s.maxIds * 32) .i64 (by omega) hc1
    rw [show s.maxIds * 32 + s.codeLen - s.maxIds * 32 = s.codeLen by omega] at hmr hmb
    rw [show l.length - (s.maxIds * 32 + s.codeLen) = s.nLen by omega] at htr htb
    rw [show ((s.maxIds * 32 + s.codeLen : Nat) : Int) = (s.maxIds : Int) * 32 + (s.codeLen : Int) by omega] at hmr htr
    rw [show ((s.maxIds * 32 : Nat) : Int) = (s.maxIds : Int) * 32 by omega] at hmr hhr
    have HMR := hide hmr
    have HTR := hide htr
    have HHR := hide hhr
    have hcl : ((l.drop (s.maxIds * 32)).take s.codeLen).length = s.codeLen := by simp; omega
    have hnl : (l.drop (s.maxIds * 32 + s.codeLen)).length = s.nLen := by simp; omega
    have NB := hide (fun w h => mnumber_any ((l.drop (s.maxIds * 32)).take s.codeLen) (.slice ma s.codeLen mc) w h ((HAB.out.drop _).take _) (by rw [hcl]; omega))
    have hcx := num_u32 ((HAB.out.drop (s.maxIds * 32)).take s.codeLen) (by rw [hcl]; omega)
    rw [← hcc] at NB hcx
    have NT := hide (fun w h => mnumber_any (l.drop (s.maxIds * 32 + s.codeLen)) (.slice ta s.nLen tc) w h (HAB.out.drop _) (by rw [hnl]; omega))
    have HH := hide (fun w h => hashes_any (l.take (s.maxIds * 32)) (.slice ha (s.maxIds * 32) cap) w h (by rw [List.length_take]; have := HL.out; omega))
    have HV1 := hide (hmb _ _ HV.out)
    have HV2 := hide (htb _ _ HV.out)
    have HV3 := hide (hhb _ _ HV.out)
    have HHE := hide HE.out.1
    have HFX := hide HE.out.2.2
    have HXN : Hid (num (l.drop (s.maxIds * 32 + s.codeLen)) = num (l.drop (s.maxIds * 32 + s.codeLen))) := hide rfl
    clear hmr hmb htr htb hhr hhb hcl hcc hi1 hi2 hlen HE
    generalize fxC s l = x at *
    generalize num (l.drop (s.maxIds * 32 + s.codeLen)) = y at *
    have hwx : IntKind.u32.wrap x = x := by simp [IntKind.wrap, IntKind.bits, IntKind.signed]; omega
    obtain ⟨cmd, mi, cl, mx, nl, tx⟩ := s
    simp only at *
    go_wp2_with (refine wp_mid rfl (.tmp 27) (.tmp 28) (.tmp 29) rfl _ _ _ _ rfl rfl rfl HMR.out ?_)
    refine (NB.out _ HV1.out).mono ?_
    rintro e w2 ⟨rfl, rfl⟩
    by_cases hx : mx < x
    · have R := hide (R0.out 6 _ (by rw [HHE.out, if_neg (by decide), if_pos hx]) (by decide) HBZ.out)
      clear HHE HFX NB NT HH
      go_wp2_with (refine wp_store_row rfl 51 (.tmp 4) (.tmp 37) rfl (g + 1) 0 [.int .i64 0, .int .u64 0, .int .u32 0, .slice none 0 0, .int .u32 0, .slice none 0 0, .slice none 0 0] rfl rfl HT.out info_msg H1.out ?_)
      exact ret_row_tmp 4 5 51 rfl (g + 1) 0 rfl _ HRZ.out _ Tryd.underlying51 rfl info_msg _ rfl rfl R.out
    · have h0 := HHE.out
      rw [if_neg (by decide), if_neg hx] at h0
      have HF := hide (HFX.out h0)
      have HF0 := hide h0
      clear h0 HHE HFX NB R0
      go_upto_region 9 with fail
      have htr := HTR.out
      have hhr := HHR.out
      have ht2 := HV2.out.drew
      have hh2 := HV3.out.drew
      have hd2 : Below w2.heap.size w2 w2.drew := (Below.refl _ _).drew
      clear q0 q1 q2 q3 q4 q5 HS hwb hwc hwa
      go_region_with (first
        | (go_at_call 83; (with_reducible refine (NT.out _ ht2).mono ?_); rintro e w3 ⟨rfl, hw3⟩; rw [hw3]; clear hw3 w3)
        | (go_at_call 82; (with_reducible refine (HH.out _ hh2).mono ?_); rintro e w4 ⟨v4, rfl, hb4, hrow4⟩; have ht2 := ht2.below hb4; obtain ⟨va, nn, vc, rfl⟩ := hrow4.slice; have ht7 := there_on HT.out (below_on hd2 hb4); obtain ⟨u0, u1, u2, u3, u4, u5, u6, ⟨c0, c1, c2, c3, c4, c5, c6⟩, f0, f1, f2, f3, f4, f5, f6⟩ := there7 ht7))
      all_goals
        have hlt4 := hrow4.lt
        have hsz2 : w2.drew.heap.size = g + 2 := HZ.out
        have KD := hide ((IdsAt.keeps (L := hsL (l.take (mi * 32))) (P := fun k => g + 2 ≤ k) hrow4.row fun k hk => by have := (hlt4 k hk).1; omega))
        have HB4 := hide (HB.out.trans (((Below.refl w2.heap.size w2).drew.trans hb4).mono (by have := HB.out.size; have := HG.out; omega)))
        have HR7 := hide (World.rangeAt_setCells_same w4 (g + 1) 0 [.int .i64 0, .int .u64 y, .int .u32 x, .slice va nn vc, .int .u32 0, .slice none 0 0, .slice none 0 0] ht7)
        have R : Hid (FixDone w ⟨cmd, mi, cl, mx, nl, tx⟩ l (.returned (.tuple #[.agg #[.int .i64 0, .int .u64 y, .int .u32 x, .slice va nn vc, .int .u32 0, .slice none 0 0, .slice none 0 0], .int .i64 0])) (w4.setCells (g + 1) 0 [.int .i64 0, .int .u64 y, .int .u32 x, .slice va nn vc, .int .u32 0, .slice none 0 0, .slice none 0 0])) := hide (by
          refine ⟨.slice va nn vc, by rw [HF.out, HF0.out], ?_, ?_⟩
          · rw [HG.out]
            exact below_sets (by omega) _ 0 w4 HB4.out
          · rw [HF.out, HG.out]
            exact (KD.out.step (w1 := w4.setCells (g + 1) 0 _) (by rw [size_setCells]; exact Nat.le_refl _) fun k hk hp => (Besides.sets (p := g + 1) (q := g + 1) (w := w4) (Or.inl rfl) _ 0 w4 (Besides.refl _ _ _)).block k hk (by omega) (by omega)).weak fun k _ h => by omega)
        have HSET := hide (set7 w4 (g + 1))
        clear hrow4 hb4 ht2 hh2 hd2 ht7 KD HB4 hlt4 hsz2 NT HH HF HF0 htr hhr
        go_wp2_with fail
        rw [HSET.out]
        exact ret_row_tmp 4 5 51 rfl (g + 1) 0 rfl _ HR7.out _ Tryd.underlying51 rfl info_msg _ rfl rfl R.out
  · have R := hide (R0.out z _ (by rw [HE.out.1, if_pos hz]) hz HBZ.out)
    clear HE
    go_wp2_with (refine wp_store_row rfl 51 (.tmp 4) (.tmp 25) rfl (g + 1) 0 [.int .i64 0, .int .u64 0, .int .u32 0, .slice none 0 0, .int .u32 0, .slice none 0 0, .slice none 0 0] rfl rfl HT.out info_msg H1.out ?_)
    exact ret_row_tmp 4 5 51 rfl (g + 1) 0 rfl _ HRZ.out _ Tryd.underlying51 rfl info_msg _ rfl rfl R.out

end Go.Proofs.YtjmifgdjmaelfaaDoor
