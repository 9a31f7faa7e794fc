/-
  What (*sha.Hasher).Sum answers at this program.
-/
import Derived.Test.YtknijlajopmjaaaDoorShaSum
import Derived.Test.YtknijlajopmjaaaDoorShaNew
namespace Go.Proofs.YtknijlajopmjaaaDoor
open Go.RowKit

/-- What two results are, the first of which lies in memory. -/
theorem ret_arr2 {P : Program} {fn : Func} {R : Ending → World → Prop} {a : Act} {w : World} (p u : Tmp) (ty : TypeId) (hfn : fn.results = #[.cell p ty, .tmp u]) (b o : Nat) (hp : a.tmps.getD p undef = .pointer (some ⟨b, o, none⟩)) (x : Value) (hu' : a.tmps.getD u undef = x)
    (k : IntKind) (zs : List Int) (hA : Arr w b o k zs) (d : TypeDesc) (hu : P.underlying ty = some d) (hd : d.isRow = true) (n : Nat) (hi : (P.info? ty).map (·.size) = some n) (hn : zs.length = n)
    (hdf : a.defers = []) (hR : R (.returned (.tuple #[.agg (vals k zs).toArray, x])) w) : bodyPost P fn R .ret a w := by
  refine bodyPost_ret (v := .tuple #[.agg (vals k zs).toArray, x]) ?_ hdf hR
  have hp' : a.tmps[p]?.getD undef = .pointer (some ⟨b, o, none⟩) := by simpa using hp
  have hu2 : a.tmps[u]?.getD undef = x := by simpa using hu'
  simp [results, hfn, hp', hu2, asAddr, run_loadVar_mid w b o ty (vals k zs) d hA.1 hu hd (by rw [hi, vals_length, hn])]

set_option maxRecDepth 100000 in
set_option maxHeartbeats 1000000 in
theorem hsum_any (w : World) (b : Nat) (m : List Int) (hH : Hashes w b m) (hk : Ks w) (hsz : m.length ≤ 100000000) :
    Calls Tryd.prog 34 #[.pointer (some ⟨b, 0, none⟩)] w fun e w' => e = .returned (.tuple #[.agg (vals .u8 (digest m)).toArray, .int .i64 0]) ∧ Below w.heap.size w w' := by
  have HK := hide hk
  have HH := hide hH
  obtain ⟨st, blk, hA, hB, hst⟩ := hH
  have HA := hide hA
  have E := hide (fun wx h => end_any wx m st blk hA.2.2.2.2.1 hB hst h hsz)
  have HL : Hid ((Tryd.prog.info? 59).map (·.size) = some (cellsOf m.length st blk).length) := hide (by rw [cellsOf_length _ _ _ hA.2.2.2.2.1 hA.2.2.2.2.2]; exact zero_hasher.2)
  have HDL := hide (digest_length m)
  clear hA hB hst hk
  go_enter Tryd.func34, Tryd.ntmps34
  go_upto_region 1 with fail
  obtain ⟨W, hW⟩ : ∃ W, W = w.alloc (.cells #[.int .u8 0, .int .u8 0, .int .u8 0, .int .u8 0, .int .u8 0, .int .u8 0, .int .u8 0, .int .u8 0, .int .u8 0, .int .u8 0, .int .u8 0, .int .u8 0, .int .u8 0, .int .u8 0, .int .u8 0, .int .u8 0, .int .u8 0, .int .u8 0, .int .u8 0, .int .u8 0, .int .u8 0, .int .u8 0, .int .u8 0, .int .u8 0, .int .u8 0, .int .u8 0, .int .u8 0, .int .u8 0, .int .u8 0, .int .u8 0, .int .u8 0, .int .u8 0] 27) := ⟨_, rfl⟩
  rw [← hW]
  have HBW : Hid (Below w.heap.size w W ∧ Arr W w.heap.size 0 .u8 (List.replicate 32 0)) := hide (by rw [hW]; exact ⟨(Below.refl _ _).alloc (Nat.le_refl _) _, Arr.new w .u8 (List.replicate 32 0) _⟩)
  have HW1 : Hid (W.heap.size = w.heap.size + 1) := hide (by rw [hW, alloc_size])
  clear hW
  go_wp2_with (refine wpList_load_mid rfl 59 (.tmp 8) rfl b 0 rfl (cellsOf m.length st blk) _ (HA.out.on HBW.out.1).range Tryd.underlying59 rfl HL.out ?_)
  refine (E.out _ (HK.out.on HBW.out.1)).mono ?_
  rintro e w1 ⟨rfl, hbel1⟩
  have HR1 : Hid (w1.there w.heap.size 0 32) := hide (by simpa using (HBW.out.2.on hbel1).2)
  have HB1 := hide (below_on HBW.out.1 hbel1)
  clear hbel1
  go_wp2_with (refine wp_store_arr rfl 27 (.tmp 2) (.tmp 10) rfl _ 0 .u8 (digest m) rfl rfl 32 HR1.out info_h HDL.out ?_)
  refine ret_arr2 2 3 27 rfl _ 0 rfl _ rfl .u8 (digest m) (Arr.put (by rw [HDL.out]; exact HR1.out)) _ Tryd.underlying27 rfl 32 info_h HDL.out rfl ⟨rfl, below_sets (Nat.le_refl _) _ _ _ HB1.out⟩

end Go.Proofs.YtknijlajopmjaaaDoor
