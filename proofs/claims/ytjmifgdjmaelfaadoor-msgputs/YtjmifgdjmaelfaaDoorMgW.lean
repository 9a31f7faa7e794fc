import Derived.Test.YtjmifgdjmaelfaaDoorMgA
import Derived.Test.YtjmifgdjmaelfaaDoorOctGet
import Derived.Test.YtjmifgdjmaelfaaDoorTxWr
import Derived.Test.YtjmifgdjmaelfaaDoorKitA
import Derived.Test.YtjmifgdjmaelfaaDoorTxBox
import Derived.Test.YtjmifgdjmaelfaaDoorMgAt
import Derived.Test.YtjmifgdjmaelfaaDoorTxEql
/-
  What msg.addNumber, number and sized answer at this program.
-/
namespace Go.Proofs.YtjmifgdjmaelfaaDoor
open Go.RowKit

theorem sized_any (a : Option Addr) (len cap n : Nat) (w : World) :
    Calls Tryd.prog 81 #[.slice a len cap, .int .i64 n] w fun e w' => e = .returned (.int .i64 (sizedE len n)) ∧ w' = w := by
  by_cases h1 : len < n
  · have e1 : (len : Int) < (n : Int) := by omega
    have R := hide (sizedE_less h1)
    go_enter Tryd.func81, Tryd.ntmps81
    go_wp2
    go_ret
    exact ⟨by rw [R.out]; rfl, rfl⟩
  · have e1 : ¬ (len : Int) < (n : Int) := by omega
    by_cases h2 : n < len
    · have e2 : (n : Int) < (len : Int) := by omega
      have R := hide (sizedE_more h2)
      go_enter Tryd.func81, Tryd.ntmps81
      go_wp2
      go_ret
      exact ⟨by rw [R.out]; rfl, rfl⟩
    · obtain rfl : len = n := by omega
      have R := hide (sizedE_same len)
      go_enter Tryd.func81, Tryd.ntmps81
      go_wp2
      go_ret
      exact ⟨by rw [R.out]; rfl, rfl⟩
theorem mnumber_any (l : List Int) (v : Value) (w : World) (hv : Bytes w v l) (hl : AllB l) (hn : l.length = 0 ∨ l.length = 1 ∨ l.length = 4 ∨ l.length = 8) :
    Calls Tryd.prog 83 #[v] w fun e w' => e = .returned (.int .u64 (num l)) ∧ w' = w := by
  have G := hide (get_any l v w hv hl)
  have e1 : getX l = num l := by
    unfold getX
    rcases hn with h | h | h | h
    · obtain rfl := List.length_eq_zero_iff.1 h
      rfl
    · rw [h]; rfl
    · rw [h]; rfl
    · rw [h]; rfl
  rw [e1] at G
  clear hv hl hn e1
  go_enter Tryd.func83, Tryd.ntmps83
  go_wp2_with fail
  refine G.out.mono ?_
  rintro e w1 ⟨rfl, rfl⟩
  go_wp2
  go_ret
  exact ⟨rfl, rfl⟩
theorem maddNumber_any (w : World) (base : Nat) (v : Value) (l : List Int) (x : Int) (n : Nat) (hn : n = 0 ∨ n = 1 ∨ n = 4 ∨ n = 8) (hx0 : 0 ≤ x) (hx : x < 256 ^ n) (hown : Own w base v l) (hb : base ≤ w.heap.size) (hl : l.length ≤ 900000) :
    Calls Tryd.prog 75 #[v, .int .u64 x, .int .i64 n] w fun e w' => ∃ v', e = .returned v' ∧ Own w' base v' (l ++ put n x) ∧ Grew w w' v v' := by
  have hw : Word x := by
    rcases hn with rfl | rfl | rfl | rfl <;> (simp at hx; exact ⟨hx0, by omega⟩)
  have P := hide (put_any x n w hw)
  have e1 : putL x n = put n x := by
    unfold putL
    rcases hn with rfl | rfl | rfl | rfl
    · rfl
    · rw [if_pos ⟨rfl, by simpa using hx⟩]; rfl
    · rw [if_pos ⟨rfl, by simpa using hx⟩]; rfl
    · rw [if_pos ⟨rfl, by simpa using hx⟩]; rfl
  rw [e1] at P
  have HP : Hid ((put n x).length ≤ 8) := hide (by rw [put_length]; omega)
  generalize put n x = m at *
  generalize putE x n = pe at *
  generalize (n : Int) = N at *
  have HO := hide hown
  clear e1 hown hx hw hn
  go_enter Tryd.func75, Tryd.ntmps75
  go_wp2_with fail
  refine P.out.mono ?_
  rintro e w1 ⟨v1, rfl, hown1, hbel1⟩
  have HO1 := hide (HO.out.on hbel1)
  have HM := hide hown1.bytes
  have HB1 := hide hbel1
  clear hown1 hbel1
  go_wp2_with (at_builtin; refine wp_append_by rfl _ _ rfl base _ l rfl HO1.out _ m rfl HM.out ?c1 ?c2 ?_)
  case c1 => have := HP.out; omega
  case c2 => exact Nat.le_trans hb HB1.out.size
  intro v2 w2 hown2 hg2
  have R : Hid (Own w2 base v2 (l ++ m) ∧ Grew w w2 v v2) := hide ⟨hown2, (Grew.of_below v HB1.out).trans hg2⟩
  clear hown2 hg2
  go_wp2
  go_ret
  exact ⟨_, rfl, R.out⟩

end Go.Proofs.YtjmifgdjmaelfaaDoor

/-
  What msg.shapeOf and counted answer at this program, whatever the kind and the shape.
-/
namespace Go.Proofs.YtjmifgdjmaelfaaDoor
open Go.RowKit

theorem info_shp : (Tryd.prog.info? 82).map (·.size) = some 6 := by kernel_rfl
def shpC (s : Shp) : List Value := [.string s.cmd, .int .i64 s.maxIds, .int .i64 s.codeLen, .int .u32 s.maxCode, .int .i64 s.nLen, .bool s.hasTx]
/-- What shapeOf answers. -/
def ShDone (w : World) (k : Int) (e : Ending) (w' : World) : Prop := e = .returned (.tuple #[.agg (shpC (shp k)).toArray, .bool (isKind k)]) ∧ Below w.heap.size w w'
set_option maxRecDepth 100000 in
set_option maxHeartbeats 1000000 in
theorem shapeOf_kind (w : World) (k : Int) (h : isKind k = true) : Calls Tryd.prog 45 #[.int .i64 k] w (ShDone w k) := by
  rcases kinds h with rfl | rfl | rfl | rfl | rfl | rfl | rfl | rfl | rfl | rfl | rfl
  · go_enter Tryd.func45, Tryd.ntmps45
    go_wp2
    exact ret_row_tmp 2 3 82 rfl w.heap.size 0 rfl (shpC (shp 1)) (range_new w (shpC (shp 1)) 82) _ Tryd.underlying82 rfl info_shp _ rfl rfl ⟨rfl, below_new _ _⟩
  · go_enter Tryd.func45, Tryd.ntmps45
    go_wp2
    exact ret_row_tmp 2 3 82 rfl w.heap.size 0 rfl (shpC (shp 2)) (range_new w (shpC (shp 2)) 82) _ Tryd.underlying82 rfl info_shp _ rfl rfl ⟨rfl, below_new _ _⟩
  · go_enter Tryd.func45, Tryd.ntmps45
    go_wp2
    exact ret_row_tmp 2 3 82 rfl w.heap.size 0 rfl (shpC (shp 3)) (range_new w (shpC (shp 3)) 82) _ Tryd.underlying82 rfl info_shp _ rfl rfl ⟨rfl, below_new _ _⟩
  · go_enter Tryd.func45, Tryd.ntmps45
    go_wp2
    exact ret_row_tmp 2 3 82 rfl w.heap.size 0 rfl (shpC (shp 4)) (range_new w (shpC (shp 4)) 82) _ Tryd.underlying82 rfl info_shp _ rfl rfl ⟨rfl, below_new _ _⟩
  · go_enter Tryd.func45, Tryd.ntmps45
    go_wp2
    exact ret_row_tmp 2 3 82 rfl w.heap.size 0 rfl (shpC (shp 5)) (range_new w (shpC (shp 5)) 82) _ Tryd.underlying82 rfl info_shp _ rfl rfl ⟨rfl, below_new _ _⟩
  · go_enter Tryd.func45, Tryd.ntmps45
    go_wp2
    exact ret_row_tmp 2 3 82 rfl w.heap.size 0 rfl (shpC (shp 6)) (range_new w (shpC (shp 6)) 82) _ Tryd.underlying82 rfl info_shp _ rfl rfl ⟨rfl, below_new _ _⟩
  · go_enter Tryd.func45, Tryd.ntmps45
    go_wp2
    exact ret_row_tmp 2 3 82 rfl w.heap.size 0 rfl (shpC (shp 7)) (range_new w (shpC (shp 7)) 82) _ Tryd.underlying82 rfl info_shp _ rfl rfl ⟨rfl, below_new _ _⟩
  · go_enter Tryd.func45, Tryd.ntmps45
    go_wp2
    exact ret_row_tmp 2 3 82 rfl w.heap.size 0 rfl (shpC (shp 8)) (range_new w (shpC (shp 8)) 82) _ Tryd.underlying82 rfl info_shp _ rfl rfl ⟨rfl, below_new _ _⟩
  · go_enter Tryd.func45, Tryd.ntmps45
    go_wp2
    exact ret_row_tmp 2 3 82 rfl w.heap.size 0 rfl (shpC (shp 9)) (range_new w (shpC (shp 9)) 82) _ Tryd.underlying82 rfl info_shp _ rfl rfl ⟨rfl, below_new _ _⟩
  · go_enter Tryd.func45, Tryd.ntmps45
    go_wp2
    exact ret_row_tmp 2 3 82 rfl w.heap.size 0 rfl (shpC (shp 10)) (range_new w (shpC (shp 10)) 82) _ Tryd.underlying82 rfl info_shp _ rfl rfl ⟨rfl, below_new _ _⟩
  · go_enter Tryd.func45, Tryd.ntmps45
    go_wp2
    exact ret_row_tmp 2 3 82 rfl w.heap.size 0 rfl (shpC (shp 11)) (range_new w (shpC (shp 11)) 82) _ Tryd.underlying82 rfl info_shp _ rfl rfl ⟨rfl, below_new _ _⟩
set_option maxRecDepth 100000 in
set_option maxHeartbeats 1000000 in
theorem shapeOf_any (w : World) (k : Int) : Calls Tryd.prog 45 #[.int .i64 k] w (ShDone w k) := by
  cases h : isKind k with
  | true => exact shapeOf_kind w k h
  | false =>
    have hn := shp_no h
    have hk : ¬ (1 ≤ k ∧ k ≤ 11) := by simpa [isKind] using h
    have R : Hid (ShDone w k (.returned (.tuple #[.agg #[.string ⟨#[]⟩, .int .i64 0, .int .i64 0, .int .u32 0, .int .i64 0, .bool false], .bool false])) (w.alloc (.cells #[.string ⟨#[]⟩, .int .i64 0, .int .i64 0, .int .u32 0, .int .i64 0, .bool false] 82))) := hide ⟨by rw [hn, h]; rfl, below_new _ _⟩
    have e1 : ¬ k = 1 := by omega
    have e2 : ¬ k = 2 := by omega
    have e3 : ¬ k = 3 := by omega
    have e4 : ¬ k = 4 := by omega
    have e5 : ¬ k = 5 := by omega
    have e6 : ¬ k = 6 := by omega
    have e7 : ¬ k = 7 := by omega
    have e8 : ¬ k = 8 := by omega
    have e9 : ¬ k = 9 := by omega
    have e10 : ¬ k = 10 := by omega
    have e11 : ¬ k = 11 := by omega
    clear h hn hk
    go_enter Tryd.func45, Tryd.ntmps45
    go_wp2
    exact ret_row_tmp 2 3 82 rfl w.heap.size 0 rfl _ (range_new w [.string ⟨#[]⟩, .int .i64 0, .int .i64 0, .int .u32 0, .int .i64 0, .bool false] 82) _ Tryd.underlying82 rfl info_shp _ rfl rfl R.out
theorem counted_any (s : Shp) (w : World) :
    Calls Tryd.prog 59 #[.agg #[.string s.cmd, .int .i64 s.maxIds, .int .i64 s.codeLen, .int .u32 s.maxCode, .int .i64 s.nLen, .bool s.hasTx]] w fun e w' => e = .returned (.bool (decide (1 < s.maxIds))) ∧ Below w.heap.size w w' := by
  obtain ⟨c, m, l, x, n, t⟩ := s
  simp only
  by_cases h : 1 < m
  · have e1 : (1 : Int) < (m : Int) := by omega
    rw [decide_eq_true h]
    go_enter Tryd.func59, Tryd.ntmps59
    go_wp2
    go_ret
    exact ⟨rfl, below_new _ _⟩
  · have e1 : ¬ (1 : Int) < (m : Int) := by omega
    rw [decide_eq_false h]
    go_enter Tryd.func59, Tryd.ntmps59
    go_wp2
    go_ret
    exact ⟨rfl, below_new _ _⟩

end Go.Proofs.YtjmifgdjmaelfaaDoor

/-
  Hashes held against each other. Nothing here speaks of one function.
-/
namespace Go.Proofs.YtjmifgdjmaelfaaDoor
open Go.RowKit

theorem hash_there (w : World) : (w.alloc (.cells #[.int .u8 0, .int .u8 0, .int .u8 0, .int .u8 0, .int .u8 0, .int .u8 0, .int .u8 0, .int .u8 0, .int .u8 0, .int .u8 0, .int .u8 0, .int .u8 0, .int .u8 0, .int .u8 0, .int .u8 0, .int .u8 0, .int .u8 0, .int .u8 0, .int .u8 0, .int .u8 0, .int .u8 0, .int .u8 0, .int .u8 0, .int .u8 0, .int .u8 0, .int .u8 0, .int .u8 0, .int .u8 0, .int .u8 0, .int .u8 0, .int .u8 0, .int .u8 0] 36)).there w.heap.size 0 32 := there_new w _ _
set_option maxRecDepth 100000 in
theorem eql_hash8 (xs ys : List Int) (hx : xs.length = 32) (hy : ys.length = 32) (w : World) : (Op.equalIn 10000 36 (.agg (vals .u8 xs).toArray) (.agg (vals .u8 ys).toArray)).run Tryd.prog w = .ok (decide (xs = ys)) w :=
  eql_arr w 36 5 32 .u8 Tryd.underlying36 Tryd.underlying5 (fun _ => rfl) xs ys hx hy

end Go.Proofs.YtjmifgdjmaelfaaDoor

/-
  What a shape's body answers at this program, of a message that passed the check.
-/
namespace Go.Proofs.YtjmifgdjmaelfaaDoor
open Go.RowKit

/-- The bytes of a hash, as a slice of them. -/
theorem hash_bytes {w : World} {b : Nat} {x : List Int} (h : w.rangeAt b 0 (vals .u8 x)) (hx : x.length = 32) : Bytes w (.slice (some ⟨b, 0, none⟩) 32 32) x := by
  have e : (32 : Nat) = x.length := hx.symm
  exact ⟨some ⟨b, 0, none⟩, 32, by rw [hx], by omega, by omega, by simp, fun _ => ⟨b, 0, rfl, fun i hi => h i _ (vals_get .u8 x i hi)⟩⟩
theorem flat_id (L : List (List Int)) : L.flatMap (fun x => x) = L.flatten := by
  induction L with
  | nil => rfl
  | cons x L ih => rw [List.flatMap_cons, List.flatten_cons, ih]
set_option maxRecDepth 100000 in
set_option maxHeartbeats 1000000 in
theorem body_any (s : Shp) (hs : ShpOk s) (m : Mg) (d iv ov : Value) (w : World) (h : MsgAt w d iv ov m) (hok : MgOk m) (hc : chkE s m = 0) :
    Calls Tryd.prog 47 #[.agg #[.string s.cmd, .int .i64 s.maxIds, .int .i64 s.codeLen, .int .u32 s.maxCode, .int .i64 s.nLen, .bool s.hasTx], .agg #[.int .i64 m.kind, .int .u64 m.n, .int .u32 m.code, d, .int .u32 m.tx.ver, iv, ov]] w
      fun e w' => ∃ v', e = .returned (.tuple #[v', .int .i64 (mbE s m)]) ∧ Own w' w.heap.size v' (mbL s m) ∧ Below w.heap.size w w' := by
  obtain ⟨c1, c2, c3, c4⟩ := chkE_ok hc
  obtain ⟨d1, d2, d3, d4⟩ := (coversB_iff _ _).1 c1
  have b2 := below_on (below_new w (.cells #[.string s.cmd, .int .i64 s.maxIds, .int .i64 s.codeLen, .int .u32 s.maxCode, .int .i64 s.nLen, .bool s.hasTx] 82)) (below_new _ (.cells #[.int .i64 m.kind, .int .u64 m.n, .int .u32 m.code, d, .int .u32 m.tx.ver, iv, ov] 51))
  have HSB := hide ((SBox.new w s 82).on (below_new _ (.cells #[.int .i64 m.kind, .int .u64 m.n, .int .u32 m.code, d, .int .u32 m.tx.ver, iv, ov] 51)))
  have hy := MBox.new (w.alloc (.cells #[.string s.cmd, .int .i64 s.maxIds, .int .i64 s.codeLen, .int .u32 s.maxCode, .int .i64 s.nLen, .bool s.hasTx] 82)) (.int .i64 m.kind) (.int .u64 m.n) (.int .u32 m.code) d (.int .u32 m.tx.ver) iv ov 51
  rw [alloc_size] at hy
  have HMB := hide hy
  have HB := hide b2
  have HT := hide (h.on b2)
  have TP := hide (fun w (h : TxAt w iv ov m.tx) => tput_any m.tx iv ov w h.1 h.2 hok.2.2.2.2)
  have CN := hide (fun w => counted_any s w)
  have VR := hide (fun w => octVar_any w (m.ids.length : Int) ⟨by omega, by have := hs.2.2.1; omega⟩)
  have A1 := hide (fun w base v l (h : Own w base v l) hb hl => maddNumber_any w base v l m.code s.codeLen (by have := hs.1; omega) hok.2.2.1.1 (code_fits hs c4) h hb hl)
  have A2 := hide (fun w base v l (h : Own w base v l) hb hl => maddNumber_any w base v l m.n s.nLen (by have := hs.2.1; omega) hok.2.1.1 (num_fits hs d3 hok.2.1.2) h hb hl)
  have HID := hide (fun x hx => (hok.2.2.2.1 x hx).1)
  have h32 : m.ids.length ≤ 32 := by have := hs.2.2.1; omega
  have HFL := hide (flat_32 m.ids (fun x hx => (hok.2.2.2.1 x hx).1))
  have hwl : IntKind.u64.wrap (m.ids.length : Int) = (m.ids.length : Int) := by simp [IntKind.wrap, IntKind.bits, IntKind.signed]; omega
  have hwc : IntKind.u64.wrap m.code = m.code := by have := hok.2.2.1; simp [IntKind.wrap, IntKind.bits, IntKind.signed]; omega
  have hcl : (put s.codeLen m.code).length ≤ 4 := by rw [put_length]; have := hs.1; omega
  have HCL := hide hcl
  obtain ⟨sa, sc, ia, ic, oa, oc, rfl, rfl, rfl⟩ := h.form
  have HF : Hid ((s.hasTx = true → mbL s m = ptL m.tx ∧ mbE s m = ptE m.tx) ∧ (s.hasTx = false → mbL s m = (if 1 < s.maxIds then var (m.ids.length : Int) else []) ++ (m.ids.flatten ++ (put s.codeLen m.code ++ put s.nLen m.n)) ∧ mbE s m = 0)) := hide ⟨fun h => mb_tx h, fun h => mb_no h⟩
  clear b2 hy h hok c1 c2 c3 c4 d1 d2 d3 d4 hs hc hcl
  go_enter Tryd.func47, Tryd.ntmps47
  go_upto_region 1 with fail
  generalize (w.alloc (.cells #[.string s.cmd, .int .i64 s.maxIds, .int .i64 s.codeLen, .int .u32 s.maxCode, .int .i64 s.nLen, .bool s.hasTx] 82)).alloc (.cells #[.int .i64 m.kind, .int .u64 m.n, .int .u32 m.code, .slice sa m.ids.length sc, .int .u32 m.tx.ver, .slice ia m.tx.ins.length ic, .slice oa m.tx.outs.length oc] 51) = W at *
  generalize hg : w.heap.size = g at *
  have HG := hide hg
  clear hg
  have HBG : Hid (g ≤ W.heap.size) := hide (by have := HB.out.size; have := HG.out; omega)
  obtain ⟨p0, p1, p2, p3, p4, p5, p6⟩ := HMB.out
  obtain ⟨q0, q1, q2, q3, q4, q5⟩ := HSB.out
  cases htx : s.hasTx with
  | true =>
    obtain ⟨f1, f2⟩ := HF.out.1 htx
    rw [htx] at q5
    have FF := hide f1
    have FE := hide f2
    clear HF htx A1 A2 VR CN f1 f2
    go_wp2_with fail
    refine (TP.out _ HT.out.2).mono ?_
    rintro e w1 ⟨v1, rfl, hown1, hb1⟩
    have R : Hid (Own w1 g v1 (ptL m.tx) ∧ Below g w w1) := hide ⟨hown1.low HBG.out, HB.out.trans (hb1.mono HBG.out)⟩
    obtain ⟨va, vc, rfl, -, -⟩ := hown1.bytes.form
    clear hown1 hb1 TP HT HB p0 p1 p2 p3 p4 p5 p6 q0 q1 q2 q3 q4 q5
    go_wp2
    go_ret2
    exact ⟨_, by rw [FE.out]; rfl, by rw [HG.out, FF.out]; exact R.out⟩
  | false =>
    obtain ⟨f1, f2⟩ := HF.out.2 htx
    rw [htx] at q5 CN
    have FE := hide f2
    clear HF f2 TP
    have HTX := hide htx
    clear htx
    go_wp2_with fail
    refine (CN.out _).mono ?_
    rintro e w1 ⟨rfl, hb1⟩
    have HB1 := hide hb1
    clear p0 p1 p2 p3 p4 p5 p6 q0 q1 q2 q3 q4 q5
    obtain ⟨p0, p1, p2, p3, p4, p5, p6⟩ := HMB.out.on hb1
    clear hb1 CN
    rcases Decidable.em (1 < s.maxIds) with hcn | hcn
    focus
      rw [if_pos hcn] at f1
      rw [decide_eq_true hcn]
      go_wp2_with fail
      refine (VR.out _).mono ?_
      rintro e w3 ⟨v3, rfl, hown3, hb3⟩
      have HB3 := hide (HB1.out.trans (hb3.mono HB1.out.size))
      have HS : Hid (Putting W (fun x => x) (var (m.ids.length : Int)) m.ids v3 (.int .i64 0) w3) := hide ⟨0, by omega, rfl, by simpa using hown3.low HB1.out.size, HB3.out⟩
      have HPR : Hid ((var (m.ids.length : Int)).length ≤ 9) := hide (var9 _)
      have FP := hide f1
      clear p0 p1 p2 p3 p4 p5 p6 hown3 hb3 hcn HB1 f1
      obtain ⟨p0, p1, p2, p3, p4, p5, p6⟩ := HMB.out.on HB3.out
      generalize var (m.ids.length : Int) = pre at *
    rotate_left
    focus
      rw [if_neg hcn] at f1
      rw [decide_eq_false hcn]
      have HS : Hid (Putting W (fun x => x) [] m.ids (.slice none 0 0) (.int .i64 0) w1) := hide ⟨0, by omega, rfl, by simpa using Own.nil w1 W.heap.size, HB1.out⟩
      have HPR : Hid (([] : List Int).length ≤ 9) := hide (by simp)
      have FP := hide f1
      clear f1 hcn VR
      have HB3 := HB1
      clear HB1
      generalize ([] : List Int) = pre at *
      obtain ⟨w3, hw3⟩ : ∃ w3, w3 = w1 := ⟨_, rfl⟩
      subst hw3
    rotate_left
    all_goals
      go_wp2_with fail
      clear p0 p1 p2 p3 p4 p5 p6 HB3
      go_loopw [6, 26] (fun v i wr => Putting W (fun x => x) pre m.ids v i wr) (fun _ i _ => m.ids.length - (intOf i).toNat)
      case atStart => exact HS.out
      case round =>
        clear HS
        obtain ⟨k, hk, rfl, hown, hB⟩ := hrel
        have HOWN := hide hown
        have HBR := hide hB
        clear hown hB
        by_cases hlt : k < m.ids.length
        · obtain ⟨x, hx⟩ : ∃ x, m.ids[k]? = some x := ⟨_, List.getElem?_eq_getElem hlt⟩
          obtain ⟨b, off, rfl, hr⟩ := (HT.out.1.on HBR.out).get hx
          have hxl := HID.out x (List.mem_of_getElem? hx)
          have HXR := hide hr
          have HN : Hid ((Tryd.prog.info? 36).map (·.size) = some (vals .u8 x).length) := hide (by rw [vals_length, hxl]; exact info_hash)
          have H1 := hide (vals_cell .u8 x)
          have HTH : Hid (∀ w : World, (w.alloc (.cells #[.int .u8 0, .int .u8 0, .int .u8 0, .int .u8 0, .int .u8 0, .int .u8 0, .int .u8 0, .int .u8 0, .int .u8 0, .int .u8 0, .int .u8 0, .int .u8 0, .int .u8 0, .int .u8 0, .int .u8 0, .int .u8 0, .int .u8 0, .int .u8 0, .int .u8 0, .int .u8 0, .int .u8 0, .int .u8 0, .int .u8 0, .int .u8 0, .int .u8 0, .int .u8 0, .int .u8 0, .int .u8 0, .int .u8 0, .int .u8 0, .int .u8 0, .int .u8 0] 36)).there w.heap.size 0 (vals .u8 x).length) := hide (fun w => by rw [vals_length, hxl]; exact hash_there w)
          have hk1 : (k : Int) < (m.ids.length : Int) := by omega
          have HX := hide hx
          have HXL := hide hxl
          have HK := hide hk
          clear hr hx hxl
          go_upto_region 9 with (first | (refine wpList_load_mid rfl 36 (.tmp 28) rfl b (off + k * 32) rfl (vals .u8 x) _ HXR.out Tryd.underlying36 rfl HN.out ?_) | (refine wp_store_row rfl 36 (.tmp 8) (.tmp 29) rfl wr.heap.size 0 (vals .u8 x) rfl rfl (HTH.out wr) HN.out H1.out ?_))
          have hW : ((wr.alloc (.cells #[.int .u8 0, .int .u8 0, .int .u8 0, .int .u8 0, .int .u8 0, .int .u8 0, .int .u8 0, .int .u8 0, .int .u8 0, .int .u8 0, .int .u8 0, .int .u8 0, .int .u8 0, .int .u8 0, .int .u8 0, .int .u8 0, .int .u8 0, .int .u8 0, .int .u8 0, .int .u8 0, .int .u8 0, .int .u8 0, .int .u8 0, .int .u8 0, .int .u8 0, .int .u8 0, .int .u8 0, .int .u8 0, .int .u8 0, .int .u8 0, .int .u8 0, .int .u8 0] 36)).setCells wr.heap.size 0 (vals .u8 x)).rangeAt wr.heap.size 0 (vals .u8 x) := World.rangeAt_setCells_same _ _ _ _ (HTH.out wr)
          have hB2 : Below wr.heap.size wr ((wr.alloc (.cells #[.int .u8 0, .int .u8 0, .int .u8 0, .int .u8 0, .int .u8 0, .int .u8 0, .int .u8 0, .int .u8 0, .int .u8 0, .int .u8 0, .int .u8 0, .int .u8 0, .int .u8 0, .int .u8 0, .int .u8 0, .int .u8 0, .int .u8 0, .int .u8 0, .int .u8 0, .int .u8 0, .int .u8 0, .int .u8 0, .int .u8 0, .int .u8 0, .int .u8 0, .int .u8 0, .int .u8 0, .int .u8 0, .int .u8 0, .int .u8 0, .int .u8 0, .int .u8 0] 36)).setCells wr.heap.size 0 (vals .u8 x)) := below_sets (Nat.le_refl _) _ _ _ ((Below.refl _ _).alloc (Nat.le_refl _) _)
          generalize (wr.alloc (.cells #[.int .u8 0, .int .u8 0, .int .u8 0, .int .u8 0, .int .u8 0, .int .u8 0, .int .u8 0, .int .u8 0, .int .u8 0, .int .u8 0, .int .u8 0, .int .u8 0, .int .u8 0, .int .u8 0, .int .u8 0, .int .u8 0, .int .u8 0, .int .u8 0, .int .u8 0, .int .u8 0, .int .u8 0, .int .u8 0, .int .u8 0, .int .u8 0, .int .u8 0, .int .u8 0, .int .u8 0, .int .u8 0, .int .u8 0, .int .u8 0, .int .u8 0, .int .u8 0] 36)).setCells wr.heap.size 0 (vals .u8 x) = W2 at *
          have HXB := hide (hash_bytes hW HXL.out)
          have HB2 := hide (HBR.out.trans (hB2.mono HBR.out.size))
          have HO2 := hide (HOWN.out.on hB2)
          have HLN : Hid ((pre ++ (m.ids.take k).flatMap fun x => x).length ≤ 3000) := hide (by
            rw [flat_id, List.length_append, flat_32 _ fun x hx => HID.out x (List.mem_of_mem_take hx), List.length_take]
            have := HPR.out
            omega)
          clear hW hB2 HXR HN H1 HTH HOWN
          generalize wr.heap.size = gb at *
          go_wp2_with (at_builtin; refine wp_append_by rfl _ _ rfl W.heap.size _ _ rfl HO2.out _ x rfl HXB.out ?c1 ?c2 ?_)
          case c1 => have := HLN.out; have := HXL.out; omega
          case c2 => exact HB2.out.size
          intro v4 w4 hown4 hg4
          have R : Hid (Putting W (fun x => x) pre m.ids v4 (.int .i64 ((k + 1 : Nat) : Int)) w4) := hide ⟨k + 1, by omega, rfl, by rw [take_flat HX.out, flat_id]; simpa only [List.append_assoc] using hown4, HB2.out.trans (HO2.out.grew hg4 HB2.out.size)⟩
          clear hown4 hg4 HB2 HO2 HXB HLN
          go_wp2
          go_roundw
          case rel => first | exact R.out | ((repeat apply Exists.intro); exact ⟨R.out, rfl⟩)
          case measure => simp [intOf]; omega
        · have hk2 : (m.ids.length : Int) ≤ (k : Int) := by omega
          have e1 : (m.ids.take k).flatMap (fun x => x) = m.ids.flatten := by rw [List.take_of_length_le (by omega), flat_id]
          have ho := HOWN.out
          rw [e1] at ho
          have HO := hide ho
          have HLN : Hid ((pre ++ m.ids.flatten).length ≤ 3000) := hide (by
            rw [List.length_append, HFL.out]
            have := HPR.out
            omega)
          obtain ⟨p0, p1, p2, p3, p4, p5, p6⟩ := HMB.out.on HBR.out
          obtain ⟨q0, q1, q2, q3, q4, q5⟩ := HSB.out.on HBR.out
          clear ho e1 HOWN
          go_wp2_with fail
          refine (A1.out _ W.heap.size _ _ HO.out HBR.out.size (by have := HLN.out; omega)).mono ?_
          rintro e w4 ⟨v4, rfl, hown4, hg4⟩
          have hb4 := HO.out.grew hg4 HBR.out.size
          have HB4 := hide (HBR.out.trans hb4)
          have HO4 := hide hown4
          clear p0 p1 p2 p3 p4 p5 p6 q0 q1 q2 q3 q4 q5
          obtain ⟨p0, p1, p2, p3, p4, p5, p6⟩ := HMB.out.on HB4.out
          obtain ⟨q0, q1, q2, q3, q4, q5⟩ := HSB.out.on HB4.out
          clear hown4 hg4 hb4 HO HBR A1
          go_wp2_with fail
          refine (A2.out _ W.heap.size _ _ HO4.out HB4.out.size (by have := HLN.out; have := HCL.out; rw [List.length_append]; omega)).mono ?_
          rintro e w5 ⟨v5, rfl, hown5, hg5⟩
          have hb5 := HO4.out.grew hg5 HB4.out.size
          have R : Hid (Own w5 g v5 (mbL s m) ∧ Below g w w5) := hide ⟨by rw [FP.out]; simp only [List.append_assoc] at hown5; exact hown5.low HBG.out, HB.out.trans ((HB4.out.trans hb5).mono HBG.out)⟩
          obtain ⟨va, vc, rfl, -, -⟩ := hown5.bytes.form
          generalize (pre ++ m.ids.flatten ++ put s.codeLen m.code ++ put s.nLen m.n).length = nn at *
          clear hown5 hg5 hb5 p0 p1 p2 p3 p4 p5 p6 q0 q1 q2 q3 q4 q5
          go_wp2
          go_ret2
          exact ⟨_, by rw [FE.out]; rfl, by rw [HG.out]; exact R.out⟩

end Go.Proofs.YtjmifgdjmaelfaaDoor
