/-
  What msg.shapeOf and counted answer at this program, whatever the kind and the shape.
-/
import Derived.Test.YtjmifgdjmaelfaaMgA
import Derived.Test.YtjmifgdjmaelfaaKitA
import Derived.Test.YtjmifgdjmaelfaaTxBox
namespace Go.Proofs.Ytjmifgdjmaelfaa
open Go.RowKit

theorem info_shp : (Try.prog.info? 76).map (·.size) = some 6 := by kernel_rfl
def shpC (s : Shp) : List Value := [.string s.cmd, .int .i64 s.maxIds, .int .i64 s.codeLen, .int .u32 s.maxCode, .int .i64 s.nLen, .bool s.hasTx]
/-- What shapeOf answers. -/
def ShDone (w : World) (k : Int) (e : Ending) (w' : World) : Prop := e = .returned (.tuple #[.agg (shpC (shp k)).toArray, .bool (isKind k)]) ∧ Below w.heap.size w w'
set_option maxRecDepth 100000 in
set_option maxHeartbeats 1000000 in
theorem shapeOf_kind (w : World) (k : Int) (h : isKind k = true) : Calls Try.prog 31 #[.int .i64 k] w (ShDone w k) := by
  rcases kinds h with rfl | rfl | rfl | rfl | rfl | rfl | rfl | rfl | rfl | rfl | rfl
  · go_enter Try.func31, Try.ntmps31
    go_wp2
    exact ret_row_tmp 2 3 76 rfl w.heap.size 0 rfl (shpC (shp 1)) (range_new w (shpC (shp 1)) 76) _ Try.underlying76 rfl info_shp _ rfl rfl ⟨rfl, below_new _ _⟩
  · go_enter Try.func31, Try.ntmps31
    go_wp2
    exact ret_row_tmp 2 3 76 rfl w.heap.size 0 rfl (shpC (shp 2)) (range_new w (shpC (shp 2)) 76) _ Try.underlying76 rfl info_shp _ rfl rfl ⟨rfl, below_new _ _⟩
  · go_enter Try.func31, Try.ntmps31
    go_wp2
    exact ret_row_tmp 2 3 76 rfl w.heap.size 0 rfl (shpC (shp 3)) (range_new w (shpC (shp 3)) 76) _ Try.underlying76 rfl info_shp _ rfl rfl ⟨rfl, below_new _ _⟩
  · go_enter Try.func31, Try.ntmps31
    go_wp2
    exact ret_row_tmp 2 3 76 rfl w.heap.size 0 rfl (shpC (shp 4)) (range_new w (shpC (shp 4)) 76) _ Try.underlying76 rfl info_shp _ rfl rfl ⟨rfl, below_new _ _⟩
  · go_enter Try.func31, Try.ntmps31
    go_wp2
    exact ret_row_tmp 2 3 76 rfl w.heap.size 0 rfl (shpC (shp 5)) (range_new w (shpC (shp 5)) 76) _ Try.underlying76 rfl info_shp _ rfl rfl ⟨rfl, below_new _ _⟩
  · go_enter Try.func31, Try.ntmps31
    go_wp2
    exact ret_row_tmp 2 3 76 rfl w.heap.size 0 rfl (shpC (shp 6)) (range_new w (shpC (shp 6)) 76) _ Try.underlying76 rfl info_shp _ rfl rfl ⟨rfl, below_new _ _⟩
  · go_enter Try.func31, Try.ntmps31
    go_wp2
    exact ret_row_tmp 2 3 76 rfl w.heap.size 0 rfl (shpC (shp 7)) (range_new w (shpC (shp 7)) 76) _ Try.underlying76 rfl info_shp _ rfl rfl ⟨rfl, below_new _ _⟩
  · go_enter Try.func31, Try.ntmps31
    go_wp2
    exact ret_row_tmp 2 3 76 rfl w.heap.size 0 rfl (shpC (shp 8)) (range_new w (shpC (shp 8)) 76) _ Try.underlying76 rfl info_shp _ rfl rfl ⟨rfl, below_new _ _⟩
  · go_enter Try.func31, Try.ntmps31
    go_wp2
    exact ret_row_tmp 2 3 76 rfl w.heap.size 0 rfl (shpC (shp 9)) (range_new w (shpC (shp 9)) 76) _ Try.underlying76 rfl info_shp _ rfl rfl ⟨rfl, below_new _ _⟩
  · go_enter Try.func31, Try.ntmps31
    go_wp2
    exact ret_row_tmp 2 3 76 rfl w.heap.size 0 rfl (shpC (shp 10)) (range_new w (shpC (shp 10)) 76) _ Try.underlying76 rfl info_shp _ rfl rfl ⟨rfl, below_new _ _⟩
  · go_enter Try.func31, Try.ntmps31
    go_wp2
    exact ret_row_tmp 2 3 76 rfl w.heap.size 0 rfl (shpC (shp 11)) (range_new w (shpC (shp 11)) 76) _ Try.underlying76 rfl info_shp _ rfl rfl ⟨rfl, below_new _ _⟩
set_option maxRecDepth 100000 in
set_option maxHeartbeats 1000000 in
theorem shapeOf_any (w : World) (k : Int) : Calls Try.prog 31 #[.int .i64 k] w (ShDone w k) := by
  cases h : isKind k with
  | true => exact shapeOf_kind w k h
  | false =>
    have hn := shp_no h
    have hk : ¬ (1 ≤ k ∧ k ≤ 11) := by simpa [isKind] using h
    have R : Hid (ShDone w k (.returned (.tuple #[.agg #[.string ⟨#[]⟩, .int .i64 0, .int .i64 0, .int .u32 0, .int .i64 0, .bool false], .bool false])) (w.alloc (.cells #[.string ⟨#[]⟩, .int .i64 0, .int .i64 0, .int .u32 0, .int .i64 0, .bool false] 76))) := hide ⟨by rw [hn, h]; rfl, below_new _ _⟩
    have e1 : ¬ k = 1 := by omega
    have e2 : ¬ k = 2 := by omega
    have e3 : ¬ k = 3 := by omega
    have e4 : ¬ k = 4 := by omega
    have e5 : ¬ k = 5 := by omega
    have e6 : ¬ k = 6 := by omega
    have e7 : ¬ k = 7 := by omega
    have e8 : ¬ k = 8 := by omega
    have e9 : ¬ k = 9 := by omega
    have e10 : ¬ k = 10 := by omega
    have e11 : ¬ k = 11 := by omega
    clear h hn hk
    go_enter Try.func31, Try.ntmps31
    go_wp2
    exact ret_row_tmp 2 3 76 rfl w.heap.size 0 rfl _ (range_new w [.string ⟨#[]⟩, .int .i64 0, .int .i64 0, .int .u32 0, .int .i64 0, .bool false] 76) _ Try.underlying76 rfl info_shp _ rfl rfl R.out
theorem counted_any (s : Shp) (w : World) :
    Calls Try.prog 32 #[.agg #[.string s.cmd, .int .i64 s.maxIds, .int .i64 s.codeLen, .int .u32 s.maxCode, .int .i64 s.nLen, .bool s.hasTx]] w fun e w' => e = .returned (.bool (decide (1 < s.maxIds))) ∧ Below w.heap.size w w' := by
  obtain ⟨c, m, l, x, n, t⟩ := s
  simp only
  by_cases h : 1 < m
  · have e1 : (1 : Int) < (m : Int) := by omega
    rw [decide_eq_true h]
    go_enter Try.func32, Try.ntmps32
    go_wp2
    go_ret
    exact ⟨rfl, below_new _ _⟩
  · have e1 : ¬ (1 : Int) < (m : Int) := by omega
    rw [decide_eq_false h]
    go_enter Try.func32, Try.ntmps32
    go_wp2
    go_ret
    exact ⟨rfl, below_new _ _⟩

end Go.Proofs.Ytjmifgdjmaelfaa
