/-
  Hashes held against each other. Nothing here speaks of one function.
-/
import Derived.Test.YtbeegcpmpgdbnaaDoorKitA
import Derived.Test.YtbeegcpmpgdbnaaDoorTxEql
namespace Go.Proofs.YtbeegcpmpgdbnaaDoor
open Go.RowKit

theorem hash_there (w : World) : (w.alloc (.cells #[.int .u8 0, .int .u8 0, .int .u8 0, .int .u8 0, .int .u8 0, .int .u8 0, .int .u8 0, .int .u8 0, .int .u8 0, .int .u8 0, .int .u8 0, .int .u8 0, .int .u8 0, .int .u8 0, .int .u8 0, .int .u8 0, .int .u8 0, .int .u8 0, .int .u8 0, .int .u8 0, .int .u8 0, .int .u8 0, .int .u8 0, .int .u8 0, .int .u8 0, .int .u8 0, .int .u8 0, .int .u8 0, .int .u8 0, .int .u8 0, .int .u8 0, .int .u8 0] 34)).there w.heap.size 0 32 := there_new w _ _
set_option maxRecDepth 100000 in
theorem eql_hash8 (xs ys : List Int) (hx : xs.length = 32) (hy : ys.length = 32) (w : World) : (Op.equalIn 10000 34 (.agg (vals .u8 xs).toArray) (.agg (vals .u8 ys).toArray)).run Tryd.prog w = .ok (decide (xs = ys)) w :=
  eql_arr w 34 5 32 .u8 Tryd.underlying34 Tryd.underlying5 (fun _ => rfl) xs ys hx hy

end Go.Proofs.YtbeegcpmpgdbnaaDoor
