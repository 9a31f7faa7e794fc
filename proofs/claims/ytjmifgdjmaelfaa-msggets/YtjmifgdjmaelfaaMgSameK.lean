/-
  Hashes held against each other. Nothing here speaks of one function.
-/
import Derived.Test.YtjmifgdjmaelfaaMgAt
import Derived.Test.YtjmifgdjmaelfaaTxEql
namespace Go.Proofs.Ytjmifgdjmaelfaa
open Go.RowKit

theorem hash_there (w : World) : (w.alloc (.cells #[.int .u8 0, .int .u8 0, .int .u8 0, .int .u8 0, .int .u8 0, .int .u8 0, .int .u8 0, .int .u8 0, .int .u8 0, .int .u8 0, .int .u8 0, .int .u8 0, .int .u8 0, .int .u8 0, .int .u8 0, .int .u8 0, .int .u8 0, .int .u8 0, .int .u8 0, .int .u8 0, .int .u8 0, .int .u8 0, .int .u8 0, .int .u8 0, .int .u8 0, .int .u8 0, .int .u8 0, .int .u8 0, .int .u8 0, .int .u8 0, .int .u8 0, .int .u8 0] 40)).there w.heap.size 0 32 := there_new w _ _
set_option maxRecDepth 100000 in
theorem eql_hash8 (xs ys : List Int) (hx : xs.length = 32) (hy : ys.length = 32) (w : World) : (Op.equalIn 10000 40 (.agg (vals .u8 xs).toArray) (.agg (vals .u8 ys).toArray)).run Try.prog w = .ok (decide (xs = ys)) w :=
  eql_arr w 40 5 32 .u8 Try.underlying40 Try.underlying5 (fun _ => rfl) xs ys hx hy

end Go.Proofs.Ytjmifgdjmaelfaa
