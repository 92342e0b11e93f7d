/- The document's answers on what may be, what is wrong with a place, and what is read there. -/
import Derived.Test.YtimmoaomhilaeaaD
import Derived.Test.YtimmoaomhilaeaaI0
namespace Go.Proofs.Ytimmoaomhilaeaa
open Go.RowKit
theorem ret_int {a b : Int} (h : a = b) : Ending.returned (.int .i64 a) = .returned (.int .i64 b) := by rw [h]
end Go.Proofs.Ytimmoaomhilaeaa
