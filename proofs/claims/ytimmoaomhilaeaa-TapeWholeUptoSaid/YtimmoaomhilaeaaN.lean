/- Small: whatever a heap has, it answers. -/
import Derived.Test.YtimmoaomhilaeaaS
namespace Go.Proofs.Ytimmoaomhilaeaa
open Go.RowKit
def SomeBool (w : World) (e : Ending) (w' : World) : Prop := ∃ b, e = .returned (.bool b) ∧ Below w.heap.size w w'
end Go.Proofs.Ytimmoaomhilaeaa
