/- What may be, of a whole heap: IndexFunc and ContainsFunc over objects, heap.May. -/
import Derived.Test.YtimmoaomhilaeaaE
import Derived.Laws.EntriesVeiled
namespace Go.Proofs.Ytimmoaomhilaeaa
open Go.RowKit
theorem Hp.Fit.slots {h : Hp} (f : h.Fit) {o : Ob} (ho : o ∈ h.objs) : o.slots.length ≤ 9223372036854775807 := f.2 o ho
end Go.Proofs.Ytimmoaomhilaeaa
