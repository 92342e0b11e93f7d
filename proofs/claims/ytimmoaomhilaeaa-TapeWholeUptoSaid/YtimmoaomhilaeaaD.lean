/- The document's answers on what may be: obj, May. -/
import Derived.Test.YtimmoaomhilaeaaS
import Derived.Deep.DeepCutAuto
namespace Go.Proofs.Ytimmoaomhilaeaa
open Go.RowKit
theorem size_nil {s : ByteArray} (h : s.toList = []) : s.size = 0 := by
  rw [ByteArray.toList_eq] at h
  have := congrArg List.length h
  rw [Array.length_toList] at this
  exact this
end Go.Proofs.Ytimmoaomhilaeaa
