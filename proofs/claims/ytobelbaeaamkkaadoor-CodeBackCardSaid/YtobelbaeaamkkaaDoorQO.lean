/- A text as an argument, opened. -/
import Derived.Test.YtobelbaeaamkkaaDoorRows
import Derived.ShutString
import Derived.ProofKit
import Derived.OpenShut
namespace Go.Proofs.YtobelbaeaamkkaaDoor
open Go.RowKit Go.WideShapes
set_option maxRecDepth 100000
theorem open_str {w : World} {base : Nat} {t : TypeId} {v : Value} (ht : Tryd.prog.underlying t = some .string) (h : Value.okWide Tryd.prog w .any base t v) : ∃ s, v = .string s ∧ s.size ≤ 9223372036854775807 := by
  obtain ⟨s, rfl⟩ := okWide_string ht h
  refine ⟨s, rfl, ?_⟩
  have h2 : IntKind.i64.max = 9223372036854775807 := rfl
  have h3 : (s.size : Int) ≤ IntKind.i64.max := by
    simpa [Value.okWide, Cell.okWide, Cell.ok, ht] using h
  omega
end Go.Proofs.YtobelbaeaamkkaaDoor
