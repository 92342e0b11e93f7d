/- What the callers of the iterator lean on. -/
import Derived.Test.YtcahdhocilmoeaaTF9
import Derived.RangeFuncFrom
namespace Go.Proofs.Ytcahdhocilmoeaa
open Go.RowKit Go.Shelf
theorem keeps_below9 {w w' : World} (hb : Below w.heap.size w w') : KeepsOthers w w' := ⟨hb.size, fun r _ h _ => (hb.block r (Array.getElem?_eq_some_iff.1 h).1).trans h⟩
theorem gu9_snoc (d : Int) (l : List (Int × Bool)) (x : Int × Bool) : gu9 d (l ++ [x]) = (gu9 d l || (x.2 && decide (x.1 = d))) := by unfold gu9; rw [List.any_append]; simp
end Go.Proofs.Ytcahdhocilmoeaa
