/- Heaps that may be are small. -/
import Derived.Test.YtcahdhocilmoeaaU
import Derived.Test.YtcahdhocilmoeaaL
namespace Go.Proofs.Ytcahdhocilmoeaa
open Go.RowKit
theorem fitZ : zeroH.Fit := ⟨Nat.zero_le _, fun o ho => by simp [zeroH] at ho⟩
theorem may_fit {h : Hp} (hm : mayB h = true) : h.Fit :=
  ⟨by have := may_len hm; omega, fun o ho => by have := (kind_len (ob_kind (may_all hm o ho))).1; show o.slots.length ≤ _; omega⟩
end Go.Proofs.Ytcahdhocilmoeaa
