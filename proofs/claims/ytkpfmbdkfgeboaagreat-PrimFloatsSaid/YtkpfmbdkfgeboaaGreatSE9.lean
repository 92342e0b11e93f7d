/- What package look answers, in plain mathematics. -/
import Derived.Test.YtkpfmbdkfgeboaaGreatSB9
namespace Go.Proofs.YtkpfmbdkfgeboaaGreat
open Go.RowKit
def lk9 (h : Hp) (c s : Int) : Int × Int × Int := if mayB h then fi9 h s 64 c else (0, 0, 1)
def lf9 (h : Hp) (v : Int) : Int × Int := if mayB h = false then (0, 1) else if nB v then (6, 0) else if refB h.objs.length v then ((obAt h v).cls, 0) else (0, 31)
theorem lk9_may {h : Hp} (hm : mayB h = true) (c s : Int) : lk9 h c s = fi9 h s 64 c := by unfold lk9; rw [if_pos hm]
end Go.Proofs.YtkpfmbdkfgeboaaGreat
