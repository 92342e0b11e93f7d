/- Three stores into a box. -/
import Derived.Test.YtkpfmbdkfgeboaaGreatH0
namespace Go.Proofs.YtkpfmbdkfgeboaaGreat
open Go.RowKit
theorem Lies.s3 {w : World} {g : Nat} {t : TypeId} {a0 b0 c0 : Value} (h : Lies w g t #[a0, b0, c0]) (x y z : Value) :
    (((w.setCell ⟨g, 0, none⟩ x).setCell ⟨g, 1, none⟩ y).setCell ⟨g, 2, none⟩ z).cell? ⟨g, 0, none⟩ = some x ∧ (((w.setCell ⟨g, 0, none⟩ x).setCell ⟨g, 1, none⟩ y).setCell ⟨g, 2, none⟩ z).cell? ⟨g, 1, none⟩ = some y ∧ (((w.setCell ⟨g, 0, none⟩ x).setCell ⟨g, 1, none⟩ y).setCell ⟨g, 2, none⟩ z).cell? ⟨g, 2, none⟩ = some z := by
  have K0 := ((h.set_ 0 x).set_ 1 y).set_ 2 z
  exact ⟨K0.cell 0, K0.cell 1, K0.cell 2⟩
theorem below_s3 {n g : Nat} {w w' : World} (h : Below n w w') (hg : n ≤ g) (x y z : Value) : Below n w (((w'.setCell ⟨g, 0, none⟩ x).setCell ⟨g, 1, none⟩ y).setCell ⟨g, 2, none⟩ z) :=
  ((h.setCell (p := ⟨g, 0, none⟩) hg x).setCell (p := ⟨g, 1, none⟩) hg y).setCell (p := ⟨g, 2, none⟩) hg z
end Go.Proofs.YtkpfmbdkfgeboaaGreat
