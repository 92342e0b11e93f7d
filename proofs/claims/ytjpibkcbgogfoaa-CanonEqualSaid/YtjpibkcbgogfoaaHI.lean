/- A heap, a list of ints and an error, told. -/
import Derived.Test.YtjpibkcbgogfoaaU
namespace Go.Proofs.Ytjpibkcbgogfoaa
open Go.RowKit
/-- a heap, a list of ints and an error are returned -/
def HeapInts (w : World) (h' : Hp) (L : List Int) (en : Int) (e : Ending) (w' : World) : Prop :=
  ∃ A c R d, e = .returned (.tuple #[.agg #[.slice A h'.objs.length c, .int .i64 h'.cap, .int .i64 h'.last], .slice R L.length d, .int .i64 en]) ∧ ObsR w' A h'.objs ∧ IntsR w' R L ∧ Below w.heap.size w w'
theorem far_cell5 {w : World} {g j g' o : Nat} {u v : Value} (hne : g' ≠ g) (h : w.cell? ⟨g', o, none⟩ = some v) : (w.setCell ⟨g, j, none⟩ u).cell? ⟨g', o, none⟩ = some v :=
  (World.cell?_setCell_other _ _ _ _ (by intro e; injection e with e1; exact hne e1.symm)).trans h
end Go.Proofs.Ytjpibkcbgogfoaa
