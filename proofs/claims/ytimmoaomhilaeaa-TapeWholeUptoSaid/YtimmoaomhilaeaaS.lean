/- The document's words Same, One, Small: of what reads as the same, that it is the same; of a heap, whether it is small. -/
import Derived.Test.YtimmoaomhilaeaaK
namespace Go.Proofs.Ytimmoaomhilaeaa
open Go.RowKit
/-- an object's box -/
structure BoxO (w : World) (b : Nat) (o : Ob) (S : Option Addr) (d : Nat) : Prop where
  b0 : w.cell? ⟨b, 0, none⟩ = some (.int .i64 o.cls)
  b1 : w.cell? ⟨b, 1, none⟩ = some (.int .i64 o.kind)
  b2 : w.cell? ⟨b, 2, none⟩ = some (.slice S o.slots.length d)
  b3 : w.cell? ⟨b, 3, none⟩ = some (.string o.text)
  b4 : w.cell? ⟨b, 4, none⟩ = some (.int .i64 o.bits)
  b5 : w.cell? ⟨b, 5, none⟩ = some (.int .i64 o.hash)
theorem BoxO.later {w w' : World} {b : Nat} {o : Ob} {S : Option Addr} {d : Nat} (k : BoxO w b o S d) (hb : Below w.heap.size w w') : BoxO w' b o S d :=
  ⟨cell_later hb k.b0, cell_later hb k.b1, cell_later hb k.b2, cell_later hb k.b3, cell_later hb k.b4, cell_later hb k.b5⟩
theorem BoxH.later {w w' : World} {b : Nat} {h : Hp} {A : Option Addr} {c : Nat} (k : BoxH w b h A c) (hb : Below w.heap.size w w') : BoxH w' b h A c :=
  ⟨cell_later hb k.b0, cell_later hb k.b1, cell_later hb k.b2⟩
theorem below_drewN (w : World) (n : Nat) : Below w.heap.size w (w.drewN n) := ⟨rfl, rfl, rfl, Nat.le_refl _, fun _ _ => rfl⟩
theorem below_go {B : Nat} {w0 w w' : World} (h : Below B w0 w) (hB : B ≤ w.heap.size) (hb : Below w.heap.size w w') : Below B w0 w' := h.trans (hb.mono hB)

def ObSame (w : World) (b off : Nat) (S : Option Addr) (d : Nat) (o : Ob) : Prop := ObC w b off S d o ∧ IntsR w S o.slots
end Go.Proofs.Ytimmoaomhilaeaa
