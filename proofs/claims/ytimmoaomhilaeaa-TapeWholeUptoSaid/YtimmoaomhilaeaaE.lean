/- What may be: the closures, the library's ContainsFunc, May. -/
import Derived.Test.YtimmoaomhilaeaaM
namespace Go.Proofs.Ytimmoaomhilaeaa
open Go.RowKit
/-- a heap's box -/
structure BoxH (w : World) (b : Nat) (h : Hp) (A : Option Addr) (c : Nat) : Prop where
  b0 : w.cell? ⟨b, 0, none⟩ = some (.slice A h.objs.length c)
  b1 : w.cell? ⟨b, 1, none⟩ = some (.int .i64 h.cap)
  b2 : w.cell? ⟨b, 2, none⟩ = some (.int .i64 h.last)
theorem BoxH.below {w w' : World} {b : Nat} {h : Hp} {A : Option Addr} {c : Nat} (k : BoxH w b h A c) (hlt : b < w.heap.size) (hb : Below w.heap.size w w') : BoxH w' b h A c :=
  ⟨(hb.cell (p := ⟨b, _, none⟩) hlt).trans k.b0, (hb.cell (p := ⟨b, _, none⟩) hlt).trans k.b1, (hb.cell (p := ⟨b, _, none⟩) hlt).trans k.b2⟩

def noVal (n : Nat) (x : Int) : Bool := !hasB n x
/-- has an object nothing but what its kind has, and not too much of that? -/
def kiB (o : Ob) : Bool :=
  if o.kind = 0 then decide ((o.slots.length : Int) ≤ 64) && decide (o.text.toList = []) && (o.bits == 0)
  else if o.kind = 1 then decide (o.slots = []) && decide ((o.text.size : Int) ≤ 64) && (o.bits == 0)
  else if o.kind = 2 then decide (o.slots = []) && decide (o.text.toList = []) && (o.bits == canon o.bits) else false
/-- may it be in a heap of n objects? -/
def obB (n : Nat) (o : Ob) : Bool := refB n o.cls && haB o.hash && kiB o && o.slots.all (hasB n)
def mayB (h : Hp) : Bool := decide (1 ≤ h.cap ∧ h.cap ≤ 256 ∧ (h.objs.length : Int) ≤ h.cap) && haB h.last && h.objs.all (obB h.objs.length)


theorem ret_bool {a b : Bool} (h : a = b) : Ending.returned (.bool a) = .returned (.bool b) := by rw [h]
theorem IntsR.on {w w' : World} {A : Option Addr} {xs : List Int} (h : IntsR w A xs) (hb : Below w.heap.size w w') : Hid (IntsR w' A xs) := h.below hb
end Go.Proofs.Ytimmoaomhilaeaa
