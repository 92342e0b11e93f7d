/- Numbered primitives, in plain mathematics: what each comes to, of a heap, a receiver and arguments. -/
import Derived.Test.YtkpfmbdkfgeboaaGreatSE9
import Derived.Test.YtkpfmbdkfgeboaaGreatFLU
import Derived.Test.YtkpfmbdkfgeboaaGreatSB
import Derived.Test.YtkpfmbdkfgeboaaGreatB
import Derived.Test.YtkpfmbdkfgeboaaGreatF
namespace Go.Proofs.YtkpfmbdkfgeboaaGreat
open Go.RowKit Flt
/-- a heap, a value, an error: 0 is none -/
abbrev Rs := Hp × Int × Int
def fa13 (h : Hp) : Rs := (h, 0, 130)
def in13 (h : Hp) (n : Int) : Rs := if smB n then (h, 2 * n + 1, 0) else fa13 h

def tv13 (b : Bool) : Int := if b then 2 else 4
def tr13 (h : Hp) (b : Bool) : Rs := (h, tv13 b, 0)
def wh13 (h : Hp) (num s a : Int) : Rs :=
  if nB s = false ∨ nB a = false then fa13 h
  else if num = 1 then in13 h (nV s + nV a)
  else if num = 2 then in13 h (nV s - nV a)
  else if num = 3 then in13 h (nV s * nV a)
  else if num = 4 then (if nV a = 0 then fa13 h else in13 h ((nV s).fdiv (nV a)))
  else if num = 5 then (if nV a = 0 then fa13 h else in13 h (nV s - nV a * (nV s).fdiv (nV a)))
  else if num = 6 then tr13 h (decide (nV s < nV a))
  else tr13 h (decide (nV s = nV a))
def pa13 (h : Hp) (num s a b : Int) : Rs :=
  if num = 10 then (if refB h.objs.length s = false ∨ (obAt h s).kind = 2 then fa13 h else in13 h ((obAt h s).slots.length + (obAt h s).text.size))
  else if nB a = false then fa13 h
  else if num = 8 then (if plE h s 0 (nV a - 1) ≠ 0 then fa13 h else (h, geV h s (nV a - 1), 0))
  else if num = 9 then (if setE h s (nV a - 1) b ≠ 0 then fa13 h else (setR h s (nV a - 1) b, b, 0))
  else if num = 25 then (if plE h s 1 (nV a - 1) ≠ 0 then fa13 h else in13 h (byV h s (nV a - 1)))
  else if nB b = false ∨ sbE h s (nV a - 1) (nV b) ≠ 0 then fa13 h
  else (sbR h s (nV a - 1) (nV b), b, 0)
def al13 (h : Hp) (cl kind size : Int) : Rs :=
  if roE h cl kind size = 0 then (alR h cl kind size, alV h cl kind size, 0) else if roE h cl kind size = 30 then (h, 0, 30) else fa13 h
def fr13 (h : Hp) (num s a : Int) : Rs :=
  if clB9 h s = false then fa13 h
  else if num = 11 then al13 h s 0 (nV (sl9 h s 2))
  else if nB a = false then fa13 h
  else al13 h s (if num = 27 then 1 else 0) (nV a)
/-- a number as a float -/
def fl13 (h : Hp) (v : Int) : Option Int := if nB v then some (fOf (nV v)) else if (obAt h v).kind = 2 then some (obAt h v).bits else none
/-- a heap with a new float -/
def nfH13 (h : Hp) (bits : Int) : Hp := { objs := h.objs ++ [{ newO h 8 2 0 with bits := bits }], cap := h.cap, last := nxI h.last }
def nf13 (h : Hp) (bits : Int) : Rs :=
  if roE h 8 2 0 = 0 then (nfH13 h bits, 2 * (h.objs.length : Int), 0) else if roE h 8 2 0 = 30 then (h, 0, 30) else fa13 h
def ff13 (h : Hp) (num s a : Int) : Rs :=
  match fl13 h s with
  | none => fa13 h
  | some x =>
    if num = 23 then (if tb x then in13 h (fTr x) else fa13 h)
    else if num = 24 then nf13 h x
    else match fl13 h a with
      | none => fa13 h
      | some y => if num = 21 then tr13 h (fLess x y) else if num = 22 then tr13 h (fEqual x y) else nf13 h (fOp (num - 17) x y)
def id13 (h : Hp) (num s a : Int) : Rs :=
  if num = 13 then (h, (lf9 h s).1, 0)
  else if num = 14 then tr13 h (decide (s = a))
  else if num = 15 then (if nB s then (h, s, 0) else in13 h (obAt h s).hash)
  else if atB s = false ∨ atV s < 12 ∨ atB a = false ∨ atV a < 12 then fa13 h
  else (beR h s a, s, 0)
/-- how many arguments it takes -/
def ar13 (num : Int) : Option Nat :=
  if num < 1 ∨ 27 < num then none else if num = 9 ∨ num = 26 then some 2 else if num = 10 ∨ num = 11 ∨ num = 13 ∨ num = 15 ∨ num = 23 ∨ num = 24 then some 0 else some 1
def pr13 (h : Hp) (num s a b : Int) : Rs :=
  if num ≤ 7 then wh13 h num s a
  else if num ≤ 10 ∨ num = 25 ∨ num = 26 then pa13 h num s a b
  else if num ≤ 12 ∨ num = 27 then fr13 h num s a
  else if num ≤ 16 then id13 h num s a
  else ff13 h num s a
def do13 (h : Hp) (num s : Int) (args : List Int) : Rs :=
  if mayB h = false ∨ h.objs.length < 12 ∨ hasB h.objs.length s = false ∨ args.all (hasB h.objs.length) = false then (⟨[], 0, 0⟩, 0, 1)
  else if ar13 num ≠ some args.length then fa13 h
  else pr13 h num s (args.getD 0 0) (args.getD 1 0)
end Go.Proofs.YtkpfmbdkfgeboaaGreat
