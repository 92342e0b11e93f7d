/- Heaps of objects as plain data, and how they lie in memory. -/
import Derived.Test.YtimmoaomhilaeaaV
import Derived.Deep.RegionHeld3
import Derived.Deep.RegionWith
namespace Go.Proofs.Ytimmoaomhilaeaa
open Go.RowKit

structure Ob where
  cls : Int
  kind : Int
  slots : List Int
  text : ByteArray
  bits : Int
  hash : Int

structure Hp where
  objs : List Ob
  cap : Int
  last : Int

/-- a slice of ints at address A reads as xs -/
def IntsR (w : World) (A : Option Addr) (xs : List Int) : Prop :=
  0 < xs.length → ∃ b o, A = some ⟨b, o, none⟩ ∧ b < w.heap.size ∧ ∀ j x, xs[j]? = some x → w.cell? ⟨b, o + j, none⟩ = some (.int .i64 x)

/-- six cells from off on hold the object -/
structure ObC (w : World) (b off : Nat) (S : Option Addr) (c : Nat) (o : Ob) : Prop where
  c0 : w.cell? ⟨b, off, none⟩ = some (.int .i64 o.cls)
  c1 : w.cell? ⟨b, off + 1, none⟩ = some (.int .i64 o.kind)
  c2 : w.cell? ⟨b, off + 2, none⟩ = some (.slice S o.slots.length c)
  c3 : w.cell? ⟨b, off + 3, none⟩ = some (.string o.text)
  c4 : w.cell? ⟨b, off + 4, none⟩ = some (.int .i64 o.bits)
  c5 : w.cell? ⟨b, off + 5, none⟩ = some (.int .i64 o.hash)

/-- a slice of objects at address A reads as os -/
def ObsR (w : World) (A : Option Addr) (os : List Ob) : Prop :=
  0 < os.length → ∃ b off, A = some ⟨b, off, none⟩ ∧ b < w.heap.size ∧
    ∀ i o, os[i]? = some o → ∃ S c, ObC w b (off + i * 6) S c o ∧ IntsR w S o.slots ∧ o.slots.length ≤ c ∧ (S = none → c = 0)

/-- lengths are lengths -/
def Ob.Fit (o : Ob) : Prop := o.slots.length ≤ 9223372036854775807
def Hp.Fit (h : Hp) : Prop := h.objs.length ≤ 9223372036854775807 ∧ ∀ o ∈ h.objs, o.Fit

theorem IntsR.below {w w' : World} {A : Option Addr} {xs : List Int} (h : IntsR w A xs) (hb : Below w.heap.size w w') : IntsR w' A xs := fun hn => by
  obtain ⟨b, o, e, hlt, hc⟩ := h hn
  exact ⟨b, o, e, Nat.lt_of_lt_of_le hlt hb.size, fun j x hx => (hb.cell (p := ⟨b, o + j, none⟩) hlt).trans (hc j x hx)⟩
theorem ObC.below {w w' : World} {b off : Nat} {S : Option Addr} {c : Nat} {o : Ob} (h : ObC w b off S c o) (hlt : b < w.heap.size) (hb : Below w.heap.size w w') : ObC w' b off S c o :=
  ⟨(hb.cell (p := ⟨b, _, none⟩) hlt).trans h.c0, (hb.cell (p := ⟨b, _, none⟩) hlt).trans h.c1, (hb.cell (p := ⟨b, _, none⟩) hlt).trans h.c2,
    (hb.cell (p := ⟨b, _, none⟩) hlt).trans h.c3, (hb.cell (p := ⟨b, _, none⟩) hlt).trans h.c4, (hb.cell (p := ⟨b, _, none⟩) hlt).trans h.c5⟩
theorem ObsR.below {w w' : World} {A : Option Addr} {os : List Ob} (h : ObsR w A os) (hb : Below w.heap.size w w') : ObsR w' A os := fun hn => by
  obtain ⟨b, o, e, hlt, hc⟩ := h hn
  refine ⟨b, o, e, Nat.lt_of_lt_of_le hlt hb.size, fun i ob hi => ?_⟩
  obtain ⟨S, c, h1, h2, h3⟩ := hc i ob hi
  exact ⟨S, c, h1.below hlt hb, h2.below hb, h3⟩


/-- the ref's object's number, or -1; is there one; is that a value of the heap; may a number be a hash; the next one -/
def refB (n : Nat) (v : Int) : Bool := atB v && decide (atV v < n)
def refV (n : Nat) (v : Int) : Int := if refB n v then atV v else 0
def refI (n : Nat) (v : Int) : Int := if refB n v then atV v else -1
def hasB (n : Nat) (v : Int) : Bool := nB v || refB n v
def haB (v : Int) : Bool := decide (0 ≤ v ∧ v < 1073741824)
def nxI (v : Int) : Int := if haB v then (v * 69069 + 12345) % 1073741824 else 0

theorem refB_no {n : Nat} {v : Int} (h : refB n v = true) : atB v = true ∧ 0 ≤ atV v ∧ atV v < n := by
  unfold refB at h
  simp only [Bool.and_eq_true, decide_eq_true_eq] at h
  exact ⟨h.1, (atV_lt h.1).1, h.2⟩
theorem refI_nonneg {n : Nat} {v : Int} (h : refB n v = true) : refI n v = atV v := by unfold refI; rw [if_pos h]

end Go.Proofs.Ytimmoaomhilaeaa
