/- The heap of a call's own: one process's next is set, in place. -/
import Derived.Test.YtkpfmbdkfgeboaaPF14
namespace Go.Proofs.Ytkpfmbdkfgeboaa
open Go.RowKit
set_option maxRecDepth 100000
/-- the blocks of slots of a heap of the call's own -/
def Wr14 (ls : List LO) (g : Nat) : Prop := ∃ l ∈ ls, ∃ a : Addr, l.S = some a ∧ a.block = g
/-- all cells but those of these blocks are as they were -/
structure Kp14 (Wr : Nat → Prop) (w w' : World) : Prop where
  size : w.heap.size ≤ w'.heap.size
  kept : ∀ (k : Nat) (cs : Array Value) (t : TypeId) (z : Nat × Nat), w.heap[k]? = some (.cells cs t z) → ¬ Wr k → w'.heap[k]? = some (.cells cs t z)
theorem Kp14.refl (Wr : Nat → Prop) (w : World) : Kp14 Wr w w := ⟨Nat.le_refl _, fun _ _ _ _ h _ => h⟩
theorem Kp14.trans {Wr : Nat → Prop} {a b c : World} (h : Kp14 Wr a b) (k : Kp14 Wr b c) : Kp14 Wr a c := ⟨Nat.le_trans h.size k.size, fun i cs t z hi hn => k.kept i cs t z (h.kept i cs t z hi hn) hn⟩
theorem Kp14.of_below {Wr : Nat → Prop} {w w' : World} (h : Below w.heap.size w w') : Kp14 Wr w w' := ⟨h.size, fun k _ _ _ hk _ => (h.block k (Array.getElem?_eq_some_iff.1 hk).1).trans hk⟩
theorem Kp14.set_ {Wr : Nat → Prop} {w : World} {g : Nat} (hg : Wr g) (o : Nat) (u : Value) : Kp14 Wr w (w.setCell ⟨g, o, none⟩ u) :=
  ⟨by simp, fun k _ _ _ hk hn => (Below.heap_setCell w ⟨g, o, none⟩ u k (fun e => hn (by cases e; exact hg))).trans hk⟩
theorem Kp14.lies {Wr : Nat → Prop} {w w' : World} (h : Kp14 Wr w w') {g : Nat} {t : TypeId} {cs : Array Value} (hl : Lies w g t cs) (hn : ¬ Wr g) : Lies w' g t cs := h.kept g cs t (0, 0) hl hn
end Go.Proofs.Ytkpfmbdkfgeboaa
