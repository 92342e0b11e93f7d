/- append of marks to a row of the call's own. -/
import Derived.Test.YtjpibkcbgogfoaaNB
import Derived.Test.YtjpibkcbgogfoaaAP
namespace Go.Proofs.Ytjpibkcbgogfoaa
open Go.RowKit
set_option maxRecDepth 100000
theorem bools_none {w : World} {S : Option Addr} {xs : List Bool} (h : BoolsR w S xs) (hS : S = none) : xs = [] := by
  cases xs with
  | nil => rfl
  | cons x t => obtain ⟨b, o, e, _⟩ := h (by simp); rw [hS] at e; cases e
theorem wpList_append_bools {w : World} {ops : Array Oper} {rest : List Oper} {o : Oper} {a : Act} {Q : Exit → Act → World → Prop} (hgd : o.guard = none) (s x : Operand)
    (ho : o.op = .call { callee := .builtin .append, args := #[s, x], argTypes := #[91, 91] })
    (base : Nat) (v : Value) (n : Nat) (ys : List Bool) (hs : a.eval s = v) (hown : w.ownsRow base 4 1 v n (ys.map Value.bool))
    (S : Option Addr) (c k : Nat) (xs : List Bool) (hk : xs.length = k) (hx : a.eval x = .slice S k c) (hr : BoolsR w S xs) (hn : S = none → c = 0)
    (h63 : n + xs.length ≤ 1000000) (hbase : base ≤ w.heap.size)
    (h : ∀ v' w', w'.ownsRow base 4 1 v' (n + k) ((ys ++ xs).map Value.bool) → w.grownBy w' v.ownBlock → wpList Try.prog ops Q rest (a.put o.dst v') w') : wpList Try.prog ops Q (o :: rest) a w := by
  subst hk
  obtain ⟨i0, hi0, hz0, hz1, hz2⟩ := info_parts bool_info
  cases S with
  | none =>
    have hx0 := bools_none hr rfl
    subst hx0
    rw [hn rfl] at hx
    refine wpList_append_own_none hgd s x 91 ho base 4 i0 1 Try.underlying91 hi0 v n _ hs hown hx ?_
    exact h v w (by simpa using hown) (grown_refl _ _)
  | some ad =>
    refine wpList_append_own _ hgd s x 91 ho base 4 i0 (.bool false) 1 1 Try.underlying91 hi0 hz0 hz1 hz2 rfl (by decide) v n _ hs hown ad xs.length c (xs.map Value.bool) hx (by simp) ?_ ?_ (by unfold maxLen; omega) (by omega) hbase (fun v' w' h1 h2 _ => h v' w' (by simpa using h1) h2)
    · intro j u hj
      have hjn : j < xs.length := by have := (List.getElem?_eq_some_iff.1 hj).1; simpa using this
      obtain ⟨b, o, e, hlt, hc⟩ := hr (by omega)
      cases e
      have := hc j xs[j] (List.getElem?_eq_getElem hjn)
      rw [List.getElem?_map, List.getElem?_eq_getElem hjn] at hj
      cases hj
      rw [Addr.add_lit]
      exact this
    · intro u hu; obtain ⟨x, _, rfl⟩ := List.mem_map.1 hu; rfl
theorem own_no_bools (w : World) : (w.alloc (.cells #[] 4)).ownsRow w.heap.size 4 1 (.slice (some ⟨w.heap.size, 0, none⟩) 0 0) 0 (([] : List Bool).map Value.bool) := by
  have := World.ownsRow_made (e := 4) (size := 1) (base := w.heap.size) w #[] 0 (Nat.le_refl _) (Nat.zero_le _) rfl
  simpa using this
theorem map_set (l : List Bool) (i : Nat) (x : Bool) : (l.map Value.bool).set i (.bool x) = (l.set i x).map Value.bool := by rw [List.map_set]
theorem frozen_later {w w' : World} {b : Nat} {o : Nat} (hb : Below w.heap.size w w') (hlt : b < w.heap.size) (h : w.frozen? ⟨b, o, none⟩ = false) : w'.frozen? ⟨b, o, none⟩ = false := (hb.frozen (p := ⟨b, o, none⟩) hlt).trans h
end Go.Proofs.Ytjpibkcbgogfoaa
