/- Rows of ints of the call's own, several in one world: an empty one, appended to, is a new block, or is as it was. -/
import Derived.Test.YtimmoaomhilaeaaMA16
namespace Go.Proofs.Ytimmoaomhilaeaa
open Go.RowKit
set_option maxRecDepth 100000
theorem own_rebase16 {w : World} {base g n c size : Nat} {e : TypeId} {xs : List Value} (h : w.ownsRow base e size (.slice (some ⟨g, 0, none⟩) n c) n xs) : w.ownsRow g e size (.slice (some ⟨g, 0, none⟩) n c) n xs := by
  refine ⟨h.1, ?_⟩
  rcases h.2 with hn | ⟨g2, cap, cur, hv, _, hr⟩
  · cases hn.1
  · cases hv; exact .inr ⟨g, c, cur, rfl, Nat.le_refl _, hr⟩
theorem own_lies16 {w : World} {b base : Nat} (h : Lies w b 3 #[]) (hb : base ≤ b) : w.ownsRow base 3 1 (.slice (some ⟨b, 0, none⟩) 0 0) 0 (([] : List Int).map (Value.int .i64)) :=
  ⟨rfl, .inr ⟨b, 0, #[], rfl, hb, h, Nat.le_refl _, by unfold maxLen; omega, rfl, rfl⟩⟩
/-- an empty row, appended to: a new block, all else as it was -/
theorem app_new16 (w : World) (b : Nat) (hb : Lies w b 3 #[]) (xs : List Int) (A : Option Addr) (c : Nat) (hr : IntsR w A xs) (h0 : 0 < xs.length) (hl : xs.length ≤ 1048576) :
    ∃ c' cs, (Builtin.append_ #[22, 22] 22 #[.slice (some ⟨b, 0, none⟩) 0 0, .slice A xs.length c]).run Try.prog w = .ok (.slice (some ⟨w.heap.size, 0, none⟩) xs.length c') (w.drew.alloc (.cells cs 3)) ∧
      (w.drew.alloc (.cells cs 3)).ownsRow w.heap.size 3 1 (.slice (some ⟨w.heap.size, 0, none⟩) xs.length c') xs.length (xs.map (Value.int .i64)) := by
  obtain ⟨v1, w1, r1, o1, -⟩ := run_app_ints16 w b _ 0 [] (own_lies16 hb (Nat.le_refl _)) A c xs hr (fun e => by obtain ⟨_, _, e2, _⟩ := hr h0; rw [e] at e2; cases e2) (by omega) (Nat.le_of_lt hb.lt)
  obtain ⟨i0, hi0, hz0, hz1, hz2⟩ := info_parts int_info
  obtain ⟨bs, os, rfl, hbs, hcs⟩ := hr h0
  have r2 := run_append_grow (P := Try.prog) (w := w) 22 22 3 i0 (.int .i64 0) Try.underlying22 hi0 hz0 ⟨b, 0, none⟩ 0 0 [] (by simp) (by intro j v h; cases h) ⟨bs, os, none⟩ xs.length c (xs.map (Value.int .i64)) (by rw [hz1]; simp) (by
    intro j u hj
    rw [List.getElem?_map] at hj
    cases hx : xs[j]? with
    | none => rw [hx] at hj; cases hj
    | some x => rw [hx] at hj; cases hj; rw [Addr.add_lit]; exact hcs j x hx) (by omega) (by omega) (by
      rw [hz2]
      have := nextslicecap_le (need := 0 + xs.length) (old := 0) (by omega)
      omega)
  rw [Nat.zero_add] at r2
  rw [r2] at r1
  injection r1 with e1 e2
  subst e1 e2
  rw [Nat.zero_add, List.nil_append] at o1
  exact ⟨_, _, r2, own_rebase16 o1⟩
/-- nothing, appended to an empty row: all is as it was -/
theorem app_none16 (w : World) (b : Nat) (hb : Lies w b 3 #[]) (A : Option Addr) (c : Nat) (hn : A = none → c = 0) :
    ∃ v', (Builtin.append_ #[22, 22] 22 #[.slice (some ⟨b, 0, none⟩) 0 0, .slice A 0 c]).run Try.prog w = .ok v' w ∧ v' = .slice (some ⟨b, 0, none⟩) 0 0 := by
  obtain ⟨i0, hi0, hz0, hz1, hz2⟩ := info_parts int_info
  cases A with
  | none =>
    rw [hn rfl]
    exact ⟨_, run_append_owned_none (P := Try.prog) (w := w) b 22 22 3 i0 1 Try.underlying22 hi0 _ 0 _ (own_lies16 hb (Nat.le_refl _)), rfl⟩
  | some ad =>
    have hf := run_firstCells_some (P := Try.prog) w i0.size 0 ad 0 c [] (by simp) (by intro j v h; cases h)
    refine ⟨_, ?_, rfl⟩
    simp [Builtin.append_, run_underlying (P := Try.prog) Try.underlying22, sizeOf, typeInfo, hi0, Builtin.lenOf, hf, storeCells]
/-- an empty row, appended to: all that was is as it was; what it is now, is a block of its own, or it is the empty one -/
theorem app_any16 (w : World) (b : Nat) (hb : Lies w b 3 #[]) (xs : List Int) (A : Option Addr) (c : Nat) (hr : IntsR w A xs) (hn : A = none → c = 0) (hl : xs.length ≤ 1048576) :
    ∃ g c' w', (Builtin.append_ #[22, 22] 22 #[.slice (some ⟨b, 0, none⟩) 0 0, .slice A xs.length c]).run Try.prog w = .ok (.slice (some ⟨g, 0, none⟩) xs.length c') w' ∧
      Below w.heap.size w w' ∧ (g = b ∨ w.heap.size ≤ g) ∧ w'.ownsRow g 3 1 (.slice (some ⟨g, 0, none⟩) xs.length c') xs.length (xs.map (Value.int .i64)) := by
  by_cases h0 : 0 < xs.length
  · obtain ⟨c', cs, r, o⟩ := app_new16 w b hb xs A c hr h0 hl
    exact ⟨_, c', _, r, dt16 (Below.refl _ _).drew (below_alloc _ _), .inr (Nat.le_refl _), o⟩
  · have e : xs = [] := List.eq_nil_of_length_eq_zero (by omega)
    subst e
    obtain ⟨v', r, rfl⟩ := app_none16 w b hb A c hn
    exact ⟨b, 0, w, r, Below.refl _ _, .inl rfl, own_lies16 hb (Nat.le_refl _)⟩
theorem wpList_append_run16 {P : Program} {w : World} {ops : Array Oper} {rest : List Oper} {o : Oper} {a : Act} {Q : Exit → Act → World → Prop} (hgd : o.guard = none) (s x : Operand) (t : TypeId)
    (ho : o.op = .call { callee := .builtin .append, args := #[s, x], argTypes := #[t, t] }) (v1 : Value) (w1 : World) (hrun : (Builtin.append_ #[t, t] o.type #[a.eval s, a.eval x]).run P w = .ok v1 w1)
    (h : wpList P ops Q rest (a.put o.dst v1) w1) : wpList P ops Q (o :: rest) a w :=
  wpList_plain hgd fun _ hK => wp_append_run16 s x t ho v1 w1 hrun (hK _ _ h)
theorem ints_lies16 {w : World} {b : Nat} {x : Int} (h : Lies w b 3 #[.int .i64 x]) : IntsR w (some ⟨b, 0, none⟩) [x] := fun _ => by
  refine ⟨b, 0, rfl, h.lt, fun j y hj => ?_⟩
  cases j with
  | zero => cases hj; exact h.cell 0
  | succ j => cases hj
theorem lies_grown16 {w w2 : World} {row : Option Nat} {g : Nat} {t : TypeId} {cs : Array Value} (h2 : w.grownBy w2 row) (hl : Lies w g t cs) (hne : row ≠ some g) : Lies w2 g t cs := by
  show w2.heap[g]? = _
  rw [h2.block g hl.lt (fun e => hne e.symm)]; exact hl
/-- a slice without its first, of ints that are read -/
theorem IntsR.tail16 {w : World} {b o : Nat} {xs : List Int} (h : IntsR w (some ⟨b, o, none⟩) xs) : IntsR w (some ⟨b, o + 1, none⟩) (xs.drop 1) := fun h0 => by
  rw [List.length_drop] at h0
  obtain ⟨b2, o2, e, hlt, hc⟩ := h (by omega)
  cases e
  refine ⟨b, o + 1, rfl, hlt, fun j x hj => ?_⟩
  rw [List.getElem?_drop] at hj
  rw [Nat.add_assoc]
  exact hc _ x hj
end Go.Proofs.Ytimmoaomhilaeaa
