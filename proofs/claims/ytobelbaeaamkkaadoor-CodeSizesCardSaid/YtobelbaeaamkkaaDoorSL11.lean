/- What the laws on wider numbers, and on sizes, lean on. -/
import Derived.Test.YtobelbaeaamkkaaDoorSE11
import Derived.Test.YtobelbaeaamkkaaDoorSK11
namespace Go.Proofs.YtobelbaeaamkkaaDoor
open Go.RowKit
set_option maxRecDepth 100000
theorem ck_zero11 {l : List In} {lits temps : Int} : ck11 l lits temps = 0 ↔ all11 l = true ∧ l.any (bad11 l.length lits temps) = false ∧ end11 l = true := by
  unfold ck11
  cases all11 l <;> cases l.any (bad11 l.length lits temps) <;> cases end11 l <;> simp
theorem bad_more11 {n n' a a' b b' : Int} (h1 : n ≤ n') (h2 : a ≤ a') (h3 : b ≤ b') {x : In} (h : bad11 n a b x = false) : bad11 n' a' b' x = false := by
  unfold bad11 at h ⊢
  split at h
  · next q => rw [if_pos q]; simp at h ⊢; omega
  next q1 => rw [if_neg q1]; split at h
             · next q => rw [if_pos q]; simp at h ⊢; omega
             next q2 => rw [if_neg q2]; split at h
                        · next q => rw [if_pos q]; simp at h ⊢; omega
                        next q3 => rw [if_neg q3]; split at h
                                   · next q => rw [if_pos q]; exact h
                                   next q4 => rw [if_neg q4]; split at h
                                              · next q => rw [if_pos q]; exact h
                                              next q5 => rw [if_neg q5]; split at h
                                                         · next q => rw [if_pos q]; simp at h ⊢; omega
                                                         · next q => rw [if_neg q]
theorem any_more11 {n n' a a' b b' : Int} (h1 : n ≤ n') (h2 : a ≤ a') (h3 : b ≤ b') {l : List In} (h : l.any (bad11 n a b) = false) : l.any (bad11 n' a' b') = false := by
  rw [List.any_eq_false] at h ⊢
  intro x hx
  have := h x hx
  have := bad_more11 h1 h2 h3 (x := x) (by simpa using this)
  simpa using this
/-- more literals, more temporaries -/
theorem ck_more11 {l : List In} {a b a' b' : Int} (h2 : a ≤ a') (h3 : b ≤ b') (h : ck11 l a b = 0) : ck11 l a' b' = 0 := by
  obtain ⟨h4, h5, h6⟩ := ck_zero11.1 h
  exact ck_zero11.2 ⟨h4, any_more11 (Int.le_refl _) h2 h3 h5, h6⟩
/-- one behind that does not end it -/
theorem ck_dup11 (l : List In) (a b : Int) : ck11 (l ++ [⟨7, 0⟩]) a b = 110 := by
  refine ck_end11 ?_
  unfold end11
  rw [List.getLast?_concat]; rfl
/-- one behind that ends it -/
theorem ck_return11 {l : List In} {a b : Int} (h32 : l.length < 32) (h : ck11 l a b = 0) : ck11 (l ++ [⟨14, 0⟩]) a b = 0 := by
  obtain ⟨h4, h5, h6⟩ := ck_zero11.1 h
  refine ck_zero11.2 ⟨?_, ?_, ?_⟩
  · refine all_is11 (fun x hx => ?_) (by rw [List.length_append]; show _ + 1 ≤ _; omega)
    rcases List.mem_append.1 hx with hx | hx
    · exact all_may11 h4 x hx
    · rw [List.mem_singleton] at hx; rw [hx]; decide
  · rw [List.any_append, any_more11 (n := l.length) (by rw [List.length_append]; show (l.length : Int) ≤ ((l.length + 1 : Nat) : Int); omega) (Int.le_refl _) (Int.le_refl _) h5]
    simp [bad11]
  · unfold end11
    rw [List.getLast?_concat]; rfl
/-- an append behind a guard that says yes -/
theorem wpList_append_want11 {P : Program} {w : World} {ops : Array Oper} {rest : List Oper} {o : Oper} {a : Act} {Q : Exit → Act → World → Prop} (hw : Region.wanted o (yielded ops a.tmps) = true) (s x : Operand) (t : TypeId)
    (ho : o.op = .call { callee := .builtin .append, args := #[s, x], argTypes := #[t, t] }) (v1 : Value) (w1 : World) (hrun : (Builtin.append_ #[t, t] o.type #[a.eval s, a.eval x]).run P w = .ok v1 w1)
    (h : wpList P ops Q rest (a.put o.dst v1) w1) : wpList P ops Q (o :: rest) a w :=
  BigFrame.wpList_want hw fun _ hK => wp_append_run11 s x t ho v1 w1 hrun (hK _ _ h)
theorem wpList_append_want12 {P : Program} {w : World} {ops : Array Oper} {rest : List Oper} {o : Oper} {a : Act} {Q : Exit → Act → World → Prop} (hw : Region.wanted o (yielded ops a.tmps) = true) (s x : Operand) (t ty : TypeId)
    (ho : o.op = .call { callee := .builtin .append, args := #[s, x], argTypes := #[t, t] }) (hty : o.type = ty) (vs vx : Value) (hs : a.eval s = vs) (hx : a.eval x = vx) (v1 : Value) (w1 : World) (hrun : (Builtin.append_ #[t, t] ty #[vs, vx]).run P w = .ok v1 w1)
    (h : wpList P ops Q rest (a.put o.dst v1) w1) : wpList P ops Q (o :: rest) a w := by
  subst hty hs hx
  exact wpList_append_want11 hw s x t ho v1 w1 hrun h
theorem wpList_append_run12 {P : Program} {w : World} {ops : Array Oper} {rest : List Oper} {o : Oper} {a : Act} {Q : Exit → Act → World → Prop} (hgd : o.guard = none) (s x : Operand) (t ty : TypeId)
    (ho : o.op = .call { callee := .builtin .append, args := #[s, x], argTypes := #[t, t] }) (hty : o.type = ty) (vs vx : Value) (hs : a.eval s = vs) (hx : a.eval x = vx) (v1 : Value) (w1 : World) (hrun : (Builtin.append_ #[t, t] ty #[vs, vx]).run P w = .ok v1 w1)
    (h : wpList P ops Q rest (a.put o.dst v1) w1) : wpList P ops Q (o :: rest) a w := by
  subst hty hs hx
  exact wpList_append_run11 hgd s x t ho v1 w1 hrun h
/-- a list of instructions more -/
theorem own_appl11 {w0 w : World} {v : Value} {l : List In} (h : w.ownsRow w0.heap.size 34 2 v l.length (l.flatMap in211)) (m : List In) (S : Option Addr) (c : Nat) (hm : InsR w S m) (hS : S = none → c = 0) (hl : l.length ≤ 1000000) (hl2 : m.length ≤ 1000000) (hb : Below w0.heap.size w0 w) :
    ∃ v' w', (Builtin.append_ #[22, 22] 22 #[v, .slice S m.length c]).run Tryd.prog w = .ok v' w' ∧ w'.ownsRow w0.heap.size 34 2 v' (l ++ m).length ((l ++ m).flatMap in211) ∧ Below w0.heap.size w0 w' := by
  obtain ⟨i0, hi0, hz0, hz1, hz2⟩ := info_parts instr_info11
  cases S with
  | none =>
    have hm0 : m = [] := by
      cases m with
      | nil => rfl
      | cons x m => obtain ⟨_, _, e, _⟩ := hm (by simp); cases e
    subst hm0
    rw [hS rfl, List.append_nil]
    exact ⟨v, w, run_append_owned_none (P := Tryd.prog) (w := w) w0.heap.size 22 22 34 i0 2 Tryd.underlying22 hi0 v _ _ h, h, hb⟩
  | some ad =>
    obtain ⟨v', w', h1, h2, h3, -, -⟩ := run_append_own_at (P := Tryd.prog) (w := w) w0.heap.size 22 22 34 i0 _ 2 16 Tryd.underlying22 hi0 hz0 hz1 hz2 rfl (by decide) v _ _ h ad m.length c (m.flatMap in211) (in2_len11 m) (by
      intro j u hj
      have hjl : j < m.length * 2 := by rw [← in2_len11]; exact (List.getElem?_eq_some_iff.1 hj).1
      obtain ⟨k, r, hr, rfl⟩ : ∃ k r, r < 2 ∧ j = k * 2 + r := ⟨j / 2, j % 2, by omega, by omega⟩
      have hi : k < m.length := by omega
      obtain ⟨b, off, e, _, hc⟩ := hm (by omega)
      cases e
      obtain ⟨h0, h1⟩ := hc k _ (List.getElem?_eq_getElem hi)
      rw [in2_at11 m k r _ hr (List.getElem?_eq_getElem hi)] at hj
      rw [Addr.add_lit]
      rcases (by omega : r = 0 ∨ r = 1) with rfl | rfl
      · cases hj
        exact h0
      · cases hj
        rw [← Nat.add_assoc]
        exact h1) (by
      intro u hu
      obtain ⟨x, _, hx⟩ := List.mem_flatMap.1 hu
      simp only [in211, List.mem_cons, List.not_mem_nil, or_false] at hx
      rcases hx with rfl | rfl <;> rfl) (by unfold maxLen; omega) (by omega) hb.size
    refine ⟨v', w', h1, ?_, hb.grown h3 hb.size (fun k hk => (h.lt k hk).1)⟩
    rw [List.length_append, List.flatMap_append]
    exact h2
end Go.Proofs.YtobelbaeaamkkaaDoor
