/- Rows of instructions of the call's own; pairs of bytes. -/
import Derived.Test.YtalfbdigjaibkaaGreatSG11
namespace Go.Proofs.YtalfbdigjaibkaaGreat
open Go.RowKit
set_option maxRecDepth 100000
def in211 (x : In) : List Value := [.int .i64 x.op, .int .i64 x.a]
theorem in2_len11 (l : List In) : (l.flatMap in211).length = l.length * 2 := by
  induction l with
  | nil => rfl
  | cons x l ih => rw [List.flatMap_cons, List.length_append, ih, List.length_cons]; show 2 + _ = _; omega
theorem in2_at11 : ∀ (l : List In) (i k : Nat) (x : In), k < 2 → l[i]? = some x → (l.flatMap in211)[i * 2 + k]? = (in211 x)[k]?
  | [], i, k, x, _, h => by simp at h
  | y :: l, 0, k, x, hk, h => by
    obtain rfl : y = x := by simpa using h
    rw [List.flatMap_cons, List.getElem?_append_left (by show _ < 2; omega), Nat.zero_mul, Nat.zero_add]
  | y :: l, i + 1, k, x, hk, h => by
    have ih := in2_at11 l i k x hk (by simpa using h)
    rw [List.flatMap_cons, List.getElem?_append_right (by show 2 ≤ _; omega)]
    show (l.flatMap in211)[(i + 1) * 2 + k - 2]? = _
    rw [show (i + 1) * 2 + k - 2 = i * 2 + k by omega, ih]
theorem own_ins11 {w : World} {base : Nat} {v : Value} {l : List In} (h : w.ownsRow base 37 2 v l.length (l.flatMap in211)) : ∃ A c, v = .slice A l.length c ∧ InsR w A l ∧ (A = none → c = 0) := by
  rcases h.2 with ⟨rfl, hn⟩ | ⟨g, cap, cur, rfl, hg, hh, h1, h2, h3, h4⟩
  · refine ⟨none, 0, by rw [hn], fun h => by omega, fun _ => rfl⟩
  · refine ⟨_, _, rfl, fun hn => ⟨g, 0, rfl, (Array.getElem?_eq_some_iff.1 hh).1, fun i x hx => ?_⟩, fun e => by cases e⟩
    have hi : i < l.length := (List.getElem?_eq_some_iff.1 hx).1
    have e : ∀ k, k < 2 → w.cell? ⟨g, i * 2 + k, none⟩ = (in211 x)[k]? := fun k hk => by
      rw [← in2_at11 l i k x hk hx, ← h4, List.getElem?_take, if_pos (by omega)]
      simp [World.cell?, hh]
    have e0 := e 0 (by omega)
    have e1 := e 1 (by omega)
    rw [Nat.zero_add]
    exact ⟨e0, e1⟩
theorem own_empty11 (w : World) : (w.alloc (.cells #[] 37)).ownsRow w.heap.size 37 2 (.slice (some ⟨w.heap.size, 0, none⟩) 0 0) 0 [] :=
  ⟨rfl, .inr ⟨w.heap.size, 0, #[], rfl, Nat.le_refl _, by show (w.heap.push _)[w.heap.size]? = _; simp, Nat.le_refl _, by unfold maxLen; omega, rfl, rfl⟩⟩
theorem instr_info11 : (Tryz.prog.info? 37).map (fun i => (i.zero, i.size, i.bytes)) = some (some (.agg #[.int .i64 0, .int .i64 0]), 2, 16) := by kernel_rfl
theorem wp_append_run11 {P : Program} {w : World} {o : Oper} {a : Act} {K : Act → World → Prop} {Q : Exit → Act → World → Prop} (s x : Operand) (t : TypeId)
    (ho : o.op = .call { callee := .builtin .append, args := #[s, x], argTypes := #[t, t] }) (v1 : Value) (w1 : World) (hrun : (Builtin.append_ #[t, t] o.type #[a.eval s, a.eval x]).run P w = .ok v1 w1)
    (h : K (a.put o.dst v1) w1) : Oper.wp P o a w K Q := by
  unfold Oper.wp
  simp [execOp, ho, resolve, invoke, builtin, hrun, Result.andThen]
  exact h
/-- one instruction more -/
theorem own_app11 {w0 w : World} {v : Value} {l : List In} (h : w.ownsRow w0.heap.size 37 2 v l.length (l.flatMap in211)) (x : In) (g : Nat) (hg : Lies w g 37 #[.int .i64 x.op, .int .i64 x.a]) (hl : l.length ≤ 1000000) (hb : Below w0.heap.size w0 w) :
    ∃ v' w', (Builtin.append_ #[29, 29] 29 #[v, .slice (some ⟨g, 0, none⟩) 1 1]).run Tryz.prog w = .ok v' w' ∧ w'.ownsRow w0.heap.size 37 2 v' (l ++ [x]).length ((l ++ [x]).flatMap in211) ∧ Below w0.heap.size w0 w' := by
  obtain ⟨i0, hi0, hz0, hz1, hz2⟩ := info_parts instr_info11
  obtain ⟨v', w', h1, h2, h3, -, -⟩ := run_append_own_at (P := Tryz.prog) (w := w) w0.heap.size 29 29 37 i0 _ 2 16 Tryz.underlying29 hi0 hz0 hz1 hz2 rfl (by decide) v _ _ h ⟨g, 0, none⟩ 1 1 (in211 x) rfl (by
    intro j u hj
    have hj2 : j < 2 := (List.getElem?_eq_some_iff.1 hj).1
    rw [Addr.add_lit, Nat.zero_add, hg.cell, List.getElem?_toArray]
    exact hj) (by intro u hu; simp only [in211, List.mem_cons, List.not_mem_nil, or_false] at hu; rcases hu with rfl | rfl <;> rfl) (by unfold maxLen; omega) (by omega) hb.size
  refine ⟨v', w', h1, ?_, hb.grown h3 hb.size (fun k hk => (h.lt k hk).1)⟩
  rw [List.length_append, List.flatMap_append]
  simpa using h2
theorem us_len11 : ∀ b : List UInt8, (us11 b).length = b.length / 2
  | [] => rfl
  | [_] => by simp [us11]
  | a :: c :: b => by
    have ih := us_len11 b
    show (us11 b).length + 1 = (b.length + 1 + 1) / 2
    omega
theorem us_at11 : ∀ (b : List UInt8) (m : Nat) (h : 2 * m + 1 < b.length), (us11 b)[m]? = some ⟨((b[2 * m]'(by omega)).toNat : Int), ((b[2 * m + 1]'h).toNat : Int)⟩
  | [], m, h => by simp at h
  | [_], m, h => by simp at h
  | a :: c :: b, 0, _ => rfl
  | a :: c :: b, m + 1, h => by
    have ih := us_at11 b m (by simp at h; omega)
    show (us11 b)[m]? = _
    rw [ih]
    rfl
end Go.Proofs.YtalfbdigjaibkaaGreat
