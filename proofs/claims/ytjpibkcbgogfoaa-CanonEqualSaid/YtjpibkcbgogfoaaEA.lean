/- Two rows of ints of the call's own that grow by appends of lists, one behind the other or not. -/
import Derived.Test.YtjpibkcbgogfoaaNV
import Derived.Test.YtjpibkcbgogfoaaAP
import Derived.Test.YtjpibkcbgogfoaaY
namespace Go.Proofs.Ytjpibkcbgogfoaa
open Go.RowKit
set_option maxRecDepth 100000
theorem wp_append_run6 {P : Program} {w : World} {o : Oper} {a : Act} {K : Act → World → Prop} {Q : Exit → Act → World → Prop} (s x : Operand) (t : TypeId)
    (ho : o.op = .call { callee := .builtin .append, args := #[s, x], argTypes := #[t, t] }) (v1 : Value) (w1 : World) (hrun : (Builtin.append_ #[t, t] o.type #[a.eval s, a.eval x]).run P w = .ok v1 w1)
    (h : K (a.put o.dst v1) w1) : Oper.wp P o a w K Q := by
  unfold Oper.wp
  simp [execOp, ho, resolve, invoke, builtin, hrun, Result.andThen]
  exact h
structure Rows2 (w0 w : World) (v1 v2 : Value) (xs ys : List Int) : Prop where
  own1 : w.ownsRow w0.heap.size 3 1 v1 xs.length (xs.map (Value.int .i64))
  own2 : w.ownsRow w0.heap.size 3 1 v2 ys.length (ys.map (Value.int .i64))
  apart : ∀ k, v1.ownBlock = some k → v2.ownBlock ≠ some k
  below : Below w0.heap.size w0 w
variable {w0 w w' : World} {v1 v2 : Value} {xs ys : List Int}
theorem Rows2.start (w : World) : Rows2 w w (.slice none 0 0) (.slice none 0 0) [] [] :=
  ⟨World.ownsRow_nil _ _ _ _, World.ownsRow_nil _ _ _ _, fun k h => by simp [Value.ownBlock] at h, Below.refl _ _⟩
theorem Rows2.turn (h : Rows2 w0 w v1 v2 xs ys) : Rows2 w0 w v2 v1 ys xs := ⟨h.own2, h.own1, fun k h1 h2 => h.apart k h2 h1, h.below⟩
theorem Rows2.later (h : Rows2 w0 w v1 v2 xs ys) (hb : Below w.heap.size w w') : Rows2 w0 w' v1 v2 xs ys :=
  ⟨own_later h.own1 hb, own_later h.own2 hb, h.apart, h.below.trans (hb.mono h.below.size)⟩
theorem Rows2.drew (h : Rows2 w0 w v1 v2 xs ys) : Rows2 w0 w.drew v1 v2 xs ys := h.later (Below.refl _ _).drew
theorem Rows2.make (h : Rows2 w0 w v1 v2 xs ys) : Rows2 w0 (w.alloc (.cells #[] 3)) (.slice (some ⟨w.heap.size, 0, none⟩) 0 0) v2 [] ys :=
  ⟨own_lower (own_empty w) h.below.size, own_later h.own2 (below_alloc _ _), fun k hk hk2 => by
    have := (h.own2.lt k hk2).2
    simp only [Value.ownBlock, Option.some.injEq] at hk
    omega, h.below.trans ((below_alloc _ _).mono h.below.size)⟩
theorem Rows2.make2 (h : Rows2 w0 w v1 v2 xs ys) : Rows2 w0 (w.alloc (.cells #[] 3)) v1 (.slice (some ⟨w.heap.size, 0, none⟩) 0 0) xs [] := h.turn.make.turn
theorem Rows2.app {us : List Int} (h : Rows2 w0 w v1 v2 xs ys) {S : Option Addr} {c : Nat} {zs : List Int} (hr0 : IntsR w0 S zs) (hn : S = none → c = 0) (e : xs ++ zs = us) (hl : us.length ≤ 1000000) :
    ∃ A' c' w', (Builtin.append_ #[44, 44] 44 #[v1, .slice S zs.length c]).run Try.prog w = .ok (.slice A' us.length c') w' ∧ Rows2 w0 w' (.slice A' us.length c') v2 us ys := by
  subst e
  rw [List.length_append] at hl
  have hr := hr0.below h.below
  obtain ⟨i0, hi0, hz0, hz1, hz2⟩ := info_parts int_info
  cases S with
  | none =>
    have hx0 := ints_none hr rfl
    subst hx0
    obtain ⟨A', c', hv⟩ := own_form h.own1
    rw [hn rfl, List.append_nil]
    refine ⟨A', c', w, ?_, by rw [← hv]; exact h⟩
    rw [← hv]
    exact run_append_owned_none (P := Try.prog) (w := w) w0.heap.size 44 44 3 i0 1 Try.underlying44 hi0 v1 _ _ h.own1
  | some ad =>
    obtain ⟨v', w', h1, h2, h3, -, h5⟩ := run_append_own_at (P := Try.prog) (w := w) w0.heap.size 44 44 3 i0 (.int .i64 0) 1 8 Try.underlying44 hi0 hz0 hz1 hz2 rfl (by decide) v1 _ _ h.own1 ad zs.length c (zs.map (Value.int .i64)) (by simp) (by
      intro j u hj
      have hjn : j < zs.length := by have := (List.getElem?_eq_some_iff.1 hj).1; simpa using this
      obtain ⟨b, o, e, hlt, hc⟩ := hr (by omega)
      cases e
      have := hc j zs[j] (List.getElem?_eq_getElem hjn)
      rw [List.getElem?_map, List.getElem?_eq_getElem hjn] at hj
      cases hj
      rw [Addr.add_lit]
      exact this) (by intro u hu; obtain ⟨x, _, rfl⟩ := List.mem_map.1 hu; rfl) (by unfold maxLen; omega) (by omega) h.below.size
    obtain ⟨A', c', rfl⟩ := own_form h2
    rw [← List.length_append] at h1 h2
    refine ⟨A', c', w', h1, by simpa using h2, h.own2.kept h3 ?_, ?_, ?_⟩
    · cases hv : v2.ownBlock with
      | none => exact .inl rfl
      | some k => exact .inr fun e => h.apart k e.symm hv
    · intro k hk hk2
      rw [← List.length_append] at h5
      rcases h5 with h5 | h5
      · exact h.apart k (by rw [← h5]; exact hk) hk2
      · have := (h.own2.lt k hk2).2
        rw [hk] at h5
        injection h5 with h5
        omega
    · exact h.below.grown h3 h.below.size (fun k hk => (h.own1.lt k hk).1)
end Go.Proofs.Ytjpibkcbgogfoaa
