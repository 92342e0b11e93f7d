/- Tapes as plain data; lists of ints, appended to a row of the call's own. -/
import Derived.Test.YtimmoaomhilaeaaMP
import Derived.Test.YtimmoaomhilaeaaAP
namespace Go.Proofs.Ytimmoaomhilaeaa
open Go.RowKit
set_option maxRecDepth 100000
structure Tp where
  log : List Int
  rest : List Int
def allT (t : Tp) : List Int := t.log ++ t.rest
def smT (t : Tp) : Bool := (allT t).all smB
def mayT (t : Tp) : Bool := smT t && decide ((allT t).length ≤ 1000)
theorem allT_len (t : Tp) : (allT t).length = t.log.length + t.rest.length := List.length_append
/-- a slice of ints, as a call's answer, of its own -/
def IntsOwn16 (w : World) (L : List Int) (e : Ending) (w' : World) : Prop :=
  ∃ A c, e = .returned (.slice A L.length c) ∧ w'.ownsRow w.heap.size 3 1 (.slice A L.length c) L.length (L.map (Value.int .i64)) ∧ Below w.heap.size w w'
theorem dt16 {w v w' : World} (h : Below w.heap.size w v) (hb : Below v.heap.size v w') : Below w.heap.size w w' := h.trans (hb.mono h.size)
theorem own_base16 {w : World} {base B : Nat} {e : TypeId} {size n : Nat} {v : Value} {xs : List Value} (h : w.ownsRow base e size v n xs) (hB : B ≤ base) : w.ownsRow B e size v n xs := by
  refine ⟨h.1, ?_⟩
  rcases h.2 with hn | ⟨g, cap, cur, hv, hg, hr⟩
  · exact .inl hn
  · exact .inr ⟨g, cap, cur, hv, Nat.le_trans hB hg, hr⟩
theorem run_app_ints16 (w : World) (base : Nat) (v : Value) (n : Nat) (ys : List Int) (hown : w.ownsRow base 3 1 v n (ys.map (Value.int .i64))) (S : Option Addr) (c : Nat) (xs : List Int) (hr : IntsR w S xs) (hn : S = none → c = 0)
    (h63 : n + xs.length ≤ 1048576) (hbase : base ≤ w.heap.size) :
    ∃ v' w', (Builtin.append_ #[22, 22] 22 #[v, .slice S xs.length c]).run Try.prog w = .ok v' w' ∧ w'.ownsRow base 3 1 v' (n + xs.length) ((ys ++ xs).map (Value.int .i64)) ∧ w.grownBy w' v.ownBlock := by
  obtain ⟨i0, hi0, hz0, hz1, hz2⟩ := info_parts int_info
  cases S with
  | none =>
    have hx0 := ints_none hr rfl
    subst hx0
    refine ⟨v, w, ?_, by simpa using hown, grown_refl _ _⟩
    rw [hn rfl]
    exact run_append_owned_none (P := Try.prog) (w := w) base 22 22 3 i0 1 Try.underlying22 hi0 v n _ hown
  | some ad =>
    obtain ⟨v', w', h1, h2, h3, -⟩ := run_append_own (P := Try.prog) w base 22 22 3 i0 (.int .i64 0) 1 8 Try.underlying22 hi0 hz0 hz1 hz2 rfl (by decide) v n _ hown ad xs.length c (xs.map (Value.int .i64)) (by simp) (by
      intro j u hj
      have hjn : j < xs.length := by have := (List.getElem?_eq_some_iff.1 hj).1; simpa using this
      obtain ⟨b, o, e, hlt, hc⟩ := hr (by omega)
      cases e
      have := hc j xs[j] (List.getElem?_eq_getElem hjn)
      rw [List.getElem?_map, List.getElem?_eq_getElem hjn] at hj
      cases hj
      rw [Addr.add_lit]
      exact this) (by intro u hu; obtain ⟨x, _, rfl⟩ := List.mem_map.1 hu; rfl) (by unfold maxLen; omega) (by omega) hbase
    exact ⟨v', w', h1, by simpa using h2, h3⟩
theorem wp_append_run16 {P : Program} {w : World} {o : Oper} {a : Act} {K : Act → World → Prop} {Q : Exit → Act → World → Prop} (s x : Operand) (t : TypeId)
    (ho : o.op = .call { callee := .builtin .append, args := #[s, x], argTypes := #[t, t] }) (v1 : Value) (w1 : World) (hrun : (Builtin.append_ #[t, t] o.type #[a.eval s, a.eval x]).run P w = .ok v1 w1)
    (h : K (a.put o.dst v1) w1) : Oper.wp P o a w K Q := by
  unfold Oper.wp
  simp [execOp, ho, resolve, invoke, builtin, hrun, Result.andThen]
  exact h
theorem run_two16 (w : World) (a b : List Int) (A B : Option Addr) (c d : Nat) (ha : IntsR w A a) (hb : IntsR w B b) (hA : A = none → c = 0) (hB : B = none → d = 0) (hl : a.length + b.length ≤ 1048576) :
    ∃ v1 w1 A2 c2 w2, (Builtin.append_ #[22, 22] 22 #[.slice (some ⟨w.heap.size, 0, none⟩) 0 0, .slice A a.length c]).run Try.prog (w.alloc (.cells #[] 3)) = .ok v1 w1 ∧
      (Builtin.append_ #[22, 22] 22 #[v1, .slice B b.length d]).run Try.prog w1 = .ok (.slice A2 (a ++ b).length c2) w2 ∧ w2.ownsRow w.heap.size 3 1 (.slice A2 (a ++ b).length c2) (a ++ b).length ((a ++ b).map (Value.int .i64)) ∧ Below w.heap.size w w1 ∧ Below w.heap.size w w2 := by
  have hal := below_alloc w (.cells #[] 3)
  obtain ⟨v1, w1, r1, o1, g1⟩ := run_app_ints16 (w.alloc (.cells #[] 3)) w.heap.size _ 0 [] (own_empty w) A c a (ha.below hal) hA (by omega) hal.size
  have hb1 : Below w.heap.size w w1 := hal.grown g1 hal.size (fun k hk => by simp [Value.ownBlock] at hk; omega)
  obtain ⟨v2, w2, r2, o2, g2⟩ := run_app_ints16 w1 w.heap.size v1 _ _ o1 B d b (hb.below hb1) hB (by omega) hb1.size
  have hb2 : Below w.heap.size w w2 := hb1.grown g2 hb1.size (fun k hk => (o1.lt k hk).1)
  obtain ⟨A2, c2, rfl⟩ := own_form o2
  have e : 0 + a.length + b.length = (a ++ b).length := by simp
  rw [e] at r2 o2
  exact ⟨v1, w1, A2, c2, w2, r1, r2, by simpa using o2, hb1, hb2⟩
theorem run_one16 (w : World) (a : List Int) (A : Option Addr) (c : Nat) (ha : IntsR w A a) (hA : A = none → c = 0) (hl : a.length ≤ 1048576) :
    ∃ A1 c1 w1, (Builtin.append_ #[22, 22] 22 #[.slice (some ⟨w.heap.size, 0, none⟩) 0 0, .slice A a.length c]).run Try.prog (w.alloc (.cells #[] 3)) = .ok (.slice A1 a.length c1) w1 ∧
      w1.ownsRow w.heap.size 3 1 (.slice A1 a.length c1) a.length (a.map (Value.int .i64)) ∧ Below w.heap.size w w1 := by
  have hal := below_alloc w (.cells #[] 3)
  obtain ⟨v1, w1, r1, o1, g1⟩ := run_app_ints16 (w.alloc (.cells #[] 3)) w.heap.size _ 0 [] (own_empty w) A c a (ha.below hal) hA (by omega) hal.size
  have hb1 : Below w.heap.size w w1 := hal.grown g1 hal.size (fun k hk => by simp [Value.ownBlock] at hk; omega)
  obtain ⟨A1, c1, rfl⟩ := own_form o1
  rw [Nat.zero_add] at r1 o1
  exact ⟨A1, c1, w1, r1, by simpa using o1, hb1⟩
theorem IntsR.take16 {w : World} {A : Option Addr} {xs : List Int} (h : IntsR w A xs) (m : Nat) : IntsR w A (xs.take m) := fun h0 => by
  rw [List.length_take] at h0
  obtain ⟨b, o, e, hlt, hc⟩ := h (by omega)
  refine ⟨b, o, e, hlt, fun j x hj => hc j x ?_⟩
  rw [List.getElem?_take] at hj
  split at hj
  · exact hj
  · cases hj
theorem own_far16 {w : World} {base g n size : Nat} {e : TypeId} {v : Value} {xs : List Value} (h : w.ownsRow base e size v n xs) (hg : g < base) (i : Nat) (u : Value) : (w.setCell ⟨g, i, none⟩ u).ownsRow base e size v n xs := by
  refine ⟨h.1, ?_⟩
  rcases h.2 with hn | ⟨g2, cap, cur, hv, hb, hr, hrest⟩
  · exact .inl hn
  · exact .inr ⟨g2, cap, cur, hv, hb, by rw [Below.heap_setCell w ⟨g, i, none⟩ u g2 (fun e => by have e2 : g2 = g := e; omega)]; exact hr, hrest⟩
theorem own_nil16 {w : World} {base n c : Nat} {A : Option Addr} {xs : List Value} (h : w.ownsRow base 3 1 (.slice A n c) n xs) (e : A = none) : c = 0 := by
  subst e
  rcases h.2 with hn | ⟨g, cap, cur, hv, hg, hr⟩
  · cases hn.1; rfl
  · cases hv
end Go.Proofs.Ytimmoaomhilaeaa
