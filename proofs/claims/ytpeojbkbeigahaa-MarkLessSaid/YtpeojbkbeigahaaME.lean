/- From two lists of roots what is reached from either; from what is reached nothing more. -/
import Derived.Test.YtpeojbkbeigahaaMY
import Derived.Test.YtpeojbkbeigahaaAP
import Derived.Test.YtpeojbkbeigahaaMX
namespace Go.Proofs.Ytpeojbkbeigahaa
open Go.RowKit
set_option maxRecDepth 100000
def twice (L : List Int) : List Int := L.map fun x : Int => 2 * x
theorem liE_app {h : Hp} (hm : mayB h = true) {a b : List Int} : liE h (a ++ b) = 0 ↔ liE h a = 0 ∧ liE h b = 0 := by
  unfold liE
  simp only [hm, if_true, List.all_append, Bool.and_eq_true]
  by_cases h1 : a.all (hasB h.objs.length) = true <;> by_cases h2 : b.all (hasB h.objs.length) = true <;> simp [h1, h2]
theorem liE_or {h : Hp} (hm : mayB h = true) (a : List Int) : liE h a = 0 ∨ liE h a = 31 := by
  unfold liE
  simp only [hm, if_true]
  split
  · exact .inl rfl
  · exact .inr rfl
theorem less_mem {h : Hp} (a b : List Int) (i : Nat) : decide ((i : Int) ∈ liveL h (a ++ b)) = (decide ((i : Int) ∈ liveL h a) || decide ((i : Int) ∈ liveL h b)) := by
  have key : ∀ rs : List Int, (i : Int) ∈ liveL h rs ↔ Reach h rs i := fun rs => by
    rw [mem_liveL]
    constructor
    · rintro ⟨j, hj, hr⟩
      obtain rfl : i = j := by omega
      exact hr
    · exact fun hr => ⟨i, rfl, hr⟩
  rw [← Bool.decide_or, decide_eq_decide, key, key, key, Reach.append]
theorem twice_in {h : Hp} {a : List Int} {i : Nat} (hm : mayB h = true) (r : Reach h a i) : 2 * (i : Int) ∈ twice (liveL h a) ∧ refB h.objs.length (2 * (i : Int)) = true ∧ (atV (2 * (i : Int))).toNat = i := by
  have hle := may_len hm
  have hi := r.lt
  refine ⟨List.mem_map.2 ⟨_, mem_liveL.2 ⟨i, rfl, r⟩, rfl⟩, ref_even hle hi, ?_⟩
  rw [(at_even (i := i) (by omega)).2, Int.toNat_natCast]
theorem twice_of {h : Hp} {a : List Int} {v : Int} (hv : v ∈ twice (liveL h a)) : ∃ i : Nat, v = 2 * (i : Int) ∧ Reach h a i := by
  obtain ⟨x, hx, rfl⟩ := List.mem_map.1 hv
  obtain ⟨i, rfl, hr⟩ := mem_liveL.1 hx
  exact ⟨i, rfl, hr⟩
theorem again {h : Hp} (hm : mayB h = true) (a : List Int) : liE h (twice (liveL h a)) = 0 ∧ liL h (twice (liveL h a)) = liveL h a := by
  have e : liE h (twice (liveL h a)) = 0 := by
    unfold liE
    rw [if_pos hm, if_pos]
    refine List.all_eq_true.2 fun v hv => ?_
    obtain ⟨i, rfl, hr⟩ := twice_of hv
    unfold hasB
    rw [(twice_in hm hr).2.1, Bool.or_true]
  refine ⟨e, ?_⟩
  unfold liL
  rw [if_pos e]
  refine sorted_unique _ _ (liveL_sorted _ _) (liveL_sorted _ _) fun x => ?_
  rw [mem_liveL, mem_liveL]
  constructor
  · rintro ⟨i, rfl, r⟩
    refine ⟨i, rfl, r.least (Reach h a) (fun v hv hb => ?_) fun i o v hi ho hv hb => .step i o v hi ho hv hb⟩
    obtain ⟨j, rfl, hr⟩ := twice_of hv
    rw [(twice_in hm hr).2.2]; exact hr
  · rintro ⟨i, rfl, r⟩
    obtain ⟨h1, h2, h3⟩ := twice_in hm r
    refine ⟨i, rfl, ?_⟩
    have := Reach.root (h := h) (rs := twice (liveL h a)) _ h1 h2
    rwa [h3] at this
theorem twice_succ (L : List Int) (k : Nat) (hk : k < L.length) : twice (L.take (k + 1)) = twice (L.take k) ++ [2 * L[k]] := by
  unfold twice
  rw [List.take_succ_eq_append_getElem hk, List.map_append]; rfl
/-- an append of a list of ints, run -/
theorem run_app_ints (w : World) (base : Nat) (v : Value) (n : Nat) (ys : List Int) (hown : w.ownsRow base 3 1 v n (ys.map (Value.int .i64))) (S : Option Addr) (c : Nat) (xs : List Int) (hr : IntsR w S xs) (hn : S = none → c = 0)
    (h63 : n + xs.length ≤ 1000000) (hbase : base ≤ w.heap.size) :
    ∃ v' w', (Builtin.append_ #[44, 44] 44 #[v, .slice S xs.length c]).run Try.prog w = .ok v' w' ∧ w'.ownsRow base 3 1 v' (n + xs.length) ((ys ++ xs).map (Value.int .i64)) ∧ w.grownBy w' v.ownBlock := by
  obtain ⟨i0, hi0, hz0, hz1, hz2⟩ := info_parts int_info
  cases S with
  | none =>
    have hx0 := ints_none hr rfl
    subst hx0
    refine ⟨v, w, ?_, by simpa using hown, grown_refl _ _⟩
    rw [hn rfl]
    exact run_append_owned_none (P := Try.prog) (w := w) base 44 44 3 i0 1 Try.underlying44 hi0 v n _ hown
  | some ad =>
    obtain ⟨v', w', h1, h2, h3, -⟩ := run_append_own (P := Try.prog) w base 44 44 3 i0 (.int .i64 0) 1 8 Try.underlying44 hi0 hz0 hz1 hz2 rfl (by decide) v n _ hown ad xs.length c (xs.map (Value.int .i64)) (by simp) (by
      intro j u hj
      have hjn : j < xs.length := by have := (List.getElem?_eq_some_iff.1 hj).1; simpa using this
      obtain ⟨b, o, e, hlt, hc⟩ := hr (by omega)
      cases e
      have := hc j xs[j] (List.getElem?_eq_getElem hjn)
      rw [List.getElem?_map, List.getElem?_eq_getElem hjn] at hj
      cases hj
      rw [Addr.add_lit]
      exact this) (by intro u hu; obtain ⟨x, _, rfl⟩ := List.mem_map.1 hu; rfl) (by unfold maxLen; omega) (by omega) hbase
    exact ⟨v', w', h1, by simpa using h2, h3⟩
/-- an append whose run is known, in a region -/
theorem wp_append_run {P : Program} {w : World} {o : Oper} {a : Act} {K : Act → World → Prop} {Q : Exit → Act → World → Prop} (s x : Operand) (t : TypeId)
    (ho : o.op = .call { callee := .builtin .append, args := #[s, x], argTypes := #[t, t] }) (v1 : Value) (w1 : World) (hrun : (Builtin.append_ #[t, t] o.type #[a.eval s, a.eval x]).run P w = .ok v1 w1)
    (h : K (a.put o.dst v1) w1) : Oper.wp P o a w K Q := by
  unfold Oper.wp
  simp [execOp, ho, resolve, invoke, builtin, hrun, Result.andThen]
  exact h
theorem live_len (h : Hp) (rs : List Int) (n : Nat) (hn : rs.length = n) (A R : Option Addr) (c d : Nat) (w : World) (hs : ObsR w A h.objs) (fit : h.Fit) (hr : IntsR w R rs) (hl : rs.length ≤ 9223372036854775807) :
    Calls Try.prog 36 #[.agg #[.slice A h.objs.length c, .int .i64 h.cap, .int .i64 h.last], .slice R n d] w (IntsTwo w (liL h rs) (liE h rs)) := by subst hn; exact live_any h rs A R c d w hs fit hr hl
theorem run_two (w : World) (a b : List Int) (A B : Option Addr) (c d : Nat) (ha : IntsR w A a) (hb : IntsR w B b) (hA : A = none → c = 0) (hB : B = none → d = 0) (hl : a.length + b.length ≤ 1000) :
    ∃ v1 w1 A2 c2 w2, (Builtin.append_ #[44, 44] 44 #[.slice (some ⟨w.heap.size, 0, none⟩) 0 0, .slice A a.length c]).run Try.prog (w.alloc (.cells #[] 3)) = .ok v1 w1 ∧
      (Builtin.append_ #[44, 44] 44 #[v1, .slice B b.length d]).run Try.prog w1 = .ok (.slice A2 (a ++ b).length c2) w2 ∧ IntsR w2 A2 (a ++ b) ∧ Below w.heap.size w w1 ∧ Below w.heap.size w w2 := by
  have hal := below_alloc w (.cells #[] 3)
  obtain ⟨v1, w1, r1, o1, g1⟩ := run_app_ints (w.alloc (.cells #[] 3)) w.heap.size _ 0 [] (own_empty w) A c a (ha.below hal) hA (by omega) hal.size
  have hb1 : Below w.heap.size w w1 := hal.grown g1 hal.size (fun k hk => by simp [Value.ownBlock] at hk; omega)
  obtain ⟨v2, w2, r2, o2, g2⟩ := run_app_ints w1 w.heap.size v1 _ _ o1 B d b (hb.below hb1) hB (by omega) hb1.size
  have hb2 : Below w.heap.size w w2 := hb1.grown g2 hb1.size (fun k hk => (o1.lt k hk).1)
  obtain ⟨A2, c2, rfl⟩ := own_form o2
  have e : 0 + a.length + b.length = (a ++ b).length := by simp
  rw [e] at r2 o2
  exact ⟨v1, w1, A2, c2, w2, r1, r2, own_ints (xs := a ++ b) (by simpa using o2), hb1, hb2⟩
end Go.Proofs.Ytpeojbkbeigahaa
