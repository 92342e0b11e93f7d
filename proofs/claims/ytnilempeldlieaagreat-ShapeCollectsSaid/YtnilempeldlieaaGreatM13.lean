/- Lists of marks in memory; what one round of the document's marking makes, object by object. append of marks to a row of the call's own. -/
import Derived.Test.YtnilempeldlieaaGreatM12
import Derived.Test.YtnilempeldlieaaGreatM04
import Derived.Deep.OwnRows
import Derived.Test.YtnilempeldlieaaGreatM09
namespace Go.Proofs.YtnilempeldlieaaGreat
open Go.RowKit
set_option maxRecDepth 100000
/-- a slice of bools at address A reads as m -/
def BoolsR (w : World) (A : Option Addr) (m : List Bool) : Prop :=
  0 < m.length → ∃ b o, A = some ⟨b, o, none⟩ ∧ b < w.heap.size ∧ ∀ j x, m[j]? = some x → w.cell? ⟨b, o + j, none⟩ = some (.bool x)
theorem BoolsR.below {w w' : World} {A : Option Addr} {m : List Bool} (h : BoolsR w A m) (hb : Below w.heap.size w w') : BoolsR w' A m := fun hn => by
  obtain ⟨b, o, e, hlt, hc⟩ := h hn
  exact ⟨b, o, e, Nat.lt_of_lt_of_le hlt hb.size, fun j x hx => (hb.cell (p := ⟨b, o + j, none⟩) hlt).trans (hc j x hx)⟩
theorem own_bools {w : World} {base : Nat} {S : Option Addr} {c : Nat} {m : List Bool} (h : w.ownsRow base 4 1 (.slice S m.length c) m.length (m.map Value.bool)) : BoolsR w S m := fun hn => by
  obtain ⟨g, cap, hv, hb, hlt⟩ := h.form hn
  simp only [Value.slice.injEq, true_and] at hv
  obtain ⟨rfl, rfl⟩ := hv
  refine ⟨g, 0, rfl, hlt, fun j x hx => ?_⟩
  have hj : j < m.length := (List.getElem?_eq_some_iff.1 hx).1
  rw [Nat.zero_add, h.cellAt j (by omega), List.getElem?_map, hx]; rfl
/-- the marks so far: those that were, and what the first i objects that were marked lead to -/
structure Near (h : Hp) (m out : List Bool) (i : Nat) : Prop where
  len : out.length = h.objs.length
  iff : ∀ q, out.getD q false = true ↔ m.getD q false = true ∨ ∃ j o v, j < i ∧ m.getD j false = true ∧ h.objs[j]? = some o ∧ v ∈ o.cls :: o.slots ∧ refB h.objs.length v = true ∧ (atV v).toNat = q
/-- .. and within object i those of its class and of its first j slots -/
structure Nears (h : Hp) (m out : List Bool) (i : Nat) (o : Ob) (j : Nat) : Prop where
  len : out.length = h.objs.length
  iff : ∀ q, out.getD q false = true ↔ m.getD q false = true ∨ (∃ j o v, j < i ∧ m.getD j false = true ∧ h.objs[j]? = some o ∧ v ∈ o.cls :: o.slots ∧ refB h.objs.length v = true ∧ (atV v).toNat = q) ∨ ∃ v, v ∈ o.cls :: o.slots.take j ∧ refB h.objs.length v = true ∧ (atV v).toNat = q
theorem Near.start (h : Hp) (m : List Bool) (hm : m.length = h.objs.length) : Near h m m 0 := ⟨hm, fun q => ⟨.inl, fun g => g.elim id fun ⟨j, _, _, hj, _⟩ => absurd hj (by omega)⟩⟩
theorem Near.skip {h : Hp} {m out : List Bool} {i : Nat} (n : Near h m out i) (hi : m.getD i false = false) : Near h m out (i + 1) := ⟨n.len, fun q => by
  rw [n.iff]
  constructor
  · rintro (g | ⟨j, o, v, hj, r⟩)
    · exact .inl g
    · exact .inr ⟨j, o, v, by omega, r⟩
  · rintro (g | ⟨j, o, v, hj, h1, r⟩)
    · exact .inl g
    · refine .inr ⟨j, o, v, ?_, h1, r⟩
      have : j ≠ i := fun e => by subst e; rw [hi] at h1; cases h1
      omega⟩
theorem getD_set {l : List Bool} {i q : Nat} (hi : i < l.length) : (l.set i true).getD q false = true ↔ q = i ∨ l.getD q false = true := by
  rw [List.getD_eq_getElem?_getD, List.getD_eq_getElem?_getD, List.getElem?_set]
  by_cases e : i = q
  · subst e; simp [hi]
  · simp [e, Ne.symm e]
theorem Near.enter {h : Hp} {m out : List Bool} {i : Nat} (n : Near h m out i) {o : Ob} (hr : refB h.objs.length o.cls = true) : Nears h m (out.set (atV o.cls).toNat true) i o 0 := ⟨by rw [List.length_set]; exact n.len, fun q => by
  rw [getD_set (by rw [n.len]; exact (refB_nat hr).1), n.iff]
  simp only [List.take_zero, List.mem_singleton]
  constructor
  · rintro (rfl | g | g)
    · exact .inr (.inr ⟨_, rfl, hr, rfl⟩)
    · exact .inl g
    · exact .inr (.inl g)
  · rintro (g | g | ⟨v, rfl, -, rfl⟩)
    · exact .inr (.inl g)
    · exact .inr (.inr g)
    · exact .inl rfl⟩
theorem Nears.pass {h : Hp} {m out : List Bool} {i j : Nat} {o : Ob} (n : Nears h m out i o j) (hj : j < o.slots.length) (hr : refB h.objs.length o.slots[j] = false) : Nears h m out i o (j + 1) := ⟨n.len, fun q => by
  rw [n.iff, List.take_succ_eq_append_getElem hj]
  constructor
  · rintro (g | g | ⟨v, hv, g⟩)
    · exact .inl g
    · exact .inr (.inl g)
    · refine .inr (.inr ⟨v, ?_, g⟩)
      rcases List.mem_cons.1 hv with rfl | hv
      · exact List.mem_cons_self
      · exact List.mem_cons_of_mem _ (List.mem_append_left _ hv)
  · rintro (g | g | ⟨v, hv, g1, g2⟩)
    · exact .inl g
    · exact .inr (.inl g)
    · refine .inr (.inr ⟨v, ?_, g1, g2⟩)
      rcases List.mem_cons.1 hv with rfl | hv
      · simp
      · rcases List.mem_append.1 hv with hv | hv
        · exact List.mem_cons_of_mem _ hv
        · obtain rfl : v = o.slots[j] := by simpa using hv
          rw [hr] at g1; cases g1⟩
theorem Nears.put {h : Hp} {m out : List Bool} {i j : Nat} {o : Ob} (n : Nears h m out i o j) (hj : j < o.slots.length) (hr : refB h.objs.length o.slots[j] = true) : Nears h m (out.set (atV o.slots[j]).toNat true) i o (j + 1) := ⟨by rw [List.length_set]; exact n.len, fun q => by
  rw [getD_set (by rw [n.len]; exact (refB_nat hr).1), n.iff, List.take_succ_eq_append_getElem hj]
  constructor
  · rintro (rfl | g | g | ⟨v, hv, g⟩)
    · exact .inr (.inr ⟨_, List.mem_cons_of_mem _ (List.mem_append_right _ (by simp)), hr, rfl⟩)
    · exact .inl g
    · exact .inr (.inl g)
    · refine .inr (.inr ⟨v, ?_, g⟩)
      rcases List.mem_cons.1 hv with rfl | hv
      · exact List.mem_cons_self
      · exact List.mem_cons_of_mem _ (List.mem_append_left _ hv)
  · rintro (g | g | ⟨v, hv, g1, g2⟩)
    · exact .inr (.inl g)
    · exact .inr (.inr (.inl g))
    · rcases List.mem_cons.1 hv with rfl | hv
      · exact .inr (.inr (.inr ⟨_, List.mem_cons_self, g1, g2⟩))
      · rcases List.mem_append.1 hv with hv | hv
        · exact .inr (.inr (.inr ⟨v, List.mem_cons_of_mem _ hv, g1, g2⟩))
        · obtain rfl : v = o.slots[j] := by simpa using hv
          exact .inl g2.symm⟩
theorem Nears.leave {h : Hp} {m out : List Bool} {i : Nat} {o : Ob} (n : Nears h m out i o o.slots.length) (ho : h.objs[i]? = some o) (hi : m.getD i false = true) : Near h m out (i + 1) := ⟨n.len, fun q => by
  rw [n.iff, List.take_length]
  constructor
  · rintro (g | ⟨j, o', v, hj, r⟩ | ⟨v, hv, r⟩)
    · exact .inl g
    · exact .inr ⟨j, o', v, by omega, r⟩
    · exact .inr ⟨i, o, v, by omega, hi, ho, hv, r⟩
  · rintro (g | ⟨j, o', v, hj, h1, h2, r⟩)
    · exact .inl g
    · by_cases e : j = i
      · subst e
        rw [ho] at h2
        obtain rfl : o = o' := Option.some.inj h2
        exact .inr (.inr ⟨v, r⟩)
      · exact .inr (.inl ⟨j, o', v, by omega, h1, h2, r⟩)⟩
theorem list_eq {l m : List Bool} (hl : l.length = m.length) (h : ∀ q, l.getD q false = true ↔ m.getD q false = true) : l = m := by
  apply List.ext_getElem? 
  intro q
  by_cases hq : q < l.length
  · have := h q
    simp only [List.getD_eq_getElem?_getD, List.getElem?_eq_getElem hq, List.getElem?_eq_getElem (show q < m.length by omega), Option.getD_some] at this ⊢
    congr 1
    cases h1 : l[q] <;> cases h2 : m[q] <;> simp_all
  · rw [List.getElem?_eq_none (by omega), List.getElem?_eq_none (by omega)]
theorem Near.done {h : Hp} {m out : List Bool} (hm : m.length = h.objs.length) (n : Near h m out h.objs.length) : out = nearB h m := by
  refine list_eq (by rw [n.len, nearB_length]) fun q => ?_
  rw [n.iff, nearB_iff hm]
  constructor
  · rintro (g | ⟨j, o, v, -, r⟩)
    · exact .inl g
    · exact .inr ⟨j, o, v, r⟩
  · rintro (g | ⟨j, o, v, h1, h2, r⟩)
    · exact .inl g
    · exact .inr ⟨j, o, v, (List.getElem?_eq_some_iff.1 h2).1, h1, h2, r⟩
/-- the marks of the roots so far -/
structure Rooted (h : Hp) (rs : List Int) (out : List Bool) (k : Nat) : Prop where
  len : out.length = h.objs.length
  iff : ∀ q, out.getD q false = true ↔ ∃ v ∈ rs.take k, refB h.objs.length v = true ∧ (atV v).toNat = q
theorem Rooted.start (h : Hp) (rs : List Int) : Rooted h rs (List.replicate h.objs.length false) 0 := ⟨by simp, fun q => by
  simp [List.getD_eq_getElem?_getD, List.getElem?_replicate]
  split <;> simp⟩
theorem Rooted.pass {h : Hp} {rs : List Int} {out : List Bool} {k : Nat} (r : Rooted h rs out k) (hk : k < rs.length) (hr : refB h.objs.length rs[k] = false) : Rooted h rs out (k + 1) := ⟨r.len, fun q => by
  rw [r.iff, List.take_succ_eq_append_getElem hk]
  constructor
  · rintro ⟨v, hv, g⟩; exact ⟨v, List.mem_append_left _ hv, g⟩
  · rintro ⟨v, hv, g1, g2⟩
    rcases List.mem_append.1 hv with hv | hv
    · exact ⟨v, hv, g1, g2⟩
    · obtain rfl : v = rs[k] := by simpa using hv
      rw [hr] at g1; cases g1⟩
theorem Rooted.put {h : Hp} {rs : List Int} {out : List Bool} {k : Nat} (r : Rooted h rs out k) (hk : k < rs.length) (hr : refB h.objs.length rs[k] = true) : Rooted h rs (out.set (atV rs[k]).toNat true) (k + 1) := ⟨by rw [List.length_set]; exact r.len, fun q => by
  rw [getD_set (by rw [r.len]; exact (refB_nat hr).1), r.iff, List.take_succ_eq_append_getElem hk]
  constructor
  · rintro (rfl | ⟨v, hv, g⟩)
    · exact ⟨_, List.mem_append_right _ (by simp), hr, rfl⟩
    · exact ⟨v, List.mem_append_left _ hv, g⟩
  · rintro ⟨v, hv, g1, g2⟩
    rcases List.mem_append.1 hv with hv | hv
    · exact .inr ⟨v, hv, g1, g2⟩
    · obtain rfl : v = rs[k] := by simpa using hv
      exact .inl g2.symm⟩
theorem Rooted.done {h : Hp} {rs : List Int} {out : List Bool} (r : Rooted h rs out rs.length) : out = marks0 h rs := by
  refine list_eq (by rw [r.len]; simp [marks0]) fun q => ?_
  rw [r.iff, marks0_iff, List.take_length]
theorem picked_take (m : List Bool) (k : Nat) (hk : k < m.length) : ((List.range (k + 1)).filter fun i => m.getD i false).map Int.ofNat = ((List.range k).filter fun i => m.getD i false).map Int.ofNat ++ if m[k] then [(k : Int)] else [] := by
  have e : m.getD k false = m[k] := by rw [List.getD_eq_getElem?_getD, List.getElem?_eq_getElem hk]; rfl
  rw [List.range_succ, List.filter_append, List.map_append]
  congr 1
  rw [List.filter_cons, List.filter_nil, e]
  cases m[k] <;> rfl
end Go.Proofs.YtnilempeldlieaaGreat
namespace Go.Proofs.YtnilempeldlieaaGreat
open Go.RowKit
set_option maxRecDepth 100000
theorem bools_none {w : World} {S : Option Addr} {xs : List Bool} (h : BoolsR w S xs) (hS : S = none) : xs = [] := by
  cases xs with
  | nil => rfl
  | cons x t => obtain ⟨b, o, e, _⟩ := h (by simp); rw [hS] at e; cases e
theorem wpList_append_bools {w : World} {ops : Array Oper} {rest : List Oper} {o : Oper} {a : Act} {Q : Exit → Act → World → Prop} (hgd : o.guard = none) (s x : Operand)
    (ho : o.op = .call { callee := .builtin .append, args := #[s, x], argTypes := #[55, 55] })
    (base : Nat) (v : Value) (n : Nat) (ys : List Bool) (hs : a.eval s = v) (hown : w.ownsRow base 4 1 v n (ys.map Value.bool))
    (S : Option Addr) (c k : Nat) (xs : List Bool) (hk : xs.length = k) (hx : a.eval x = .slice S k c) (hr : BoolsR w S xs) (hn : S = none → c = 0)
    (h63 : n + xs.length ≤ 1000000) (hbase : base ≤ w.heap.size)
    (h : ∀ v' w', w'.ownsRow base 4 1 v' (n + k) ((ys ++ xs).map Value.bool) → w.grownBy w' v.ownBlock → wpList Tryz.prog ops Q rest (a.put o.dst v') w') : wpList Tryz.prog ops Q (o :: rest) a w := by
  subst hk
  obtain ⟨i0, hi0, hz0, hz1, hz2⟩ := info_parts bool_info
  cases S with
  | none =>
    have hx0 := bools_none hr rfl
    subst hx0
    rw [hn rfl] at hx
    refine wpList_append_own_none hgd s x 55 ho base 4 i0 1 Tryz.underlying55 hi0 v n _ hs hown hx ?_
    exact h v w (by simpa using hown) (grown_refl _ _)
  | some ad =>
    refine wpList_append_own _ hgd s x 55 ho base 4 i0 (.bool false) 1 1 Tryz.underlying55 hi0 hz0 hz1 hz2 rfl (by decide) v n _ hs hown ad xs.length c (xs.map Value.bool) hx (by simp) ?_ ?_ (by unfold maxLen; omega) (by omega) hbase (fun v' w' h1 h2 _ => h v' w' (by simpa using h1) h2)
    · intro j u hj
      have hjn : j < xs.length := by have := (List.getElem?_eq_some_iff.1 hj).1; simpa using this
      obtain ⟨b, o, e, hlt, hc⟩ := hr (by omega)
      cases e
      have := hc j xs[j] (List.getElem?_eq_getElem hjn)
      rw [List.getElem?_map, List.getElem?_eq_getElem hjn] at hj
      cases hj
      rw [Addr.add_lit]
      exact this
    · intro u hu; obtain ⟨x, _, rfl⟩ := List.mem_map.1 hu; rfl
theorem own_no_bools (w : World) : (w.alloc (.cells #[] 4)).ownsRow w.heap.size 4 1 (.slice (some ⟨w.heap.size, 0, none⟩) 0 0) 0 (([] : List Bool).map Value.bool) := by
  have := World.ownsRow_made (e := 4) (size := 1) (base := w.heap.size) w #[] 0 (Nat.le_refl _) (Nat.zero_le _) rfl
  simpa using this
theorem map_set (l : List Bool) (i : Nat) (x : Bool) : (l.map Value.bool).set i (.bool x) = (l.set i x).map Value.bool := by rw [List.map_set]
theorem frozen_later {w w' : World} {b : Nat} {o : Nat} (hb : Below w.heap.size w w') (hlt : b < w.heap.size) (h : w.frozen? ⟨b, o, none⟩ = false) : w'.frozen? ⟨b, o, none⟩ = false := (hb.frozen (p := ⟨b, o, none⟩) hlt).trans h
end Go.Proofs.YtnilempeldlieaaGreat
