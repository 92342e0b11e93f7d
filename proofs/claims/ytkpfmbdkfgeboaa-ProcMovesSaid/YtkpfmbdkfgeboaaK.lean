/- heap.clone: the same heap in memory of the call's own. -/
import Derived.Test.YtkpfmbdkfgeboaaC
import Derived.Test.YtkpfmbdkfgeboaaG
import Derived.Deep.DeepCutAuto
namespace Go.Proofs.Ytkpfmbdkfgeboaa
open Go.RowKit
theorem own_ints {w : World} {base : Nat} {S : Option Addr} {c : Nat} {xs : List Int} (h : w.ownsRow base 3 1 (.slice S xs.length c) xs.length (xs.map (Value.int .i64))) : IntsR w S xs := fun hn => by
  obtain ⟨g, cap, hv, hb, hlt⟩ := h.form hn
  simp only [Value.slice.injEq, true_and] at hv
  obtain ⟨rfl, rfl⟩ := hv
  refine ⟨g, 0, rfl, hlt, fun j x hx => ?_⟩
  have hj : j < xs.length := (List.getElem?_eq_some_iff.1 hx).1
  rw [Nat.zero_add, h.cellAt j (by omega), List.getElem?_map, hx]; rfl

/-- a heap's objects in memory of the call's own, each one's slots in a block of its own -/
structure OwnH (w : World) (base : Nat) (A : Option Addr) (c : Nat) (ls : List LO) : Prop where
  row : w.ownsRow base 43 6 (.slice A ls.length c) ls.length (rowOf ls)
  ints : ∀ (i : Nat) (l : LO), ls[i]? = some l → w.ownsRow base 3 1 (.slice l.S l.o.slots.length l.c) l.o.slots.length (l.o.slots.map (Value.int .i64))
  apart : ∀ (i j : Nat) (li lj : LO) (a b : Addr), ls[i]? = some li → ls[j]? = some lj → i < j → li.S = some a → lj.S = some b → a.block ≠ b.block
theorem OwnH.later {w w' : World} {base : Nat} {A : Option Addr} {c : Nat} {ls : List LO} (h : OwnH w base A c ls) (hb : Below w.heap.size w w') : OwnH w' base A c ls :=
  ⟨own_later h.row hb, fun i l hl => own_later (h.ints i l hl) hb, h.apart⟩
theorem OwnH.laid {w : World} {base : Nat} {A : Option Addr} {c : Nat} {ls : List LO} (h : OwnH w base A c ls) : LaidR w A ls where
  row := fun hn => by
    obtain ⟨g, cap, hv, hb, hlt⟩ := h.row.form hn
    simp only [Value.slice.injEq, true_and] at hv
    obtain ⟨rfl, rfl⟩ := hv
    refine ⟨g, 0, rfl, hlt, fun j u hu => ?_⟩
    have hj : j < (rowOf ls).length := (List.getElem?_eq_some_iff.1 hu).1
    rw [rowOf_length] at hj
    rw [Nat.zero_add, h.row.cellAt j hj, hu]
  ints := fun l hl => by
    obtain ⟨i, hi, rfl⟩ := List.getElem_of_mem hl
    exact own_ints (h.ints i _ (List.getElem?_eq_getElem hi))
  nils := fun l hl => by
    obtain ⟨i, hi, rfl⟩ := List.getElem_of_mem hl
    exact own_nil (h.ints i _ (List.getElem?_eq_getElem hi))
theorem OwnH.obs {w : World} {base : Nat} {A : Option Addr} {c : Nat} {ls : List LO} (h : OwnH w base A c ls) : ObsR w A (ls.map (·.o)) :=
  h.laid.obs fun l hl => by
    obtain ⟨i, hi, rfl⟩ := List.getElem_of_mem hl
    exact own_cap (h.ints i _ (List.getElem?_eq_getElem hi))

theorem LaidR.later {w w' : World} {A : Option Addr} {ls : List LO} (h : LaidR w A ls) (hb : Below w.heap.size w w') : LaidR w' A ls :=
  ⟨fun hn => by
    obtain ⟨b, off, e, hlt, hc⟩ := h.row hn
    exact ⟨b, off, e, Nat.lt_of_lt_of_le hlt hb.size, fun j u hu => cell_later hb (hc j u hu)⟩, fun l hl => (h.ints l hl).below hb, h.nils⟩

structure CloneK (w : World) (base : Nat) (A1 : Option Addr) (c1 : Nat) (ls : List LO) (k : Nat) (cur : List LO) : Prop where
  same : cur.map (·.o) = ls.map (·.o)
  row : w.ownsRow base 43 6 (.slice A1 ls.length c1) ls.length (rowOf cur)
  old : ∀ i, k ≤ i → cur[i]? = ls[i]?
  ints : ∀ (i : Nat) (l : LO), i < k → cur[i]? = some l → w.ownsRow base 3 1 (.slice l.S l.o.slots.length l.c) l.o.slots.length (l.o.slots.map (Value.int .i64))
  apart : ∀ (i j : Nat) (li lj : LO) (a b : Addr), i < j → j < k → cur[i]? = some li → cur[j]? = some lj → li.S = some a → lj.S = some b → a.block ≠ b.block
theorem CloneK.len {w : World} {base : Nat} {A1 : Option Addr} {c1 : Nat} {ls : List LO} {k : Nat} {cur : List LO} (h : CloneK w base A1 c1 ls k cur) : cur.length = ls.length := by
  have := congrArg List.length h.same
  simpa using this
theorem CloneK.start {w : World} {base : Nat} {A1 : Option Addr} {c1 : Nat} {ls : List LO} (h : w.ownsRow base 43 6 (.slice A1 ls.length c1) ls.length (rowOf ls)) : CloneK w base A1 c1 ls 0 ls :=
  ⟨rfl, h, fun _ _ => rfl, fun i l hi => absurd hi (by omega), fun i j _ _ _ _ _ hj => absurd hj (by omega)⟩
theorem CloneK.later {w w' : World} {base : Nat} {A1 : Option Addr} {c1 : Nat} {ls : List LO} {k : Nat} {cur : List LO} (h : CloneK w base A1 c1 ls k cur) (hb : Below w.heap.size w w') : CloneK w' base A1 c1 ls k cur :=
  ⟨h.same, own_later h.row hb, h.old, fun i l hi hl => own_later (h.ints i l hi hl) hb, h.apart⟩
theorem CloneK.low {w : World} {base : Nat} {A1 : Option Addr} {c1 : Nat} {ls : List LO} {k : Nat} {cur : List LO} (h : CloneK w base A1 c1 ls k cur) {p : Addr} (hp : p.block < base) (u : Value) : CloneK (w.setCell p u) base A1 c1 ls k cur :=
  ⟨h.same, ownsRow_setCell_below h.row hp u, h.old, fun i l hi hl => ownsRow_setCell_below (h.ints i l hi hl) hp u, h.apart⟩
theorem CloneK.fin {w : World} {base B : Nat} {A1 : Option Addr} {c1 : Nat} {ls : List LO} {cur : List LO} (h : CloneK w base A1 c1 ls ls.length cur) (hB : B ≤ base) : OwnH w B A1 c1 cur := by
  have hl := h.len
  refine ⟨by rw [hl]; exact own_lower h.row hB, fun i l hi => ?_, fun i j li lj a b hi hj hij => h.apart i j li lj a b hij ?_ hi hj⟩
  · have : i < cur.length := (List.getElem?_eq_some_iff.1 hi).1
    exact own_lower (h.ints i l (by omega) hi) hB
  · have : j < cur.length := (List.getElem?_eq_some_iff.1 hj).1
    omega
theorem rowOf_set (ls : List LO) (k : Nat) (l : LO) (S : Option Addr) (c : Nat) (hk : ls[k]? = some l) : rowOf (ls.set k ⟨l.o, S, c⟩) = (rowOf ls).set (k * 6 + 2) (.slice S l.o.slots.length c) := by
  apply List.ext_getElem?
  intro j
  have hkl : k < ls.length := (List.getElem?_eq_some_iff.1 hk).1
  by_cases hj : j < ls.length * 6
  · have hi : j / 6 < ls.length := by omega
    have e1 := rowOf_get ls (j / 6) (j % 6) ls[j / 6] (List.getElem?_eq_getElem hi) (by omega)
    have hi' : j / 6 < (ls.set k ⟨l.o, S, c⟩).length := by simpa using hi
    have e2 := rowOf_get (ls.set k ⟨l.o, S, c⟩) (j / 6) (j % 6) _ (List.getElem?_eq_getElem hi') (by omega)
    rw [show j / 6 * 6 + j % 6 = j by omega] at e1 e2
    rw [e2, List.getElem?_set, rowOf_length]
    by_cases hjk : k = j / 6
    · have hg : (ls.set k ⟨l.o, S, c⟩)[j / 6] = ⟨l.o, S, c⟩ := by rw [List.getElem_set]; rw [if_pos hjk]
      rw [hg]
      have hl : ls[j / 6] = l := by
        have h1 := List.getElem?_eq_getElem hi
        have h2 := hk
        rw [hjk, h1] at h2
        exact Option.some.inj h2
      rw [hl] at e1
      by_cases h2 : k * 6 + 2 = j
      · rw [if_pos h2, if_pos (by omega), show j % 6 = 2 by omega]; rfl
      · rw [if_neg h2, e1]
        have hr : j % 6 = 0 ∨ j % 6 = 1 ∨ j % 6 = 3 ∨ j % 6 = 4 ∨ j % 6 = 5 := by omega
        rcases hr with r | r | r | r | r <;> rw [r] <;> rfl
    · have hg : (ls.set k ⟨l.o, S, c⟩)[j / 6] = ls[j / 6] := by rw [List.getElem_set]; rw [if_neg hjk]
      rw [hg, if_neg (by omega), e1]
  · rw [List.getElem?_eq_none (by rw [rowOf_length]; simp; omega), List.getElem?_eq_none (by rw [List.length_set, rowOf_length]; omega)]
theorem CloneK.step {w : World} {base : Nat} {g c1 : Nat} {ls : List LO} {k : Nat} {cur : List LO} (h : CloneK w base (some ⟨g, 0, none⟩) c1 ls k cur) {l : LO} (hk : cur[k]? = some l)
    {b : Nat} {S : Option Addr} {c : Nat} (hS : w.ownsRow b 3 1 (.slice S l.o.slots.length c) l.o.slots.length (l.o.slots.map (Value.int .i64))) (hb : base ≤ b)
    (hnew : ∀ i li a, i < k → cur[i]? = some li → li.S = some a → a.block < b) :
    CloneK (w.setCell ⟨g, k * 6 + 2, none⟩ (.slice S l.o.slots.length c)) base (some ⟨g, 0, none⟩) c1 ls (k + 1) (cur.set k ⟨l.o, S, c⟩) := by
  have hkl : k < cur.length := (List.getElem?_eq_some_iff.1 hk).1
  obtain ⟨cur0, hB, _, _, _⟩ := own_blk h.row
  refine ⟨?_, ?_, fun i hi => ?_, fun i m hi hm => ?_, fun i j li lj a b' hij hj hi hj' ha hb' => ?_⟩
  · rw [← h.same]
    apply List.ext_getElem?
    intro j
    rw [List.getElem?_map, List.getElem?_map, List.getElem?_set]
    by_cases e : k = j
    · subst e; rw [if_pos rfl, if_pos hkl, hk]; rfl
    · rw [if_neg e]
  · rw [rowOf_set _ _ _ _ _ hk]
    exact (h.row.stored _ _).1
  · rw [List.getElem?_set, if_neg (by omega)]; exact h.old i (by omega)
  · rw [List.getElem?_set] at hm
    by_cases e : k = i
    · subst e
      rw [if_pos rfl, if_pos hkl] at hm
      cases hm
      exact own_lower (ownsRow_setCell_other hS (own_blk_ne hS hB (by decide)) _) hb
    · rw [if_neg e] at hm
      have h3 := h.ints i m (by omega) hm
      exact ownsRow_setCell_other h3 (own_blk_ne h3 hB (by decide)) _
  · rw [List.getElem?_set] at hi hj'
    rw [if_neg (by omega)] at hi
    by_cases e : k = j
    · subst e
      rw [if_pos rfl, if_pos hkl] at hj'
      cases hj'
      have h1 := hnew i li a (by omega) hi ha
      have hb2 : S = some b' := hb'
      subst hb2
      obtain ⟨_, _, _, _, h2⟩ := own_blk (b := b'.block) (o := b'.off) (s := b'.spot) hS
      omega
    · rw [if_neg e] at hj'
      exact h.apart i j li lj a b' hij (by omega) hi hj' ha hb'
theorem CloneK.blk_lt {w : World} {base : Nat} {A1 : Option Addr} {c1 : Nat} {ls : List LO} {k : Nat} {cur : List LO} (h : CloneK w base A1 c1 ls k cur) {i : Nat} {li : LO} {a : Addr} (hi : i < k) (hl : cur[i]? = some li) (ha : li.S = some a) : a.block < w.heap.size := by
  have h1 := h.ints i li hi hl
  rw [ha] at h1
  exact (h1.lt a.block rfl).2
end Go.Proofs.Ytkpfmbdkfgeboaa
