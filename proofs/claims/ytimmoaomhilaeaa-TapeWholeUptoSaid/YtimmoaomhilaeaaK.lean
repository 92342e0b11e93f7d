/- heap.clone: the same heap in memory of the call's own. -/
import Derived.Test.YtimmoaomhilaeaaC
import Derived.Test.YtimmoaomhilaeaaG
import Derived.Deep.DeepCutAuto
namespace Go.Proofs.Ytimmoaomhilaeaa
open Go.RowKit
theorem own_ints {w : World} {base : Nat} {S : Option Addr} {c : Nat} {xs : List Int} (h : w.ownsRow base 3 1 (.slice S xs.length c) xs.length (xs.map (Value.int .i64))) : IntsR w S xs := fun hn => by
  obtain ⟨g, cap, hv, hb, hlt⟩ := h.form hn
  simp only [Value.slice.injEq, true_and] at hv
  obtain ⟨rfl, rfl⟩ := hv
  refine ⟨g, 0, rfl, hlt, fun j x hx => ?_⟩
  have hj : j < xs.length := (List.getElem?_eq_some_iff.1 hx).1
  rw [Nat.zero_add, h.cellAt j (by omega), List.getElem?_map, hx]; rfl

theorem LaidR.later {w w' : World} {A : Option Addr} {ls : List LO} (h : LaidR w A ls) (hb : Below w.heap.size w w') : LaidR w' A ls :=
  ⟨fun hn => by
    obtain ⟨b, off, e, hlt, hc⟩ := h.row hn
    exact ⟨b, off, e, Nat.lt_of_lt_of_le hlt hb.size, fun j u hu => cell_later hb (hc j u hu)⟩, fun l hl => (h.ints l hl).below hb, h.nils⟩

theorem rowOf_set (ls : List LO) (k : Nat) (l : LO) (S : Option Addr) (c : Nat) (hk : ls[k]? = some l) : rowOf (ls.set k ⟨l.o, S, c⟩) = (rowOf ls).set (k * 6 + 2) (.slice S l.o.slots.length c) := by
  apply List.ext_getElem?
  intro j
  have hkl : k < ls.length := (List.getElem?_eq_some_iff.1 hk).1
  by_cases hj : j < ls.length * 6
  · have hi : j / 6 < ls.length := by omega
    have e1 := rowOf_get ls (j / 6) (j % 6) ls[j / 6] (List.getElem?_eq_getElem hi) (by omega)
    have hi' : j / 6 < (ls.set k ⟨l.o, S, c⟩).length := by simpa using hi
    have e2 := rowOf_get (ls.set k ⟨l.o, S, c⟩) (j / 6) (j % 6) _ (List.getElem?_eq_getElem hi') (by omega)
    rw [show j / 6 * 6 + j % 6 = j by omega] at e1 e2
    rw [e2, List.getElem?_set, rowOf_length]
    by_cases hjk : k = j / 6
    · have hg : (ls.set k ⟨l.o, S, c⟩)[j / 6] = ⟨l.o, S, c⟩ := by rw [List.getElem_set]; rw [if_pos hjk]
      rw [hg]
      have hl : ls[j / 6] = l := by
        have h1 := List.getElem?_eq_getElem hi
        have h2 := hk
        rw [hjk, h1] at h2
        exact Option.some.inj h2
      rw [hl] at e1
      by_cases h2 : k * 6 + 2 = j
      · rw [if_pos h2, if_pos (by omega), show j % 6 = 2 by omega]; rfl
      · rw [if_neg h2, e1]
        have hr : j % 6 = 0 ∨ j % 6 = 1 ∨ j % 6 = 3 ∨ j % 6 = 4 ∨ j % 6 = 5 := by omega
        rcases hr with r | r | r | r | r <;> rw [r] <;> rfl
    · have hg : (ls.set k ⟨l.o, S, c⟩)[j / 6] = ls[j / 6] := by rw [List.getElem_set]; rw [if_neg hjk]
      rw [hg, if_neg (by omega), e1]
  · rw [List.getElem?_eq_none (by rw [rowOf_length]; simp; omega), List.getElem?_eq_none (by rw [List.length_set, rowOf_length]; omega)]
end Go.Proofs.Ytimmoaomhilaeaa
