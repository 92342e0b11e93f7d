/- Pairs, looked through two by two; what is found where one stands. -/
import Derived.Test.YtkpfmbdkfgeboaaGreatSE9
import Derived.Test.YtkpfmbdkfgeboaaGreatH0
namespace Go.Proofs.YtkpfmbdkfgeboaaGreat
open Go.RowKit
theorem pf9_end {l : List Int} {j : Nat} (h : ¬ j + 1 < l.length) (s : Int) : pf9 (l.drop j) s = none := by
  have hl : (l.drop j).length ≤ 1 := by rw [List.length_drop]; omega
  match l.drop j, hl with
  | [], _ => rfl
  | [a], _ => rfl
theorem pf9_next {l : List Int} {j : Nat} (h : j + 1 < l.length) (s : Int) : pf9 (l.drop j) s = if l[j] = s then some l[j + 1] else pf9 (l.drop (j + 2)) s := by
  rw [List.drop_eq_getElem_cons (show j < l.length by omega), List.drop_eq_getElem_cons h]; rfl
/-- one stands where it is found, in so many classes more -/
theorem fi9_goes {h : Hp} {s c v at_ : Int} {k : Nat} (e : fi9 h s k c = (v, at_, 0)) : ∃ m, k = m + 1 ∧ clB9 h c = true ∧
    ((pf9 (paL9 h (sl9 h c 1)) s = some v ∧ c = at_) ∨ (pf9 (paL9 h (sl9 h c 1)) s = none ∧ c ≠ at_ ∧ fi9 h s m (sl9 h c 0) = (v, at_, 0))) := by
  cases k with
  | zero => cases e
  | succ m =>
    have hat := (fi9_at e).1
    cases hc : clB9 h c with
    | false => rw [fi9_not hc] at e; cases e
    | true =>
      refine ⟨m, rfl, rfl, ?_⟩
      cases hp : pf9 (paL9 h (sl9 h c 1)) s with
      | some x =>
        rw [fi9_here hc hp] at e
        cases e
        exact .inl ⟨rfl, rfl⟩
      | none =>
        rw [fi9_step hc hp] at e
        refine .inr ⟨rfl, fun f => ?_, ?_⟩
        · rw [f, hat] at hp; cases hp
        · by_cases h0 : sl9 h c 0 = 0 ∨ m = 0
          · rw [if_pos h0] at e; cases e
          · rw [if_neg h0] at e; exact e
theorem cl9_parts {h : Hp} {c : Int} (p : clB9 h c = true) : refB h.objs.length c = true ∧ (obAt h c).kind = 0 ∧ 3 ≤ (obAt h c).slots.length ∧ refB h.objs.length (sl9 h c 0) = true ∧ paB9 h (sl9 h c 1) = true := by
  unfold clB9 at p
  simp only [Bool.and_eq_true, decide_eq_true_eq] at p
  exact ⟨p.2.1, p.2.2.1, p.2.2.2.1, p.2.2.2.2.1, p.2.2.2.2.2.1⟩
theorem pa9_is {h : Hp} {v : Int} (p : paB9 h v = true) : refB h.objs.length v = true ∧ (v = 0 → paL9 h v = []) ∧ (v ≠ 0 → paL9 h v = (obAt h v).slots) := by
  have hr : refB h.objs.length v = true := by
    cases hr : refB h.objs.length v with
    | true => rfl
    | false =>
      have e : refI h.objs.length v = -1 := by unfold refI; rw [if_neg (by rw [hr]; decide)]
      unfold paB9 at p
      rw [e] at p
      cases p
  refine ⟨hr, fun h0 => ?_, fun h0 => ?_⟩
  · subst h0
    unfold paL9
    rw [if_pos (.inl (by rw [refI_nonneg hr]; decide +kernel))]
  · obtain ⟨-, hk⟩ := pa9_ref p h0
    have hp := ref_pos9 hr h0
    unfold paL9
    rw [if_neg (by rintro (e | e | e) <;> first | omega | exact e hk)]
theorem cell_far9 {w : World} {g b i o : Nat} {u v : Value} (hne : b ≠ g) (h : w.cell? ⟨b, o, none⟩ = some v) : (w.setCell ⟨g, i, none⟩ u).cell? ⟨b, o, none⟩ = some v := by
  rw [World.cell?_setCell_other _ _ _ _ (by intro e; exact hne (congrArg Addr.block e).symm)]; exact h
theorem far69 {w : World} {g b o : Nat} {v v0 v1 v2 v3 v4 v5 : Value} (hne : b ≠ g) (h : w.cell? ⟨b, o, none⟩ = some v) :
    ((((((w.setCell ⟨g, 0, none⟩ v0).setCell ⟨g, 1, none⟩ v1).setCell ⟨g, 2, none⟩ v2).setCell ⟨g, 3, none⟩ v3).setCell ⟨g, 4, none⟩ v4).setCell ⟨g, 5, none⟩ v5).cell? ⟨b, o, none⟩ = some v :=
  cell_far9 hne (cell_far9 hne (cell_far9 hne (cell_far9 hne (cell_far9 hne (cell_far9 hne h)))))
end Go.Proofs.YtkpfmbdkfgeboaaGreat
