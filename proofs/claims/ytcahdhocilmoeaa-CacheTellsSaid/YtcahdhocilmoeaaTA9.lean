/- The classes that one goes through, one above the other, each with whether it is one, as a list; what is found, and what lies above, told by that list. -/
import Derived.Test.YtcahdhocilmoeaaSE9
namespace Go.Proofs.Ytcahdhocilmoeaa
open Go.RowKit
def ups9 (h : Hp) : Nat → Int → List (Int × Bool)
  | 0, _ => []
  | k + 1, c => (c, clB9 h c) :: (if clB9 h c = true ∧ sl9 h c 0 ≠ 0 then ups9 h k (sl9 h c 0) else [])
def gf9 (h : Hp) (s : Int) : List (Int × Bool) → Int × Int × Int
  | [] => (0, 0, 91)
  | x :: l => if x.2 then (match pf9 (paL9 h (sl9 h x.1 1)) s with
      | some v => (v, x.1, 0)
      | none => gf9 h s l) else (0, 0, 90)
def gu9 (d : Int) (l : List (Int × Bool)) : Bool := l.any fun x => x.2 && decide (x.1 = d)
theorem gf9_ups (h : Hp) (s : Int) (k : Nat) (c : Int) : gf9 h s (ups9 h k c) = fi9 h s k c := by
  induction k generalizing c with
  | zero => rfl
  | succ k ih =>
    show (if clB9 h c then (match pf9 (paL9 h (sl9 h c 1)) s with
      | some v => (v, c, 0)
      | none => gf9 h s (if clB9 h c = true ∧ sl9 h c 0 ≠ 0 then ups9 h k (sl9 h c 0) else [])) else (0, 0, 90) : Int × Int × Int) = _
    cases hc : clB9 h c with
    | false => rw [fi9_not hc]; rfl
    | true =>
      rw [if_pos rfl]
      cases hp : pf9 (paL9 h (sl9 h c 1)) s with
      | some v => rw [fi9_here hc hp]
      | none =>
        rw [fi9_step hc hp]
        by_cases h0 : sl9 h c 0 = 0
        · rw [if_neg (show ¬ (true = true ∧ sl9 h c 0 ≠ 0) from fun f => f.2 h0), if_pos (show sl9 h c 0 = 0 ∨ k = 0 from .inl h0)]; rfl
        · rw [if_pos (show true = true ∧ sl9 h c 0 ≠ 0 from ⟨rfl, h0⟩)]
          show gf9 h s (ups9 h k (sl9 h c 0)) = _
          by_cases hk : k = 0
          · subst hk; rw [if_pos (.inr rfl)]; rfl
          · rw [if_neg (by rintro (e | e) <;> contradiction)]
            exact ih _
theorem gu9_ups (h : Hp) (d : Int) (k : Nat) (c : Int) : gu9 d (ups9 h k c) = un9 h d k c := by
  induction k generalizing c with
  | zero => rfl
  | succ k ih =>
    show ((clB9 h c && decide (c = d)) || gu9 d (if clB9 h c = true ∧ sl9 h c 0 ≠ 0 then ups9 h k (sl9 h c 0) else [])) = (clB9 h c && (decide (c = d) || (decide (sl9 h c 0 ≠ 0) && (decide (k ≠ 0) && un9 h d k (sl9 h c 0)))))
    cases hc : clB9 h c with
    | false => rfl
    | true =>
      by_cases h0 : sl9 h c 0 = 0
      · rw [if_neg (show ¬ (true = true ∧ sl9 h c 0 ≠ 0) from fun f => f.2 h0), decide_eq_false (show ¬ sl9 h c 0 ≠ 0 from fun f => f h0)]
        simp [gu9]
      · rw [if_pos (show true = true ∧ sl9 h c 0 ≠ 0 from ⟨rfl, h0⟩), decide_eq_true h0, ih]
        by_cases hk : k = 0
        · subst hk; rfl
        · rw [decide_eq_true hk]; rfl
/-- what each pair of that list is -/
abbrev Pc9 (h : Hp) : Type := { x : Int × Bool // x.2 = clB9 h x.1 }
def upc9 (h : Hp) : Nat → Int → List (Pc9 h)
  | 0, _ => []
  | k + 1, c => ⟨(c, clB9 h c), rfl⟩ :: (if clB9 h c = true ∧ sl9 h c 0 ≠ 0 then upc9 h k (sl9 h c 0) else [])
theorem upc9_val (h : Hp) (k : Nat) (c : Int) : (upc9 h k c).map (·.1) = ups9 h k c := by
  induction k generalizing c with
  | zero => rfl
  | succ k ih =>
    show (c, clB9 h c) :: ((if clB9 h c = true ∧ sl9 h c 0 ≠ 0 then upc9 h k (sl9 h c 0) else []).map (·.1)) = (c, clB9 h c) :: _
    by_cases hx : clB9 h c = true ∧ sl9 h c 0 ≠ 0
    · rw [if_pos hx, if_pos hx, ih]
    · rw [if_neg hx, if_neg hx]; rfl
theorem upc9_len (h : Hp) (k : Nat) (c : Int) : (upc9 h k c).length ≤ k := by
  induction k generalizing c with
  | zero => exact Nat.le_refl _
  | succ k ih =>
    show (if clB9 h c = true ∧ sl9 h c 0 ≠ 0 then upc9 h k (sl9 h c 0) else []).length + 1 ≤ k + 1
    split
    · have := ih (sl9 h c 0); omega
    · simp
/-- found in none of these: what comes behind them tells -/
theorem gf9_miss {h : Hp} {s : Int} {pre : List (Int × Bool)} (hp : ∀ l, gf9 h s (pre ++ l) = gf9 h s l) {a : Int} (hx : pf9 (paL9 h (sl9 h a 1)) s = none) : ∀ l, gf9 h s ((pre ++ [(a, true)]) ++ l) = gf9 h s l := fun l => by
  rw [List.append_assoc, hp]
  show (match pf9 (paL9 h (sl9 h a 1)) s with | some v => (v, a, 0) | none => gf9 h s l : Int × Int × Int) = _
  rw [hx]
theorem gf9_hit {h : Hp} {s : Int} {pre : List (Int × Bool)} (hp : ∀ l, gf9 h s (pre ++ l) = gf9 h s l) {a v : Int} (hx : pf9 (paL9 h (sl9 h a 1)) s = some v) : ∀ l, gf9 h s ((pre ++ [(a, true)]) ++ l) = (v, a, 0) := fun l => by
  rw [List.append_assoc, hp]
  show (match pf9 (paL9 h (sl9 h a 1)) s with | some v => (v, a, 0) | none => gf9 h s l : Int × Int × Int) = _
  rw [hx]
theorem gf9_not {h : Hp} {s : Int} {pre : List (Int × Bool)} (hp : ∀ l, gf9 h s (pre ++ l) = gf9 h s l) {a : Int} : ∀ l, gf9 h s ((pre ++ [(a, false)]) ++ l) = (0, 0, 90) := fun l => by
  rw [List.append_assoc, hp]; rfl
end Go.Proofs.Ytcahdhocilmoeaa
