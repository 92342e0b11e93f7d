/- Classes, and methods, in plain mathematics: what a class is, what is found, and under what; that paths are short. -/
import Derived.Test.YtcahdhocilmoeaaL
namespace Go.Proofs.Ytcahdhocilmoeaa
open Go.RowKit
/-- a dictionary's slots, and whether it is one -/
def paL9 (h : Hp) (v : Int) : List Int := if refI h.objs.length v = 0 ∨ refI h.objs.length v < 0 ∨ (obAt h v).kind ≠ 0 then [] else (obAt h v).slots
def paB9 (h : Hp) (v : Int) : Bool := decide (refI h.objs.length v = 0) || (decide (0 ≤ refI h.objs.length v) && decide ((obAt h v).kind = 0))
/-- an object's slot -/
def sl9 (h : Hp) (c : Int) (k : Nat) : Int := (obAt h c).slots.getD k 0
/-- is it a class? -/
def clB9 (h : Hp) (c : Int) : Bool :=
  mayB h && (refB h.objs.length c && (decide ((obAt h c).kind = 0) && (decide (3 ≤ (obAt h c).slots.length) && (refB h.objs.length (sl9 h c 0) && (paB9 h (sl9 h c 1) && (nB (sl9 h c 2) && decide (0 ≤ nV (sl9 h c 2) ∧ nV (sl9 h c 2) ≤ 64)))))))
/-- what goes with the first pair of a selector -/
def pf9 : List Int → Int → Option Int
  | a :: b :: l, s => if a = s then some b else pf9 l s
  | _, _ => none
/-- what is found, through so many classes -/
def fi9 (h : Hp) (s : Int) : Nat → Int → Int × Int × Int
  | 0, _ => (0, 0, 91)
  | k + 1, c => if clB9 h c then (match pf9 (paL9 h (sl9 h c 1)) s with
      | some v => (v, c, 0)
      | none => if sl9 h c 0 = 0 ∨ k = 0 then (0, 0, 91) else fi9 h s k (sl9 h c 0)) else (0, 0, 90)
/-- is it under that, through so many classes? -/
def un9 (h : Hp) (d : Int) : Nat → Int → Bool
  | 0, _ => false
  | k + 1, c => clB9 h c && (decide (c = d) || (decide (sl9 h c 0 ≠ 0) && (decide (k ≠ 0) && un9 h d k (sl9 h c 0))))
/-- so many classes up; a path of classes -/
def up9 (h : Hp) : Nat → Int → Int
  | 0, c => c
  | k + 1, c => up9 h k (sl9 h c 0)
def pt9 (h : Hp) : Nat → Int → Prop
  | 0, c => clB9 h c = true
  | k + 1, c => clB9 h c = true ∧ sl9 h c 0 ≠ 0 ∧ pt9 h k (sl9 h c 0)
theorem pt9_cl {h : Hp} {k : Nat} {c : Int} (p : pt9 h k c) : clB9 h c = true := by
  cases k with
  | zero => exact p
  | succ k => exact p.1
theorem up9_add (h : Hp) (i j : Nat) (c : Int) : up9 h (i + j) c = up9 h j (up9 h i c) := by
  induction i generalizing c with
  | zero => rw [Nat.zero_add]; rfl
  | succ i ih =>
    rw [show i + 1 + j = (i + j) + 1 by omega]
    exact ih (sl9 h c 0)
theorem pt9_add {h : Hp} {i j : Nat} {c : Int} (h1 : pt9 h i c) (h2 : pt9 h j (up9 h i c)) : pt9 h (i + j) c := by
  induction i generalizing c with
  | zero => rw [Nat.zero_add]; exact h2
  | succ i ih =>
    rw [show i + 1 + j = (i + j) + 1 by omega]
    exact ⟨h1.1, h1.2.1, ih h1.2.2 h2⟩
theorem pt9_parts {h : Hp} {i j : Nat} {c : Int} (p : pt9 h (i + j) c) : pt9 h i c ∧ pt9 h j (up9 h i c) := by
  induction i generalizing c with
  | zero => rw [Nat.zero_add] at p; exact ⟨pt9_cl p, p⟩
  | succ i ih =>
    rw [show i + 1 + j = (i + j) + 1 by omega] at p
    obtain ⟨p1, p2, p3⟩ := p
    obtain ⟨q1, q2⟩ := ih p3
    exact ⟨⟨p1, p2, q1⟩, q2⟩
theorem cl9_ref {h : Hp} {c : Int} (p : clB9 h c = true) : refB h.objs.length c = true := by
  unfold clB9 at p
  simp only [Bool.and_eq_true] at p
  exact p.2.1
theorem ref_is9 {n : Nat} {v : Int} (p : refB n v = true) : v = 2 * atV v ∧ (atV v).toNat < n := by
  obtain ⟨h1, h2, h3⟩ := refB_no p
  have h4 := atB_iff.1 h1
  have h5 : atV v = v / 2 := by unfold atV; rw [if_pos h1]
  omega
/-- more than so many are not unlike -/
theorem pigeon9 (n : Nat) (f : Nat → Nat) (h : ∀ i, i ≤ n → f i < n) : ∃ i j, i < j ∧ j ≤ n ∧ f i = f j := by
  induction n generalizing f with
  | zero => have := h 0 (Nat.le_refl _); omega
  | succ n ih =>
    by_cases hx : ∃ i, i ≤ n ∧ f i = f (n + 1)
    · obtain ⟨i, hi, he⟩ := hx
      exact ⟨i, n + 1, by omega, Nat.le_refl _, he⟩
    · have hno : ∀ i, i ≤ n → f i ≠ f (n + 1) := fun i hi he => hx ⟨i, hi, he⟩
      have hl := h (n + 1) (Nat.le_refl _)
      obtain ⟨i, j, h1, h2, h3⟩ := ih (fun i => if f i = n then f (n + 1) else f i) fun i hi => by
        have h4 := h i (by omega)
        have h5 := hno i hi
        show (if f i = n then f (n + 1) else f i) < n
        split <;> omega
      refine ⟨i, j, h1, by omega, ?_⟩
      have h6 := hno i (by omega)
      have h7 := hno j (by omega)
      try simp only at h3
      split at h3 <;> split at h3 <;> omega
/-- what one comes to one comes to in fewer steps than there are objects -/
theorem short9 {h : Hp} {c : Int} {P : Int → Prop} (k : Nat) (p : pt9 h k c) (q : P (up9 h k c)) : ∃ j, j < h.objs.length ∧ pt9 h j c ∧ P (up9 h j c) := by
  induction k using Nat.strongRecOn with
  | ind k ih =>
    by_cases hk : k < h.objs.length
    · exact ⟨k, hk, p, q⟩
    · have hn : h.objs.length ≤ k := by omega
      have part : ∀ i, i ≤ k → pt9 h i c ∧ pt9 h (k - i) (up9 h i c) := fun i hi => pt9_parts (by rw [show i + (k - i) = k by omega]; exact p)
      obtain ⟨i, j, h1, h2, h3⟩ := pigeon9 h.objs.length (fun i => (atV (up9 h i c)).toNat) fun i hi => (ref_is9 (cl9_ref (pt9_cl (part i (by omega)).2))).2
      have ei := ref_is9 (cl9_ref (pt9_cl (part i (by omega)).2))
      have ej := ref_is9 (cl9_ref (pt9_cl (part j (by omega)).2))
      have ni := refB_no (cl9_ref (pt9_cl (part i (by omega)).2))
      have nj := refB_no (cl9_ref (pt9_cl (part j (by omega)).2))
      have e : up9 h i c = up9 h j c := by (try simp only at h3); omega
      refine ih (i + (k - j)) (by omega) (pt9_add (part i (by omega)).1 (by rw [e]; exact (part j (by omega)).2)) ?_
      rw [up9_add, e, ← up9_add, show j + (k - j) = k by omega]
      exact q
theorem un9_iff (h : Hp) (d : Int) (k : Nat) (c : Int) : un9 h d k c = true ↔ ∃ j, j < k ∧ pt9 h j c ∧ up9 h j c = d := by
  induction k generalizing c with
  | zero => exact ⟨(fun e => by cases e), fun ⟨j, hj, _⟩ => by omega⟩
  | succ k ih =>
    show (clB9 h c && (decide (c = d) || (decide (sl9 h c 0 ≠ 0) && (decide (k ≠ 0) && un9 h d k (sl9 h c 0))))) = true ↔ _
    simp only [Bool.and_eq_true, Bool.or_eq_true, decide_eq_true_eq, ih]
    constructor
    · rintro ⟨h1, h2 | ⟨h2, h3, j, h4, h5, h6⟩⟩
      · exact ⟨0, by omega, h1, h2⟩
      · exact ⟨j + 1, by omega, ⟨h1, h2, h5⟩, h6⟩
    · rintro ⟨j, h1, h2, h3⟩
      cases j with
      | zero => exact ⟨h2, .inl h3⟩
      | succ j => exact ⟨h2.1, .inr ⟨h2.2.1, by omega, j, by omega, h2.2.2, h3⟩⟩
theorem un9_trans {h : Hp} {a b c : Int} (hn : h.objs.length ≤ 64) (h1 : un9 h b 64 a = true) (h2 : un9 h c 64 b = true) : un9 h c 64 a = true := by
  obtain ⟨i, hi, p1, e1⟩ := (un9_iff h b 64 a).1 h1
  obtain ⟨j, hj, p2, e2⟩ := (un9_iff h c 64 b).1 h2
  rw [← e1] at p2 e2
  rw [← up9_add] at e2
  obtain ⟨k, k1, k2, k3⟩ := short9 (P := fun x => x = c) (i + j) (pt9_add p1 p2) e2
  exact (un9_iff h c 64 a).2 ⟨k, by omega, k2, k3⟩
theorem un9_self (h : Hp) (a : Int) : un9 h a 64 a = clB9 h a := by
  show (clB9 h a && (decide (a = a) || _)) = _
  simp
/-- has a class this selector itself? -/
def own9 (h : Hp) (s : Int) (c : Int) : Prop := pf9 (paL9 h (sl9 h c 1)) s ≠ none
theorem fi9_ok (h : Hp) (s : Int) (k : Nat) (c : Int) : (fi9 h s k c).2.2 = 0 ↔ ∃ j, j < k ∧ pt9 h j c ∧ own9 h s (up9 h j c) := by
  induction k generalizing c with
  | zero => exact ⟨(fun e => by cases e), fun ⟨j, hj, _⟩ => by omega⟩
  | succ k ih =>
    have e : fi9 h s (k + 1) c = if clB9 h c then (match pf9 (paL9 h (sl9 h c 1)) s with
      | some v => (v, c, 0)
      | none => if sl9 h c 0 = 0 ∨ k = 0 then (0, 0, 91) else fi9 h s k (sl9 h c 0)) else (0, 0, 90) := rfl
    rw [e]
    by_cases hc : clB9 h c = true
    · rw [if_pos hc]
      cases hp : pf9 (paL9 h (sl9 h c 1)) s with
      | some v =>
        simp only [true_iff]
        exact ⟨0, by omega, hc, by unfold own9; show pf9 (paL9 h (sl9 h c 1)) s ≠ none; rw [hp]; simp⟩
      | none =>
        have hno : ¬ own9 h s c := fun f => f hp
        simp only
        by_cases h0 : sl9 h c 0 = 0 ∨ k = 0
        · rw [if_pos h0]
          constructor
          · intro e; cases e
          · rintro ⟨j, h1, h2, h3⟩
            cases j with
            | zero => exact absurd h3 hno
            | succ j => rcases h0 with h0 | h0
                        · exact absurd h0 h2.2.1
                        · omega
        · rw [if_neg h0, ih]
          constructor
          · rintro ⟨j, h1, h2, h3⟩
            exact ⟨j + 1, by omega, ⟨hc, fun f => h0 (.inl f), h2⟩, h3⟩
          · rintro ⟨j, h1, h2, h3⟩
            cases j with
            | zero => exact absurd h3 hno
            | succ j => exact ⟨j, by omega, h2.2.2, h3⟩
    · rw [if_neg hc]
      constructor
      · intro e; cases e
      · rintro ⟨j, h1, h2, h3⟩
        exact absurd (pt9_cl h2) hc
theorem fi9_under {h : Hp} {a b s : Int} (hn : h.objs.length ≤ 64) (h1 : un9 h b 64 a = true) (h2 : (fi9 h s 64 b).2.2 = 0) : (fi9 h s 64 a).2.2 = 0 := by
  obtain ⟨i, hi, p1, e1⟩ := (un9_iff h b 64 a).1 h1
  obtain ⟨j, hj, p2, e2⟩ := (fi9_ok h s 64 b).1 h2
  rw [← e1] at p2 e2
  rw [← up9_add] at e2
  obtain ⟨k, k1, k2, k3⟩ := short9 (P := own9 h s) (i + j) (pt9_add p1 p2) e2
  exact (fi9_ok h s 64 a).2 ⟨k, by omega, k2, k3⟩
/-- an error tells nothing -/
theorem fi9_err (h : Hp) (s : Int) (k : Nat) (c : Int) : (fi9 h s k c).2.2 = 0 ∨ fi9 h s k c = (0, 0, 90) ∨ fi9 h s k c = (0, 0, 91) := by
  induction k generalizing c with
  | zero => exact .inr (.inr rfl)
  | succ k ih =>
    show (if clB9 h c then (match pf9 (paL9 h (sl9 h c 1)) s with
      | some v => (v, c, 0)
      | none => if sl9 h c 0 = 0 ∨ k = 0 then (0, 0, 91) else fi9 h s k (sl9 h c 0)) else (0, 0, 90) : Int × Int × Int).2.2 = 0 ∨ (if clB9 h c then (match pf9 (paL9 h (sl9 h c 1)) s with
      | some v => (v, c, 0)
      | none => if sl9 h c 0 = 0 ∨ k = 0 then (0, 0, 91) else fi9 h s k (sl9 h c 0)) else (0, 0, 90) : Int × Int × Int) = (0, 0, 90) ∨ (if clB9 h c then (match pf9 (paL9 h (sl9 h c 1)) s with
      | some v => (v, c, 0)
      | none => if sl9 h c 0 = 0 ∨ k = 0 then (0, 0, 91) else fi9 h s k (sl9 h c 0)) else (0, 0, 90) : Int × Int × Int) = (0, 0, 91)
    by_cases hc : clB9 h c = true
    · rw [if_pos hc]
      cases hp : pf9 (paL9 h (sl9 h c 1)) s with
      | some v => exact .inl rfl
      | none =>
        simp only
        by_cases h0 : sl9 h c 0 = 0 ∨ k = 0
        · rw [if_pos h0]; exact .inr (.inr rfl)
        · rw [if_neg h0]; exact ih _
    · rw [if_neg hc]; exact .inr (.inl rfl)
theorem fi9_step {h : Hp} {s c : Int} {k : Nat} (hc : clB9 h c = true) (hp : pf9 (paL9 h (sl9 h c 1)) s = none) : fi9 h s (k + 1) c = if sl9 h c 0 = 0 ∨ k = 0 then (0, 0, 91) else fi9 h s k (sl9 h c 0) := by
  show (if clB9 h c then (match pf9 (paL9 h (sl9 h c 1)) s with
      | some v => (v, c, 0)
      | none => if sl9 h c 0 = 0 ∨ k = 0 then (0, 0, 91) else fi9 h s k (sl9 h c 0)) else (0, 0, 90) : Int × Int × Int) = _
  rw [if_pos hc, hp]
theorem fi9_here {h : Hp} {s c v : Int} {k : Nat} (hc : clB9 h c = true) (hp : pf9 (paL9 h (sl9 h c 1)) s = some v) : fi9 h s (k + 1) c = (v, c, 0) := by
  show (if clB9 h c then (match pf9 (paL9 h (sl9 h c 1)) s with
      | some v => (v, c, 0)
      | none => if sl9 h c 0 = 0 ∨ k = 0 then (0, 0, 91) else fi9 h s k (sl9 h c 0)) else (0, 0, 90) : Int × Int × Int) = _
  rw [if_pos hc, hp]
theorem fi9_not {h : Hp} {s c : Int} {k : Nat} (hc : clB9 h c = false) : fi9 h s (k + 1) c = (0, 0, 90) := by
  show (if clB9 h c then (match pf9 (paL9 h (sl9 h c 1)) s with
      | some v => (v, c, 0)
      | none => if sl9 h c 0 = 0 ∨ k = 0 then (0, 0, 91) else fi9 h s k (sl9 h c 0)) else (0, 0, 90) : Int × Int × Int) = _
  rw [hc]; rfl
/-- what is found is its class's own; that is under none between -/
theorem fi9_at {h : Hp} {s c v at_ : Int} {k : Nat} (e : fi9 h s k c = (v, at_, 0)) : pf9 (paL9 h (sl9 h at_ 1)) s = some v ∧ un9 h at_ k c = true := by
  induction k generalizing c with
  | zero => cases e
  | succ k ih =>
    by_cases hc : clB9 h c = true
    · cases hp : pf9 (paL9 h (sl9 h c 1)) s with
      | some x =>
        rw [fi9_here hc hp] at e
        cases e
        exact ⟨hp, (un9_iff h _ (k + 1) _).2 ⟨0, by omega, hc, rfl⟩⟩
      | none =>
        rw [fi9_step hc hp] at e
        by_cases h0 : sl9 h c 0 = 0 ∨ k = 0
        · rw [if_pos h0] at e; cases e
        · rw [if_neg h0] at e
          obtain ⟨h1, h2⟩ := ih e
          obtain ⟨j, j1, j2, j3⟩ := (un9_iff h at_ k _).1 h2
          exact ⟨h1, (un9_iff h at_ (k + 1) c).2 ⟨j + 1, by omega, ⟨hc, fun f => h0 (.inl f), j2⟩, j3⟩⟩
    · rw [fi9_not (by simpa using hc)] at e; cases e
end Go.Proofs.Ytcahdhocilmoeaa
