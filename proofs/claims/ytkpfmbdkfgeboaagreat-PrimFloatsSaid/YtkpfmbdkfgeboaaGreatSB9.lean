/- Classes, and methods, in plain mathematics: what a class is, what is found, and under what; that paths are short. A pair laid first into a class's own dictionary, in plain mathematics. -/
import Derived.Test.YtkpfmbdkfgeboaaGreatL
namespace Go.Proofs.YtkpfmbdkfgeboaaGreat
open Go.RowKit
/-- a dictionary's slots, and whether it is one -/
def paL9 (h : Hp) (v : Int) : List Int := if refI h.objs.length v = 0 ∨ refI h.objs.length v < 0 ∨ (obAt h v).kind ≠ 0 then [] else (obAt h v).slots
def paB9 (h : Hp) (v : Int) : Bool := decide (refI h.objs.length v = 0) || (decide (0 ≤ refI h.objs.length v) && decide ((obAt h v).kind = 0))
/-- an object's slot -/
def sl9 (h : Hp) (c : Int) (k : Nat) : Int := (obAt h c).slots.getD k 0
/-- is it a class? -/
def clB9 (h : Hp) (c : Int) : Bool :=
  mayB h && (refB h.objs.length c && (decide ((obAt h c).kind = 0) && (decide (3 ≤ (obAt h c).slots.length) && (refB h.objs.length (sl9 h c 0) && (paB9 h (sl9 h c 1) && (nB (sl9 h c 2) && decide (0 ≤ nV (sl9 h c 2) ∧ nV (sl9 h c 2) ≤ 64)))))))
/-- what goes with the first pair of a selector -/
def pf9 : List Int → Int → Option Int
  | a :: b :: l, s => if a = s then some b else pf9 l s
  | _, _ => none
/-- what is found, through so many classes -/
def fi9 (h : Hp) (s : Int) : Nat → Int → Int × Int × Int
  | 0, _ => (0, 0, 91)
  | k + 1, c => if clB9 h c then (match pf9 (paL9 h (sl9 h c 1)) s with
      | some v => (v, c, 0)
      | none => if sl9 h c 0 = 0 ∨ k = 0 then (0, 0, 91) else fi9 h s k (sl9 h c 0)) else (0, 0, 90)
/-- is it under that, through so many classes? -/
def un9 (h : Hp) (d : Int) : Nat → Int → Bool
  | 0, _ => false
  | k + 1, c => clB9 h c && (decide (c = d) || (decide (sl9 h c 0 ≠ 0) && (decide (k ≠ 0) && un9 h d k (sl9 h c 0))))
/-- so many classes up; a path of classes -/
def up9 (h : Hp) : Nat → Int → Int
  | 0, c => c
  | k + 1, c => up9 h k (sl9 h c 0)
def pt9 (h : Hp) : Nat → Int → Prop
  | 0, c => clB9 h c = true
  | k + 1, c => clB9 h c = true ∧ sl9 h c 0 ≠ 0 ∧ pt9 h k (sl9 h c 0)
theorem pt9_cl {h : Hp} {k : Nat} {c : Int} (p : pt9 h k c) : clB9 h c = true := by
  cases k with
  | zero => exact p
  | succ k => exact p.1
theorem up9_add (h : Hp) (i j : Nat) (c : Int) : up9 h (i + j) c = up9 h j (up9 h i c) := by
  induction i generalizing c with
  | zero => rw [Nat.zero_add]; rfl
  | succ i ih =>
    rw [show i + 1 + j = (i + j) + 1 by omega]
    exact ih (sl9 h c 0)
theorem pt9_add {h : Hp} {i j : Nat} {c : Int} (h1 : pt9 h i c) (h2 : pt9 h j (up9 h i c)) : pt9 h (i + j) c := by
  induction i generalizing c with
  | zero => rw [Nat.zero_add]; exact h2
  | succ i ih =>
    rw [show i + 1 + j = (i + j) + 1 by omega]
    exact ⟨h1.1, h1.2.1, ih h1.2.2 h2⟩
theorem pt9_parts {h : Hp} {i j : Nat} {c : Int} (p : pt9 h (i + j) c) : pt9 h i c ∧ pt9 h j (up9 h i c) := by
  induction i generalizing c with
  | zero => rw [Nat.zero_add] at p; exact ⟨pt9_cl p, p⟩
  | succ i ih =>
    rw [show i + 1 + j = (i + j) + 1 by omega] at p
    obtain ⟨p1, p2, p3⟩ := p
    obtain ⟨q1, q2⟩ := ih p3
    exact ⟨⟨p1, p2, q1⟩, q2⟩
theorem cl9_ref {h : Hp} {c : Int} (p : clB9 h c = true) : refB h.objs.length c = true := by
  unfold clB9 at p
  simp only [Bool.and_eq_true] at p
  exact p.2.1
theorem ref_is9 {n : Nat} {v : Int} (p : refB n v = true) : v = 2 * atV v ∧ (atV v).toNat < n := by
  obtain ⟨h1, h2, h3⟩ := refB_no p
  have h4 := atB_iff.1 h1
  have h5 : atV v = v / 2 := by unfold atV; rw [if_pos h1]
  omega
/-- more than so many are not unlike -/
theorem pigeon9 (n : Nat) (f : Nat → Nat) (h : ∀ i, i ≤ n → f i < n) : ∃ i j, i < j ∧ j ≤ n ∧ f i = f j := by
  induction n generalizing f with
  | zero => have := h 0 (Nat.le_refl _); omega
  | succ n ih =>
    by_cases hx : ∃ i, i ≤ n ∧ f i = f (n + 1)
    · obtain ⟨i, hi, he⟩ := hx
      exact ⟨i, n + 1, by omega, Nat.le_refl _, he⟩
    · have hno : ∀ i, i ≤ n → f i ≠ f (n + 1) := fun i hi he => hx ⟨i, hi, he⟩
      have hl := h (n + 1) (Nat.le_refl _)
      obtain ⟨i, j, h1, h2, h3⟩ := ih (fun i => if f i = n then f (n + 1) else f i) fun i hi => by
        have h4 := h i (by omega)
        have h5 := hno i hi
        show (if f i = n then f (n + 1) else f i) < n
        split <;> omega
      refine ⟨i, j, h1, by omega, ?_⟩
      have h6 := hno i (by omega)
      have h7 := hno j (by omega)
      try simp only at h3
      split at h3 <;> split at h3 <;> omega
/-- what one comes to one comes to in fewer steps than there are objects -/
theorem short9 {h : Hp} {c : Int} {P : Int → Prop} (k : Nat) (p : pt9 h k c) (q : P (up9 h k c)) : ∃ j, j < h.objs.length ∧ pt9 h j c ∧ P (up9 h j c) := by
  induction k using Nat.strongRecOn with
  | ind k ih =>
    by_cases hk : k < h.objs.length
    · exact ⟨k, hk, p, q⟩
    · have hn : h.objs.length ≤ k := by omega
      have part : ∀ i, i ≤ k → pt9 h i c ∧ pt9 h (k - i) (up9 h i c) := fun i hi => pt9_parts (by rw [show i + (k - i) = k by omega]; exact p)
      obtain ⟨i, j, h1, h2, h3⟩ := pigeon9 h.objs.length (fun i => (atV (up9 h i c)).toNat) fun i hi => (ref_is9 (cl9_ref (pt9_cl (part i (by omega)).2))).2
      have ei := ref_is9 (cl9_ref (pt9_cl (part i (by omega)).2))
      have ej := ref_is9 (cl9_ref (pt9_cl (part j (by omega)).2))
      have ni := refB_no (cl9_ref (pt9_cl (part i (by omega)).2))
      have nj := refB_no (cl9_ref (pt9_cl (part j (by omega)).2))
      have e : up9 h i c = up9 h j c := by (try simp only at h3); omega
      refine ih (i + (k - j)) (by omega) (pt9_add (part i (by omega)).1 (by rw [e]; exact (part j (by omega)).2)) ?_
      rw [up9_add, e, ← up9_add, show j + (k - j) = k by omega]
      exact q
theorem un9_iff (h : Hp) (d : Int) (k : Nat) (c : Int) : un9 h d k c = true ↔ ∃ j, j < k ∧ pt9 h j c ∧ up9 h j c = d := by
  induction k generalizing c with
  | zero => exact ⟨(fun e => by cases e), fun ⟨j, hj, _⟩ => by omega⟩
  | succ k ih =>
    show (clB9 h c && (decide (c = d) || (decide (sl9 h c 0 ≠ 0) && (decide (k ≠ 0) && un9 h d k (sl9 h c 0))))) = true ↔ _
    simp only [Bool.and_eq_true, Bool.or_eq_true, decide_eq_true_eq, ih]
    constructor
    · rintro ⟨h1, h2 | ⟨h2, h3, j, h4, h5, h6⟩⟩
      · exact ⟨0, by omega, h1, h2⟩
      · exact ⟨j + 1, by omega, ⟨h1, h2, h5⟩, h6⟩
    · rintro ⟨j, h1, h2, h3⟩
      cases j with
      | zero => exact ⟨h2, .inl h3⟩
      | succ j => exact ⟨h2.1, .inr ⟨h2.2.1, by omega, j, by omega, h2.2.2, h3⟩⟩
theorem un9_trans {h : Hp} {a b c : Int} (hn : h.objs.length ≤ 64) (h1 : un9 h b 64 a = true) (h2 : un9 h c 64 b = true) : un9 h c 64 a = true := by
  obtain ⟨i, hi, p1, e1⟩ := (un9_iff h b 64 a).1 h1
  obtain ⟨j, hj, p2, e2⟩ := (un9_iff h c 64 b).1 h2
  rw [← e1] at p2 e2
  rw [← up9_add] at e2
  obtain ⟨k, k1, k2, k3⟩ := short9 (P := fun x => x = c) (i + j) (pt9_add p1 p2) e2
  exact (un9_iff h c 64 a).2 ⟨k, by omega, k2, k3⟩
theorem un9_self (h : Hp) (a : Int) : un9 h a 64 a = clB9 h a := by
  show (clB9 h a && (decide (a = a) || _)) = _
  simp
/-- has a class this selector itself? -/
def own9 (h : Hp) (s : Int) (c : Int) : Prop := pf9 (paL9 h (sl9 h c 1)) s ≠ none
theorem fi9_ok (h : Hp) (s : Int) (k : Nat) (c : Int) : (fi9 h s k c).2.2 = 0 ↔ ∃ j, j < k ∧ pt9 h j c ∧ own9 h s (up9 h j c) := by
  induction k generalizing c with
  | zero => exact ⟨(fun e => by cases e), fun ⟨j, hj, _⟩ => by omega⟩
  | succ k ih =>
    have e : fi9 h s (k + 1) c = if clB9 h c then (match pf9 (paL9 h (sl9 h c 1)) s with
      | some v => (v, c, 0)
      | none => if sl9 h c 0 = 0 ∨ k = 0 then (0, 0, 91) else fi9 h s k (sl9 h c 0)) else (0, 0, 90) := rfl
    rw [e]
    by_cases hc : clB9 h c = true
    · rw [if_pos hc]
      cases hp : pf9 (paL9 h (sl9 h c 1)) s with
      | some v =>
        simp only [true_iff]
        exact ⟨0, by omega, hc, by unfold own9; show pf9 (paL9 h (sl9 h c 1)) s ≠ none; rw [hp]; simp⟩
      | none =>
        have hno : ¬ own9 h s c := fun f => f hp
        simp only
        by_cases h0 : sl9 h c 0 = 0 ∨ k = 0
        · rw [if_pos h0]
          constructor
          · intro e; cases e
          · rintro ⟨j, h1, h2, h3⟩
            cases j with
            | zero => exact absurd h3 hno
            | succ j => rcases h0 with h0 | h0
                        · exact absurd h0 h2.2.1
                        · omega
        · rw [if_neg h0, ih]
          constructor
          · rintro ⟨j, h1, h2, h3⟩
            exact ⟨j + 1, by omega, ⟨hc, fun f => h0 (.inl f), h2⟩, h3⟩
          · rintro ⟨j, h1, h2, h3⟩
            cases j with
            | zero => exact absurd h3 hno
            | succ j => exact ⟨j, by omega, h2.2.2, h3⟩
    · rw [if_neg hc]
      constructor
      · intro e; cases e
      · rintro ⟨j, h1, h2, h3⟩
        exact absurd (pt9_cl h2) hc
theorem fi9_under {h : Hp} {a b s : Int} (hn : h.objs.length ≤ 64) (h1 : un9 h b 64 a = true) (h2 : (fi9 h s 64 b).2.2 = 0) : (fi9 h s 64 a).2.2 = 0 := by
  obtain ⟨i, hi, p1, e1⟩ := (un9_iff h b 64 a).1 h1
  obtain ⟨j, hj, p2, e2⟩ := (fi9_ok h s 64 b).1 h2
  rw [← e1] at p2 e2
  rw [← up9_add] at e2
  obtain ⟨k, k1, k2, k3⟩ := short9 (P := own9 h s) (i + j) (pt9_add p1 p2) e2
  exact (fi9_ok h s 64 a).2 ⟨k, by omega, k2, k3⟩
/-- an error tells nothing -/
theorem fi9_err (h : Hp) (s : Int) (k : Nat) (c : Int) : (fi9 h s k c).2.2 = 0 ∨ fi9 h s k c = (0, 0, 90) ∨ fi9 h s k c = (0, 0, 91) := by
  induction k generalizing c with
  | zero => exact .inr (.inr rfl)
  | succ k ih =>
    show (if clB9 h c then (match pf9 (paL9 h (sl9 h c 1)) s with
      | some v => (v, c, 0)
      | none => if sl9 h c 0 = 0 ∨ k = 0 then (0, 0, 91) else fi9 h s k (sl9 h c 0)) else (0, 0, 90) : Int × Int × Int).2.2 = 0 ∨ (if clB9 h c then (match pf9 (paL9 h (sl9 h c 1)) s with
      | some v => (v, c, 0)
      | none => if sl9 h c 0 = 0 ∨ k = 0 then (0, 0, 91) else fi9 h s k (sl9 h c 0)) else (0, 0, 90) : Int × Int × Int) = (0, 0, 90) ∨ (if clB9 h c then (match pf9 (paL9 h (sl9 h c 1)) s with
      | some v => (v, c, 0)
      | none => if sl9 h c 0 = 0 ∨ k = 0 then (0, 0, 91) else fi9 h s k (sl9 h c 0)) else (0, 0, 90) : Int × Int × Int) = (0, 0, 91)
    by_cases hc : clB9 h c = true
    · rw [if_pos hc]
      cases hp : pf9 (paL9 h (sl9 h c 1)) s with
      | some v => exact .inl rfl
      | none =>
        simp only
        by_cases h0 : sl9 h c 0 = 0 ∨ k = 0
        · rw [if_pos h0]; exact .inr (.inr rfl)
        · rw [if_neg h0]; exact ih _
    · rw [if_neg hc]; exact .inr (.inl rfl)
theorem fi9_step {h : Hp} {s c : Int} {k : Nat} (hc : clB9 h c = true) (hp : pf9 (paL9 h (sl9 h c 1)) s = none) : fi9 h s (k + 1) c = if sl9 h c 0 = 0 ∨ k = 0 then (0, 0, 91) else fi9 h s k (sl9 h c 0) := by
  show (if clB9 h c then (match pf9 (paL9 h (sl9 h c 1)) s with
      | some v => (v, c, 0)
      | none => if sl9 h c 0 = 0 ∨ k = 0 then (0, 0, 91) else fi9 h s k (sl9 h c 0)) else (0, 0, 90) : Int × Int × Int) = _
  rw [if_pos hc, hp]
theorem fi9_here {h : Hp} {s c v : Int} {k : Nat} (hc : clB9 h c = true) (hp : pf9 (paL9 h (sl9 h c 1)) s = some v) : fi9 h s (k + 1) c = (v, c, 0) := by
  show (if clB9 h c then (match pf9 (paL9 h (sl9 h c 1)) s with
      | some v => (v, c, 0)
      | none => if sl9 h c 0 = 0 ∨ k = 0 then (0, 0, 91) else fi9 h s k (sl9 h c 0)) else (0, 0, 90) : Int × Int × Int) = _
  rw [if_pos hc, hp]
theorem fi9_not {h : Hp} {s c : Int} {k : Nat} (hc : clB9 h c = false) : fi9 h s (k + 1) c = (0, 0, 90) := by
  show (if clB9 h c then (match pf9 (paL9 h (sl9 h c 1)) s with
      | some v => (v, c, 0)
      | none => if sl9 h c 0 = 0 ∨ k = 0 then (0, 0, 91) else fi9 h s k (sl9 h c 0)) else (0, 0, 90) : Int × Int × Int) = _
  rw [hc]; rfl
/-- what is found is its class's own; that is under none between -/
theorem fi9_at {h : Hp} {s c v at_ : Int} {k : Nat} (e : fi9 h s k c = (v, at_, 0)) : pf9 (paL9 h (sl9 h at_ 1)) s = some v ∧ un9 h at_ k c = true := by
  induction k generalizing c with
  | zero => cases e
  | succ k ih =>
    by_cases hc : clB9 h c = true
    · cases hp : pf9 (paL9 h (sl9 h c 1)) s with
      | some x =>
        rw [fi9_here hc hp] at e
        cases e
        exact ⟨hp, (un9_iff h _ (k + 1) _).2 ⟨0, by omega, hc, rfl⟩⟩
      | none =>
        rw [fi9_step hc hp] at e
        by_cases h0 : sl9 h c 0 = 0 ∨ k = 0
        · rw [if_pos h0] at e; cases e
        · rw [if_neg h0] at e
          obtain ⟨h1, h2⟩ := ih e
          obtain ⟨j, j1, j2, j3⟩ := (un9_iff h at_ k _).1 h2
          exact ⟨h1, (un9_iff h at_ (k + 1) c).2 ⟨j + 1, by omega, ⟨hc, fun f => h0 (.inl f), j2⟩, j3⟩⟩
    · rw [fi9_not (by simpa using hc)] at e; cases e
end Go.Proofs.YtkpfmbdkfgeboaaGreat
namespace Go.Proofs.YtkpfmbdkfgeboaaGreat
open Go.RowKit
/-- an object with two slots ahead -/
def ahead9 (o : Ob) (x y : Int) : Ob := { o with slots := x :: y :: o.slots }
def ly9 (h : Hp) (d x y : Int) : Hp := { h with objs := h.objs.set (atV d).toNat (ahead9 (obAt h d) x y) }
theorem ly9_len (h : Hp) (d x y : Int) : (ly9 h d x y).objs.length = h.objs.length := by unfold ly9; simp
theorem atV_zero9 {v : Int} (h : atB v = false) : atV v = 0 := by unfold atV; rw [if_neg (by rw [h]; decide)]
theorem atV_two9 {v : Int} (h : atB v = true) : v = 2 * atV v := by
  have h1 := atB_iff.1 h
  unfold atV; rw [if_pos h]; omega
theorem ob_ly9 {h : Hp} {d x y v : Int} (hd : refB h.objs.length d = true) (h0 : d ≠ 0) (hv : v ≠ d) : obAt (ly9 h d x y) v = obAt h v := by
  unfold obAt ly9
  simp only
  rw [List.getD_eq_getElem?_getD, List.getD_eq_getElem?_getD, List.getElem?_set_ne]
  intro e
  obtain ⟨d1, d2, d3⟩ := refB_no hd
  have d4 := atV_two9 d1
  cases hb : atB v with
  | true =>
    have v1 := atV_two9 hb
    have v2 := (atV_lt hb).1
    omega
  | false =>
    have v1 := atV_zero9 hb
    omega
theorem ob_here9 {h : Hp} {d x y : Int} (hd : refB h.objs.length d = true) : obAt (ly9 h d x y) d = ahead9 (obAt h d) x y := by
  have hl := (ref_is9 hd).2
  show (ly9 h d x y).objs.getD _ _ = _
  unfold ly9
  simp only
  rw [List.getD_eq_getElem?_getD, List.getElem?_set_self hl]; rfl
theorem kind_ly9 {h : Hp} {d x y : Int} (hd : refB h.objs.length d = true) (h0 : d ≠ 0) (v : Int) : (obAt (ly9 h d x y) v).kind = (obAt h v).kind := by
  by_cases hv : v = d
  · rw [hv, ob_here9 hd]; rfl
  · rw [ob_ly9 hd h0 hv]
theorem may_ly9 {h : Hp} {d x y : Int} (hm : mayB h = true) (hd : refB h.objs.length d = true) (hk : (obAt h d).kind = 0) (hl : (obAt h d).slots.length ≤ 60) (hx : hasB h.objs.length x = true) (hy : hasB h.objs.length y = true) : mayB (ly9 h d x y) = true := by
  have hall := may_all hm
  obtain ⟨i, hi, hv, ho⟩ := obAt_get hd
  have hob := hall _ (List.mem_of_getElem? ho)
  unfold mayB at hm ⊢
  rw [ly9_len]
  simp only [Bool.and_eq_true, decide_eq_true_eq, List.all_eq_true] at hm ⊢
  refine ⟨⟨hm.1.1, hm.1.2⟩, fun o hoo => ?_⟩
  rcases List.mem_or_eq_of_mem_set hoo with h1 | h1
  · exact hall o h1
  · rw [h1]
    unfold obB at hob ⊢
    simp only [Bool.and_eq_true, List.all_eq_true] at hob ⊢
    refine ⟨⟨hob.1.1, ?_⟩, fun v hv => ?_⟩
    · have k := hob.1.2
      unfold kiB at k ⊢
      rw [if_pos hk] at k
      rw [if_pos (show (ahead9 (obAt h d) x y).kind = 0 from hk)]
      simp only [Bool.and_eq_true, decide_eq_true_eq] at k ⊢
      refine ⟨⟨?_, k.1.2⟩, k.2⟩
      show (((x :: y :: (obAt h d).slots).length : Nat) : Int) ≤ 64
      simp only [List.length_cons]; omega
    · rcases List.mem_cons.1 hv with rfl | hv
      · exact hx
      · rcases List.mem_cons.1 hv with rfl | hv
        · exact hy
        · exact hob.2 v hv
section
variable {h : Hp} {d x y : Int}
theorem paB_ly9 (hd : refB h.objs.length d = true) (h0 : d ≠ 0) (v : Int) : paB9 (ly9 h d x y) v = paB9 h v := by
  unfold paB9
  rw [ly9_len, kind_ly9 hd h0]
theorem cl_ly9 (hm : mayB h = true) (gm : mayB (ly9 h d x y) = true) (hd : refB h.objs.length d = true) (h0 : d ≠ 0) (nh : clB9 h d = false) (ng : clB9 (ly9 h d x y) d = false) (c : Int) : clB9 (ly9 h d x y) c = clB9 h c := by
  by_cases hc : c = d
  · rw [hc, nh, ng]
  · unfold clB9 sl9
    rw [ob_ly9 hd h0 hc, paB_ly9 hd h0, ly9_len, hm, gm]
theorem paL_ly9 (hd : refB h.objs.length d = true) (h0 : d ≠ 0) {v : Int} (hv : v ≠ d) : paL9 (ly9 h d x y) v = paL9 h v := by
  unfold paL9
  rw [ly9_len, ob_ly9 hd h0 hv]
theorem ref_pos9 {n : Nat} {d : Int} (hd : refB n d = true) (h0 : d ≠ 0) : 0 < refI n d := by
  have h1 := refB_no hd
  have h2 := ref_is9 hd
  rw [refI_nonneg hd]; omega
theorem paL_here9 (hd : refB h.objs.length d = true) (h0 : d ≠ 0) (hk : (obAt h d).kind = 0) : paL9 (ly9 h d x y) d = x :: y :: paL9 h d := by
  have hp := ref_pos9 hd h0
  unfold paL9
  rw [ly9_len, ob_here9 hd, if_neg (by rintro (e | e | e); · omega
                                       · omega
                                       · exact e hk), if_neg (by rintro (e | e | e); · omega
                                                                 · omega
                                                                 · exact e hk)]
  rfl
theorem pf9_cons (a b : Int) (l : List Int) (s : Int) : pf9 (a :: b :: l) s = if a = s then some b else pf9 l s := rfl
/-- a class's dictionary is one -/
theorem cl9_dict {c : Int} (hc : clB9 h c = true) : paB9 h (sl9 h c 1) = true := by
  unfold clB9 at hc
  simp only [Bool.and_eq_true] at hc
  exact hc.2.2.2.2.2.1
theorem pa9_ref {v : Int} (hp : paB9 h v = true) (h0 : v ≠ 0) : refB h.objs.length v = true ∧ (obAt h v).kind = 0 := by
  unfold paB9 at hp
  simp only [Bool.or_eq_true, Bool.and_eq_true, decide_eq_true_eq] at hp
  cases hr : refB h.objs.length v with
  | true =>
    have := ref_pos9 hr h0
    rcases hp with hp | hp
    · omega
    · exact ⟨rfl, hp.2⟩
  | false =>
    have e : refI h.objs.length v = -1 := by unfold refI; rw [if_neg (by rw [hr]; decide)]
    rw [e] at hp
    rcases hp with hp | hp <;> omega
theorem fi_ly9 {c s : Int} (hm : mayB h = true) (gm : mayB (ly9 h d x y) = true) (hd : refB h.objs.length d = true) (h0 : d ≠ 0) (hk : (obAt h d).kind = 0) (nh : clB9 h d = false) (ng : clB9 (ly9 h d x y) d = false) (hs : x ≠ s) (k : Nat) (e : Int) (he : e = c ∨ e ≠ 0) : fi9 (ly9 h d x y) s k e = fi9 h s k e := by
  induction k generalizing e with
  | zero => rfl
  | succ k ih =>
    have e1 := cl_ly9 hm gm hd h0 nh ng e
    cases hcl : clB9 h e with
    | false =>
      rw [hcl] at e1
      rw [fi9_not hcl, fi9_not e1]
    | true =>
      rw [hcl] at e1
      have hne : e ≠ d := fun f => by rw [f, nh] at hcl; cases hcl
      have sl : ∀ j, sl9 (ly9 h d x y) e j = sl9 h e j := fun j => by unfold sl9; rw [ob_ly9 hd h0 hne]
      have hp : pf9 (paL9 (ly9 h d x y) (sl9 (ly9 h d x y) e 1)) s = pf9 (paL9 h (sl9 h e 1)) s := by
        rw [sl]
        by_cases hec : sl9 h e 1 = d
        · rw [hec, paL_here9 hd h0 hk, pf9_cons, if_neg hs]
        · rw [paL_ly9 hd h0 hec]
      cases hq : pf9 (paL9 h (sl9 h e 1)) s with
      | some v => rw [fi9_here hcl hq, fi9_here e1 (hp.trans hq)]
      | none =>
        rw [fi9_step hcl hq, fi9_step e1 (hp.trans hq), sl]
        by_cases hz : sl9 h e 0 = 0 ∨ k = 0
        · rw [if_pos hz, if_pos hz]
        · rw [if_neg hz, if_neg hz]
          exact ih _ (.inr fun f => hz (.inl f))
theorem fi_new9 {c : Int} (hm : mayB h = true) (gm : mayB (ly9 h d x y) = true) (hd : refB h.objs.length d = true) (h0 : d ≠ 0) (hk : (obAt h d).kind = 0) (nh : clB9 h d = false) (ng : clB9 (ly9 h d x y) d = false)
    (hcl : clB9 h c = true) (hc : sl9 h c 1 = d) : fi9 (ly9 h d x y) x 64 c = (y, c, 0) := by
  have e1 := (cl_ly9 hm gm hd h0 nh ng c).trans hcl
  have hne : c ≠ d := fun f => by rw [f, nh] at hcl; cases hcl
  have sl : sl9 (ly9 h d x y) c 1 = d := by unfold sl9; rw [ob_ly9 hd h0 hne]; exact hc
  refine fi9_here e1 ?_
  rw [sl, paL_here9 hd h0 hk, pf9_cons, if_pos rfl]
end
end Go.Proofs.YtkpfmbdkfgeboaaGreat
