/- What is marked round by round, as the document says: behind as many rounds as there are objects it is what is reached. -/
import Derived.Test.YtjpibkcbgogfoaaMR
namespace Go.Proofs.Ytjpibkcbgogfoaa
open Go.RowKit
/-- does the value v tell object i? -/
def tells (n : Nat) (v : Int) (i : Nat) : Bool := refB n v && decide ((atV v).toNat = i)
def marks0 (h : Hp) (rs : List Int) : List Bool := (List.range h.objs.length).map fun i => rs.any fun v => tells h.objs.length v i
def leads (n : Nat) (o : Ob) (i : Nat) : Bool := (o.cls :: o.slots).any fun v => tells n v i
def nearB (h : Hp) (m : List Bool) : List Bool := (List.range h.objs.length).map fun i => m.getD i false || (List.range h.objs.length).any fun j => m.getD j false && (match h.objs[j]? with | some o => leads h.objs.length o i | none => false)
def nearN (h : Hp) : Nat → List Bool → List Bool
  | 0, m => m
  | k + 1, m => nearN h k (nearB h m)
theorem nearN_succ (h : Hp) : ∀ (k : Nat) (m : List Bool), nearN h (k + 1) m = nearB h (nearN h k m)
  | 0, _ => rfl
  | k + 1, m => nearN_succ h k (nearB h m)
theorem nearB_length (h : Hp) (m : List Bool) : (nearB h m).length = h.objs.length := by simp [nearB]
theorem nearN_length (h : Hp) : ∀ (k : Nat) (m : List Bool), m.length = h.objs.length → (nearN h k m).length = h.objs.length
  | 0, _, e => e
  | k + 1, m, _ => nearN_length h k _ (nearB_length h m)
theorem tells_iff {n : Nat} {v : Int} {i : Nat} : tells n v i = true ↔ refB n v = true ∧ (atV v).toNat = i := by simp [tells]
theorem marks0_iff {h : Hp} {rs : List Int} {i : Nat} : (marks0 h rs).getD i false = true ↔ ∃ v ∈ rs, refB h.objs.length v = true ∧ (atV v).toNat = i := by
  unfold marks0
  by_cases hi : i < h.objs.length
  · simp [List.getD_eq_getElem?_getD, hi, tells_iff]
  · simp only [List.getD_eq_getElem?_getD]
    rw [List.getElem?_eq_none (by simp; omega)]
    simp only [Option.getD_none]
    constructor
    · intro h; cases h
    · rintro ⟨v, -, hv, rfl⟩; exact absurd (refB_nat hv).1 hi
theorem nearB_iff {h : Hp} {m : List Bool} {i : Nat} (hm : m.length = h.objs.length) : (nearB h m).getD i false = true ↔ m.getD i false = true ∨ ∃ j o v, m.getD j false = true ∧ h.objs[j]? = some o ∧ v ∈ o.cls :: o.slots ∧ refB h.objs.length v = true ∧ (atV v).toNat = i := by
  unfold nearB
  by_cases hi : i < h.objs.length
  · simp only [List.getD_eq_getElem?_getD, List.getElem?_map, List.getElem?_range hi, Option.map_some, Option.getD_some, Bool.or_eq_true, List.any_eq_true, List.mem_range, Bool.and_eq_true]
    constructor
    · rintro (h1 | ⟨j, hj, h1, h2⟩)
      · exact .inl h1
      · rw [List.getElem?_eq_getElem hj] at h2
        simp only [leads, List.any_eq_true, tells_iff] at h2
        obtain ⟨v, hv, hr, he⟩ := h2
        exact .inr ⟨j, _, v, h1, List.getElem?_eq_getElem hj, hv, hr, he⟩
    · rintro (h1 | ⟨j, o, v, h1, h2, hv, hr, he⟩)
      · exact .inl h1
      · refine .inr ⟨j, (List.getElem?_eq_some_iff.1 h2).1, h1, ?_⟩
        rw [h2]
        simp only [leads, List.any_eq_true, tells_iff]
        exact ⟨v, hv, hr, he⟩
  · simp only [List.getD_eq_getElem?_getD]
    rw [List.getElem?_eq_none (by simp; omega), List.getElem?_eq_none (show m.length ≤ i by omega)]
    simp only [Option.getD_none]
    constructor
    · intro h; cases h
    · rintro (h | ⟨j, o, v, -, -, -, hr, rfl⟩)
      · cases h
      · exact absurd (refB_nat hr).1 hi
theorem near_sub {h : Hp} {m : List Bool} {i : Nat} (hm : m.length = h.objs.length) (hi : m.getD i false = true) : (nearB h m).getD i false = true := (nearB_iff hm).2 (.inl hi)
theorem near_sound {h : Hp} {rs : List Int} : ∀ (k : Nat) (m : List Bool), m.length = h.objs.length → (∀ i, m.getD i false = true → Reach h rs i) → ∀ i, (nearN h k m).getD i false = true → Reach h rs i
  | 0, _, _, h => h
  | k + 1, m, hl, h => near_sound k _ (nearB_length _ _) fun i hi => by
    rcases (nearB_iff hl).1 hi with g | ⟨j, o, v, g, ho, hv, hr, rfl⟩
    · exact h i g
    · exact .step j o v (h j g) ho hv hr
def trues : List Bool → Nat
  | [] => 0
  | b :: t => (if b then 1 else 0) + trues t
theorem trues_le : ∀ m : List Bool, trues m ≤ m.length
  | [] => Nat.le_refl _
  | b :: t => by have := trues_le t; cases b <;> simp [trues] <;> omega
theorem trues_mono : ∀ m m' : List Bool, m.length = m'.length → (∀ i, m.getD i false = true → m'.getD i false = true) → trues m ≤ trues m' ∧ (trues m = trues m' → m = m')
  | [], [], _, _ => ⟨Nat.le_refl _, fun _ => rfl⟩
  | [], _ :: _, e, _ => by simp at e
  | _ :: _, [], e, _ => by simp at e
  | b :: t, b' :: t', e, h => by
    have ih := trues_mono t t' (by simpa using e) fun i hi => by simpa using h (i + 1) (by simpa using hi)
    have h0 := h 0
    obtain ⟨i1, i2⟩ := ih
    cases b <;> cases b' <;> simp [trues] at h0 ⊢
    · exact ⟨i1, i2⟩
    · exact ⟨by omega, by omega⟩
    · exact ⟨i1, i2⟩
theorem near_count {h : Hp} {m : List Bool} (hm : m.length = h.objs.length) : ∀ k, nearB h (nearN h k m) = nearN h k m ∨ k ≤ trues (nearN h k m)
  | 0 => .inr (Nat.zero_le _)
  | k + 1 => by
    rw [nearN_succ]
    rcases near_count hm k with e | c
    · exact .inl (by rw [e, e])
    · by_cases e : nearB h (nearN h k m) = nearN h k m
      · exact .inl (by rw [e, e])
      · have hl := nearN_length h k m hm
        obtain ⟨h1, h2⟩ := trues_mono (nearN h k m) (nearB h (nearN h k m)) (by rw [hl, nearB_length]) fun i hi => near_sub hl hi
        refine .inr ?_
        have : trues (nearN h k m) ≠ trues (nearB h (nearN h k m)) := fun q => e (h2 q).symm
        omega
theorem near_fix {h : Hp} {m : List Bool} (hm : m.length = h.objs.length) : nearB h (nearN h h.objs.length m) = nearN h h.objs.length m := by
  rcases near_count (h := h) hm (h.objs.length + 1) with e | c
  · rw [nearN_succ] at e
    rcases near_count (h := h) hm h.objs.length with e' | c'
    · exact e'
    · have hl := nearN_length h h.objs.length m hm
      have hl2 := nearB_length h (nearN h h.objs.length m)
      obtain ⟨h1, h2⟩ := trues_mono (nearN h h.objs.length m) (nearB h (nearN h h.objs.length m)) (by rw [hl, nearB_length]) fun i hi => near_sub hl hi
      have := trues_le (nearB h (nearN h h.objs.length m))
      exact (h2 (by omega)).symm
  · have hl := nearN_length h (h.objs.length + 1) m hm
    have := trues_le (nearN h (h.objs.length + 1) m)
    omega
theorem near_reach {h : Hp} {rs : List Int} {i : Nat} : (nearN h h.objs.length (marks0 h rs)).getD i false = true ↔ Reach h rs i := by
  have hm : (marks0 h rs).length = h.objs.length := by simp [marks0]
  constructor
  · refine near_sound _ _ hm (fun j hj => ?_) i
    obtain ⟨v, hv, hr, rfl⟩ := marks0_iff.1 hj
    exact .root v hv hr
  · intro r
    have hl := nearN_length h h.objs.length _ hm
    have grow : ∀ (k : Nat) (m : List Bool), m.length = h.objs.length → ∀ i, m.getD i false = true → (nearN h k m).getD i false = true := by
      intro k
      induction k with
      | zero => exact fun m _ i hi => hi
      | succ k ih => exact fun m hm i hi => ih _ (nearB_length _ _) i (near_sub hm hi)
    refine r.least (fun i => (nearN h h.objs.length (marks0 h rs)).getD i false = true) (fun v hv hr => grow _ _ hm _ (marks0_iff.2 ⟨v, hv, hr, rfl⟩)) fun j o v hj ho hv hr => ?_
    rw [← near_fix hm]
    exact (nearB_iff hl).2 (.inr ⟨j, o, v, hj, ho, hv, hr, rfl⟩)
/-- the numbers that are marked -/
def picked (m : List Bool) : List Int := ((List.range m.length).filter fun i => m.getD i false).map Int.ofNat
theorem live_marks (h : Hp) (rs : List Int) : liveL h rs = picked (nearN h h.objs.length (marks0 h rs)) := by
  unfold liveL liveN picked
  rw [nearN_length h h.objs.length _ (by simp [marks0])]
  congr 1
  apply List.filter_congr
  intro i _
  have := near_reach (h := h) (rs := rs) (i := i)
  cases hb : (nearN h h.objs.length (marks0 h rs)).getD i false
  · rw [hb] at this; simpa using this
  · rw [hb] at this; simpa using this
end Go.Proofs.Ytjpibkcbgogfoaa
