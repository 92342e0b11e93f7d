/- The program's side of instructions, in plain mathematics: bytes cut in two, lines one by one, a line told apart, pairs of bytes. -/
import Derived.Test.YtalfbdigjaibkaaGreatSB11
import Derived.Lib.ParseIntB
import Derived.Lib.IndexMore
namespace Go.Proofs.YtalfbdigjaibkaaGreat
open Go.RowKit
/-- cut in two at a byte: what lies ahead, what lies behind, whether there is one -/
def ct11 (c : UInt8) : List UInt8 → List UInt8 × List UInt8 × Bool
  | [] => ([], [], false)
  | b :: l => if b = c then ([], l, true) else (b :: (ct11 c l).1, (ct11 c l).2.1, (ct11 c l).2.2)
theorem index_one11 (c b : UInt8) (l : List UInt8) : Lib.index (b :: l) [c] = if b = c then 0 else if Lib.index l [c] = -1 then -1 else Lib.index l [c] + 1 := by
  have e : Lib.index (b :: l) [c] = if [c].isPrefixOf (b :: l) then 0 else if Lib.index l [c] == -1 then -1 else Lib.index l [c] + 1 := rfl
  rw [e]
  by_cases h : b = c
  · subst h
    rw [if_pos rfl, if_pos (by simp)]
  · rw [if_neg h, if_neg (by simp; exact fun e => h e.symm)]
    by_cases k : Lib.index l [c] = -1
    · rw [if_pos k, if_pos (by rw [k]; rfl)]
    · rw [if_neg k, if_neg (by simpa using k)]
theorem ct_is11 (c : UInt8) : ∀ s : List UInt8, Lib.cut s [c] = ct11 c s
  | [] => by
    have e : Lib.index [] [c] = -1 := rfl
    unfold Lib.cut
    rw [e, if_neg (by decide)]
    rfl
  | b :: l => by
    have ih := ct_is11 c l
    have hge := Lib.index_ge l [c]
    unfold Lib.cut at ih ⊢
    rw [index_one11]
    show _ = if b = c then _ else _
    by_cases h : b = c
    · rw [if_pos h, if_pos h, if_pos (by decide)]
      rfl
    · rw [if_neg h, if_neg h, ← ih]
      by_cases k : Lib.index l [c] = -1
      · rw [if_pos k, if_neg (by decide), if_neg (by omega)]
      · have e1 : (Lib.index l [c] + 1).toNat = (Lib.index l [c]).toNat + 1 := by omega
        have e2 : (Lib.index l [c] + 1).toNat + [c].length = ((Lib.index l [c]).toNat + [c].length) + 1 := by rw [e1]; simp
        rw [if_neg k, if_pos (by omega), if_pos (by omega), e2, e1, List.take_succ_cons, List.drop_succ_cons]
theorem ct_len11 (c : UInt8) : ∀ s : List UInt8, (ct11 c s).1.length ≤ s.length ∧ (ct11 c s).2.1.length ≤ s.length ∧ (s ≠ [] → (ct11 c s).2.1.length < s.length)
  | [] => ⟨Nat.le_refl _, Nat.le_refl _, fun h => absurd rfl h⟩
  | b :: l => by
    obtain ⟨h1, h2, -⟩ := ct_len11 c l
    by_cases h : b = c
    · have e : ct11 c (b :: l) = ([], l, true) := by show (if b = c then _ else _) = _; rw [if_pos h]
      rw [e]
      simp
    · have e : ct11 c (b :: l) = (b :: (ct11 c l).1, (ct11 c l).2.1, (ct11 c l).2.2) := by show (if b = c then _ else _) = _; rw [if_neg h]
      rw [e]
      simp
      omega
/-- the lines, and of each whether it is ended -/
def lns11 (s : List UInt8) : List (List UInt8 × Bool) := (spl11 s).1.map (fun t => (t, true)) ++ if (spl11 s).2 = [] then [] else [((spl11 s).2, false)]
theorem lns_nil11 : lns11 [] = [] := rfl
theorem lns_cut11 : ∀ s : List UInt8, s ≠ [] → lns11 s = ((ct11 10 s).1, (ct11 10 s).2.2) :: lns11 (ct11 10 s).2.1
  | [], h => absurd rfl h
  | b :: s, _ => by
    have e : spl11 (b :: s) = if b = 10 then ([] :: (spl11 s).1, (spl11 s).2) else match (spl11 s).1 with
      | [] => ([], b :: (spl11 s).2)
      | t :: r => ((b :: t) :: r, (spl11 s).2) := rfl
    have ec : ct11 10 (b :: s) = if b = 10 then ([], s, true) else (b :: (ct11 10 s).1, (ct11 10 s).2.1, (ct11 10 s).2.2) := rfl
    by_cases h : b = 10
    · rw [if_pos h] at e ec
      rw [ec]
      unfold lns11
      rw [e]
      rfl
    · rw [if_neg h] at e ec
      rw [ec]
      by_cases hs : s = []
      · subst hs
        unfold lns11
        rw [e]
        rfl
      · have ih := lns_cut11 s hs
        obtain ⟨r1, r2, r3⟩ : ∃ r : List UInt8 × List UInt8 × Bool, True ∧ ct11 10 s = r := ⟨_, trivial, rfl⟩
        rw [r3] at ih ⊢
        obtain ⟨p, q, f⟩ := r1
        simp only at ih ⊢
        unfold lns11 at ih
        cases hp : (spl11 s).1 with
        | nil =>
          rw [hp] at ih e
          simp only at e
          have hne : (spl11 s).2 ≠ [] := fun k => by rw [k] at ih; cases ih
          rw [if_neg hne] at ih
          have ih2 : [((spl11 s).2, false)] = (p, f) :: lns11 q := ih
          injection ih2 with i1 i2
          injection i1 with i3 i4
          have g : lns11 (b :: s) = [(b :: (spl11 s).2, false)] := by
            unfold lns11
            rw [e]
            simp
          rw [g, ← i2, i3, i4]
        | cons t r =>
          rw [hp] at ih e
          simp only at e
          have ih2 : (t, true) :: (r.map (fun t => (t, true)) ++ if (spl11 s).2 = [] then [] else [((spl11 s).2, false)]) = (p, f) :: lns11 q := ih
          injection ih2 with i1 i2
          injection i1 with i3 i4
          have g : lns11 (b :: s) = (b :: t, true) :: (r.map (fun t => (t, true)) ++ if (spl11 s).2 = [] then [] else [((spl11 s).2, false)]) := by
            unfold lns11
            rw [e]
            rfl
          rw [g, i2, i3, i4]
theorem lns_len11 : ∀ (n : Nat) (s : List UInt8), s.length ≤ n → (lns11 s).length ≤ n
  | 0, s, h => by
    obtain rfl : s = [] := List.length_eq_zero_iff.1 (by omega)
    exact Nat.le_refl _
  | n + 1, s, h => by
    by_cases hs : s = []
    · subst hs; rw [lns_nil11]; exact Nat.zero_le _
    · rw [lns_cut11 s hs]
      have := (ct_len11 10 s).2.2 hs
      have := lns_len11 n (ct11 10 s).2.1 (by omega)
      simp
      omega
/-! What is parsed, line by line -/
theorem mapM_some11 {ts : List (List UInt8)} {l : List In} (h : ts.map rd11 = l.map some) : ts.mapM rd11 = some l := by
  induction ts generalizing l with
  | nil => cases l with
    | nil => rfl
    | cons y l => cases h
  | cons t ts ih => cases l with
    | nil => cases h
    | cons y l =>
      rw [List.map_cons, List.map_cons] at h
      injection h with h1 h2
      rw [List.mapM_cons, h1, ih h2]
      rfl
theorem mapM_none11 {ts : List (List UInt8)} {t : List UInt8} (ht : t ∈ ts) (h : rd11 t = none) : ts.mapM rd11 = none := by
  induction ts with
  | nil => cases ht
  | cons u ts ih =>
    rw [List.mapM_cons]
    rcases List.mem_cons.1 ht with rfl | ht
    · rw [h]; rfl
    · rw [ih ht]
      cases rd11 u <;> rfl
theorem mapM_length11 {ts : List (List UInt8)} {l : List In} (h : ts.mapM rd11 = some l) : l.length = ts.length := by
  have := (mapM_rd11 h).2
  rw [← this, List.length_map]
theorem pa_done11 {b : List UInt8} {l : List In} (h : (lns11 b).map (fun x => (rd11 x.1, x.2)) = l.map (fun y => (some y, true))) (hl : l.length ≤ 32) : Pa11 b = (l, 0) := by
  have h2 : (spl11 b).2 = [] := by
    apply Classical.byContradiction
    intro k
    unfold lns11 at h
    rw [if_neg k] at h
    have hm : (rd11 (spl11 b).2, false) ∈ l.map (fun y => (some y, true)) := by
      rw [← h]; simp
    obtain ⟨y, -, hy⟩ := List.mem_map.1 hm
    injection hy with _ hy
    cases hy
  have h1 : (spl11 b).1.map rd11 = l.map some := by
    unfold lns11 at h
    rw [if_pos h2, List.append_nil, List.map_map] at h
    have := congrArg (List.map Prod.fst) h
    rw [List.map_map, List.map_map] at this
    exact this
  unfold Pa11
  rw [mapM_some11 h1]
  simp only
  rw [if_pos ⟨hl, h2⟩]
theorem pa_bad11 {b : List UInt8} {pre : List (List UInt8 × Bool)} {x : List UInt8 × Bool} (h : pre ++ [x] <+: lns11 b) (hb : rd11 x.1 = none ∨ x.2 = false ∨ 32 ≤ pre.length) : Pa11 b = ([], 111) := by
  have hm : x ∈ lns11 b := h.subset (by simp)
  have hl := h.length_le
  rw [List.length_append] at hl
  unfold lns11 at hm hl
  unfold Pa11
  by_cases h2 : (spl11 b).2 = []
  · rw [if_pos h2, List.append_nil] at hm hl
    obtain ⟨t, ht, rfl⟩ := List.mem_map.1 hm
    rw [List.length_map] at hl
    cases hp : (spl11 b).1.mapM rd11 with
    | none => rfl
    | some l =>
      rcases hb with hb | hb | hb
      · rw [mapM_none11 ht hb] at hp; cases hp
      · cases hb
      · have := mapM_length11 hp
        simp only [List.length_cons, List.length_nil] at hl
        simp only
        rw [if_neg (by omega)]
  · cases hp : (spl11 b).1.mapM rd11 with
    | none => rfl
    | some l =>
      simp only
      rw [if_neg (fun k => h2 k.2)]
/-! A line told apart -/
def nm11 (s : List UInt8) : Int := match Lib.parseUintB 8 s with
  | .ok u => u
  | .range => 255
  | _ => 0
def ag11 (s : List UInt8) : Int := if (ct11 32 s).2.2 then 8 * nm11 (ct11 32 s).1 + nm11 (ct11 32 s).2.1 else nm11 (ct11 32 s).1
def op11 (w : List UInt8) : Int := (wds11.idxOf w : Nat)
def pi11 (s : List UInt8) : In := ⟨op11 (ct11 32 s).1, ag11 (ct11 32 s).2.1⟩
theorem ins_pi11 : (ins11.all fun x => decide (wds11.contains (ct11 32 (ln11 x)).1 = true ∧ pi11 (ln11 x) = x)) = true := by decide +kernel
theorem pi_ln11 {x : In} (h : may11 x = true) : wds11.contains (ct11 32 (ln11 x)).1 = true ∧ pi11 (ln11 x) = x := of_decide_eq_true (List.all_eq_true.1 ins_pi11 x (mem_ins11.2 h))
theorem rd_yes11 {s : List UInt8} (h : may11 (pi11 s) = true) (k : ln11 (pi11 s) = s) : rd11 s = some (pi11 s) := by
  have := rd_ln11 h
  rwa [k] at this
theorem rd_no11 {s : List UInt8} (h : wds11.contains (ct11 32 s).1 = true → may11 (pi11 s) = true → ln11 (pi11 s) = s → False) : rd11 s = none := by
  cases hr : rd11 s with
  | none => rfl
  | some x =>
    obtain ⟨hm, hl⟩ := rd_some11 hr
    obtain ⟨h1, h2⟩ := pi_ln11 hm
    rw [hl] at h1 h2
    exact absurd (h h1 (by rw [h2]; exact hm) (by rw [h2]; exact hl)) (fun f => f)
theorem nm_bd11 (s : List UInt8) : 0 ≤ nm11 s ∧ nm11 s ≤ 255 := by
  have go : ∀ (l : List UInt8) (a u : Nat), a ≤ 255 → Lib.parseUintM 255 a l = .ok u → u ≤ 255 := by
    intro l
    induction l with
    | nil => intro a u ha h; injection h with h; omega
    | cons c r ih =>
      intro a u ha h
      unfold Lib.parseUintM at h
      split at h
      · split at h
        · cases h
        · split at h
          · cases h
          · exact ih _ _ (by omega) h
      · cases h
  unfold nm11
  rcases hp : Lib.parseUintB 8 s with u | _ | _
  · unfold Lib.parseUintB at hp
    split at hp
    · cases hp
    · have := go s 0 u (by omega) hp
      simp only
      omega
  · simp
  · simp
theorem ag_bd11 (s : List UInt8) : 0 ≤ ag11 s ∧ ag11 s ≤ 2295 := by
  have h1 := nm_bd11 (ct11 32 s).1
  have h2 := nm_bd11 (ct11 32 s).2.1
  unfold ag11
  split <;> omega
/-! Pairs of bytes -/
theorem pk_us11 : ∀ b : List UInt8, b.length % 2 = 0 → pk11 (us11 b) = b
  | [], _ => rfl
  | [_], h => by simp at h
  | a :: c :: b, h => by
    have ih := pk_us11 b (by simp at h; omega)
    have e : us11 (a :: c :: b) = ⟨a.toNat, c.toNat⟩ :: us11 b := rfl
    rw [e]
    unfold pk11 at ih ⊢
    rw [List.flatMap_cons, ih]
    simp [b211]
theorem us_length11 : ∀ b : List UInt8, (us11 b).length = b.length / 2
  | [] => rfl
  | [_] => by simp [us11]
  | a :: c :: b => by
    have ih := us_length11 b
    show (us11 b).length + 1 = (b.length + 1 + 1) / 2
    omega
theorem up_odd11 {b : List UInt8} (h : b.length % 2 ≠ 0) : Up11 b = ([], 110) := by
  unfold Up11
  rw [if_neg]
  intro k
  simp only [Bool.and_eq_true, decide_eq_true_eq] at k
  have := pk_len11 (us11 b)
  rw [k.2] at this
  omega
theorem up_long11 {b : List UInt8} (h : 64 < b.length) : Up11 b = ([], 110) := by
  by_cases he : b.length % 2 = 0
  case neg => exact up_odd11 he
  unfold Up11
  rw [if_neg]
  intro k
  simp only [Bool.and_eq_true, decide_eq_true_eq] at k
  have := all_len11 k.1
  have := us_length11 b
  omega
theorem up_bad11 {b : List UInt8} {x : In} (hx : x ∈ us11 b) (h : may11 x = false) : Up11 b = ([], 110) := by
  unfold Up11
  rw [if_neg]
  intro k
  simp only [Bool.and_eq_true, decide_eq_true_eq] at k
  have := all_may11 k.1 x hx
  rw [h] at this
  cases this
theorem up_all11 {b : List UInt8} (h : ∀ x ∈ us11 b, may11 x = true) (he : b.length % 2 = 0) (hl : b.length ≤ 64) : Up11 b = (us11 b, 0) := by
  unfold Up11
  rw [if_pos]
  simp only [Bool.and_eq_true, decide_eq_true_eq]
  have := us_length11 b
  exact ⟨all_is11 h (by omega), pk_us11 b he⟩
end Go.Proofs.YtalfbdigjaibkaaGreat
