/- Instructions that are packed, and those that are printed, come back; what is read is what is written. -/
import Derived.Test.YtalfbdigjaibkaaGreatSA11
namespace Go.Proofs.YtalfbdigjaibkaaGreat
open Go.RowKit
theorem may_parts11 {x : In} (h : may11 x = true) : 0 ≤ x.op ∧ x.op ≤ 18 ∧ 0 ≤ x.a ∧ x.a ≤ 255 := by
  unfold may11 at h
  simp only [Bool.and_eq_true, decide_eq_true_eq] at h
  exact ⟨h.1, h.2.1, h.2.2.1, h.2.2.2.1⟩
theorem all_may11 {l : List In} (h : all11 l = true) : ∀ x ∈ l, may11 x = true := by
  unfold all11 at h
  rw [Bool.and_eq_true] at h
  exact List.all_eq_true.1 h.1
theorem all_len11 {l : List In} (h : all11 l = true) : l.length ≤ 32 := by
  unfold all11 at h
  rw [Bool.and_eq_true] at h
  exact of_decide_eq_true h.2
theorem all_is11 {l : List In} (h : ∀ x ∈ l, may11 x = true) (hl : l.length ≤ 32) : all11 l = true := by
  unfold all11
  rw [Bool.and_eq_true]
  exact ⟨List.all_eq_true.2 h, decide_eq_true hl⟩
theorem us_pk11 {l : List In} (h : ∀ x ∈ l, may11 x = true) : us11 (pk11 l) = l := by
  induction l with
  | nil => rfl
  | cons x l ih =>
    obtain ⟨h1, h2, h3, h4⟩ := may_parts11 (h x (by simp))
    have e : us11 (pk11 (x :: l)) = ⟨((UInt8.ofNat x.op.toNat).toNat : Int), ((UInt8.ofNat x.a.toNat).toNat : Int)⟩ :: us11 (pk11 l) := rfl
    rw [e, ih fun y hy => h y (by simp [hy])]
    have e1 : ((UInt8.ofNat x.op.toNat).toNat : Int) = x.op := by
      rw [UInt8.toNat_ofNat_of_lt' (by show _ < 256; omega)]; omega
    have e2 : ((UInt8.ofNat x.a.toNat).toNat : Int) = x.a := by
      rw [UInt8.toNat_ofNat_of_lt' (by show _ < 256; omega)]; omega
    rw [e1, e2]
/-- what is packed comes back -/
theorem up_pk11 {l : List In} (h : all11 l = true) : Up11 (pk11 l) = (l, 0) := by
  unfold Up11
  rw [us_pk11 (all_may11 h), h, decide_eq_true rfl]; rfl
theorem up_some11 {s : List UInt8} (h : (Up11 s).2 = 0) : all11 (Up11 s).1 = true ∧ pk11 (Up11 s).1 = s := by
  unfold Up11 at h ⊢
  split at h
  · next q =>
    rw [if_pos q]
    rw [Bool.and_eq_true] at q
    exact ⟨q.1, of_decide_eq_true q.2⟩
  · cases h
theorem up_none11 {s : List UInt8} (h : (Up11 s).2 ≠ 0) : Up11 s = ([], 110) := by
  unfold Up11 at h ⊢
  split at h
  · exact absurd rfl h
  · next q => rw [if_neg q]
theorem spl_line11 {t : List UInt8} (h : ∀ b ∈ t, b ≠ 10) (s : List UInt8) : spl11 (t ++ 10 :: s) = (t :: (spl11 s).1, (spl11 s).2) := by
  induction t with
  | nil => show spl11 (10 :: s) = _; rw [spl11, if_pos rfl]
  | cons b t ih =>
    have ih := ih fun c hc => h c (by simp [hc])
    show spl11 (b :: (t ++ 10 :: s)) = _
    rw [spl11, if_neg (h b (by simp)), ih]
theorem spl_pr11 {l : List In} (h : ∀ x ∈ l, may11 x = true) : spl11 (pr11 l) = (l.map ln11, []) := by
  induction l with
  | nil => rfl
  | cons x l ih =>
    have ih := ih fun y hy => h y (by simp [hy])
    have e : pr11 (x :: l) = ln11 x ++ 10 :: pr11 l := by unfold pr11; rw [List.flatMap_cons, List.append_assoc]; rfl
    rw [e, spl_line11 (ln_ten11 (h x (by simp))), ih]; rfl
theorem rds_ln11 {l : List In} (h : ∀ x ∈ l, may11 x = true) : (l.map ln11).mapM rd11 = some l := by
  induction l with
  | nil => rfl
  | cons x l ih => rw [List.map_cons, List.mapM_cons, rd_ln11 (h x (by simp)), ih fun y hy => h y (by simp [hy])]; rfl
/-- what is printed comes back -/
theorem pa_pr11 {l : List In} (h : all11 l = true) : Pa11 (pr11 l) = (l, 0) := by
  unfold Pa11
  rw [spl_pr11 (all_may11 h), rds_ln11 (all_may11 h)]
  show (if l.length ≤ 32 ∧ ([] : List UInt8) = [] then (l, (0 : Int)) else ([], 111)) = _
  rw [if_pos ⟨all_len11 h, rfl⟩]
/-- lines, written out, and what is left, are what was parted -/
theorem spl_back11 (s : List UInt8) : ((spl11 s).1.flatMap fun t => t ++ [10]) ++ (spl11 s).2 = s := by
  induction s with
  | nil => rfl
  | cons b s ih =>
    rw [spl11]
    split
    · next q => rw [List.flatMap_cons, List.append_assoc, ih, q]; rfl
    · split
      · next q e => rw [e] at ih; simpa using ih
      · next q t r e => rw [e] at ih; simpa using ih
theorem mapM_rd11 {ts : List (List UInt8)} {l : List In} (h : ts.mapM rd11 = some l) : (∀ x ∈ l, may11 x = true) ∧ l.map ln11 = ts := by
  induction ts generalizing l with
  | nil =>
    obtain rfl : [] = l := by simpa using h
    exact ⟨fun x hx => by simp at hx, rfl⟩
  | cons t ts ih =>
    rw [List.mapM_cons] at h
    cases q : rd11 t with
    | none => rw [q] at h; cases h
    | some x =>
      rw [q] at h
      cases r : ts.mapM rd11 with
      | none => rw [r] at h; cases h
      | some k =>
        rw [r] at h
        obtain rfl : x :: k = l := by simpa using h
        obtain ⟨h1, h2⟩ := ih r
        obtain ⟨h3, h4⟩ := rd_some11 q
        refine ⟨fun y hy => ?_, by rw [List.map_cons, h4, h2]⟩
        rcases List.mem_cons.1 hy with rfl | hy
        · exact h3
        · exact h1 y hy
theorem pa_some11 {s : List UInt8} (h : (Pa11 s).2 = 0) : all11 (Pa11 s).1 = true ∧ pr11 (Pa11 s).1 = s := by
  have hb := spl_back11 s
  unfold Pa11 at h ⊢
  split at h
  · next l q =>
    split at h
    · next hc =>
      obtain ⟨h1, h2⟩ := mapM_rd11 q
      rw [if_pos hc]
      refine ⟨all_is11 h1 hc.1, ?_⟩
      rw [← h2, hc.2, List.append_nil, List.flatMap_map] at hb
      exact hb
    · cases h
  · cases h
theorem pa_none11 {s : List UInt8} (h : (Pa11 s).2 ≠ 0) : Pa11 s = ([], 111) := by
  unfold Pa11 at h ⊢
  split at h
  · split at h
    · exact absurd rfl h
    · next hc => rw [if_neg hc]
  · rfl
theorem pk_app11 (a b : List In) : pk11 (a ++ b) = pk11 a ++ pk11 b := List.flatMap_append ..
theorem pr_app11 (a b : List In) : pr11 (a ++ b) = pr11 a ++ pr11 b := List.flatMap_append ..
theorem pk_len11 (l : List In) : (pk11 l).length = 2 * l.length := by
  induction l with
  | nil => rfl
  | cons x l ih =>
    have e : pk11 (x :: l) = b211 x ++ pk11 l := List.flatMap_cons ..
    rw [e, List.length_append, ih, List.length_cons]
    show 2 + _ = _
    omega
/-- a line each -/
theorem pr_ten11 {l : List In} (h : ∀ x ∈ l, may11 x = true) : (pr11 l).countP (· == 10) = l.length := by
  induction l with
  | nil => rfl
  | cons x l ih =>
    have e : pr11 (x :: l) = ln11 x ++ [10] ++ pr11 l := List.flatMap_cons ..
    have h0 : (ln11 x).countP (· == 10) = 0 := by
      rw [List.countP_eq_zero]
      intro b hb
      have := ln_ten11 (h x (by simp)) b hb
      simpa using this
    rw [e, List.countP_append, List.countP_append, h0, ih fun y hy => h y (by simp [hy]), List.length_cons]
    show 0 + 1 + _ = _
    omega
/-- Check -/
def bad11 (n lits temps : Int) (x : In) : Bool :=
  if x.op = 1 ∨ x.op = 13 then decide (lits ≤ x.a) else if x.op = 8 ∨ x.op = 9 then decide (lits ≤ x.a / 8) || decide (4 < x.a % 8) else if x.op = 2 ∨ x.op = 4 then decide (temps ≤ x.a)
  else if x.op = 16 ∨ x.op = 17 then decide (8 ≤ x.a) else if x.op = 3 ∨ x.op = 5 then decide (64 ≤ x.a) else if x.op = 10 ∨ x.op = 11 ∨ x.op = 12 then decide (n ≤ x.a) else false
def end11 (l : List In) : Bool := match l.getLast? with
  | some x => decide (x.op = 14) || (decide (x.op = 15) || decide (x.op = 10))
  | none => false
def ck11 (l : List In) (lits temps : Int) : Int := if (all11 l && (!l.any (bad11 l.length lits temps) && end11 l)) = true then 0 else 110
end Go.Proofs.YtalfbdigjaibkaaGreat
