/-
  Plain mathematics: what follows of floats, as the stage's statements say it: signs turned, twice, the edges, whole numbers. No program is spoken of here.
-/
import Derived.Test.YtdiaegfbaklpbaaU
namespace Go.Proofs.Ytdiaegfbaklpbaa
open Flt
namespace Flt

theorem opp_sg (n : Bool) {r : Nat} (h : r < 9223372036854775808) : opp (sg n r) = sg (!n) r := by
  unfold opp; rw [ngv_sg n h, rg_sg n h]
theorem opp_rnd (K : Nat) (n : Bool) (N D : Nat) : opp (rnd K n N D) = rnd K (!n) N D := opp_sg n (min_lt _)
theorem kd_nan : kd theNaN = 0 := by decide
theorem kd_sg0 (n : Bool) : kd (sg n 0) = 2 := by cases n <;> decide
theorem in_nan : In64 theNaN := by unfold In64 theNaN; omega
theorem canon_le {a : Int} (h : rg a ≤ infR) : canon a = a := by unfold canon; rw [if_neg (by omega)]
theorem canon_nan : canon theNaN = theNaN := by decide
theorem canon_rnd (K : Nat) (n : Bool) (N D : Nat) : canon (rnd K n N D) = rnd K n N D := by
  apply canon_le; unfold rnd; rw [rg_sg _ (min_lt _)]; omega
theorem canon_sg (n : Bool) {r : Nat} (h : r ≤ infR) : canon (sg n r) = sg n r := by
  have : infR < 9223372036854775808 := by decide
  apply canon_le; rw [rg_sg _ (by omega)]; exact h

theorem exK : ∃ K : Nat, 2400 ≤ K := ⟨2400, Nat.le_refl _⟩

/-- the one NaN, or none -/
def Canonical (x : Int) : Prop := x = theNaN ∨ rg x ≤ infR
theorem Canonical.eq {x : Int} (h : Canonical x) : canon x = x := by
  rcases h with h | h
  · rw [h]; exact canon_nan
  · exact canon_le h
theorem cn_nan : Canonical theNaN := .inl rfl
theorem cn_rnd (K : Nat) (n : Bool) (N D : Nat) : Canonical (rnd K n N D) := .inr (by unfold rnd; rw [rg_sg _ (min_lt _)]; omega)
theorem cn_inf (n : Bool) : Canonical (sg n infR) := .inr (by rw [rg_sg _ (by decide)]; exact Nat.le_refl _)
theorem cn_zero (n : Bool) : Canonical (sg n 0) := .inr (by rw [rg_sg _ (by omega)]; exact Nat.zero_le _)
theorem fAdd_canon {a b : Int} (ha : In64 a) (hb : In64 b) : canon (fAdd a b) = fAdd a b := by
  obtain ⟨K, hK⟩ := exK
  apply Canonical.eq
  rw [fAdd_eq ha hb (K := K) (by omega)]
  unfold mAdd
  repeat' split
  all_goals first | exact cn_nan | exact cn_rnd _ _ _ _ | exact cn_zero _ | exact .inr (by omega)
theorem fSub_canon {a b : Int} (ha : In64 a) (hb : In64 b) : canon (fSub a b) = fSub a b := by
  rw [fSub_eq hb]
  by_cases h : infR < rg b
  · rw [if_pos h]; exact canon_nan
  · rw [if_neg h]; exact fAdd_canon ha (in_opp b)
theorem fMul_canon {a b : Int} (ha : In64 a) (hb : In64 b) : canon (fMul a b) = fMul a b := by
  obtain ⟨K, hK⟩ := exK
  apply Canonical.eq
  rw [fMul_eq ha hb (K := K) (by omega)]
  unfold mMul
  repeat' split
  all_goals first | exact cn_nan | exact cn_rnd _ _ _ _ | exact cn_inf _
theorem fDiv_canon {a b : Int} (ha : In64 a) (hb : In64 b) : canon (fDiv a b) = fDiv a b := by
  obtain ⟨K, hK⟩ := exK
  apply Canonical.eq
  rw [fDiv_eq ha hb (K := K) (by omega)]
  unfold mDiv
  repeat' split
  all_goals first | exact cn_nan | exact cn_rnd _ _ _ _ | exact cn_inf _ | exact cn_zero _

theorem fAdd_comm {a b : Int} (ha : In64 a) (hb : In64 b) : fAdd b a = fAdd a b := by
  obtain ⟨K, hK⟩ := exK
  have e1 := sg_rg ha
  have e2 := sg_rg hb
  rw [fAdd_eq ha hb (K := K) (by omega), fAdd_eq hb ha (K := K) (by omega)]
  unfold mAdd
  rw [Int.add_comm (sv K b), Bool.and_comm (ngv b)]
  by_cases n1 : infR < rg a
  · rw [if_pos (.inr n1), if_pos (.inl n1)]
  by_cases n2 : infR < rg b
  · rw [if_pos (.inl n2), if_pos (.inr n2)]
  have m1 : ¬ (infR < rg b ∨ infR < rg a) := by omega
  have m2 : ¬ (infR < rg a ∨ infR < rg b) := by omega
  rw [if_neg m1, if_neg m2]
  by_cases i1 : rg a = infR
  · by_cases i2 : rg b = infR
    · rw [if_pos i2, if_pos i1, if_pos i1, if_pos i2]
      by_cases g : ngv a = ngv b
      · rw [if_pos g, if_pos g.symm]
        rw [← e1, ← e2, i1, i2, g]
      · rw [if_neg g, if_neg (fun h => g h.symm)]
    · rw [if_neg i2, if_pos i1, if_pos i1, if_neg i2]
  · by_cases i2 : rg b = infR
    · rw [if_pos i2, if_neg i1, if_neg i1, if_pos i2]
    · rw [if_neg i2, if_neg i1, if_neg i1, if_neg i2]

theorem fMul_comm {a b : Int} (ha : In64 a) (hb : In64 b) : fMul b a = fMul a b := by
  obtain ⟨K, hK⟩ := exK
  rw [fMul_eq ha hb (K := K) (by omega), fMul_eq hb ha (K := K) (by omega)]
  unfold mMul
  rw [Bool.xor_comm (ngv b), Nat.mul_comm (val K (rg b))]
  simp only [Or.comm (a := infR < rg b), Or.comm (a := rg b = infR), Or.comm (a := rg b = 0)]

theorem fMul_oppL {a b : Int} (ha : In64 a) (hb : In64 b) (h : kd (fMul a b) ≠ 0) : fMul (opp a) b = opp (fMul a b) := by
  obtain ⟨K, hK⟩ := exK
  have hi : infR < 9223372036854775808 := by decide
  rw [fMul_eq ha hb (K := K) (by omega)] at h ⊢
  rw [fMul_eq (in_opp a) hb (K := K) (by omega)]
  unfold mMul at *
  rw [rg_opp, ngv_opp]
  by_cases n : infR < rg a ∨ infR < rg b
  · rw [if_pos n] at h; exact absurd kd_nan h
  · rw [if_neg n] at h ⊢
    rw [if_neg n]
    by_cases i : rg a = infR ∨ rg b = infR
    · rw [if_pos i] at h ⊢
      rw [if_pos i]
      by_cases z : rg a = 0 ∨ rg b = 0
      · rw [if_pos z] at h; exact absurd kd_nan h
      · rw [if_neg z, if_neg z, opp_sg _ hi, Bool.not_xor]
    · rw [if_neg i, if_neg i, opp_rnd, Bool.not_xor]

theorem fMul_oppR {a b : Int} (ha : In64 a) (hb : In64 b) (h : kd (fMul a b) ≠ 0) : fMul a (opp b) = opp (fMul a b) := by
  rw [← fMul_comm ha hb] at h ⊢
  rw [fMul_comm (in_opp b) ha, fMul_oppL hb ha h]

theorem rg_fMul {a b : Int} (ha : In64 a) (hb : In64 b) : rg (fMul a b) ≤ infR ∨ fMul a b = theNaN := by
  obtain ⟨K, hK⟩ := exK
  have hi : infR < 9223372036854775808 := by decide
  rw [fMul_eq ha hb (K := K) (by omega)]
  unfold mMul
  repeat' split
  all_goals first | exact .inr rfl | exact .inl (by rw [rg_sg _ hi]; exact Nat.le_refl _) | exact .inl (by unfold rnd; rw [rg_sg _ (min_lt _)]; omega)

theorem kd_opp (a : Int) : kd (opp a) = kd a := by unfold kd; rw [rg_opp]

theorem in_rnd (K : Nat) (n : Bool) (N D : Nat) : In64 (rnd K n N D) := in_sg n (min_lt _)
theorem in_fMul {a b : Int} (ha : In64 a) (hb : In64 b) : In64 (fMul a b) := by
  obtain ⟨K, hK⟩ := exK
  have hi : infR < 9223372036854775808 := by decide
  rw [fMul_eq ha hb (K := K) (by omega)]
  unfold mMul
  repeat' split
  all_goals first | exact in_nan | exact in_sg _ hi | exact in_rnd _ _ _ _
theorem in_fDiv {a b : Int} (ha : In64 a) (hb : In64 b) : In64 (fDiv a b) := by
  obtain ⟨K, hK⟩ := exK
  have hi : infR < 9223372036854775808 := by decide
  rw [fDiv_eq ha hb (K := K) (by omega)]
  unfold mDiv
  repeat' split
  all_goals first | exact in_nan | exact in_sg _ hi | exact in_rnd _ _ _ _ | exact in_sg _ (by omega)
theorem in_fAdd {a b : Int} (ha : In64 a) (hb : In64 b) : In64 (fAdd a b) := by
  obtain ⟨K, hK⟩ := exK
  rw [fAdd_eq ha hb (K := K) (by omega)]
  unfold mAdd
  repeat' split
  all_goals first | exact in_nan | exact ha | exact hb | exact in_rnd _ _ _ _ | exact in_sg _ (by omega)
theorem in_fSub {a b : Int} (ha : In64 a) (hb : In64 b) : In64 (fSub a b) := by
  rw [fSub_eq hb]
  split
  · exact in_nan
  · exact in_fAdd ha (in_opp b)

theorem fMul_oppB {a b : Int} (ha : In64 a) (hb : In64 b) (h : kd (fMul a b) ≠ 0) : fMul (opp a) (opp b) = fMul a b := by
  have h1 := fMul_oppL ha hb h
  have h2 : kd (fMul (opp a) b) ≠ 0 := by rw [h1, kd_opp]; exact h
  rw [fMul_oppR (in_opp a) hb h2, h1, opp_opp (in_fMul ha hb)]

theorem fDiv_oppL {a b : Int} (ha : In64 a) (hb : In64 b) (h : kd (fDiv a b) ≠ 0) : fDiv (opp a) b = opp (fDiv a b) := by
  obtain ⟨K, hK⟩ := exK
  have hi : infR < 9223372036854775808 := by decide
  rw [fDiv_eq ha hb (K := K) (by omega)] at h ⊢
  rw [fDiv_eq (in_opp a) hb (K := K) (by omega)]
  unfold mDiv at *
  rw [rg_opp, ngv_opp]
  repeat' split
  all_goals first
    | (simp_all [kd_nan]; done)
    | (rw [opp_sg _ hi, Bool.not_xor]; done)
    | (rw [opp_sg _ (by omega), Bool.not_xor]; done)
    | (rw [opp_rnd, Bool.not_xor]; done)

theorem fDiv_oppR {a b : Int} (ha : In64 a) (hb : In64 b) (h : kd (fDiv a b) ≠ 0) : fDiv a (opp b) = opp (fDiv a b) := by
  obtain ⟨K, hK⟩ := exK
  have hi : infR < 9223372036854775808 := by decide
  rw [fDiv_eq ha hb (K := K) (by omega)] at h ⊢
  rw [fDiv_eq ha (in_opp b) (K := K) (by omega)]
  unfold mDiv at *
  rw [rg_opp, ngv_opp]
  repeat' split
  all_goals first
    | (simp_all [kd_nan]; done)
    | (rw [opp_sg _ hi, Bool.xor_not]; done)
    | (rw [opp_sg _ (by omega), Bool.xor_not]; done)
    | (rw [opp_rnd, Bool.xor_not]; done)

theorem fDiv_oppB {a b : Int} (ha : In64 a) (hb : In64 b) (h : kd (fDiv a b) ≠ 0) : fDiv (opp a) (opp b) = fDiv a b := by
  have h1 := fDiv_oppL ha hb h
  have h2 : kd (fDiv (opp a) b) ≠ 0 := by rw [h1, kd_opp]; exact h
  rw [fDiv_oppR (in_opp a) hb h2, h1, opp_opp (in_fDiv ha hb)]

theorem fAdd_oppB {a b : Int} (ha : In64 a) (hb : In64 b) (h : kd (fAdd a b) ≠ 0) (h' : kd (fAdd a b) ≠ 2) : fAdd (opp a) (opp b) = opp (fAdd a b) := by
  obtain ⟨K, hK⟩ := exK
  rw [fAdd_eq ha hb (K := K) (by omega)] at h h' ⊢
  rw [fAdd_eq (in_opp a) (in_opp b) (K := K) (by omega)]
  unfold mAdd at *
  rw [rg_opp, rg_opp, ngv_opp, ngv_opp, sv_opp, sv_opp]
  by_cases n : infR < rg a ∨ infR < rg b
  · rw [if_pos n] at h; exact absurd kd_nan h
  rw [if_neg n] at h h' ⊢
  rw [if_neg n]
  by_cases i1 : rg a = infR
  · rw [if_pos i1] at h h' ⊢
    rw [if_pos i1]
    by_cases i2 : rg b = infR
    · rw [if_pos i2] at h ⊢
      rw [if_pos i2]
      by_cases g : ngv a = ngv b
      · rw [if_pos g, if_pos (by rw [g])]
      · rw [if_neg g] at h; exact absurd kd_nan h
    · rw [if_neg i2, if_neg i2]
  · rw [if_neg i1] at h h' ⊢
    rw [if_neg i1]
    by_cases i2 : rg b = infR
    · rw [if_pos i2, if_pos i2]
    · rw [if_neg i2] at h h' ⊢
      rw [if_neg i2]
      by_cases z : sv K a + sv K b = 0
      · rw [if_pos z] at h'; exact absurd (kd_sg0 _) h'
      · rw [if_neg z, if_neg (by omega), opp_rnd]
        have e1 : (-sv K a + -sv K b).natAbs = (sv K a + sv K b).natAbs := by omega
        have e2 : decide (-sv K a + -sv K b < 0) = !decide (sv K a + sv K b < 0) := by
          by_cases g : sv K a + sv K b < 0
          · have : ¬ (-sv K a + -sv K b < 0) := by omega
            simp [g]; omega
          · have : (-sv K a + -sv K b < 0) := by omega
            simp [g]; omega
        rw [e1, e2]

theorem fSub_oppB {a b : Int} (ha : In64 a) (hb : In64 b) (h : kd (fSub a b) ≠ 0) (h' : kd (fSub a b) ≠ 2) : fSub (opp a) (opp b) = opp (fSub a b) := by
  have n : ¬ infR < rg b := by
    intro n
    rw [fSub_eq hb, if_pos n] at h
    exact h kd_nan
  rw [fSub_eq hb, if_neg n] at h h' ⊢
  rw [fSub_eq (in_opp b), rg_opp, if_neg n]
  exact fAdd_oppB ha (in_opp b) h h'

/- the order, with both signs turned -/
theorem ord_opp (a : Int) : ord (opp a) = - ord a := by
  unfold ord; rw [ngv_opp, rg_opp]; cases ngv a <;> simp
theorem notNaN_opp (a b : Int) : notNaN (opp a) (opp b) = notNaN a b := by unfold notNaN; rw [rg_opp, rg_opp]
theorem notNaN_comm (a b : Int) : notNaN b a = notNaN a b := by unfold notNaN; rw [Bool.and_comm]
theorem fLess_opp {a b : Int} (ha : In64 a) (hb : In64 b) : fLess (opp b) (opp a) = fLess a b := by
  rw [fLess_eq ha hb, fLess_eq (in_opp b) (in_opp a), notNaN_opp, notNaN_comm, ord_opp, ord_opp]
  congr 1
  have : (-ord b < -ord a) ↔ (ord a < ord b) := by omega
  simp only [this]
theorem fEqual_comm {a b : Int} (ha : In64 a) (hb : In64 b) : fEqual b a = fEqual a b := by
  rw [fEqual_eq ha hb, fEqual_eq hb ha, notNaN_comm]
  congr 1
  simp only [eq_comm]
theorem nan_no {a b : Int} (ha : In64 a) (hb : In64 b) (h : infR < rg a ∨ infR < rg b) : fLess a b = false ∧ fLess b a = false ∧ fEqual a b = false ∧ fEqual b a = false := by
  have n : notNaN a b = false := by
    unfold notNaN
    rcases h with h | h
    · have : ¬ rg a ≤ infR := by omega
      simp [this]
    · have : ¬ rg b ≤ infR := by omega
      simp [this]
  rw [fLess_eq ha hb, fLess_eq hb ha, fEqual_eq ha hb, fEqual_eq hb ha, notNaN_comm a b, n]
  simp
theorem just_one {a b : Int} (ha : In64 a) (hb : In64 b) (h1 : ¬ infR < rg a) (h2 : ¬ infR < rg b) :
    (fLess a b = true ∧ fLess b a = false ∧ fEqual a b = false) ∨ (fLess a b = false ∧ fLess b a = true ∧ fEqual a b = false) ∨ (fLess a b = false ∧ fLess b a = false ∧ fEqual a b = true) := by
  have n : notNaN a b = true := by
    unfold notNaN
    simp; omega
  rw [fLess_eq ha hb, fLess_eq hb ha, fEqual_eq ha hb, notNaN_comm a b, n]
  simp only [Bool.true_and, decide_eq_true_eq, decide_eq_false_iff_not]
  omega

end Flt
end Go.Proofs.Ytdiaegfbaklpbaa
