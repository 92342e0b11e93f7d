/-
  Plain mathematics of binary64 on whole numbers: rounding to nearest even of a fraction that is told in units of 2 to the -K, and what a rung (the bits without the sign) is worth in those units. No program is spoken of here.
-/
import Derived.Laws.FloatArith
namespace Go.Proofs.Ytdiaegfbaklpbaa
namespace Flt

/-- n / d, rounded to the nearest whole number, of two the even one. -/
def rhe (n d : Nat) : Nat := n / d + (if d < 2 * (n % d) ∨ (2 * (n % d) = d ∧ n / d % 2 = 1) then 1 else 0)

theorem rhe_ge (n d : Nat) : n / d ≤ rhe n d := Nat.le_add_right ..
theorem rhe_le (n d : Nat) : rhe n d ≤ n / d + 1 := by unfold rhe; split <;> omega

theorem rhe_scale {c : Nat} (hc : 0 < c) (n d : Nat) : rhe (c * n) (c * d) = rhe n d := by
  unfold rhe
  rw [Nat.mul_div_mul_left _ _ hc, Nat.mul_mod_mul_left]
  have h1 : (c * d < 2 * (c * (n % d))) ↔ (d < 2 * (n % d)) := by
    rw [show 2 * (c * (n % d)) = c * (2 * (n % d)) from Nat.mul_left_comm ..]
    exact Nat.mul_lt_mul_left hc
  have h2 : (2 * (c * (n % d)) = c * d) ↔ (2 * (n % d) = d) := by
    rw [show 2 * (c * (n % d)) = c * (2 * (n % d)) from Nat.mul_left_comm ..]
    exact ⟨Nat.eq_of_mul_eq_mul_left hc, fun h => congrArg _ h⟩
  simp only [h1, h2]

theorem rhe_scale' {c : Nat} (hc : 0 < c) (n d : Nat) : rhe (n * c) (d * c) = rhe n d := by
  rw [Nat.mul_comm n, Nat.mul_comm d]; exact rhe_scale hc n d

theorem rhe_exact (c : Nat) {d : Nat} (hd : 0 < d) : rhe (c * d) d = c := by
  unfold rhe
  rw [Nat.mul_div_cancel _ hd, Nat.mul_mod_left, if_neg]
  · rfl
  · omega

/-- What is left over need only be told from nothing. -/
theorem rhe_sticky (n : Nat) {d : Nat} (h : Nat) (hd : 0 < d) :
    rhe (2 * (n / d) + (if n % d = 0 then 0 else 1)) (2 * (2 * h)) = rhe n (d * (2 * h)) := by
  have hr : n % d < d := Nat.mod_lt _ hd
  generalize hs : (if n % d = 0 then 0 else 1 : Nat) = s
  have hs' : (s = 0 ∧ n % d = 0) ∨ (s = 1 ∧ 0 < n % d) := by split at hs <;> omega
  unfold rhe
  have e1 : n / (d * (2 * h)) = n / d / (2 * h) := (Nat.div_div_eq_div_mul ..).symm
  have e2 : n % (d * (2 * h)) = n % d + d * (n / d % (2 * h)) := Nat.mod_mul ..
  have e3 : (2 * (n / d) + s) / (2 * (2 * h)) = n / d / (2 * h) := by
    rw [← Nat.div_div_eq_div_mul]
    congr 1
    omega
  have e4 : (2 * (n / d) + s) % (2 * (2 * h)) = s + 2 * (n / d % (2 * h)) := by
    rw [Nat.mod_mul]
    congr 1
    · omega
    · congr 2
      omega
  rw [e1, e2, e3, e4]
  generalize n / d / (2 * h) = q
  generalize n / d % (2 * h) = x
  generalize n % d = r at *
  have c1 : (2 * (2 * h) < 2 * (s + 2 * x)) ↔ (d * (2 * h) < 2 * (r + d * x)) := by
    rw [show d * (2 * h) = 2 * (d * h) from Nat.mul_left_comm ..]
    rcases Nat.lt_trichotomy h x with g | g | g
    · have : d * (h + 1) ≤ d * x := Nat.mul_le_mul_left _ g
      rw [Nat.mul_add] at this
      omega
    · subst g; omega
    · have : d * (x + 1) ≤ d * h := Nat.mul_le_mul_left _ g
      rw [Nat.mul_add] at this
      omega
  have c2 : (2 * (s + 2 * x) = 2 * (2 * h)) ↔ (2 * (r + d * x) = d * (2 * h)) := by
    rw [show d * (2 * h) = 2 * (d * h) from Nat.mul_left_comm ..]
    rcases Nat.lt_trichotomy h x with g | g | g
    · have : d * (h + 1) ≤ d * x := Nat.mul_le_mul_left _ g
      rw [Nat.mul_add] at this
      omega
    · subst g; omega
    · have : d * (x + 1) ≤ d * h := Nat.mul_le_mul_left _ g
      rw [Nat.mul_add] at this
      omega
  simp only [c1, c2]

theorem pow_pos2 (k : Nat) : 0 < 2 ^ k := Nat.two_pow_pos k

theorem cut_eq (neg : Bool) (n drop : Nat) : Ieee.Toward.even.cut neg n drop = rhe n (2 ^ drop) := by
  unfold Ieee.Toward.cut rhe
  dsimp only
  by_cases hd : drop ≤ n.log2 + 2
  · rw [Nat.min_eq_left hd, Nat.shiftLeft_eq, Nat.one_mul]
    congr 1
    by_cases h1 : 2 ^ drop < 2 * (n % 2 ^ drop)
    · simp [h1]
    · by_cases h2 : 2 * (n % 2 ^ drop) = 2 ^ drop
      · by_cases h3 : n / 2 ^ drop % 2 = 1
        · simp [h2, h3]
        · simp [h2, h3]
      · have h2' : ¬ (2 ^ drop = 2 * (n % 2 ^ drop)) := fun h => h2 h.symm
        simp [h1, h2, h2']
  · rw [Nat.min_eq_right (by omega), Nat.shiftLeft_eq, Nat.one_mul]
    have hn : n < 2 ^ (n.log2 + 1) := Nat.lt_log2_self
    have ha : 2 ^ (n.log2 + 2) = 2 * 2 ^ (n.log2 + 1) := by rw [Nat.pow_succ]; omega
    have hb : 2 ^ (n.log2 + 2) ≤ 2 ^ drop := Nat.pow_le_pow_right (by omega) (by omega)
    have g1 : n < 2 ^ (n.log2 + 2) := by omega
    have g2 : n < 2 ^ drop := by omega
    have h1 : ¬ (2 ^ (n.log2 + 2) < 2 * n) := by omega
    have h2 : ¬ (2 ^ drop < 2 * n) := by omega
    rw [Nat.div_eq_of_lt g1, Nat.mod_eq_of_lt g1, Nat.div_eq_of_lt g2, Nat.mod_eq_of_lt g2]
    simp only [h1, h2]
    simp

/-- The place, in units of 2 to the -K, of the last digit that is kept of N / D. -/
def last (K N D : Nat) : Nat := max (Nat.log2 (N / D) - 52) (K - 1074)

/-- The rung nearest to N / D (told in units of 2 to the -K), as if there were no greatest one. -/
def rq (K N D : Nat) : Nat := (last K N D - (K - 1074)) * 2 ^ 52 + rhe N (D * 2 ^ last K N D)

/-- What a rung is worth in units of 2 to the -K. -/
def val (K r : Nat) : Nat := if r < 2 ^ 52 then r * 2 ^ (K - 1074) else (2 ^ 52 + r % 2 ^ 52) * 2 ^ (K - 1074 + (r / 2 ^ 52 - 1))

theorem last_scale {c : Nat} (hc : 0 < c) (K N D : Nat) : last K (N * c) (D * c) = last K N D := by
  unfold last; rw [Nat.mul_div_mul_right _ _ hc]

theorem rq_scale {c : Nat} (hc : 0 < c) (K N D : Nat) : rq K (N * c) (D * c) = rq K N D := by
  unfold rq; rw [last_scale hc, Nat.mul_right_comm D c, rhe_scale' hc]

theorem rq_zero (K D : Nat) : rq K 0 D = 0 := by
  have : last K 0 D = K - 1074 := by
    unfold last
    rw [Nat.zero_div]
    show max (0 - 52) _ = _
    omega
  unfold rq
  rw [this]
  unfold rhe
  rw [Nat.zero_div, Nat.zero_mod, if_neg]
  · omega
  · have : 0 < 2 ^ (K - 1074) := pow_pos2 _
    rcases Nat.eq_zero_or_pos D with h | h
    · subst h; omega
    · have : 0 < D * 2 ^ (K - 1074) := Nat.mul_pos h this
      omega

theorem div_lt_last (K N D : Nat) : N / (D * 2 ^ last K N D) < 2 ^ 53 := by
  rw [← Nat.div_div_eq_div_mul, Nat.div_lt_iff_lt_mul (pow_pos2 _)]
  have h : N / D < 2 ^ (Nat.log2 (N / D) + 1) := Nat.lt_log2_self
  refine Nat.lt_of_lt_of_le h ?_
  rw [← Nat.pow_add]
  exact Nat.pow_le_pow_right (by omega) (by unfold last; omega)

theorem div_ge_last {K N D : Nat} (h : K - 1074 < last K N D) : 2 ^ 52 ≤ N / (D * 2 ^ last K N D) := by
  have hl : last K N D + 52 = Nat.log2 (N / D) := by unfold last at h ⊢; omega
  rw [← Nat.div_div_eq_div_mul, Nat.le_div_iff_mul_le (pow_pos2 _), ← Nat.pow_add, Nat.add_comm, hl]
  exact Nat.log2_self_le (by intro h0; rw [h0] at hl; have : Nat.log2 0 = 0 := rfl; omega)

theorem val_rq (K N D : Nat) : val K (rq K N D) = rhe N (D * 2 ^ last K N D) * 2 ^ last K N D := by
  have h1 := div_lt_last K N D
  have h2 : K - 1074 < last K N D → 2 ^ 52 ≤ N / (D * 2 ^ last K N D) := div_ge_last
  have h3 : K - 1074 ≤ last K N D := by unfold last; omega
  have h4 := rhe_ge N (D * 2 ^ last K N D)
  have h5 := rhe_le N (D * 2 ^ last K N D)
  unfold rq
  generalize rhe N (D * 2 ^ last K N D) = c at *
  generalize N / (D * 2 ^ last K N D) = q at *
  obtain ⟨j, hj⟩ : ∃ j, last K N D = K - 1074 + j := ⟨last K N D - (K - 1074), by omega⟩
  rw [hj] at h2 h3 ⊢
  rw [Nat.add_sub_cancel_left]
  clear hj
  unfold val
  by_cases hc : j * 2 ^ 52 + c < 2 ^ 52
  · have : j = 0 := by omega
    subst this
    rw [if_pos (by omega)]
    simp
  · rw [if_neg hc]
    have hc52 : 2 ^ 52 ≤ c := by
      rcases Nat.eq_zero_or_pos j with h | h
      · subst h; omega
      · have := h2 (by omega); omega
    by_cases hc53 : c = 2 ^ 53
    · have e1 : (j * 2 ^ 52 + c) % 2 ^ 52 = 0 := by omega
      have e2 : (j * 2 ^ 52 + c) / 2 ^ 52 - 1 = j + 1 := by omega
      rw [e1, e2, hc53, ← Nat.add_assoc, Nat.pow_succ 2 (K - 1074 + j), Nat.add_zero, show (2 : Nat) ^ 53 = 2 ^ 52 * 2 from rfl, Nat.mul_assoc, Nat.mul_comm 2]
    · have e1 : 2 ^ 52 + (j * 2 ^ 52 + c) % 2 ^ 52 = c := by omega
      have e2 : (j * 2 ^ 52 + c) / 2 ^ 52 - 1 = j := by omega
      rw [e1, e2]

theorem log2_mul_pow {m : Nat} (hm : 0 < m) (k : Nat) : Nat.log2 (m * 2 ^ k) = Nat.log2 m + k := by
  have hp := pow_pos2 k
  have hne : m * 2 ^ k ≠ 0 := Nat.mul_ne_zero (by omega) (by omega)
  have h1 : Nat.log2 m + k ≤ Nat.log2 (m * 2 ^ k) := by
    rw [Nat.le_log2 hne, Nat.pow_add]
    exact Nat.mul_le_mul_right _ (Nat.log2_self_le (by omega))
  have h2 : Nat.log2 (m * 2 ^ k) < Nat.log2 m + k + 1 := by
    rw [Nat.log2_lt hne, Nat.add_right_comm, Nat.pow_add]
    exact Nat.mul_lt_mul_of_pos_right Nat.lt_log2_self hp
  omega

theorem log2_eq {n k : Nat} (h1 : 2 ^ k ≤ n) (h2 : n < 2 ^ (k + 1)) : Nat.log2 n = k := by
  have hne : n ≠ 0 := by have := pow_pos2 k; omega
  have a := (Nat.le_log2 hne).2 h1
  have b := (Nat.log2_lt hne).2 h2
  omega

/-- A rung is the nearest one to what it is worth. -/
theorem rq_val (K r : Nat) : rq K (val K r) 1 = r := by
  unfold rq last val
  rw [Nat.div_one, Nat.one_mul]
  by_cases h : r < 2 ^ 52
  · rw [if_pos h]
    have hl : max (Nat.log2 (r * 2 ^ (K - 1074)) - 52) (K - 1074) = K - 1074 := by
      rcases Nat.eq_zero_or_pos r with h0 | h0
      · subst h0
        rw [Nat.zero_mul]
        show max (0 - 52) _ = _
        omega
      · rw [log2_mul_pow h0]
        have : Nat.log2 r < 52 := (Nat.log2_lt (by omega)).2 h
        omega
    rw [hl, rhe_exact _ (pow_pos2 _)]
    omega
  · rw [if_neg h]
    have hm : Nat.log2 (2 ^ 52 + r % 2 ^ 52) = 52 := log2_eq (by omega) (by omega)
    have hl : max (Nat.log2 ((2 ^ 52 + r % 2 ^ 52) * 2 ^ (K - 1074 + (r / 2 ^ 52 - 1))) - 52) (K - 1074) = K - 1074 + (r / 2 ^ 52 - 1) := by
      rw [log2_mul_pow (by omega), hm]; omega
    rw [hl, rhe_exact _ (pow_pos2 _)]
    omega

theorem val_zero (K : Nat) : val K 0 = 0 := by simp [val]

theorem val_pos {K r : Nat} (h : 0 < r) : 0 < val K r := by
  unfold val
  split
  · exact Nat.mul_pos h (pow_pos2 _)
  · exact Nat.mul_pos (by omega) (pow_pos2 _)

theorem val_succ (K r : Nat) : val K r < val K (r + 1) := by
  unfold val
  by_cases h1 : r + 1 < 2 ^ 52
  · rw [if_pos (by omega), if_pos h1]
    exact Nat.mul_lt_mul_of_pos_right (by omega) (pow_pos2 _)
  · rw [if_neg h1]
    by_cases h2 : r < 2 ^ 52
    · rw [if_pos h2]
      have e1 : 2 ^ 52 + (r + 1) % 2 ^ 52 = r + 1 := by omega
      have e2 : (r + 1) / 2 ^ 52 - 1 = 0 := by omega
      rw [e1, e2, Nat.add_zero]
      have hp := pow_pos2 (K - 1074)
      generalize 2 ^ (K - 1074) = p at *
      exact Nat.mul_lt_mul_of_pos_right (Nat.lt_succ_self r) hp
    · rw [if_neg h2]
      by_cases h3 : r % 2 ^ 52 + 1 < 2 ^ 52
      · have e1 : (r + 1) % 2 ^ 52 = r % 2 ^ 52 + 1 := by omega
        have e2 : (r + 1) / 2 ^ 52 = r / 2 ^ 52 := by omega
        rw [e1, e2]
        exact Nat.mul_lt_mul_of_pos_right (by omega) (pow_pos2 _)
      · have e1 : (r + 1) % 2 ^ 52 = 0 := by omega
        have e2 : (r + 1) / 2 ^ 52 - 1 = r / 2 ^ 52 - 1 + 1 := by omega
        rw [e1, e2, ← Nat.add_assoc, Nat.pow_succ 2 (K - 1074 + (r / 2 ^ 52 - 1))]
        have hp := pow_pos2 (K - 1074 + (r / 2 ^ 52 - 1))
        generalize 2 ^ (K - 1074 + (r / 2 ^ 52 - 1)) = p at *
        rw [Nat.add_zero, Nat.mul_comm p 2, ← Nat.mul_assoc]
        exact Nat.mul_lt_mul_of_pos_right (by omega) hp

theorem val_lt {K r s : Nat} (h : r < s) : val K r < val K s := by
  induction s with
  | zero => omega
  | succ s ih =>
    have := val_succ K s
    rcases Nat.lt_or_ge r s with g | g
    · exact Nat.lt_trans (ih g) this
    · have : r = s := by omega
      subst this; assumption

theorem val_lt_iff {K r s : Nat} : val K r < val K s ↔ r < s := by
  constructor
  · intro h
    rcases Nat.lt_trichotomy r s with g | g | g
    · exact g
    · subst g; omega
    · have := val_lt (K := K) g; omega
  · exact val_lt

theorem val_inj {K r s : Nat} (h : val K r = val K s) : r = s := by
  rcases Nat.lt_trichotomy r s with g | g | g
  · have := val_lt (K := K) g; omega
  · exact g
  · have := val_lt (K := K) g; omega

/-- WHAT IS LEFT OVER NEED ONLY BE TOLD FROM NOTHING, wherever the digits are cut at a place below the last one that is kept by two. -/
theorem rq_sticky {K N D t : Nat} (hD : 0 < D) (hq : 0 < N / (D * 2 ^ t)) (ht : t + 1 ≤ last K N D) :
    rq K ((2 * (N / (D * 2 ^ t)) + (if N % (D * 2 ^ t) = 0 then 0 else 1)) * 2 ^ t) 2 = rq K N D := by
  have hp := pow_pos2 t
  have hl : last K ((2 * (N / (D * 2 ^ t)) + (if N % (D * 2 ^ t) = 0 then 0 else 1)) * 2 ^ t) 2 = last K N D := by
    unfold last at ht ⊢
    have e1 : Nat.log2 (N / D) = Nat.log2 (N / (D * 2 ^ t)) + t := by
      rw [← Nat.div_div_eq_div_mul] at hq ⊢
      generalize N / D = x at *
      refine log2_eq ?_ ?_
      · rw [Nat.pow_add, ← Nat.le_div_iff_mul_le hp]
        exact Nat.log2_self_le (by omega)
      · rw [Nat.add_right_comm, Nat.pow_add, ← Nat.div_lt_iff_lt_mul hp]
        exact Nat.lt_log2_self
    have e2 : Nat.log2 ((2 * (N / (D * 2 ^ t)) + (if N % (D * 2 ^ t) = 0 then 0 else 1)) * 2 ^ t / 2) = Nat.log2 (N / (D * 2 ^ t)) + t := by
      generalize N / (D * 2 ^ t) = q at *
      generalize hs : (if N % (D * 2 ^ t) = 0 then 0 else 1 : Nat) = s
      have hs1 : s ≤ 1 := by split at hs <;> omega
      have ha : 2 ^ Nat.log2 q ≤ q := Nat.log2_self_le (by omega)
      have hb : q < 2 ^ (Nat.log2 q + 1) := Nat.lt_log2_self
      refine log2_eq ?_ ?_
      · rw [Nat.le_div_iff_mul_le (by omega), Nat.pow_add, Nat.mul_right_comm]
        exact Nat.mul_le_mul_right _ (by omega)
      · rw [Nat.div_lt_iff_lt_mul (by omega), Nat.add_right_comm, Nat.pow_add, Nat.mul_right_comm]
        exact Nat.mul_lt_mul_of_pos_right (by omega) hp
    rw [e1, e2]
  unfold rq
  rw [hl]
  congr 1
  obtain ⟨h, hh⟩ : ∃ h, last K N D = t + 1 + h := ⟨last K N D - (t + 1), by omega⟩
  rw [hh]
  have e3 : 2 ^ (t + 1 + h) = 2 ^ t * (2 * 2 ^ h) := by rw [Nat.pow_add, Nat.pow_succ]; ac_rfl
  rw [e3, ← Nat.mul_assoc D, ← rhe_sticky N (2 ^ h) (Nat.mul_pos hD hp), show 2 * (2 ^ t * (2 * 2 ^ h)) = (2 * (2 * 2 ^ h)) * 2 ^ t by ac_rfl, rhe_scale' hp]

end Flt
end Go.Proofs.Ytdiaegfbaklpbaa
