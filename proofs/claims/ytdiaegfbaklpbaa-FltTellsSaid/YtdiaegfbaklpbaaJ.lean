/- Plain mathematics: products and quotients by kinds; a product of 53 digits by halves. No program is spoken of here. -/
import Derived.Test.YtdiaegfbaklpbaaA
import Derived.Test.YtdiaegfbaklpbaaE
namespace Go.Proofs.Ytdiaegfbaklpbaa
open Flt
namespace Flt

theorem kd2 (a : Int) : kd a = 2 ↔ rg a = 0 := by
  constructor
  · exact kd_two a
  · intro h; unfold kd; rw [h]; decide

theorem mul_nan {a b : Int} (ha : In64 a) (hb : In64 b) (h : kd a = 0 ∨ kd b = 0 ∨ kd a = 1 ∧ kd b = 2 ∨ kd a = 2 ∧ kd b = 1) : fMul a b = theNaN := by
  obtain ⟨K, hK⟩ := exK
  rw [fMul_eq ha hb (K := K) (by omega)]
  unfold mMul
  rw [kd_zero, kd_zero, kd_one, kd_one, kd2, kd2] at h
  by_cases n : infR < rg a ∨ infR < rg b
  · rw [if_pos n]
  · rw [if_neg n, if_pos (by omega), if_pos (by omega)]
theorem mul_inf {a b : Int} (ha : In64 a) (hb : In64 b) (h0 : ¬ (kd a = 0 ∨ kd b = 0 ∨ kd a = 1 ∧ kd b = 2 ∨ kd a = 2 ∧ kd b = 1)) (h : kd a = 1 ∨ kd b = 1) : fMul a b = sg (ngv a ^^ ngv b) infR := by
  obtain ⟨K, hK⟩ := exK
  rw [fMul_eq ha hb (K := K) (by omega)]
  unfold mMul
  have hi : infR ≠ 0 := by decide
  rw [kd_zero, kd_zero, kd_one, kd_one, kd2, kd2] at h0
  rw [kd_one, kd_one] at h
  rw [if_neg (by omega), if_pos h, if_neg (by omega)]
theorem mul_zero {a b : Int} (ha : In64 a) (hb : In64 b) (h0 : ¬ (kd a = 0 ∨ kd b = 0)) (h1 : ¬ (kd a = 1 ∨ kd b = 1)) (h : kd a = 2 ∨ kd b = 2) : fMul a b = sg (ngv a ^^ ngv b) 0 := by
  obtain ⟨K, hK⟩ := exK
  rw [fMul_eq ha hb (K := K) (by omega)]
  unfold mMul
  rw [kd_zero, kd_zero] at h0
  rw [kd_one, kd_one] at h1
  rw [kd2, kd2] at h
  rw [if_neg h0, if_neg h1]
  have hz : val K (rg a) * val K (rg b) = 0 := by
    rcases h with g | g <;> rw [g, val_zero] <;> simp
  unfold rnd
  rw [hz, rq_zero]
  rfl

theorem div_nan {a b : Int} (ha : In64 a) (hb : In64 b) (h : kd a = 0 ∨ kd b = 0 ∨ kd a = 1 ∧ kd b = 1 ∨ kd a = 2 ∧ kd b = 2) : fDiv a b = theNaN := by
  obtain ⟨K, hK⟩ := exK
  have hi : infR ≠ 0 := by decide
  rw [fDiv_eq ha hb (K := K) (by omega)]
  unfold mDiv
  rw [kd_zero, kd_zero, kd_one, kd_one, kd2, kd2] at h
  by_cases n : infR < rg a ∨ infR < rg b
  · rw [if_pos n]
  · rw [if_neg n]
    by_cases i : rg a = infR
    · rw [if_pos i, if_pos (by omega)]
    · rw [if_neg i, if_neg (by omega), if_pos (by omega), if_pos (by omega)]
theorem div_inf {a b : Int} (ha : In64 a) (hb : In64 b) (h0 : ¬ (kd a = 0 ∨ kd b = 0 ∨ kd a = 1 ∧ kd b = 1 ∨ kd a = 2 ∧ kd b = 2)) (h : kd a = 1 ∨ kd b = 2) : fDiv a b = sg (ngv a ^^ ngv b) infR := by
  obtain ⟨K, hK⟩ := exK
  have hi : infR ≠ 0 := by decide
  rw [fDiv_eq ha hb (K := K) (by omega)]
  unfold mDiv
  rw [kd_zero, kd_zero, kd_one, kd_one, kd2, kd2] at h0
  rw [kd_one, kd2] at h
  rw [if_neg (by omega)]
  by_cases i : rg a = infR
  · rw [if_pos i, if_neg (by omega)]
  · rw [if_neg i, if_neg (by omega), if_pos (by omega), if_neg (by omega)]
theorem div_zero {a b : Int} (ha : In64 a) (hb : In64 b) (h0 : ¬ (kd a = 0 ∨ kd b = 0 ∨ kd a = 1 ∧ kd b = 1 ∨ kd a = 2 ∧ kd b = 2)) (h1 : ¬ (kd a = 1 ∨ kd b = 2)) (h : kd a = 2 ∨ kd b = 1) : fDiv a b = sg (ngv a ^^ ngv b) 0 := by
  obtain ⟨K, hK⟩ := exK
  have hi : infR ≠ 0 := by decide
  rw [fDiv_eq ha hb (K := K) (by omega)]
  unfold mDiv
  rw [kd_zero, kd_zero, kd_one, kd_one, kd2, kd2] at h0
  rw [kd_one, kd2] at h1
  rw [kd2, kd_one] at h
  rw [if_neg (by omega), if_neg (by omega)]
  by_cases i : rg b = infR
  · rw [if_pos i]
  · have z : rg a = 0 := by omega
    rw [if_neg i, if_neg (by omega), z, val_zero]
    unfold rnd
    rw [Nat.zero_mul, rq_zero]
    rfl

/-- A product by halves of 27 digits. -/
theorem halves (m n : Nat) : ∃ m0 m1 n0 n1 L l0 l1 X1 X2 Y y0 y1 H : Nat,
    m % 134217728 = m0 ∧ m / 134217728 = m1 ∧ n % 134217728 = n0 ∧ n / 134217728 = n1 ∧ m0 * n0 = L ∧ L % 134217728 = l0 ∧ L / 134217728 = l1 ∧ m1 * n0 = X1 ∧ m0 * n1 = X2 ∧ X1 + X2 + l1 = Y ∧ Y % 134217728 = y0 ∧ Y / 134217728 = y1 ∧ m1 * n1 = H ∧
    m * n / 70368744177664 = (H + y1) * 256 + y0 / 524288 ∧ (m * n % 70368744177664 = 0 ↔ Y % 524288 = 0 ∧ l0 = 0) := by
  refine ⟨_, _, _, _, _, _, _, _, _, _, _, _, _, rfl, rfl, rfl, rfl, rfl, rfl, rfl, rfl, rfl, rfl, rfl, rfl, rfl, ?_⟩
  have hm : m = 134217728 * (m / 134217728) + m % 134217728 := (Nat.div_add_mod _ _).symm
  have hn : n = 134217728 * (n / 134217728) + n % 134217728 := (Nat.div_add_mod _ _).symm
  have hP : m * n = m / 134217728 * (n / 134217728) * 18014398509481984 + (m / 134217728 * (n % 134217728) + m % 134217728 * (n / 134217728)) * 134217728 + m % 134217728 * (n % 134217728) := by
    have e1 : m * n = (134217728 * (m / 134217728) + m % 134217728) * (134217728 * (n / 134217728) + n % 134217728) := by rw [← hm, ← hn]
    rw [e1]
    generalize m / 134217728 = m1
    generalize n / 134217728 = n1
    generalize m % 134217728 = m0
    generalize n % 134217728 = n0
    rw [Nat.add_mul, Nat.mul_add, Nat.mul_add, Nat.add_mul]
    have a1 : 134217728 * m1 * (134217728 * n1) = m1 * n1 * 18014398509481984 := by
      rw [Nat.mul_mul_mul_comm, Nat.mul_comm]
    have a2 : 134217728 * m1 * n0 = m1 * n0 * 134217728 := by rw [Nat.mul_assoc, Nat.mul_comm]
    have a3 : m0 * (134217728 * n1) = m0 * n1 * 134217728 := by rw [Nat.mul_left_comm, Nat.mul_comm]
    rw [a1, a2, a3]
    omega
  rw [hP]
  generalize m / 134217728 * (n / 134217728) = H
  generalize m / 134217728 * (n % 134217728) = X1
  generalize m % 134217728 * (n / 134217728) = X2
  generalize m % 134217728 * (n % 134217728) = L
  omega

end Flt
end Go.Proofs.Ytdiaegfbaklpbaa
