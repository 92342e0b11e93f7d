/-
  Plain mathematics: twice a float, and half of that; a float with itself; whole numbers' floats. No program is spoken of here.
-/
import Derived.Test.YtdiaegfbaklpbaaS
namespace Go.Proofs.Ytdiaegfbaklpbaa
open Flt

theorem xor_sign {a : Int} (h : In64 a) : bits .xor .i64 a (-9223372036854775808) = opp a := by
  have h1 : (BitVec.ofInt 64 (-9223372036854775808)).toNat = 2 ^ 63 := by decide
  have key : (BitVec.ofInt 64 a ^^^ BitVec.ofInt 64 (-9223372036854775808)).toNat = (a % ((2 ^ 64 : Nat) : Int)).toNat ^^^ 2 ^ 63 := by
    rw [BitVec.toNat_xor, BitVec.toNat_ofInt, h1]
  show IntKind.i64.wrap ((BitVec.ofInt 64 a ^^^ BitVec.ofInt 64 (-9223372036854775808)).toNat : Nat) = _
  rw [key, IntKind.wrap_i64]
  have h64 : ((2 ^ 64 : Nat) : Int) = 18446744073709551616 := by decide
  rw [h64]
  generalize hx : (a % 18446744073709551616).toNat = x
  have hm : (x ^^^ 2 ^ 63) % 2 ^ 63 = x % 2 ^ 63 := by
    rw [Nat.xor_mod_two_pow]
    simp
  have hd : (x ^^^ 2 ^ 63) / 2 ^ 63 = x / 2 ^ 63 ^^^ 1 := by
    rw [Nat.xor_div_two_pow]
  have hx64 : x < 2 ^ 64 := by omega
  have hy : x ^^^ 2 ^ 63 = 2 ^ 63 * ((x ^^^ 2 ^ 63) / 2 ^ 63) + (x ^^^ 2 ^ 63) % 2 ^ 63 := (Nat.div_add_mod _ _).symm
  have hy2 : x ^^^ 2 ^ 63 = 2 ^ 63 * (x / 2 ^ 63 ^^^ 1) + x % 2 ^ 63 := by
    rw [hm, hd] at hy; exact hy
  rw [hy2]
  have hq : x / 2 ^ 63 = 0 ∨ x / 2 ^ 63 = 1 := by omega
  unfold opp sg ngv rg
  unfold In64 at h
  rcases hq with hq | hq
  · rw [hq]
    have : (0 ^^^ 1 : Nat) = 1 := by decide
    rw [this]
    have ha : ¬ a < 0 := by omega
    simp only [ha, decide_false, Bool.not_false, if_true]
    omega
  · rw [hq]
    have : (1 ^^^ 1 : Nat) = 0 := by decide
    rw [this]
    have ha : a < 0 := by omega
    simp only [ha, decide_true, Bool.not_true]
    simp only [Bool.false_eq_true, if_false]
    omega

namespace Flt

/-- A number whose digits all are kept is what its float is worth. -/
theorem val_exact {K N D : Nat} (hD : 0 < D) (q : Nat) (h : N = q * (D * 2 ^ last K N D)) : val K (rq K N D) = q * 2 ^ last K N D := by
  rw [val_rq]
  congr 1
  have hp := pow_pos2 (last K N D)
  generalize last K N D = l at *
  subst h
  exact rhe_exact _ (Nat.mul_pos hD hp)

theorem val_infp (K : Nat) : val K infR = (2 ^ 52 + infR % 2 ^ 52) * 2 ^ (K - 1074 + (infR / 2 ^ 52 - 1)) := by
  unfold val
  exact if_neg (by decide)
theorem val_inf {K : Nat} (hK : 1074 ≤ K) : val K infR = 2 ^ 52 * 2 ^ (K + 972) := by
  rw [val_infp]
  have e : K - 1074 + (infR / 2 ^ 52 - 1) = K + 972 := by
    have : infR / 2 ^ 52 = 2047 := by decide
    omega
  have e2 : 2 ^ 52 + infR % 2 ^ 52 = 2 ^ 52 := by decide
  rw [e2, e]

theorem rq_lt_inf {K N D : Nat} (h : val K (rq K N D) < val K infR) : rnd K false N D = rnd K false N D ∧ min (rq K N D) infR = rq K N D := by
  have := val_lt_iff.1 h
  exact ⟨rfl, by omega⟩

theorem pow2_52 : (2 : Nat) ^ 52 = 4503599627370496 := by decide

theorem mul_two (m k : Nat) : 2 * (m * 2 ^ k) = m * 2 ^ (k + 1) := by
  rw [Nat.pow_succ, Nat.mul_left_comm, Nat.mul_comm 2]

/-- What twice a float is worth has all its digits kept. -/
theorem dvd_twice (K r : Nat) (hr : 0 < r) : ∃ q, 2 * val K r = q * 2 ^ last K (2 * val K r) 1 := by
  unfold last
  rw [Nat.div_one]
  unfold val
  by_cases h : r < 2 ^ 52
  · rw [if_pos h]
    have e : 2 * (r * 2 ^ (K - 1074)) = r * 2 ^ (K - 1074 + 1) := mul_two r _
    rw [e, log2_mul_pow hr]
    have hl : Nat.log2 r < 52 := (Nat.log2_lt (by omega)).2 h
    have e2 : max (Nat.log2 r + (K - 1074 + 1) - 52) (K - 1074) = K - 1074 := by omega
    rw [e2]
    exact ⟨2 * r, by rw [← mul_two, Nat.mul_assoc]⟩
  · rw [if_neg h]
    have e : 2 * ((2 ^ 52 + r % 2 ^ 52) * 2 ^ (K - 1074 + (r / 2 ^ 52 - 1))) = (2 ^ 52 + r % 2 ^ 52) * 2 ^ (K - 1074 + (r / 2 ^ 52 - 1) + 1) := mul_two _ _
    have hm : Nat.log2 (2 ^ 52 + r % 2 ^ 52) = 52 := log2_eq (by omega) (by omega)
    rw [e, log2_mul_pow (by omega), hm]
    have e2 : max (52 + (K - 1074 + (r / 2 ^ 52 - 1) + 1) - 52) (K - 1074) = K - 1074 + (r / 2 ^ 52 - 1) + 1 := by omega
    rw [e2]
    exact ⟨_, rfl⟩

theorem val_twice (K r : Nat) (hr : 0 < r) : val K (rq K (2 * val K r) 1) = 2 * val K r := by
  obtain ⟨q, hq⟩ := dvd_twice K r hr
  rw [val_exact (by omega) q (by rw [Nat.one_mul]; exact hq)]
  exact hq.symm

def two : Int := 4611686018427387904
theorem in_two : In64 two := by unfold In64 two; omega
theorem rg_two : rg two = 4611686018427387904 := by decide
theorem ngv_two : ngv two = false := by decide
theorem two_fin : rg two < infR := by decide
theorem val_two {K : Nat} (hK : 1074 ≤ K) : val K 4611686018427387904 = 2 * 2 ^ K := by
  unfold val
  rw [if_neg (by decide)]
  have e : K - 1074 + (4611686018427387904 / 2 ^ 52 - 1) + 51 = K := by omega
  have e2 : 2 ^ 52 + 4611686018427387904 % 2 ^ 52 = 2 * 2 ^ 51 := by decide
  rw [e2, Nat.mul_assoc, ← Nat.pow_add, Nat.add_comm, e]

theorem rq_two {K : Nat} (hK : 1074 ≤ K) (v : Nat) : rq K (v * val K 4611686018427387904) (2 ^ K) = rq K (2 * v) 1 := by
  rw [val_two hK, ← Nat.mul_assoc, ← rq_scale (pow_pos2 K) K (2 * v) 1, Nat.one_mul, Nat.mul_comm v 2]

theorem fin_add_self {K : Nat} {a : Int} (hf : rg a < infR) : (if sv K a + sv K a = 0 then sg (ngv a && ngv a) 0 else rnd K (decide (sv K a + sv K a < 0)) (sv K a + sv K a).natAbs 1) = rnd K (ngv a) (2 * val K (rg a)) 1 := by
  rw [Bool.and_self]
  by_cases z : rg a = 0
  · have hs : sv K a = 0 := by unfold sv; rw [z, val_zero]; cases ngv a <;> simp
    rw [hs, if_pos (by omega), z, val_zero]
    unfold rnd
    rw [Nat.mul_zero, rq_zero]
    rfl
  · have hp : 0 < val K (rg a) := val_pos (by omega)
    have e1 : (sv K a + sv K a).natAbs = 2 * val K (rg a) := by unfold sv; cases ngv a <;> simp <;> omega
    have e2 : sv K a + sv K a ≠ 0 := by omega
    have e3 : decide (sv K a + sv K a < 0) = ngv a := by
      unfold sv
      cases ngv a
      · simp; omega
      · simp; omega
    rw [if_neg e2, e1, e3]

theorem twice {a : Int} (ha : In64 a) : fMul a two = fAdd a a := by
  obtain ⟨K, hK⟩ := exK
  have hi : infR ≠ 0 := by decide
  have h2 := two_fin
  have h0 : rg two ≠ 0 := by decide
  rw [fMul_eq ha in_two (K := K) (by omega), fAdd_eq ha ha (K := K) (by omega)]
  unfold mMul mAdd
  rw [ngv_two, Bool.xor_false]
  by_cases n : infR < rg a
  · rw [if_pos (.inl n), if_pos (.inl n)]
  · have m1 : ¬ (infR < rg a ∨ infR < rg two) := by omega
    have m2 : ¬ (infR < rg a ∨ infR < rg a) := by omega
    rw [if_neg m1, if_neg m2]
    by_cases i : rg a = infR
    · have m3 : ¬ (rg a = 0 ∨ rg two = 0) := by omega
      rw [if_pos (.inl i), if_neg m3, if_pos i, if_pos i, if_pos rfl]
      rw [← i, sg_rg ha]
    · have m3 : ¬ (rg a = infR ∨ rg two = infR) := by omega
      rw [if_neg m3, if_neg i, if_neg i, fin_add_self (by omega)]
      unfold rnd
      rw [rg_two, rq_two (by omega)]

theorem half {a : Int} (ha : In64 a) (h0 : kd (fMul a two) ≠ 0) (h1 : kd (fMul a two) ≠ 1) : fDiv (fMul a two) two = a := by
  obtain ⟨K, hK⟩ := exK
  have hi : infR ≠ 0 := by decide
  have hi2 : infR < 9223372036854775808 := by decide
  have h2 := two_fin
  have hz2 : rg two ≠ 0 := by decide
  have ki : ∀ n, kd (sg n infR) = 1 := by intro n; cases n <;> decide
  have e : fMul a two = rnd K (ngv a) (2 * val K (rg a)) 1 ∧ rg a < infR := by
    rw [fMul_eq ha in_two (K := K) (by omega)] at h0 h1 ⊢
    unfold mMul at *
    rw [ngv_two, Bool.xor_false] at *
    by_cases n : infR < rg a
    · rw [if_pos (.inl n)] at h0; exact absurd kd_nan h0
    · have m1 : ¬ (infR < rg a ∨ infR < rg two) := by omega
      rw [if_neg m1] at *
      by_cases i : rg a = infR
      · have m3 : ¬ (rg a = 0 ∨ rg two = 0) := by omega
        rw [if_pos (.inl i), if_neg m3] at h1
        exact absurd (ki _) h1
      · have m3 : ¬ (rg a = infR ∨ rg two = infR) := by omega
        rw [if_neg m3]
        refine ⟨?_, by omega⟩
        unfold rnd
        rw [rg_two, rq_two (by omega)]
  obtain ⟨e, hf⟩ := e
  have hlt : rq K (2 * val K (rg a)) 1 < infR := by
    rcases Nat.lt_or_ge (rq K (2 * val K (rg a)) 1) infR with g | g
    · exact g
    · exfalso
      apply h1
      rw [e]
      unfold rnd
      rw [Nat.min_eq_right g]
      exact ki _
  have hmin : min (rq K (2 * val K (rg a)) 1) infR = rq K (2 * val K (rg a)) 1 := Nat.min_eq_left (Nat.le_of_lt hlt)
  rw [e]
  unfold rnd
  rw [hmin]
  have hr : rq K (2 * val K (rg a)) 1 < 9223372036854775808 := by omega
  generalize hx : rq K (2 * val K (rg a)) 1 = x at *
  rw [fDiv_eq (in_sg _ hr) in_two (K := K) (by omega)]
  unfold mDiv
  rw [rg_sg _ hr, ngv_sg _ hr, ngv_two, Bool.xor_false]
  have m1 : ¬ (infR < x ∨ infR < rg two) := by omega
  have m2 : ¬ x = infR := by omega
  have m3 : ¬ rg two = infR := by omega
  rw [if_neg m1, if_neg m2, if_neg m3, if_neg hz2]
  unfold rnd
  have hv : val K x = 2 * val K (rg a) := by
    rcases Nat.eq_zero_or_pos (rg a) with z | z
    · rw [z, val_zero, Nat.mul_zero, rq_zero] at hx
      rw [← hx, z, val_zero]
    · rw [← hx]; exact val_twice K _ z
  rw [hv, rg_two, val_two (by omega)]
  have e3 : 2 * val K (rg a) * 2 ^ K = val K (rg a) * (2 * 2 ^ K) := by ac_rfl
  have hp : 0 < 2 * 2 ^ K := by have := pow_pos2 K; omega
  rw [e3, ← Nat.one_mul (2 * 2 ^ K), ← Nat.mul_assoc, Nat.mul_one, Nat.one_mul, ← Nat.one_mul (2 * 2 ^ K), Nat.one_mul] 
  have e4 := rq_scale hp K (val K (rg a)) 1
  rw [Nat.one_mul] at e4
  rw [e4, rq_val, Nat.min_eq_left (Nat.le_of_lt hf), sg_rg ha]

end Flt
end Go.Proofs.Ytdiaegfbaklpbaa
