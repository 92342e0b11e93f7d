/-
  Plain mathematics: the document's sum, product and quotient, by parts, are IEEE 754's. No program is spoken of here.
-/
import Derived.Test.YtdiaegfbaklpbaaY
namespace Go.Proofs.Ytdiaegfbaklpbaa
open Flt
namespace Flt

theorem cut_div {U Z d t : Nat} (hd : d ≤ t) (hZ : Z = U * 2 ^ (t - d)) : Z / (1 * 2 ^ t) = U / 2 ^ d ∧ (Z % (1 * 2 ^ t) = 0 ↔ U % 2 ^ d = 0) := by
  have e : 1 * 2 ^ t = 2 ^ d * 2 ^ (t - d) := by rw [Nat.one_mul, ← Nat.pow_add]; congr 1; omega
  have hp := pow_pos2 (t - d)
  rw [e, hZ]
  refine ⟨Nat.mul_div_mul_right _ _ hp, ?_⟩
  rw [Nat.mul_mod_mul_right]
  constructor
  · intro h
    rcases Nat.mul_eq_zero.1 h with g | g
    · exact g
    · omega
  · intro h; rw [h, Nat.zero_mul]

theorem less_div {M N p : Nat} (hp : 0 < p) (h : N ≤ M * p) : (M * p - N) / p = M - N / p - (if N % p = 0 then 0 else 1) ∧ ((M * p - N) % p = 0 ↔ N % p = 0) := by
  have hdm := Nat.div_add_mod N p
  have hlt := Nat.mod_lt N hp
  have hle : N / p ≤ M := by
    have := Nat.div_le_div_right (c := p) h
    rwa [Nat.mul_div_cancel _ hp] at this
  generalize N / p = x at *
  generalize N % p = y at *
  obtain ⟨z, hz⟩ : ∃ z, M = x + z := ⟨M - x, by omega⟩
  subst hz
  have e : (x + z) * p - N = z * p - y := by
    rw [← hdm, Nat.add_mul, Nat.mul_comm p x]; omega
  rw [e]
  by_cases hy : y = 0
  · subst hy
    rw [if_pos rfl, Nat.sub_zero, Nat.mul_div_cancel _ hp, Nat.mul_mod_left]
    exact ⟨by omega, by simp⟩
  · rw [if_neg hy]
    have hz0 : 0 < z := by
      rcases Nat.eq_zero_or_pos z with g | g
      · subst g
        rw [← hdm, Nat.add_zero, Nat.mul_comm p x] at h
        omega
      · exact g
    obtain ⟨u, hu⟩ : ∃ u, z = u + 1 := ⟨z - 1, by omega⟩
    subst hu
    have e2 : (u + 1) * p - y = u * p + (p - y) := by rw [Nat.add_mul, Nat.one_mul]; omega
    rw [e2]
    have e3 : (u * p + (p - y)) / p = u := by
      rw [Nat.mul_comm, Nat.mul_add_div hp, Nat.div_eq_of_lt (by omega)]; rfl
    have e4 : (u * p + (p - y)) % p = p - y := by
      rw [Nat.mul_comm, Nat.mul_add_mod, Nat.mod_eq_of_lt (by omega)]
    rw [e3, e4]
    exact ⟨by omega, ⟨fun g => by omega, fun g => absurd g hy⟩⟩

/-- the document's sum of two that are finite, and not zero, the greater one first -/
def addD (a b : Int) : Int :=
  if ngv a = ngv b then sg (ngv a) (rdN (pm (rg a) * 256 + pm (rg b) * 256 / 2 ^ (pe (rg a) - pe (rg b)).toNat) (pe (rg a) - 8) (decide (pm (rg b) * 256 % 2 ^ (pe (rg a) - pe (rg b)).toNat ≠ 0)))
  else if pm (rg a) * 256 - pm (rg b) * 256 / 2 ^ (pe (rg a) - pe (rg b)).toNat - (if pm (rg b) * 256 % 2 ^ (pe (rg a) - pe (rg b)).toNat = 0 then 0 else 1) = 0 then 0
  else sg (ngv a) (rdN (pm (rg a) * 256 - pm (rg b) * 256 / 2 ^ (pe (rg a) - pe (rg b)).toNat - (if pm (rg b) * 256 % 2 ^ (pe (rg a) - pe (rg b)).toNat = 0 then 0 else 1)) (pe (rg a) - 8) (decide (pm (rg b) * 256 % 2 ^ (pe (rg a) - pe (rg b)).toNat ≠ 0)))

theorem more_far {n d : Nat} (h : n * 256 % 2 ^ d ≠ 0) : 9 ≤ d := by
  rcases Nat.lt_or_ge d 9 with g | g
  · exfalso
    apply h
    have e : n * 256 = n * 2 ^ (8 - d) * 2 ^ d := by
      rw [Nat.mul_assoc, ← Nat.pow_add, Nat.sub_add_cancel (by omega)]
    rw [e, Nat.mul_mod_left]
  · exact g

theorem addD_eq {a b : Int} (ha : In64 a) (hb : In64 b) (fa : rg a < infR) (fb : rg b < infR) (za : rg a ≠ 0) (zb : rg b ≠ 0) (hle : rg b ≤ rg a) : addD a b = fAdd a b := by
  obtain ⟨K, hK⟩ := exK
  have va := pm_val (K := K) (r := rg a) (by omega) (by omega)
  have vb := pm_val (K := K) (r := rg b) (by omega) (by omega)
  have ma := pm_range (r := rg a) (by omega)
  have mb := pm_range (r := rg b) (by omega)
  have ea := pe_range fa
  have eb := pe_range fb
  have hmono := pe_mono (by omega) fb fa hle
  have hval : val K (rg b) ≤ val K (rg a) := by
    rcases Nat.lt_or_ge (rg b) (rg a) with g | g
    · exact Nat.le_of_lt (val_lt g)
    · have : rg b = rg a := by omega
      rw [this]; exact Nat.le_refl _
  have pb : 0 < val K (rg b) := val_pos (by omega)
  have pa : 0 < val K (rg a) := val_pos (by omega)
  rw [fAdd_fin ha hb fa fb (K := K) (by omega)]
  unfold addD sv
  generalize hd : (pe (rg a) - pe (rg b)).toNat = d
  obtain ⟨t, ht⟩ : ∃ t : Nat, (t : Int) = pe (rg a) - 8 + K := ⟨(pe (rg a) - 8 + K).toNat, by omega⟩
  have e8 : pe (rg a) - 8 = (t : Int) - K := by omega
  rw [e8]
  have hdt : d ≤ t := by omega
  have t1 : (pe (rg a) + K).toNat = 8 + t := by omega
  have t2 : (pe (rg b) + K).toNat = 8 + (t - d) := by omega
  rw [t1, Nat.pow_add, ← Nat.mul_assoc] at va
  rw [t2, Nat.pow_add, ← Nat.mul_assoc] at vb
  have h8 : (2 : Nat) ^ 8 = 256 := by decide
  rw [h8] at va vb
  obtain ⟨M, hM⟩ : ∃ M, pm (rg a) * 256 = M := ⟨_, rfl⟩
  obtain ⟨N, hN⟩ : ∃ N, pm (rg b) * 256 = N := ⟨_, rfl⟩
  rw [hM] at va ⊢
  rw [hN] at vb ⊢
  have hp := pow_pos2 d
  have hpt := pow_pos2 (t - d)
  have splitT : 2 ^ t = 2 ^ d * 2 ^ (t - d) := by rw [← Nat.pow_add]; congr 1; omega
  have va' : val K (rg a) = M * 2 ^ d * 2 ^ (t - d) := by rw [← va, splitT, Nat.mul_assoc]
  have hMN : N ≤ M * 2 ^ d := by
    rw [← vb, va'] at hval
    exact Nat.le_of_mul_le_mul_right hval hpt
  have hM60 : 2 ^ 60 ≤ M := by omega
  have hN61 : N < 2 ^ 61 := by omega
  have h9 : N % 2 ^ d ≠ 0 → 9 ≤ d := by rw [← hN]; exact more_far
  by_cases hs : ngv a = ngv b
  · rw [if_pos hs]
    have hX : (if ngv a then -(val K (rg a) : Int) else (val K (rg a) : Int)) + (if ngv b then -(val K (rg b) : Int) else (val K (rg b) : Int)) = if ngv a then -((val K (rg a) + val K (rg b) : Nat) : Int) else ((val K (rg a) + val K (rg b) : Nat) : Int) := by
      rw [← hs]; cases ngv a <;> simp <;> omega
    rw [hX]
    have hne : ¬ ((if ngv a then -((val K (rg a) + val K (rg b) : Nat) : Int) else ((val K (rg a) + val K (rg b) : Nat) : Int)) = 0) := by split <;> omega
    have hab : (if ngv a then -((val K (rg a) + val K (rg b) : Nat) : Int) else ((val K (rg a) + val K (rg b) : Nat) : Int)).natAbs = val K (rg a) + val K (rg b) := by split <;> omega
    have hsg : decide ((if ngv a then -((val K (rg a) + val K (rg b) : Nat) : Int) else ((val K (rg a) + val K (rg b) : Nat) : Int)) < 0) = ngv a := by
      cases ngv a
      · simp only [Bool.false_eq_true, if_false]; rw [decide_eq_false_iff_not]; omega
      · simp only [if_true]; rw [decide_eq_true_eq]; omega
    rw [if_neg hne, hab, hsg]
    unfold rnd
    have hZ : val K (rg a) + val K (rg b) = (M * 2 ^ d + N) * 2 ^ (t - d) := by rw [Nat.add_mul, ← va', vb]
    obtain ⟨c1, c2⟩ := cut_div hdt hZ
    have h60 : 2 ^ 60 ≤ M + N / 2 ^ d := Nat.le_trans hM60 (Nat.le_add_right _ _)
    have hq0 : M + N / 2 ^ d ≠ 0 := by
      intro g; rw [g] at h60; exact absurd h60 (by decide)
    have u1 : (M * 2 ^ d + N) / 2 ^ d = M + N / 2 ^ d := by rw [Nat.mul_comm, Nat.mul_add_div hp]
    have u2 : (M * 2 ^ d + N) % 2 ^ d = N % 2 ^ d := by rw [Nat.mul_comm, Nat.mul_add_mod]
    rw [u1] at c1
    rw [u2] at c2
    rw [core (K := K) (N := val K (rg a) + val K (rg b)) (D := 1) (t := t) (by omega) (by omega) (by omega) c1 (by simp only [ne_eq, c2]) (fun _ => (Nat.le_log2 hq0).2 (Nat.le_trans (by decide) h60)) (Nat.pos_of_ne_zero hq0)]
  · rw [if_neg hs]
    have hs' : ngv b = !ngv a := by cases ha' : ngv a <;> cases hb' : ngv b <;> simp_all
    have hX : (if ngv a then -(val K (rg a) : Int) else (val K (rg a) : Int)) + (if ngv b then -(val K (rg b) : Int) else (val K (rg b) : Int)) = if ngv a then -((val K (rg a) - val K (rg b) : Nat) : Int) else ((val K (rg a) - val K (rg b) : Nat) : Int) := by
      rw [hs']; cases ngv a <;> simp <;> omega
    rw [hX]
    have hZ : val K (rg a) - val K (rg b) = (M * 2 ^ d - N) * 2 ^ (t - d) := by rw [Nat.sub_mul, ← va', vb]
    obtain ⟨c1, c2⟩ := cut_div hdt hZ
    obtain ⟨u1, u2⟩ := less_div hp hMN
    rw [u1] at c1
    rw [u2] at c2
    generalize hq : M - N / 2 ^ d - (if N % 2 ^ d = 0 then 0 else 1) = q at *
    by_cases q0 : q = 0
    · rw [if_pos q0]
      have hmore : N % 2 ^ d = 0 := by
        by_cases g : N % 2 ^ d = 0
        · exact g
        · exfalso
          have h9' := h9 g
          rw [if_neg g] at hq
          have : N / 2 ^ d ≤ N / 2 ^ 9 := Nat.div_le_div_left (Nat.pow_le_pow_right (by omega) h9') (by omega)
          omega
      have hz : val K (rg a) - val K (rg b) = 0 := by
        have h1 := Nat.div_add_mod (val K (rg a) - val K (rg b)) (1 * 2 ^ t)
        rw [c1, q0, c2.2 hmore] at h1
        omega
      rw [hz]
      have : (ngv a && ngv b) = false := by rw [hs']; cases ngv a <;> rfl
      rw [this]
      cases ngv a <;> rfl
    · rw [if_neg q0]
      have hzp : 0 < val K (rg a) - val K (rg b) := by
        rcases Nat.eq_zero_or_pos (val K (rg a) - val K (rg b)) with g | g
        · rw [g, Nat.zero_div] at c1; omega
        · exact g
      have hne : ¬ ((if ngv a then -((val K (rg a) - val K (rg b) : Nat) : Int) else ((val K (rg a) - val K (rg b) : Nat) : Int)) = 0) := by split <;> omega
      have hab : (if ngv a then -((val K (rg a) - val K (rg b) : Nat) : Int) else ((val K (rg a) - val K (rg b) : Nat) : Int)).natAbs = val K (rg a) - val K (rg b) := by split <;> omega
      have hsg : decide ((if ngv a then -((val K (rg a) - val K (rg b) : Nat) : Int) else ((val K (rg a) - val K (rg b) : Nat) : Int)) < 0) = ngv a := by
        cases ngv a
        · simp only [Bool.false_eq_true, if_false]; rw [decide_eq_false_iff_not]; omega
        · simp only [if_true]; rw [decide_eq_true_eq]; omega
      rw [if_neg hne, hab, hsg]
      unfold rnd
      rw [core (K := K) (N := val K (rg a) - val K (rg b)) (D := 1) (t := t) (by omega) (by omega) (by omega) c1 (by simp only [ne_eq, c2]) (fun hm => by
        have g : N % 2 ^ d ≠ 0 := by simpa using hm
        have h9' := h9 g
        rw [if_neg g] at hq
        have : N / 2 ^ d ≤ N / 2 ^ 9 := Nat.div_le_div_left (Nat.pow_le_pow_right (by omega) h9') (by omega)
        have : 2 ^ 54 ≤ q := by omega
        exact (Nat.le_log2 (by omega)).2 this) (by omega)]

/-- the document's product, and quotient, of two that are finite, and not zero -/
def mulD (a b : Int) : Int := sg (ngv a ^^ ngv b) (rdN (pm (rg a) * pm (rg b) / 2 ^ 46) (pe (rg a) + pe (rg b) + 46) (decide (pm (rg a) * pm (rg b) % 2 ^ 46 ≠ 0)))
def divD (a b : Int) : Int := sg (ngv a ^^ ngv b) (rdN (pm (rg a) * 2 ^ 60 / pm (rg b)) (pe (rg a) - pe (rg b) - 60) (decide (pm (rg a) * 2 ^ 60 % pm (rg b) ≠ 0)))

theorem scale_div {U D p N Q : Nat} (hp : 0 < p) (hN : N = U * p) (hQ : Q = D * p) : N / Q = U / D ∧ (N % Q = 0 ↔ U % D = 0) := by
  rw [hN, hQ]
  refine ⟨Nat.mul_div_mul_right _ _ hp, ?_⟩
  rw [Nat.mul_mod_mul_right]
  constructor
  · intro h
    rcases Nat.mul_eq_zero.1 h with g | g
    · exact g
    · omega
  · intro h; rw [h, Nat.zero_mul]

theorem mulD_eq {a b : Int} (ha : In64 a) (hb : In64 b) (fa : rg a < infR) (fb : rg b < infR) (za : rg a ≠ 0) (zb : rg b ≠ 0) : mulD a b = fMul a b := by
  obtain ⟨K, hK⟩ := exK
  have va := pm_val (K := K) (r := rg a) (by omega) (by omega)
  have vb := pm_val (K := K) (r := rg b) (by omega) (by omega)
  have ma := pm_range (r := rg a) (by omega)
  have mb := pm_range (r := rg b) (by omega)
  have ea := pe_range fa
  have eb := pe_range fb
  rw [fMul_fin ha hb fa fb (K := K) (by omega)]
  unfold mulD rnd
  obtain ⟨t, ht⟩ : ∃ t : Nat, (t : Int) = pe (rg a) + pe (rg b) + 46 + K := ⟨(pe (rg a) + pe (rg b) + 46 + K).toNat, by omega⟩
  have e8 : pe (rg a) + pe (rg b) + 46 = (t : Int) - K := by omega
  rw [e8, ← va, ← vb]
  have hp := pow_pos2 ((pe (rg a) + K).toNat + (pe (rg b) + K).toNat)
  have e1 : pm (rg a) * 2 ^ (pe (rg a) + K).toNat * (pm (rg b) * 2 ^ (pe (rg b) + K).toNat) = pm (rg a) * pm (rg b) * 2 ^ ((pe (rg a) + K).toNat + (pe (rg b) + K).toNat) := by
    rw [Nat.pow_add]; ac_rfl
  have e2 : 2 ^ K * 2 ^ t = 2 ^ 46 * 2 ^ ((pe (rg a) + K).toNat + (pe (rg b) + K).toNat) := by
    rw [← Nat.pow_add, ← Nat.pow_add]; congr 1; omega
  obtain ⟨c1, c2⟩ := scale_div hp e1 e2
  have hm : 2 ^ 52 * 2 ^ 52 ≤ pm (rg a) * pm (rg b) := Nat.mul_le_mul ma.1 mb.1
  have hq : 2 ^ 54 ≤ pm (rg a) * pm (rg b) / 2 ^ 46 := by
    generalize pm (rg a) * pm (rg b) = x at *
    omega
  rw [core (K := K) (t := t) (pow_pos2 K) (by omega) (by omega) c1 (by simp only [ne_eq, c2]) (fun _ => (Nat.le_log2 (by omega)).2 hq) (by omega)]

theorem divD_eq {a b : Int} (ha : In64 a) (hb : In64 b) (fa : rg a < infR) (fb : rg b < infR) (za : rg a ≠ 0) (zb : rg b ≠ 0) : divD a b = fDiv a b := by
  obtain ⟨K, hK⟩ := exK
  have va := pm_val (K := K) (r := rg a) (by omega) (by omega)
  have vb := pm_val (K := K) (r := rg b) (by omega) (by omega)
  have ma := pm_range (r := rg a) (by omega)
  have mb := pm_range (r := rg b) (by omega)
  have ea := pe_range fa
  have eb := pe_range fb
  rw [fDiv_fin ha hb fa fb zb hK]
  unfold divD rnd
  obtain ⟨t, ht⟩ : ∃ t : Nat, (t : Int) = pe (rg a) - pe (rg b) - 60 + K := ⟨(pe (rg a) - pe (rg b) - 60 + K).toNat, by omega⟩
  have e8 : pe (rg a) - pe (rg b) - 60 = (t : Int) - K := by omega
  rw [e8, ← va, ← vb]
  obtain ⟨x, hx⟩ : ∃ x : Nat, (x : Int) = pe (rg a) + K + K - 60 := ⟨(pe (rg a) + K + K - 60).toNat, by omega⟩
  have hp := pow_pos2 x
  have e1 : pm (rg a) * 2 ^ (pe (rg a) + K).toNat * 2 ^ K = pm (rg a) * 2 ^ 60 * 2 ^ x := by
    rw [Nat.mul_assoc, ← Nat.pow_add, Nat.mul_assoc, ← Nat.pow_add]; congr 2; omega
  have e2 : pm (rg b) * 2 ^ (pe (rg b) + K).toNat * 2 ^ t = pm (rg b) * 2 ^ x := by
    rw [Nat.mul_assoc, ← Nat.pow_add]; congr 2; omega
  obtain ⟨c1, c2⟩ := scale_div hp e1 e2
  have hq : 2 ^ 54 ≤ pm (rg a) * 2 ^ 60 / pm (rg b) := by
    rw [Nat.le_div_iff_mul_le (by omega)]
    omega
  have hD : 0 < pm (rg b) * 2 ^ (pe (rg b) + K).toNat := Nat.mul_pos (by omega) (pow_pos2 _)
  rw [core (K := K) (t := t) hD (by omega) (by omega) c1 (by simp only [ne_eq, c2]) (fun _ => (Nat.le_log2 (by omega)).2 hq) (by omega)]


theorem ofD {n : Int} (h : n ≠ 0) : sg (decide (n < 0)) (rdN n.natAbs 0 false) = s64 (floatOfInt .f64 n) := by
  obtain ⟨K, hK⟩ := exK
  rw [ofInt_eq n (K := K) (by omega), rdN_exact (by omega) (K := K) (by omega) (by omega)]
  have : ((0 : Int) + K).toNat = K := by omega
  rw [this]
  rfl

end Flt
end Go.Proofs.Ytdiaegfbaklpbaa
