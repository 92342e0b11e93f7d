/-
  Plain mathematics: the document's rounding, step by step, is rounding to nearest even; a float in parts; the sum, the product and the quotient by parts. No program is spoken of here.
-/
import Derived.Test.YtdiaegfbaklpbaaM
namespace Go.Proofs.Ytdiaegfbaklpbaa
open Flt
namespace Flt

/-- n / d, rounded, with a bit more than n, if more -/
def rheM (n d : Nat) (more : Bool) : Nat := n / d + (if d < 2 * (n % d) ∨ (2 * (n % d) = d ∧ (more = true ∨ n / d % 2 = 1)) then 1 else 0)
theorem rheM_false (n d : Nat) : rheM n d false = rhe n d := by unfold rheM rhe; simp
theorem rheM_true (n : Nat) (d : Nat) : rheM n (2 * d) true = rheM (2 * n + 1) (2 * (2 * d)) false := by
  unfold rheM
  have e1 : (2 * n + 1) / (2 * (2 * d)) = n / (2 * d) := by
    rw [← Nat.div_div_eq_div_mul]
    congr 1
    omega
  have e2 : (2 * n + 1) % (2 * (2 * d)) = 1 + 2 * (n % (2 * d)) := by
    rw [Nat.mod_mul]
    congr 1
    · omega
    · congr 2
      omega
  rw [e1, e2]
  congr 1
  have c : (2 * d < 2 * (n % (2 * d)) ∨ 2 * (n % (2 * d)) = 2 * d ∧ (true = true ∨ n / (2 * d) % 2 = 1)) ↔
      (2 * (2 * d) < 2 * (1 + 2 * (n % (2 * d))) ∨ 2 * (1 + 2 * (n % (2 * d))) = 2 * (2 * d) ∧ (false = true ∨ n / (2 * d) % 2 = 1)) := by
    generalize n / (2 * d) % 2 = y
    generalize n % (2 * d) = x
    constructor
    · intro h
      left
      omega
    · intro h
      have : 2 * d ≤ 2 * x := by omega
      rcases Nat.lt_or_ge (2 * d) (2 * x) with g | g
      · exact .inl g
      · exact .inr ⟨by omega, .inl rfl⟩
  by_cases h : (2 * d < 2 * (n % (2 * d)) ∨ 2 * (n % (2 * d)) = 2 * d ∧ (true = true ∨ n / (2 * d) % 2 = 1))
  · rw [if_pos h, if_pos (c.1 h)]
  · rw [if_neg h, if_neg (fun g => h (c.2 g))]

/-- how many digits go -/
def shf (m : Nat) (e : Int) : Int := max ((Nat.log2 m : Int) - 52) (-1074 - e)
def keptN (m : Nat) (e : Int) (more : Bool) : Nat := if shf m e ≤ 0 then m * 2 ^ (-shf m e).toNat else rheM m (2 ^ (shf m e).toNat) more
/-- the document's rounding -/
def rdN (m : Nat) (e : Int) (more : Bool) : Nat := min ((e + shf m e + 1074).toNat * 2 ^ 52 + keptN m e more) infR

theorem rdN_exact {m : Nat} (hm : 0 < m) {e : Int} {K : Nat} (h : 0 ≤ e + K) (hK : 1074 ≤ K) : rdN m e false = min (rq K (m * 2 ^ (e + K).toNat) 1) infR := by
  obtain ⟨p, hp⟩ : ∃ p : Nat, e = (p : Int) - K := ⟨(e + K).toNat, by omega⟩
  subst hp
  have e1 : ((p : Int) - K + K).toNat = p := by omega
  rw [e1]
  have hl : (last K (m * 2 ^ p) 1 : Int) = shf m ((p : Int) - K) + p := by
    unfold last shf
    rw [Nat.div_one, log2_mul_pow hm]
    omega
  have hlast : K - 1074 ≤ last K (m * 2 ^ p) 1 := by unfold last; omega
  unfold rdN keptN rq
  rw [rheM_false]
  generalize last K (m * 2 ^ p) 1 = L at *
  generalize shf m ((p : Int) - K) = S at *
  have hS : S = (L : Int) - p := by omega
  subst hS
  have e2 : ((p : Int) - K + ((L : Int) - p) + 1074).toNat = L - (K - 1074) := by omega
  rw [e2, Nat.one_mul]
  congr 2
  by_cases g : (L : Int) - p ≤ 0
  · rw [if_pos g]
    have e3 : (-((L : Int) - p)).toNat = p - L := by omega
    have e4 : m * 2 ^ p = m * 2 ^ (p - L) * 2 ^ L := by rw [Nat.mul_assoc, ← Nat.pow_add, Nat.sub_add_cancel (by omega)]
    rw [e3, e4, rhe_exact _ (pow_pos2 L)]
  · rw [if_neg g]
    have e3 : ((L : Int) - p).toNat = L - p := by omega
    have e4 : 2 ^ L = 2 ^ (L - p) * 2 ^ p := by rw [← Nat.pow_add, Nat.sub_add_cancel (by omega)]
    rw [e3, e4, rhe_scale' (pow_pos2 p)]

theorem log2_more (m : Nat) (hm : 0 < m) : Nat.log2 (2 * m + 1) = Nat.log2 m + 1 := by
  have h1 : 2 ^ Nat.log2 m ≤ m := Nat.log2_self_le (by omega)
  have h2 : m < 2 ^ (Nat.log2 m + 1) := Nat.lt_log2_self
  refine log2_eq ?_ ?_
  · rw [Nat.pow_succ]; omega
  · rw [Nat.pow_succ]; omega

theorem rdN_more {m : Nat} (hm : 54 ≤ Nat.log2 m) (e : Int) : rdN m e true = rdN (2 * m + 1) (e - 1) false := by
  have h0 : 0 < m := by
    rcases Nat.eq_zero_or_pos m with z | z
    · subst z; have : Nat.log2 0 = 0 := rfl; omega
    · exact z
  have hs : shf (2 * m + 1) (e - 1) = shf m e + 1 := by
    unfold shf; rw [log2_more m h0]; omega
  have hp : 2 ≤ shf m e := by unfold shf; omega
  unfold rdN keptN
  rw [hs]
  have e1 : (e - 1 + (shf m e + 1) + 1074).toNat = (e + shf m e + 1074).toNat := by omega
  rw [e1, if_neg (by omega), if_neg (by omega)]
  obtain ⟨s, hs2⟩ : ∃ s : Nat, shf m e = (s : Int) + 1 := ⟨(shf m e - 1).toNat, by omega⟩
  rw [hs2]
  have e2 : ((s : Int) + 1).toNat = s + 1 := by omega
  have e3 : ((s : Int) + 1 + 1).toNat = s + 1 + 1 := by omega
  rw [e2, e3]
  have p1 : 2 ^ (s + 1) = 2 * 2 ^ s := by rw [Nat.pow_succ, Nat.mul_comm]
  have p2 : 2 ^ (s + 1 + 1) = 2 * (2 * 2 ^ s) := by rw [Nat.pow_succ, Nat.mul_comm, p1]
  rw [p1, p2, rheM_true]

/-- A fraction that is cut, and told whether there was more, is rounded as the fraction is. -/
theorem core {K N D t q : Nat} {more : Bool} (hD : 0 < D) (hK : 1074 ≤ K) (ht : 1 ≤ t) (hq : N / (D * 2 ^ t) = q) (hm : more = decide (N % (D * 2 ^ t) ≠ 0)) (h54 : more = true → 54 ≤ Nat.log2 q) (h0 : 0 < q) :
    rdN q ((t : Int) - K) more = min (rq K N D) infR := by
  have hp := pow_pos2 t
  have hdm := Nat.div_add_mod N (D * 2 ^ t)
  rw [hq] at hdm
  cases more
  · have hz : N % (D * 2 ^ t) = 0 := by
      by_cases g : N % (D * 2 ^ t) = 0
      · exact g
      · simp [g] at hm
    rw [rdN_exact h0 (K := K) (by omega) hK]
    have e1 : ((t : Int) - K + K).toNat = t := by omega
    have e2 : N = q * 2 ^ t * D := by
      rw [hz, Nat.add_zero] at hdm
      rw [← hdm]
      ac_rfl
    have e3 := rq_scale hD K (q * 2 ^ t) 1
    rw [Nat.one_mul, ← e2] at e3
    rw [e1, e3]
  · have hz : N % (D * 2 ^ t) ≠ 0 := by
      intro g
      rw [g] at hm
      simp at hm
    have hl := h54 rfl
    rw [rdN_more hl, rdN_exact (by omega) (K := K) (by omega) hK]
    have hlast : t + 1 ≤ last K N D := by
      have h1 : 2 ^ (54 + t) ≤ N / D := by
        rw [Nat.pow_add, ← Nat.le_div_iff_mul_le hp, Nat.div_div_eq_div_mul, hq]
        exact Nat.le_trans (Nat.pow_le_pow_right (by omega) hl) (Nat.log2_self_le (by omega))
      have h2 : 54 + t ≤ Nat.log2 (N / D) := (Nat.le_log2 (by have := pow_pos2 (54 + t); omega)).2 h1
      unfold last
      omega
    have hs := rq_sticky (K := K) (N := N) (D := D) (t := t) hD (by rw [hq]; exact h0) hlast
    rw [hq, if_neg hz] at hs
    have e1 : ((t : Int) - K - 1 + K).toNat = t - 1 := by omega
    have e2 : (2 * q + 1) * 2 ^ t = (2 * q + 1) * 2 ^ (t - 1) * 2 := by
      have : 2 ^ t = 2 ^ (t - 1) * 2 := by rw [← Nat.pow_succ]; congr 1; omega
      rw [this, Nat.mul_assoc]
    have e3 := rq_scale (c := 2) (by omega) K ((2 * q + 1) * 2 ^ (t - 1)) 1
    rw [Nat.one_mul, ← e2, hs] at e3
    rw [e1, ← e3]

/-- a float's parts: 53 digits, and where the last of them stands -/
def pm (r : Nat) : Nat := if r < 2 ^ 52 then r * 2 ^ (52 - Nat.log2 r) else 2 ^ 52 + r % 2 ^ 52
def pe (r : Nat) : Int := if r < 2 ^ 52 then -1074 - ((52 - Nat.log2 r : Nat) : Int) else ((r / 2 ^ 52 : Nat) : Int) - 1075

theorem pm_range {r : Nat} (h : 0 < r) : 2 ^ 52 ≤ pm r ∧ pm r < 2 ^ 53 := by
  unfold pm
  by_cases g : r < 2 ^ 52
  · rw [if_pos g]
    have hl : Nat.log2 r < 52 := (Nat.log2_lt (by omega)).2 g
    have h1 : 2 ^ Nat.log2 r ≤ r := Nat.log2_self_le (by omega)
    have h2 : r < 2 ^ (Nat.log2 r + 1) := Nat.lt_log2_self
    have e1 : Nat.log2 r + (52 - Nat.log2 r) = 52 := by omega
    have e2 : Nat.log2 r + 1 + (52 - Nat.log2 r) = 53 := by omega
    constructor
    · have := Nat.mul_le_mul_right (2 ^ (52 - Nat.log2 r)) h1
      rw [← Nat.pow_add, e1] at this
      exact this
    · have := Nat.mul_lt_mul_of_pos_right h2 (pow_pos2 (52 - Nat.log2 r))
      rw [← Nat.pow_add, e2] at this
      exact this
  · rw [if_neg g]
    omega
theorem pe_range {r : Nat} (h' : r < infR) : -1126 ≤ pe r ∧ pe r ≤ 971 := by
  have hi : infR = 9218868437227405312 := rfl
  unfold pe
  by_cases g : r < 2 ^ 52
  · rw [if_pos g]; omega
  · rw [if_neg g]; omega
theorem pm_val {r K : Nat} (h : 0 < r) (hK : 1200 ≤ K) : pm r * 2 ^ (pe r + K).toNat = val K r := by
  unfold pm pe val
  by_cases g : r < 2 ^ 52
  · rw [if_pos g, if_pos g, if_pos g]
    have hl : Nat.log2 r < 52 := (Nat.log2_lt (by omega)).2 g
    have e : 52 - Nat.log2 r + (-1074 - ((52 - Nat.log2 r : Nat) : Int) + K).toNat = K - 1074 := by omega
    rw [Nat.mul_assoc, ← Nat.pow_add, e]
  · rw [if_neg g, if_neg g, if_neg g]
    have e : (((r / 2 ^ 52 : Nat) : Int) - 1075 + K).toNat = K - 1074 + (r / 2 ^ 52 - 1) := by omega
    rw [e]
theorem pe_mono {r s : Nat} (hr : 0 < r) (hr' : r < infR) (hs' : s < infR) (h : r ≤ s) : pe r ≤ pe s := by
  obtain ⟨K, hK⟩ := exK
  have v1 := pm_val (K := K) hr (by omega)
  have v2 := pm_val (K := K) (r := s) (by omega) (by omega)
  have r1 := pm_range hr
  have r2 := pm_range (r := s) (by omega)
  have q1 := pe_range hr'
  have q2 := pe_range hs'
  have hv : val K r ≤ val K s := by
    rcases Nat.lt_or_ge r s with g | g
    · exact Nat.le_of_lt (val_lt g)
    · have : r = s := by omega
      subst this; exact Nat.le_refl _
  rcases Int.lt_or_le (pe s) (pe r) with g | g
  · exfalso
    have e : (pe s + K).toNat + 1 ≤ (pe r + K).toNat := by omega
    have h1 : 2 ^ 52 * 2 ^ ((pe s + K).toNat + 1) ≤ pm r * 2 ^ (pe r + K).toNat := Nat.mul_le_mul r1.1 (Nat.pow_le_pow_right (by omega) e)
    have h2 : pm s * 2 ^ (pe s + K).toNat < 2 ^ 53 * 2 ^ (pe s + K).toNat := Nat.mul_lt_mul_of_pos_right r2.2 (pow_pos2 _)
    have h3 : 2 ^ 52 * 2 ^ ((pe s + K).toNat + 1) = 2 ^ 53 * 2 ^ (pe s + K).toNat := by
      rw [Nat.pow_succ 2 (pe s + K).toNat, Nat.mul_comm (2 ^ (pe s + K).toNat) 2, ← Nat.mul_assoc]
    omega
  · exact g

end Flt
end Go.Proofs.Ytdiaegfbaklpbaa
