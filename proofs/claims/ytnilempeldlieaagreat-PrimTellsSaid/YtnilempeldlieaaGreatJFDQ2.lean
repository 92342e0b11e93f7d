/- Plain mathematics: what follows of floats, as the stage's statements say it: signs turned, twice, the edges, whole numbers. No program is spoken of here. Plain mathematics: twice a float, and half of that; a float with itself; whole numbers' floats. No program is spoken of here. The contract of package flt's Text: the sixteen digits of the bits, the highest first. The contracts of the document's small answers (the NaN, the sign, the bits without it, the kind, the order), and of the calls whose answers the document fixes. Plain mathematics: the edges of floats, and whole numbers' floats, that add, lie and are truncated as the numbers do. No program is spoken of here. Plain mathematics: the document's rounding, step by step, is rounding to nearest even; a float in parts; the sum, the product and the quotient by parts. No program is spoken of here. Plain mathematics: the document's sum, product and quotient, by parts, are IEEE 754's. No program is spoken of here. The contracts of the document's rounding, case by case, and of the place of the highest digit. The contracts of the document's rounding, and of a float in parts. The calls whose answers the document fixes: all are as it says. The statements of stage 2 that name no document's answer but kinds, walked: each answers true, whatever the floats. The contracts of the document's text, order, canonical bits, whole numbers' floats and floats' whole numbers. The contract of the document's sum of two that are finite, and not zero. FltEdges and FltAlgebra, walked: each answers true, whatever the floats. The contracts of the document's sum, product and quotient of any two floats: but where both are finite and not zero. Plain mathematics: products and quotients by kinds; a product of 53 digits by halves. No program is spoken of here. The contract of the document's product of any two floats. The contract of the document's quotient of any two floats, of its Op; FltTells, walked. -/
import Derived.Test.YtnilempeldlieaaGreatJFLU
import Derived.Laws.BytesString
import Derived.Laws.IdiomStrings
import Derived.Deep.CutRange
namespace Go.Proofs.YtnilempeldlieaaGreat
open Flt
namespace Flt

theorem exK : ∃ K : Nat, 2400 ≤ K := ⟨2400, Nat.le_refl _⟩

theorem fAdd_comm {a b : Int} (ha : In64 a) (hb : In64 b) : fAdd b a = fAdd a b := by
  obtain ⟨K, hK⟩ := exK
  have e1 := sg_rg ha
  have e2 := sg_rg hb
  rw [fAdd_eq ha hb (K := K) (by omega), fAdd_eq hb ha (K := K) (by omega)]
  unfold mAdd
  rw [Int.add_comm (sv K b), Bool.and_comm (ngv b)]
  by_cases n1 : infR < rg a
  · rw [if_pos (.inr n1), if_pos (.inl n1)]
  by_cases n2 : infR < rg b
  · rw [if_pos (.inl n2), if_pos (.inr n2)]
  have m1 : ¬ (infR < rg b ∨ infR < rg a) := by omega
  have m2 : ¬ (infR < rg a ∨ infR < rg b) := by omega
  rw [if_neg m1, if_neg m2]
  by_cases i1 : rg a = infR
  · by_cases i2 : rg b = infR
    · rw [if_pos i2, if_pos i1, if_pos i1, if_pos i2]
      by_cases g : ngv a = ngv b
      · rw [if_pos g, if_pos g.symm]
        rw [← e1, ← e2, i1, i2, g]
      · rw [if_neg g, if_neg (fun h => g h.symm)]
    · rw [if_neg i2, if_pos i1, if_pos i1, if_neg i2]
  · by_cases i2 : rg b = infR
    · rw [if_pos i2, if_neg i1, if_neg i1, if_pos i2]
    · rw [if_neg i2, if_neg i1, if_neg i1, if_neg i2]

/- the order, with both signs turned -/
end Flt
end Go.Proofs.YtnilempeldlieaaGreat
namespace Go.Proofs.YtnilempeldlieaaGreat
open Flt

namespace Flt

theorem pow2_52 : (2 : Nat) ^ 52 = 4503599627370496 := by decide

theorem mul_two (m k : Nat) : 2 * (m * 2 ^ k) = m * 2 ^ (k + 1) := by
  rw [Nat.pow_succ, Nat.mul_left_comm, Nat.mul_comm 2]

end Flt
end Go.Proofs.YtnilempeldlieaaGreat
namespace Go.Proofs.YtnilempeldlieaaGreat
open Go.RowKit Flt

end Go.Proofs.YtnilempeldlieaaGreat
namespace Go.Proofs.YtnilempeldlieaaGreat
open Go.RowKit Flt

def On (B : Nat) (w0 w : World) : Prop := Below B w0 w ∧ B ≤ w.heap.size
theorem On.go {B : Nat} {w0 w w' : World} (h : On B w0 w) (g : Below w.heap.size w w') : On B w0 w' := ⟨h.1.trans (g.mono h.2), Nat.le_trans h.2 g.size⟩

set_option maxHeartbeats 400000 in
theorem rsign_any (a : Int) (w : World) : Calls Tryz.prog 126 #[.int .i64 a] w fun e w' => e = .returned (.bool (ngv a)) ∧ w = w' := by
  go_enter Tryz.func126, Tryz.ntmps126
  go_wp2
  go_ret; exact ⟨rfl, rfl⟩
set_option maxHeartbeats 400000 in
theorem rwith_any (n : Bool) (r : Nat) (hr : r < 9223372036854775808) (w : World) : Calls Tryz.prog 130 #[.bool n, .int .i64 r] w fun e w' => e = .returned (.int .i64 (sg n r)) ∧ w = w' := by
  cases n
  · have e1 : sg false r = r := by simp [sg]
    rw [e1]; clear e1
    go_enter Tryz.func130, Tryz.ntmps130
    go_wp2_with (go_at_call 175; refine (rmost_any _).mono ?_; rintro e w' ⟨rfl, rfl⟩)
    go_ret; exact ⟨rfl, rfl⟩
  · have e1 : sg true r = (r : Int) - 9223372036854775807 - 1 := by simp [sg]; omega
    rw [e1]; clear e1
    go_enter Tryz.func130, Tryz.ntmps130
    go_wp2_with (go_at_call 175; refine (rmost_any _).mono ?_; rintro e w' ⟨rfl, rfl⟩)
    go_ret; exact ⟨rfl, rfl⟩
set_option maxHeartbeats 400000 in
theorem rorder_any (a : Int) (w : World) : Calls Tryz.prog 127 #[.int .i64 a] w fun e w' => e = .returned (.int .i64 (if ngv a then -(rg a : Int) else a)) ∧ w = w' := by
  have hl := rg_lt a
  cases h : ngv a
  · go_enter Tryz.func127, Tryz.ntmps127
    go_wp2_with (first | (go_at_call 131; refine (rplain_any _ _).mono ?_; rintro e w' ⟨rfl, rfl⟩) | (go_at_call 126; refine (rsign_any _ _).mono ?_; rintro e w' ⟨rfl, rfl⟩))
    go_ret; exact ⟨by simp, rfl⟩
  · go_enter Tryz.func127, Tryz.ntmps127
    go_wp2_with (first | (go_at_call 131; refine (rplain_any _ _).mono ?_; rintro e w' ⟨rfl, rfl⟩) | (go_at_call 126; refine (rsign_any _ _).mono ?_; rintro e w' ⟨rfl, rfl⟩))
    go_ret; exact ⟨by simp, rfl⟩
end Go.Proofs.YtnilempeldlieaaGreat
namespace Go.Proofs.YtnilempeldlieaaGreat
open Flt
namespace Flt

def one : Int := 4607182418800017408
/- whole numbers -/

end Flt
end Go.Proofs.YtnilempeldlieaaGreat
namespace Go.Proofs.YtnilempeldlieaaGreat
open Flt
namespace Flt

def rheM (n d : Nat) (more : Bool) : Nat := n / d + (if d < 2 * (n % d) ∨ (2 * (n % d) = d ∧ (more = true ∨ n / d % 2 = 1)) then 1 else 0)
theorem rheM_false (n d : Nat) : rheM n d false = rhe n d := by unfold rheM rhe; simp
theorem rheM_true (n : Nat) (d : Nat) : rheM n (2 * d) true = rheM (2 * n + 1) (2 * (2 * d)) false := by
  unfold rheM
  have e1 : (2 * n + 1) / (2 * (2 * d)) = n / (2 * d) := by
    rw [← Nat.div_div_eq_div_mul]
    congr 1
    omega
  have e2 : (2 * n + 1) % (2 * (2 * d)) = 1 + 2 * (n % (2 * d)) := by
    rw [Nat.mod_mul]
    congr 1
    · omega
    · congr 2
      omega
  rw [e1, e2]
  congr 1
  have c : (2 * d < 2 * (n % (2 * d)) ∨ 2 * (n % (2 * d)) = 2 * d ∧ (true = true ∨ n / (2 * d) % 2 = 1)) ↔
      (2 * (2 * d) < 2 * (1 + 2 * (n % (2 * d))) ∨ 2 * (1 + 2 * (n % (2 * d))) = 2 * (2 * d) ∧ (false = true ∨ n / (2 * d) % 2 = 1)) := by
    generalize n / (2 * d) % 2 = y
    generalize n % (2 * d) = x
    constructor
    · intro h
      left
      omega
    · intro h
      have : 2 * d ≤ 2 * x := by omega
      rcases Nat.lt_or_ge (2 * d) (2 * x) with g | g
      · exact .inl g
      · exact .inr ⟨by omega, .inl rfl⟩
  by_cases h : (2 * d < 2 * (n % (2 * d)) ∨ 2 * (n % (2 * d)) = 2 * d ∧ (true = true ∨ n / (2 * d) % 2 = 1))
  · rw [if_pos h, if_pos (c.1 h)]
  · rw [if_neg h, if_neg (fun g => h (c.2 g))]

def shf (m : Nat) (e : Int) : Int := max ((Nat.log2 m : Int) - 52) (-1074 - e)
def keptN (m : Nat) (e : Int) (more : Bool) : Nat := if shf m e ≤ 0 then m * 2 ^ (-shf m e).toNat else rheM m (2 ^ (shf m e).toNat) more
def rdN (m : Nat) (e : Int) (more : Bool) : Nat := min ((e + shf m e + 1074).toNat * 2 ^ 52 + keptN m e more) infR

theorem rdN_exact {m : Nat} (hm : 0 < m) {e : Int} {K : Nat} (h : 0 ≤ e + K) (hK : 1074 ≤ K) : rdN m e false = min (rq K (m * 2 ^ (e + K).toNat) 1) infR := by
  obtain ⟨p, hp⟩ : ∃ p : Nat, e = (p : Int) - K := ⟨(e + K).toNat, by omega⟩
  subst hp
  have e1 : ((p : Int) - K + K).toNat = p := by omega
  rw [e1]
  have hl : (last K (m * 2 ^ p) 1 : Int) = shf m ((p : Int) - K) + p := by
    unfold last shf
    rw [Nat.div_one, log2_mul_pow hm]
    omega
  have hlast : K - 1074 ≤ last K (m * 2 ^ p) 1 := by unfold last; omega
  unfold rdN keptN rq
  rw [rheM_false]
  generalize last K (m * 2 ^ p) 1 = L at *
  generalize shf m ((p : Int) - K) = S at *
  have hS : S = (L : Int) - p := by omega
  subst hS
  have e2 : ((p : Int) - K + ((L : Int) - p) + 1074).toNat = L - (K - 1074) := by omega
  rw [e2, Nat.one_mul]
  congr 2
  by_cases g : (L : Int) - p ≤ 0
  · rw [if_pos g]
    have e3 : (-((L : Int) - p)).toNat = p - L := by omega
    have e4 : m * 2 ^ p = m * 2 ^ (p - L) * 2 ^ L := by rw [Nat.mul_assoc, ← Nat.pow_add, Nat.sub_add_cancel (by omega)]
    rw [e3, e4, rhe_exact _ (pow_pos2 L)]
  · rw [if_neg g]
    have e3 : ((L : Int) - p).toNat = L - p := by omega
    have e4 : 2 ^ L = 2 ^ (L - p) * 2 ^ p := by rw [← Nat.pow_add, Nat.sub_add_cancel (by omega)]
    rw [e3, e4, rhe_scale' (pow_pos2 p)]

theorem log2_more (m : Nat) (hm : 0 < m) : Nat.log2 (2 * m + 1) = Nat.log2 m + 1 := by
  have h1 : 2 ^ Nat.log2 m ≤ m := Nat.log2_self_le (by omega)
  have h2 : m < 2 ^ (Nat.log2 m + 1) := Nat.lt_log2_self
  refine log2_eq ?_ ?_
  · rw [Nat.pow_succ]; omega
  · rw [Nat.pow_succ]; omega

theorem rdN_more {m : Nat} (hm : 54 ≤ Nat.log2 m) (e : Int) : rdN m e true = rdN (2 * m + 1) (e - 1) false := by
  have h0 : 0 < m := by
    rcases Nat.eq_zero_or_pos m with z | z
    · subst z; have : Nat.log2 0 = 0 := rfl; omega
    · exact z
  have hs : shf (2 * m + 1) (e - 1) = shf m e + 1 := by
    unfold shf; rw [log2_more m h0]; omega
  have hp : 2 ≤ shf m e := by unfold shf; omega
  unfold rdN keptN
  rw [hs]
  have e1 : (e - 1 + (shf m e + 1) + 1074).toNat = (e + shf m e + 1074).toNat := by omega
  rw [e1, if_neg (by omega), if_neg (by omega)]
  obtain ⟨s, hs2⟩ : ∃ s : Nat, shf m e = (s : Int) + 1 := ⟨(shf m e - 1).toNat, by omega⟩
  rw [hs2]
  have e2 : ((s : Int) + 1).toNat = s + 1 := by omega
  have e3 : ((s : Int) + 1 + 1).toNat = s + 1 + 1 := by omega
  rw [e2, e3]
  have p1 : 2 ^ (s + 1) = 2 * 2 ^ s := by rw [Nat.pow_succ, Nat.mul_comm]
  have p2 : 2 ^ (s + 1 + 1) = 2 * (2 * 2 ^ s) := by rw [Nat.pow_succ, Nat.mul_comm, p1]
  rw [p1, p2, rheM_true]

theorem core {K N D t q : Nat} {more : Bool} (hD : 0 < D) (hK : 1074 ≤ K) (ht : 1 ≤ t) (hq : N / (D * 2 ^ t) = q) (hm : more = decide (N % (D * 2 ^ t) ≠ 0)) (h54 : more = true → 54 ≤ Nat.log2 q) (h0 : 0 < q) :
    rdN q ((t : Int) - K) more = min (rq K N D) infR := by
  have hp := pow_pos2 t
  have hdm := Nat.div_add_mod N (D * 2 ^ t)
  rw [hq] at hdm
  cases more
  · have hz : N % (D * 2 ^ t) = 0 := by
      by_cases g : N % (D * 2 ^ t) = 0
      · exact g
      · simp [g] at hm
    rw [rdN_exact h0 (K := K) (by omega) hK]
    have e1 : ((t : Int) - K + K).toNat = t := by omega
    have e2 : N = q * 2 ^ t * D := by
      rw [hz, Nat.add_zero] at hdm
      rw [← hdm]
      ac_rfl
    have e3 := rq_scale hD K (q * 2 ^ t) 1
    rw [Nat.one_mul, ← e2] at e3
    rw [e1, e3]
  · have hz : N % (D * 2 ^ t) ≠ 0 := by
      intro g
      rw [g] at hm
      simp at hm
    have hl := h54 rfl
    rw [rdN_more hl, rdN_exact (by omega) (K := K) (by omega) hK]
    have hlast : t + 1 ≤ last K N D := by
      have h1 : 2 ^ (54 + t) ≤ N / D := by
        rw [Nat.pow_add, ← Nat.le_div_iff_mul_le hp, Nat.div_div_eq_div_mul, hq]
        exact Nat.le_trans (Nat.pow_le_pow_right (by omega) hl) (Nat.log2_self_le (by omega))
      have h2 : 54 + t ≤ Nat.log2 (N / D) := (Nat.le_log2 (by have := pow_pos2 (54 + t); omega)).2 h1
      unfold last
      omega
    have hs := rq_sticky (K := K) (N := N) (D := D) (t := t) hD (by rw [hq]; exact h0) hlast
    rw [hq, if_neg hz] at hs
    have e1 : ((t : Int) - K - 1 + K).toNat = t - 1 := by omega
    have e2 : (2 * q + 1) * 2 ^ t = (2 * q + 1) * 2 ^ (t - 1) * 2 := by
      have : 2 ^ t = 2 ^ (t - 1) * 2 := by rw [← Nat.pow_succ]; congr 1; omega
      rw [this, Nat.mul_assoc]
    have e3 := rq_scale (c := 2) (by omega) K ((2 * q + 1) * 2 ^ (t - 1)) 1
    rw [Nat.one_mul, ← e2, hs] at e3
    rw [e1, ← e3]

def pm (r : Nat) : Nat := if r < 2 ^ 52 then r * 2 ^ (52 - Nat.log2 r) else 2 ^ 52 + r % 2 ^ 52
def pe (r : Nat) : Int := if r < 2 ^ 52 then -1074 - ((52 - Nat.log2 r : Nat) : Int) else ((r / 2 ^ 52 : Nat) : Int) - 1075

theorem pm_range {r : Nat} (h : 0 < r) : 2 ^ 52 ≤ pm r ∧ pm r < 2 ^ 53 := by
  unfold pm
  by_cases g : r < 2 ^ 52
  · rw [if_pos g]
    have hl : Nat.log2 r < 52 := (Nat.log2_lt (by omega)).2 g
    have h1 : 2 ^ Nat.log2 r ≤ r := Nat.log2_self_le (by omega)
    have h2 : r < 2 ^ (Nat.log2 r + 1) := Nat.lt_log2_self
    have e1 : Nat.log2 r + (52 - Nat.log2 r) = 52 := by omega
    have e2 : Nat.log2 r + 1 + (52 - Nat.log2 r) = 53 := by omega
    constructor
    · have := Nat.mul_le_mul_right (2 ^ (52 - Nat.log2 r)) h1
      rw [← Nat.pow_add, e1] at this
      exact this
    · have := Nat.mul_lt_mul_of_pos_right h2 (pow_pos2 (52 - Nat.log2 r))
      rw [← Nat.pow_add, e2] at this
      exact this
  · rw [if_neg g]
    omega
theorem pe_range {r : Nat} (h' : r < infR) : -1126 ≤ pe r ∧ pe r ≤ 971 := by
  have hi : infR = 9218868437227405312 := rfl
  unfold pe
  by_cases g : r < 2 ^ 52
  · rw [if_pos g]; omega
  · rw [if_neg g]; omega
theorem pm_val {r K : Nat} (h : 0 < r) (hK : 1200 ≤ K) : pm r * 2 ^ (pe r + K).toNat = val K r := by
  unfold pm pe val
  by_cases g : r < 2 ^ 52
  · rw [if_pos g, if_pos g, if_pos g]
    have hl : Nat.log2 r < 52 := (Nat.log2_lt (by omega)).2 g
    have e : 52 - Nat.log2 r + (-1074 - ((52 - Nat.log2 r : Nat) : Int) + K).toNat = K - 1074 := by omega
    rw [Nat.mul_assoc, ← Nat.pow_add, e]
  · rw [if_neg g, if_neg g, if_neg g]
    have e : (((r / 2 ^ 52 : Nat) : Int) - 1075 + K).toNat = K - 1074 + (r / 2 ^ 52 - 1) := by omega
    rw [e]
theorem pe_mono {r s : Nat} (hr : 0 < r) (hr' : r < infR) (hs' : s < infR) (h : r ≤ s) : pe r ≤ pe s := by
  obtain ⟨K, hK⟩ := exK
  have v1 := pm_val (K := K) hr (by omega)
  have v2 := pm_val (K := K) (r := s) (by omega) (by omega)
  have r1 := pm_range hr
  have r2 := pm_range (r := s) (by omega)
  have q1 := pe_range hr'
  have q2 := pe_range hs'
  have hv : val K r ≤ val K s := by
    rcases Nat.lt_or_ge r s with g | g
    · exact Nat.le_of_lt (val_lt g)
    · have : r = s := by omega
      subst this; exact Nat.le_refl _
  rcases Int.lt_or_le (pe s) (pe r) with g | g
  · exfalso
    have e : (pe s + K).toNat + 1 ≤ (pe r + K).toNat := by omega
    have h1 : 2 ^ 52 * 2 ^ ((pe s + K).toNat + 1) ≤ pm r * 2 ^ (pe r + K).toNat := Nat.mul_le_mul r1.1 (Nat.pow_le_pow_right (by omega) e)
    have h2 : pm s * 2 ^ (pe s + K).toNat < 2 ^ 53 * 2 ^ (pe s + K).toNat := Nat.mul_lt_mul_of_pos_right r2.2 (pow_pos2 _)
    have h3 : 2 ^ 52 * 2 ^ ((pe s + K).toNat + 1) = 2 ^ 53 * 2 ^ (pe s + K).toNat := by
      rw [Nat.pow_succ 2 (pe s + K).toNat, Nat.mul_comm (2 ^ (pe s + K).toNat) 2, ← Nat.mul_assoc]
    omega
  · exact g

end Flt
end Go.Proofs.YtnilempeldlieaaGreat
namespace Go.Proofs.YtnilempeldlieaaGreat
open Flt
namespace Flt

theorem cut_div {U Z d t : Nat} (hd : d ≤ t) (hZ : Z = U * 2 ^ (t - d)) : Z / (1 * 2 ^ t) = U / 2 ^ d ∧ (Z % (1 * 2 ^ t) = 0 ↔ U % 2 ^ d = 0) := by
  have e : 1 * 2 ^ t = 2 ^ d * 2 ^ (t - d) := by rw [Nat.one_mul, ← Nat.pow_add]; congr 1; omega
  have hp := pow_pos2 (t - d)
  rw [e, hZ]
  refine ⟨Nat.mul_div_mul_right _ _ hp, ?_⟩
  rw [Nat.mul_mod_mul_right]
  constructor
  · intro h
    rcases Nat.mul_eq_zero.1 h with g | g
    · exact g
    · omega
  · intro h; rw [h, Nat.zero_mul]

theorem less_div {M N p : Nat} (hp : 0 < p) (h : N ≤ M * p) : (M * p - N) / p = M - N / p - (if N % p = 0 then 0 else 1) ∧ ((M * p - N) % p = 0 ↔ N % p = 0) := by
  have hdm := Nat.div_add_mod N p
  have hlt := Nat.mod_lt N hp
  have hle : N / p ≤ M := by
    have := Nat.div_le_div_right (c := p) h
    rwa [Nat.mul_div_cancel _ hp] at this
  generalize N / p = x at *
  generalize N % p = y at *
  obtain ⟨z, hz⟩ : ∃ z, M = x + z := ⟨M - x, by omega⟩
  subst hz
  have e : (x + z) * p - N = z * p - y := by
    rw [← hdm, Nat.add_mul, Nat.mul_comm p x]; omega
  rw [e]
  by_cases hy : y = 0
  · subst hy
    rw [if_pos rfl, Nat.sub_zero, Nat.mul_div_cancel _ hp, Nat.mul_mod_left]
    exact ⟨by omega, by simp⟩
  · rw [if_neg hy]
    have hz0 : 0 < z := by
      rcases Nat.eq_zero_or_pos z with g | g
      · subst g
        rw [← hdm, Nat.add_zero, Nat.mul_comm p x] at h
        omega
      · exact g
    obtain ⟨u, hu⟩ : ∃ u, z = u + 1 := ⟨z - 1, by omega⟩
    subst hu
    have e2 : (u + 1) * p - y = u * p + (p - y) := by rw [Nat.add_mul, Nat.one_mul]; omega
    rw [e2]
    have e3 : (u * p + (p - y)) / p = u := by
      rw [Nat.mul_comm, Nat.mul_add_div hp, Nat.div_eq_of_lt (by omega)]; rfl
    have e4 : (u * p + (p - y)) % p = p - y := by
      rw [Nat.mul_comm, Nat.mul_add_mod, Nat.mod_eq_of_lt (by omega)]
    rw [e3, e4]
    exact ⟨by omega, ⟨fun g => by omega, fun g => absurd g hy⟩⟩

def addD (a b : Int) : Int :=
  if ngv a = ngv b then sg (ngv a) (rdN (pm (rg a) * 256 + pm (rg b) * 256 / 2 ^ (pe (rg a) - pe (rg b)).toNat) (pe (rg a) - 8) (decide (pm (rg b) * 256 % 2 ^ (pe (rg a) - pe (rg b)).toNat ≠ 0)))
  else if pm (rg a) * 256 - pm (rg b) * 256 / 2 ^ (pe (rg a) - pe (rg b)).toNat - (if pm (rg b) * 256 % 2 ^ (pe (rg a) - pe (rg b)).toNat = 0 then 0 else 1) = 0 then 0
  else sg (ngv a) (rdN (pm (rg a) * 256 - pm (rg b) * 256 / 2 ^ (pe (rg a) - pe (rg b)).toNat - (if pm (rg b) * 256 % 2 ^ (pe (rg a) - pe (rg b)).toNat = 0 then 0 else 1)) (pe (rg a) - 8) (decide (pm (rg b) * 256 % 2 ^ (pe (rg a) - pe (rg b)).toNat ≠ 0)))

theorem more_far {n d : Nat} (h : n * 256 % 2 ^ d ≠ 0) : 9 ≤ d := by
  rcases Nat.lt_or_ge d 9 with g | g
  · exfalso
    apply h
    have e : n * 256 = n * 2 ^ (8 - d) * 2 ^ d := by
      rw [Nat.mul_assoc, ← Nat.pow_add, Nat.sub_add_cancel (by omega)]
    rw [e, Nat.mul_mod_left]
  · exact g

theorem addD_eq {a b : Int} (ha : In64 a) (hb : In64 b) (fa : rg a < infR) (fb : rg b < infR) (_za : rg a ≠ 0) (zb : rg b ≠ 0) (hle : rg b ≤ rg a) : addD a b = fAdd a b := by
  obtain ⟨K, hK⟩ := exK
  have va := pm_val (K := K) (r := rg a) (by omega) (by omega)
  have vb := pm_val (K := K) (r := rg b) (by omega) (by omega)
  have ma := pm_range (r := rg a) (by omega)
  have mb := pm_range (r := rg b) (by omega)
  have ea := pe_range fa
  have eb := pe_range fb
  have hmono := pe_mono (by omega) fb fa hle
  have hval : val K (rg b) ≤ val K (rg a) := by
    rcases Nat.lt_or_ge (rg b) (rg a) with g | g
    · exact Nat.le_of_lt (val_lt g)
    · have : rg b = rg a := by omega
      rw [this]; exact Nat.le_refl _
  have pb : 0 < val K (rg b) := val_pos (by omega)
  have pa : 0 < val K (rg a) := val_pos (by omega)
  rw [fAdd_fin ha hb fa fb (K := K) (by omega)]
  unfold addD sv
  generalize hd : (pe (rg a) - pe (rg b)).toNat = d
  obtain ⟨t, ht⟩ : ∃ t : Nat, (t : Int) = pe (rg a) - 8 + K := ⟨(pe (rg a) - 8 + K).toNat, by omega⟩
  have e8 : pe (rg a) - 8 = (t : Int) - K := by omega
  rw [e8]
  have hdt : d ≤ t := by omega
  have t1 : (pe (rg a) + K).toNat = 8 + t := by omega
  have t2 : (pe (rg b) + K).toNat = 8 + (t - d) := by omega
  rw [t1, Nat.pow_add, ← Nat.mul_assoc] at va
  rw [t2, Nat.pow_add, ← Nat.mul_assoc] at vb
  have h8 : (2 : Nat) ^ 8 = 256 := by decide
  rw [h8] at va vb
  obtain ⟨M, hM⟩ : ∃ M, pm (rg a) * 256 = M := ⟨_, rfl⟩
  obtain ⟨N, hN⟩ : ∃ N, pm (rg b) * 256 = N := ⟨_, rfl⟩
  rw [hM] at va ⊢
  rw [hN] at vb ⊢
  have hp := pow_pos2 d
  have hpt := pow_pos2 (t - d)
  have splitT : 2 ^ t = 2 ^ d * 2 ^ (t - d) := by rw [← Nat.pow_add]; congr 1; omega
  have va' : val K (rg a) = M * 2 ^ d * 2 ^ (t - d) := by rw [← va, splitT, Nat.mul_assoc]
  have hMN : N ≤ M * 2 ^ d := by
    rw [← vb, va'] at hval
    exact Nat.le_of_mul_le_mul_right hval hpt
  have hM60 : 2 ^ 60 ≤ M := by omega
  have hN61 : N < 2 ^ 61 := by omega
  have h9 : N % 2 ^ d ≠ 0 → 9 ≤ d := by rw [← hN]; exact more_far
  by_cases hs : ngv a = ngv b
  · rw [if_pos hs]
    have hX : (if ngv a then -(val K (rg a) : Int) else (val K (rg a) : Int)) + (if ngv b then -(val K (rg b) : Int) else (val K (rg b) : Int)) = if ngv a then -((val K (rg a) + val K (rg b) : Nat) : Int) else ((val K (rg a) + val K (rg b) : Nat) : Int) := by
      rw [← hs]; cases ngv a <;> simp <;> omega
    rw [hX]
    have hne : ¬ ((if ngv a then -((val K (rg a) + val K (rg b) : Nat) : Int) else ((val K (rg a) + val K (rg b) : Nat) : Int)) = 0) := by split <;> omega
    have hab : (if ngv a then -((val K (rg a) + val K (rg b) : Nat) : Int) else ((val K (rg a) + val K (rg b) : Nat) : Int)).natAbs = val K (rg a) + val K (rg b) := by split <;> omega
    have hsg : decide ((if ngv a then -((val K (rg a) + val K (rg b) : Nat) : Int) else ((val K (rg a) + val K (rg b) : Nat) : Int)) < 0) = ngv a := by
      cases ngv a
      · simp only [Bool.false_eq_true, if_false]; rw [decide_eq_false_iff_not]; omega
      · simp only [if_true]; rw [decide_eq_true_eq]; omega
    rw [if_neg hne, hab, hsg]
    unfold rnd
    have hZ : val K (rg a) + val K (rg b) = (M * 2 ^ d + N) * 2 ^ (t - d) := by rw [Nat.add_mul, ← va', vb]
    obtain ⟨c1, c2⟩ := cut_div hdt hZ
    have h60 : 2 ^ 60 ≤ M + N / 2 ^ d := Nat.le_trans hM60 (Nat.le_add_right _ _)
    have hq0 : M + N / 2 ^ d ≠ 0 := by
      intro g; rw [g] at h60; exact absurd h60 (by decide)
    have u1 : (M * 2 ^ d + N) / 2 ^ d = M + N / 2 ^ d := by rw [Nat.mul_comm, Nat.mul_add_div hp]
    have u2 : (M * 2 ^ d + N) % 2 ^ d = N % 2 ^ d := by rw [Nat.mul_comm, Nat.mul_add_mod]
    rw [u1] at c1
    rw [u2] at c2
    rw [core (K := K) (N := val K (rg a) + val K (rg b)) (D := 1) (t := t) (by omega) (by omega) (by omega) c1 (by simp only [ne_eq, c2]) (fun _ => (Nat.le_log2 hq0).2 (Nat.le_trans (by decide) h60)) (Nat.pos_of_ne_zero hq0)]
  · rw [if_neg hs]
    have hs' : ngv b = !ngv a := by cases ha' : ngv a <;> cases hb' : ngv b <;> simp_all
    have hX : (if ngv a then -(val K (rg a) : Int) else (val K (rg a) : Int)) + (if ngv b then -(val K (rg b) : Int) else (val K (rg b) : Int)) = if ngv a then -((val K (rg a) - val K (rg b) : Nat) : Int) else ((val K (rg a) - val K (rg b) : Nat) : Int) := by
      rw [hs']; cases ngv a <;> simp <;> omega
    rw [hX]
    have hZ : val K (rg a) - val K (rg b) = (M * 2 ^ d - N) * 2 ^ (t - d) := by rw [Nat.sub_mul, ← va', vb]
    obtain ⟨c1, c2⟩ := cut_div hdt hZ
    obtain ⟨u1, u2⟩ := less_div hp hMN
    rw [u1] at c1
    rw [u2] at c2
    generalize hq : M - N / 2 ^ d - (if N % 2 ^ d = 0 then 0 else 1) = q at *
    by_cases q0 : q = 0
    · rw [if_pos q0]
      have hmore : N % 2 ^ d = 0 := by
        by_cases g : N % 2 ^ d = 0
        · exact g
        · exfalso
          have h9' := h9 g
          rw [if_neg g] at hq
          have : N / 2 ^ d ≤ N / 2 ^ 9 := Nat.div_le_div_left (Nat.pow_le_pow_right (by omega) h9') (by omega)
          omega
      have hz : val K (rg a) - val K (rg b) = 0 := by
        have h1 := Nat.div_add_mod (val K (rg a) - val K (rg b)) (1 * 2 ^ t)
        rw [c1, q0, c2.2 hmore] at h1
        omega
      rw [hz]
      have : (ngv a && ngv b) = false := by rw [hs']; cases ngv a <;> rfl
      rw [this]
      cases ngv a <;> rfl
    · rw [if_neg q0]
      have hzp : 0 < val K (rg a) - val K (rg b) := by
        rcases Nat.eq_zero_or_pos (val K (rg a) - val K (rg b)) with g | g
        · rw [g, Nat.zero_div] at c1; omega
        · exact g
      have hne : ¬ ((if ngv a then -((val K (rg a) - val K (rg b) : Nat) : Int) else ((val K (rg a) - val K (rg b) : Nat) : Int)) = 0) := by split <;> omega
      have hab : (if ngv a then -((val K (rg a) - val K (rg b) : Nat) : Int) else ((val K (rg a) - val K (rg b) : Nat) : Int)).natAbs = val K (rg a) - val K (rg b) := by split <;> omega
      have hsg : decide ((if ngv a then -((val K (rg a) - val K (rg b) : Nat) : Int) else ((val K (rg a) - val K (rg b) : Nat) : Int)) < 0) = ngv a := by
        cases ngv a
        · simp only [Bool.false_eq_true, if_false]; rw [decide_eq_false_iff_not]; omega
        · simp only [if_true]; rw [decide_eq_true_eq]; omega
      rw [if_neg hne, hab, hsg]
      unfold rnd
      rw [core (K := K) (N := val K (rg a) - val K (rg b)) (D := 1) (t := t) (by omega) (by omega) (by omega) c1 (by simp only [ne_eq, c2]) (fun hm => by
        have g : N % 2 ^ d ≠ 0 := by simpa using hm
        have h9' := h9 g
        rw [if_neg g] at hq
        have : N / 2 ^ d ≤ N / 2 ^ 9 := Nat.div_le_div_left (Nat.pow_le_pow_right (by omega) h9') (by omega)
        have : 2 ^ 54 ≤ q := by omega
        exact (Nat.le_log2 (by omega)).2 this) (by omega)]

def mulD (a b : Int) : Int := sg (ngv a ^^ ngv b) (rdN (pm (rg a) * pm (rg b) / 2 ^ 46) (pe (rg a) + pe (rg b) + 46) (decide (pm (rg a) * pm (rg b) % 2 ^ 46 ≠ 0)))
def divD (a b : Int) : Int := sg (ngv a ^^ ngv b) (rdN (pm (rg a) * 2 ^ 60 / pm (rg b)) (pe (rg a) - pe (rg b) - 60) (decide (pm (rg a) * 2 ^ 60 % pm (rg b) ≠ 0)))

theorem scale_div {U D p N Q : Nat} (hp : 0 < p) (hN : N = U * p) (hQ : Q = D * p) : N / Q = U / D ∧ (N % Q = 0 ↔ U % D = 0) := by
  rw [hN, hQ]
  refine ⟨Nat.mul_div_mul_right _ _ hp, ?_⟩
  rw [Nat.mul_mod_mul_right]
  constructor
  · intro h
    rcases Nat.mul_eq_zero.1 h with g | g
    · exact g
    · omega
  · intro h; rw [h, Nat.zero_mul]

theorem mulD_eq {a b : Int} (ha : In64 a) (hb : In64 b) (fa : rg a < infR) (fb : rg b < infR) (za : rg a ≠ 0) (zb : rg b ≠ 0) : mulD a b = fMul a b := by
  obtain ⟨K, hK⟩ := exK
  have va := pm_val (K := K) (r := rg a) (by omega) (by omega)
  have vb := pm_val (K := K) (r := rg b) (by omega) (by omega)
  have ma := pm_range (r := rg a) (by omega)
  have mb := pm_range (r := rg b) (by omega)
  have ea := pe_range fa
  have eb := pe_range fb
  rw [fMul_fin ha hb fa fb (K := K) (by omega)]
  unfold mulD rnd
  obtain ⟨t, ht⟩ : ∃ t : Nat, (t : Int) = pe (rg a) + pe (rg b) + 46 + K := ⟨(pe (rg a) + pe (rg b) + 46 + K).toNat, by omega⟩
  have e8 : pe (rg a) + pe (rg b) + 46 = (t : Int) - K := by omega
  rw [e8, ← va, ← vb]
  have hp := pow_pos2 ((pe (rg a) + K).toNat + (pe (rg b) + K).toNat)
  have e1 : pm (rg a) * 2 ^ (pe (rg a) + K).toNat * (pm (rg b) * 2 ^ (pe (rg b) + K).toNat) = pm (rg a) * pm (rg b) * 2 ^ ((pe (rg a) + K).toNat + (pe (rg b) + K).toNat) := by
    rw [Nat.pow_add]; ac_rfl
  have e2 : 2 ^ K * 2 ^ t = 2 ^ 46 * 2 ^ ((pe (rg a) + K).toNat + (pe (rg b) + K).toNat) := by
    rw [← Nat.pow_add, ← Nat.pow_add]; congr 1; omega
  obtain ⟨c1, c2⟩ := scale_div hp e1 e2
  have hm : 2 ^ 52 * 2 ^ 52 ≤ pm (rg a) * pm (rg b) := Nat.mul_le_mul ma.1 mb.1
  have hq : 2 ^ 54 ≤ pm (rg a) * pm (rg b) / 2 ^ 46 := by
    generalize pm (rg a) * pm (rg b) = x at *
    omega
  rw [core (K := K) (t := t) (pow_pos2 K) (by omega) (by omega) c1 (by simp only [ne_eq, c2]) (fun _ => (Nat.le_log2 (by omega)).2 hq) (by omega)]

theorem divD_eq {a b : Int} (ha : In64 a) (hb : In64 b) (fa : rg a < infR) (fb : rg b < infR) (za : rg a ≠ 0) (zb : rg b ≠ 0) : divD a b = fDiv a b := by
  obtain ⟨K, hK⟩ := exK
  have va := pm_val (K := K) (r := rg a) (by omega) (by omega)
  have vb := pm_val (K := K) (r := rg b) (by omega) (by omega)
  have ma := pm_range (r := rg a) (by omega)
  have mb := pm_range (r := rg b) (by omega)
  have ea := pe_range fa
  have eb := pe_range fb
  rw [fDiv_fin ha hb fa fb zb hK]
  unfold divD rnd
  obtain ⟨t, ht⟩ : ∃ t : Nat, (t : Int) = pe (rg a) - pe (rg b) - 60 + K := ⟨(pe (rg a) - pe (rg b) - 60 + K).toNat, by omega⟩
  have e8 : pe (rg a) - pe (rg b) - 60 = (t : Int) - K := by omega
  rw [e8, ← va, ← vb]
  obtain ⟨x, hx⟩ : ∃ x : Nat, (x : Int) = pe (rg a) + K + K - 60 := ⟨(pe (rg a) + K + K - 60).toNat, by omega⟩
  have hp := pow_pos2 x
  have e1 : pm (rg a) * 2 ^ (pe (rg a) + K).toNat * 2 ^ K = pm (rg a) * 2 ^ 60 * 2 ^ x := by
    rw [Nat.mul_assoc, ← Nat.pow_add, Nat.mul_assoc, ← Nat.pow_add]; congr 2; omega
  have e2 : pm (rg b) * 2 ^ (pe (rg b) + K).toNat * 2 ^ t = pm (rg b) * 2 ^ x := by
    rw [Nat.mul_assoc, ← Nat.pow_add]; congr 2; omega
  obtain ⟨c1, c2⟩ := scale_div hp e1 e2
  have hq : 2 ^ 54 ≤ pm (rg a) * 2 ^ 60 / pm (rg b) := by
    rw [Nat.le_div_iff_mul_le (by omega)]
    omega
  have hD : 0 < pm (rg b) * 2 ^ (pe (rg b) + K).toNat := Nat.mul_pos (by omega) (pow_pos2 _)
  rw [core (K := K) (t := t) hD (by omega) (by omega) c1 (by simp only [ne_eq, c2]) (fun _ => (Nat.le_log2 (by omega)).2 hq) (by omega)]


theorem ofD {n : Int} (h : n ≠ 0) : sg (decide (n < 0)) (rdN n.natAbs 0 false) = s64 (floatOfInt .f64 n) := by
  obtain ⟨K, hK⟩ := exK
  rw [ofInt_eq n (K := K) (by omega), rdN_exact (by omega) (K := K) (by omega) (by omega)]
  have : ((0 : Int) + K).toNat = K := by omega
  rw [this]
  rfl

end Flt
end Go.Proofs.YtnilempeldlieaaGreat
namespace Go.Proofs.YtnilempeldlieaaGreat
open Go.RowKit Flt

theorem log2_lt64 {m : Nat} (h : m < 9223372036854775808) : Nat.log2 m < 63 := by
  rcases Nat.eq_zero_or_pos m with z | z
  · subst z; decide
  · exact (Nat.log2_lt (by omega)).2 (by have : (2 : Nat) ^ 63 = 9223372036854775808 := by decide
                                         omega)

set_option maxHeartbeats 1000000 in
theorem top_any (m : Nat) (hm : m < 9223372036854775808) (w : World) : Calls Tryz.prog 208 #[.int .i64 (m : Int)] w fun e w' => e = .returned (.int .i64 (Nat.log2 m : Int)) ∧ w = w' := by
  have H := hid hm
  clear hm
  go_enter Tryz.func208, Tryz.ntmps208
  go_wp2
  go_loop [0, 3] (fun v i => ∃ j x : Nat, v = .int .i64 (x : Int) ∧ i = .int .i64 (j : Int) ∧ m / 2 ^ j = x ∧ (j = 0 ∨ 2 ^ j ≤ m)) (fun v _ => (intOf v).toNat)
  case atStart => exact ⟨0, m, rfl, rfl, by simp, .inl rfl⟩
  case round =>
    obtain ⟨j, x, rfl, rfl, hx, hj⟩ := hrel
    have e1 : Int.tdiv (x : Int) 2 = (x : Int) / 2 := Int.tdiv_eq_ediv_of_nonneg (by omega)
    have hj62 : j ≤ 62 := by
      rcases hj with g | g
      · omega
      · have hmz : m ≠ 0 := by have := pow_pos2 j; omega
        have := (Nat.le_log2 hmz).2 g
        have := log2_lt64 H.out
        omega
    have hx62 : x < 9223372036854775808 := by
      rw [← hx]; exact Nat.lt_of_le_of_lt (Nat.div_le_self _ _) H.out
    have HJ := hid hj
    have HX := hid hx
    clear hj hx
    go_wp2
    · have hlt : (1 : Int) < x := by assumption
      refine ⟨⟨j + 1, x / 2, by go_num, by go_num, ?_, .inr ?_⟩, by simp [intOf]; omega⟩
      · rw [Nat.pow_succ, ← Nat.div_div_eq_div_mul, HX.out]
      · have h2 : 2 ≤ m / 2 ^ j := by rw [HX.out]; omega
        rw [Nat.le_div_iff_mul_le (pow_pos2 j)] at h2
        rw [Nat.pow_succ, Nat.mul_comm]; exact h2
    · have hle : (x : Int) ≤ 1 := by assumption
      go_ret
      refine ⟨?_, rfl⟩
      have : Nat.log2 m = j := by
        rcases HJ.out with g | g
        · subst g
          have hx' := HX.out
          rw [Nat.pow_zero, Nat.div_one] at hx'
          have : m = 0 ∨ m = 1 := by omega
          rcases this with h | h <;> subst h <;> decide
        · refine log2_eq g ?_
          have h2 : m / 2 ^ j < 2 := by rw [HX.out]; omega
          rw [Nat.div_lt_iff_lt_mul (pow_pos2 j)] at h2
          rw [Nat.pow_succ, Nat.mul_comm]; exact h2
      rw [this]; rfl

theorem top_is {m l : Nat} (hm : m < 9223372036854775808) (hl : Nat.log2 m = l) (w : World) : Calls Tryz.prog 208 #[.int .i64 (m : Int)] w fun e w' => e = .returned (.int .i64 (l : Int)) ∧ w = w' := by
  subst hl; exact top_any m hm w


set_option maxRecDepth 10000 in
set_option maxHeartbeats 1000000 in
theorem round_A (m l s : Nat) (c e : Int) (more : Bool) (h1 : m < 4611686018427387904) (h2 : -5000 ≤ e) (h3 : e ≤ 5000) (hl : Nat.log2 m = l) (hl' : l ≤ 61) (R : Nat)
    (hS : (if (l : Int) - 52 < -1074 - e then -1074 - e else (l : Int) - 52) = -(s : Int)) (hs : s ≤ 52) (hc : (m : Int) * 2 ^ s = c) (hc0 : 0 ≤ c) (hc' : c ≤ 9007199254740992)
    (hE : -1074 ≤ e - s) (hE' : c < 4503599627370496 → e - s = -1074) (hR : ((e - s + 1074) * 4503599627370496 + c ≤ 9218868437227405312 ∧ (R : Int) = (e - s + 1074) * 4503599627370496 + c) ∨ (9218868437227405312 ≤ (e - s + 1074) * 4503599627370496 + c ∧ (R : Int) = 9218868437227405312))
    (w : World) : Calls Tryz.prog 173 #[.int .i64 (m : Int), .int .i64 e, .bool more] w fun e w' => e = .returned (.int .i64 (R : Int)) ∧ w = w' := by
  have H := hid h1
  have HL := hid hl
  have HR := hid hR
  have HE' := hid hE'
  clear h1 hl hR hE'
  go_enter Tryz.func173, Tryz.ntmps173
  go_wp2_with (first | (go_at_call 208; refine (top_is (by have := H.out; omega) HL.out _).mono ?_; rintro e w' ⟨rfl, rfl⟩) | (go_at_call 175; refine (rmost_any _).mono ?_; rintro e w' ⟨rfl, rfl⟩))
  all_goals go_ret
  all_goals
    refine ⟨congrArg (fun x => Ending.returned (Value.int .i64 x)) ?_, rfl⟩
    have g1 := HR.out
    have g2 := HE'.out
    try simp only [beq_iff_eq] at *
    try unfold wrap64
    omega

set_option maxRecDepth 10000 in
set_option maxHeartbeats 4000000 in
theorem round_B (m l k : Nat) (c e p h q r : Int) (more : Bool) (h1 : m < 4611686018427387904) (h2 : -5000 ≤ e) (h3 : e ≤ 5000) (hl : Nat.log2 m = l) (hl' : l ≤ 61) (R : Nat)
    (hS : (if (l : Int) - 52 < -1074 - e then -1074 - e else (l : Int) - 52) = (k : Int) + 1) (hk : k ≤ 61)
    (hp : (2 : Int) ^ (k + 1) = p) (hh : (2 : Int) ^ k = h) (hh1 : 1 ≤ h) (hh2 : h ≤ 2305843009213693952) (hp2 : p = h + h)
    (hr : Int.tmod (m : Int) p = r) (hq : (m : Int) / p = q) (hq0 : 0 ≤ q) (hc' : c ≤ 9007199254740992)
    (hup : (h < r ∧ c = q + 1) ∨ (r < h ∧ c = q) ∨ (r = h ∧ more = true ∧ c = q + 1) ∨ (r = h ∧ more = false ∧ Int.tmod q 2 = 1 ∧ c = q + 1) ∨ (r = h ∧ more = false ∧ Int.tmod q 2 = 0 ∧ c = q))
    (hE : -1074 ≤ e + (k + 1)) (hE' : c < 4503599627370496 → e + (k + 1) = -1074) (hR : ((e + (k + 1) + 1074) * 4503599627370496 + c ≤ 9218868437227405312 ∧ (R : Int) = (e + (k + 1) + 1074) * 4503599627370496 + c) ∨ (9218868437227405312 ≤ (e + (k + 1) + 1074) * 4503599627370496 + c ∧ (R : Int) = 9218868437227405312))
    (w : World) : Calls Tryz.prog 173 #[.int .i64 (m : Int), .int .i64 e, .bool more] w fun e w' => e = .returned (.int .i64 (R : Int)) ∧ w = w' := by
  have H := hid h1
  have HL := hid hl
  have HR := hid hR
  have HE' := hid hE'
  have HP := hid hp2
  have hp0 : p ≠ 0 := by omega
  have hpb : 0 < p := by omega
  have hpc : p ≤ 4611686018427387904 := by omega
  clear h1 hl hR hE' hp2
  rcases hup with ⟨u1, u2⟩ | ⟨u1, u2⟩ | ⟨u1, u2, u3⟩ | ⟨u1, u2, u3, u4⟩ | ⟨u1, u2, u3, u4⟩
  · subst u2
    go_enter Tryz.func173, Tryz.ntmps173
    go_wp2_with (first | (go_at_call 208; refine (top_is (by have := H.out; omega) HL.out _).mono ?_; rintro e w' ⟨rfl, rfl⟩) | (go_at_call 175; refine (rmost_any _).mono ?_; rintro e w' ⟨rfl, rfl⟩))
    all_goals go_ret
    all_goals
      refine ⟨congrArg (fun x => Ending.returned (Value.int .i64 x)) ?_, rfl⟩
      have g1 := HR.out
      have g2 := HE'.out
      try simp only [beq_iff_eq] at *
      try unfold wrap64
      omega

  · subst u2
    have u2 : ¬ h < r := by omega
    have u3 : (r == h) = false := by rw [beq_eq_false_iff_ne]; omega
    clear u1
    go_enter Tryz.func173, Tryz.ntmps173
    go_wp2_with (first | (go_at_call 208; refine (top_is (by have := H.out; omega) HL.out _).mono ?_; rintro e w' ⟨rfl, rfl⟩) | (go_at_call 175; refine (rmost_any _).mono ?_; rintro e w' ⟨rfl, rfl⟩))
    all_goals go_ret
    all_goals
      refine ⟨congrArg (fun x => Ending.returned (Value.int .i64 x)) ?_, rfl⟩
      have g1 := HR.out
      have g2 := HE'.out
      try simp only [beq_iff_eq] at *
      try unfold wrap64
      omega

  · subst u3; subst u2; subst u1
    go_enter Tryz.func173, Tryz.ntmps173
    go_wp2_with (first | (go_at_call 208; refine (top_is (by have := H.out; omega) HL.out _).mono ?_; rintro e w' ⟨rfl, rfl⟩) | (go_at_call 175; refine (rmost_any _).mono ?_; rintro e w' ⟨rfl, rfl⟩))
    all_goals go_ret
    all_goals
      refine ⟨congrArg (fun x => Ending.returned (Value.int .i64 x)) ?_, rfl⟩
      have g1 := HR.out
      have g2 := HE'.out
      try simp only [beq_iff_eq] at *
      try unfold wrap64
      omega

  · subst u4; subst u2; subst u1
    go_enter Tryz.func173, Tryz.ntmps173
    go_wp2_with (first | (go_at_call 208; refine (top_is (by have := H.out; omega) HL.out _).mono ?_; rintro e w' ⟨rfl, rfl⟩) | (go_at_call 175; refine (rmost_any _).mono ?_; rintro e w' ⟨rfl, rfl⟩))
    all_goals go_ret
    all_goals
      refine ⟨congrArg (fun x => Ending.returned (Value.int .i64 x)) ?_, rfl⟩
      have g1 := HR.out
      have g2 := HE'.out
      try simp only [beq_iff_eq] at *
      try unfold wrap64
      omega

  · subst u4; subst u2; subst u1
    go_enter Tryz.func173, Tryz.ntmps173
    go_wp2_with (first | (go_at_call 208; refine (top_is (by have := H.out; omega) HL.out _).mono ?_; rintro e w' ⟨rfl, rfl⟩) | (go_at_call 175; refine (rmost_any _).mono ?_; rintro e w' ⟨rfl, rfl⟩))
    all_goals go_ret
    all_goals
      refine ⟨congrArg (fun x => Ending.returned (Value.int .i64 x)) ?_, rfl⟩
      have g1 := HR.out
      have g2 := HE'.out
      try simp only [beq_iff_eq] at *
      try unfold wrap64
      omega


set_option maxRecDepth 10000 in
set_option maxHeartbeats 1000000 in
theorem round_C (m l : Nat) (e S : Int) (more : Bool) (h1 : m < 4611686018427387904) (h2 : -5000 ≤ e) (h3 : e ≤ 5000) (hl : Nat.log2 m = l) (hl' : l ≤ 61)
    (_hS : (if (l : Int) - 52 < -1074 - e then -1074 - e else (l : Int) - 52) = S) (hS1 : 63 ≤ S) (hS2 : S ≤ 10000) (hE : e + S = -1074)
    (w : World) : Calls Tryz.prog 173 #[.int .i64 (m : Int), .int .i64 e, .bool more] w fun e w' => e = .returned (.int .i64 0) ∧ w = w' := by
  have H := hid h1
  have HL := hid hl
  have a1 : ¬ S ≤ 0 := by omega
  have a2 : ¬ S < 63 := by omega
  have a3 : ¬ (9223372036854775807 : Int) < m := by omega
  have a4 : ((m : Int) == 9223372036854775807) = false := by rw [beq_eq_false_iff_ne]; omega
  clear h1 hl
  go_enter Tryz.func173, Tryz.ntmps173
  go_wp2_with (first | (go_at_call 208; refine (top_is (by have := H.out; omega) HL.out _).mono ?_; rintro e w' ⟨rfl, rfl⟩) | (go_at_call 175; refine (rmost_any _).mono ?_; rintro e w' ⟨rfl, rfl⟩))
  go_ret
  exact ⟨rfl, rfl⟩
end Go.Proofs.YtnilempeldlieaaGreat
namespace Go.Proofs.YtnilempeldlieaaGreat
open Go.RowKit Flt

theorem shf_if (m : Nat) (e : Int) : (if (Nat.log2 m : Int) - 52 < -1074 - e then -1074 - e else (Nat.log2 m : Int) - 52) = shf m e := by
  unfold shf; split <;> omega

theorem cast_pow2 (k : Nat) : (2 : Int) ^ k = ((2 ^ k : Nat) : Int) := by simp

theorem min_out {x R : Nat} {z : Int} (hx : (x : Int) = z) (hR : R = min x 9218868437227405312) : (z ≤ 9218868437227405312 ∧ (R : Int) = z) ∨ (9218868437227405312 ≤ z ∧ (R : Int) = 9218868437227405312) := by
  subst hx
  rcases Nat.le_total x 9218868437227405312 with g | g
  · rw [Nat.min_eq_left g] at hR
    subst hR
    exact .inl ⟨by omega, rfl⟩
  · rw [Nat.min_eq_right g] at hR
    subst hR
    exact .inr ⟨by omega, rfl⟩
theorem rung_cast {E : Int} {c : Nat} (h : 0 ≤ E) : ((E.toNat * 4503599627370496 + c : Nat) : Int) = E * 4503599627370496 + c := by
  rw [Int.natCast_add, Int.natCast_mul, Int.toNat_of_nonneg h]
  rfl

theorem round_any (m : Nat) (e : Int) (more : Bool) (h0 : 0 < m) (h1 : m < 4611686018427387904) (h2 : -5000 ≤ e) (h3 : e ≤ 5000) (w : World) :
    Calls Tryz.prog 173 #[.int .i64 (m : Int), .int .i64 e, .bool more] w fun x w' => x = .returned (.int .i64 (rdN m e more : Int)) ∧ w = w' := by
  have p52 : (2 : Nat) ^ 52 = 4503599627370496 := by decide
  have p53 : (2 : Nat) ^ 53 = 9007199254740992 := by decide
  have p62 : (2 : Nat) ^ 62 = 4611686018427387904 := by decide
  have hl : Nat.log2 m ≤ 61 := by
    have := (Nat.log2_lt (n := m) (k := 62) (by omega)).2 (by rw [p62]; exact h1)
    omega
  have lo : 2 ^ Nat.log2 m ≤ m := Nat.log2_self_le (by omega)
  have hi : m < 2 ^ (Nat.log2 m + 1) := Nat.lt_log2_self
  have hsh : shf m e = (Nat.log2 m : Int) - 52 ∨ shf m e = -1074 - e := by unfold shf; omega
  have hsg : (Nat.log2 m : Int) - 52 ≤ shf m e ∧ -1074 - e ≤ shf m e := by unfold shf; omega
  have hif := shf_if m e
  have hinf : infR = 9218868437227405312 := rfl
  obtain ⟨R, hRd⟩ : ∃ R, rdN m e more = R := ⟨_, rfl⟩
  by_cases cA : shf m e ≤ 0
  · obtain ⟨s, hs⟩ : ∃ s : Nat, shf m e = -(s : Int) := ⟨(-shf m e).toNat, by omega⟩
    have hR : R = min ((e - s + 1074).toNat * 4503599627370496 + m * 2 ^ s) 9218868437227405312 := by
      rw [← hRd]
      unfold rdN keptN
      rw [if_pos cA, hs, p52, hinf]
      have a1 : (-(-(s : Int))).toNat = s := by omega
      have a2 : (e + -(s : Int) + 1074).toNat = (e - s + 1074).toNat := by omega
      rw [a1, a2]
    rw [hs] at hif hsh hsg
    rw [hRd]
    clear hRd
    have c1 : m * 2 ^ s < 2 ^ 53 := by
      have h := Nat.mul_lt_mul_of_pos_right hi (pow_pos2 s)
      rw [← Nat.pow_add] at h
      exact Nat.lt_of_lt_of_le h (Nat.pow_le_pow_right (by omega) (by omega))
    have c2 : m * 2 ^ s < 2 ^ 52 → e - s = -1074 := by
      intro g
      rcases hsh with h | h
      · exfalso
        have h' := Nat.mul_le_mul_right (2 ^ s) lo
        rw [← Nat.pow_add] at h'
        have : Nat.log2 m + s = 52 := by omega
        rw [this] at h'
        omega
      · omega
    rw [p53] at c1
    rw [p52] at c2
    generalize hc : m * 2 ^ s = c at *
    refine round_A m (Nat.log2 m) s (c : Int) e more h1 h2 h3 rfl hl R hif (by omega) ?_ (by omega) (by omega) (by omega) (by omega) ?_ w
    · rw [cast_pow2, ← hc]; simp
    · exact min_out (rung_cast (by omega)) hR
  · by_cases cB : shf m e < 63
    · obtain ⟨k, hk⟩ : ∃ k : Nat, shf m e = (k : Int) + 1 := ⟨(shf m e - 1).toNat, by omega⟩
      have a1 : ((k : Int) + 1).toNat = k + 1 := by omega
      have hR : R = min ((e + (k + 1) + 1074).toNat * 4503599627370496 + rheM m (2 ^ (k + 1)) more) 9218868437227405312 := by
        rw [← hRd]
        unfold rdN keptN
        rw [if_neg cA, hk, p52, hinf, a1]
      rw [hk] at hif hsh hsg
      rw [hRd]
      clear hRd
      have hk61 : k ≤ 61 := by omega
      have hh2 : 2 ^ k ≤ 2 ^ 61 := Nat.pow_le_pow_right (by omega) hk61
      have p61 : (2 : Nat) ^ 61 = 2305843009213693952 := by decide
      rw [p61] at hh2
      have hhp := pow_pos2 k
      have hpp : 2 ^ (k + 1) = 2 ^ k + 2 ^ k := by rw [Nat.pow_succ]; omega
      have q1 : m / 2 ^ (k + 1) < 2 ^ 53 := by
        rw [Nat.div_lt_iff_lt_mul (pow_pos2 _), ← Nat.pow_add]
        exact Nat.lt_of_lt_of_le hi (Nat.pow_le_pow_right (by omega) (by omega))
      have q2 : m / 2 ^ (k + 1) < 2 ^ 52 → e + (k + 1) = -1074 := by
        intro g
        rcases hsh with h | h
        · exfalso
          rw [Nat.div_lt_iff_lt_mul (pow_pos2 _), ← Nat.pow_add] at g
          have : 52 + (k + 1) = Nat.log2 m := by omega
          rw [this] at g
          omega
        · omega
      rw [p53] at q1
      rw [p52] at q2
      have htm : Int.tmod (m : Int) ((2 ^ (k + 1) : Nat) : Int) = ((m % 2 ^ (k + 1) : Nat) : Int) := by
        rw [Int.tmod_eq_emod_of_nonneg (Int.natCast_nonneg _)]; simp
      have hdv : (m : Int) / ((2 ^ (k + 1) : Nat) : Int) = ((m / 2 ^ (k + 1) : Nat) : Int) := by simp
      have hm2 : ∀ q : Nat, Int.tmod (q : Int) 2 = ((q % 2 : Nat) : Int) := by
        intro q; rw [Int.tmod_eq_emod_of_nonneg (Int.natCast_nonneg _)]; omega
      have hrh : rheM m (2 ^ (k + 1)) more = m / 2 ^ (k + 1) + (if 2 ^ (k + 1) < 2 * (m % 2 ^ (k + 1)) ∨ (2 * (m % 2 ^ (k + 1)) = 2 ^ (k + 1) ∧ (more = true ∨ m / 2 ^ (k + 1) % 2 = 1)) then 1 else 0) := rfl
      have hrlt := Nat.mod_lt m (pow_pos2 (k + 1))
      generalize hc : rheM m (2 ^ (k + 1)) more = c at *
      generalize m / 2 ^ (k + 1) = q at *
      generalize m % 2 ^ (k + 1) = r at *
      have hp := cast_pow2 (k + 1)
      have hh := cast_pow2 k
      generalize 2 ^ (k + 1) = p at *
      generalize 2 ^ k = h at *
      refine round_B m (Nat.log2 m) k (c : Int) e (p : Int) (h : Int) (q : Int) (r : Int) more h1 h2 h3 rfl hl R hif hk61 hp hh (by omega) (by omega) (by omega) htm hdv (by omega) ?_ ?_ (by omega) ?_ ?_ w
      · split at hrh <;> omega
      · rw [hm2]
        subst hpp
        rcases Nat.lt_trichotomy h r with g | g | g
        · left
          rw [if_pos (by omega)] at hrh
          omega
        · subst g
          cases more
          · rcases Nat.mod_two_eq_zero_or_one q with y | y
            · rw [if_neg (by simp; omega)] at hrh
              exact .inr (.inr (.inr (.inr ⟨rfl, rfl, by omega, by omega⟩)))
            · rw [if_pos (by omega)] at hrh
              exact .inr (.inr (.inr (.inl ⟨rfl, rfl, by omega, by omega⟩)))
          · rw [if_pos (.inr ⟨by omega, .inl rfl⟩)] at hrh
            exact .inr (.inr (.inl ⟨rfl, rfl, by omega⟩))
        · right; left
          rw [if_neg (by omega)] at hrh
          omega
      · intro g
        apply q2
        omega
      · exact min_out (rung_cast (by omega)) hR
    · have hS : shf m e = -1074 - e := by omega
      have hR : R = 0 := by
        rw [← hRd]
        unfold rdN keptN
        have a1 : (e + shf m e + 1074).toNat = 0 := by omega
        have a2 : 2 ^ 63 ≤ 2 ^ (shf m e).toNat := Nat.pow_le_pow_right (by omega) (by omega)
        have p63 : (2 : Nat) ^ 63 = 9223372036854775808 := by decide
        have a3 : m < 2 ^ (shf m e).toNat := by omega
        rw [a1, if_neg cA]
        unfold rheM
        rw [Nat.div_eq_of_lt a3, Nat.mod_eq_of_lt a3, if_neg (by omega)]
        simp
      rw [hRd, hR]
      exact round_C m (Nat.log2 m) e (shf m e) more h1 h2 h3 rfl hl hif (by omega) (by omega) (by omega) w

theorem round_at {z : Int} (m : Nat) (hz : z = m) (e : Int) (more : Bool) (h0 : 0 < m) (h1 : m < 4611686018427387904) (h2 : -5000 ≤ e) (h3 : e ≤ 5000) (w : World) :
    Calls Tryz.prog 173 #[.int .i64 z, .int .i64 e, .bool more] w fun x w' => x = .returned (.int .i64 (rdN m e more : Int)) ∧ w = w' := by
  subst hz; exact round_any m e more h0 h1 h2 h3 w

set_option maxHeartbeats 1000000 in
theorem part_any (a : Int) (h0 : rg a ≠ 0) (w : World) : Calls Tryz.prog 125 #[.int .i64 a] w fun e w' => e = .returned (.tuple #[.int .i64 (pm (rg a) : Int), .int .i64 (pe (rg a))]) ∧ w = w' := by
  have hlt := rg_lt a
  have htm : Int.tmod (rg a : Int) 4503599627370496 = (rg a : Int) % 4503599627370496 := Int.tmod_eq_emod_of_nonneg (by omega)
  by_cases c : rg a < 2 ^ 52
  · have e1 : pm (rg a) = rg a * 2 ^ (52 - Nat.log2 (rg a)) := by unfold pm; rw [if_pos c]
    have e2 : pe (rg a) = -1074 - ((52 - Nat.log2 (rg a) : Nat) : Int) := by unfold pe; rw [if_pos c]
    have hl : Nat.log2 (rg a) < 52 := (Nat.log2_lt h0).2 c
    have lo : 2 ^ Nat.log2 (rg a) ≤ rg a := Nat.log2_self_le h0
    have hi : rg a < 2 ^ (Nat.log2 (rg a) + 1) := Nat.lt_log2_self
    rw [pow2_52] at c
    have f1 : (rg a : Int) / 4503599627370496 = 0 := by omega
    have f2 : (rg a : Int) % 4503599627370496 = rg a := by omega
    rw [f2] at htm
    have E1 := hid e1
    have E2 := hid e2
    have HL := hid hl
    have LO := hid lo
    have HI := hid hi
    have H0 := hid h0
    have hrg : (rg a : Int) < 4503599627370496 := by omega
    clear e1 e2 hl lo hi f2 h0 c hlt hrg
    go_enter Tryz.func125, Tryz.ntmps125
    go_wp2_with (go_at_call 131; refine (rplain_any _ _).mono ?_; rintro e w' ⟨rfl, rfl⟩)
    go_loop [5, 6] (fun v i => ∃ (j : Nat) (y : Int), v = .int .i64 y ∧ i = .int .i64 (-1074 - (j : Int)) ∧ 0 ≤ y ∧ y < 9007199254740992 ∧ Hid (y = ((rg a * 2 ^ j : Nat) : Int) ∧ j ≤ 52 - Nat.log2 (rg a))) (fun v _ => (9007199254740992 - intOf v).toNat)
    case atStart => exact ⟨0, rg a, rfl, rfl, by omega, by omega, ⟨by simp, by omega⟩⟩
    case round =>
      obtain ⟨j, y, rfl, rfl, hy0, hy2, HY⟩ := hrel
      have hjb : (j : Int) ≤ 52 := by have := HY.out.2; omega
      go_wp2
      · have hlt : y < 4503599627370496 := by assumption
        have hyp : 0 < rg a * 2 ^ j := Nat.mul_pos (Nat.pos_of_ne_zero H0.out) (pow_pos2 j)
        have hyv := HY.out.1
        refine ⟨⟨j + 1, 2 * y, by go_num, by go_num, by omega, by omega, ⟨?_, ?_⟩⟩, ?_⟩
        · rw [Nat.pow_succ, ← Nat.mul_assoc]; omega
        · have h2 : rg a * 2 ^ j < 2 ^ 52 := by rw [pow2_52]; omega
          have h3 : 2 ^ Nat.log2 (rg a) * 2 ^ j < 2 ^ 52 := Nat.lt_of_le_of_lt (Nat.mul_le_mul_right _ LO.out) h2
          rw [← Nat.pow_add] at h3
          have h4 := (Nat.pow_lt_pow_iff_right (by omega)).1 h3
          have := HL.out
          omega
        · simp [intOf]; omega
      · have hge : 4503599627370496 ≤ y := by assumption
        go_ret2
        have hyv := HY.out.1
        have hj52 : j = 52 - Nat.log2 (rg a) := by
          have h2 : 2 ^ 52 ≤ rg a * 2 ^ j := by rw [pow2_52]; omega
          have h3 : rg a * 2 ^ j < 2 ^ (Nat.log2 (rg a) + 1) * 2 ^ j := Nat.mul_lt_mul_of_pos_right HI.out (pow_pos2 j)
          rw [← Nat.pow_add] at h3
          have h4 := (Nat.pow_lt_pow_iff_right (a := 2) (by omega)).1 (Nat.lt_of_le_of_lt h2 h3)
          have := HY.out.2
          have := HL.out
          omega
        refine ⟨?_, rfl⟩
        rw [E1.out, E2.out, ← hj52, ← hyv]
        rfl
  · have e1 : (pm (rg a) : Int) = (rg a : Int) % 4503599627370496 + 4503599627370496 := by unfold pm; rw [if_neg c, pow2_52]; omega
    have e2 : pe (rg a) = (rg a : Int) / 4503599627370496 - 1075 := by unfold pe; rw [if_neg c, pow2_52]; omega
    have f1 : 0 < (rg a : Int) / 4503599627370496 := by omega
    rw [e1, e2]
    clear e1 e2 c
    go_enter Tryz.func125, Tryz.ntmps125
    go_wp2_with (go_at_call 131; refine (rplain_any _ _).mono ?_; rintro e w' ⟨rfl, rfl⟩)
    go_ret2; exact ⟨rfl, rfl⟩
end Go.Proofs.YtnilempeldlieaaGreat
namespace Go.Proofs.YtnilempeldlieaaGreat
open Go.RowKit Flt

end Go.Proofs.YtnilempeldlieaaGreat
namespace Go.Proofs.YtnilempeldlieaaGreat
open Go.RowKit Flt

theorem kd_beq (a : Int) (h : ¬ infR < rg a) : (kd a == 0) = false := by
  rw [beq_eq_false_iff_ne]; exact fun g => h ((kd_zero a).1 g)

theorem fOp0 (a b : Int) : fOp 0 a b = fAdd a b := by unfold fOp; rw [if_pos rfl]
theorem fOp1 (a b : Int) : fOp 1 a b = fSub a b := by unfold fOp; rw [if_neg (by decide), if_pos rfl]
theorem fOp2 (a b : Int) : fOp 2 a b = fMul a b := by unfold fOp; rw [if_neg (by decide), if_neg (by decide), if_pos rfl]
theorem fOp3 (a b : Int) : fOp 3 a b = fDiv a b := by unfold fOp; rw [if_neg (by decide), if_neg (by decide), if_neg (by decide), if_pos rfl]

theorem kd_range (a : Int) : kd a = 0 ∨ kd a = 1 ∨ kd a = 2 ∨ kd a = 3 ∨ kd a = 4 := by
  unfold kd
  repeat' split
  all_goals simp

end Go.Proofs.YtnilempeldlieaaGreat
namespace Go.Proofs.YtnilempeldlieaaGreat
open Go.RowKit Flt

theorem rorder_in {a : Int} (h : In64 a) (w : World) : Calls Tryz.prog 127 #[.int .i64 a] w fun e w' => e = .returned (.int .i64 (ord a)) ∧ w = w' := by
  have e : (if ngv a then -(rg a : Int) else a) = ord a := by
    unfold ord
    cases g : ngv a
    · have := sg_rg h
      rw [g] at this
      simp only [Bool.false_eq_true, if_false]
      rw [← this]
      unfold sg
      simp only [Bool.false_eq_true, if_false]
      unfold rg
      omega
    · rfl
  rw [← e]
  exact rorder_any a w

theorem kd_pos (a : Int) (h : ¬ infR < rg a) : 0 < kd a := by
  have := kd_range a
  have h' : ¬ kd a = 0 := fun g => h ((kd_zero a).1 g)
  omega

set_option maxHeartbeats 1000000 in
theorem rless_any {a b : Int} (ha : In64 a) (hb : In64 b) (w : World) : Calls Tryz.prog 92 #[.int .i64 a, .int .i64 b] w fun e w' => e = .returned (.bool (fLess a b)) ∧ w = w' := by
  rw [fLess_eq ha hb]
  have HA := hid ha
  have HB := hid hb
  clear ha hb
  by_cases n1 : infR < rg a
  · have k1 := (kd_zero a).2 n1
    have e : (notNaN a b && decide (ord a < ord b)) = false := by
      unfold notNaN
      have : ¬ rg a ≤ infR := by omega
      simp [this]
    rw [e]; clear e
    clear n1
    go_enter Tryz.func92, Tryz.ntmps92
    go_wp2_with (first | (go_at_call 124; refine (rkind_any _ _).mono ?_; rintro e w' ⟨rfl, rfl⟩) | (go_at_call 127; refine (rorder_in (by first | exact HA.out | exact HB.out) _).mono ?_; rintro e w' ⟨rfl, rfl⟩))
    go_ret; exact ⟨rfl, rfl⟩
  have k1 := kd_pos a n1
  by_cases n2 : infR < rg b
  · have k2 := (kd_zero b).2 n2
    have e : (notNaN a b && decide (ord a < ord b)) = false := by
      unfold notNaN
      have : ¬ rg b ≤ infR := by omega
      simp [this]
    rw [e]; clear e
    clear n1 n2
    go_enter Tryz.func92, Tryz.ntmps92
    go_wp2_with (first | (go_at_call 124; refine (rkind_any _ _).mono ?_; rintro e w' ⟨rfl, rfl⟩) | (go_at_call 127; refine (rorder_in (by first | exact HA.out | exact HB.out) _).mono ?_; rintro e w' ⟨rfl, rfl⟩))
    go_ret; exact ⟨rfl, rfl⟩
  have k2 := kd_pos b n2
  have e : (notNaN a b && decide (ord a < ord b)) = decide (ord a < ord b) := by
    unfold notNaN
    have h1 : rg a ≤ infR := by omega
    have h2 : rg b ≤ infR := by omega
    simp [h1, h2]
  rw [e]; clear e
  clear n1 n2
  go_enter Tryz.func92, Tryz.ntmps92
  go_wp2_with (first | (go_at_call 124; refine (rkind_any _ _).mono ?_; rintro e w' ⟨rfl, rfl⟩) | (go_at_call 127; refine (rorder_in (by first | exact HA.out | exact HB.out) _).mono ?_; rintro e w' ⟨rfl, rfl⟩))
  go_ret; exact ⟨rfl, rfl⟩

set_option maxHeartbeats 1000000 in
theorem requal_any {a b : Int} (ha : In64 a) (hb : In64 b) (w : World) : Calls Tryz.prog 93 #[.int .i64 a, .int .i64 b] w fun e w' => e = .returned (.bool (fEqual a b)) ∧ w = w' := by
  rw [fEqual_eq ha hb]
  have HA := hid ha
  have HB := hid hb
  clear ha hb
  by_cases n1 : infR < rg a
  · have k1 := (kd_zero a).2 n1
    have e : (notNaN a b && decide (ord a = ord b)) = false := by
      unfold notNaN
      have : ¬ rg a ≤ infR := by omega
      simp [this]
    rw [e]; clear e
    clear n1
    go_enter Tryz.func93, Tryz.ntmps93
    go_wp2_with (first | (go_at_call 124; refine (rkind_any _ _).mono ?_; rintro e w' ⟨rfl, rfl⟩) | (go_at_call 127; refine (rorder_in (by first | exact HA.out | exact HB.out) _).mono ?_; rintro e w' ⟨rfl, rfl⟩))
    go_ret; exact ⟨rfl, rfl⟩
  have k1 := kd_pos a n1
  by_cases n2 : infR < rg b
  · have k2 := (kd_zero b).2 n2
    have e : (notNaN a b && decide (ord a = ord b)) = false := by
      unfold notNaN
      have : ¬ rg b ≤ infR := by omega
      simp [this]
    rw [e]; clear e
    clear n1 n2
    go_enter Tryz.func93, Tryz.ntmps93
    go_wp2_with (first | (go_at_call 124; refine (rkind_any _ _).mono ?_; rintro e w' ⟨rfl, rfl⟩) | (go_at_call 127; refine (rorder_in (by first | exact HA.out | exact HB.out) _).mono ?_; rintro e w' ⟨rfl, rfl⟩))
    go_ret; exact ⟨rfl, rfl⟩
  have k2 := kd_pos b n2
  have e : (notNaN a b && decide (ord a = ord b)) = (ord a == ord b) := by
    unfold notNaN
    have h1 : rg a ≤ infR := by omega
    have h2 : rg b ≤ infR := by omega
    simp only [h1, h2, decide_true, Bool.true_and]
    rfl
  rw [e]; clear e
  clear n1 n2
  go_enter Tryz.func93, Tryz.ntmps93
  go_wp2_with (first | (go_at_call 124; refine (rkind_any _ _).mono ?_; rintro e w' ⟨rfl, rfl⟩) | (go_at_call 127; refine (rorder_in (by first | exact HA.out | exact HB.out) _).mono ?_; rintro e w' ⟨rfl, rfl⟩))
  go_ret; exact ⟨rfl, rfl⟩

theorem rdN_lt (m : Nat) (e : Int) (more : Bool) : rdN m e more < 9223372036854775808 := by
  unfold rdN; exact min_lt _

set_option maxHeartbeats 1000000 in
theorem rof_any (n : Int) (w : World) : Calls Tryz.prog 123 #[.int .i64 n] w fun e w' => e = .returned (.int .i64 (fOf n)) ∧ w = w' := by
  by_cases h : n < -9007199254740992 ∨ 9007199254740992 < n
  · have e : fOf n = 9221120237041090561 := by unfold fOf; rw [if_pos h]; rfl
    rw [e]; clear e
    rcases h with h | h
    · go_enter Tryz.func123, Tryz.ntmps123
      go_wp2_with (go_at_call 129; refine (rnan_any _).mono ?_; rintro e w' ⟨rfl, rfl⟩)
      go_ret; exact ⟨rfl, rfl⟩
    · have h' : ¬ n < -9007199254740992 := by omega
      go_enter Tryz.func123, Tryz.ntmps123
      go_wp2_with (go_at_call 129; refine (rnan_any _).mono ?_; rintro e w' ⟨rfl, rfl⟩)
      go_ret; exact ⟨rfl, rfl⟩
  · have h1 : ¬ n < -9007199254740992 := by omega
    have h2 : ¬ 9007199254740992 < n := by omega
    by_cases z : n = 0
    · subst z
      have e : fOf 0 = 0 := by decide +kernel
      rw [e]; clear e h h1 h2
      go_enter Tryz.func123, Tryz.ntmps123
      go_wp2_with fail
      go_ret; exact ⟨rfl, rfl⟩
    · have e : fOf n = sg (decide (n < 0)) (rdN n.natAbs 0 false) := by
        rw [ofD z]; unfold fOf; rw [if_neg h]
      have z' : (n == 0) = false := by rw [beq_eq_false_iff_ne]; exact z
      rw [e]; clear e
      by_cases g : n < 0
      · have e2 : decide (n < 0) = true := by simp [g]
        have HZ : Hid (-n = ((n.natAbs : Nat) : Int) ∧ 0 < n.natAbs ∧ n.natAbs < 4611686018427387904) := ⟨by omega, by omega, by omega⟩
        rw [e2]
        clear e2 h z
        go_enter Tryz.func123, Tryz.ntmps123
        go_wp2_with (first
          | (go_at_call 173; refine (round_at n.natAbs HZ.out.1 _ _ HZ.out.2.1 HZ.out.2.2 (by omega) (by omega) _).mono ?_; rintro e w' ⟨rfl, rfl⟩)
          | (go_at_call 130; refine (rwith_any _ _ (rdN_lt _ _ _) _).mono ?_; rintro e w' ⟨rfl, rfl⟩))
        go_ret; exact ⟨rfl, rfl⟩
      · have e2 : sg (decide (n < 0)) (rdN n.natAbs 0 false) = (rdN n.natAbs 0 false : Int) := by simp [g, sg]
        have HZ : Hid (n = ((n.natAbs : Nat) : Int) ∧ 0 < n.natAbs ∧ n.natAbs < 4611686018427387904) := ⟨by omega, by omega, by omega⟩
        rw [e2]
        clear e2 h z
        go_enter Tryz.func123, Tryz.ntmps123
        go_wp2_with (first
          | (go_at_call 173; refine (round_at n.natAbs HZ.out.1 _ _ HZ.out.2.1 HZ.out.2.2 (by omega) (by omega) _).mono ?_; rintro e w' ⟨rfl, rfl⟩)
          | (go_at_call 130; refine (rwith_any _ _ (rdN_lt _ _ _) _).mono ?_; rintro e w' ⟨rfl, rfl⟩))
        go_ret; exact ⟨rfl, rfl⟩

end Go.Proofs.YtnilempeldlieaaGreat
namespace Go.Proofs.YtnilempeldlieaaGreat
open Go.RowKit Flt

theorem part_at {a m e : Int} (h : Hid (rg a ≠ 0 ∧ (pm (rg a) : Int) = m ∧ pe (rg a) = e)) (w : World) : Calls Tryz.prog 125 #[.int .i64 a] w fun x w' => x = .returned (.tuple #[.int .i64 m, .int .i64 e]) ∧ w = w' := by
  obtain ⟨h0, hm, he⟩ := h
  subst hm he; exact part_any a h0 w

set_option maxRecDepth 10000 in
set_option maxHeartbeats 1000000 in
theorem add_bs {a b mA mB eA eB dz : Int} (HA : Hid (rg a ≠ 0 ∧ (pm (rg a) : Int) = mA ∧ pe (rg a) = eA)) (HB : Hid (rg b ≠ 0 ∧ (pm (rg b) : Int) = mB ∧ pe (rg b) = eB)) (hord : ¬ ((rg a : Int) < rg b))
    (a1 : 4503599627370496 ≤ mA) (a2 : mA < 9007199254740992) (b1 : 4503599627370496 ≤ mB) (b2 : mB < 9007199254740992) (e1 : -1126 ≤ eA) (e2 : eA ≤ 971) (e3 : -1126 ≤ eB) (e4 : eB ≤ 971) (hd : eA - eB = dz) (_d0 : 0 ≤ dz)
    (hbig : 62 < dz) (hs : (ngv a == ngv b) = true) {Q : Nat} (HZ : Hid (mA * 256 = (Q : Int) ∧ 0 < Q ∧ Q < 4611686018427387904)) (w : World) :
    Calls Tryz.prog 174 #[.int .i64 a, .int .i64 b] w fun e w' => e = .returned (.int .i64 (sg (ngv a) (rdN Q (eA - 8) true))) ∧ w = w' := by
  go_enter Tryz.func174, Tryz.ntmps174
  go_wp2_with (first
    | (go_at_call 131; refine (rplain_any _ _).mono ?_; rintro e w' ⟨rfl, rfl⟩)
    | (go_at_call 126; refine (rsign_any _ _).mono ?_; rintro e w' ⟨rfl, rfl⟩)
    | (go_at_call 125; refine (part_at (by first | exact HA | exact HB) _).mono ?_; rintro e w' ⟨rfl, rfl⟩)
    | (go_at_call 173; refine (round_at Q HZ.out.1 _ _ HZ.out.2.1 HZ.out.2.2 (by omega) (by omega) _).mono ?_; rintro e w' ⟨rfl, rfl⟩)
    | (go_at_call 130; refine (rwith_any _ _ (rdN_lt _ _ _) _).mono ?_; rintro e w' ⟨rfl, rfl⟩))
  go_ret; exact ⟨rfl, rfl⟩

set_option maxRecDepth 10000 in
set_option maxHeartbeats 1000000 in
theorem add_bd {a b mA mB eA eB dz : Int} (HA : Hid (rg a ≠ 0 ∧ (pm (rg a) : Int) = mA ∧ pe (rg a) = eA)) (HB : Hid (rg b ≠ 0 ∧ (pm (rg b) : Int) = mB ∧ pe (rg b) = eB)) (hord : ¬ ((rg a : Int) < rg b))
    (a1 : 4503599627370496 ≤ mA) (a2 : mA < 9007199254740992) (b1 : 4503599627370496 ≤ mB) (b2 : mB < 9007199254740992) (e1 : -1126 ≤ eA) (e2 : eA ≤ 971) (e3 : -1126 ≤ eB) (e4 : eB ≤ 971) (hd : eA - eB = dz) (_d0 : 0 ≤ dz)
    (hbig : 62 < dz) (hs : (ngv a == ngv b) = false) {Q : Nat} (HZ : Hid (mA * 256 - 1 = (Q : Int) ∧ 0 < Q ∧ Q < 4611686018427387904)) (w : World) :
    Calls Tryz.prog 174 #[.int .i64 a, .int .i64 b] w fun e w' => e = .returned (.int .i64 (sg (ngv a) (rdN Q (eA - 8) true))) ∧ w = w' := by
  have nz : (mA * 256 - 1 == 0) = false := by rw [beq_eq_false_iff_ne]; omega
  go_enter Tryz.func174, Tryz.ntmps174
  go_wp2_with (first
    | (go_at_call 131; refine (rplain_any _ _).mono ?_; rintro e w' ⟨rfl, rfl⟩)
    | (go_at_call 126; refine (rsign_any _ _).mono ?_; rintro e w' ⟨rfl, rfl⟩)
    | (go_at_call 125; refine (part_at (by first | exact HA | exact HB) _).mono ?_; rintro e w' ⟨rfl, rfl⟩)
    | (go_at_call 173; refine (round_at Q HZ.out.1 _ _ HZ.out.2.1 HZ.out.2.2 (by omega) (by omega) _).mono ?_; rintro e w' ⟨rfl, rfl⟩)
    | (go_at_call 130; refine (rwith_any _ _ (rdN_lt _ _ _) _).mono ?_; rintro e w' ⟨rfl, rfl⟩))
  go_ret; exact ⟨rfl, rfl⟩

set_option maxRecDepth 10000 in
set_option maxHeartbeats 1000000 in
theorem add_ss0 {a b mA mB eA eB dz : Int} (HA : Hid (rg a ≠ 0 ∧ (pm (rg a) : Int) = mA ∧ pe (rg a) = eA)) (HB : Hid (rg b ≠ 0 ∧ (pm (rg b) : Int) = mB ∧ pe (rg b) = eB)) (hord : ¬ ((rg a : Int) < rg b))
    (a1 : 4503599627370496 ≤ mA) (a2 : mA < 9007199254740992) (b1 : 4503599627370496 ≤ mB) (b2 : mB < 9007199254740992) (e1 : -1126 ≤ eA) (e2 : eA ≤ 971) (_e3 : -1126 ≤ eB) (_e4 : eB ≤ 971) (hd : eA - eB = dz) (d0 : 0 ≤ dz)
    {P x r : Int} (hd62 : dz ≤ 62) (hP : (2 : Int) ^ dz.toNat = P) (P1 : 1 ≤ P) (P2 : P ≤ 4611686018427387904) (htm : Int.tmod (mB * 256) P = r) (hdv : mB * 256 / P = x) (x0 : 0 ≤ x) (x1 : x < 2305843009213693952) (hr : r = 0) (hs : (ngv a == ngv b) = true) {Q : Nat} (HZ : Hid (mA * 256 + x = (Q : Int) ∧ 0 < Q ∧ Q < 4611686018427387904)) (w : World) :
    Calls Tryz.prog 174 #[.int .i64 a, .int .i64 b] w fun e w' => e = .returned (.int .i64 (sg (ngv a) (rdN Q (eA - 8) false))) ∧ w = w' := by
  subst hr
  have P3 : P ≠ 0 := by omega
  go_enter Tryz.func174, Tryz.ntmps174
  go_wp2_with (first
    | (go_at_call 131; refine (rplain_any _ _).mono ?_; rintro e w' ⟨rfl, rfl⟩)
    | (go_at_call 126; refine (rsign_any _ _).mono ?_; rintro e w' ⟨rfl, rfl⟩)
    | (go_at_call 125; refine (part_at (by first | exact HA | exact HB) _).mono ?_; rintro e w' ⟨rfl, rfl⟩)
    | (go_at_call 173; refine (round_at Q HZ.out.1 _ _ HZ.out.2.1 HZ.out.2.2 (by omega) (by omega) _).mono ?_; rintro e w' ⟨rfl, rfl⟩)
    | (go_at_call 130; refine (rwith_any _ _ (rdN_lt _ _ _) _).mono ?_; rintro e w' ⟨rfl, rfl⟩))
  go_ret; exact ⟨rfl, rfl⟩

set_option maxRecDepth 10000 in
set_option maxHeartbeats 1000000 in
theorem add_ss1 {a b mA mB eA eB dz : Int} (HA : Hid (rg a ≠ 0 ∧ (pm (rg a) : Int) = mA ∧ pe (rg a) = eA)) (HB : Hid (rg b ≠ 0 ∧ (pm (rg b) : Int) = mB ∧ pe (rg b) = eB)) (hord : ¬ ((rg a : Int) < rg b))
    (a1 : 4503599627370496 ≤ mA) (a2 : mA < 9007199254740992) (b1 : 4503599627370496 ≤ mB) (b2 : mB < 9007199254740992) (e1 : -1126 ≤ eA) (e2 : eA ≤ 971) (_e3 : -1126 ≤ eB) (_e4 : eB ≤ 971) (hd : eA - eB = dz) (d0 : 0 ≤ dz)
    {P x r : Int} (hd62 : dz ≤ 62) (hP : (2 : Int) ^ dz.toNat = P) (P1 : 1 ≤ P) (P2 : P ≤ 4611686018427387904) (htm : Int.tmod (mB * 256) P = r) (hdv : mB * 256 / P = x) (x0 : 0 ≤ x) (x1 : x < 2305843009213693952) (hr : (r != 0) = true) (hs : (ngv a == ngv b) = true) {Q : Nat} (HZ : Hid (mA * 256 + x = (Q : Int) ∧ 0 < Q ∧ Q < 4611686018427387904)) (w : World) :
    Calls Tryz.prog 174 #[.int .i64 a, .int .i64 b] w fun e w' => e = .returned (.int .i64 (sg (ngv a) (rdN Q (eA - 8) true))) ∧ w = w' := by
  have P3 : P ≠ 0 := by omega
  go_enter Tryz.func174, Tryz.ntmps174
  go_wp2_with (first
    | (go_at_call 131; refine (rplain_any _ _).mono ?_; rintro e w' ⟨rfl, rfl⟩)
    | (go_at_call 126; refine (rsign_any _ _).mono ?_; rintro e w' ⟨rfl, rfl⟩)
    | (go_at_call 125; refine (part_at (by first | exact HA | exact HB) _).mono ?_; rintro e w' ⟨rfl, rfl⟩)
    | (go_at_call 173; refine (round_at Q HZ.out.1 _ _ HZ.out.2.1 HZ.out.2.2 (by omega) (by omega) _).mono ?_; rintro e w' ⟨rfl, rfl⟩)
    | (go_at_call 130; refine (rwith_any _ _ (rdN_lt _ _ _) _).mono ?_; rintro e w' ⟨rfl, rfl⟩))
  go_ret; exact ⟨rfl, rfl⟩

set_option maxRecDepth 10000 in
set_option maxHeartbeats 1000000 in
theorem add_sdz {a b mA mB eA eB dz : Int} (HA : Hid (rg a ≠ 0 ∧ (pm (rg a) : Int) = mA ∧ pe (rg a) = eA)) (HB : Hid (rg b ≠ 0 ∧ (pm (rg b) : Int) = mB ∧ pe (rg b) = eB)) (hord : ¬ ((rg a : Int) < rg b))
    (a1 : 4503599627370496 ≤ mA) (a2 : mA < 9007199254740992) (b1 : 4503599627370496 ≤ mB) (b2 : mB < 9007199254740992) (_e1 : -1126 ≤ eA) (_e2 : eA ≤ 971) (_e3 : -1126 ≤ eB) (_e4 : eB ≤ 971) (hd : eA - eB = dz) (d0 : 0 ≤ dz)
    {P x r : Int} (hd62 : dz ≤ 62) (hP : (2 : Int) ^ dz.toNat = P) (P1 : 1 ≤ P) (P2 : P ≤ 4611686018427387904) (htm : Int.tmod (mB * 256) P = r) (hdv : mB * 256 / P = x) (x0 : 0 ≤ x) (x1 : x < 2305843009213693952) (hr : r = 0) (hs : (ngv a == ngv b) = false) (nz : (mA * 256 - x == 0) = true) (w : World) :
    Calls Tryz.prog 174 #[.int .i64 a, .int .i64 b] w fun e w' => e = .returned (.int .i64 (0)) ∧ w = w' := by
  subst hr
  have P3 : P ≠ 0 := by omega
  go_enter Tryz.func174, Tryz.ntmps174
  go_wp2_with (first
    | (go_at_call 131; refine (rplain_any _ _).mono ?_; rintro e w' ⟨rfl, rfl⟩)
    | (go_at_call 126; refine (rsign_any _ _).mono ?_; rintro e w' ⟨rfl, rfl⟩)
    | (go_at_call 125; refine (part_at (by first | exact HA | exact HB) _).mono ?_; rintro e w' ⟨rfl, rfl⟩)
    | (go_at_call 130; refine (rwith_any _ _ (rdN_lt _ _ _) _).mono ?_; rintro e w' ⟨rfl, rfl⟩))
  go_ret; exact ⟨rfl, rfl⟩

set_option maxRecDepth 10000 in
set_option maxHeartbeats 1000000 in
theorem add_sd0 {a b mA mB eA eB dz : Int} (HA : Hid (rg a ≠ 0 ∧ (pm (rg a) : Int) = mA ∧ pe (rg a) = eA)) (HB : Hid (rg b ≠ 0 ∧ (pm (rg b) : Int) = mB ∧ pe (rg b) = eB)) (hord : ¬ ((rg a : Int) < rg b))
    (a1 : 4503599627370496 ≤ mA) (a2 : mA < 9007199254740992) (b1 : 4503599627370496 ≤ mB) (b2 : mB < 9007199254740992) (e1 : -1126 ≤ eA) (e2 : eA ≤ 971) (_e3 : -1126 ≤ eB) (_e4 : eB ≤ 971) (hd : eA - eB = dz) (d0 : 0 ≤ dz)
    {P x r : Int} (hd62 : dz ≤ 62) (hP : (2 : Int) ^ dz.toNat = P) (P1 : 1 ≤ P) (P2 : P ≤ 4611686018427387904) (htm : Int.tmod (mB * 256) P = r) (hdv : mB * 256 / P = x) (x0 : 0 ≤ x) (x1 : x < 2305843009213693952) (hr : r = 0) (hs : (ngv a == ngv b) = false) (nz : (mA * 256 - x == 0) = false) {Q : Nat} (HZ : Hid (mA * 256 - x = (Q : Int) ∧ 0 < Q ∧ Q < 4611686018427387904)) (w : World) :
    Calls Tryz.prog 174 #[.int .i64 a, .int .i64 b] w fun e w' => e = .returned (.int .i64 (sg (ngv a) (rdN Q (eA - 8) false))) ∧ w = w' := by
  subst hr
  have P3 : P ≠ 0 := by omega
  go_enter Tryz.func174, Tryz.ntmps174
  go_wp2_with (first
    | (go_at_call 131; refine (rplain_any _ _).mono ?_; rintro e w' ⟨rfl, rfl⟩)
    | (go_at_call 126; refine (rsign_any _ _).mono ?_; rintro e w' ⟨rfl, rfl⟩)
    | (go_at_call 125; refine (part_at (by first | exact HA | exact HB) _).mono ?_; rintro e w' ⟨rfl, rfl⟩)
    | (go_at_call 173; refine (round_at Q HZ.out.1 _ _ HZ.out.2.1 HZ.out.2.2 (by omega) (by omega) _).mono ?_; rintro e w' ⟨rfl, rfl⟩)
    | (go_at_call 130; refine (rwith_any _ _ (rdN_lt _ _ _) _).mono ?_; rintro e w' ⟨rfl, rfl⟩))
  go_ret; exact ⟨rfl, rfl⟩

set_option maxRecDepth 10000 in
set_option maxHeartbeats 1000000 in
theorem add_sd1 {a b mA mB eA eB dz : Int} (HA : Hid (rg a ≠ 0 ∧ (pm (rg a) : Int) = mA ∧ pe (rg a) = eA)) (HB : Hid (rg b ≠ 0 ∧ (pm (rg b) : Int) = mB ∧ pe (rg b) = eB)) (hord : ¬ ((rg a : Int) < rg b))
    (a1 : 4503599627370496 ≤ mA) (a2 : mA < 9007199254740992) (b1 : 4503599627370496 ≤ mB) (b2 : mB < 9007199254740992) (e1 : -1126 ≤ eA) (e2 : eA ≤ 971) (_e3 : -1126 ≤ eB) (_e4 : eB ≤ 971) (hd : eA - eB = dz) (d0 : 0 ≤ dz)
    {P x r : Int} (hd62 : dz ≤ 62) (hP : (2 : Int) ^ dz.toNat = P) (P1 : 1 ≤ P) (P2 : P ≤ 4611686018427387904) (htm : Int.tmod (mB * 256) P = r) (hdv : mB * 256 / P = x) (x0 : 0 ≤ x) (x1 : x < 2305843009213693952) (hr : (r != 0) = true) (hs : (ngv a == ngv b) = false) (nz : (mA * 256 - x - 1 == 0) = false) {Q : Nat} (HZ : Hid (mA * 256 - x - 1 = (Q : Int) ∧ 0 < Q ∧ Q < 4611686018427387904)) (w : World) :
    Calls Tryz.prog 174 #[.int .i64 a, .int .i64 b] w fun e w' => e = .returned (.int .i64 (sg (ngv a) (rdN Q (eA - 8) true))) ∧ w = w' := by
  have P3 : P ≠ 0 := by omega
  go_enter Tryz.func174, Tryz.ntmps174
  go_wp2_with (first
    | (go_at_call 131; refine (rplain_any _ _).mono ?_; rintro e w' ⟨rfl, rfl⟩)
    | (go_at_call 126; refine (rsign_any _ _).mono ?_; rintro e w' ⟨rfl, rfl⟩)
    | (go_at_call 125; refine (part_at (by first | exact HA | exact HB) _).mono ?_; rintro e w' ⟨rfl, rfl⟩)
    | (go_at_call 173; refine (round_at Q HZ.out.1 _ _ HZ.out.2.1 HZ.out.2.2 (by omega) (by omega) _).mono ?_; rintro e w' ⟨rfl, rfl⟩)
    | (go_at_call 130; refine (rwith_any _ _ (rdN_lt _ _ _) _).mono ?_; rintro e w' ⟨rfl, rfl⟩))
  go_ret; exact ⟨rfl, rfl⟩


theorem quo_le {a b : Int} (fa : rg a < infR) (fb : rg b < infR) (_za : rg a ≠ 0) (zb : rg b ≠ 0) (hle : rg b ≤ rg a) {d : Nat} (hd : (pe (rg a) - pe (rg b)).toNat = d) :
    pm (rg b) * 256 / 2 ^ d ≤ pm (rg a) * 256 := by
  obtain ⟨K, hK⟩ := exK
  have va := pm_val (K := K) (r := rg a) (by omega) (by omega)
  have vb := pm_val (K := K) (r := rg b) (by omega) (by omega)
  have ea := pe_range fa
  have eb := pe_range fb
  have hmono := pe_mono (by omega) fb fa hle
  have hval : val K (rg b) ≤ val K (rg a) := by
    rcases Nat.lt_or_ge (rg b) (rg a) with g | g
    · exact Nat.le_of_lt (val_lt g)
    · have : rg b = rg a := by omega
      rw [this]; exact Nat.le_refl _
  rw [← va, ← vb] at hval
  have e : (pe (rg a) + K).toNat = d + (pe (rg b) + K).toNat := by omega
  rw [e, Nat.pow_add, ← Nat.mul_assoc] at hval
  have h := Nat.le_of_mul_le_mul_right hval (pow_pos2 _)
  refine Nat.div_le_of_le_mul ?_
  have h2 := Nat.mul_le_mul_right 256 h
  rw [Nat.mul_comm (2 ^ d), Nat.mul_right_comm]
  exact h2

theorem radd_le {a b : Int} (fa : rg a < infR) (fb : rg b < infR) (za : rg a ≠ 0) (zb : rg b ≠ 0) (hle : rg b ≤ rg a) (w : World) :
    Calls Tryz.prog 174 #[.int .i64 a, .int .i64 b] w fun e w' => e = .returned (.int .i64 (addD a b)) ∧ w = w' := by
  have ma := pm_range (r := rg a) (by omega)
  have mb := pm_range (r := rg b) (by omega)
  have ea := pe_range fa
  have eb := pe_range fb
  have hmono := pe_mono (by omega) fb fa hle
  have p52 : (2 : Nat) ^ 52 = 4503599627370496 := by decide
  have p53 : (2 : Nat) ^ 53 = 9007199254740992 := by decide
  rw [p52, p53] at ma mb
  obtain ⟨d, hd⟩ : ∃ d : Nat, pe (rg a) - pe (rg b) = (d : Int) := ⟨(pe (rg a) - pe (rg b)).toNat, by omega⟩
  have hdn : (pe (rg a) - pe (rg b)).toNat = d := by omega
  have hord : ¬ ((rg a : Int) < rg b) := by omega
  have HA : Hid (rg a ≠ 0 ∧ (pm (rg a) : Int) = (pm (rg a) : Int) ∧ pe (rg a) = pe (rg a)) := ⟨za, rfl, rfl⟩
  have HB : Hid (rg b ≠ 0 ∧ (pm (rg b) : Int) = (pm (rg b) : Int) ∧ pe (rg b) = pe (rg b)) := ⟨zb, rfl, rfl⟩
  unfold addD
  rw [hdn]
  by_cases hbig : 62 < d
  · have hp : 2 ^ 63 ≤ 2 ^ d := Nat.pow_le_pow_right (by omega) hbig
    have p63 : (2 : Nat) ^ 63 = 9223372036854775808 := by decide
    have x0 : pm (rg b) * 256 / 2 ^ d = 0 := Nat.div_eq_of_lt (by omega)
    have r0 : pm (rg b) * 256 % 2 ^ d = pm (rg b) * 256 := Nat.mod_eq_of_lt (by omega)
    have r1 : pm (rg b) * 256 ≠ 0 := by omega
    rw [x0, r0]
    by_cases hs : ngv a = ngv b
    · rw [if_pos hs, decide_eq_true r1, Nat.add_zero]
      exact add_bs HA HB hord (by omega) (by omega) (by omega) (by omega) ea.1 ea.2 eb.1 eb.2 hd (by omega) (by omega) (by rw [hs]; simp) ⟨by omega, by omega, by omega⟩ w
    · rw [if_neg hs, if_neg r1, if_neg (by omega), decide_eq_true r1, Nat.sub_zero]
      exact add_bd HA HB hord (by omega) (by omega) (by omega) (by omega) ea.1 ea.2 eb.1 eb.2 hd (by omega) (by omega) (by rw [beq_eq_false_iff_ne]; exact hs) ⟨by omega, by omega, by omega⟩ w
  · have hp : 2 ^ d ≤ 2 ^ 62 := Nat.pow_le_pow_right (by omega) (by omega)
    have p62 : (2 : Nat) ^ 62 = 4611686018427387904 := by decide
    rw [p62] at hp
    have hpp := pow_pos2 d
    have hP : (2 : Int) ^ ((d : Int).toNat) = ((2 ^ d : Nat) : Int) := cast_pow2 d
    have htm : Int.tmod ((pm (rg b) : Int) * 256) ((2 ^ d : Nat) : Int) = ((pm (rg b) * 256 % 2 ^ d : Nat) : Int) := by
      rw [Int.tmod_eq_emod_of_nonneg (by omega)]; simp
    have hdv : ((pm (rg b) : Int) * 256) / ((2 ^ d : Nat) : Int) = ((pm (rg b) * 256 / 2 ^ d : Nat) : Int) := by simp
    have hxle : pm (rg b) * 256 / 2 ^ d ≤ pm (rg b) * 256 := Nat.div_le_self _ _
    have HX : pm (rg b) * 256 / 2 ^ d ≤ pm (rg a) * 256 := quo_le fa fb za zb hle hdn
    have hmore : pm (rg b) * 256 % 2 ^ d ≠ 0 → pm (rg b) * 256 / 2 ^ d < 2 ^ 52 := by
      intro g
      have h9 := more_far g
      have h1 : pm (rg b) * 256 / 2 ^ d ≤ pm (rg b) * 256 / 2 ^ 9 := Nat.div_le_div_left (Nat.pow_le_pow_right (by omega) h9) (by omega)
      have p9 : (2 : Nat) ^ 9 = 512 := by decide
      rw [p9] at h1
      omega
    generalize pm (rg b) * 256 / 2 ^ d = x at *
    generalize pm (rg b) * 256 % 2 ^ d = r at *
    generalize 2 ^ d = P at *
    by_cases hs : ngv a = ngv b
    · rw [if_pos hs]
      by_cases hr : r = 0
      · rw [decide_eq_false (by simp [hr])]
        exact add_ss0 HA HB hord (by omega) (by omega) (by omega) (by omega) ea.1 ea.2 eb.1 eb.2 hd (by omega) (by omega) hP (by omega) (by omega) htm hdv (by omega) (by omega) (by omega) (by rw [hs]; simp) ⟨by omega, by omega, by omega⟩ w
      · rw [decide_eq_true hr]
        exact add_ss1 HA HB hord (by omega) (by omega) (by omega) (by omega) ea.1 ea.2 eb.1 eb.2 hd (by omega) (by omega) hP (by omega) (by omega) htm hdv (by omega) (by omega) (by simp; omega) (by rw [hs]; simp) ⟨by omega, by omega, by omega⟩ w
    · rw [if_neg hs]
      have hs' : (ngv a == ngv b) = false := by rw [beq_eq_false_iff_ne]; exact hs
      by_cases hr : r = 0
      · rw [if_pos hr, decide_eq_false (by simp [hr]), Nat.sub_zero]
        by_cases hq : pm (rg a) * 256 - x = 0
        · rw [if_pos hq]
          exact add_sdz HA HB hord (by omega) (by omega) (by omega) (by omega) ea.1 ea.2 eb.1 eb.2 hd (by omega) (by omega) hP (by omega) (by omega) htm hdv (by omega) (by omega) (by omega) hs' (by rw [beq_iff_eq]; omega) w
        · rw [if_neg hq]
          exact add_sd0 HA HB hord (by omega) (by omega) (by omega) (by omega) ea.1 ea.2 eb.1 eb.2 hd (by omega) (by omega) hP (by omega) (by omega) htm hdv (by omega) (by omega) (by omega) hs' (by rw [beq_eq_false_iff_ne]; omega) ⟨by omega, by omega, by omega⟩ w
      · have hx52 := hmore hr
        rw [if_neg hr, decide_eq_true hr, if_neg (by omega)]
        exact add_sd1 HA HB hord (by omega) (by omega) (by omega) (by omega) ea.1 ea.2 eb.1 eb.2 hd (by omega) (by omega) hP (by omega) (by omega) htm hdv (by omega) (by omega) (by simp; omega) hs' (by rw [beq_eq_false_iff_ne]; omega) ⟨by omega, by omega, by omega⟩ w

set_option maxHeartbeats 1000000 in
theorem radd_any {a b : Int} (ha : In64 a) (hb : In64 b) (fa : rg a < infR) (fb : rg b < infR) (za : rg a ≠ 0) (zb : rg b ≠ 0) (w : World) :
    Calls Tryz.prog 174 #[.int .i64 a, .int .i64 b] w fun e w' => e = .returned (.int .i64 (fAdd a b)) ∧ w = w' := by
  by_cases h : rg b ≤ rg a
  · rw [← addD_eq ha hb fa fb za zb h]
    exact radd_le fa fb za zb h w
  · have e : fAdd a b = addD b a := by
      rw [addD_eq hb ha fb fa zb za (by omega), fAdd_comm ha hb]
    have hc := fun w => radd_le fb fa zb za (by omega) w
    have HC := hid hc
    have hlt : (rg a : Int) < rg b := by omega
    rw [e]
    clear e hc h fa fb za zb ha hb
    go_enter Tryz.func174, Tryz.ntmps174
    go_wp2_with (first
      | (go_at_call 131; refine (rplain_any _ _).mono ?_; rintro e w' ⟨rfl, rfl⟩)
      | (go_at_call 174; refine (HC.out _).mono ?_; rintro e w' ⟨rfl, rfl⟩))
    go_ret; exact ⟨rfl, rfl⟩
end Go.Proofs.YtnilempeldlieaaGreat
namespace Go.Proofs.YtnilempeldlieaaGreat
open Go.RowKit Flt

theorem kd_one (a : Int) : kd a = 1 ↔ rg a = infR := by
  have hi : infR = 9218868437227405312 := rfl
  unfold kd
  repeat' split
  all_goals first | omega | (simp_all; done) | (simp_all; omega)
theorem kd_fin (a : Int) (h : kd a = 2 ∨ kd a = 3 ∨ kd a = 4) : rg a < infR := by
  have h0 : ¬ kd a = 0 := by omega
  have h1 : ¬ kd a = 1 := by omega
  rw [kd_zero] at h0
  rw [kd_one] at h1
  omega
theorem kd_two (a : Int) (h : kd a = 2) : rg a = 0 := by
  unfold kd at h
  repeat' split at h
  all_goals simp_all
theorem kd_more (a : Int) (h : kd a = 3 ∨ kd a = 4) : rg a ≠ 0 := by
  intro g
  have : kd a = 2 := by
    unfold kd
    rw [g]
    decide
  omega

end Go.Proofs.YtnilempeldlieaaGreat
namespace Go.Proofs.YtnilempeldlieaaGreat
open Go.RowKit Flt

theorem rwith_at {z : Int} (n : Bool) (r : Nat) (hz : z = (r : Int)) (hr : r < 9223372036854775808) (w : World) : Calls Tryz.prog 130 #[.bool n, .int .i64 z] w fun e w' => e = .returned (.int .i64 (sg n r)) ∧ w = w' := by
  subst hz; exact rwith_any n r hr w

theorem kd_two_iff (a : Int) : kd a = 2 ↔ rg a = 0 := by
  constructor
  · exact kd_two a
  · intro h; unfold kd; rw [h]; decide

theorem fAdd_zeroR {a b : Int} (ha : In64 a) (hb : In64 b) (fa : rg a < infR) (za : rg a ≠ 0) (zb : rg b = 0) : fAdd a b = a := by
  obtain ⟨K, hK⟩ := exK
  have hi : (0 : Nat) < infR := by decide
  rw [fAdd_fin ha hb fa (by omega) (K := K) (by omega)]
  have hs : sv K b = 0 := by unfold sv; rw [zb, val_zero]; cases ngv b <;> simp
  have hp : 0 < val K (rg a) := val_pos (by omega)
  rw [hs, Int.add_zero]
  have hne : sv K a ≠ 0 := by unfold sv; cases ngv a <;> simp <;> omega
  have hab : (sv K a).natAbs = val K (rg a) := by unfold sv; cases ngv a <;> simp
  have hsg : decide (sv K a < 0) = ngv a := by
    unfold sv
    cases ngv a
    · simp only [Bool.false_eq_true, if_false]; rw [decide_eq_false_iff_not]; omega
    · simp only [if_true]; rw [decide_eq_true_eq]; omega
  rw [if_neg hne, hab, hsg]
  unfold rnd
  rw [rq_val, Nat.min_eq_left (by omega), sg_rg ha]

theorem sum_nan {a b : Int} (ha : In64 a) (hb : In64 b) (h : kd a = 0 ∨ kd b = 0) : fAdd a b = theNaN := by
  obtain ⟨K, hK⟩ := exK
  rw [kd_zero, kd_zero] at h
  rw [fAdd_eq ha hb (K := K) (by omega)]
  unfold mAdd
  rw [if_pos h]
theorem sum_infs {a b : Int} (ha : In64 a) (hb : In64 b) (h1 : kd a = 1) (h2 : kd b = 1) : fAdd a b = if ngv a = ngv b then a else theNaN := by
  obtain ⟨K, hK⟩ := exK
  rw [kd_one] at h1 h2
  rw [fAdd_eq ha hb (K := K) (by omega)]
  unfold mAdd
  rw [if_neg (by omega), if_pos h1, if_pos h2]
theorem sum_infL {a b : Int} (ha : In64 a) (hb : In64 b) (h1 : kd a = 1) (h2 : kd b ≠ 0) (h3 : kd b ≠ 1) : fAdd a b = a := by
  obtain ⟨K, hK⟩ := exK
  rw [Ne, kd_zero] at h2
  rw [Ne, kd_one] at h3
  rw [kd_one] at h1
  rw [fAdd_eq ha hb (K := K) (by omega)]
  unfold mAdd
  rw [if_neg (by omega), if_pos h1, if_neg h3]
theorem sum_infR {a b : Int} (ha : In64 a) (hb : In64 b) (h1 : kd b = 1) (h2 : kd a ≠ 0) (h3 : kd a ≠ 1) : fAdd a b = b := by
  rw [fAdd_comm hb ha]; exact sum_infL hb ha h1 h2 h3
theorem sum_zeros {a b : Int} (ha : In64 a) (hb : In64 b) (h1 : kd a = 2) (h2 : kd b = 2) : fAdd a b = sg (ngv a && ngv b) 0 := by
  obtain ⟨K, hK⟩ := exK
  have hi : (0 : Nat) < infR := by decide
  rw [kd_two_iff] at h1 h2
  rw [fAdd_fin ha hb (by omega) (by omega) (K := K) (by omega)]
  have hs1 : sv K a = 0 := by unfold sv; rw [h1, val_zero]; cases ngv a <;> simp
  have hs2 : sv K b = 0 := by unfold sv; rw [h2, val_zero]; cases ngv b <;> simp
  rw [hs1, hs2, if_pos (by decide)]

set_option maxRecDepth 10000 in
set_option maxHeartbeats 4000000 in
theorem rsum_any {a b : Int} (ha : In64 a) (hb : In64 b) (w : World) :
    Calls Tryz.prog 128 #[.int .i64 a, .int .i64 b] w fun e w' => e = .returned (.int .i64 (fAdd a b)) ∧ w = w' := by
  have HA := hid ha
  have HB := hid hb
  have hN : theNaN = 9221120237041090561 := rfl
  by_cases j0 : kd a = 0
  · rw [sum_nan ha hb (.inl j0), hN]
    clear ha hb hN
    go_enter Tryz.func128, Tryz.ntmps128
    go_wp2_with (first
      | (go_at_call 124; refine (rkind_any _ _).mono ?_; rintro e w' ⟨rfl, rfl⟩)
      | (go_at_call 126; refine (rsign_any _ _).mono ?_; rintro e w' ⟨rfl, rfl⟩)
      | (go_at_call 129; refine (rnan_any _).mono ?_; rintro e w' ⟨rfl, rfl⟩)
      | (go_at_call 130; refine (rwith_at _ _ (by first | rfl | decide) (by first | exact rdN_lt _ _ _ | decide) _).mono ?_; rintro e w' ⟨rfl, rfl⟩))
    go_ret; exact ⟨rfl, rfl⟩
  by_cases k0 : kd b = 0
  · rw [sum_nan ha hb (.inr k0), hN]
    clear ha hb hN
    rcases kd_range a with j | j | j | j | j
    all_goals
      clear j0
      go_enter Tryz.func128, Tryz.ntmps128
      go_wp2_with (first
        | (go_at_call 124; refine (rkind_any _ _).mono ?_; rintro e w' ⟨rfl, rfl⟩)
        | (go_at_call 126; refine (rsign_any _ _).mono ?_; rintro e w' ⟨rfl, rfl⟩)
        | (go_at_call 129; refine (rnan_any _).mono ?_; rintro e w' ⟨rfl, rfl⟩)
        | (go_at_call 130; refine (rwith_at _ _ (by first | rfl | decide) (by first | exact rdN_lt _ _ _ | decide) _).mono ?_; rintro e w' ⟨rfl, rfl⟩))
      go_ret; exact ⟨rfl, rfl⟩
  by_cases j1 : kd a = 1
  · by_cases k1 : kd b = 1
    · rw [sum_infs ha hb j1 k1]
      by_cases hs : ngv a = ngv b
      · rw [if_pos hs]
        have hs' : (ngv a == ngv b) = true := by simp [hs]
        clear ha hb hN hs j0 k0
        go_enter Tryz.func128, Tryz.ntmps128
        go_wp2_with (first
          | (go_at_call 124; refine (rkind_any _ _).mono ?_; rintro e w' ⟨rfl, rfl⟩)
          | (go_at_call 126; refine (rsign_any _ _).mono ?_; rintro e w' ⟨rfl, rfl⟩)
          | (go_at_call 129; refine (rnan_any _).mono ?_; rintro e w' ⟨rfl, rfl⟩)
          | (go_at_call 130; refine (rwith_at _ _ (by first | rfl | decide) (by first | exact rdN_lt _ _ _ | decide) _).mono ?_; rintro e w' ⟨rfl, rfl⟩))
        go_ret; exact ⟨rfl, rfl⟩
      · rw [if_neg hs, hN]
        have hs' : (ngv a == ngv b) = false := by simp [hs]
        clear ha hb hN hs j0 k0
        go_enter Tryz.func128, Tryz.ntmps128
        go_wp2_with (first
          | (go_at_call 124; refine (rkind_any _ _).mono ?_; rintro e w' ⟨rfl, rfl⟩)
          | (go_at_call 126; refine (rsign_any _ _).mono ?_; rintro e w' ⟨rfl, rfl⟩)
          | (go_at_call 129; refine (rnan_any _).mono ?_; rintro e w' ⟨rfl, rfl⟩)
          | (go_at_call 130; refine (rwith_at _ _ (by first | rfl | decide) (by first | exact rdN_lt _ _ _ | decide) _).mono ?_; rintro e w' ⟨rfl, rfl⟩))
        go_ret; exact ⟨rfl, rfl⟩
    · rw [sum_infL ha hb j1 k0 k1]
      rcases kd_range b with k | k | k | k | k
      · exact absurd k k0
      · exact absurd k k1
      all_goals
        clear ha hb hN j0 k0 k1
        go_enter Tryz.func128, Tryz.ntmps128
        go_wp2_with (first
          | (go_at_call 124; refine (rkind_any _ _).mono ?_; rintro e w' ⟨rfl, rfl⟩)
          | (go_at_call 126; refine (rsign_any _ _).mono ?_; rintro e w' ⟨rfl, rfl⟩)
          | (go_at_call 129; refine (rnan_any _).mono ?_; rintro e w' ⟨rfl, rfl⟩)
          | (go_at_call 130; refine (rwith_at _ _ (by first | rfl | decide) (by first | exact rdN_lt _ _ _ | decide) _).mono ?_; rintro e w' ⟨rfl, rfl⟩))
        go_ret; exact ⟨rfl, rfl⟩
  by_cases k1 : kd b = 1
  · rw [sum_infR ha hb k1 j0 j1]
    rcases kd_range a with j | j | j | j | j
    · exact absurd j j0
    · exact absurd j j1
    all_goals
      clear ha hb hN j0 k0 j1
      go_enter Tryz.func128, Tryz.ntmps128
      go_wp2_with (first
        | (go_at_call 124; refine (rkind_any _ _).mono ?_; rintro e w' ⟨rfl, rfl⟩)
        | (go_at_call 126; refine (rsign_any _ _).mono ?_; rintro e w' ⟨rfl, rfl⟩)
        | (go_at_call 129; refine (rnan_any _).mono ?_; rintro e w' ⟨rfl, rfl⟩)
        | (go_at_call 130; refine (rwith_at _ _ (by first | rfl | decide) (by first | exact rdN_lt _ _ _ | decide) _).mono ?_; rintro e w' ⟨rfl, rfl⟩))
      go_ret; exact ⟨rfl, rfl⟩
  rcases kd_range a with j | j | j | j | j
  · exact absurd j j0
  · exact absurd j j1
  · rcases kd_range b with k | k | k | k | k
    · exact absurd k k0
    · exact absurd k k1
    · rw [sum_zeros ha hb j k]
      clear ha hb hN j0 k0 j1 k1
      cases hs : ngv a
      all_goals
        go_enter Tryz.func128, Tryz.ntmps128
        go_wp2_with (first
          | (go_at_call 124; refine (rkind_any _ _).mono ?_; rintro e w' ⟨rfl, rfl⟩)
          | (go_at_call 126; refine (rsign_any _ _).mono ?_; rintro e w' ⟨rfl, rfl⟩)
          | (go_at_call 129; refine (rnan_any _).mono ?_; rintro e w' ⟨rfl, rfl⟩)
          | (go_at_call 130; refine (rwith_at _ _ (by first | rfl | decide) (by first | exact rdN_lt _ _ _ | decide) _).mono ?_; rintro e w' ⟨rfl, rfl⟩))
        go_ret; exact ⟨rfl, rfl⟩
    all_goals
      have e : fAdd a b = b := by
        rw [fAdd_comm hb ha]
        exact fAdd_zeroR hb ha (kd_fin b (by omega)) (kd_more b (by omega)) ((kd_two_iff a).1 j)
      rw [e]
      clear ha hb hN j0 k0 j1 k1 e
      go_enter Tryz.func128, Tryz.ntmps128
      go_wp2_with (first
        | (go_at_call 124; refine (rkind_any _ _).mono ?_; rintro e w' ⟨rfl, rfl⟩)
        | (go_at_call 126; refine (rsign_any _ _).mono ?_; rintro e w' ⟨rfl, rfl⟩)
        | (go_at_call 129; refine (rnan_any _).mono ?_; rintro e w' ⟨rfl, rfl⟩)
        | (go_at_call 130; refine (rwith_at _ _ (by first | rfl | decide) (by first | exact rdN_lt _ _ _ | decide) _).mono ?_; rintro e w' ⟨rfl, rfl⟩))
      go_ret; exact ⟨rfl, rfl⟩
  all_goals
    rcases kd_range b with k | k | k | k | k
    · exact absurd k k0
    · exact absurd k k1
    · have e : fAdd a b = a := fAdd_zeroR ha hb (kd_fin a (by omega)) (kd_more a (by omega)) ((kd_two_iff b).1 k)
      rw [e]
      clear ha hb hN j0 k0 j1 k1 e
      go_enter Tryz.func128, Tryz.ntmps128
      go_wp2_with (first
        | (go_at_call 124; refine (rkind_any _ _).mono ?_; rintro e w' ⟨rfl, rfl⟩)
        | (go_at_call 126; refine (rsign_any _ _).mono ?_; rintro e w' ⟨rfl, rfl⟩)
        | (go_at_call 129; refine (rnan_any _).mono ?_; rintro e w' ⟨rfl, rfl⟩)
        | (go_at_call 130; refine (rwith_at _ _ (by first | rfl | decide) (by first | exact rdN_lt _ _ _ | decide) _).mono ?_; rintro e w' ⟨rfl, rfl⟩))
      go_ret; exact ⟨rfl, rfl⟩
    all_goals
      have HF : Hid (rg a < infR ∧ rg b < infR ∧ rg a ≠ 0 ∧ rg b ≠ 0) := ⟨kd_fin a (by omega), kd_fin b (by omega), kd_more a (by omega), kd_more b (by omega)⟩
      clear ha hb hN j0 k0 j1 k1
      go_enter Tryz.func128, Tryz.ntmps128
      go_wp2_with (first
        | (go_at_call 124; refine (rkind_any _ _).mono ?_; rintro e w' ⟨rfl, rfl⟩)
        | (go_at_call 126; refine (rsign_any _ _).mono ?_; rintro e w' ⟨rfl, rfl⟩)
        | (go_at_call 129; refine (rnan_any _).mono ?_; rintro e w' ⟨rfl, rfl⟩)
        | (go_at_call 130; refine (rwith_at _ _ (by first | rfl | decide) (by first | exact rdN_lt _ _ _ | decide) _).mono ?_; rintro e w' ⟨rfl, rfl⟩)
        | (go_at_call 174; refine (radd_any HA.out HB.out HF.out.1 HF.out.2.1 HF.out.2.2.1 HF.out.2.2.2 _).mono ?_; rintro e w' ⟨rfl, rfl⟩))
      go_ret; exact ⟨rfl, rfl⟩

end Go.Proofs.YtnilempeldlieaaGreat
namespace Go.Proofs.YtnilempeldlieaaGreat
open Flt
namespace Flt

theorem kd2 (a : Int) : kd a = 2 ↔ rg a = 0 := by
  constructor
  · exact kd_two a
  · intro h; unfold kd; rw [h]; decide

theorem mul_nan {a b : Int} (ha : In64 a) (hb : In64 b) (h : kd a = 0 ∨ kd b = 0 ∨ kd a = 1 ∧ kd b = 2 ∨ kd a = 2 ∧ kd b = 1) : fMul a b = theNaN := by
  obtain ⟨K, hK⟩ := exK
  rw [fMul_eq ha hb (K := K) (by omega)]
  unfold mMul
  rw [kd_zero, kd_zero, kd_one, kd_one, kd2, kd2] at h
  by_cases n : infR < rg a ∨ infR < rg b
  · rw [if_pos n]
  · rw [if_neg n, if_pos (by omega), if_pos (by omega)]
theorem mul_inf {a b : Int} (ha : In64 a) (hb : In64 b) (h0 : ¬ (kd a = 0 ∨ kd b = 0 ∨ kd a = 1 ∧ kd b = 2 ∨ kd a = 2 ∧ kd b = 1)) (h : kd a = 1 ∨ kd b = 1) : fMul a b = sg (ngv a ^^ ngv b) infR := by
  obtain ⟨K, hK⟩ := exK
  rw [fMul_eq ha hb (K := K) (by omega)]
  unfold mMul
  have hi : infR ≠ 0 := by decide
  rw [kd_zero, kd_zero, kd_one, kd_one, kd2, kd2] at h0
  rw [kd_one, kd_one] at h
  rw [if_neg (by omega), if_pos h, if_neg (by omega)]
theorem mul_zero {a b : Int} (ha : In64 a) (hb : In64 b) (h0 : ¬ (kd a = 0 ∨ kd b = 0)) (h1 : ¬ (kd a = 1 ∨ kd b = 1)) (h : kd a = 2 ∨ kd b = 2) : fMul a b = sg (ngv a ^^ ngv b) 0 := by
  obtain ⟨K, hK⟩ := exK
  rw [fMul_eq ha hb (K := K) (by omega)]
  unfold mMul
  rw [kd_zero, kd_zero] at h0
  rw [kd_one, kd_one] at h1
  rw [kd2, kd2] at h
  rw [if_neg h0, if_neg h1]
  have hz : val K (rg a) * val K (rg b) = 0 := by
    rcases h with g | g <;> rw [g, val_zero] <;> simp
  unfold rnd
  rw [hz, rq_zero]
  rfl

theorem div_nan {a b : Int} (ha : In64 a) (hb : In64 b) (h : kd a = 0 ∨ kd b = 0 ∨ kd a = 1 ∧ kd b = 1 ∨ kd a = 2 ∧ kd b = 2) : fDiv a b = theNaN := by
  obtain ⟨K, hK⟩ := exK
  have hi : infR ≠ 0 := by decide
  rw [fDiv_eq ha hb (K := K) (by omega)]
  unfold mDiv
  rw [kd_zero, kd_zero, kd_one, kd_one, kd2, kd2] at h
  by_cases n : infR < rg a ∨ infR < rg b
  · rw [if_pos n]
  · rw [if_neg n]
    by_cases i : rg a = infR
    · rw [if_pos i, if_pos (by omega)]
    · rw [if_neg i, if_neg (by omega), if_pos (by omega), if_pos (by omega)]
theorem div_inf {a b : Int} (ha : In64 a) (hb : In64 b) (h0 : ¬ (kd a = 0 ∨ kd b = 0 ∨ kd a = 1 ∧ kd b = 1 ∨ kd a = 2 ∧ kd b = 2)) (h : kd a = 1 ∨ kd b = 2) : fDiv a b = sg (ngv a ^^ ngv b) infR := by
  obtain ⟨K, hK⟩ := exK
  have hi : infR ≠ 0 := by decide
  rw [fDiv_eq ha hb (K := K) (by omega)]
  unfold mDiv
  rw [kd_zero, kd_zero, kd_one, kd_one, kd2, kd2] at h0
  rw [kd_one, kd2] at h
  rw [if_neg (by omega)]
  by_cases i : rg a = infR
  · rw [if_pos i, if_neg (by omega)]
  · rw [if_neg i, if_neg (by omega), if_pos (by omega), if_neg (by omega)]
theorem div_zero {a b : Int} (ha : In64 a) (hb : In64 b) (h0 : ¬ (kd a = 0 ∨ kd b = 0 ∨ kd a = 1 ∧ kd b = 1 ∨ kd a = 2 ∧ kd b = 2)) (h1 : ¬ (kd a = 1 ∨ kd b = 2)) (h : kd a = 2 ∨ kd b = 1) : fDiv a b = sg (ngv a ^^ ngv b) 0 := by
  obtain ⟨K, hK⟩ := exK
  have hi : infR ≠ 0 := by decide
  rw [fDiv_eq ha hb (K := K) (by omega)]
  unfold mDiv
  rw [kd_zero, kd_zero, kd_one, kd_one, kd2, kd2] at h0
  rw [kd_one, kd2] at h1
  rw [kd2, kd_one] at h
  rw [if_neg (by omega), if_neg (by omega)]
  by_cases i : rg b = infR
  · rw [if_pos i]
  · have z : rg a = 0 := by omega
    rw [if_neg i, if_neg (by omega), z, val_zero]
    unfold rnd
    rw [Nat.zero_mul, rq_zero]
    rfl

theorem halves (m n : Nat) : ∃ m0 m1 n0 n1 L l0 l1 X1 X2 Y y0 y1 H : Nat,
    m % 134217728 = m0 ∧ m / 134217728 = m1 ∧ n % 134217728 = n0 ∧ n / 134217728 = n1 ∧ m0 * n0 = L ∧ L % 134217728 = l0 ∧ L / 134217728 = l1 ∧ m1 * n0 = X1 ∧ m0 * n1 = X2 ∧ X1 + X2 + l1 = Y ∧ Y % 134217728 = y0 ∧ Y / 134217728 = y1 ∧ m1 * n1 = H ∧
    m * n / 70368744177664 = (H + y1) * 256 + y0 / 524288 ∧ (m * n % 70368744177664 = 0 ↔ Y % 524288 = 0 ∧ l0 = 0) := by
  refine ⟨_, _, _, _, _, _, _, _, _, _, _, _, _, rfl, rfl, rfl, rfl, rfl, rfl, rfl, rfl, rfl, rfl, rfl, rfl, rfl, ?_⟩
  have hm : m = 134217728 * (m / 134217728) + m % 134217728 := (Nat.div_add_mod _ _).symm
  have hn : n = 134217728 * (n / 134217728) + n % 134217728 := (Nat.div_add_mod _ _).symm
  have hP : m * n = m / 134217728 * (n / 134217728) * 18014398509481984 + (m / 134217728 * (n % 134217728) + m % 134217728 * (n / 134217728)) * 134217728 + m % 134217728 * (n % 134217728) := by
    have e1 : m * n = (134217728 * (m / 134217728) + m % 134217728) * (134217728 * (n / 134217728) + n % 134217728) := by rw [← hm, ← hn]
    rw [e1]
    generalize m / 134217728 = m1
    generalize n / 134217728 = n1
    generalize m % 134217728 = m0
    generalize n % 134217728 = n0
    rw [Nat.add_mul, Nat.mul_add, Nat.mul_add, Nat.add_mul]
    have a1 : 134217728 * m1 * (134217728 * n1) = m1 * n1 * 18014398509481984 := by
      rw [Nat.mul_mul_mul_comm, Nat.mul_comm]
    have a2 : 134217728 * m1 * n0 = m1 * n0 * 134217728 := by rw [Nat.mul_assoc, Nat.mul_comm]
    have a3 : m0 * (134217728 * n1) = m0 * n1 * 134217728 := by rw [Nat.mul_left_comm, Nat.mul_comm]
    rw [a1, a2, a3]
    omega
  rw [hP]
  generalize m / 134217728 * (n / 134217728) = H
  generalize m / 134217728 * (n % 134217728) = X1
  generalize m % 134217728 * (n / 134217728) = X2
  generalize m % 134217728 * (n % 134217728) = L
  omega

end Flt
end Go.Proofs.YtnilempeldlieaaGreat
namespace Go.Proofs.YtnilempeldlieaaGreat
open Go.RowKit Flt

theorem tmod_nat (x y : Nat) : Int.tmod (x : Int) (y : Int) = ((x % y : Nat) : Int) := by
  rw [Int.tmod_eq_emod_of_nonneg (Int.natCast_nonneg _)]; simp
theorem tdiv_nat (x y : Nat) : Int.tdiv (x : Int) (y : Int) = ((x / y : Nat) : Int) := by
  rw [Int.tdiv_eq_ediv_of_nonneg (Int.natCast_nonneg _)]; simp

theorem On.drewN {B : Nat} {w0 w : World} (h : On B w0 w) (n : Nat) : On B w0 (w.drewN n) :=
  h.go (below_drewN (Below.refl _ _) n)

set_option maxRecDepth 10000 in
set_option maxHeartbeats 4000000 in
theorem mul_walk {a b m n eA eB m0 m1 n0 n1 L l0 l1 X1 X2 Y y0 y1 H r19 : Int} {Q : Nat} (more : Bool) (HA : Hid (rg a ≠ 0 ∧ (pm (rg a) : Int) = m ∧ pe (rg a) = eA)) (HB : Hid (rg b ≠ 0 ∧ (pm (rg b) : Int) = n ∧ pe (rg b) = eB))
    (e1 : -1126 ≤ eA) (e2 : eA ≤ 971) (e3 : -1126 ≤ eB) (e4 : eB ≤ 971) {j k : Int} (ka : kd a = j) (kb : kd b = k) (j0 : (j == 0) = false) (j1 : (j == 1) = false) (j2 : (j == 2) = false) (k0 : (k == 0) = false) (k1 : (k == 1) = false) (k2 : (k == 2) = false)
    (s1 : Int.tmod m 134217728 = m0) (s2 : Int.tdiv m 134217728 = m1) (s3 : Int.tmod n 134217728 = n0) (s4 : Int.tdiv n 134217728 = n1)
    (s5 : m0 * n0 = L) (s6 : Int.tmod L 134217728 = l0) (s7 : Int.tdiv L 134217728 = l1) (s8 : m1 * n0 = X1) (s9 : m0 * n1 = X2) (s10 : X1 + X2 + l1 = Y)
    (s11 : Int.tmod Y 134217728 = y0) (s12 : Int.tdiv Y 134217728 = y1) (s13 : m1 * n1 = H) (s14 : Int.tmod Y 524288 = r19)
    (z1 : 0 ≤ L) (z1' : L ≤ 18014398241046529) (z2 : 0 ≤ X1) (z2' : X1 ≤ 9007199187632128) (z3 : 0 ≤ X2) (z3' : X2 ≤ 9007199187632128) (z4 : 0 ≤ H) (z4' : H ≤ 4503599627370496)
    (z5 : 0 ≤ Y) (z5' : Y ≤ 18014398643699713) (z6 : 0 ≤ y1) (z6' : y1 ≤ 134217729) (z7 : 0 ≤ y0) (z7' : y0 < 134217728) (z8 : 0 ≤ l1) (z8' : l1 < 134217728) (z9 : 0 ≤ m1) (z9' : m1 ≤ 67108864) (z10 : 0 ≤ n1) (z10' : n1 ≤ 67108864)
    (HZ : Hid ((H + y1) * 256 + y0 / 524288 = (Q : Int) ∧ 0 < Q ∧ Q < 4611686018427387904))
    (hm : (r19 = 0 ∧ l0 = 0 ∧ more = false) ∨ (r19 = 0 ∧ (l0 != 0) = true ∧ more = true) ∨ ((r19 != 0) = true ∧ more = true)) {B : Nat} {w0 w : World} (h : On B w0 w) :
    Calls Tryz.prog 132 #[.int .i64 a, .int .i64 b] w fun e w' => e = .returned (.int .i64 (sg (ngv a != ngv b) (rdN Q (eA + eB + 46) more))) ∧ On B w0 w' := by
  rcases hm with ⟨g1, g2, g3⟩ | ⟨g1, g2, g3⟩ | ⟨g1, g3⟩
  · subst g1 g2 g3
    go_enter Tryz.func132, Tryz.ntmps132
    go_wp2_with (first
      | (go_at_call 124; refine (rkind_any _ _).mono ?_; rintro e w' ⟨rfl, rfl⟩)
      | (go_at_call 126; refine (rsign_any _ _).mono ?_; rintro e w' ⟨rfl, rfl⟩)
      | (go_at_call 129; refine (rnan_any _).mono ?_; rintro e w' ⟨rfl, rfl⟩)
      | (go_at_call 130; refine (rwith_at _ _ (by first | rfl | decide) (by first | exact rdN_lt _ _ _ | decide) _).mono ?_; rintro e w' ⟨rfl, rfl⟩)
      | (go_at_call 125; refine (part_at (by first | exact HA | exact HB) _).mono ?_; rintro e w' ⟨rfl, rfl⟩)
      | (go_at_call 173; refine (round_at Q HZ.out.1 _ _ HZ.out.2.1 HZ.out.2.2 (by omega) (by omega) _).mono ?_; rintro e w' ⟨rfl, rfl⟩))
    go_quiet (fail)
    go_wp2_with fail
    go_quiet (fail)
    go_wp2_with fail
    go_quiet (fail)
    go_wp2_with (first
      | (go_at_call 124; refine (rkind_any _ _).mono ?_; rintro e w' ⟨rfl, rfl⟩)
      | (go_at_call 126; refine (rsign_any _ _).mono ?_; rintro e w' ⟨rfl, rfl⟩)
      | (go_at_call 129; refine (rnan_any _).mono ?_; rintro e w' ⟨rfl, rfl⟩)
      | (go_at_call 130; refine (rwith_at _ _ (by first | rfl | decide) (by first | exact rdN_lt _ _ _ | decide) _).mono ?_; rintro e w' ⟨rfl, rfl⟩)
      | (go_at_call 125; refine (part_at (by first | exact HA | exact HB) _).mono ?_; rintro e w' ⟨rfl, rfl⟩)
      | (go_at_call 173; refine (round_at Q HZ.out.1 _ _ HZ.out.2.1 HZ.out.2.2 (by omega) (by omega) _).mono ?_; rintro e w' ⟨rfl, rfl⟩))
    go_ret; exact ⟨rfl, h.drewN _⟩
  · subst g1 g3
    go_enter Tryz.func132, Tryz.ntmps132
    go_wp2_with (first
      | (go_at_call 124; refine (rkind_any _ _).mono ?_; rintro e w' ⟨rfl, rfl⟩)
      | (go_at_call 126; refine (rsign_any _ _).mono ?_; rintro e w' ⟨rfl, rfl⟩)
      | (go_at_call 129; refine (rnan_any _).mono ?_; rintro e w' ⟨rfl, rfl⟩)
      | (go_at_call 130; refine (rwith_at _ _ (by first | rfl | decide) (by first | exact rdN_lt _ _ _ | decide) _).mono ?_; rintro e w' ⟨rfl, rfl⟩)
      | (go_at_call 125; refine (part_at (by first | exact HA | exact HB) _).mono ?_; rintro e w' ⟨rfl, rfl⟩)
      | (go_at_call 173; refine (round_at Q HZ.out.1 _ _ HZ.out.2.1 HZ.out.2.2 (by omega) (by omega) _).mono ?_; rintro e w' ⟨rfl, rfl⟩))
    go_quiet (fail)
    go_wp2_with fail
    go_quiet (fail)
    go_wp2_with fail
    go_quiet (fail)
    go_wp2_with (first
      | (go_at_call 124; refine (rkind_any _ _).mono ?_; rintro e w' ⟨rfl, rfl⟩)
      | (go_at_call 126; refine (rsign_any _ _).mono ?_; rintro e w' ⟨rfl, rfl⟩)
      | (go_at_call 129; refine (rnan_any _).mono ?_; rintro e w' ⟨rfl, rfl⟩)
      | (go_at_call 130; refine (rwith_at _ _ (by first | rfl | decide) (by first | exact rdN_lt _ _ _ | decide) _).mono ?_; rintro e w' ⟨rfl, rfl⟩)
      | (go_at_call 125; refine (part_at (by first | exact HA | exact HB) _).mono ?_; rintro e w' ⟨rfl, rfl⟩)
      | (go_at_call 173; refine (round_at Q HZ.out.1 _ _ HZ.out.2.1 HZ.out.2.2 (by omega) (by omega) _).mono ?_; rintro e w' ⟨rfl, rfl⟩))
    go_ret; exact ⟨rfl, h.drewN _⟩
  · subst g3
    go_enter Tryz.func132, Tryz.ntmps132
    go_wp2_with (first
      | (go_at_call 124; refine (rkind_any _ _).mono ?_; rintro e w' ⟨rfl, rfl⟩)
      | (go_at_call 126; refine (rsign_any _ _).mono ?_; rintro e w' ⟨rfl, rfl⟩)
      | (go_at_call 129; refine (rnan_any _).mono ?_; rintro e w' ⟨rfl, rfl⟩)
      | (go_at_call 130; refine (rwith_at _ _ (by first | rfl | decide) (by first | exact rdN_lt _ _ _ | decide) _).mono ?_; rintro e w' ⟨rfl, rfl⟩)
      | (go_at_call 125; refine (part_at (by first | exact HA | exact HB) _).mono ?_; rintro e w' ⟨rfl, rfl⟩)
      | (go_at_call 173; refine (round_at Q HZ.out.1 _ _ HZ.out.2.1 HZ.out.2.2 (by omega) (by omega) _).mono ?_; rintro e w' ⟨rfl, rfl⟩))
    go_quiet (fail)
    go_wp2_with fail
    go_quiet (fail)
    go_wp2_with fail
    go_quiet (fail)
    go_wp2_with (first
      | (go_at_call 124; refine (rkind_any _ _).mono ?_; rintro e w' ⟨rfl, rfl⟩)
      | (go_at_call 126; refine (rsign_any _ _).mono ?_; rintro e w' ⟨rfl, rfl⟩)
      | (go_at_call 129; refine (rnan_any _).mono ?_; rintro e w' ⟨rfl, rfl⟩)
      | (go_at_call 130; refine (rwith_at _ _ (by first | rfl | decide) (by first | exact rdN_lt _ _ _ | decide) _).mono ?_; rintro e w' ⟨rfl, rfl⟩)
      | (go_at_call 125; refine (part_at (by first | exact HA | exact HB) _).mono ?_; rintro e w' ⟨rfl, rfl⟩)
      | (go_at_call 173; refine (round_at Q HZ.out.1 _ _ HZ.out.2.1 HZ.out.2.2 (by omega) (by omega) _).mono ?_; rintro e w' ⟨rfl, rfl⟩))
    go_ret; exact ⟨rfl, h.drewN _⟩

theorem rmul_main {a b : Int} (fa : rg a < infR) (fb : rg b < infR) (ka : kd a = 3 ∨ kd a = 4) (kb : kd b = 3 ∨ kd b = 4) {B : Nat} {w0 w : World} (h : On B w0 w) :
    Calls Tryz.prog 132 #[.int .i64 a, .int .i64 b] w fun e w' => e = .returned (.int .i64 (mulD a b)) ∧ On B w0 w' := by
  have za : rg a ≠ 0 := kd_more a ka
  have zb : rg b ≠ 0 := kd_more b kb
  have ma := pm_range (r := rg a) (by omega)
  have mb := pm_range (r := rg b) (by omega)
  have ea := pe_range fa
  have eb := pe_range fb
  have p52 : (2 : Nat) ^ 52 = 4503599627370496 := by decide
  have p53 : (2 : Nat) ^ 53 = 9007199254740992 := by decide
  have p46 : (2 : Nat) ^ 46 = 70368744177664 := by decide
  rw [p52, p53] at ma mb
  unfold mulD
  rw [p46]
  obtain ⟨m0, m1, n0, n1, L, l0, l1, X1, X2, Y, y0, y1, H, d1, d2, d3, d4, d5, d6, d7, d8, d9, d10, d11, d12, d13, hq, hr⟩ := halves (pm (rg a)) (pm (rg b))
  have hP : 4503599627370496 * 4503599627370496 ≤ pm (rg a) * pm (rg b) := Nat.mul_le_mul ma.1 mb.1
  have hP2 : pm (rg a) * pm (rg b) ≤ 9007199254740991 * 9007199254740991 := Nat.mul_le_mul (by omega) (by omega)
  have b1 : L ≤ 134217727 * 134217727 := by rw [← d5]; exact Nat.mul_le_mul (by omega) (by omega)
  have b2 : X1 ≤ 67108864 * 134217727 := by rw [← d8]; exact Nat.mul_le_mul (by omega) (by omega)
  have b3 : X2 ≤ 134217727 * 67108864 := by rw [← d9]; exact Nat.mul_le_mul (by omega) (by omega)
  have b4 : H ≤ 67108864 * 67108864 := by rw [← d13]; exact Nat.mul_le_mul (by omega) (by omega)
  have s1 : Int.tmod (pm (rg a) : Int) 134217728 = (m0 : Int) := by rw [← d1]; exact tmod_nat _ 134217728
  have s2 : Int.tdiv (pm (rg a) : Int) 134217728 = (m1 : Int) := by rw [← d2]; exact tdiv_nat _ 134217728
  have s3 : Int.tmod (pm (rg b) : Int) 134217728 = (n0 : Int) := by rw [← d3]; exact tmod_nat _ 134217728
  have s4 : Int.tdiv (pm (rg b) : Int) 134217728 = (n1 : Int) := by rw [← d4]; exact tdiv_nat _ 134217728
  have s5 : (m0 : Int) * n0 = (L : Int) := by rw [← d5]; simp
  have s6 : Int.tmod (L : Int) 134217728 = (l0 : Int) := by rw [← d6]; exact tmod_nat _ 134217728
  have s7 : Int.tdiv (L : Int) 134217728 = (l1 : Int) := by rw [← d7]; exact tdiv_nat _ 134217728
  have s8 : (m1 : Int) * n0 = (X1 : Int) := by rw [← d8]; simp
  have s9 : (m0 : Int) * n1 = (X2 : Int) := by rw [← d9]; simp
  have s10 : (X1 : Int) + X2 + l1 = (Y : Int) := by omega
  have s11 : Int.tmod (Y : Int) 134217728 = (y0 : Int) := by rw [← d11]; exact tmod_nat _ 134217728
  have s12 : Int.tdiv (Y : Int) 134217728 = (y1 : Int) := by rw [← d12]; exact tdiv_nat _ 134217728
  have s13 : (m1 : Int) * n1 = (H : Int) := by rw [← d13]; simp
  obtain ⟨r19, hr19⟩ : ∃ r : Nat, Y % 524288 = r := ⟨_, rfl⟩
  have s14 : Int.tmod (Y : Int) 524288 = (r19 : Int) := by rw [← hr19]; exact tmod_nat _ 524288
  rw [hr19] at hr
  have hx : (ngv a ^^ ngv b) = (ngv a != ngv b) := by cases ngv a <;> cases ngv b <;> rfl
  rw [hx]
  have hQ1 : 0 < pm (rg a) * pm (rg b) / 70368744177664 := by
    generalize pm (rg a) * pm (rg b) = x at *
    omega
  have hQ2 : pm (rg a) * pm (rg b) / 70368744177664 < 4611686018427387904 := by
    generalize pm (rg a) * pm (rg b) = x at *
    omega
  have hmore : ((r19 : Int) = 0 ∧ (l0 : Int) = 0 ∧ decide (pm (rg a) * pm (rg b) % 70368744177664 ≠ 0) = false) ∨ ((r19 : Int) = 0 ∧ ((l0 : Int) != 0) = true ∧ decide (pm (rg a) * pm (rg b) % 70368744177664 ≠ 0) = true) ∨ (((r19 : Int) != 0) = true ∧ decide (pm (rg a) * pm (rg b) % 70368744177664 ≠ 0) = true) := by
    by_cases g1 : r19 = 0
    · by_cases g2 : l0 = 0
      · exact .inl ⟨by omega, by omega, by simp [hr.2 ⟨g1, g2⟩]⟩
      · exact .inr (.inl ⟨by omega, by simp; omega, decide_eq_true (fun k => g2 (hr.1 k).2)⟩)
    · exact .inr (.inr ⟨by simp; omega, decide_eq_true (fun k => g1 (hr.1 k).1)⟩)
  clear hP hP2
  generalize decide (pm (rg a) * pm (rg b) % 70368744177664 ≠ 0) = more at *
  generalize pm (rg a) * pm (rg b) / 70368744177664 = Q at *
  exact mul_walk more ⟨za, rfl, rfl⟩ ⟨zb, rfl, rfl⟩ ea.1 ea.2 eb.1 eb.2 rfl rfl (by rw [beq_eq_false_iff_ne]; omega) (by rw [beq_eq_false_iff_ne]; omega) (by rw [beq_eq_false_iff_ne]; omega) (by rw [beq_eq_false_iff_ne]; omega) (by rw [beq_eq_false_iff_ne]; omega) (by rw [beq_eq_false_iff_ne]; omega) s1 s2 s3 s4 s5 s6 s7 s8 s9 s10 s11 s12 s13 s14 (by omega) (by omega) (by omega) (by omega) (by omega) (by omega) (by omega) (by omega)
    (by omega) (by omega) (by omega) (by omega) (by omega) (by omega) (by omega) (by omega) (by omega) (by omega) (by omega) (by omega) ⟨by omega, hQ1, hQ2⟩ hmore h


set_option maxRecDepth 10000 in
set_option maxHeartbeats 4000000 in
theorem rmul_any {a b : Int} (ha : In64 a) (hb : In64 b) {B : Nat} {w0 w : World} (h : On B w0 w) :
    Calls Tryz.prog 132 #[.int .i64 a, .int .i64 b] w fun e w' => e = .returned (.int .i64 (fMul a b)) ∧ On B w0 w' := by
  have hN : theNaN = 9221120237041090561 := rfl
  have hx : (ngv a ^^ ngv b) = (!(ngv a == ngv b)) := by cases ngv a <;> cases ngv b <;> rfl
  rcases kd_range a with j | j | j | j | j <;> rcases kd_range b with k | k | k | k | k
  all_goals first
    | (have e := mul_nan ha hb (by omega); rw [e, hN]; clear e ha hb hN hx
       go_enter Tryz.func132, Tryz.ntmps132
       go_wp2_with (first
         | (go_at_call 124; refine (rkind_any _ _).mono ?_; rintro e w' ⟨rfl, rfl⟩)
         | (go_at_call 126; refine (rsign_any _ _).mono ?_; rintro e w' ⟨rfl, rfl⟩)
         | (go_at_call 129; refine (rnan_any _).mono ?_; rintro e w' ⟨rfl, rfl⟩)
         | (go_at_call 130; refine (rwith_at _ _ (by first | rfl | decide) (by first | exact rdN_lt _ _ _ | decide) _).mono ?_; rintro e w' ⟨rfl, rfl⟩))
       go_ret; exact ⟨rfl, by assumption⟩)
    | (have e := mul_inf ha hb (by omega) (by omega); rw [e, hx]; clear e ha hb hN hx
       go_enter Tryz.func132, Tryz.ntmps132
       go_wp2_with (first
         | (go_at_call 124; refine (rkind_any _ _).mono ?_; rintro e w' ⟨rfl, rfl⟩)
         | (go_at_call 126; refine (rsign_any _ _).mono ?_; rintro e w' ⟨rfl, rfl⟩)
         | (go_at_call 129; refine (rnan_any _).mono ?_; rintro e w' ⟨rfl, rfl⟩)
         | (go_at_call 130; refine (rwith_at _ _ (by first | rfl | decide) (by first | exact rdN_lt _ _ _ | decide) _).mono ?_; rintro e w' ⟨rfl, rfl⟩))
       go_ret; exact ⟨rfl, by assumption⟩)
    | (have e := mul_zero ha hb (by omega) (by omega) (by omega); rw [e, hx]; clear e ha hb hN hx
       go_enter Tryz.func132, Tryz.ntmps132
       go_wp2_with (first
         | (go_at_call 124; refine (rkind_any _ _).mono ?_; rintro e w' ⟨rfl, rfl⟩)
         | (go_at_call 126; refine (rsign_any _ _).mono ?_; rintro e w' ⟨rfl, rfl⟩)
         | (go_at_call 129; refine (rnan_any _).mono ?_; rintro e w' ⟨rfl, rfl⟩)
         | (go_at_call 130; refine (rwith_at _ _ (by first | rfl | decide) (by first | exact rdN_lt _ _ _ | decide) _).mono ?_; rintro e w' ⟨rfl, rfl⟩))
       go_ret; exact ⟨rfl, by assumption⟩)
    | (rw [← mulD_eq ha hb (kd_fin a (by omega)) (kd_fin b (by omega)) (kd_more a (by omega)) (kd_more b (by omega))]
       exact rmul_main (kd_fin a (by omega)) (kd_fin b (by omega)) (by omega) (by omega) h)

end Go.Proofs.YtnilempeldlieaaGreat
namespace Go.Proofs.YtnilempeldlieaaGreat
open Go.RowKit Flt

theorem quo_step (M N k : Nat) (hN : 0 < N) : (N ≤ 2 * (M * 2 ^ k % N) → M * 2 ^ (k + 1) / N = 2 * (M * 2 ^ k / N) + 1 ∧ M * 2 ^ (k + 1) % N = 2 * (M * 2 ^ k % N) - N) ∧
    (2 * (M * 2 ^ k % N) < N → M * 2 ^ (k + 1) / N = 2 * (M * 2 ^ k / N) ∧ M * 2 ^ (k + 1) % N = 2 * (M * 2 ^ k % N)) := by
  have hdm := Nat.div_add_mod (M * 2 ^ k) N
  have hlt := Nat.mod_lt (M * 2 ^ k) hN
  have e : M * 2 ^ (k + 1) = 2 * (M * 2 ^ k) := (mul_two M k).symm
  rw [e]
  generalize M * 2 ^ k = x at *
  generalize x / N = q at *
  generalize x % N = r at *
  subst hdm
  constructor
  · intro h
    have e2 : 2 * (N * q + r) = N * (2 * q + 1) + (2 * r - N) := by rw [Nat.mul_add, Nat.mul_add, Nat.mul_left_comm]; omega
    rw [e2, Nat.mul_add_div hN, Nat.mul_add_mod, Nat.div_eq_of_lt (by omega), Nat.mod_eq_of_lt (by omega)]
    exact ⟨rfl, rfl⟩
  · intro h
    have e2 : 2 * (N * q + r) = N * (2 * q) + 2 * r := by rw [Nat.mul_add, Nat.mul_left_comm]
    rw [e2, Nat.mul_add_div hN, Nat.mul_add_mod, Nat.div_eq_of_lt h, Nat.mod_eq_of_lt h]
    exact ⟨rfl, rfl⟩

theorem quo_bound (M N k : Nat) (hk : k ≤ 60) (h1 : 2 ^ 52 ≤ M) (h2 : M < 2 ^ 53) (h3 : 2 ^ 52 ≤ N) : M * 2 ^ k / N < 2305843009213693952 := by
  rw [Nat.div_lt_iff_lt_mul (by omega)]
  have hp : 2 ^ k ≤ 2 ^ 60 := Nat.pow_le_pow_right (by omega) hk
  have h4 : M * 2 ^ k ≤ M * 2 ^ 60 := Nat.mul_le_mul_left _ hp
  have h5 : 2305843009213693952 * 2 ^ 52 ≤ 2305843009213693952 * N := Nat.mul_le_mul_left _ h3
  have p60 : (2 : Nat) ^ 60 = 1152921504606846976 := by decide
  have p52 : (2 : Nat) ^ 52 = 4503599627370496 := by decide
  have p53 : (2 : Nat) ^ 53 = 9007199254740992 := by decide
  rw [p60] at h4
  rw [p52] at h5
  rw [p53] at h2
  omega

set_option maxRecDepth 10000 in
set_option maxHeartbeats 4000000 in
theorem quo_walk {a b m n eA eB q0 r0 : Int} {M N : Nat} (HA : Hid (rg a ≠ 0 ∧ (pm (rg a) : Int) = m ∧ pe (rg a) = eA)) (HB : Hid (rg b ≠ 0 ∧ (pm (rg b) : Int) = n ∧ pe (rg b) = eB))
    (HM : Hid (m = (M : Int) ∧ n = (N : Int) ∧ 2 ^ 52 ≤ M ∧ M < 2 ^ 53 ∧ 2 ^ 52 ≤ N ∧ N < 2 ^ 53))
    (n1 : 4503599627370496 ≤ n) (n2 : n < 9007199254740992) (n0 : n ≠ 0)
    (e1 : -1126 ≤ eA) (e2 : eA ≤ 971) (e3 : -1126 ≤ eB) (e4 : eB ≤ 971) {j k : Int} (ka : kd a = j) (kb : kd b = k) (j0 : (j == 0) = false) (j1 : (j == 1) = false) (j2 : (j == 2) = false) (k0 : (k == 0) = false) (k1 : (k == 1) = false) (k2 : (k == 2) = false)
    (s1 : Int.tdiv m n = q0) (s2 : Int.tmod m n = r0) (q1 : 0 ≤ q0) (q2 : q0 < 2) (r1 : 0 ≤ r0) (r2 : r0 < n) (HQ : Hid (q0 = ((M * 2 ^ 0 / N : Nat) : Int) ∧ r0 = ((M * 2 ^ 0 % N : Nat) : Int))) {Q : Nat} {more : Bool} (HQM : Hid (Q = M * 2 ^ 60 / N ∧ more = decide (M * 2 ^ 60 % N ≠ 0)))
    {B : Nat} {w0 w : World} (h : On B w0 w) :
    Calls Tryz.prog 133 #[.int .i64 a, .int .i64 b] w fun e w' => e = .returned (.int .i64 (sg (!(ngv a == ngv b)) (rdN Q (eA - eB - 60) more))) ∧ On B w0 w' := by
  go_enter Tryz.func133, Tryz.ntmps133
  go_wp2_with (first
    | (go_at_call 124; refine (rkind_any _ _).mono ?_; rintro e w' ⟨rfl, rfl⟩)
    | (go_at_call 126; refine (rsign_any _ _).mono ?_; rintro e w' ⟨rfl, rfl⟩)
    | (go_at_call 129; refine (rnan_any _).mono ?_; rintro e w' ⟨rfl, rfl⟩)
    | (go_at_call 130; refine (rwith_at _ _ (by first | rfl | decide) (by first | exact rdN_lt _ _ _ | decide) _).mono ?_; rintro e w' ⟨rfl, rfl⟩)
    | (go_at_call 125; refine (part_at (by first | exact HA | exact HB) _).mono ?_; rintro e w' ⟨rfl, rfl⟩))
  go_quiet (fail)
  go_wp2_with fail
  go_loop [12, 13, 14] (fun u v i => ∃ (k : Nat) (q r : Int), u = .int .i64 q ∧ v = .int .i64 r ∧ i = .int .i64 (k : Int) ∧ (k : Int) ≤ 60 ∧ 0 ≤ q ∧ q < 2305843009213693952 ∧ 0 ≤ r ∧ r < n ∧ Hid (q = ((M * 2 ^ k / N : Nat) : Int) ∧ r = ((M * 2 ^ k % N : Nat) : Int))) (fun _ _ i => 60 - (intOf i).toNat)
  case atStart => exact ⟨0, q0, r0, rfl, rfl, rfl, by omega, q1, by omega, r1, r2, HQ⟩
  case round =>
    obtain ⟨k, q, r, rfl, rfl, rfl, hk, hq0, hq1, hr0, hr1, HR⟩ := hrel
    by_cases hlt : (k : Int) < 60
    · go_wp2_with fail
      · have hge : n ≤ 2 * r := by assumption
        obtain ⟨g1, g2⟩ := HR.out
        obtain ⟨d1, d2, d3, d4, d5, d6⟩ := HM.out
        have hs := (quo_step M N k (by omega)).1 (by omega)
        have hb := quo_bound M N (k + 1) (by omega) d3 d4 d5
        rw [hs.1] at hb
        refine ⟨⟨k + 1, 2 * q + 1, 2 * r - n, by go_num, by go_num, by go_num, by omega, by omega, by omega, by omega, by omega, ⟨by rw [hs.1]; omega, by rw [hs.2]; omega⟩⟩, by simp [intOf]; omega⟩
      · have hge : 2 * r < n := by assumption
        obtain ⟨g1, g2⟩ := HR.out
        obtain ⟨d1, d2, d3, d4, d5, d6⟩ := HM.out
        have hs := (quo_step M N k (by omega)).2 (by omega)
        have hb := quo_bound M N (k + 1) (by omega) d3 d4 d5
        rw [hs.1] at hb
        refine ⟨⟨k + 1, 2 * q, 2 * r, by go_num, by go_num, by go_num, by omega, by omega, by omega, by omega, by omega, ⟨by rw [hs.1]; omega, by rw [hs.2]; omega⟩⟩, by simp [intOf]; omega⟩
    · have hk60 : k = 60 := by omega
      subst hk60
      have HZ : Hid (q = (Q : Int) ∧ 0 < Q ∧ Q < 4611686018427387904) := by
        rw [HQM.out.1]
        obtain ⟨d1, d2, d3, d4, d5, d6⟩ := HM.out
        have hb := quo_bound M N 60 (by omega) d3 d4 d5
        refine ⟨HR.out.1, ?_, by omega⟩
        have : 1 ≤ M * 2 ^ 60 / N := by
          rw [Nat.le_div_iff_mul_le (by omega)]
          omega
        omega
      have HW : Hid (more = (r != 0)) := by
        have := HR.out.2
        show more = (r != 0)
        rw [this, HQM.out.2]
        by_cases g : M * 2 ^ 60 % N = 0
        · simp [g]
        · rw [decide_eq_true g]; symm; rw [bne_iff_ne]; omega
      clear hk hlt HR
      go_wp2_with (first
        | (go_at_call 124; refine (rkind_any _ _).mono ?_; rintro e w' ⟨rfl, rfl⟩)
        | (go_at_call 126; refine (rsign_any _ _).mono ?_; rintro e w' ⟨rfl, rfl⟩)
        | (go_at_call 129; refine (rnan_any _).mono ?_; rintro e w' ⟨rfl, rfl⟩)
        | (go_at_call 130; refine (rwith_at _ _ (by first | rfl | decide) (by first | exact rdN_lt _ _ _ | decide) _).mono ?_; rintro e w' ⟨rfl, rfl⟩)
        | (go_at_call 125; refine (part_at (by first | exact HA | exact HB) _).mono ?_; rintro e w' ⟨rfl, rfl⟩)
        | (go_at_call 173; refine (round_at Q HZ.out.1 _ _ HZ.out.2.1 HZ.out.2.2 (by omega) (by omega) _).mono ?_; rintro e w' ⟨rfl, rfl⟩))
      go_ret
      exact ⟨by rw [HW.out]; rfl, h.drewN _⟩

theorem rdiv_main {a b : Int} (fa : rg a < infR) (fb : rg b < infR) (ka : kd a = 3 ∨ kd a = 4) (kb : kd b = 3 ∨ kd b = 4) {B : Nat} {w0 w : World} (h : On B w0 w) :
    Calls Tryz.prog 133 #[.int .i64 a, .int .i64 b] w fun e w' => e = .returned (.int .i64 (divD a b)) ∧ On B w0 w' := by
  have za : rg a ≠ 0 := kd_more a ka
  have zb : rg b ≠ 0 := kd_more b kb
  have ma := pm_range (r := rg a) (by omega)
  have mb := pm_range (r := rg b) (by omega)
  have ea := pe_range fa
  have eb := pe_range fb
  have hx : (ngv a ^^ ngv b) = (!(ngv a == ngv b)) := by cases ngv a <;> cases ngv b <;> rfl
  unfold divD
  rw [hx]
  have t1 := tdiv_nat (pm (rg a)) (pm (rg b))
  have t2 := tmod_nat (pm (rg a)) (pm (rg b))
  have hq : pm (rg a) / pm (rg b) < 2 := by
    rw [Nat.div_lt_iff_lt_mul (by omega)]; omega
  have hr := Nat.mod_lt (pm (rg a)) (show 0 < pm (rg b) by omega)
  exact quo_walk ⟨za, rfl, rfl⟩ ⟨zb, rfl, rfl⟩ ⟨rfl, rfl, ma.1, ma.2, mb.1, mb.2⟩ (by omega) (by omega) (by omega) ea.1 ea.2 eb.1 eb.2 rfl rfl (by rw [beq_eq_false_iff_ne]; omega) (by rw [beq_eq_false_iff_ne]; omega) (by rw [beq_eq_false_iff_ne]; omega) (by rw [beq_eq_false_iff_ne]; omega) (by rw [beq_eq_false_iff_ne]; omega) (by rw [beq_eq_false_iff_ne]; omega)
    t1 t2 (Int.natCast_nonneg _) (by omega) (Int.natCast_nonneg _) (by omega) ⟨by rw [Nat.pow_zero, Nat.mul_one], by rw [Nat.pow_zero, Nat.mul_one]⟩ ⟨rfl, rfl⟩ h

set_option maxRecDepth 10000 in
set_option maxHeartbeats 4000000 in
theorem rdiv_any {a b : Int} (ha : In64 a) (hb : In64 b) {B : Nat} {w0 w : World} (h : On B w0 w) :
    Calls Tryz.prog 133 #[.int .i64 a, .int .i64 b] w fun e w' => e = .returned (.int .i64 (fDiv a b)) ∧ On B w0 w' := by
  have hN : theNaN = 9221120237041090561 := rfl
  have hx : (ngv a ^^ ngv b) = (!(ngv a == ngv b)) := by cases ngv a <;> cases ngv b <;> rfl
  rcases kd_range a with j | j | j | j | j <;> rcases kd_range b with k | k | k | k | k
  all_goals first
    | (have e := div_nan ha hb (by omega); rw [e, hN]; clear e ha hb hN hx
       go_enter Tryz.func133, Tryz.ntmps133
       go_wp2_with (first
         | (go_at_call 124; refine (rkind_any _ _).mono ?_; rintro e w' ⟨rfl, rfl⟩)
         | (go_at_call 126; refine (rsign_any _ _).mono ?_; rintro e w' ⟨rfl, rfl⟩)
         | (go_at_call 129; refine (rnan_any _).mono ?_; rintro e w' ⟨rfl, rfl⟩)
         | (go_at_call 130; refine (rwith_at _ _ (by first | rfl | decide) (by first | exact rdN_lt _ _ _ | decide) _).mono ?_; rintro e w' ⟨rfl, rfl⟩))
       go_ret; exact ⟨rfl, by assumption⟩)
    | (have e := div_inf ha hb (by omega) (by omega); rw [e, hx]; clear e ha hb hN hx
       go_enter Tryz.func133, Tryz.ntmps133
       go_wp2_with (first
         | (go_at_call 124; refine (rkind_any _ _).mono ?_; rintro e w' ⟨rfl, rfl⟩)
         | (go_at_call 126; refine (rsign_any _ _).mono ?_; rintro e w' ⟨rfl, rfl⟩)
         | (go_at_call 129; refine (rnan_any _).mono ?_; rintro e w' ⟨rfl, rfl⟩)
         | (go_at_call 130; refine (rwith_at _ _ (by first | rfl | decide) (by first | exact rdN_lt _ _ _ | decide) _).mono ?_; rintro e w' ⟨rfl, rfl⟩))
       go_ret; exact ⟨rfl, by assumption⟩)
    | (have e := div_zero ha hb (by omega) (by omega) (by omega); rw [e, hx]; clear e ha hb hN hx
       go_enter Tryz.func133, Tryz.ntmps133
       go_wp2_with (first
         | (go_at_call 124; refine (rkind_any _ _).mono ?_; rintro e w' ⟨rfl, rfl⟩)
         | (go_at_call 126; refine (rsign_any _ _).mono ?_; rintro e w' ⟨rfl, rfl⟩)
         | (go_at_call 129; refine (rnan_any _).mono ?_; rintro e w' ⟨rfl, rfl⟩)
         | (go_at_call 130; refine (rwith_at _ _ (by first | rfl | decide) (by first | exact rdN_lt _ _ _ | decide) _).mono ?_; rintro e w' ⟨rfl, rfl⟩))
       go_ret; exact ⟨rfl, by assumption⟩)
    | (rw [← divD_eq ha hb (kd_fin a (by omega)) (kd_fin b (by omega)) (kd_more a (by omega)) (kd_more b (by omega))]
       exact rdiv_main (kd_fin a (by omega)) (kd_fin b (by omega)) (by omega) (by omega) h)

set_option maxRecDepth 10000 in
set_option maxHeartbeats 4000000 in
theorem rop_any {d a b : Int} (ha : In64 a) (hb : In64 b) {B : Nat} {w0 w : World} (h : On B w0 w) :
    Calls Tryz.prog 94 #[.int .i64 d, .int .i64 a, .int .i64 b] w fun e w' => e = .returned (.int .i64 (fOp d a b)) ∧ On B w0 w' := by
  have hN : theNaN = 9221120237041090561 := rfl
  have HA := hid ha
  have HB := hid hb
  by_cases h0 : d = 0
  · subst h0
    rw [fOp0]
    clear ha hb hN
    go_enter Tryz.func94, Tryz.ntmps94
    go_wp2_with (first
      | (go_at_call 124; refine (rkind_any _ _).mono ?_; rintro e w' ⟨rfl, rfl⟩)
      | (go_at_call 126; refine (rsign_any _ _).mono ?_; rintro e w' ⟨rfl, rfl⟩)
      | (go_at_call 129; refine (rnan_any _).mono ?_; rintro e w' ⟨rfl, rfl⟩)
      | (go_at_call 130; refine (rwith_at _ _ (by first | rfl | decide) (by first | exact rg_lt _ | decide) _).mono ?_; rintro e w' ⟨rfl, rfl⟩)
      | (go_at_call 131; refine (rplain_any _ _).mono ?_; rintro e w' ⟨rfl, rfl⟩)
      | (go_at_call 128; refine (rsum_any HA.out (by first | exact HB.out | exact in_opp _) _).mono ?_; rintro e w' ⟨rfl, rfl⟩)
      | (go_at_call 132; refine (rmul_any HA.out HB.out (by assumption)).mono ?_; rintro e w' ⟨rfl, _⟩)
      | (go_at_call 133; refine (rdiv_any HA.out HB.out (by assumption)).mono ?_; rintro e w' ⟨rfl, _⟩))
    go_ret; exact ⟨rfl, by assumption⟩
  by_cases h1 : d = 1
  · subst h1
    rw [fOp1, fSub_eq hb]
    by_cases n : infR < rg b
    · have k := (kd_zero b).2 n
      rw [if_pos n, hN]
      clear ha hb hN n h0
      go_enter Tryz.func94, Tryz.ntmps94
      go_wp2_with (first
        | (go_at_call 124; refine (rkind_any _ _).mono ?_; rintro e w' ⟨rfl, rfl⟩)
        | (go_at_call 126; refine (rsign_any _ _).mono ?_; rintro e w' ⟨rfl, rfl⟩)
        | (go_at_call 129; refine (rnan_any _).mono ?_; rintro e w' ⟨rfl, rfl⟩)
        | (go_at_call 130; refine (rwith_at _ _ (by first | rfl | decide) (by first | exact rg_lt _ | decide) _).mono ?_; rintro e w' ⟨rfl, rfl⟩)
        | (go_at_call 131; refine (rplain_any _ _).mono ?_; rintro e w' ⟨rfl, rfl⟩)
        | (go_at_call 128; refine (rsum_any HA.out (by first | exact HB.out | exact in_opp _) _).mono ?_; rintro e w' ⟨rfl, rfl⟩)
        | (go_at_call 132; refine (rmul_any HA.out HB.out (by assumption)).mono ?_; rintro e w' ⟨rfl, _⟩)
        | (go_at_call 133; refine (rdiv_any HA.out HB.out (by assumption)).mono ?_; rintro e w' ⟨rfl, _⟩))
      go_ret; exact ⟨rfl, by assumption⟩
    · have k := kd_beq b n
      rw [if_neg n]
      unfold opp
      clear ha hb hN n h0
      go_enter Tryz.func94, Tryz.ntmps94
      go_wp2_with (first
        | (go_at_call 124; refine (rkind_any _ _).mono ?_; rintro e w' ⟨rfl, rfl⟩)
        | (go_at_call 126; refine (rsign_any _ _).mono ?_; rintro e w' ⟨rfl, rfl⟩)
        | (go_at_call 129; refine (rnan_any _).mono ?_; rintro e w' ⟨rfl, rfl⟩)
        | (go_at_call 130; refine (rwith_at _ _ (by first | rfl | decide) (by first | exact rg_lt _ | decide) _).mono ?_; rintro e w' ⟨rfl, rfl⟩)
        | (go_at_call 131; refine (rplain_any _ _).mono ?_; rintro e w' ⟨rfl, rfl⟩)
        | (go_at_call 128; refine (rsum_any HA.out (by first | exact HB.out | exact in_opp _) _).mono ?_; rintro e w' ⟨rfl, rfl⟩)
        | (go_at_call 132; refine (rmul_any HA.out HB.out (by assumption)).mono ?_; rintro e w' ⟨rfl, _⟩)
        | (go_at_call 133; refine (rdiv_any HA.out HB.out (by assumption)).mono ?_; rintro e w' ⟨rfl, _⟩))
      go_ret; exact ⟨rfl, by assumption⟩
  by_cases h2 : d = 2
  · subst h2
    rw [fOp2]
    clear ha hb hN h0 h1
    go_enter Tryz.func94, Tryz.ntmps94
    go_wp2_with (first
      | (go_at_call 124; refine (rkind_any _ _).mono ?_; rintro e w' ⟨rfl, rfl⟩)
      | (go_at_call 126; refine (rsign_any _ _).mono ?_; rintro e w' ⟨rfl, rfl⟩)
      | (go_at_call 129; refine (rnan_any _).mono ?_; rintro e w' ⟨rfl, rfl⟩)
      | (go_at_call 130; refine (rwith_at _ _ (by first | rfl | decide) (by first | exact rg_lt _ | decide) _).mono ?_; rintro e w' ⟨rfl, rfl⟩)
      | (go_at_call 131; refine (rplain_any _ _).mono ?_; rintro e w' ⟨rfl, rfl⟩)
      | (go_at_call 128; refine (rsum_any HA.out (by first | exact HB.out | exact in_opp _) _).mono ?_; rintro e w' ⟨rfl, rfl⟩)
      | (go_at_call 132; refine (rmul_any HA.out HB.out (by assumption)).mono ?_; rintro e w' ⟨rfl, _⟩)
      | (go_at_call 133; refine (rdiv_any HA.out HB.out (by assumption)).mono ?_; rintro e w' ⟨rfl, _⟩))
    go_ret; exact ⟨rfl, by assumption⟩
  by_cases h3 : d = 3
  · subst h3
    rw [fOp3]
    clear ha hb hN h0 h1 h2
    go_enter Tryz.func94, Tryz.ntmps94
    go_wp2_with (first
      | (go_at_call 124; refine (rkind_any _ _).mono ?_; rintro e w' ⟨rfl, rfl⟩)
      | (go_at_call 126; refine (rsign_any _ _).mono ?_; rintro e w' ⟨rfl, rfl⟩)
      | (go_at_call 129; refine (rnan_any _).mono ?_; rintro e w' ⟨rfl, rfl⟩)
      | (go_at_call 130; refine (rwith_at _ _ (by first | rfl | decide) (by first | exact rg_lt _ | decide) _).mono ?_; rintro e w' ⟨rfl, rfl⟩)
      | (go_at_call 131; refine (rplain_any _ _).mono ?_; rintro e w' ⟨rfl, rfl⟩)
      | (go_at_call 128; refine (rsum_any HA.out (by first | exact HB.out | exact in_opp _) _).mono ?_; rintro e w' ⟨rfl, rfl⟩)
      | (go_at_call 132; refine (rmul_any HA.out HB.out (by assumption)).mono ?_; rintro e w' ⟨rfl, _⟩)
      | (go_at_call 133; refine (rdiv_any HA.out HB.out (by assumption)).mono ?_; rintro e w' ⟨rfl, _⟩))
    go_ret; exact ⟨rfl, by assumption⟩
  · have e : fOp d a b = 9221120237041090561 := by unfold fOp; rw [if_neg h0, if_neg h1, if_neg h2, if_neg h3]; rfl
    rw [e]
    have g0 : (d == 0) = false := by rw [beq_eq_false_iff_ne]; exact h0
    have g1 : (d == 1) = false := by rw [beq_eq_false_iff_ne]; exact h1
    have g2 : (d == 2) = false := by rw [beq_eq_false_iff_ne]; exact h2
    have g3 : (d == 3) = false := by rw [beq_eq_false_iff_ne]; exact h3
    clear ha hb hN h0 h1 h2 h3 e
    go_enter Tryz.func94, Tryz.ntmps94
    go_wp2_with (first
      | (go_at_call 124; refine (rkind_any _ _).mono ?_; rintro e w' ⟨rfl, rfl⟩)
      | (go_at_call 126; refine (rsign_any _ _).mono ?_; rintro e w' ⟨rfl, rfl⟩)
      | (go_at_call 129; refine (rnan_any _).mono ?_; rintro e w' ⟨rfl, rfl⟩)
      | (go_at_call 130; refine (rwith_at _ _ (by first | rfl | decide) (by first | exact rg_lt _ | decide) _).mono ?_; rintro e w' ⟨rfl, rfl⟩)
      | (go_at_call 131; refine (rplain_any _ _).mono ?_; rintro e w' ⟨rfl, rfl⟩)
      | (go_at_call 128; refine (rsum_any HA.out (by first | exact HB.out | exact in_opp _) _).mono ?_; rintro e w' ⟨rfl, rfl⟩)
      | (go_at_call 132; refine (rmul_any HA.out HB.out (by assumption)).mono ?_; rintro e w' ⟨rfl, _⟩)
      | (go_at_call 133; refine (rdiv_any HA.out HB.out (by assumption)).mono ?_; rintro e w' ⟨rfl, _⟩))
    go_ret; exact ⟨rfl, by assumption⟩

end Go.Proofs.YtnilempeldlieaaGreat
