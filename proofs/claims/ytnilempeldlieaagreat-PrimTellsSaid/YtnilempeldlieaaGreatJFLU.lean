/- Plain mathematics of binary64 on whole numbers: rounding to nearest even of a fraction that is told in units of 2 to the -K, and what a rung (the bits without the sign) is worth in those units. No program is spoken of here. Plain mathematics: IEEE 754's operations on words of 64 bits, told as ints, in units of 2 to the -K: what each sum, product and quotient rounds. No program is spoken of here. Plain mathematics: the quotient; each operation by its operands' kinds; the order; the float of a whole number; the whole number towards 0. No program is spoken of here. The contracts of package flt's small functions: the kind, the one NaN, the float of bits and back, the operations, the order: each, called with any numbers, returns what the plain definitions say, and leaves all that was in memory as it was. Package flt's Trunc: the whole number towards 0, if it is a SmallInteger; its contract. -/
import Derived.Laws.FloatArith
import Derived.Test.YtnilempeldlieaaGreatJ01
import Derived.WalkKit
import Derived.BigQuiet
import Derived.Deep.QuietTactic
import Derived.Deep.RegionWith
import Derived.Deep.DeepFit
import Derived.Outline
import Derived.WalkSpells
import Derived.WalkLawsBesides
namespace Go.Proofs.YtnilempeldlieaaGreat
namespace Flt

def rhe (n d : Nat) : Nat := n / d + (if d < 2 * (n % d) ∨ (2 * (n % d) = d ∧ n / d % 2 = 1) then 1 else 0)

theorem rhe_scale {c : Nat} (hc : 0 < c) (n d : Nat) : rhe (c * n) (c * d) = rhe n d := by
  unfold rhe
  rw [Nat.mul_div_mul_left _ _ hc, Nat.mul_mod_mul_left]
  have h1 : (c * d < 2 * (c * (n % d))) ↔ (d < 2 * (n % d)) := by
    rw [show 2 * (c * (n % d)) = c * (2 * (n % d)) from Nat.mul_left_comm ..]
    exact Nat.mul_lt_mul_left hc
  have h2 : (2 * (c * (n % d)) = c * d) ↔ (2 * (n % d) = d) := by
    rw [show 2 * (c * (n % d)) = c * (2 * (n % d)) from Nat.mul_left_comm ..]
    exact ⟨Nat.eq_of_mul_eq_mul_left hc, fun h => congrArg _ h⟩
  simp only [h1, h2]

theorem rhe_scale' {c : Nat} (hc : 0 < c) (n d : Nat) : rhe (n * c) (d * c) = rhe n d := by
  rw [Nat.mul_comm n, Nat.mul_comm d]; exact rhe_scale hc n d

theorem rhe_exact (c : Nat) {d : Nat} (hd : 0 < d) : rhe (c * d) d = c := by
  unfold rhe
  rw [Nat.mul_div_cancel _ hd, Nat.mul_mod_left, if_neg]
  · rfl
  · omega

theorem rhe_sticky (n : Nat) {d : Nat} (h : Nat) (hd : 0 < d) :
    rhe (2 * (n / d) + (if n % d = 0 then 0 else 1)) (2 * (2 * h)) = rhe n (d * (2 * h)) := by
  have hr : n % d < d := Nat.mod_lt _ hd
  generalize hs : (if n % d = 0 then 0 else 1 : Nat) = s
  have hs' : (s = 0 ∧ n % d = 0) ∨ (s = 1 ∧ 0 < n % d) := by split at hs <;> omega
  unfold rhe
  have e1 : n / (d * (2 * h)) = n / d / (2 * h) := (Nat.div_div_eq_div_mul ..).symm
  have e2 : n % (d * (2 * h)) = n % d + d * (n / d % (2 * h)) := Nat.mod_mul ..
  have e3 : (2 * (n / d) + s) / (2 * (2 * h)) = n / d / (2 * h) := by
    rw [← Nat.div_div_eq_div_mul]
    congr 1
    omega
  have e4 : (2 * (n / d) + s) % (2 * (2 * h)) = s + 2 * (n / d % (2 * h)) := by
    rw [Nat.mod_mul]
    congr 1
    · omega
    · congr 2
      omega
  rw [e1, e2, e3, e4]
  generalize n / d / (2 * h) = q
  generalize n / d % (2 * h) = x
  generalize n % d = r at *
  have c1 : (2 * (2 * h) < 2 * (s + 2 * x)) ↔ (d * (2 * h) < 2 * (r + d * x)) := by
    rw [show d * (2 * h) = 2 * (d * h) from Nat.mul_left_comm ..]
    rcases Nat.lt_trichotomy h x with g | g | g
    · have : d * (h + 1) ≤ d * x := Nat.mul_le_mul_left _ g
      rw [Nat.mul_add] at this
      omega
    · subst g; omega
    · have : d * (x + 1) ≤ d * h := Nat.mul_le_mul_left _ g
      rw [Nat.mul_add] at this
      omega
  have c2 : (2 * (s + 2 * x) = 2 * (2 * h)) ↔ (2 * (r + d * x) = d * (2 * h)) := by
    rw [show d * (2 * h) = 2 * (d * h) from Nat.mul_left_comm ..]
    rcases Nat.lt_trichotomy h x with g | g | g
    · have : d * (h + 1) ≤ d * x := Nat.mul_le_mul_left _ g
      rw [Nat.mul_add] at this
      omega
    · subst g; omega
    · have : d * (x + 1) ≤ d * h := Nat.mul_le_mul_left _ g
      rw [Nat.mul_add] at this
      omega
  simp only [c1, c2]

theorem pow_pos2 (k : Nat) : 0 < 2 ^ k := Nat.two_pow_pos k

theorem cut_eq (neg : Bool) (n drop : Nat) : Ieee.Toward.even.cut neg n drop = rhe n (2 ^ drop) := by
  unfold Ieee.Toward.cut rhe
  dsimp only
  by_cases hd : drop ≤ n.log2 + 2
  · rw [Nat.min_eq_left hd, Nat.shiftLeft_eq, Nat.one_mul]
    congr 1
    by_cases h1 : 2 ^ drop < 2 * (n % 2 ^ drop)
    · simp [h1]
    · by_cases h2 : 2 * (n % 2 ^ drop) = 2 ^ drop
      · by_cases h3 : n / 2 ^ drop % 2 = 1
        · simp [h2, h3]
        · simp [h2, h3]
      · have h2' : ¬ (2 ^ drop = 2 * (n % 2 ^ drop)) := fun h => h2 h.symm
        simp [h1, h2, h2']
  · rw [Nat.min_eq_right (by omega), Nat.shiftLeft_eq, Nat.one_mul]
    have hn : n < 2 ^ (n.log2 + 1) := Nat.lt_log2_self
    have ha : 2 ^ (n.log2 + 2) = 2 * 2 ^ (n.log2 + 1) := by rw [Nat.pow_succ]; omega
    have hb : 2 ^ (n.log2 + 2) ≤ 2 ^ drop := Nat.pow_le_pow_right (by omega) (by omega)
    have g1 : n < 2 ^ (n.log2 + 2) := by omega
    have g2 : n < 2 ^ drop := by omega
    have h1 : ¬ (2 ^ (n.log2 + 2) < 2 * n) := by omega
    have h2 : ¬ (2 ^ drop < 2 * n) := by omega
    rw [Nat.div_eq_of_lt g1, Nat.mod_eq_of_lt g1, Nat.div_eq_of_lt g2, Nat.mod_eq_of_lt g2]
    simp only [h1, h2]
    simp

def last (K N D : Nat) : Nat := max (Nat.log2 (N / D) - 52) (K - 1074)

def rq (K N D : Nat) : Nat := (last K N D - (K - 1074)) * 2 ^ 52 + rhe N (D * 2 ^ last K N D)

def val (K r : Nat) : Nat := if r < 2 ^ 52 then r * 2 ^ (K - 1074) else (2 ^ 52 + r % 2 ^ 52) * 2 ^ (K - 1074 + (r / 2 ^ 52 - 1))

theorem last_scale {c : Nat} (hc : 0 < c) (K N D : Nat) : last K (N * c) (D * c) = last K N D := by
  unfold last; rw [Nat.mul_div_mul_right _ _ hc]

theorem rq_scale {c : Nat} (hc : 0 < c) (K N D : Nat) : rq K (N * c) (D * c) = rq K N D := by
  unfold rq; rw [last_scale hc, Nat.mul_right_comm D c, rhe_scale' hc]

theorem rq_zero (K D : Nat) : rq K 0 D = 0 := by
  have : last K 0 D = K - 1074 := by
    unfold last
    rw [Nat.zero_div]
    show max (0 - 52) _ = _
    omega
  unfold rq
  rw [this]
  unfold rhe
  rw [Nat.zero_div, Nat.zero_mod, if_neg]
  · omega
  · have : 0 < 2 ^ (K - 1074) := pow_pos2 _
    rcases Nat.eq_zero_or_pos D with h | h
    · subst h; omega
    · have : 0 < D * 2 ^ (K - 1074) := Nat.mul_pos h this
      omega

theorem log2_mul_pow {m : Nat} (hm : 0 < m) (k : Nat) : Nat.log2 (m * 2 ^ k) = Nat.log2 m + k := by
  have hp := pow_pos2 k
  have hne : m * 2 ^ k ≠ 0 := Nat.mul_ne_zero (by omega) (by omega)
  have h1 : Nat.log2 m + k ≤ Nat.log2 (m * 2 ^ k) := by
    rw [Nat.le_log2 hne, Nat.pow_add]
    exact Nat.mul_le_mul_right _ (Nat.log2_self_le (by omega))
  have h2 : Nat.log2 (m * 2 ^ k) < Nat.log2 m + k + 1 := by
    rw [Nat.log2_lt hne, Nat.add_right_comm, Nat.pow_add]
    exact Nat.mul_lt_mul_of_pos_right Nat.lt_log2_self hp
  omega

theorem log2_eq {n k : Nat} (h1 : 2 ^ k ≤ n) (h2 : n < 2 ^ (k + 1)) : Nat.log2 n = k := by
  have hne : n ≠ 0 := by have := pow_pos2 k; omega
  have a := (Nat.le_log2 hne).2 h1
  have b := (Nat.log2_lt hne).2 h2
  omega

theorem rq_val (K r : Nat) : rq K (val K r) 1 = r := by
  unfold rq last val
  rw [Nat.div_one, Nat.one_mul]
  by_cases h : r < 2 ^ 52
  · rw [if_pos h]
    have hl : max (Nat.log2 (r * 2 ^ (K - 1074)) - 52) (K - 1074) = K - 1074 := by
      rcases Nat.eq_zero_or_pos r with h0 | h0
      · subst h0
        rw [Nat.zero_mul]
        show max (0 - 52) _ = _
        omega
      · rw [log2_mul_pow h0]
        have : Nat.log2 r < 52 := (Nat.log2_lt (by omega)).2 h
        omega
    rw [hl, rhe_exact _ (pow_pos2 _)]
    omega
  · rw [if_neg h]
    have hm : Nat.log2 (2 ^ 52 + r % 2 ^ 52) = 52 := log2_eq (by omega) (by omega)
    have hl : max (Nat.log2 ((2 ^ 52 + r % 2 ^ 52) * 2 ^ (K - 1074 + (r / 2 ^ 52 - 1))) - 52) (K - 1074) = K - 1074 + (r / 2 ^ 52 - 1) := by
      rw [log2_mul_pow (by omega), hm]; omega
    rw [hl, rhe_exact _ (pow_pos2 _)]
    omega

theorem val_zero (K : Nat) : val K 0 = 0 := by simp [val]

theorem val_pos {K r : Nat} (h : 0 < r) : 0 < val K r := by
  unfold val
  split
  · exact Nat.mul_pos h (pow_pos2 _)
  · exact Nat.mul_pos (by omega) (pow_pos2 _)

theorem val_succ (K r : Nat) : val K r < val K (r + 1) := by
  unfold val
  by_cases h1 : r + 1 < 2 ^ 52
  · rw [if_pos (by omega), if_pos h1]
    exact Nat.mul_lt_mul_of_pos_right (by omega) (pow_pos2 _)
  · rw [if_neg h1]
    by_cases h2 : r < 2 ^ 52
    · rw [if_pos h2]
      have e1 : 2 ^ 52 + (r + 1) % 2 ^ 52 = r + 1 := by omega
      have e2 : (r + 1) / 2 ^ 52 - 1 = 0 := by omega
      rw [e1, e2, Nat.add_zero]
      have hp := pow_pos2 (K - 1074)
      generalize 2 ^ (K - 1074) = p at *
      exact Nat.mul_lt_mul_of_pos_right (Nat.lt_succ_self r) hp
    · rw [if_neg h2]
      by_cases h3 : r % 2 ^ 52 + 1 < 2 ^ 52
      · have e1 : (r + 1) % 2 ^ 52 = r % 2 ^ 52 + 1 := by omega
        have e2 : (r + 1) / 2 ^ 52 = r / 2 ^ 52 := by omega
        rw [e1, e2]
        exact Nat.mul_lt_mul_of_pos_right (by omega) (pow_pos2 _)
      · have e1 : (r + 1) % 2 ^ 52 = 0 := by omega
        have e2 : (r + 1) / 2 ^ 52 - 1 = r / 2 ^ 52 - 1 + 1 := by omega
        rw [e1, e2, ← Nat.add_assoc, Nat.pow_succ 2 (K - 1074 + (r / 2 ^ 52 - 1))]
        have hp := pow_pos2 (K - 1074 + (r / 2 ^ 52 - 1))
        generalize 2 ^ (K - 1074 + (r / 2 ^ 52 - 1)) = p at *
        rw [Nat.add_zero, Nat.mul_comm p 2, ← Nat.mul_assoc]
        exact Nat.mul_lt_mul_of_pos_right (by omega) hp

theorem val_lt {K r s : Nat} (h : r < s) : val K r < val K s := by
  induction s with
  | zero => omega
  | succ s ih =>
    have := val_succ K s
    rcases Nat.lt_or_ge r s with g | g
    · exact Nat.lt_trans (ih g) this
    · have : r = s := by omega
      subst this; assumption

theorem val_lt_iff {K r s : Nat} : val K r < val K s ↔ r < s := by
  constructor
  · intro h
    rcases Nat.lt_trichotomy r s with g | g | g
    · exact g
    · subst g; omega
    · have := val_lt (K := K) g; omega
  · exact val_lt

theorem rq_sticky {K N D t : Nat} (hD : 0 < D) (hq : 0 < N / (D * 2 ^ t)) (ht : t + 1 ≤ last K N D) :
    rq K ((2 * (N / (D * 2 ^ t)) + (if N % (D * 2 ^ t) = 0 then 0 else 1)) * 2 ^ t) 2 = rq K N D := by
  have hp := pow_pos2 t
  have hl : last K ((2 * (N / (D * 2 ^ t)) + (if N % (D * 2 ^ t) = 0 then 0 else 1)) * 2 ^ t) 2 = last K N D := by
    unfold last at ht ⊢
    have e1 : Nat.log2 (N / D) = Nat.log2 (N / (D * 2 ^ t)) + t := by
      rw [← Nat.div_div_eq_div_mul] at hq ⊢
      generalize N / D = x at *
      refine log2_eq ?_ ?_
      · rw [Nat.pow_add, ← Nat.le_div_iff_mul_le hp]
        exact Nat.log2_self_le (by omega)
      · rw [Nat.add_right_comm, Nat.pow_add, ← Nat.div_lt_iff_lt_mul hp]
        exact Nat.lt_log2_self
    have e2 : Nat.log2 ((2 * (N / (D * 2 ^ t)) + (if N % (D * 2 ^ t) = 0 then 0 else 1)) * 2 ^ t / 2) = Nat.log2 (N / (D * 2 ^ t)) + t := by
      generalize N / (D * 2 ^ t) = q at *
      generalize hs : (if N % (D * 2 ^ t) = 0 then 0 else 1 : Nat) = s
      have hs1 : s ≤ 1 := by split at hs <;> omega
      have ha : 2 ^ Nat.log2 q ≤ q := Nat.log2_self_le (by omega)
      have hb : q < 2 ^ (Nat.log2 q + 1) := Nat.lt_log2_self
      refine log2_eq ?_ ?_
      · rw [Nat.le_div_iff_mul_le (by omega), Nat.pow_add, Nat.mul_right_comm]
        exact Nat.mul_le_mul_right _ (by omega)
      · rw [Nat.div_lt_iff_lt_mul (by omega), Nat.add_right_comm, Nat.pow_add, Nat.mul_right_comm]
        exact Nat.mul_lt_mul_of_pos_right (by omega) hp
    rw [e1, e2]
  unfold rq
  rw [hl]
  congr 1
  obtain ⟨h, hh⟩ : ∃ h, last K N D = t + 1 + h := ⟨last K N D - (t + 1), by omega⟩
  rw [hh]
  have e3 : 2 ^ (t + 1 + h) = 2 ^ t * (2 * 2 ^ h) := by rw [Nat.pow_add, Nat.pow_succ]; ac_rfl
  rw [e3, ← Nat.mul_assoc D, ← rhe_sticky N (2 ^ h) (Nat.mul_pos hD hp), show 2 * (2 ^ t * (2 * 2 ^ h)) = (2 * (2 * 2 ^ h)) * 2 ^ t by ac_rfl, rhe_scale' hp]

end Flt
end Go.Proofs.YtnilempeldlieaaGreat
namespace Go.Proofs.YtnilempeldlieaaGreat
namespace Flt


def wd (a : Int) : Nat := (a % 18446744073709551616).toNat


def sg (neg : Bool) (r : Nat) : Int := if neg then (r : Int) - 9223372036854775808 else r
def s64 (w : Nat) : Int := if w < 9223372036854775808 then (w : Int) else (w : Int) - 18446744073709551616
def ngv (a : Int) : Bool := decide (a < 0)
def In64 (a : Int) : Prop := -9223372036854775808 ≤ a ∧ a < 9223372036854775808

theorem rg_lt (a : Int) : rg a < 9223372036854775808 := by unfold rg; omega
theorem sg_rg {a : Int} (h : In64 a) : sg (ngv a) (rg a) = a := by
  unfold sg ngv rg; unfold In64 at h
  by_cases g : a < 0
  · simp only [g, decide_true, if_true]; omega
  · simp only [g, decide_false]; simp; omega
theorem wd_mod (a : Int) : wd a % 9223372036854775808 = rg a := by unfold wd rg; omega
theorem wd_div {a : Int} (h : In64 a) : (wd a / 9223372036854775808 % 2 == 1) = ngv a := by
  unfold wd ngv; unfold In64 at h
  by_cases g : a < 0
  · simp only [g, decide_true, beq_iff_eq]; omega
  · simp only [g, decide_false]
    rw [beq_eq_false_iff_ne]
    omega
theorem rg_sg (n : Bool) {r : Nat} (h : r < 9223372036854775808) : rg (sg n r) = r := by
  unfold rg sg; cases n
  · simp; omega
  · simp; omega
theorem ngv_sg (n : Bool) {r : Nat} (h : r < 9223372036854775808) : ngv (sg n r) = n := by
  unfold ngv sg; cases n
  · simp
  · simp; omega
theorem in_sg (n : Bool) {r : Nat} (h : r < 9223372036854775808) : In64 (sg n r) := by
  unfold In64 sg; cases n
  · simp; omega
  · simp; omega
theorem s64_word (n : Bool) {r : Nat} (h : r < 9223372036854775808) : s64 (Ieee.double.word n r) = sg n r := by
  have e : Ieee.double.signWeight = 9223372036854775808 := by decide
  unfold s64 Ieee.Format.word sg
  rw [e]
  cases n
  · simp [h]
  · simp; omega
def sv (K : Nat) (a : Int) : Int := if ngv a then -(val K (rg a) : Int) else (val K (rg a) : Int)

def rnd (K : Nat) (neg : Bool) (N D : Nat) : Int := sg neg (min (rq K N D) infR)

theorem leastPlace_eq : Ieee.double.leastPlace = -1074 := by decide
theorem binade_eq : Ieee.double.binade = 4503599627370496 := by decide
theorem infRung_eq : Ieee.double.infRung = infR := by decide
theorem signWeight_eq : Ieee.double.signWeight = 9223372036854775808 := by decide

theorem nearest_eq (neg : Bool) (mag : Nat) (place : Int) (K : Nat) (h : 0 ≤ place + K) (hK : 1074 ≤ K) :
    Ieee.double.nearest neg mag place = Ieee.double.word neg (min (rq K (mag * 2 ^ (place + K).toNat) 1) infR) := by
  unfold Ieee.Format.nearest
  by_cases hm : mag = 0
  · subst hm
    rw [if_pos rfl, Nat.zero_mul, rq_zero]
    rfl
  · rw [if_neg hm]
    dsimp only
    rw [leastPlace_eq, binade_eq, infRung_eq, show (Ieee.double.fractionBits : Int) = 52 from rfl]
    obtain ⟨p, hp⟩ : ∃ p : Nat, place = (p : Int) - K := ⟨(place + K).toNat, by omega⟩
    subst hp
    have e1 : ((p : Int) - K + K).toNat = p := by omega
    rw [e1]
    have hl : (last K (mag * 2 ^ p) 1 : Int) = max ((p : Int) - K + Nat.log2 mag - 52) (-1074) + K := by
      unfold last
      rw [Nat.div_one, log2_mul_pow (by omega)]
      omega
    generalize max ((p : Int) - K + Nat.log2 mag - 52) (-1074) = l at hl
    have hl' : l = (last K (mag * 2 ^ p) 1 : Int) - K := by omega
    subst hl'
    unfold rq
    rw [Nat.one_mul, cut_eq, Nat.shiftLeft_eq]
    have hlast : K - 1074 ≤ last K (mag * 2 ^ p) 1 := by unfold last; omega
    generalize last K (mag * 2 ^ p) 1 = L at *
    have e2 : ((L : Int) - K - -1074).toNat = L - (K - 1074) := by omega
    have e3 : rhe (mag * 2 ^ ((p : Int) - K - ((L : Int) - K)).toNat) (2 ^ ((L : Int) - K - ((p : Int) - K)).toNat) = rhe (mag * 2 ^ p) (2 ^ L) := by
      rcases Nat.le_total p L with g | g
      · have a1 : ((p : Int) - K - ((L : Int) - K)).toNat = 0 := by omega
        have a2 : ((L : Int) - K - ((p : Int) - K)).toNat = L - p := by omega
        rw [a1, a2, Nat.pow_zero, Nat.mul_one, ← rhe_scale' (pow_pos2 p), ← Nat.pow_add, Nat.sub_add_cancel g]
      · have a1 : ((p : Int) - K - ((L : Int) - K)).toNat = p - L := by omega
        have a2 : ((L : Int) - K - ((p : Int) - K)).toNat = 0 := by omega
        rw [a1, a2, Nat.pow_zero, ← rhe_scale' (pow_pos2 L), Nat.one_mul, Nat.mul_assoc, ← Nat.pow_add, Nat.sub_add_cancel g]
    rw [e2, e3]

theorem min_lt (x : Nat) : min x infR < 9223372036854775808 := by
  have : infR < 9223372036854775808 := by decide
  omega

theorem nearest_s64 (neg : Bool) (mag : Nat) (place : Int) (K : Nat) (h : 0 ≤ place + K) (hK : 1074 ≤ K) :
    s64 (Ieee.double.nearest neg mag place) = rnd K neg (mag * 2 ^ (place + K).toNat) 1 := by
  rw [nearest_eq neg mag place K h hK, s64_word _ (min_lt _)]
  rfl

theorem read_fin {a : Int} (h : In64 a) (hf : rg a < infR) : ∃ (mag : Nat) (place : Int), Ieee.double.read (wd a) = .number (ngv a) mag place ∧ -1074 ≤ place ∧ place ≤ 971 ∧ mag < 9007199254740992 ∧
    (∀ K : Nat, 1074 ≤ K → mag * 2 ^ (place + K).toNat = val K (rg a)) := by
  unfold Ieee.Format.read
  dsimp only
  rw [signWeight_eq, wd_mod, wd_div h, binade_eq, infRung_eq, leastPlace_eq]
  have hi : infR = 9218868437227405312 := rfl
  by_cases g : rg a < 4503599627370496
  · refine ⟨rg a, -1074, by rw [if_pos g], by omega, by omega, by omega, fun K hK => ?_⟩
    have : ((-1074 : Int) + K).toNat = K - 1074 := by omega
    unfold val
    rw [if_pos g, this]
  · refine ⟨4503599627370496 + rg a % 4503599627370496, -1074 + (rg a / 4503599627370496 - 1 : Nat), by rw [if_neg g, if_pos hf], by omega, by omega, by omega, fun K hK => ?_⟩
    have : (-1074 + ((rg a / 4503599627370496 - 1 : Nat) : Int) + K).toNat = K - 1074 + (rg a / 4503599627370496 - 1) := by omega
    unfold val
    rw [if_neg g, this]

theorem read_inf {a : Int} (h : In64 a) (hf : rg a = infR) : Ieee.double.read (wd a) = .infinity (ngv a) := by
  unfold Ieee.Format.read
  dsimp only
  rw [signWeight_eq, wd_mod, wd_div h, binade_eq, infRung_eq, hf, if_neg (by decide), if_neg (by decide), if_pos rfl]

theorem read_nan {a : Int} (h : In64 a) (hf : infR < rg a) : ∃ n t, Ieee.double.read (wd a) = .nan n t := by
  have hi : infR = 9218868437227405312 := rfl
  unfold Ieee.Format.read
  dsimp only
  rw [signWeight_eq, wd_mod, wd_div h, binade_eq, infRung_eq, if_neg (by omega), if_neg (by omega), if_neg (by omega)]
  exact ⟨_, _, rfl⟩

def bitsOr (o : Option Nat) : Int := match o with
  | some r => s64 r
  | none => theNaN

def fAdd (a b : Int) : Int := bitsOr (Ieee.double.add (wd a) (wd b))
def fSub (a b : Int) : Int := bitsOr (Ieee.double.sub (wd a) (wd b))
def fMul (a b : Int) : Int := bitsOr (Ieee.double.mul (wd a) (wd b))
def fDiv (a b : Int) : Int := bitsOr (Ieee.double.div (wd a) (wd b))

theorem write_inf (n : Bool) : s64 (Ieee.double.write (.infinity n)) = sg n infR := by
  show s64 (Ieee.double.word n Ieee.double.infRung) = _
  rw [infRung_eq, s64_word n (by decide)]

theorem signed_eq (n : Bool) (m u : Nat) : Ieee.signed n m u = if n then -((m * 2 ^ u : Nat) : Int) else ((m * 2 ^ u : Nat) : Int) := by
  unfold Ieee.signed
  rw [Nat.shiftLeft_eq]

theorem signed_scale (n : Bool) (m u p : Nat) : Ieee.signed n m u * (2 ^ p : Nat) = if n then -((m * 2 ^ (u + p) : Nat) : Int) else ((m * 2 ^ (u + p) : Nat) : Int) := by
  have hp : m * 2 ^ (u + p) = m * 2 ^ u * 2 ^ p := by rw [Nat.pow_add, Nat.mul_assoc]
  rw [signed_eq, hp]
  cases n
  · simp
  · simp [Int.neg_mul]

theorem sum_units {a b : Int} {s t : Bool} {m n : Nat} {i j : Int} {K : Nat} {V W : Nat} (hi : -1074 ≤ i) (hj : -1074 ≤ j) (hK : 1074 ≤ K)
    (hm : m * 2 ^ (i + K).toNat = V) (hn : n * 2 ^ (j + K).toNat = W) (ha : a = if s then -(V : Int) else V) (hb : b = if t then -(W : Int) else W) :
    (Ieee.signed s m (i - min i j).toNat + Ieee.signed t n (j - min i j).toNat) * (2 ^ (min i j + K).toNat : Nat) = a + b := by
  rw [Int.add_mul, signed_scale, signed_scale]
  have e1 : (i - min i j).toNat + (min i j + K).toNat = (i + K).toNat := by omega
  have e2 : (j - min i j).toNat + (min i j + K).toNat = (j + K).toNat := by omega
  rw [e1, e2, hm, hn, ha, hb]

theorem natAbs_mul_pow (x : Int) (p : Nat) : (x * (2 ^ p : Nat)).natAbs = x.natAbs * 2 ^ p := by
  rw [Int.natAbs_mul, Int.natAbs_natCast]

theorem sum_write {s t : Bool} {total : Int} {base : Int} {K : Nat} {x : Int} (hb : 0 ≤ base + K) (hK : 1074 ≤ K) (hx : total * (2 ^ (base + K).toNat : Nat) = x) :
    s64 (Ieee.double.write (.number (if total = 0 then s && t else decide (total < 0)) total.natAbs base)) = if x = 0 then sg (s && t) 0 else rnd K (decide (x < 0)) x.natAbs 1 := by
  show s64 (Ieee.double.nearest _ _ _) = _
  rw [nearest_s64 _ _ _ K hb hK, ← natAbs_mul_pow, hx]
  have hp : (0 : Int) < (2 ^ (base + K).toNat : Nat) := by have := pow_pos2 (base + K).toNat; omega
  have h0 : total = 0 ↔ x = 0 := by
    rw [← hx]
    constructor
    · intro h; rw [h, Int.zero_mul]
    · intro h
      rcases Int.mul_eq_zero.1 h with g | g
      · exact g
      · omega
  have h1 : total < 0 ↔ x < 0 := by
    rw [← hx]
    constructor
    · intro h; exact Int.mul_neg_of_neg_of_pos h hp
    · intro h
      rcases Int.lt_or_le total 0 with g | g
      · exact g
      · have := Int.mul_nonneg g (Int.le_of_lt hp); omega
  by_cases g : x = 0
  · rw [if_pos g, if_pos (h0.2 g), g]
    unfold rnd
    rw [show Int.natAbs 0 = 0 from rfl, rq_zero]
    rfl
  · rw [if_neg g, if_neg (fun h => g (h0.1 h))]
    simp only [h1]

theorem fAdd_fin {a b : Int} (ha : In64 a) (hb : In64 b) (fa : rg a < infR) (fb : rg b < infR) {K : Nat} (hK : 1074 ≤ K) :
    fAdd a b = if sv K a + sv K b = 0 then sg (ngv a && ngv b) 0 else rnd K (decide (sv K a + sv K b < 0)) (sv K a + sv K b).natAbs 1 := by
  obtain ⟨m, i, e1, i1, _, _, v1⟩ := read_fin ha fa
  obtain ⟨n, j, e2, j1, _, _, v2⟩ := read_fin hb fb
  unfold fAdd Ieee.Format.add
  rw [e1, e2]
  exact sum_write (by omega) hK (sum_units i1 j1 hK (v1 K hK) (v2 K hK) (by rfl) (by rfl))

theorem fMul_fin {a b : Int} (ha : In64 a) (hb : In64 b) (fa : rg a < infR) (fb : rg b < infR) {K : Nat} (hK : 2148 ≤ K) :
    fMul a b = rnd K (ngv a ^^ ngv b) (val K (rg a) * val K (rg b)) (2 ^ K) := by
  obtain ⟨m, i, e1, i1, _, _, v1⟩ := read_fin ha fa
  obtain ⟨n, j, e2, j1, _, _, v2⟩ := read_fin hb fb
  unfold fMul Ieee.Format.mul
  rw [e1, e2]
  show s64 (Ieee.double.nearest _ (m * n) (i + j)) = _
  rw [nearest_s64 _ _ _ K (by omega) (by omega), ← v1 K (by omega), ← v2 K (by omega)]
  unfold rnd
  rw [← rq_scale (pow_pos2 K)]
  have e : m * n * 2 ^ (i + j + K).toNat * 2 ^ K = m * 2 ^ (i + K).toNat * (n * 2 ^ (j + K).toNat) := by
    have : (i + j + K).toNat + K = (i + K).toNat + (j + K).toNat := by omega
    rw [Nat.mul_assoc, ← Nat.pow_add, this, Nat.pow_add]
    ac_rfl
  rw [e, Nat.one_mul]

end Flt
end Go.Proofs.YtnilempeldlieaaGreat
namespace Go.Proofs.YtnilempeldlieaaGreat
namespace Flt

theorem toNat_ne (x : Nat) : (x != 0).toNat = if x = 0 then 0 else 1 := by
  by_cases h : x = 0
  · simp [h]
  · simp [h]

theorem quo_units {m n : Nat} {i j : Int} {K : Nat} (hm : 0 < m) (hn : 0 < n) (hi : -1074 ≤ i) (hj : j ≤ 971) (hj' : -1074 ≤ j) (hn' : n < 9007199254740992) (hK : 2400 ≤ K) (neg : Bool) :
    s64 (Ieee.double.nearest neg (2 * (m <<< (54 + n.log2 - m.log2) / n) + (m <<< (54 + n.log2 - m.log2) % n != 0).toNat) (i - j - (54 + n.log2 - m.log2 : Nat) - 1)) =
      rnd K neg (m * 2 ^ (i + K).toNat * 2 ^ K) (n * 2 ^ (j + K).toNat) := by
  have hln : n.log2 < 53 := (Nat.log2_lt (by omega)).2 hn'
  have hge : 54 + n.log2 ≤ m.log2 + (54 + n.log2 - m.log2) := by omega
  have hle : 54 + n.log2 - m.log2 ≤ 106 := by omega
  rw [Nat.shiftLeft_eq, toNat_ne]
  generalize 54 + n.log2 - m.log2 = more at *
  rw [nearest_s64 _ _ _ K (by omega) (by omega)]
  unfold rnd
  refine congrArg (fun x => sg neg (min x infR)) ?_
  obtain ⟨t, ht⟩ : ∃ t : Nat, (t : Int) = i - j - more + K := ⟨(i - j - more + K).toNat, by omega⟩
  have e1 : (i - j - (more : Int) - 1 + K).toNat = t - 1 := by omega
  rw [e1]
  have hq : 2 ^ 53 ≤ m * 2 ^ more / n := by
    rw [Nat.le_div_iff_mul_le hn]
    have h1 : 2 ^ (54 + n.log2) ≤ m * 2 ^ more := by
      refine Nat.le_trans (Nat.pow_le_pow_right (by omega) hge) ?_
      rw [Nat.pow_add]
      exact Nat.mul_le_mul_right _ (Nat.log2_self_le (by omega))
    have h2 : n < 2 ^ (n.log2 + 1) := Nat.lt_log2_self
    refine Nat.le_trans (Nat.mul_le_mul_left _ (Nat.le_of_lt h2)) ?_
    rw [← Nat.pow_add]
    refine Nat.le_trans (Nat.pow_le_pow_right (by omega) (by omega)) h1
  have hp := pow_pos2 t
  have hN : m * 2 ^ (t + more) / (n * 2 ^ t) = m * 2 ^ more / n := by
    rw [Nat.add_comm, Nat.pow_add, ← Nat.mul_assoc, Nat.mul_div_mul_right _ _ hp]
  have hM : m * 2 ^ (t + more) % (n * 2 ^ t) = m * 2 ^ more % n * 2 ^ t := by
    rw [Nat.add_comm, Nat.pow_add, ← Nat.mul_assoc, Nat.mul_mod_mul_right]
  have hM0 : (m * 2 ^ (t + more) % (n * 2 ^ t) = 0) ↔ (m * 2 ^ more % n = 0) := by
    rw [hM]
    constructor
    · intro h
      rcases Nat.mul_eq_zero.1 h with g | g
      · exact g
      · omega
    · intro h; rw [h, Nat.zero_mul]
  have hs := rq_sticky (K := K) (N := m * 2 ^ (t + more)) (D := n) (t := t) hn (by rw [hN]; omega) (by
    have h1 : 2 ^ (53 + t) ≤ m * 2 ^ (t + more) / n := by
      rw [Nat.pow_add, ← Nat.le_div_iff_mul_le hp, Nat.div_div_eq_div_mul, hN]
      exact hq
    have h2 : 53 + t ≤ Nat.log2 (m * 2 ^ (t + more) / n) := (Nat.le_log2 (by have := pow_pos2 (53 + t); omega)).2 h1
    unfold last
    omega)
  rw [hN] at hs
  simp only [hM0] at hs
  have e2 : ∀ X, X * 2 ^ t = X * 2 ^ (t - 1) * 2 := by
    intro X
    have : 2 ^ t = 2 ^ (t - 1) * 2 := by rw [← Nat.pow_succ]; congr 1; omega
    rw [this, Nat.mul_assoc]
  rw [e2, ← Nat.one_mul 2, rq_scale (by omega), Nat.one_mul] at hs
  rw [hs, ← rq_scale (pow_pos2 (j + K).toNat)]
  have e3 : t + more + (j + K).toNat = (i + K).toNat + K := by omega
  rw [Nat.mul_assoc m, ← Nat.pow_add, Nat.mul_assoc m, ← Nat.pow_add, e3]

theorem val_eq_zero {K r : Nat} : val K r = 0 ↔ r = 0 := by
  constructor
  · intro h
    rcases Nat.eq_zero_or_pos r with g | g
    · exact g
    · have := val_pos (K := K) g; omega
  · intro h; subst h; exact val_zero K

theorem mag_zero {mag : Nat} {p K r : Nat} (h : mag * 2 ^ p = val K r) : mag = 0 ↔ r = 0 := by
  rw [← val_eq_zero (K := K) (r := r), ← h]
  constructor
  · intro g; rw [g, Nat.zero_mul]
  · intro g
    rcases Nat.mul_eq_zero.1 g with k | k
    · exact k
    · have := pow_pos2 p; omega

theorem fDiv_fin {a b : Int} (ha : In64 a) (hb : In64 b) (fa : rg a < infR) (fb : rg b < infR) (zb : rg b ≠ 0) {K : Nat} (hK : 2400 ≤ K) :
    fDiv a b = rnd K (ngv a ^^ ngv b) (val K (rg a) * 2 ^ K) (val K (rg b)) := by
  obtain ⟨m, i, e1, i1, i2, m2, v1⟩ := read_fin ha fa
  obtain ⟨n, j, e2, j1, j2, n2, v2⟩ := read_fin hb fb
  have w1 := v1 K (by omega)
  have w2 := v2 K (by omega)
  have hn : n ≠ 0 := fun h => zb ((mag_zero w2).1 h)
  unfold fDiv Ieee.Format.div
  rw [e1, e2]
  simp only [Ieee.Datum.quotient, hn, if_false]
  show s64 (Ieee.double.nearest _ _ _) = _
  rw [← w1, ← w2]
  rcases Nat.eq_zero_or_pos m with h | h
  · subst h
    have : (2 * (0 <<< (Ieee.double.fractionBits + 2 + n.log2 - Nat.log2 0) / n) + ((0 <<< (Ieee.double.fractionBits + 2 + n.log2 - Nat.log2 0) % n) != 0).toNat) = 0 := by
      rw [Nat.zero_shiftLeft, Nat.zero_div, Nat.zero_mod]; rfl
    rw [this]
    unfold rnd
    rw [Nat.zero_mul, Nat.zero_mul, rq_zero]
    show s64 (Ieee.double.nearest _ 0 _) = _
    unfold Ieee.Format.nearest
    rw [if_pos rfl, s64_word _ (by omega)]
    rfl
  · exact quo_units h (by omega) i1 j2 j1 n2 hK _

def mAdd (K : Nat) (a b : Int) : Int :=
  if infR < rg a ∨ infR < rg b then theNaN
  else if rg a = infR then (if rg b = infR then (if ngv a = ngv b then a else theNaN) else a)
  else if rg b = infR then b
  else if sv K a + sv K b = 0 then sg (ngv a && ngv b) 0 else rnd K (decide (sv K a + sv K b < 0)) (sv K a + sv K b).natAbs 1

def opp (a : Int) : Int := sg (!ngv a) (rg a)
theorem rg_opp (a : Int) : rg (opp a) = rg a := rg_sg _ (rg_lt a)
theorem ngv_opp (a : Int) : ngv (opp a) = !ngv a := ngv_sg _ (rg_lt a)
theorem in_opp (a : Int) : In64 (opp a) := in_sg _ (rg_lt a)
theorem fAdd_eq {a b : Int} (ha : In64 a) (hb : In64 b) {K : Nat} (hK : 1074 ≤ K) : fAdd a b = mAdd K a b := by
  unfold mAdd
  by_cases n1 : infR < rg a
  · rw [if_pos (.inl n1)]
    obtain ⟨x, y, e⟩ := read_nan ha n1
    unfold fAdd Ieee.Format.add
    rw [e]
    rfl
  by_cases n2 : infR < rg b
  · rw [if_pos (.inr n2)]
    obtain ⟨x, y, e⟩ := read_nan hb n2
    unfold fAdd Ieee.Format.add
    rw [e]
    cases Ieee.double.read (wd a) <;> rfl
  rw [if_neg (by omega)]
  by_cases i1 : rg a = infR
  · rw [if_pos i1]
    by_cases i2 : rg b = infR
    · rw [if_pos i2]
      unfold fAdd Ieee.Format.add
      rw [read_inf ha i1, read_inf hb i2]
      by_cases g : ngv a = ngv b
      · rw [if_pos g, g]
        simp only [Ieee.Datum.sum, if_true]
        show s64 (Ieee.double.write _) = _
        rw [write_inf, ← g, ← i1, sg_rg ha]
      · rw [if_neg g]
        simp only [Ieee.Datum.sum, g, if_false]
        rfl
    · rw [if_neg i2]
      obtain ⟨n, j, e2, _⟩ := read_fin hb (by omega)
      unfold fAdd Ieee.Format.add
      rw [read_inf ha i1, e2]
      show s64 (Ieee.double.write _) = _
      rw [write_inf, ← i1, sg_rg ha]
  · rw [if_neg i1]
    by_cases i2 : rg b = infR
    · rw [if_pos i2]
      obtain ⟨n, j, e2, _⟩ := read_fin ha (by omega)
      unfold fAdd Ieee.Format.add
      rw [read_inf hb i2, e2]
      show s64 (Ieee.double.write _) = _
      rw [write_inf, ← i2, sg_rg hb]
    · rw [if_neg i2]
      exact fAdd_fin ha hb (by omega) (by omega) hK

theorem read_opp {b : Int} (hb : In64 b) (fb : ¬ infR < rg b) : Ieee.double.read (wd (opp b)) = (Ieee.double.read (wd b)).opposite := by
  unfold Ieee.Format.read
  dsimp only
  rw [signWeight_eq, wd_mod, wd_mod, wd_div hb, wd_div (in_opp b), binade_eq, infRung_eq, leastPlace_eq, rg_opp, ngv_opp]
  by_cases h1 : rg b < 4503599627370496
  · rw [if_pos h1, if_pos h1]; rfl
  · by_cases h2 : rg b < infR
    · rw [if_neg h1, if_pos h2, if_neg h1, if_pos h2]; rfl
    · have h3 : rg b = infR := by omega
      rw [if_neg h1, if_neg h2, if_pos h3, if_neg h1, if_neg h2, if_pos h3]; rfl

theorem fSub_eq {a b : Int} (hb : In64 b) : fSub a b = if infR < rg b then theNaN else fAdd a (opp b) := by
  by_cases n2 : infR < rg b
  · rw [if_pos n2]
    obtain ⟨x, y, e⟩ := read_nan hb n2
    unfold fSub Ieee.Format.sub
    rw [e]
    cases Ieee.double.read (wd a) <;> rfl
  · rw [if_neg n2]
    unfold fSub fAdd Ieee.Format.sub Ieee.Format.add
    rw [read_opp hb n2]

def mMul (K : Nat) (a b : Int) : Int :=
  if infR < rg a ∨ infR < rg b then theNaN
  else if rg a = infR ∨ rg b = infR then (if rg a = 0 ∨ rg b = 0 then theNaN else sg (ngv a ^^ ngv b) infR)
  else rnd K (ngv a ^^ ngv b) (val K (rg a) * val K (rg b)) (2 ^ K)

theorem fMul_eq {a b : Int} (ha : In64 a) (hb : In64 b) {K : Nat} (hK : 2148 ≤ K) : fMul a b = mMul K a b := by
  have hi0 : infR ≠ 0 := by decide
  unfold mMul
  by_cases n1 : infR < rg a
  · rw [if_pos (.inl n1)]
    obtain ⟨x, y, e⟩ := read_nan ha n1
    unfold fMul Ieee.Format.mul
    rw [e]
    rfl
  by_cases n2 : infR < rg b
  · rw [if_pos (.inr n2)]
    obtain ⟨x, y, e⟩ := read_nan hb n2
    unfold fMul Ieee.Format.mul
    rw [e]
    cases Ieee.double.read (wd a) <;> rfl
  rw [if_neg (by omega)]
  by_cases i1 : rg a = infR
  · rw [if_pos (.inl i1)]
    by_cases i2 : rg b = infR
    · unfold fMul Ieee.Format.mul
      rw [read_inf ha i1, read_inf hb i2, if_neg (by omega)]
      show s64 (Ieee.double.write _) = _
      rw [write_inf]
    · obtain ⟨n, j, e2, _, _, _, v⟩ := read_fin hb (by omega)
      have hz := mag_zero (v K (by omega))
      unfold fMul Ieee.Format.mul
      rw [read_inf ha i1, e2]
      by_cases z : rg b = 0
      · rw [if_pos (.inr z)]
        simp only [Ieee.Datum.product, hz.2 z, if_true]
        rfl
      · rw [if_neg (by omega)]
        have hne : ¬ n = 0 := fun h => z (hz.1 h)
        simp only [Ieee.Datum.product, hne, if_false]
        show s64 (Ieee.double.write _) = _
        rw [write_inf]
  · by_cases i2 : rg b = infR
    · rw [if_pos (.inr i2)]
      obtain ⟨n, j, e2, _, _, _, v⟩ := read_fin ha (by omega)
      have hz := mag_zero (v K (by omega))
      unfold fMul Ieee.Format.mul
      rw [read_inf hb i2, e2]
      by_cases z : rg a = 0
      · rw [if_pos (.inl z)]
        simp only [Ieee.Datum.product, hz.2 z, if_true]
        rfl
      · rw [if_neg (by omega)]
        have hne : ¬ n = 0 := fun h => z (hz.1 h)
        simp only [Ieee.Datum.product, hne, if_false]
        show s64 (Ieee.double.write _) = _
        rw [write_inf, Bool.xor_comm]
    · rw [if_neg (by omega)]
      exact fMul_fin ha hb (by omega) (by omega) hK

def mDiv (K : Nat) (a b : Int) : Int :=
  if infR < rg a ∨ infR < rg b then theNaN
  else if rg a = infR then (if rg b = infR then theNaN else sg (ngv a ^^ ngv b) infR)
  else if rg b = infR then sg (ngv a ^^ ngv b) 0
  else if rg b = 0 then (if rg a = 0 then theNaN else sg (ngv a ^^ ngv b) infR)
  else rnd K (ngv a ^^ ngv b) (val K (rg a) * 2 ^ K) (val K (rg b))

theorem fDiv_eq {a b : Int} (ha : In64 a) (hb : In64 b) {K : Nat} (hK : 2400 ≤ K) : fDiv a b = mDiv K a b := by
  unfold mDiv
  by_cases n1 : infR < rg a
  · rw [if_pos (.inl n1)]
    obtain ⟨x, y, e⟩ := read_nan ha n1
    unfold fDiv Ieee.Format.div
    rw [e]
    rfl
  by_cases n2 : infR < rg b
  · rw [if_pos (.inr n2)]
    obtain ⟨x, y, e⟩ := read_nan hb n2
    unfold fDiv Ieee.Format.div
    rw [e]
    cases Ieee.double.read (wd a) <;> rfl
  rw [if_neg (by omega)]
  by_cases i1 : rg a = infR
  · rw [if_pos i1]
    by_cases i2 : rg b = infR
    · rw [if_pos i2]
      unfold fDiv Ieee.Format.div
      rw [read_inf ha i1, read_inf hb i2]
      rfl
    · rw [if_neg i2]
      obtain ⟨n, j, e2, _⟩ := read_fin hb (by omega)
      unfold fDiv Ieee.Format.div
      rw [read_inf ha i1, e2]
      show s64 (Ieee.double.write _) = _
      rw [write_inf]
  · rw [if_neg i1]
    obtain ⟨m, i, e1, _, _, _, v1⟩ := read_fin ha (by omega)
    have hz1 := mag_zero (v1 K (by omega))
    by_cases i2 : rg b = infR
    · rw [if_pos i2]
      unfold fDiv Ieee.Format.div
      rw [read_inf hb i2, e1]
      show s64 (Ieee.double.nearest _ 0 _) = _
      unfold Ieee.Format.nearest
      rw [if_pos rfl, s64_word _ (by omega)]
    · rw [if_neg i2]
      by_cases z : rg b = 0
      · rw [if_pos z]
        obtain ⟨n, j, e2, _, _, _, v2⟩ := read_fin hb (by omega)
        have hz2 := mag_zero (v2 K (by omega))
        unfold fDiv Ieee.Format.div
        rw [e1, e2]
        by_cases y : rg a = 0
        · rw [if_pos y]
          simp only [Ieee.Datum.quotient, hz2.2 z, hz1.2 y, if_true]
          rfl
        · rw [if_neg y]
          have hne : ¬ m = 0 := fun h => y (hz1.1 h)
          simp only [Ieee.Datum.quotient, hz2.2 z, hne, if_true, if_false]
          show s64 (Ieee.double.write _) = _
          rw [write_inf]
      · rw [if_neg z]
        exact fDiv_fin ha hb (by omega) (by omega) z hK

def ord (a : Int) : Int := if ngv a then -(rg a : Int) else (rg a : Int)

def fLess (a b : Int) : Bool := Ieee.double.order (wd a) (wd b) == some .lt
def fEqual (a b : Int) : Bool := Ieee.double.order (wd a) (wd b) == some .eq

theorem compare_mul (x y : Int) (p : Nat) : compare x y = compare (x * (2 ^ p : Nat)) (y * (2 ^ p : Nat)) := by
  have hp : (0 : Int) < (2 ^ p : Nat) := by have := pow_pos2 p; omega
  have h1 : x < y ↔ x * (2 ^ p : Nat) < y * (2 ^ p : Nat) := (Int.mul_lt_mul_right hp).symm
  have h2 : x = y ↔ x * (2 ^ p : Nat) = y * (2 ^ p : Nat) := by
    constructor
    · intro h; rw [h]
    · intro h; exact Int.eq_of_mul_eq_mul_right (by omega) h
  simp only [compare, compareOfLessAndEq, h1, h2]

theorem sv_ord (K : Nat) (a b : Int) : compare (sv K a) (sv K b) = compare (ord a) (ord b) := by
  have h1 : val K (rg a) < val K (rg b) ↔ rg a < rg b := val_lt_iff
  have h2 : val K (rg b) < val K (rg a) ↔ rg b < rg a := val_lt_iff
  have h3 : val K (rg a) = 0 ↔ rg a = 0 := val_eq_zero
  have h4 : val K (rg b) = 0 ↔ rg b = 0 := val_eq_zero
  have g1 : sv K a < sv K b ↔ ord a < ord b := by
    unfold sv ord
    cases ngv a <;> cases ngv b <;> simp <;> omega
  have g2 : sv K a = sv K b ↔ ord a = ord b := by
    unfold sv ord
    cases ngv a <;> cases ngv b <;> simp <;> omega
  simp only [compare, compareOfLessAndEq, g1, g2]

theorem order_eq {a b : Int} (ha : In64 a) (hb : In64 b) : Ieee.double.order (wd a) (wd b) = if infR < rg a ∨ infR < rg b then none else some (compare (ord a) (ord b)) := by
  have hi0 : infR ≠ 0 := by decide
  unfold Ieee.Format.order
  by_cases n1 : infR < rg a
  · rw [if_pos (.inl n1)]
    obtain ⟨x, y, e⟩ := read_nan ha n1
    rw [e]
    rfl
  by_cases n2 : infR < rg b
  · rw [if_pos (.inr n2)]
    obtain ⟨x, y, e⟩ := read_nan hb n2
    rw [e]
    cases Ieee.double.read (wd a) <;> rfl
  rw [if_neg (by omega)]
  by_cases i1 : rg a = infR
  · by_cases i2 : rg b = infR
    · rw [read_inf ha i1, read_inf hb i2]
      unfold ord
      rw [i1, i2]
      cases ngv a <;> cases ngv b <;> decide
    · obtain ⟨n, j, e2, _⟩ := read_fin hb (by omega)
      rw [read_inf ha i1, e2]
      unfold ord
      cases ngv a
      · have h1 : ¬ ((rg a : Int) < if ngv b then -(rg b : Int) else (rg b : Int)) := by split <;> omega
        have h2 : ¬ ((rg a : Int) = if ngv b then -(rg b : Int) else (rg b : Int)) := by split <;> omega
        simp only [Ieee.Datum.order, compare, compareOfLessAndEq, Bool.false_eq_true, if_false, h1, h2]
      · have h1 : (-(rg a : Int) < if ngv b then -(rg b : Int) else (rg b : Int)) := by split <;> omega
        simp only [Ieee.Datum.order, compare, compareOfLessAndEq, if_true, h1]
  · obtain ⟨m, i, e1, ia, _, _, v1⟩ := read_fin ha (by omega)
    by_cases i2 : rg b = infR
    · rw [read_inf hb i2, e1]
      unfold ord
      cases ngv b
      · have h1 : ((if ngv a then -(rg a : Int) else (rg a : Int)) < (rg b : Int)) := by split <;> omega
        simp only [Ieee.Datum.order, compare, compareOfLessAndEq, Bool.false_eq_true, if_false, h1, if_true]
      · have h1 : ¬ ((if ngv a then -(rg a : Int) else (rg a : Int)) < -(rg b : Int)) := by split <;> omega
        have h2 : ¬ ((if ngv a then -(rg a : Int) else (rg a : Int)) = -(rg b : Int)) := by split <;> omega
        simp only [Ieee.Datum.order, compare, compareOfLessAndEq, if_true, h1, h2, if_false]
    · obtain ⟨n, j, e2, jb, _, _, v2⟩ := read_fin hb (by omega)
      rw [e1, e2]
      show some (compare (Ieee.signed (ngv a) m (i - min i j).toNat) (Ieee.signed (ngv b) n (j - min i j).toNat)) = _
      rw [compare_mul _ _ (min i j + (1074 : Nat)).toNat, signed_scale, signed_scale]
      have k1 : (i - min i j).toNat + (min i j + (1074 : Nat)).toNat = (i + (1074 : Nat)).toNat := by omega
      have k2 : (j - min i j).toNat + (min i j + (1074 : Nat)).toNat = (j + (1074 : Nat)).toNat := by omega
      rw [k1, k2, v1 1074 (by omega), v2 1074 (by omega)]
      exact congrArg some (sv_ord 1074 a b)

def notNaN (a b : Int) : Bool := decide (rg a ≤ infR) && decide (rg b ≤ infR)

theorem fLess_eq {a b : Int} (ha : In64 a) (hb : In64 b) : fLess a b = (notNaN a b && decide (ord a < ord b)) := by
  unfold fLess notNaN
  rw [order_eq ha hb]
  by_cases n : infR < rg a ∨ infR < rg b
  · rw [if_pos n]
    have : (decide (rg a ≤ infR) && decide (rg b ≤ infR)) = false := by
      rcases n with h | h
      · simp; omega
      · simp; omega
    rw [this]; rfl
  · rw [if_neg n]
    have e1 : rg a ≤ infR := by omega
    have e2 : rg b ≤ infR := by omega
    simp only [e1, e2, decide_true, Bool.true_and, compare, compareOfLessAndEq]
    by_cases h : ord a < ord b
    · simp [h]
    · by_cases h' : ord a = ord b
      · simp [h']
      · simp [h, h']

theorem fEqual_eq {a b : Int} (ha : In64 a) (hb : In64 b) : fEqual a b = (notNaN a b && decide (ord a = ord b)) := by
  unfold fEqual notNaN
  rw [order_eq ha hb]
  by_cases n : infR < rg a ∨ infR < rg b
  · rw [if_pos n]
    have : (decide (rg a ≤ infR) && decide (rg b ≤ infR)) = false := by
      rcases n with h | h
      · simp; omega
      · simp; omega
    rw [this]; rfl
  · rw [if_neg n]
    have e1 : rg a ≤ infR := by omega
    have e2 : rg b ≤ infR := by omega
    simp only [e1, e2, decide_true, Bool.true_and, compare, compareOfLessAndEq]
    by_cases h : ord a < ord b
    · have : ord a ≠ ord b := by omega
      simp [h, this]
    · by_cases h' : ord a = ord b
      · simp [h']
      · simp [h, h']

def fOf (n : Int) : Int := if n < -9007199254740992 ∨ 9007199254740992 < n then theNaN else s64 (floatOfInt .f64 n)

theorem ofInt_eq (n : Int) {K : Nat} (hK : 1074 ≤ K) : s64 (floatOfInt .f64 n) = rnd K (decide (n < 0)) (n.natAbs * 2 ^ K) 1 := by
  show s64 (Ieee.double.nearest _ _ _) = _
  rw [nearest_s64 _ _ _ K (by omega) hK]
  have : ((0 : Int) + K).toNat = K := by omega
  rw [this]

end Flt
end Go.Proofs.YtnilempeldlieaaGreat
namespace Go.Proofs.YtnilempeldlieaaGreat
open Go.RowKit Flt
set_option maxRecDepth 100000






theorem run_frombits (n : Int) (w : World) : Sem.run Tryz.prog (callFunc 220 #[Value.int IntKind.u64 n]) w = .ok (.value (.float .f64 n.toNat)) w := by
  rw [run_callFunc_extern (P := Tryz.prog) (f := 220) (e := Extern.MathFloatBits.float64frombits) Tryz.func220 (by kernel_rfl) (by kernel_rfl) (by kernel_rfl) (by kernel_rfl)]
  rfl
theorem run_bits (r : Nat) (w : World) : Sem.run Tryz.prog (callFunc 236 #[Value.float .f64 r]) w = .ok (.value (.int .u64 r)) w := by
  rw [run_callFunc_extern (P := Tryz.prog) (f := 236) (e := Extern.MathFloatBits.float64bits) Tryz.func236 (by kernel_rfl) (by kernel_rfl) (by kernel_rfl) (by kernel_rfl)]
  rfl

set_option maxHeartbeats 400000 in
theorem floatOf_any (a : Int) (w : World) : Calls Tryz.prog 197 #[.int .i64 a] w fun e w' => e = .returned (.float .f64 (wd a)) ∧ w = w' := by
  have e : wd a = (IntKind.u64.wrap a).toNat := by unfold wd; rw [IntKind.wrap_u64]
  go_enter Tryz.func197, Tryz.ntmps197
  go_wp2
  rw [run_frombits]
  go_wp2
  go_ret; exact ⟨by rw [e]; rfl, rfl⟩

set_option maxHeartbeats 400000 in
theorem bitsOf_any (r : Nat) (w : World) (hr : r < 18446744073709551616) : Calls Tryz.prog 218 #[.float .f64 r] w fun e w' => e = .returned (.int .i64 (canon (s64 r))) ∧ w = w' := by
  have e : IntKind.i64.wrap (r : Int) = s64 r := by unfold s64; rw [IntKind.wrap_i64]; split <;> omega
  go_enter Tryz.func218, Tryz.ntmps218
  go_wp2
  rw [run_bits]
  go_wp2_with (go_at_call 166; refine (canon_any _ _).mono ?_; rintro e w' ⟨rfl, rfl⟩)
  go_ret; exact ⟨by first | rw [e] | rfl, rfl⟩

theorem run_fbin (op : BinOp) (o : Option Nat) (x y : Nat) (ho : floatBits op .f64 x y = o) (hop : op = .add ∨ op = .sub ∨ op = .mul ∨ op = .quo) (hn : ∀ r, o = some r → rg (s64 r) ≤ infR) (w : World) :
    ∃ v w', (binOp op 139 (.float .f64 x) (.float .f64 y)).run Tryz.prog w = .ok (.float .f64 v) w' ∧ v < 18446744073709551616 ∧ canon (s64 v) = bitsOr o ∧ (w' = w ∨ w' = w.drew) := by
  cases o with
  | some r =>
    refine ⟨r, w, run_float_arith w op 139 .f64 x y r ho, ?_, ?_, .inl rfl⟩
    · have := floatBits_wf ho
      simpa [Lit.wf] using this
    · unfold canon
      rw [if_neg (by have := hn r rfl; omega)]
      rfl
  | none =>
    refine ⟨(Question.nanBits .f64 x y).cut (w.tape w.drawn (Question.nanBits .f64 x y)), w.drew, ?_, ?_, ?_, .inr rfl⟩
    · unfold floatBits at ho
      rcases hop with rfl | rfl | rfl | rfl
      all_goals
        simp only at ho
        simp [binOp, Op.floatArith, ho, choose, Sem.run, Question.forced]
    · simp only [Question.cut]; omega
    · simp only [Question.cut]
      generalize w.tape w.drawn (Question.nanBits .f64 x y) = t
      have : infR < rg (s64 (t % 2 * 2 ^ 63 + 9218868437227405312 + 1 + t / 2 % (2 ^ 52 - 1))) := by
        have hi : infR = 9218868437227405312 := rfl
        have hr : t / 2 % (2 ^ 52 - 1) < 2 ^ 52 - 1 := Nat.mod_lt _ (by decide)
        generalize t / 2 % (2 ^ 52 - 1) = r at *
        unfold rg s64
        rcases Nat.mod_two_eq_zero_or_one t with h | h
        · rw [h]; split <;> omega
        · rw [h]; split <;> omega
      unfold canon
      rw [if_pos this]
      rfl

theorem rg_inf_le (n : Bool) : rg (sg n infR) ≤ infR := by rw [rg_sg n (by decide)]; exact Nat.le_refl _
theorem rg_near (n : Bool) (m : Nat) (p : Int) : rg (s64 (Ieee.double.nearest n m p)) ≤ infR := by
  have h : ∃ K : Nat, 0 ≤ p + K ∧ 1074 ≤ K := ⟨p.natAbs + 1074, by omega, by omega⟩
  obtain ⟨K, h1, h2⟩ := h
  rw [nearest_s64 n m p K h1 h2]
  unfold rnd
  rw [rg_sg _ (min_lt _)]
  omega
theorem rg_write (d : Ieee.Datum) (h : d.isNaN = false) : rg (s64 (Ieee.double.write d)) ≤ infR := by
  cases d with
  | number n m p => exact rg_near n m p
  | infinity n => rw [write_inf]; exact rg_inf_le n
  | nan n t => cases h
theorem sum_nn (d e f : Ieee.Datum) (h : d.sum e = some f) : f.isNaN = false := by
  cases d <;> cases e <;> simp only [Ieee.Datum.sum] at h
  all_goals first
    | (cases h; rfl)
    | (split at h
       · cases h; rfl
       · cases h)
    | cases h
theorem product_nn (d e f : Ieee.Datum) (h : d.product e = some f) : f.isNaN = false := by
  cases d <;> cases e <;> simp only [Ieee.Datum.product] at h
  all_goals first
    | (cases h; rfl)
    | (split at h
       · cases h
       · cases h; rfl)
    | cases h
theorem quotient_nn (k : Nat) (d e f : Ieee.Datum) (h : d.quotient k e = some f) : f.isNaN = false := by
  cases d <;> cases e <;> simp only [Ieee.Datum.quotient] at h
  all_goals first
    | (cases h; rfl)
    | (split at h
       · split at h
         · cases h
         · cases h; rfl
       · cases h; rfl)
    | cases h
theorem map_nn (o : Option Ieee.Datum) (h : ∀ f, o = some f → f.isNaN = false) (r : Nat) (hr : o.map Ieee.double.write = some r) : rg (s64 r) ≤ infR := by
  cases o with
  | none => cases hr
  | some d => cases hr; exact rg_write d (h d rfl)
theorem run_fadd (a b : Int) (w : World) : ∃ v w', (binOp .add 139 (.float .f64 (wd a)) (.float .f64 (wd b))).run Tryz.prog w = .ok (.float .f64 v) w' ∧ v < 18446744073709551616 ∧ canon (s64 v) = fAdd a b ∧ (w' = w ∨ w' = w.drew) :=
  run_fbin .add _ _ _ rfl (.inl rfl) (fun r h => map_nn _ (fun _ => sum_nn _ _ _) r h) w
theorem run_fsub (a b : Int) (w : World) : ∃ v w', (binOp .sub 139 (.float .f64 (wd a)) (.float .f64 (wd b))).run Tryz.prog w = .ok (.float .f64 v) w' ∧ v < 18446744073709551616 ∧ canon (s64 v) = fSub a b ∧ (w' = w ∨ w' = w.drew) :=
  run_fbin .sub _ _ _ rfl (.inr (.inl rfl)) (fun r h => map_nn _ (fun _ => sum_nn _ _ _) r h) w
theorem run_fmul (a b : Int) (w : World) : ∃ v w', (binOp .mul 139 (.float .f64 (wd a)) (.float .f64 (wd b))).run Tryz.prog w = .ok (.float .f64 v) w' ∧ v < 18446744073709551616 ∧ canon (s64 v) = fMul a b ∧ (w' = w ∨ w' = w.drew) :=
  run_fbin .mul _ _ _ rfl (.inr (.inr (.inl rfl))) (fun r h => map_nn _ (fun _ => product_nn _ _ _) r h) w
theorem run_fdiv (a b : Int) (w : World) : ∃ v w', (binOp .quo 139 (.float .f64 (wd a)) (.float .f64 (wd b))).run Tryz.prog w = .ok (.float .f64 v) w' ∧ v < 18446744073709551616 ∧ canon (s64 v) = fDiv a b ∧ (w' = w ∨ w' = w.drew) :=
  run_fbin .quo _ _ _ rfl (.inr (.inr (.inr rfl))) (fun r h => map_nn _ (fun _ => quotient_nn _ _ _ _) r h) w

def fOp (do_ a b : Int) : Int := if do_ = 0 then fAdd a b else if do_ = 1 then fSub a b else if do_ = 2 then fMul a b else if do_ = 3 then fDiv a b else theNaN

theorem below_or {w w' : World} (h : w' = w ∨ w' = w.drew) : Below w.heap.size w w' := by
  rcases h with rfl | rfl
  · exact Below.refl _ _
  · exact Below.drew (Below.refl _ _)

set_option maxHeartbeats 1000000 in
theorem fop_any (do_ a b : Int) (w : World) : Calls Tryz.prog 194 #[.int .i64 do_, .int .i64 a, .int .i64 b] w fun e w' => e = .returned (.int .i64 (fOp do_ a b)) ∧ Below w.heap.size w w' := by
  by_cases h0 : do_ = 0
  · have e : fOp do_ a b = fAdd a b := by unfold fOp; rw [if_pos h0]
    rw [e]; clear e
    subst h0
    obtain ⟨v, w1, h1, h2, h3, h4⟩ := run_fadd a b w
    have H2 := hid h2
    have H3 := hid h3
    have H4 := hid h4
    clear h2 h3 h4
    go_enter Tryz.func194, Tryz.ntmps194
    go_wp2_with (first | (go_at_call 197; refine (floatOf_any _ _).mono ?_; rintro e w' ⟨rfl, rfl⟩) | (go_at_call 218; refine (bitsOf_any _ _ H2.out).mono ?_; rintro e w' ⟨rfl, rfl⟩))
    go_ret; exact ⟨by rw [← H3.out]; rfl, below_or H4.out⟩
  by_cases h1 : do_ = 1
  · have e : fOp do_ a b = fSub a b := by unfold fOp; rw [if_neg h0, if_pos h1]
    rw [e]; clear e
    subst h1
    obtain ⟨v, w1, h1, h2, h3, h4⟩ := run_fsub a b w
    have H2 := hid h2
    have H3 := hid h3
    have H4 := hid h4
    clear h2 h3 h4 h0
    go_enter Tryz.func194, Tryz.ntmps194
    go_wp2_with (first | (go_at_call 197; refine (floatOf_any _ _).mono ?_; rintro e w' ⟨rfl, rfl⟩) | (go_at_call 218; refine (bitsOf_any _ _ H2.out).mono ?_; rintro e w' ⟨rfl, rfl⟩))
    go_ret; exact ⟨by rw [← H3.out]; rfl, below_or H4.out⟩
  by_cases h2 : do_ = 2
  · have e : fOp do_ a b = fMul a b := by unfold fOp; rw [if_neg h0, if_neg h1, if_pos h2]
    rw [e]; clear e
    subst h2
    obtain ⟨v, w1, h1, h2, h3, h4⟩ := run_fmul a b w
    have H2 := hid h2
    have H3 := hid h3
    have H4 := hid h4
    clear h2 h3 h4 h0
    go_enter Tryz.func194, Tryz.ntmps194
    go_wp2_with (first | (go_at_call 197; refine (floatOf_any _ _).mono ?_; rintro e w' ⟨rfl, rfl⟩) | (go_at_call 218; refine (bitsOf_any _ _ H2.out).mono ?_; rintro e w' ⟨rfl, rfl⟩))
    go_ret; exact ⟨by rw [← H3.out]; rfl, below_or H4.out⟩
  by_cases h3 : do_ = 3
  · have e : fOp do_ a b = fDiv a b := by unfold fOp; rw [if_neg h0, if_neg h1, if_neg h2, if_pos h3]
    rw [e]; clear e
    subst h3
    obtain ⟨v, w1, h1, h2, h3, h4⟩ := run_fdiv a b w
    have H2 := hid h2
    have H3 := hid h3
    have H4 := hid h4
    clear h2 h3 h4 h0
    go_enter Tryz.func194, Tryz.ntmps194
    go_wp2_with (first | (go_at_call 197; refine (floatOf_any _ _).mono ?_; rintro e w' ⟨rfl, rfl⟩) | (go_at_call 218; refine (bitsOf_any _ _ H2.out).mono ?_; rintro e w' ⟨rfl, rfl⟩))
    go_ret; exact ⟨by rw [← H3.out]; rfl, below_or H4.out⟩
  · have e : fOp do_ a b = 9221120237041090561 := by unfold fOp; rw [if_neg h0, if_neg h1, if_neg h2, if_neg h3]; rfl
    rw [e]; clear e
    have g0 : (do_ == 0) = false := by rw [beq_eq_false_iff_ne]; exact h0
    have g1 : (do_ == 1) = false := by rw [beq_eq_false_iff_ne]; exact h1
    have g2 : (do_ == 2) = false := by rw [beq_eq_false_iff_ne]; exact h2
    have g3 : (do_ == 3) = false := by rw [beq_eq_false_iff_ne]; exact h3
    clear h0 h1 h2 h3
    go_enter Tryz.func194, Tryz.ntmps194
    go_wp2_with (go_at_call 197; refine (floatOf_any _ _).mono ?_; rintro e w' ⟨rfl, rfl⟩)
    go_ret; exact ⟨rfl, Below.refl _ _⟩

set_option maxHeartbeats 400000 in
theorem fof_any (n : Int) (w : World) : Calls Tryz.prog 219 #[.int .i64 n] w fun e w' => e = .returned (.int .i64 (fOf n)) ∧ w = w' := by
  by_cases h : n < -9007199254740992 ∨ 9007199254740992 < n
  · have e : fOf n = 9221120237041090561 := by unfold fOf; rw [if_pos h]; rfl
    rw [e]; clear e
    rcases h with h | h
    · go_enter Tryz.func219, Tryz.ntmps219
      go_wp2
      go_ret; exact ⟨rfl, rfl⟩
    · have h' : ¬ n < -9007199254740992 := by omega
      go_enter Tryz.func219, Tryz.ntmps219
      go_wp2
      go_ret; exact ⟨rfl, rfl⟩
  · have h1 : ¬ n < -9007199254740992 := by omega
    have h2 : ¬ 9007199254740992 < n := by omega
    have e : fOf n = canon (s64 (floatOfInt .f64 n)) := by
      unfold fOf canon; rw [if_neg h, if_neg]
      have := rg_near (decide (n < 0)) n.natAbs 0
      intro g
      exact absurd g (Nat.not_lt.2 this)
    have hw : floatOfInt .f64 n < 18446744073709551616 := by
      have := floatOfInt_wf .f64 n
      simpa [Lit.wf] using this
    have H := hid hw
    rw [e]; clear e h hw
    go_enter Tryz.func219, Tryz.ntmps219
    go_wp2_with (go_at_call 218; refine (bitsOf_any _ _ H.out).mono ?_; rintro e w' ⟨rfl, rfl⟩)
    go_ret; exact ⟨rfl, rfl⟩

set_option maxHeartbeats 400000 in
theorem fless_any (a b : Int) (w : World) : Calls Tryz.prog 153 #[.int .i64 a, .int .i64 b] w fun e w' => e = .returned (.bool (fLess a b)) ∧ w = w' := by
  go_enter Tryz.func153, Tryz.ntmps153
  go_wp2_with (go_at_call 197; refine (floatOf_any _ _).mono ?_; rintro e w' ⟨rfl, rfl⟩)
  go_ret; exact ⟨rfl, rfl⟩
set_option maxHeartbeats 400000 in
theorem fequal_any (a b : Int) (w : World) : Calls Tryz.prog 154 #[.int .i64 a, .int .i64 b] w fun e w' => e = .returned (.bool (fEqual a b)) ∧ w = w' := by
  go_enter Tryz.func154, Tryz.ntmps154
  go_wp2_with (go_at_call 197; refine (floatOf_any _ _).mono ?_; rintro e w' ⟨rfl, rfl⟩)
  go_ret; exact ⟨rfl, rfl⟩

end Go.Proofs.YtnilempeldlieaaGreat
namespace Go.Proofs.YtnilempeldlieaaGreat
open Go.RowKit Flt
set_option maxRecDepth 100000
namespace Flt

theorem cut_zero (neg : Bool) (n drop : Nat) : Ieee.Toward.zero.cut neg n drop = n / 2 ^ drop := by
  unfold Ieee.Toward.cut
  dsimp only
  rw [show Bool.toNat false = 0 from rfl, Nat.add_zero, Nat.shiftLeft_eq, Nat.one_mul]
  by_cases hd : drop ≤ n.log2 + 2
  · rw [Nat.min_eq_left hd]
  · rw [Nat.min_eq_right (by omega)]
    have hn : n < 2 ^ (n.log2 + 1) := Nat.lt_log2_self
    have ha : 2 ^ (n.log2 + 2) = 2 * 2 ^ (n.log2 + 1) := by rw [Nat.pow_succ]; omega
    have hb : 2 ^ (n.log2 + 2) ≤ 2 ^ drop := Nat.pow_le_pow_right (by omega) (by omega)
    rw [Nat.div_eq_of_lt (by omega), Nat.div_eq_of_lt (by omega)]

def tm (a : Int) : Nat := match (Ieee.double.read (wd a)).toInt .zero with
  | some n => n.natAbs
  | none => 0
def tv (a : Int) : Int := if ngv a then -(tm a : Int) else (tm a : Int)

theorem toInt_fin {a : Int} (h : In64 a) (hf : rg a < infR) : (Ieee.double.read (wd a)).toInt .zero = some (tv a) ∧ ∀ K : Nat, 1074 ≤ K → tm a = val K (rg a) / 2 ^ K := by
  obtain ⟨m, i, e, i1, _, _, v⟩ := read_fin h hf
  have h1 : (Ieee.double.read (wd a)).toInt .zero = some (if ngv a then -((m * 2 ^ i.toNat / 2 ^ (-i).toNat : Nat) : Int) else ((m * 2 ^ i.toNat / 2 ^ (-i).toNat : Nat) : Int)) := by
    rw [e]
    show some (Ieee.signed _ _ 0) = _
    rw [signed_eq, cut_zero, Nat.pow_zero, Nat.mul_one, Nat.shiftLeft_eq]
  have h2 : tm a = m * 2 ^ i.toNat / 2 ^ (-i).toNat := by
    unfold tm
    rw [h1]
    generalize m * 2 ^ i.toNat / 2 ^ (-i).toNat = q
    cases ngv a <;> simp
  refine ⟨?_, fun K hK => ?_⟩
  · rw [h1]
    unfold tv
    rw [h2]
  · rw [h2, ← v K hK]
    rcases Int.le_total 0 i with g | g
    · have e1 : (-i).toNat = 0 := by omega
      have e2 : (i + K).toNat = i.toNat + K := by omega
      rw [e1, e2, Nat.pow_zero, Nat.div_one, Nat.pow_add, ← Nat.mul_assoc, Nat.mul_div_cancel _ (pow_pos2 K)]
    · have e1 : i.toNat = 0 := by omega
      have e2 : K = (-i).toNat + (i + K).toNat := by omega
      rw [e1, Nat.pow_zero, Nat.mul_one]
      have e3 : m * 2 ^ (i + K).toNat / 2 ^ K = m * 2 ^ (i + K).toNat / (2 ^ (-i).toNat * 2 ^ (i + K).toNat) := by rw [← Nat.pow_add, ← e2]
      rw [e3, Nat.mul_div_mul_right _ _ (pow_pos2 _)]

def tb (a : Int) : Bool := decide (rg a < infR) && decide (-1073741824 ≤ tv a) && decide (tv a < 1073741824)

def fTr (a : Int) : Int := if tb a then tv a else 0

def lowC : Int := -4481081629229449216
def topC : Int := 4742290407621132288

theorem rg_top : rg topC = 4742290407621132288 := by decide
theorem rg_low : rg lowC = 4742290407625326592 := by decide
theorem val_top {K : Nat} (hK : 1074 ≤ K) : val K 4742290407621132288 = 1073741824 * 2 ^ K := by
  unfold val
  rw [if_neg (by decide)]
  have e : K - 1074 + (4742290407621132288 / 2 ^ 52 - 1) + 22 = K := by omega
  have e2 : 2 ^ 52 + 4742290407621132288 % 2 ^ 52 = 1073741824 * 2 ^ 22 := by decide
  rw [e2, Nat.mul_assoc, ← Nat.pow_add, Nat.add_comm, e]
theorem val_low {K : Nat} (hK : 1074 ≤ K) : val K 4742290407625326592 = 1073741825 * 2 ^ K := by
  unfold val
  rw [if_neg (by decide)]
  have e : K - 1074 + (4742290407625326592 / 2 ^ 52 - 1) + 22 = K := by omega
  have e2 : 2 ^ 52 + 4742290407625326592 % 2 ^ 52 = 1073741825 * 2 ^ 22 := by decide
  rw [e2, Nat.mul_assoc, ← Nat.pow_add, Nat.add_comm, e]

theorem tb_eq' {a : Int} (h : In64 a) {K : Nat} (hK : 1074 ≤ K) : (fLess lowC a && fLess a topC) = tb a := by
  have hi : infR = 9218868437227405312 := rfl
  rw [fLess_eq (by unfold In64 lowC; omega) h, fLess_eq h (by unfold In64 topC; omega)]
  have o1 : ord lowC = -4742290407625326592 := by decide
  have o2 : ord topC = 4742290407621132288 := by decide
  rw [o1, o2]
  unfold notNaN
  rw [rg_top, rg_low]
  unfold tb
  by_cases hn : rg a ≤ infR
  · by_cases hf : rg a < infR
    · have hk := (toInt_fin h hf).2 K hK
      have v1 := val_top hK
      have v2 := val_low hK
      have l1 : val K (rg a) < 1073741824 * 2 ^ K ↔ rg a < 4742290407621132288 := by rw [← v1]; exact val_lt_iff
      have l2 : val K (rg a) < 1073741825 * 2 ^ K ↔ rg a < 4742290407625326592 := by rw [← v2]; exact val_lt_iff
      have hp := pow_pos2 K
      rw [← Nat.div_lt_iff_lt_mul hp, ← hk] at l1 l2
      have hi1 : (4742290407625326592 : Nat) ≤ infR := by decide
      have hi2 : (4742290407621132288 : Nat) ≤ infR := by decide
      simp only [hn, hf, hi1, hi2, decide_true, Bool.true_and, Bool.and_true]
      rw [Bool.eq_iff_iff]
      simp only [Bool.and_eq_true, decide_eq_true_eq]
      unfold ord tv
      cases ngv a
      · simp only [Bool.false_eq_true, if_false]; omega
      · simp only [if_true]; omega
    · have he : rg a = infR := by omega
      have : ¬ ((-4742290407625326592 < ord a) ∧ (ord a < 4742290407621132288)) := by
        unfold ord; rw [he, hi]; cases ngv a <;> simp
      simp only [hf, decide_false, Bool.false_and]
      rw [Bool.eq_false_iff]
      intro g
      simp only [Bool.and_eq_true, decide_eq_true_eq] at g
      exact this ⟨g.1.2, g.2.2⟩
  · have hf : ¬ rg a < infR := by omega
    simp only [hn, hf, decide_false, Bool.false_and, Bool.and_false]

theorem tb_eq {a : Int} (h : In64 a) : (fLess lowC a && fLess a topC) = tb a := tb_eq' h (Nat.le_refl 1074)

end Flt

set_option maxHeartbeats 1000000 in
theorem trunc_any (a : Int) (h : In64 a) (w : World) : Calls Tryz.prog 198 #[.int .i64 a] w fun e w' => e = .returned (.tuple #[.int .i64 (fTr a), .bool (tb a)]) ∧ w = w' := by
  have hb := tb_eq h
  have c1 : (FloatKind.f64.format.order 13965662444480102400 (wd a) == some .lt) = fLess lowC a := by
    have : (13965662444480102400 : Nat) = wd lowC := by decide
    rw [this]; rfl
  have c2 : (FloatKind.f64.format.order (wd a) 4742290407621132288 == some .lt) = fLess a topC := by
    have : (4742290407621132288 : Nat) = wd topC := by decide
    rw [this]; rfl
  cases h1 : fLess lowC a
  · rw [h1] at hb c1
    have ht : tb a = false := by rw [← hb]; rfl
    have e : fTr a = 0 := by unfold fTr; rw [ht]; rfl
    rw [e, ht]
    clear e ht hb h1 c2 h
    go_enter Tryz.func198, Tryz.ntmps198
    go_wp2_with (go_at_call 197; refine (floatOf_any _ _).mono ?_; rintro e w' ⟨rfl, rfl⟩)
    go_ret2; exact ⟨rfl, rfl⟩
  · cases h2 : fLess a topC
    · rw [h1, h2] at hb
      rw [h1] at c1
      rw [h2] at c2
      have ht : tb a = false := by rw [← hb]; rfl
      have e : fTr a = 0 := by unfold fTr; rw [ht]; rfl
      rw [e, ht]
      clear e ht hb h1 h2 h
      go_enter Tryz.func198, Tryz.ntmps198
      go_wp2_with (go_at_call 197; refine (floatOf_any _ _).mono ?_; rintro e w' ⟨rfl, rfl⟩)
      go_ret2; exact ⟨rfl, rfl⟩
    · rw [h1, h2] at hb
      rw [h1] at c1
      rw [h2] at c2
      have ht : tb a = true := by rw [← hb]; rfl
      have e : fTr a = tv a := by unfold fTr; rw [ht]; rfl
      have hbd : rg a < infR ∧ -1073741824 ≤ tv a ∧ tv a < 1073741824 := by
        unfold tb at ht
        simpa [and_assoc] using ht
      have hc : floatToIntVal .f64 (wd a) .i64 = some (tv a) := by
        unfold floatToIntVal
        rw [show (FloatKind.f64.decode (wd a)).toInt .zero = some (tv a) from (toInt_fin h hbd.1).1]
        have m1 : IntKind.i64.min = -9223372036854775808 := by decide
        have m2 : IntKind.i64.max = 9223372036854775807 := by decide
        simp only [m1, m2]
        rw [if_pos (by omega)]
      have hv : ∀ w : World, (convert 139 3 (.float .f64 (wd a))).run Tryz.prog w = .ok (.int .i64 (tv a)) w := fun w => run_convert_float_int w 139 3 .f64 .i64 (wd a) (tv a) (by rw [Tryz.underlying139]; rfl) Tryz.underlying3 hc
      rw [e, ht]
      clear e ht hb h1 h2 h hbd hc
      go_enter Tryz.func198, Tryz.ntmps198
      go_wp2_with (go_at_call 197; refine (floatOf_any _ _).mono ?_; rintro e w' ⟨rfl, rfl⟩)
      go_ret2; exact ⟨rfl, rfl⟩

end Go.Proofs.YtnilempeldlieaaGreat
