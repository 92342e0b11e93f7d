/-
  Plain mathematics: the quotient; each operation by its operands' kinds; the order; the float of a whole number; the whole number towards 0. No program is spoken of here.
-/
import Derived.Test.YtdiaegfbaklpbaaQ
namespace Go.Proofs.Ytdiaegfbaklpbaa
namespace Flt

theorem toNat_ne (x : Nat) : (x != 0).toNat = if x = 0 then 0 else 1 := by
  by_cases h : x = 0
  · simp [h]
  · simp [h]

theorem quo_units {m n : Nat} {i j : Int} {K : Nat} (hm : 0 < m) (hn : 0 < n) (hi : -1074 ≤ i) (hj : j ≤ 971) (hj' : -1074 ≤ j) (hn' : n < 9007199254740992) (hK : 2400 ≤ K) (neg : Bool) :
    s64 (Ieee.double.nearest neg (2 * (m <<< (54 + n.log2 - m.log2) / n) + (m <<< (54 + n.log2 - m.log2) % n != 0).toNat) (i - j - (54 + n.log2 - m.log2 : Nat) - 1)) =
      rnd K neg (m * 2 ^ (i + K).toNat * 2 ^ K) (n * 2 ^ (j + K).toNat) := by
  have hln : n.log2 < 53 := (Nat.log2_lt (by omega)).2 hn'
  have hge : 54 + n.log2 ≤ m.log2 + (54 + n.log2 - m.log2) := by omega
  have hle : 54 + n.log2 - m.log2 ≤ 106 := by omega
  rw [Nat.shiftLeft_eq, toNat_ne]
  generalize 54 + n.log2 - m.log2 = more at *
  rw [nearest_s64 _ _ _ K (by omega) (by omega)]
  unfold rnd
  refine congrArg (fun x => sg neg (min x infR)) ?_
  obtain ⟨t, ht⟩ : ∃ t : Nat, (t : Int) = i - j - more + K := ⟨(i - j - more + K).toNat, by omega⟩
  have e1 : (i - j - (more : Int) - 1 + K).toNat = t - 1 := by omega
  rw [e1]
  have hq : 2 ^ 53 ≤ m * 2 ^ more / n := by
    rw [Nat.le_div_iff_mul_le hn]
    have h1 : 2 ^ (54 + n.log2) ≤ m * 2 ^ more := by
      refine Nat.le_trans (Nat.pow_le_pow_right (by omega) hge) ?_
      rw [Nat.pow_add]
      exact Nat.mul_le_mul_right _ (Nat.log2_self_le (by omega))
    have h2 : n < 2 ^ (n.log2 + 1) := Nat.lt_log2_self
    refine Nat.le_trans (Nat.mul_le_mul_left _ (Nat.le_of_lt h2)) ?_
    rw [← Nat.pow_add]
    refine Nat.le_trans (Nat.pow_le_pow_right (by omega) (by omega)) h1
  have hp := pow_pos2 t
  have hN : m * 2 ^ (t + more) / (n * 2 ^ t) = m * 2 ^ more / n := by
    rw [Nat.add_comm, Nat.pow_add, ← Nat.mul_assoc, Nat.mul_div_mul_right _ _ hp]
  have hM : m * 2 ^ (t + more) % (n * 2 ^ t) = m * 2 ^ more % n * 2 ^ t := by
    rw [Nat.add_comm, Nat.pow_add, ← Nat.mul_assoc, Nat.mul_mod_mul_right]
  have hM0 : (m * 2 ^ (t + more) % (n * 2 ^ t) = 0) ↔ (m * 2 ^ more % n = 0) := by
    rw [hM]
    constructor
    · intro h
      rcases Nat.mul_eq_zero.1 h with g | g
      · exact g
      · omega
    · intro h; rw [h, Nat.zero_mul]
  have hs := rq_sticky (K := K) (N := m * 2 ^ (t + more)) (D := n) (t := t) hn (by rw [hN]; omega) (by
    have h1 : 2 ^ (53 + t) ≤ m * 2 ^ (t + more) / n := by
      rw [Nat.pow_add, ← Nat.le_div_iff_mul_le hp, Nat.div_div_eq_div_mul, hN]
      exact hq
    have h2 : 53 + t ≤ Nat.log2 (m * 2 ^ (t + more) / n) := (Nat.le_log2 (by have := pow_pos2 (53 + t); omega)).2 h1
    unfold last
    omega)
  rw [hN] at hs
  simp only [hM0] at hs
  have e2 : ∀ X, X * 2 ^ t = X * 2 ^ (t - 1) * 2 := by
    intro X
    have : 2 ^ t = 2 ^ (t - 1) * 2 := by rw [← Nat.pow_succ]; congr 1; omega
    rw [this, Nat.mul_assoc]
  rw [e2, ← Nat.one_mul 2, rq_scale (by omega), Nat.one_mul] at hs
  rw [hs, ← rq_scale (pow_pos2 (j + K).toNat)]
  have e3 : t + more + (j + K).toNat = (i + K).toNat + K := by omega
  rw [Nat.mul_assoc m, ← Nat.pow_add, Nat.mul_assoc m, ← Nat.pow_add, e3]

theorem val_eq_zero {K r : Nat} : val K r = 0 ↔ r = 0 := by
  constructor
  · intro h
    rcases Nat.eq_zero_or_pos r with g | g
    · exact g
    · have := val_pos (K := K) g; omega
  · intro h; subst h; exact val_zero K

theorem mag_zero {mag : Nat} {p K r : Nat} (h : mag * 2 ^ p = val K r) : mag = 0 ↔ r = 0 := by
  rw [← val_eq_zero (K := K) (r := r), ← h]
  constructor
  · intro g; rw [g, Nat.zero_mul]
  · intro g
    rcases Nat.mul_eq_zero.1 g with k | k
    · exact k
    · have := pow_pos2 p; omega

theorem fDiv_fin {a b : Int} (ha : In64 a) (hb : In64 b) (fa : rg a < infR) (fb : rg b < infR) (zb : rg b ≠ 0) {K : Nat} (hK : 2400 ≤ K) :
    fDiv a b = rnd K (ngv a ^^ ngv b) (val K (rg a) * 2 ^ K) (val K (rg b)) := by
  obtain ⟨m, i, e1, i1, i2, m2, v1⟩ := read_fin ha fa
  obtain ⟨n, j, e2, j1, j2, n2, v2⟩ := read_fin hb fb
  have w1 := v1 K (by omega)
  have w2 := v2 K (by omega)
  have hn : n ≠ 0 := fun h => zb ((mag_zero w2).1 h)
  unfold fDiv Ieee.Format.div
  rw [e1, e2]
  simp only [Ieee.Datum.quotient, hn, if_false]
  show s64 (Ieee.double.nearest _ _ _) = _
  rw [← w1, ← w2]
  rcases Nat.eq_zero_or_pos m with h | h
  · subst h
    have : (2 * (0 <<< (Ieee.double.fractionBits + 2 + n.log2 - Nat.log2 0) / n) + ((0 <<< (Ieee.double.fractionBits + 2 + n.log2 - Nat.log2 0) % n) != 0).toNat) = 0 := by
      rw [Nat.zero_shiftLeft, Nat.zero_div, Nat.zero_mod]; rfl
    rw [this]
    unfold rnd
    rw [Nat.zero_mul, Nat.zero_mul, rq_zero]
    show s64 (Ieee.double.nearest _ 0 _) = _
    unfold Ieee.Format.nearest
    rw [if_pos rfl, s64_word _ (by omega)]
    rfl
  · exact quo_units h (by omega) i1 j2 j1 n2 hK _

/-- How a + b comes out, by the kinds. -/
def mAdd (K : Nat) (a b : Int) : Int :=
  if infR < rg a ∨ infR < rg b then theNaN
  else if rg a = infR then (if rg b = infR then (if ngv a = ngv b then a else theNaN) else a)
  else if rg b = infR then b
  else if sv K a + sv K b = 0 then sg (ngv a && ngv b) 0 else rnd K (decide (sv K a + sv K b < 0)) (sv K a + sv K b).natAbs 1

/-- The other sign. -/
def opp (a : Int) : Int := sg (!ngv a) (rg a)
theorem rg_opp (a : Int) : rg (opp a) = rg a := rg_sg _ (rg_lt a)
theorem ngv_opp (a : Int) : ngv (opp a) = !ngv a := ngv_sg _ (rg_lt a)
theorem in_opp (a : Int) : In64 (opp a) := in_sg _ (rg_lt a)
theorem sv_opp (K : Nat) (a : Int) : sv K (opp a) = - sv K a := by
  unfold sv; rw [ngv_opp, rg_opp]; cases ngv a <;> simp
theorem opp_opp {a : Int} (h : In64 a) : opp (opp a) = a := by
  have := sg_rg h
  unfold opp
  rw [ngv_sg _ (rg_lt a), rg_sg _ (rg_lt a), Bool.not_not, this]

theorem fAdd_eq {a b : Int} (ha : In64 a) (hb : In64 b) {K : Nat} (hK : 1074 ≤ K) : fAdd a b = mAdd K a b := by
  unfold mAdd
  by_cases n1 : infR < rg a
  · rw [if_pos (.inl n1)]
    obtain ⟨x, y, e⟩ := read_nan ha n1
    unfold fAdd Ieee.Format.add
    rw [e]
    rfl
  by_cases n2 : infR < rg b
  · rw [if_pos (.inr n2)]
    obtain ⟨x, y, e⟩ := read_nan hb n2
    unfold fAdd Ieee.Format.add
    rw [e]
    cases Ieee.double.read (wd a) <;> rfl
  rw [if_neg (by omega)]
  by_cases i1 : rg a = infR
  · rw [if_pos i1]
    by_cases i2 : rg b = infR
    · rw [if_pos i2]
      unfold fAdd Ieee.Format.add
      rw [read_inf ha i1, read_inf hb i2]
      by_cases g : ngv a = ngv b
      · rw [if_pos g, g]
        simp only [Ieee.Datum.sum, if_true]
        show s64 (Ieee.double.write _) = _
        rw [write_inf, ← g, ← i1, sg_rg ha]
      · rw [if_neg g]
        simp only [Ieee.Datum.sum, g, if_false]
        rfl
    · rw [if_neg i2]
      obtain ⟨n, j, e2, _⟩ := read_fin hb (by omega)
      unfold fAdd Ieee.Format.add
      rw [read_inf ha i1, e2]
      show s64 (Ieee.double.write _) = _
      rw [write_inf, ← i1, sg_rg ha]
  · rw [if_neg i1]
    by_cases i2 : rg b = infR
    · rw [if_pos i2]
      obtain ⟨n, j, e2, _⟩ := read_fin ha (by omega)
      unfold fAdd Ieee.Format.add
      rw [read_inf hb i2, e2]
      show s64 (Ieee.double.write _) = _
      rw [write_inf, ← i2, sg_rg hb]
    · rw [if_neg i2]
      exact fAdd_fin ha hb (by omega) (by omega) hK

theorem read_opp {b : Int} (hb : In64 b) (fb : ¬ infR < rg b) : Ieee.double.read (wd (opp b)) = (Ieee.double.read (wd b)).opposite := by
  unfold Ieee.Format.read
  dsimp only
  rw [signWeight_eq, wd_mod, wd_mod, wd_div hb, wd_div (in_opp b), binade_eq, infRung_eq, leastPlace_eq, rg_opp, ngv_opp]
  by_cases h1 : rg b < 4503599627370496
  · rw [if_pos h1, if_pos h1]; rfl
  · by_cases h2 : rg b < infR
    · rw [if_neg h1, if_pos h2, if_neg h1, if_pos h2]; rfl
    · have h3 : rg b = infR := by omega
      rw [if_neg h1, if_neg h2, if_pos h3, if_neg h1, if_neg h2, if_pos h3]; rfl

/-- A difference is the sum with the other sign; a NaN's is a NaN. -/
theorem fSub_eq {a b : Int} (hb : In64 b) : fSub a b = if infR < rg b then theNaN else fAdd a (opp b) := by
  by_cases n2 : infR < rg b
  · rw [if_pos n2]
    obtain ⟨x, y, e⟩ := read_nan hb n2
    unfold fSub Ieee.Format.sub
    rw [e]
    cases Ieee.double.read (wd a) <;> rfl
  · rw [if_neg n2]
    unfold fSub fAdd Ieee.Format.sub Ieee.Format.add
    rw [read_opp hb n2]

def mMul (K : Nat) (a b : Int) : Int :=
  if infR < rg a ∨ infR < rg b then theNaN
  else if rg a = infR ∨ rg b = infR then (if rg a = 0 ∨ rg b = 0 then theNaN else sg (ngv a ^^ ngv b) infR)
  else rnd K (ngv a ^^ ngv b) (val K (rg a) * val K (rg b)) (2 ^ K)

theorem fMul_eq {a b : Int} (ha : In64 a) (hb : In64 b) {K : Nat} (hK : 2148 ≤ K) : fMul a b = mMul K a b := by
  have hi0 : infR ≠ 0 := by decide
  unfold mMul
  by_cases n1 : infR < rg a
  · rw [if_pos (.inl n1)]
    obtain ⟨x, y, e⟩ := read_nan ha n1
    unfold fMul Ieee.Format.mul
    rw [e]
    rfl
  by_cases n2 : infR < rg b
  · rw [if_pos (.inr n2)]
    obtain ⟨x, y, e⟩ := read_nan hb n2
    unfold fMul Ieee.Format.mul
    rw [e]
    cases Ieee.double.read (wd a) <;> rfl
  rw [if_neg (by omega)]
  by_cases i1 : rg a = infR
  · rw [if_pos (.inl i1)]
    by_cases i2 : rg b = infR
    · unfold fMul Ieee.Format.mul
      rw [read_inf ha i1, read_inf hb i2, if_neg (by omega)]
      show s64 (Ieee.double.write _) = _
      rw [write_inf]
    · obtain ⟨n, j, e2, _, _, _, v⟩ := read_fin hb (by omega)
      have hz := mag_zero (v K (by omega))
      unfold fMul Ieee.Format.mul
      rw [read_inf ha i1, e2]
      by_cases z : rg b = 0
      · rw [if_pos (.inr z)]
        simp only [Ieee.Datum.product, hz.2 z, if_true]
        rfl
      · rw [if_neg (by omega)]
        have hne : ¬ n = 0 := fun h => z (hz.1 h)
        simp only [Ieee.Datum.product, hne, if_false]
        show s64 (Ieee.double.write _) = _
        rw [write_inf]
  · by_cases i2 : rg b = infR
    · rw [if_pos (.inr i2)]
      obtain ⟨n, j, e2, _, _, _, v⟩ := read_fin ha (by omega)
      have hz := mag_zero (v K (by omega))
      unfold fMul Ieee.Format.mul
      rw [read_inf hb i2, e2]
      by_cases z : rg a = 0
      · rw [if_pos (.inl z)]
        simp only [Ieee.Datum.product, hz.2 z, if_true]
        rfl
      · rw [if_neg (by omega)]
        have hne : ¬ n = 0 := fun h => z (hz.1 h)
        simp only [Ieee.Datum.product, hne, if_false]
        show s64 (Ieee.double.write _) = _
        rw [write_inf, Bool.xor_comm]
    · rw [if_neg (by omega)]
      exact fMul_fin ha hb (by omega) (by omega) hK

def mDiv (K : Nat) (a b : Int) : Int :=
  if infR < rg a ∨ infR < rg b then theNaN
  else if rg a = infR then (if rg b = infR then theNaN else sg (ngv a ^^ ngv b) infR)
  else if rg b = infR then sg (ngv a ^^ ngv b) 0
  else if rg b = 0 then (if rg a = 0 then theNaN else sg (ngv a ^^ ngv b) infR)
  else rnd K (ngv a ^^ ngv b) (val K (rg a) * 2 ^ K) (val K (rg b))

theorem fDiv_eq {a b : Int} (ha : In64 a) (hb : In64 b) {K : Nat} (hK : 2400 ≤ K) : fDiv a b = mDiv K a b := by
  unfold mDiv
  by_cases n1 : infR < rg a
  · rw [if_pos (.inl n1)]
    obtain ⟨x, y, e⟩ := read_nan ha n1
    unfold fDiv Ieee.Format.div
    rw [e]
    rfl
  by_cases n2 : infR < rg b
  · rw [if_pos (.inr n2)]
    obtain ⟨x, y, e⟩ := read_nan hb n2
    unfold fDiv Ieee.Format.div
    rw [e]
    cases Ieee.double.read (wd a) <;> rfl
  rw [if_neg (by omega)]
  by_cases i1 : rg a = infR
  · rw [if_pos i1]
    by_cases i2 : rg b = infR
    · rw [if_pos i2]
      unfold fDiv Ieee.Format.div
      rw [read_inf ha i1, read_inf hb i2]
      rfl
    · rw [if_neg i2]
      obtain ⟨n, j, e2, _⟩ := read_fin hb (by omega)
      unfold fDiv Ieee.Format.div
      rw [read_inf ha i1, e2]
      show s64 (Ieee.double.write _) = _
      rw [write_inf]
  · rw [if_neg i1]
    obtain ⟨m, i, e1, _, _, _, v1⟩ := read_fin ha (by omega)
    have hz1 := mag_zero (v1 K (by omega))
    by_cases i2 : rg b = infR
    · rw [if_pos i2]
      unfold fDiv Ieee.Format.div
      rw [read_inf hb i2, e1]
      show s64 (Ieee.double.nearest _ 0 _) = _
      unfold Ieee.Format.nearest
      rw [if_pos rfl, s64_word _ (by omega)]
    · rw [if_neg i2]
      by_cases z : rg b = 0
      · rw [if_pos z]
        obtain ⟨n, j, e2, _, _, _, v2⟩ := read_fin hb (by omega)
        have hz2 := mag_zero (v2 K (by omega))
        unfold fDiv Ieee.Format.div
        rw [e1, e2]
        by_cases y : rg a = 0
        · rw [if_pos y]
          simp only [Ieee.Datum.quotient, hz2.2 z, hz1.2 y, if_true]
          rfl
        · rw [if_neg y]
          have hne : ¬ m = 0 := fun h => y (hz1.1 h)
          simp only [Ieee.Datum.quotient, hz2.2 z, hne, if_true, if_false]
          show s64 (Ieee.double.write _) = _
          rw [write_inf]
      · rw [if_neg z]
        exact fDiv_fin ha hb (by omega) (by omega) z hK

/-- Where a float that is no NaN stands among them. -/
def ord (a : Int) : Int := if ngv a then -(rg a : Int) else (rg a : Int)

def fLess (a b : Int) : Bool := Ieee.double.order (wd a) (wd b) == some .lt
def fEqual (a b : Int) : Bool := Ieee.double.order (wd a) (wd b) == some .eq

theorem compare_mul (x y : Int) (p : Nat) : compare x y = compare (x * (2 ^ p : Nat)) (y * (2 ^ p : Nat)) := by
  have hp : (0 : Int) < (2 ^ p : Nat) := by have := pow_pos2 p; omega
  have h1 : x < y ↔ x * (2 ^ p : Nat) < y * (2 ^ p : Nat) := (Int.mul_lt_mul_right hp).symm
  have h2 : x = y ↔ x * (2 ^ p : Nat) = y * (2 ^ p : Nat) := by
    constructor
    · intro h; rw [h]
    · intro h; exact Int.eq_of_mul_eq_mul_right (by omega) h
  simp only [compare, compareOfLessAndEq, h1, h2]

theorem sv_ord (K : Nat) (a b : Int) : compare (sv K a) (sv K b) = compare (ord a) (ord b) := by
  have h1 : val K (rg a) < val K (rg b) ↔ rg a < rg b := val_lt_iff
  have h2 : val K (rg b) < val K (rg a) ↔ rg b < rg a := val_lt_iff
  have h3 : val K (rg a) = 0 ↔ rg a = 0 := val_eq_zero
  have h4 : val K (rg b) = 0 ↔ rg b = 0 := val_eq_zero
  have g1 : sv K a < sv K b ↔ ord a < ord b := by
    unfold sv ord
    cases ngv a <;> cases ngv b <;> simp <;> omega
  have g2 : sv K a = sv K b ↔ ord a = ord b := by
    unfold sv ord
    cases ngv a <;> cases ngv b <;> simp <;> omega
  simp only [compare, compareOfLessAndEq, g1, g2]

theorem order_eq {a b : Int} (ha : In64 a) (hb : In64 b) : Ieee.double.order (wd a) (wd b) = if infR < rg a ∨ infR < rg b then none else some (compare (ord a) (ord b)) := by
  have hi0 : infR ≠ 0 := by decide
  unfold Ieee.Format.order
  by_cases n1 : infR < rg a
  · rw [if_pos (.inl n1)]
    obtain ⟨x, y, e⟩ := read_nan ha n1
    rw [e]
    rfl
  by_cases n2 : infR < rg b
  · rw [if_pos (.inr n2)]
    obtain ⟨x, y, e⟩ := read_nan hb n2
    rw [e]
    cases Ieee.double.read (wd a) <;> rfl
  rw [if_neg (by omega)]
  by_cases i1 : rg a = infR
  · by_cases i2 : rg b = infR
    · rw [read_inf ha i1, read_inf hb i2]
      unfold ord
      rw [i1, i2]
      cases ngv a <;> cases ngv b <;> decide
    · obtain ⟨n, j, e2, _⟩ := read_fin hb (by omega)
      rw [read_inf ha i1, e2]
      unfold ord
      cases ngv a
      · have h1 : ¬ ((rg a : Int) < if ngv b then -(rg b : Int) else (rg b : Int)) := by split <;> omega
        have h2 : ¬ ((rg a : Int) = if ngv b then -(rg b : Int) else (rg b : Int)) := by split <;> omega
        simp only [Ieee.Datum.order, compare, compareOfLessAndEq, Bool.false_eq_true, if_false, h1, h2]
      · have h1 : (-(rg a : Int) < if ngv b then -(rg b : Int) else (rg b : Int)) := by split <;> omega
        simp only [Ieee.Datum.order, compare, compareOfLessAndEq, if_true, h1]
  · obtain ⟨m, i, e1, ia, _, _, v1⟩ := read_fin ha (by omega)
    by_cases i2 : rg b = infR
    · rw [read_inf hb i2, e1]
      unfold ord
      cases ngv b
      · have h1 : ((if ngv a then -(rg a : Int) else (rg a : Int)) < (rg b : Int)) := by split <;> omega
        simp only [Ieee.Datum.order, compare, compareOfLessAndEq, Bool.false_eq_true, if_false, h1, if_true]
      · have h1 : ¬ ((if ngv a then -(rg a : Int) else (rg a : Int)) < -(rg b : Int)) := by split <;> omega
        have h2 : ¬ ((if ngv a then -(rg a : Int) else (rg a : Int)) = -(rg b : Int)) := by split <;> omega
        simp only [Ieee.Datum.order, compare, compareOfLessAndEq, if_true, h1, h2, if_false]
    · obtain ⟨n, j, e2, jb, _, _, v2⟩ := read_fin hb (by omega)
      rw [e1, e2]
      show some (compare (Ieee.signed (ngv a) m (i - min i j).toNat) (Ieee.signed (ngv b) n (j - min i j).toNat)) = _
      rw [compare_mul _ _ (min i j + (1074 : Nat)).toNat, signed_scale, signed_scale]
      have k1 : (i - min i j).toNat + (min i j + (1074 : Nat)).toNat = (i + (1074 : Nat)).toNat := by omega
      have k2 : (j - min i j).toNat + (min i j + (1074 : Nat)).toNat = (j + (1074 : Nat)).toNat := by omega
      rw [k1, k2, v1 1074 (by omega), v2 1074 (by omega)]
      exact congrArg some (sv_ord 1074 a b)

def notNaN (a b : Int) : Bool := decide (rg a ≤ infR) && decide (rg b ≤ infR)

theorem fLess_eq {a b : Int} (ha : In64 a) (hb : In64 b) : fLess a b = (notNaN a b && decide (ord a < ord b)) := by
  unfold fLess notNaN
  rw [order_eq ha hb]
  by_cases n : infR < rg a ∨ infR < rg b
  · rw [if_pos n]
    have : (decide (rg a ≤ infR) && decide (rg b ≤ infR)) = false := by
      rcases n with h | h
      · simp; omega
      · simp; omega
    rw [this]; rfl
  · rw [if_neg n]
    have e1 : rg a ≤ infR := by omega
    have e2 : rg b ≤ infR := by omega
    simp only [e1, e2, decide_true, Bool.true_and, compare, compareOfLessAndEq]
    by_cases h : ord a < ord b
    · simp [h]
    · by_cases h' : ord a = ord b
      · simp [h']
      · simp [h, h']

theorem fEqual_eq {a b : Int} (ha : In64 a) (hb : In64 b) : fEqual a b = (notNaN a b && decide (ord a = ord b)) := by
  unfold fEqual notNaN
  rw [order_eq ha hb]
  by_cases n : infR < rg a ∨ infR < rg b
  · rw [if_pos n]
    have : (decide (rg a ≤ infR) && decide (rg b ≤ infR)) = false := by
      rcases n with h | h
      · simp; omega
      · simp; omega
    rw [this]; rfl
  · rw [if_neg n]
    have e1 : rg a ≤ infR := by omega
    have e2 : rg b ≤ infR := by omega
    simp only [e1, e2, decide_true, Bool.true_and, compare, compareOfLessAndEq]
    by_cases h : ord a < ord b
    · have : ord a ≠ ord b := by omega
      simp [h, this]
    · by_cases h' : ord a = ord b
      · simp [h']
      · simp [h, h']

/-- The float of a whole number. -/
def fOf (n : Int) : Int := if n < -9007199254740992 ∨ 9007199254740992 < n then theNaN else s64 (floatOfInt .f64 n)

theorem ofInt_eq (n : Int) {K : Nat} (hK : 1074 ≤ K) : s64 (floatOfInt .f64 n) = rnd K (decide (n < 0)) (n.natAbs * 2 ^ K) 1 := by
  show s64 (Ieee.double.nearest _ _ _) = _
  rw [nearest_s64 _ _ _ K (by omega) hK]
  have : ((0 : Int) + K).toNat = K := by omega
  rw [this]

end Flt
end Go.Proofs.Ytdiaegfbaklpbaa
