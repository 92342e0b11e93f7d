/-
  Plain mathematics: the edges of floats, and whole numbers' floats, that add, lie and are truncated as the numbers do. No program is spoken of here.
-/
import Derived.Test.YtdiaegfbaklpbaaN
import Derived.Test.YtdiaegfbaklpbaaX
namespace Go.Proofs.Ytdiaegfbaklpbaa
open Flt
namespace Flt

theorem nan_op {a b : Int} (ha : In64 a) (hb : In64 b) (h : infR < rg a) (d : Int) : fOp d a b = theNaN ∧ fOp d b a = theNaN := by
  obtain ⟨K, hK⟩ := exK
  have h1 : fAdd a b = theNaN := by
    rw [fAdd_eq ha hb (K := K) (by omega)]; unfold mAdd; rw [if_pos (.inl h)]
  have h1' : fAdd b a = theNaN := by rw [fAdd_comm ha hb, h1]
  have h2 : fSub a b = theNaN := by
    rw [fSub_eq hb]
    by_cases g : infR < rg b
    · rw [if_pos g]
    · rw [if_neg g, fAdd_eq ha (in_opp b) (K := K) (by omega)]; unfold mAdd; rw [if_pos (.inl h)]
  have h2' : fSub b a = theNaN := by rw [fSub_eq ha, if_pos h]
  have h3 : fMul a b = theNaN := by
    rw [fMul_eq ha hb (K := K) (by omega)]; unfold mMul; rw [if_pos (.inl h)]
  have h3' : fMul b a = theNaN := by rw [fMul_comm ha hb, h3]
  have h4 : fDiv a b = theNaN := by
    rw [fDiv_eq ha hb (K := K) (by omega)]; unfold mDiv; rw [if_pos (.inl h)]
  have h4' : fDiv b a = theNaN := by
    rw [fDiv_eq hb ha (K := K) (by omega)]; unfold mDiv; rw [if_pos (.inr h)]
  unfold fOp
  rw [h1, h1', h2, h2', h3, h3', h4, h4']
  simp

theorem self_order {a : Int} (ha : In64 a) (h : ¬ infR < rg a) : fEqual a a = true ∧ fLess a a = false := by
  have n : notNaN a a = true := by unfold notNaN; simp; omega
  rw [fEqual_eq ha ha, fLess_eq ha ha, n]
  simp

def posInf : Int := 9218868437227405312
def negInf : Int := -4503599627370496
theorem in_negInf : In64 negInf := by unfold In64 negInf; omega
theorem in_posInf : In64 posInf := by unfold In64 posInf; omega
theorem rg_posInf : rg posInf = infR := by decide
theorem rg_negInf : rg negInf = infR := by decide
theorem ord_posInf : ord posInf = (infR : Int) := by decide
theorem ord_negInf : ord negInf = -(infR : Int) := by decide

theorem fin_edges {a : Int} (ha : In64 a) (h : rg a < infR) : fLess a posInf = true ∧ fLess negInf a = true ∧ fSub a a = 0 := by
  obtain ⟨K, hK⟩ := exK
  refine ⟨?_, ?_, ?_⟩
  · have n : notNaN a posInf = true := by unfold notNaN; rw [rg_posInf]; simp; omega
    rw [fLess_eq ha in_posInf, n, ord_posInf, Bool.true_and, decide_eq_true_eq]
    unfold ord
    cases ngv a
    · simp only [Bool.false_eq_true, if_false]; omega
    · simp only [if_true]; omega
  · have n : notNaN negInf a = true := by unfold notNaN; rw [rg_negInf]; simp; omega
    rw [fLess_eq in_negInf ha, n, ord_negInf, Bool.true_and, decide_eq_true_eq]
    unfold ord
    cases ngv a
    · simp only [Bool.false_eq_true, if_false]; omega
    · simp only [if_true]; omega
  · rw [fSub_fin ha ha h h (K := K) (by omega), if_pos (by omega)]
    cases ngv a <;> rfl

theorem inf_less {a : Int} (ha : In64 a) (h : rg a = infR) : fSub a a = theNaN ∧ fDiv a a = theNaN := by
  obtain ⟨K, hK⟩ := exK
  constructor
  · rw [fSub_eq ha, if_neg (by omega), fAdd_eq ha (in_opp a) (K := K) (by omega)]
    unfold mAdd
    rw [rg_opp, ngv_opp, if_neg (by omega), if_pos h, if_pos h, if_neg (by cases ngv a <;> simp)]
  · rw [fDiv_eq ha ha (K := K) (by omega)]
    unfold mDiv
    rw [if_neg (by omega), if_pos h, if_pos h]

theorem zero_by {a : Int} (ha : In64 a) (h : rg a = 0) : fDiv a a = theNaN := by
  obtain ⟨K, hK⟩ := exK
  have hi : infR ≠ 0 := by decide
  rw [fDiv_eq ha ha (K := K) (by omega)]
  unfold mDiv
  have m1 : ¬ (infR < rg a ∨ infR < rg a) := by omega
  have m2 : ¬ rg a = infR := by omega
  rw [if_neg m1, if_neg m2, if_neg m2, if_pos h, if_pos h]

def one : Int := 4607182418800017408
theorem rg_one : rg one = 4607182418800017408 := by decide
theorem val_one {K : Nat} (hK : 1074 ≤ K) : val K 4607182418800017408 = 1 * 2 ^ K := by
  unfold val
  rw [if_neg (by decide)]
  have e : K - 1074 + (4607182418800017408 / 2 ^ 52 - 1) + 52 = K := by omega
  have e2 : 2 ^ 52 + 4607182418800017408 % 2 ^ 52 = 1 * 2 ^ 52 := by decide
  rw [e2, Nat.mul_assoc, ← Nat.pow_add, Nat.add_comm, e]

theorem self_by {a : Int} (ha : In64 a) (h : rg a < infR) (h0 : rg a ≠ 0) : fDiv a a = one := by
  obtain ⟨K, hK⟩ := exK
  rw [fDiv_eq ha ha (K := K) (by omega)]
  unfold mDiv
  have m1 : ¬ (infR < rg a ∨ infR < rg a) := by omega
  have m2 : ¬ rg a = infR := by omega
  rw [if_neg m1, if_neg m2, if_neg m2, if_neg h0, Bool.xor_self]
  have hp : 0 < val K (rg a) := val_pos (by omega)
  unfold rnd
  have e := rq_scale hp K (2 ^ K) 1
  rw [Nat.one_mul, Nat.mul_comm] at e
  rw [e]
  have e2 := rq_val K 4607182418800017408
  rw [val_one (by omega), Nat.one_mul] at e2
  rw [e2]
  decide

/- whole numbers -/

theorem whole_digits {K m : Nat} (hm : 0 < m) (h : m < 2 ^ 53) (hK : 1074 ≤ K) : ∃ q, m * 2 ^ K = q * 2 ^ last K (m * 2 ^ K) 1 := by
  have hl : last K (m * 2 ^ K) 1 ≤ K := by
    unfold last
    rw [Nat.div_one, log2_mul_pow hm]
    have : Nat.log2 m < 53 := (Nat.log2_lt (by omega)).2 h
    omega
  generalize last K (m * 2 ^ K) 1 = l at *
  refine ⟨m * 2 ^ (K - l), ?_⟩
  rw [Nat.mul_assoc, ← Nat.pow_add, Nat.sub_add_cancel hl]

theorem whole_val {K m : Nat} (h : m < 2 ^ 53) (hK : 1074 ≤ K) : val K (rq K (m * 2 ^ K) 1) = m * 2 ^ K := by
  rcases Nat.eq_zero_or_pos m with z | z
  · subst z; rw [Nat.zero_mul, rq_zero, val_zero]
  · obtain ⟨q, hq⟩ := whole_digits z h hK
    rw [val_exact (by omega) q (by rw [Nat.one_mul]; exact hq)]
    exact hq.symm

theorem val_inf_big {K : Nat} (hK : 1074 ≤ K) : ∃ big : Nat, 2 ≤ big ∧ val K infR = 2 ^ 52 * big * 2 ^ K := by
  obtain ⟨x, hx⟩ : ∃ x : Nat, x = 972 := ⟨972, rfl⟩
  refine ⟨2 ^ x, ?_, ?_⟩
  · have : (2 : Nat) ^ 1 ≤ 2 ^ x := Nat.pow_le_pow_right (by omega) (by omega)
    omega
  · rw [val_inf hK, ← hx, Nat.add_comm, Nat.pow_add, ← Nat.mul_assoc]

theorem whole_rung {K m : Nat} (h : m < 2 ^ 53) (hK : 1074 ≤ K) : rq K (m * 2 ^ K) 1 < infR := by
  apply val_lt_iff (K := K).1
  obtain ⟨big, h2, hb⟩ := val_inf_big hK
  rw [whole_val h hK, hb]
  refine Nat.mul_lt_mul_of_pos_right (Nat.lt_of_lt_of_le h ?_) (pow_pos2 K)
  have h53 : (2 : Nat) ^ 53 = 2 ^ 52 * 2 := by decide
  rw [h53]
  exact Nat.mul_le_mul_left _ h2

theorem of_rnd {n : Int} (h : n.natAbs < 2 ^ 53) {K : Nat} (hK : 1074 ≤ K) : fOf n = rnd K (decide (n < 0)) (n.natAbs * 2 ^ K) 1 := by
  unfold fOf
  have h53 : (2 : Nat) ^ 53 = 9007199254740992 := by decide
  rw [if_neg (by omega), ofInt_eq n hK]

theorem of_parts {n : Int} (h : n.natAbs < 2 ^ 53) {K : Nat} (hK : 1074 ≤ K) :
    In64 (fOf n) ∧ rg (fOf n) < infR ∧ ngv (fOf n) = decide (n < 0) ∧ val K (rg (fOf n)) = n.natAbs * 2 ^ K ∧ sv K (fOf n) = n * (2 ^ K : Nat) := by
  have hr := whole_rung h hK
  have e := of_rnd h hK
  have e1 : rg (fOf n) = rq K (n.natAbs * 2 ^ K) 1 := by
    rw [e]; unfold rnd; rw [rg_sg _ (min_lt _), Nat.min_eq_left (Nat.le_of_lt hr)]
  have e2 : ngv (fOf n) = decide (n < 0) := by
    rw [e]; unfold rnd; rw [ngv_sg _ (min_lt _)]
  have e3 : val K (rg (fOf n)) = n.natAbs * 2 ^ K := by rw [e1, whole_val h hK]
  refine ⟨?_, by rw [e1]; exact hr, e2, e3, ?_⟩
  · rw [e]; exact in_rnd _ _ _ _
  · unfold sv
    rw [e2, e3]
    have hn : (n.natAbs : Int) = if n < 0 then -n else n := by split <;> omega
    rw [Int.natCast_mul, hn]
    by_cases g : n < 0
    · simp only [g, decide_true, if_true, Int.neg_mul, Int.neg_neg]
    · simp only [g, decide_false, if_false, Bool.false_eq_true]

theorem whole_add {m n : Int} (hm : m.natAbs < 2 ^ 52) (hn : n.natAbs < 2 ^ 52) : fAdd (fOf m) (fOf n) = fOf (m + n) := by
  obtain ⟨K, hK⟩ := exK
  have h53 : (2 : Nat) ^ 53 = 2 ^ 52 + 2 ^ 52 := by decide
  obtain ⟨i1, f1, g1, v1, s1⟩ := of_parts (n := m) (by omega) (K := K) (by omega)
  obtain ⟨i2, f2, g2, v2, s2⟩ := of_parts (n := n) (by omega) (K := K) (by omega)
  rw [fAdd_fin i1 i2 f1 f2 (K := K) (by omega), s1, s2, ← Int.add_mul, g1, g2, of_rnd (n := m + n) (by omega) (K := K) (by omega)]
  have hp : (0 : Int) < (2 ^ K : Nat) := by have := pow_pos2 K; omega
  by_cases z : m + n = 0
  · rw [z, Int.zero_mul, if_pos rfl]
    have : (decide (m < 0) && decide (n < 0)) = false := by
      rw [Bool.eq_false_iff]; intro g
      simp only [Bool.and_eq_true, decide_eq_true_eq] at g
      omega
    rw [this]
    unfold rnd
    rw [show Int.natAbs 0 = 0 from rfl, Nat.zero_mul, rq_zero]
    rfl
  · have h1 : (m + n) * (2 ^ K : Nat) ≠ 0 := Int.mul_ne_zero z (by omega)
    have h2 : ((m + n) * (2 ^ K : Nat) < 0) ↔ (m + n < 0) := by
      constructor
      · intro h
        rcases Int.lt_or_le (m + n) 0 with g | g
        · exact g
        · have := Int.mul_nonneg g (Int.le_of_lt hp); omega
      · intro h; exact Int.mul_neg_of_neg_of_pos h hp
    rw [if_neg h1, natAbs_mul_pow]
    simp only [h2]

theorem whole_neg {n : Int} (h : n.natAbs < 2 ^ 52) : n ≠ 0 → opp (fOf n) = fOf (-n) := by
  intro z
  obtain ⟨K, hK⟩ := exK
  have h53 : (2 : Nat) ^ 53 = 2 ^ 52 + 2 ^ 52 := by decide
  rw [of_rnd (n := n) (by omega) (K := K) (by omega), of_rnd (n := -n) (by omega) (K := K) (by omega), opp_rnd, Int.natAbs_neg]
  have : (!decide (n < 0)) = decide (-n < 0) := by
    by_cases g : n < 0
    · have : ¬ (-n < 0) := by omega
      simp [g]; omega
    · have : -n < 0 := by omega
      simp [g]; omega
  rw [this]

theorem whole_sub {m n : Int} (hm : m.natAbs < 2 ^ 52) (hn : n.natAbs < 2 ^ 52) : fSub (fOf m) (fOf n) = fOf (m - n) := by
  obtain ⟨K, hK⟩ := exK
  have h53 : (2 : Nat) ^ 53 = 2 ^ 52 + 2 ^ 52 := by decide
  obtain ⟨i1, f1, g1, v1, s1⟩ := of_parts (n := m) (by omega) (K := K) (by omega)
  obtain ⟨i2, f2, g2, v2, s2⟩ := of_parts (n := n) (by omega) (K := K) (by omega)
  rw [fSub_fin i1 i2 f1 f2 (K := K) (by omega), s1, s2, ← Int.sub_mul, g1, g2, of_rnd (n := m - n) (by omega) (K := K) (by omega)]
  have hp : (0 : Int) < (2 ^ K : Nat) := by have := pow_pos2 K; omega
  by_cases z : m - n = 0
  · rw [z, Int.zero_mul, if_pos rfl]
    have : (decide (m < 0) && !decide (n < 0)) = false := by
      rw [Bool.eq_false_iff]; intro g
      simp only [Bool.and_eq_true, decide_eq_true_eq, Bool.not_eq_true', decide_eq_false_iff_not] at g
      omega
    rw [this]
    unfold rnd
    rw [show Int.natAbs 0 = 0 from rfl, Nat.zero_mul, rq_zero]
    rfl
  · have h1 : (m - n) * (2 ^ K : Nat) ≠ 0 := Int.mul_ne_zero z (by omega)
    have h2 : ((m - n) * (2 ^ K : Nat) < 0) ↔ (m - n < 0) := by
      constructor
      · intro h
        rcases Int.lt_or_le (m - n) 0 with g | g
        · exact g
        · have := Int.mul_nonneg g (Int.le_of_lt hp); omega
      · intro h; exact Int.mul_neg_of_neg_of_pos h hp
    rw [if_neg h1, natAbs_mul_pow]
    simp only [h2]

theorem whole_mul {m n : Int} (hm : m.natAbs ≤ 2 ^ 26) (hn : n.natAbs ≤ 2 ^ 26) (zm : m ≠ 0) (zn : n ≠ 0) : fMul (fOf m) (fOf n) = fOf (m * n) := by
  obtain ⟨K, hK⟩ := exK
  have h26 : (2 : Nat) ^ 26 < 2 ^ 53 := by decide
  obtain ⟨i1, f1, g1, v1, s1⟩ := of_parts (n := m) (by omega) (K := K) (by omega)
  obtain ⟨i2, f2, g2, v2, s2⟩ := of_parts (n := n) (by omega) (K := K) (by omega)
  have hmn : (m * n).natAbs < 2 ^ 53 := by
    rw [Int.natAbs_mul]
    have := Nat.mul_le_mul hm hn
    have : (2 : Nat) ^ 26 * 2 ^ 26 < 2 ^ 53 := by decide
    omega
  rw [fMul_fin i1 i2 f1 f2 (K := K) (by omega), v1, v2, g1, g2, of_rnd hmn (K := K) (by omega), Int.natAbs_mul]
  have e : m.natAbs * 2 ^ K * (n.natAbs * 2 ^ K) = m.natAbs * n.natAbs * 2 ^ K * 2 ^ K := by ac_rfl
  have e2 := rq_scale (pow_pos2 K) K (m.natAbs * n.natAbs * 2 ^ K) 1
  rw [Nat.one_mul] at e2
  unfold rnd
  rw [e, e2]
  have : (decide (m < 0) ^^ decide (n < 0)) = decide (m * n < 0) := by
    rcases Int.lt_or_gt_of_ne zm with a | a <;> rcases Int.lt_or_gt_of_ne zn with b | b
    · have : 0 < m * n := Int.mul_pos_of_neg_of_neg a b
      have h' : ¬ m * n < 0 := by omega
      simp [a, b, h']
    · have : m * n < 0 := Int.mul_neg_of_neg_of_pos a b
      have b' : ¬ n < 0 := by omega
      simp [a, b', this]
    · have : m * n < 0 := Int.mul_neg_of_pos_of_neg a b
      have a' : ¬ m < 0 := by omega
      simp [a', b, this]
    · have : 0 < m * n := Int.mul_pos a b
      have a' : ¬ m < 0 := by omega
      have b' : ¬ n < 0 := by omega
      have h' : ¬ m * n < 0 := by omega
      simp [a', b', h']
  rw [this]

theorem whole_order {m n : Int} (hm : m.natAbs < 2 ^ 52) (hn : n.natAbs < 2 ^ 52) : fLess (fOf m) (fOf n) = decide (m < n) ∧ fEqual (fOf m) (fOf n) = decide (m = n) := by
  obtain ⟨K, hK⟩ := exK
  have h53 : (2 : Nat) ^ 53 = 2 ^ 52 + 2 ^ 52 := by decide
  obtain ⟨i1, f1, g1, v1, s1⟩ := of_parts (n := m) (by omega) (K := K) (by omega)
  obtain ⟨i2, f2, g2, v2, s2⟩ := of_parts (n := n) (by omega) (K := K) (by omega)
  have nn : notNaN (fOf m) (fOf n) = true := by unfold notNaN; simp; omega
  rw [fLess_eq i1 i2, fEqual_eq i1 i2, nn, Bool.true_and, Bool.true_and]
  have h := sv_ord K (fOf m) (fOf n)
  rw [s1, s2, ← compare_mul] at h
  have c1 : (ord (fOf m) < ord (fOf n)) ↔ m < n := by
    rw [← Int.compare_eq_lt, ← Int.compare_eq_lt, h]
  have c2 : (ord (fOf m) = ord (fOf n)) ↔ m = n := by
    rw [← Int.compare_eq_eq, ← Int.compare_eq_eq, h]
  simp only [c1, c2]
  exact ⟨trivial, trivial⟩

theorem whole_trunc {m : Int} (hm : m.natAbs ≤ 2 ^ 26) : tb (fOf m) = true ∧ fTr (fOf m) = m := by
  obtain ⟨K, hK⟩ := exK
  have h26 : (2 : Nat) ^ 26 < 2 ^ 53 := by decide
  have h26' : (2 : Nat) ^ 26 = 67108864 := by decide
  obtain ⟨i1, f1, g1, v1, s1⟩ := of_parts (n := m) (by omega) (K := K) (by omega)
  have ht := (toInt_fin i1 f1).2 K (by omega)
  rw [v1, Nat.mul_div_cancel _ (pow_pos2 K)] at ht
  have hv : tv (fOf m) = m := by
    unfold tv
    rw [ht, g1]
    by_cases g : m < 0
    · simp only [g, decide_true, if_true]; omega
    · simp only [g, decide_false, Bool.false_eq_true, if_false]; omega
  have hb : tb (fOf m) = true := by
    unfold tb
    rw [hv]
    simp only [f1, decide_true, Bool.true_and, Bool.and_eq_true, decide_eq_true_eq]
    omega
  refine ⟨hb, ?_⟩
  unfold fTr
  rw [hb, hv]
  rfl

theorem rhe_le_of {n d c : Nat} (hd : 0 < d) (h : n ≤ c * d) : rhe n d ≤ c := by
  have h1 : n / d ≤ c := by
    have := Nat.div_le_div_right (c := d) h
    rwa [Nat.mul_div_cancel _ hd] at this
  rcases Nat.lt_or_ge (n / d) c with g | g
  · have := rhe_le n d; omega
  · have e : n / d = c := by omega
    have hm := Nat.div_add_mod n d
    rw [e, Nat.mul_comm] at hm
    have hz : n % d = 0 := by omega
    have hn : n = c * d := by omega
    rw [hn, rhe_exact _ hd]
    omega

/-- The quotient of two small whole numbers, rounded, is cut to the quotient. -/
theorem quo_cut {K M D : Nat} (hM : M ≤ 2 ^ 26) (hD : 0 < D) (hD' : D ≤ 2 ^ 26) (hK : 2400 ≤ K) :
    val K (rq K (M * 2 ^ K) D) / 2 ^ K = M / D ∧ rq K (M * 2 ^ K) D < infR := by
  have hl : last K (M * 2 ^ K) D ≤ K - 26 := by
    unfold last
    have h1 : M * 2 ^ K / D ≤ 2 ^ (26 + K) := by
      rw [Nat.pow_add]
      exact Nat.le_trans (Nat.div_le_self _ _) (Nat.mul_le_mul_right _ hM)
    have h2 : Nat.log2 (M * 2 ^ K / D) ≤ 26 + K := by
      rcases Nat.eq_zero_or_pos (M * 2 ^ K / D) with z | z
      · rw [z]; exact Nat.zero_le _
      · have : Nat.log2 (M * 2 ^ K / D) < 26 + K + 1 := by
          rw [Nat.log2_lt (by omega)]
          exact Nat.lt_of_le_of_lt h1 (Nat.pow_lt_pow_right (by omega) (by omega))
        omega
    omega
  rw [val_rq]
  generalize hL : last K (M * 2 ^ K) D = l at *
  obtain ⟨p, hp⟩ : ∃ p, K = l + p := ⟨K - l, by omega⟩
  have hpl := pow_pos2 l
  have hpp := pow_pos2 p
  have hp26 : 2 ^ 26 ≤ 2 ^ p := Nat.pow_le_pow_right (by omega) (by omega)
  have e1 : rhe (M * 2 ^ K) (D * 2 ^ l) = rhe (M * 2 ^ p) D := by
    rw [hp, Nat.add_comm, Nat.pow_add, ← Nat.mul_assoc, rhe_scale' hpl]
  have e2 : rhe (M * 2 ^ p) D * 2 ^ l / 2 ^ K = rhe (M * 2 ^ p) D / 2 ^ p := by
    rw [hp, Nat.add_comm l p, Nat.pow_add, Nat.mul_div_mul_right _ _ hpl]
  have hdm := Nat.div_add_mod M D
  have hmod := Nat.mod_lt M hD
  have lo : M / D * 2 ^ p ≤ rhe (M * 2 ^ p) D := by
    refine Nat.le_trans ?_ (rhe_ge _ _)
    rw [Nat.le_div_iff_mul_le hD, Nat.mul_right_comm]
    refine Nat.mul_le_mul_right _ ?_
    rw [Nat.mul_comm] at hdm
    omega
  have hi : rhe (M * 2 ^ p) D ≤ (M / D + 1) * 2 ^ p - 1 := by
    refine rhe_le_of hD ?_
    have h1 : M + 1 ≤ (M / D + 1) * D := by
      rw [Nat.add_mul, Nat.mul_comm (M / D)]; omega
    have h2 : (M + 1) * 2 ^ p ≤ (M / D + 1) * D * 2 ^ p := Nat.mul_le_mul_right _ h1
    rw [Nat.sub_mul, Nat.one_mul, Nat.mul_right_comm]
    rw [Nat.add_mul, Nat.one_mul] at h2
    omega
  refine ⟨?_, ?_⟩
  · rw [e1, e2]
    have h3 : 0 < (M / D + 1) * 2 ^ p := Nat.mul_pos (Nat.succ_pos _) hpp
    refine (Nat.div_eq_iff hpp).2 ⟨?_, ?_⟩
    · exact lo
    · have h9 : (M / D + 1) * 2 ^ p = M / D * 2 ^ p + 2 ^ p := by rw [Nat.add_mul, Nat.one_mul]
      rw [h9] at hi h3
      omega
  · apply val_lt_iff (K := K).1
    obtain ⟨big, h2, hb⟩ := val_inf_big (K := K) (by omega)
    rw [val_rq, hL, e1, hb]
    have h4 : rhe (M * 2 ^ p) D * 2 ^ l ≤ (M / D + 1) * 2 ^ p * 2 ^ l := Nat.mul_le_mul_right _ (Nat.le_trans hi (Nat.sub_le _ _))
    rw [Nat.mul_assoc _ (2 ^ p), ← Nat.pow_add, Nat.add_comm p l, ← hp] at h4
    refine Nat.lt_of_le_of_lt h4 ?_
    refine Nat.mul_lt_mul_of_pos_right ?_ (pow_pos2 K)
    have h5 : M / D ≤ M := Nat.div_le_self _ _
    have h6 : (2 : Nat) ^ 26 + 1 < 2 ^ 52 := by decide
    have h8 := Nat.mul_le_mul_left (2 ^ 52) h2
    omega

theorem whole_div {m n : Int} (hm : m.natAbs ≤ 2 ^ 26) (hn : n.natAbs ≤ 2 ^ 26) (zn : n ≠ 0) : In64 (fDiv (fOf m) (fOf n)) ∧ tb (fDiv (fOf m) (fOf n)) = true ∧ fTr (fDiv (fOf m) (fOf n)) = m.tdiv n := by
  obtain ⟨K, hK⟩ := exK
  have h26 : (2 : Nat) ^ 26 < 2 ^ 53 := by decide
  have h26' : (2 : Nat) ^ 26 = 67108864 := by decide
  obtain ⟨i1, f1, g1, v1, s1⟩ := of_parts (n := m) (by omega) (K := K) (by omega)
  obtain ⟨i2, f2, g2, v2, s2⟩ := of_parts (n := n) (by omega) (K := K) (by omega)
  have z2 : rg (fOf n) ≠ 0 := by
    intro h
    rw [h, val_zero] at v2
    have := Nat.mul_pos (show 0 < n.natAbs by omega) (pow_pos2 K)
    omega
  have e : fDiv (fOf m) (fOf n) = rnd K (decide (m < 0) ^^ decide (n < 0)) (m.natAbs * 2 ^ K) n.natAbs := by
    rw [fDiv_fin i1 i2 f1 f2 z2 hK, v1, v2, g1, g2]
    unfold rnd
    rw [rq_scale (pow_pos2 K)]
  obtain ⟨hq, hr⟩ := quo_cut (K := K) hm (show 0 < n.natAbs by omega) hn hK
  have hin : In64 (fDiv (fOf m) (fOf n)) := in_fDiv i1 i2
  have e1 : rg (fDiv (fOf m) (fOf n)) = rq K (m.natAbs * 2 ^ K) n.natAbs := by
    rw [e]; unfold rnd; rw [rg_sg _ (min_lt _), Nat.min_eq_left (Nat.le_of_lt hr)]
  have e2 : ngv (fDiv (fOf m) (fOf n)) = (decide (m < 0) ^^ decide (n < 0)) := by
    rw [e]; unfold rnd; rw [ngv_sg _ (min_lt _)]
  have ht := (toInt_fin hin (by rw [e1]; exact hr)).2 K (by omega)
  rw [e1, hq] at ht
  have hv : tv (fDiv (fOf m) (fOf n)) = m.tdiv n := by
    unfold tv
    rw [ht, e2]
    have hd : (m.tdiv n).natAbs = m.natAbs / n.natAbs := Int.natAbs_tdiv ..
    rcases Int.lt_or_le m 0 with a | a <;> rcases Int.lt_or_le n 0 with b | b
    · have : 0 ≤ m.tdiv n := by rw [← Int.neg_tdiv_neg]; exact Int.tdiv_nonneg (by omega) (by omega)
      simp only [a, b, decide_true, Bool.xor_self, Bool.false_eq_true, if_false]
      omega
    · have h0 : 0 ≤ (-m).tdiv n := Int.tdiv_nonneg (by omega) b
      rw [Int.neg_tdiv] at h0
      have b' : ¬ n < 0 := by omega
      simp only [a, b', decide_true, decide_false, Bool.xor_false, if_true]
      omega
    · have h0 : 0 ≤ m.tdiv (-n) := Int.tdiv_nonneg a (by omega)
      rw [Int.tdiv_neg] at h0
      have a' : ¬ m < 0 := by omega
      simp only [a', b, decide_true, decide_false, Bool.false_xor, if_true]
      omega
    · have : 0 ≤ m.tdiv n := Int.tdiv_nonneg a b
      have a' : ¬ m < 0 := by omega
      have b' : ¬ n < 0 := by omega
      simp only [a', b', decide_false, Bool.xor_self, Bool.false_eq_true, if_false]
      omega
  have hsm : (m.tdiv n).natAbs ≤ 67108864 := by
    rw [Int.natAbs_tdiv]
    exact Nat.le_trans (Nat.div_le_self _ _) (by omega)
  have hb : tb (fDiv (fOf m) (fOf n)) = true := by
    unfold tb
    rw [hv, e1]
    simp only [hr, decide_true, Bool.true_and, Bool.and_eq_true, decide_eq_true_eq]
    omega
  refine ⟨hin, hb, ?_⟩
  unfold fTr
  rw [hb, hv]
  rfl

end Flt
end Go.Proofs.Ytdiaegfbaklpbaa
