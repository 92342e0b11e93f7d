/-
  Plain mathematics: IEEE 754's operations on words of 64 bits, told as ints, in units of 2 to the -K: what each sum, product and quotient rounds. No program is spoken of here.
-/
import Derived.Test.YtdiaegfbaklpbaaP
namespace Go.Proofs.Ytdiaegfbaklpbaa
namespace Flt

/-- The rung of an int's bits: those without the sign. -/
def rg (a : Int) : Nat := (a % 9223372036854775808).toNat
/-- The word of an int's bits. -/
def wd (a : Int) : Nat := (a % 18446744073709551616).toNat
/-- The rung of what is infinite. -/
def infR : Nat := 9218868437227405312
/-- The NaN. -/
def theNaN : Int := 9221120237041090561
/-- Bits with a sign, or without. -/
def sg (neg : Bool) (r : Nat) : Int := if neg then (r : Int) - 9223372036854775808 else r
/-- The int of a word's bits. -/
def s64 (w : Nat) : Int := if w < 9223372036854775808 then (w : Int) else (w : Int) - 18446744073709551616
def ngv (a : Int) : Bool := decide (a < 0)
def In64 (a : Int) : Prop := -9223372036854775808 ≤ a ∧ a < 9223372036854775808

theorem rg_lt (a : Int) : rg a < 9223372036854775808 := by unfold rg; omega
theorem wd_lt (a : Int) : wd a < 18446744073709551616 := by unfold wd; omega
theorem sg_rg {a : Int} (h : In64 a) : sg (ngv a) (rg a) = a := by
  unfold sg ngv rg; unfold In64 at h
  by_cases g : a < 0
  · simp only [g, decide_true, if_true]; omega
  · simp only [g, decide_false]; simp; omega
theorem wd_mod (a : Int) : wd a % 9223372036854775808 = rg a := by unfold wd rg; omega
theorem wd_div {a : Int} (h : In64 a) : (wd a / 9223372036854775808 % 2 == 1) = ngv a := by
  unfold wd ngv; unfold In64 at h
  by_cases g : a < 0
  · simp only [g, decide_true, beq_iff_eq]; omega
  · simp only [g, decide_false]
    rw [beq_eq_false_iff_ne]
    omega
theorem rg_sg (n : Bool) {r : Nat} (h : r < 9223372036854775808) : rg (sg n r) = r := by
  unfold rg sg; cases n
  · simp; omega
  · simp; omega
theorem ngv_sg (n : Bool) {r : Nat} (h : r < 9223372036854775808) : ngv (sg n r) = n := by
  unfold ngv sg; cases n
  · simp
  · simp; omega
theorem in_sg (n : Bool) {r : Nat} (h : r < 9223372036854775808) : In64 (sg n r) := by
  unfold In64 sg; cases n
  · simp; omega
  · simp; omega
theorem s64_word (n : Bool) {r : Nat} (h : r < 9223372036854775808) : s64 (Ieee.double.word n r) = sg n r := by
  have e : Ieee.double.signWeight = 9223372036854775808 := by decide
  unfold s64 Ieee.Format.word sg
  rw [e]
  cases n
  · simp [h]
  · simp; omega
theorem wd_word (n : Bool) {r : Nat} (h : r < 9223372036854775808) : Ieee.double.word n r = wd (sg n r) := by
  have e : Ieee.double.signWeight = 9223372036854775808 := by decide
  unfold Ieee.Format.word sg wd
  rw [e]
  cases n
  · simp; omega
  · simp; omega

/-- The kinds: 0 of a NaN, 1 infinite, 2 zero, 3 subnormal, 4 normal. -/
def kd (a : Int) : Int := if infR < rg a then 0 else if rg a = infR then 1 else if rg a = 0 then 2 else if rg a < 4503599627370496 then 3 else 4

def canon (a : Int) : Int := if infR < rg a then theNaN else a

/-- What a float that is finite is worth in units of 2 to the -K. -/
def sv (K : Nat) (a : Int) : Int := if ngv a then -(val K (rg a) : Int) else (val K (rg a) : Int)

/-- N / D (in units of 2 to the -K) rounded, with a sign. -/
def rnd (K : Nat) (neg : Bool) (N D : Nat) : Int := sg neg (min (rq K N D) infR)

theorem leastPlace_eq : Ieee.double.leastPlace = -1074 := by decide
theorem binade_eq : Ieee.double.binade = 4503599627370496 := by decide
theorem infRung_eq : Ieee.double.infRung = infR := by decide
theorem signWeight_eq : Ieee.double.signWeight = 9223372036854775808 := by decide

theorem nearest_eq (neg : Bool) (mag : Nat) (place : Int) (K : Nat) (h : 0 ≤ place + K) (hK : 1074 ≤ K) :
    Ieee.double.nearest neg mag place = Ieee.double.word neg (min (rq K (mag * 2 ^ (place + K).toNat) 1) infR) := by
  unfold Ieee.Format.nearest
  by_cases hm : mag = 0
  · subst hm
    rw [if_pos rfl, Nat.zero_mul, rq_zero]
    rfl
  · rw [if_neg hm]
    dsimp only
    rw [leastPlace_eq, binade_eq, infRung_eq, show (Ieee.double.fractionBits : Int) = 52 from rfl]
    obtain ⟨p, hp⟩ : ∃ p : Nat, place = (p : Int) - K := ⟨(place + K).toNat, by omega⟩
    subst hp
    have e1 : ((p : Int) - K + K).toNat = p := by omega
    rw [e1]
    have hl : (last K (mag * 2 ^ p) 1 : Int) = max ((p : Int) - K + Nat.log2 mag - 52) (-1074) + K := by
      unfold last
      rw [Nat.div_one, log2_mul_pow (by omega)]
      omega
    generalize max ((p : Int) - K + Nat.log2 mag - 52) (-1074) = l at hl
    have hl' : l = (last K (mag * 2 ^ p) 1 : Int) - K := by omega
    subst hl'
    unfold rq
    rw [Nat.one_mul, cut_eq, Nat.shiftLeft_eq]
    have hlast : K - 1074 ≤ last K (mag * 2 ^ p) 1 := by unfold last; omega
    generalize last K (mag * 2 ^ p) 1 = L at *
    have e2 : ((L : Int) - K - -1074).toNat = L - (K - 1074) := by omega
    have e3 : rhe (mag * 2 ^ ((p : Int) - K - ((L : Int) - K)).toNat) (2 ^ ((L : Int) - K - ((p : Int) - K)).toNat) = rhe (mag * 2 ^ p) (2 ^ L) := by
      rcases Nat.le_total p L with g | g
      · have a1 : ((p : Int) - K - ((L : Int) - K)).toNat = 0 := by omega
        have a2 : ((L : Int) - K - ((p : Int) - K)).toNat = L - p := by omega
        rw [a1, a2, Nat.pow_zero, Nat.mul_one, ← rhe_scale' (pow_pos2 p), ← Nat.pow_add, Nat.sub_add_cancel g]
      · have a1 : ((p : Int) - K - ((L : Int) - K)).toNat = p - L := by omega
        have a2 : ((L : Int) - K - ((p : Int) - K)).toNat = 0 := by omega
        rw [a1, a2, Nat.pow_zero, ← rhe_scale' (pow_pos2 L), Nat.one_mul, Nat.mul_assoc, ← Nat.pow_add, Nat.sub_add_cancel g]
    rw [e2, e3]

theorem min_lt (x : Nat) : min x infR < 9223372036854775808 := by
  have : infR < 9223372036854775808 := by decide
  omega

theorem nearest_s64 (neg : Bool) (mag : Nat) (place : Int) (K : Nat) (h : 0 ≤ place + K) (hK : 1074 ≤ K) :
    s64 (Ieee.double.nearest neg mag place) = rnd K neg (mag * 2 ^ (place + K).toNat) 1 := by
  rw [nearest_eq neg mag place K h hK, s64_word _ (min_lt _)]
  rfl

/-- What is read of a float that is finite. -/
theorem read_fin {a : Int} (h : In64 a) (hf : rg a < infR) : ∃ (mag : Nat) (place : Int), Ieee.double.read (wd a) = .number (ngv a) mag place ∧ -1074 ≤ place ∧ place ≤ 971 ∧ mag < 9007199254740992 ∧
    (∀ K : Nat, 1074 ≤ K → mag * 2 ^ (place + K).toNat = val K (rg a)) := by
  unfold Ieee.Format.read
  dsimp only
  rw [signWeight_eq, wd_mod, wd_div h, binade_eq, infRung_eq, leastPlace_eq]
  have hi : infR = 9218868437227405312 := rfl
  by_cases g : rg a < 4503599627370496
  · refine ⟨rg a, -1074, by rw [if_pos g], by omega, by omega, by omega, fun K hK => ?_⟩
    have : ((-1074 : Int) + K).toNat = K - 1074 := by omega
    unfold val
    rw [if_pos g, this]
  · refine ⟨4503599627370496 + rg a % 4503599627370496, -1074 + (rg a / 4503599627370496 - 1 : Nat), by rw [if_neg g, if_pos hf], by omega, by omega, by omega, fun K hK => ?_⟩
    have : (-1074 + ((rg a / 4503599627370496 - 1 : Nat) : Int) + K).toNat = K - 1074 + (rg a / 4503599627370496 - 1) := by omega
    unfold val
    rw [if_neg g, this]

theorem read_inf {a : Int} (h : In64 a) (hf : rg a = infR) : Ieee.double.read (wd a) = .infinity (ngv a) := by
  unfold Ieee.Format.read
  dsimp only
  rw [signWeight_eq, wd_mod, wd_div h, binade_eq, infRung_eq, hf, if_neg (by decide), if_neg (by decide), if_pos rfl]

theorem read_nan {a : Int} (h : In64 a) (hf : infR < rg a) : ∃ n t, Ieee.double.read (wd a) = .nan n t := by
  have hi : infR = 9218868437227405312 := rfl
  unfold Ieee.Format.read
  dsimp only
  rw [signWeight_eq, wd_mod, wd_div h, binade_eq, infRung_eq, if_neg (by omega), if_neg (by omega), if_neg (by omega)]
  exact ⟨_, _, rfl⟩

/-- The bits that come of an operation; the NaN, where there is none. -/
def bitsOr (o : Option Nat) : Int := match o with
  | some r => s64 r
  | none => theNaN

def fAdd (a b : Int) : Int := bitsOr (Ieee.double.add (wd a) (wd b))
def fSub (a b : Int) : Int := bitsOr (Ieee.double.sub (wd a) (wd b))
def fMul (a b : Int) : Int := bitsOr (Ieee.double.mul (wd a) (wd b))
def fDiv (a b : Int) : Int := bitsOr (Ieee.double.div (wd a) (wd b))

theorem write_inf (n : Bool) : s64 (Ieee.double.write (.infinity n)) = sg n infR := by
  show s64 (Ieee.double.word n Ieee.double.infRung) = _
  rw [infRung_eq, s64_word n (by decide)]

theorem signed_eq (n : Bool) (m u : Nat) : Ieee.signed n m u = if n then -((m * 2 ^ u : Nat) : Int) else ((m * 2 ^ u : Nat) : Int) := by
  unfold Ieee.signed
  rw [Nat.shiftLeft_eq]

theorem signed_scale (n : Bool) (m u p : Nat) : Ieee.signed n m u * (2 ^ p : Nat) = if n then -((m * 2 ^ (u + p) : Nat) : Int) else ((m * 2 ^ (u + p) : Nat) : Int) := by
  have hp : m * 2 ^ (u + p) = m * 2 ^ u * 2 ^ p := by rw [Nat.pow_add, Nat.mul_assoc]
  rw [signed_eq, hp]
  cases n
  · simp
  · simp [Int.neg_mul]

/-- The exact sum of two numbers, in units. -/
theorem sum_units {a b : Int} {s t : Bool} {m n : Nat} {i j : Int} {K : Nat} {V W : Nat} (hi : -1074 ≤ i) (hj : -1074 ≤ j) (hK : 1074 ≤ K)
    (hm : m * 2 ^ (i + K).toNat = V) (hn : n * 2 ^ (j + K).toNat = W) (ha : a = if s then -(V : Int) else V) (hb : b = if t then -(W : Int) else W) :
    (Ieee.signed s m (i - min i j).toNat + Ieee.signed t n (j - min i j).toNat) * (2 ^ (min i j + K).toNat : Nat) = a + b := by
  rw [Int.add_mul, signed_scale, signed_scale]
  have e1 : (i - min i j).toNat + (min i j + K).toNat = (i + K).toNat := by omega
  have e2 : (j - min i j).toNat + (min i j + K).toNat = (j + K).toNat := by omega
  rw [e1, e2, hm, hn, ha, hb]

theorem natAbs_mul_pow (x : Int) (p : Nat) : (x * (2 ^ p : Nat)).natAbs = x.natAbs * 2 ^ p := by
  rw [Int.natAbs_mul, Int.natAbs_natCast]

theorem sum_write {s t : Bool} {total : Int} {base : Int} {K : Nat} {x : Int} (hb : 0 ≤ base + K) (hK : 1074 ≤ K) (hx : total * (2 ^ (base + K).toNat : Nat) = x) :
    s64 (Ieee.double.write (.number (if total = 0 then s && t else decide (total < 0)) total.natAbs base)) = if x = 0 then sg (s && t) 0 else rnd K (decide (x < 0)) x.natAbs 1 := by
  show s64 (Ieee.double.nearest _ _ _) = _
  rw [nearest_s64 _ _ _ K hb hK, ← natAbs_mul_pow, hx]
  have hp : (0 : Int) < (2 ^ (base + K).toNat : Nat) := by have := pow_pos2 (base + K).toNat; omega
  have h0 : total = 0 ↔ x = 0 := by
    rw [← hx]
    constructor
    · intro h; rw [h, Int.zero_mul]
    · intro h
      rcases Int.mul_eq_zero.1 h with g | g
      · exact g
      · omega
  have h1 : total < 0 ↔ x < 0 := by
    rw [← hx]
    constructor
    · intro h; exact Int.mul_neg_of_neg_of_pos h hp
    · intro h
      rcases Int.lt_or_le total 0 with g | g
      · exact g
      · have := Int.mul_nonneg g (Int.le_of_lt hp); omega
  by_cases g : x = 0
  · rw [if_pos g, if_pos (h0.2 g), g]
    unfold rnd
    rw [show Int.natAbs 0 = 0 from rfl, rq_zero]
    rfl
  · rw [if_neg g, if_neg (fun h => g (h0.1 h))]
    simp only [h1]

theorem fAdd_fin {a b : Int} (ha : In64 a) (hb : In64 b) (fa : rg a < infR) (fb : rg b < infR) {K : Nat} (hK : 1074 ≤ K) :
    fAdd a b = if sv K a + sv K b = 0 then sg (ngv a && ngv b) 0 else rnd K (decide (sv K a + sv K b < 0)) (sv K a + sv K b).natAbs 1 := by
  obtain ⟨m, i, e1, i1, _, _, v1⟩ := read_fin ha fa
  obtain ⟨n, j, e2, j1, _, _, v2⟩ := read_fin hb fb
  unfold fAdd Ieee.Format.add
  rw [e1, e2]
  exact sum_write (by omega) hK (sum_units i1 j1 hK (v1 K hK) (v2 K hK) (by rfl) (by rfl))

theorem fSub_fin {a b : Int} (ha : In64 a) (hb : In64 b) (fa : rg a < infR) (fb : rg b < infR) {K : Nat} (hK : 1074 ≤ K) :
    fSub a b = if sv K a - sv K b = 0 then sg (ngv a && !ngv b) 0 else rnd K (decide (sv K a - sv K b < 0)) (sv K a - sv K b).natAbs 1 := by
  obtain ⟨m, i, e1, i1, _, _, v1⟩ := read_fin ha fa
  obtain ⟨n, j, e2, j1, _, _, v2⟩ := read_fin hb fb
  unfold fSub Ieee.Format.sub
  rw [e1, e2]
  refine sum_write (by omega) hK (sum_units i1 j1 hK (v1 K hK) (v2 K hK) (by rfl) ?_)
  unfold sv
  cases ngv b <;> simp

theorem fMul_fin {a b : Int} (ha : In64 a) (hb : In64 b) (fa : rg a < infR) (fb : rg b < infR) {K : Nat} (hK : 2148 ≤ K) :
    fMul a b = rnd K (ngv a ^^ ngv b) (val K (rg a) * val K (rg b)) (2 ^ K) := by
  obtain ⟨m, i, e1, i1, _, _, v1⟩ := read_fin ha fa
  obtain ⟨n, j, e2, j1, _, _, v2⟩ := read_fin hb fb
  unfold fMul Ieee.Format.mul
  rw [e1, e2]
  show s64 (Ieee.double.nearest _ (m * n) (i + j)) = _
  rw [nearest_s64 _ _ _ K (by omega) (by omega), ← v1 K (by omega), ← v2 K (by omega)]
  unfold rnd
  rw [← rq_scale (pow_pos2 K)]
  have e : m * n * 2 ^ (i + j + K).toNat * 2 ^ K = m * 2 ^ (i + K).toNat * (n * 2 ^ (j + K).toNat) := by
    have : (i + j + K).toNat + K = (i + K).toNat + (j + K).toNat := by omega
    rw [Nat.mul_assoc, ← Nat.pow_add, this, Nat.pow_add]
    ac_rfl
  rw [e, Nat.one_mul]

end Flt
end Go.Proofs.Ytdiaegfbaklpbaa
