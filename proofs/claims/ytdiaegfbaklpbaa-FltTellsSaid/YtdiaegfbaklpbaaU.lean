/-
  Package flt's Trunc: the whole number towards 0, if it is a SmallInteger; its contract.
-/
import Derived.Test.YtdiaegfbaklpbaaW
namespace Go.Proofs.Ytdiaegfbaklpbaa
open Go.RowKit Flt
namespace Flt

theorem cut_zero (neg : Bool) (n drop : Nat) : Ieee.Toward.zero.cut neg n drop = n / 2 ^ drop := by
  unfold Ieee.Toward.cut
  dsimp only
  rw [show Bool.toNat false = 0 from rfl, Nat.add_zero, Nat.shiftLeft_eq, Nat.one_mul]
  by_cases hd : drop ≤ n.log2 + 2
  · rw [Nat.min_eq_left hd]
  · rw [Nat.min_eq_right (by omega)]
    have hn : n < 2 ^ (n.log2 + 1) := Nat.lt_log2_self
    have ha : 2 ^ (n.log2 + 2) = 2 * 2 ^ (n.log2 + 1) := by rw [Nat.pow_succ]; omega
    have hb : 2 ^ (n.log2 + 2) ≤ 2 ^ drop := Nat.pow_le_pow_right (by omega) (by omega)
    rw [Nat.div_eq_of_lt (by omega), Nat.div_eq_of_lt (by omega)]

/-- the amount of a float's whole number towards 0 -/
def tm (a : Int) : Nat := match (Ieee.double.read (wd a)).toInt .zero with
  | some n => n.natAbs
  | none => 0
/-- a float's whole number towards 0 -/
def tv (a : Int) : Int := if ngv a then -(tm a : Int) else (tm a : Int)

theorem toInt_fin {a : Int} (h : In64 a) (hf : rg a < infR) : (Ieee.double.read (wd a)).toInt .zero = some (tv a) ∧ ∀ K : Nat, 1074 ≤ K → tm a = val K (rg a) / 2 ^ K := by
  obtain ⟨m, i, e, i1, _, _, v⟩ := read_fin h hf
  have h1 : (Ieee.double.read (wd a)).toInt .zero = some (if ngv a then -((m * 2 ^ i.toNat / 2 ^ (-i).toNat : Nat) : Int) else ((m * 2 ^ i.toNat / 2 ^ (-i).toNat : Nat) : Int)) := by
    rw [e]
    show some (Ieee.signed _ _ 0) = _
    rw [signed_eq, cut_zero, Nat.pow_zero, Nat.mul_one, Nat.shiftLeft_eq]
  have h2 : tm a = m * 2 ^ i.toNat / 2 ^ (-i).toNat := by
    unfold tm
    rw [h1]
    generalize m * 2 ^ i.toNat / 2 ^ (-i).toNat = q
    cases ngv a <;> simp
  refine ⟨?_, fun K hK => ?_⟩
  · rw [h1]
    unfold tv
    rw [h2]
  · rw [h2, ← v K hK]
    rcases Int.le_total 0 i with g | g
    · have e1 : (-i).toNat = 0 := by omega
      have e2 : (i + K).toNat = i.toNat + K := by omega
      rw [e1, e2, Nat.pow_zero, Nat.div_one, Nat.pow_add, ← Nat.mul_assoc, Nat.mul_div_cancel _ (pow_pos2 K)]
    · have e1 : i.toNat = 0 := by omega
      have e2 : K = (-i).toNat + (i + K).toNat := by omega
      rw [e1, Nat.pow_zero, Nat.mul_one]
      have e3 : m * 2 ^ (i + K).toNat / 2 ^ K = m * 2 ^ (i + K).toNat / (2 ^ (-i).toNat * 2 ^ (i + K).toNat) := by rw [← Nat.pow_add, ← e2]
      rw [e3, Nat.mul_div_mul_right _ _ (pow_pos2 _)]

/-- Is the float's whole number a SmallInteger? -/
def tb (a : Int) : Bool := decide (rg a < infR) && decide (-1073741824 ≤ tv a) && decide (tv a < 1073741824)

/-- What Trunc answers. -/
def fTr (a : Int) : Int := if tb a then tv a else 0

/-- the bits of -2^30 - 1, and of 2^30 -/
def lowC : Int := -4481081629229449216
def topC : Int := 4742290407621132288

theorem rg_top : rg topC = 4742290407621132288 := by decide
theorem rg_low : rg lowC = 4742290407625326592 := by decide
theorem val_top {K : Nat} (hK : 1074 ≤ K) : val K 4742290407621132288 = 1073741824 * 2 ^ K := by
  unfold val
  rw [if_neg (by decide)]
  have e : K - 1074 + (4742290407621132288 / 2 ^ 52 - 1) + 22 = K := by omega
  have e2 : 2 ^ 52 + 4742290407621132288 % 2 ^ 52 = 1073741824 * 2 ^ 22 := by decide
  rw [e2, Nat.mul_assoc, ← Nat.pow_add, Nat.add_comm, e]
theorem val_low {K : Nat} (hK : 1074 ≤ K) : val K 4742290407625326592 = 1073741825 * 2 ^ K := by
  unfold val
  rw [if_neg (by decide)]
  have e : K - 1074 + (4742290407625326592 / 2 ^ 52 - 1) + 22 = K := by omega
  have e2 : 2 ^ 52 + 4742290407625326592 % 2 ^ 52 = 1073741825 * 2 ^ 22 := by decide
  rw [e2, Nat.mul_assoc, ← Nat.pow_add, Nat.add_comm, e]

theorem tb_eq' {a : Int} (h : In64 a) {K : Nat} (hK : 1074 ≤ K) : (fLess lowC a && fLess a topC) = tb a := by
  have hi : infR = 9218868437227405312 := rfl
  rw [fLess_eq (by unfold In64 lowC; omega) h, fLess_eq h (by unfold In64 topC; omega)]
  have o1 : ord lowC = -4742290407625326592 := by decide
  have o2 : ord topC = 4742290407621132288 := by decide
  rw [o1, o2]
  unfold notNaN
  rw [rg_top, rg_low]
  unfold tb
  by_cases hn : rg a ≤ infR
  · by_cases hf : rg a < infR
    · have hk := (toInt_fin h hf).2 K hK
      have v1 := val_top hK
      have v2 := val_low hK
      have l1 : val K (rg a) < 1073741824 * 2 ^ K ↔ rg a < 4742290407621132288 := by rw [← v1]; exact val_lt_iff
      have l2 : val K (rg a) < 1073741825 * 2 ^ K ↔ rg a < 4742290407625326592 := by rw [← v2]; exact val_lt_iff
      have hp := pow_pos2 K
      rw [← Nat.div_lt_iff_lt_mul hp, ← hk] at l1 l2
      have hi1 : (4742290407625326592 : Nat) ≤ infR := by decide
      have hi2 : (4742290407621132288 : Nat) ≤ infR := by decide
      simp only [hn, hf, hi1, hi2, decide_true, Bool.true_and, Bool.and_true]
      rw [Bool.eq_iff_iff]
      simp only [Bool.and_eq_true, decide_eq_true_eq]
      unfold ord tv
      cases ngv a
      · simp only [Bool.false_eq_true, if_false]; omega
      · simp only [if_true]; omega
    · have he : rg a = infR := by omega
      have : ¬ ((-4742290407625326592 < ord a) ∧ (ord a < 4742290407621132288)) := by
        unfold ord; rw [he, hi]; cases ngv a <;> simp
      simp only [hf, decide_false, Bool.false_and]
      rw [Bool.eq_false_iff]
      intro g
      simp only [Bool.and_eq_true, decide_eq_true_eq] at g
      exact this ⟨g.1.2, g.2.2⟩
  · have hf : ¬ rg a < infR := by omega
    simp only [hn, hf, decide_false, Bool.false_and, Bool.and_false]

theorem tb_eq {a : Int} (h : In64 a) : (fLess lowC a && fLess a topC) = tb a := tb_eq' h (Nat.le_refl 1074)

end Flt

set_option maxHeartbeats 1000000 in
theorem trunc_any (a : Int) (h : In64 a) (w : World) : Calls Try.prog 14 #[.int .i64 a] w fun e w' => e = .returned (.tuple #[.int .i64 (fTr a), .bool (tb a)]) ∧ w = w' := by
  have hb := tb_eq h
  have c1 : (FloatKind.f64.format.order 13965662444480102400 (wd a) == some .lt) = fLess lowC a := by
    have : (13965662444480102400 : Nat) = wd lowC := by decide
    rw [this]; rfl
  have c2 : (FloatKind.f64.format.order (wd a) 4742290407621132288 == some .lt) = fLess a topC := by
    have : (4742290407621132288 : Nat) = wd topC := by decide
    rw [this]; rfl
  cases h1 : fLess lowC a
  · rw [h1] at hb c1
    have ht : tb a = false := by rw [← hb]; rfl
    have e : fTr a = 0 := by unfold fTr; rw [ht]; rfl
    rw [e, ht]
    clear e ht hb h1 c2 h
    go_enter Try.func14, Try.ntmps14
    go_wp2_with (go_at_call 29; refine (floatOf_any _ _).mono ?_; rintro e w' ⟨rfl, rfl⟩)
    go_ret2; exact ⟨rfl, rfl⟩
  · cases h2 : fLess a topC
    · rw [h1, h2] at hb
      rw [h1] at c1
      rw [h2] at c2
      have ht : tb a = false := by rw [← hb]; rfl
      have e : fTr a = 0 := by unfold fTr; rw [ht]; rfl
      rw [e, ht]
      clear e ht hb h1 h2 h
      go_enter Try.func14, Try.ntmps14
      go_wp2_with (go_at_call 29; refine (floatOf_any _ _).mono ?_; rintro e w' ⟨rfl, rfl⟩)
      go_ret2; exact ⟨rfl, rfl⟩
    · rw [h1, h2] at hb
      rw [h1] at c1
      rw [h2] at c2
      have ht : tb a = true := by rw [← hb]; rfl
      have e : fTr a = tv a := by unfold fTr; rw [ht]; rfl
      have hbd : rg a < infR ∧ -1073741824 ≤ tv a ∧ tv a < 1073741824 := by
        unfold tb at ht
        simpa [and_assoc] using ht
      have hc : floatToIntVal .f64 (wd a) .i64 = some (tv a) := by
        unfold floatToIntVal
        rw [show (FloatKind.f64.decode (wd a)).toInt .zero = some (tv a) from (toInt_fin h hbd.1).1]
        have m1 : IntKind.i64.min = -9223372036854775808 := by decide
        have m2 : IntKind.i64.max = 9223372036854775807 := by decide
        simp only [m1, m2]
        rw [if_pos (by omega)]
      have hv : ∀ w : World, (convert 32 3 (.float .f64 (wd a))).run Try.prog w = .ok (.int .i64 (tv a)) w := fun w => run_convert_float_int w 32 3 .f64 .i64 (wd a) (tv a) (by rw [Try.underlying32]; rfl) Try.underlying3 hc
      rw [e, ht]
      clear e ht hb h1 h2 h hbd hc
      go_enter Try.func14, Try.ntmps14
      go_wp2_with (go_at_call 29; refine (floatOf_any _ _).mono ?_; rintro e w' ⟨rfl, rfl⟩)
      go_ret2; exact ⟨rfl, rfl⟩

end Go.Proofs.Ytdiaegfbaklpbaa
