/- What values and floats' bits are, in plain mathematics, and the contracts of the small functions of packages value and flt, and of the document's answers for them. -/
import Derived.Test.YtkpfmbdkfgeboaaH0
namespace Go.Proofs.Ytkpfmbdkfgeboaa
open Go.RowKit

/-- is n a SmallInteger? -/
def smB (n : Int) : Bool := decide (-1073741824 ≤ n ∧ n ≤ 1073741823)
/-- is i an object's number? -/
def nuB (i : Int) : Bool := decide (0 ≤ i ∧ i < 1048576)
/-- is v odd? -/
def odB (v : Int) : Bool := decide (v % 2 = 1)
/-- the value of a ref -/
def reV (i : Int) : Int := if nuB i then 2 * i else 0
/-- is v a SmallInteger's value; which -/
def nB (v : Int) : Bool := odB v && smB (v / 2)
def nV (v : Int) : Int := if nB v then v / 2 else 0
/-- is v a ref; which -/
def atB (v : Int) : Bool := !odB v && nuB (v / 2)
def atV (v : Int) : Int := if atB v then v / 2 else 0

theorem smB_iff {n : Int} : smB n = true ↔ -1073741824 ≤ n ∧ n ≤ 1073741823 := by simp [smB]
theorem smB_no {n : Int} : smB n = false ↔ n < -1073741824 ∨ 1073741823 < n := by simp [smB]; omega
theorem nuB_iff {n : Int} : nuB n = true ↔ 0 ≤ n ∧ n < 1048576 := by simp [nuB]
theorem nuB_no {n : Int} : nuB n = false ↔ n < 0 ∨ 1048576 ≤ n := by simp [nuB]; omega
theorem odB_iff {n : Int} : odB n = true ↔ n % 2 = 1 := by simp [odB]
theorem odB_no {n : Int} : odB n = false ↔ n % 2 = 0 := by simp [odB]; omega
theorem nB_iff {v : Int} : nB v = true ↔ v % 2 = 1 ∧ -2147483648 ≤ v ∧ v ≤ 2147483647 := by
  simp [nB, odB_iff, smB_iff]; omega
theorem atB_iff {v : Int} : atB v = true ↔ v % 2 = 0 ∧ 0 ≤ v ∧ v < 2097152 := by
  simp [atB, odB_no, nuB_iff]; omega
theorem atV_lt {v : Int} (h : atB v = true) : 0 ≤ atV v ∧ atV v < 1048576 := by
  have := atB_iff.1 h
  unfold atV; rw [if_pos h]; omega

theorem and_mask (a : Int) (k : Nat) (hk : k ≤ 63) (m : Int) (hm : m = (2 ^ k - 1 : Nat)) : bits .and .i64 a m = a % (2 ^ k : Nat) := by
  have h2 : 2 ^ k ≤ 2 ^ 63 := Nat.pow_le_pow_right (by omega) hk
  have hp : 0 < 2 ^ k := Nat.two_pow_pos k
  have h1 : (BitVec.ofInt 64 m).toNat = 2 ^ k - 1 := by
    rw [hm, BitVec.toNat_ofInt]
    have : ((2 ^ 64 : Nat) : Int) = 18446744073709551616 := by decide
    rw [this]
    generalize 2 ^ k = p at *
    omega
  have key : (BitVec.ofInt 64 a &&& BitVec.ofInt 64 m).toNat = (a % ((2 ^ 64 : Nat) : Int)).toNat % 2 ^ k := by
    rw [BitVec.toNat_and, BitVec.toNat_ofInt, h1, Nat.and_two_pow_sub_one_eq_mod]
  show IntKind.i64.wrap ((BitVec.ofInt 64 a &&& BitVec.ofInt 64 m).toNat : Nat) = _
  rw [key, IntKind.wrap_i64]
  have hd : ((a % ((2 ^ 64 : Nat) : Int)).toNat % 2 ^ k : Nat) = (a % (2 ^ k : Nat)).toNat := by
    have e : (2 ^ 64 : Nat) = 2 ^ k * 2 ^ (64 - k) := by rw [← Nat.pow_add]; congr 1; omega
    have h3 : 0 ≤ a % ((2 ^ 64 : Nat) : Int) := Int.emod_nonneg _ (by decide)
    have h4 : 0 ≤ a % ((2 ^ k : Nat) : Int) := Int.emod_nonneg _ (by omega)
    apply Int.ofNat.inj
    show (((a % ((2 ^ 64 : Nat) : Int)).toNat % 2 ^ k : Nat) : Int) = ((a % (2 ^ k : Nat)).toNat : Int)
    rw [Int.natCast_emod, Int.toNat_of_nonneg h3, Int.toNat_of_nonneg h4, Int.emod_emod_of_dvd]
    rw [e, Int.natCast_mul]
    exact Int.dvd_mul_right ..
  rw [hd]
  have h4 : 0 ≤ a % ((2 ^ k : Nat) : Int) := Int.emod_nonneg _ (by omega)
  have h5 : a % ((2 ^ k : Nat) : Int) < (2 ^ k : Nat) := Int.emod_lt_of_pos _ (by omega)
  rw [Int.toNat_of_nonneg h4]
  have h6 : ((2 ^ k : Nat) : Int) ≤ 9223372036854775808 := by
    have : (2 : Nat) ^ 63 = 9223372036854775808 := by decide
    rw [this] at h2
    generalize 2 ^ k = p at *
    omega
  generalize a % ((2 ^ k : Nat) : Int) = x at *
  generalize ((2 ^ k : Nat) : Int) = y at *
  omega
theorem and1 (a : Int) : bits .and .i64 a 1 = a % 2 := and_mask a 1 (by omega) 1 (by decide)
theorem and11 (a : Int) : bits .and .i64 a 2047 = a % 2048 := and_mask a 11 (by omega) 2047 (by decide)
theorem and30 (a : Int) : bits .and .i64 a 1073741823 = a % 1073741824 := and_mask a 30 (by omega) _ (by decide)
theorem and52 (a : Int) : bits .and .i64 a 4503599627370495 = a % 4503599627370496 := and_mask a 52 (by omega) _ (by decide)
theorem and63 (a : Int) : bits .and .i64 a 9223372036854775807 = a % 9223372036854775808 := and_mask a 63 (by omega) _ (by decide)

theorem small_any (v : Int) (w : World) : Calls Try.prog 74 #[.int .i64 v] w fun e w' => e = .returned (.bool (smB v)) ∧ w = w' := by
  by_cases h1 : -1073741824 ≤ v
  · have e : smB v = decide (v ≤ 1073741823) := by simp [smB, h1]
    rw [e]; clear e
    go_enter Try.func74, Try.ntmps74
    go_wp2
    go_ret; exact ⟨rfl, rfl⟩
  · have e : smB v = false := by simp [smB, h1]
    rw [e]; clear e
    have h1' : v < -1073741824 := by omega
    go_enter Try.func74, Try.ntmps74
    go_wp2
    go_ret; exact ⟨rfl, rfl⟩
theorem number_any (v : Int) (w : World) : Calls Try.prog 78 #[.int .i64 v] w fun e w' => e = .returned (.bool (nuB v)) ∧ w = w' := by
  by_cases h1 : 0 ≤ v
  · have e : nuB v = decide (v < 1048576) := by simp [nuB, h1]
    rw [e]; clear e
    go_enter Try.func78, Try.ntmps78
    go_wp2
    go_ret; exact ⟨rfl, rfl⟩
  · have e : nuB v = false := by simp [nuB, h1]
    rw [e]; clear e
    have h1' : v < 0 := by omega
    go_enter Try.func78, Try.ntmps78
    go_wp2
    go_ret; exact ⟨rfl, rfl⟩
theorem odd_any (v : Int) (w : World) : Calls Try.prog 73 #[.int .i64 v] w fun e w' => e = .returned (.bool (odB v)) ∧ w = w' := by
  have e : odB v = (bits .and .i64 v 1 == 1) := by rw [and1]; simp [odB]; rfl
  rw [e]; clear e
  go_enter Try.func73, Try.ntmps73
  go_wp2
  go_ret
  exact ⟨rfl, rfl⟩
theorem ref_any (n : Int) (w : World) : Calls Try.prog 79 #[.int .i64 n] w fun e w' => e = .returned (.tuple #[.int .i64 (reV n), .bool (nuB n)]) ∧ w = w' := by
  cases h : nuB n
  · go_enter Try.func79, Try.ntmps79
    go_wp2_with (go_at_call 78; refine (number_any _ _).mono ?_; rintro e w' ⟨rfl, rfl⟩)
    go_ret2; exact ⟨by simp [reV, h], rfl⟩
  · have hb := nuB_iff.1 h
    have e : reV n = n * 2 := by simp [reV, h]; omega
    rw [e]; clear e
    have h1 := hb.1
    have h2 := hb.2
    clear hb
    go_enter Try.func79, Try.ntmps79
    go_wp2_with (go_at_call 78; refine (number_any _ _).mono ?_; rintro e w' ⟨rfl, rfl⟩)
    go_ret2; exact ⟨rfl, rfl⟩
theorem n_any (v : Int) (w : World) : Calls Try.prog 53 #[.int .i64 v] w fun e w' => e = .returned (.tuple #[.int .i64 (nV v), .bool (nB v)]) ∧ w = w' := by
  cases h1 : odB v <;> cases h2 : smB (v / 2)
  all_goals
    go_enter Try.func53, Try.ntmps53
    go_wp2_with (first | (go_at_call 74; refine (small_any _ _).mono ?_; rintro e w' ⟨rfl, rfl⟩) | (go_at_call 73; refine (odd_any _ _).mono ?_; rintro e w' ⟨rfl, rfl⟩))
    go_ret2
    exact ⟨by simp [nV, nB, h1, h2], rfl⟩
theorem at_any (v : Int) (w : World) : Calls Try.prog 64 #[.int .i64 v] w fun e w' => e = .returned (.tuple #[.int .i64 (atV v), .bool (atB v)]) ∧ w = w' := by
  cases h1 : odB v <;> cases h2 : nuB (v / 2)
  all_goals
    go_enter Try.func64, Try.ntmps64
    go_wp2_with (first | (go_at_call 78; refine (number_any _ _).mono ?_; rintro e w' ⟨rfl, rfl⟩) | (go_at_call 73; refine (odd_any _ _).mono ?_; rintro e w' ⟨rfl, rfl⟩))
    go_ret2
    exact ⟨by simp [atV, atB, h1, h2], rfl⟩
theorem tm2 (v : Int) : (Int.tmod v 2 == 0) = !odB v := by
  have h : Int.tmod v 2 = 0 ↔ v % 2 = 0 := by rw [← Int.dvd_iff_tmod_eq_zero, ← Int.dvd_iff_emod_eq_zero]
  cases ho : odB v
  · rw [odB_no] at ho; simp [h.2 ho]
  · rw [odB_iff] at ho
    have : ¬ Int.tmod v 2 = 0 := fun g => by have := h.1 g; omega
    simpa using this
theorem bne_not {a b : Int} {c : Bool} (h : (a == b) = c) : (a != b) = !c := by simp [bne, h]
theorem rn_any (v : Int) (w : World) : Calls Try.prog 47 #[.int .i64 v] w fun e w' => e = .returned (.tuple #[.int .i64 (nV v), .bool (nB v)]) ∧ w = w' := by
  have hm : v.tmod 2 = 0 ∧ v % 2 = 0 ∨ ¬ v.tmod 2 = 0 ∧ v % 2 = 1 := by
    have := Int.emod_two_eq v
    have e : v.tmod 2 = 0 ↔ v % 2 = 0 := by
      rw [← Int.dvd_iff_tmod_eq_zero, Int.dvd_iff_emod_eq_zero]
    rw [e]; omega
  have F : nB v = true ∧ nV v = (v - 1).tdiv 2 ∧ (v.tmod 2 == 0) = false ∧ -2147483647 ≤ v ∧ v ≤ 2147483647 ∨ nB v = false ∧ nV v = 0 ∧ (v.tmod 2 == 0) = true ∨
      nB v = false ∧ nV v = 0 ∧ (v.tmod 2 == 0) = false ∧ v < -2147483647 ∨ nB v = false ∧ nV v = 0 ∧ (v.tmod 2 == 0) = false ∧ -2147483647 ≤ v ∧ 2147483647 < v := by
    cases h : nB v
    · have h' : ¬ (v % 2 = 1 ∧ -2147483648 ≤ v ∧ v ≤ 2147483647) := fun e => by rw [← nB_iff, h] at e; cases e
      rcases hm with ⟨h1, h2⟩ | ⟨h1, h2⟩ <;> simp [h1, nV, h] <;> omega
    · have h' := nB_iff.1 h
      have e : (v - 1).tdiv 2 = v / 2 := by
        by_cases hv : 0 ≤ v - 1
        · rw [Int.tdiv_eq_ediv_of_nonneg hv]; omega
        · have : v - 1 = -(1 - v) := by omega
          rw [this, Int.neg_tdiv, Int.tdiv_eq_ediv_of_nonneg (by omega)]; omega
      rcases hm with ⟨h1, h2⟩ | ⟨h1, h2⟩ <;> simp [h1, nV, h, e] <;> omega
  clear hm
  rcases F with ⟨h, e, t, b1, b2⟩ | ⟨h, e, t⟩ | ⟨h, e, t, b1⟩ | ⟨h, e, t, b1, b2⟩
  all_goals
    rw [h, e]; clear h e
    go_enter Try.func47, Try.ntmps47
    go_wp2
    all_goals (go_ret2; exact ⟨rfl, rfl⟩)
theorem rat_any (v : Int) (w : World) : Calls Try.prog 46 #[.int .i64 v] w fun e w' => e = .returned (.tuple #[.int .i64 (atV v), .bool (atB v)]) ∧ w = w' := by
  have hm : v.tmod 2 = 0 ∧ v % 2 = 0 ∨ ¬ v.tmod 2 = 0 ∧ v % 2 = 1 := by
    have := Int.emod_two_eq v
    have e : v.tmod 2 = 0 ↔ v % 2 = 0 := by
      rw [← Int.dvd_iff_tmod_eq_zero, Int.dvd_iff_emod_eq_zero]
    rw [e]; omega
  have F : atB v = true ∧ atV v = v / 2 ∧ (v.tmod 2 != 0) = false ∧ v % 2 = 0 ∧ 0 ≤ v ∧ v ≤ 2097150 ∨ atB v = false ∧ atV v = 0 ∧ (v.tmod 2 != 0) = true ∧ v % 2 = 1 ∨
      atB v = false ∧ atV v = 0 ∧ (v.tmod 2 != 0) = false ∧ v < 0 ∨ atB v = false ∧ atV v = 0 ∧ (v.tmod 2 != 0) = false ∧ 0 ≤ v ∧ 2097150 < v := by
    cases h : atB v
    · have h' : ¬ (v % 2 = 0 ∧ 0 ≤ v ∧ v < 2097152) := fun e => by rw [← atB_iff, h] at e; cases e
      rcases hm with ⟨h1, h2⟩ | ⟨h1, h2⟩ <;> simp [h1, atV, h] <;> omega
    · have h' := atB_iff.1 h
      rcases hm with ⟨h1, h2⟩ | ⟨h1, h2⟩ <;> simp [h1, atV, h] <;> omega
  clear hm
  rcases F with ⟨h, e, t, b0, b1, b2⟩ | ⟨h, e, t, b0⟩ | ⟨h, e, t, b1⟩ | ⟨h, e, t, b1, b2⟩
  all_goals
    rw [h, e]; clear h e
    go_enter Try.func46, Try.ntmps46
    go_wp2
    all_goals (go_ret2; exact ⟨rfl, rfl⟩)

/-- the bits without the sign; the rung of what is infinite; the kind; the canonical bits -/
def rg (a : Int) : Nat := (a % 9223372036854775808).toNat
def infR : Nat := 9218868437227405312
def theNaN : Int := 9221120237041090561
def kd (a : Int) : Int := if infR < rg a then 0 else if rg a = infR then 1 else if rg a = 0 then 2 else if rg a < 4503599627370496 then 3 else 4
def canon (a : Int) : Int := if infR < rg a then theNaN else a
theorem rg_lt (a : Int) : rg a < 9223372036854775808 := by unfold rg; omega
set_option maxHeartbeats 400000 in
theorem kind_any (a : Int) (w : World) : Calls Try.prog 84 #[.int .i64 a] w fun e w' => e = .returned (.int .i64 (kd a)) ∧ w = w' := by
  have e1 := and11 (a / 4503599627370496)
  have e2 := and52 a
  go_enter Try.func84, Try.ntmps84
  go_wp2
  all_goals go_ret
  all_goals
    refine ⟨?_, rfl⟩
    refine congrArg (fun x => Ending.returned (Value.int .i64 x)) ?_
    simp only [bne_iff_ne, ne_eq, bne_eq_false_iff_eq, beq_eq_false_iff_ne] at *
    have hi : infR = 9218868437227405312 := rfl
    have hr : (rg a : Int) = a % 9223372036854775808 := by unfold rg; omega
    unfold kd
    repeat' split
    all_goals omega

theorem kd_zero (a : Int) : kd a = 0 ↔ infR < rg a := by
  unfold kd
  repeat' split
  all_goals simp_all

set_option maxHeartbeats 400000 in
theorem canon_any (a : Int) (w : World) : Calls Try.prog 76 #[.int .i64 a] w fun e w' => e = .returned (.int .i64 (canon a)) ∧ w = w' := by
  by_cases h : infR < rg a
  · have e1 : kd a = 0 := (kd_zero a).2 h
    have e2 : canon a = 9221120237041090561 := by unfold canon; rw [if_pos h]; rfl
    rw [e2]; clear e2
    go_enter Try.func76, Try.ntmps76
    go_wp2_with (go_at_call 84; refine (kind_any _ _).mono ?_; rintro e w' ⟨rfl, rfl⟩)
    go_ret; exact ⟨rfl, rfl⟩
  · have e1 : (kd a == 0) = false := by rw [beq_eq_false_iff_ne]; exact fun g => h ((kd_zero a).1 g)
    have e2 : canon a = a := by unfold canon; rw [if_neg h]
    rw [e2]; clear e2
    go_enter Try.func76, Try.ntmps76
    go_wp2_with (go_at_call 84; refine (kind_any _ _).mono ?_; rintro e w' ⟨rfl, rfl⟩)
    all_goals go_ret
    all_goals first | exact ⟨rfl, rfl⟩ | skip

set_option maxHeartbeats 400000 in
theorem rnan_any (w : World) : Calls Try.prog 67 #[] w fun e w' => e = .returned (.int .i64 9221120237041090561) ∧ w = w' := by
  go_enter Try.func67, Try.ntmps67
  go_wp2
  go_ret; exact ⟨rfl, rfl⟩
set_option maxHeartbeats 400000 in
theorem rmost_any (w : World) : Calls Try.prog 85 #[] w fun e w' => e = .returned (.int .i64 9223372036854775807) ∧ w = w' := by
  go_enter Try.func85, Try.ntmps85
  go_wp2
  go_ret; exact ⟨rfl, rfl⟩
theorem rg_cast (a : Int) : (rg a : Int) = a % 9223372036854775808 := by unfold rg; omega
set_option maxHeartbeats 400000 in
theorem rplain_any (a : Int) (w : World) : Calls Try.prog 80 #[.int .i64 a] w fun e w' => e = .returned (.int .i64 (rg a)) ∧ w = w' := by
  have e1 : bits .and .i64 a 9223372036854775807 = (rg a : Int) := by rw [and63, rg_cast]
  go_enter Try.func80, Try.ntmps80
  go_wp2_with (go_at_call 85; refine (rmost_any _).mono ?_; rintro e w' ⟨rfl, rfl⟩)
  go_ret; exact ⟨rfl, rfl⟩
set_option maxHeartbeats 400000 in
theorem rkind_any (a : Int) (w : World) : Calls Try.prog 66 #[.int .i64 a] w fun e w' => e = .returned (.int .i64 (kd a)) ∧ w = w' := by
  have hl := rg_lt a
  have e2 : Int.tmod (rg a : Int) 4503599627370496 = (rg a : Int) % 4503599627370496 := Int.tmod_eq_emod_of_nonneg (by omega)
  go_enter Try.func66, Try.ntmps66
  go_wp2_with (go_at_call 80; refine (rplain_any _ _).mono ?_; rintro e w' ⟨rfl, rfl⟩)
  all_goals go_ret
  all_goals
    refine ⟨?_, rfl⟩
    refine congrArg (fun x => Ending.returned (Value.int .i64 x)) ?_
    have hi : infR = 9218868437227405312 := rfl
    unfold kd
    repeat' split
    all_goals first | omega | (simp_all; done) | (simp_all; omega) | skip

set_option maxHeartbeats 400000 in
theorem rcanon_any (a : Int) (w : World) : Calls Try.prog 45 #[.int .i64 a] w fun e w' => e = .returned (.int .i64 (canon a)) ∧ w = w' := by
  by_cases h : infR < rg a
  · have e1 : kd a = 0 := (kd_zero a).2 h
    have e2 : canon a = 9221120237041090561 := by unfold canon; rw [if_pos h]; rfl
    rw [e2]; clear e2
    go_enter Try.func45, Try.ntmps45
    go_wp2_with (first | (go_at_call 66; refine (rkind_any _ _).mono ?_; rintro e w' ⟨rfl, rfl⟩) | (go_at_call 67; refine (rnan_any _).mono ?_; rintro e w' ⟨rfl, rfl⟩))
    go_ret; exact ⟨rfl, rfl⟩
  · have e1 : (kd a == 0) = false := by rw [beq_eq_false_iff_ne]; exact fun g => h ((kd_zero a).1 g)
    have e2 : canon a = a := by unfold canon; rw [if_neg h]
    rw [e2]; clear e2
    go_enter Try.func45, Try.ntmps45
    go_wp2_with (first | (go_at_call 66; refine (rkind_any _ _).mono ?_; rintro e w' ⟨rfl, rfl⟩) | (go_at_call 67; refine (rnan_any _).mono ?_; rintro e w' ⟨rfl, rfl⟩))
    all_goals go_ret
    all_goals first | exact ⟨rfl, rfl⟩ | skip
end Go.Proofs.Ytkpfmbdkfgeboaa
