/- What values and floats' bits are, in plain mathematics, and the contracts of the small functions of packages value and flt, and of the document's answers for them. -/
import Derived.Test.YtimmoaomhilaeaaH0
namespace Go.Proofs.Ytimmoaomhilaeaa
open Go.RowKit

/-- is n a SmallInteger? -/
def smB (n : Int) : Bool := decide (-1073741824 ≤ n ∧ n ≤ 1073741823)
/-- is i an object's number? -/
def nuB (i : Int) : Bool := decide (0 ≤ i ∧ i < 1048576)
/-- is v odd? -/
def odB (v : Int) : Bool := decide (v % 2 = 1)
/-- the value of a ref -/
def reV (i : Int) : Int := if nuB i then 2 * i else 0
/-- is v a SmallInteger's value; which -/
def nB (v : Int) : Bool := odB v && smB (v / 2)
def nV (v : Int) : Int := if nB v then v / 2 else 0
/-- is v a ref; which -/
def atB (v : Int) : Bool := !odB v && nuB (v / 2)
def atV (v : Int) : Int := if atB v then v / 2 else 0

theorem smB_iff {n : Int} : smB n = true ↔ -1073741824 ≤ n ∧ n ≤ 1073741823 := by simp [smB]
theorem smB_no {n : Int} : smB n = false ↔ n < -1073741824 ∨ 1073741823 < n := by simp [smB]; omega
theorem nuB_iff {n : Int} : nuB n = true ↔ 0 ≤ n ∧ n < 1048576 := by simp [nuB]
theorem nuB_no {n : Int} : nuB n = false ↔ n < 0 ∨ 1048576 ≤ n := by simp [nuB]; omega
theorem odB_iff {n : Int} : odB n = true ↔ n % 2 = 1 := by simp [odB]
theorem odB_no {n : Int} : odB n = false ↔ n % 2 = 0 := by simp [odB]; omega
theorem nB_iff {v : Int} : nB v = true ↔ v % 2 = 1 ∧ -2147483648 ≤ v ∧ v ≤ 2147483647 := by
  simp [nB, odB_iff, smB_iff]; omega
theorem atB_iff {v : Int} : atB v = true ↔ v % 2 = 0 ∧ 0 ≤ v ∧ v < 2097152 := by
  simp [atB, odB_no, nuB_iff]; omega
theorem atV_lt {v : Int} (h : atB v = true) : 0 ≤ atV v ∧ atV v < 1048576 := by
  have := atB_iff.1 h
  unfold atV; rw [if_pos h]; omega

theorem and_mask (a : Int) (k : Nat) (hk : k ≤ 63) (m : Int) (hm : m = (2 ^ k - 1 : Nat)) : bits .and .i64 a m = a % (2 ^ k : Nat) := by
  have h2 : 2 ^ k ≤ 2 ^ 63 := Nat.pow_le_pow_right (by omega) hk
  have hp : 0 < 2 ^ k := Nat.two_pow_pos k
  have h1 : (BitVec.ofInt 64 m).toNat = 2 ^ k - 1 := by
    rw [hm, BitVec.toNat_ofInt]
    have : ((2 ^ 64 : Nat) : Int) = 18446744073709551616 := by decide
    rw [this]
    generalize 2 ^ k = p at *
    omega
  have key : (BitVec.ofInt 64 a &&& BitVec.ofInt 64 m).toNat = (a % ((2 ^ 64 : Nat) : Int)).toNat % 2 ^ k := by
    rw [BitVec.toNat_and, BitVec.toNat_ofInt, h1, Nat.and_two_pow_sub_one_eq_mod]
  show IntKind.i64.wrap ((BitVec.ofInt 64 a &&& BitVec.ofInt 64 m).toNat : Nat) = _
  rw [key, IntKind.wrap_i64]
  have hd : ((a % ((2 ^ 64 : Nat) : Int)).toNat % 2 ^ k : Nat) = (a % (2 ^ k : Nat)).toNat := by
    have e : (2 ^ 64 : Nat) = 2 ^ k * 2 ^ (64 - k) := by rw [← Nat.pow_add]; congr 1; omega
    have h3 : 0 ≤ a % ((2 ^ 64 : Nat) : Int) := Int.emod_nonneg _ (by decide)
    have h4 : 0 ≤ a % ((2 ^ k : Nat) : Int) := Int.emod_nonneg _ (by omega)
    apply Int.ofNat.inj
    show (((a % ((2 ^ 64 : Nat) : Int)).toNat % 2 ^ k : Nat) : Int) = ((a % (2 ^ k : Nat)).toNat : Int)
    rw [Int.natCast_emod, Int.toNat_of_nonneg h3, Int.toNat_of_nonneg h4, Int.emod_emod_of_dvd]
    rw [e, Int.natCast_mul]
    exact Int.dvd_mul_right ..
  rw [hd]
  have h4 : 0 ≤ a % ((2 ^ k : Nat) : Int) := Int.emod_nonneg _ (by omega)
  have h5 : a % ((2 ^ k : Nat) : Int) < (2 ^ k : Nat) := Int.emod_lt_of_pos _ (by omega)
  rw [Int.toNat_of_nonneg h4]
  have h6 : ((2 ^ k : Nat) : Int) ≤ 9223372036854775808 := by
    have : (2 : Nat) ^ 63 = 9223372036854775808 := by decide
    rw [this] at h2
    generalize 2 ^ k = p at *
    omega
  generalize a % ((2 ^ k : Nat) : Int) = x at *
  generalize ((2 ^ k : Nat) : Int) = y at *
  omega
theorem and1 (a : Int) : bits .and .i64 a 1 = a % 2 := and_mask a 1 (by omega) 1 (by decide)
theorem and11 (a : Int) : bits .and .i64 a 2047 = a % 2048 := and_mask a 11 (by omega) 2047 (by decide)
theorem and30 (a : Int) : bits .and .i64 a 1073741823 = a % 1073741824 := and_mask a 30 (by omega) _ (by decide)
theorem and52 (a : Int) : bits .and .i64 a 4503599627370495 = a % 4503599627370496 := and_mask a 52 (by omega) _ (by decide)
theorem and63 (a : Int) : bits .and .i64 a 9223372036854775807 = a % 9223372036854775808 := and_mask a 63 (by omega) _ (by decide)

theorem small_any (v : Int) (w : World) : Calls Try.prog 29 #[.int .i64 v] w fun e w' => e = .returned (.bool (smB v)) ∧ w = w' := by
  by_cases h1 : -1073741824 ≤ v
  · have e : smB v = decide (v ≤ 1073741823) := by simp [smB, h1]
    rw [e]; clear e
    go_enter Try.func29, Try.ntmps29
    go_wp2
    go_ret; exact ⟨rfl, rfl⟩
  · have e : smB v = false := by simp [smB, h1]
    rw [e]; clear e
    have h1' : v < -1073741824 := by omega
    go_enter Try.func29, Try.ntmps29
    go_wp2
    go_ret; exact ⟨rfl, rfl⟩
theorem tm2 (v : Int) : (Int.tmod v 2 == 0) = !odB v := by
  have h : Int.tmod v 2 = 0 ↔ v % 2 = 0 := by rw [← Int.dvd_iff_tmod_eq_zero, ← Int.dvd_iff_emod_eq_zero]
  cases ho : odB v
  · rw [odB_no] at ho; simp [h.2 ho]
  · rw [odB_iff] at ho
    have : ¬ Int.tmod v 2 = 0 := fun g => by have := h.1 g; omega
    simpa using this
theorem bne_not {a b : Int} {c : Bool} (h : (a == b) = c) : (a != b) = !c := by simp [bne, h]
/-- the bits without the sign; the rung of what is infinite; the kind; the canonical bits -/
def rg (a : Int) : Nat := (a % 9223372036854775808).toNat
def infR : Nat := 9218868437227405312
def theNaN : Int := 9221120237041090561
def kd (a : Int) : Int := if infR < rg a then 0 else if rg a = infR then 1 else if rg a = 0 then 2 else if rg a < 4503599627370496 then 3 else 4
def canon (a : Int) : Int := if infR < rg a then theNaN else a
theorem rg_lt (a : Int) : rg a < 9223372036854775808 := by unfold rg; omega
theorem kd_zero (a : Int) : kd a = 0 ↔ infR < rg a := by
  unfold kd
  repeat' split
  all_goals simp_all

theorem rg_cast (a : Int) : (rg a : Int) = a % 9223372036854775808 := by unfold rg; omega
end Go.Proofs.Ytimmoaomhilaeaa
