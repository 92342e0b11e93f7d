/- What values are, in plain mathematics: which numbers are SmallIntegers' values and which are refs', and their texts; no program is named here. -/
import Derived.Lib.ItoaLen
import Derived.Lib.ItoaMem
import Derived.Laws.BitsLemmas
namespace Go.Proofs.YtmapdimhgpdajaaDoor
open Go

/-- is n a SmallInteger? -/
def smB (n : Int) : Bool := decide (-1073741824 ≤ n ∧ n ≤ 1073741823)
/-- is i an object's number? -/
def nuB (i : Int) : Bool := decide (0 ≤ i ∧ i < 1048576)
/-- is v odd? -/
def odB (v : Int) : Bool := decide (v % 2 = 1)
/-- the value of a SmallInteger, of a ref -/
def inV (n : Int) : Int := if smB n then 2 * n + 1 else 0
def reV (i : Int) : Int := if nuB i then 2 * i else 0
/-- is v a SmallInteger's value; which -/
def nB (v : Int) : Bool := odB v && smB (v / 2)
def nV (v : Int) : Int := if nB v then v / 2 else 0
/-- is v a ref; which -/
def atB (v : Int) : Bool := !odB v && nuB (v / 2)
def atV (v : Int) : Int := if atB v then v / 2 else 0
def mayB (v : Int) : Bool := nB v || atB v
/-- a value's text -/
def textL (v : Int) : List UInt8 := if nB v then Lib.itoa (v / 2) else if atB v then 64 :: Lib.itoa (v / 2) else []

theorem smB_iff {n : Int} : smB n = true ↔ -1073741824 ≤ n ∧ n ≤ 1073741823 := by simp [smB]
theorem smB_no {n : Int} : smB n = false ↔ n < -1073741824 ∨ 1073741823 < n := by simp [smB]; omega
theorem nuB_iff {n : Int} : nuB n = true ↔ 0 ≤ n ∧ n < 1048576 := by simp [nuB]
theorem nuB_no {n : Int} : nuB n = false ↔ n < 0 ∨ 1048576 ≤ n := by simp [nuB]; omega
theorem odB_iff {n : Int} : odB n = true ↔ n % 2 = 1 := by simp [odB]
theorem odB_no {n : Int} : odB n = false ↔ n % 2 = 0 := by simp [odB]; omega
theorem nB_iff {v : Int} : nB v = true ↔ v % 2 = 1 ∧ -2147483648 ≤ v ∧ v ≤ 2147483647 := by
  simp [nB, odB_iff, smB_iff]; omega
theorem atB_iff {v : Int} : atB v = true ↔ v % 2 = 0 ∧ 0 ≤ v ∧ v < 2097152 := by
  simp [atB, odB_no, nuB_iff]; omega

theorem and1 (n : Int) : bits .and .i64 n 1 = n % 2 := by
  have h1 : (BitVec.ofInt 64 1).toNat = 2 ^ 1 - 1 := by decide
  have key : (BitVec.ofInt 64 n &&& BitVec.ofInt 64 1).toNat = (n % ((2 ^ 64 : Nat) : Int)).toNat % 2 ^ 1 := by
    rw [BitVec.toNat_and, BitVec.toNat_ofInt, h1, Nat.and_two_pow_sub_one_eq_mod]
  show IntKind.i64.wrap ((BitVec.ofInt 64 n &&& BitVec.ofInt 64 1).toNat : Nat) = n % 2
  rw [key, IntKind.wrap_i64]
  omega

theorem nat_or1 (m : Nat) (h : m % 2 = 0) : m ||| 1 = m + 1 := by
  have := Nat.two_pow_add_eq_or_of_lt (i := 1) (b := 1) (by decide) (m / 2)
  have e : 2 ^ 1 * (m / 2) = m := by omega
  rw [e] at this; exact this.symm

theorem or1 (n : Int) (h : n % 2 = 0) (h1 : -9223372036854775808 ≤ n) (h2 : n ≤ 9223372036854775806) : bits .or .i64 n 1 = n + 1 := by
  have e1 : (BitVec.ofInt 64 1).toNat = 1 := by decide
  have key : (BitVec.ofInt 64 n ||| BitVec.ofInt 64 1).toNat = (n % ((2 ^ 64 : Nat) : Int)).toNat + 1 := by
    rw [BitVec.toNat_or, BitVec.toNat_ofInt, e1, nat_or1]
    omega
  show IntKind.i64.wrap ((BitVec.ofInt 64 n ||| BitVec.ofInt 64 1).toNat : Nat) = n + 1
  rw [key, IntKind.wrap_i64]
  omega

theorem decDigits_ne (u : Nat) : Lib.decDigits u ≠ [] := by
  rw [Lib.decDigits]; split <;> simp
theorem itoa_ne (n : Int) : Lib.itoa n ≠ [] := by
  unfold Lib.itoa; split
  · simp
  · exact decDigits_ne _
theorem digit_lt {a b : Nat} (ha : a < 10) (hb : b < 10) (h : UInt8.ofNat (48 + a) = UInt8.ofNat (48 + b)) : a = b := by
  have := congrArg UInt8.toNat h
  simp at this; omega
theorem decDigits_inj : ∀ (u v : Nat), Lib.decDigits u = Lib.decDigits v → u = v := by
  intro u
  induction u using Nat.strongRecOn with
  | ind u ih =>
    intro v h
    rw [Lib.decDigits] at h
    rw [Lib.decDigits.eq_def v] at h
    split at h <;> split at h
    · exact digit_lt ‹_› ‹_› (by simpa using h)
    · have := congrArg List.length h
      simp only [List.length_append, List.length_cons, List.length_nil] at this
      have hn := List.length_pos_iff.2 (decDigits_ne (v / 10))
      omega
    · have := congrArg List.length h
      simp only [List.length_append, List.length_cons, List.length_nil] at this
      have hn := List.length_pos_iff.2 (decDigits_ne (u / 10))
      omega
    · have h' := List.append_inj' h rfl
      have e1 := ih (u / 10) (by omega) _ h'.1
      have e2 := digit_lt (Nat.mod_lt u (by decide)) (Nat.mod_lt v (by decide)) (by simpa using h'.2)
      omega
theorem decDigits_byte : ∀ (u : Nat) (c : UInt8), c ∈ Lib.decDigits u → 48 ≤ c.toNat ∧ c.toNat ≤ 57 := by
  intro u
  induction u using Nat.strongRecOn with
  | ind u ih =>
    intro c h
    rw [Lib.decDigits] at h
    split at h
    · simp at h; subst h; simp; omega
    · simp only [List.mem_append, List.mem_singleton] at h
      rcases h with h | h
      · exact ih (u / 10) (by omega) c h
      · subst h; simp; omega
theorem decDigits_head (u : Nat) (c : UInt8) (l : List UInt8) (h : Lib.decDigits u = c :: l) : 48 ≤ c.toNat ∧ c.toNat ≤ 57 := decDigits_byte u c (by rw [h]; simp)
theorem itoa_inj (m n : Int) (h : Lib.itoa m = Lib.itoa n) : m = n := by
  unfold Lib.itoa at h
  split at h <;> split at h
  · have := decDigits_inj _ _ (List.cons.inj h).2; omega
  · have := decDigits_head _ _ _ h.symm; simp at this
  · have := decDigits_head _ _ _ h; simp at this
  · have := decDigits_inj _ _ h; omega
theorem itoa_head (n : Int) (l : List UInt8) (h : Lib.itoa n = 64 :: l) : False := by
  unfold Lib.itoa at h
  split at h
  · simp at h
  · have := decDigits_head _ _ _ h; simp at this
theorem textL_nil {v : Int} : textL v = [] ↔ mayB v = false := by
  unfold textL mayB
  cases nB v <;> cases atB v <;> simp [itoa_ne]
theorem textL_inj {v w : Int} (hv : mayB v = true) (hw : mayB w = true) (h : textL v = textL w) : v = w := by
  unfold textL mayB at *
  cases h1 : nB v <;> cases h2 : atB v <;> cases h3 : nB w <;> cases h4 : atB w <;> simp [h1, h2, h3, h4] at hv hw h
  all_goals try rw [nB_iff] at h1
  all_goals try rw [nB_iff] at h3
  all_goals try rw [atB_iff] at h2
  all_goals try rw [atB_iff] at h4
  all_goals first
    | (have := itoa_inj _ _ h; omega)
    | exact absurd h (fun h => itoa_head _ _ h)
    | exact absurd h.symm (fun h => itoa_head _ _ h)
end Go.Proofs.YtmapdimhgpdajaaDoor
