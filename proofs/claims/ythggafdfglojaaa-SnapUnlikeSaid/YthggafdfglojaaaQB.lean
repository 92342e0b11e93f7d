/- A checksum's small functions, the document's: what is a sum, one goes on with a bit. -/
import Derived.Test.YthggafdfglojaaaQA
import Derived.Deep.RegionHeld3
import Derived.Deep.RegionWith
import Derived.Deep.DeepCutAuto
namespace Go.Proofs.Ythggafdfglojaaa
open Go.RowKit
set_option maxRecDepth 100000
/-- is n a sum? -/
def suB (n : Int) : Bool := decide (0 ≤ n ∧ n ≤ 4294967295)
theorem suB_iff {n : Int} : suB n = true ↔ 0 ≤ n ∧ n ≤ 4294967295 := by simp [suB]
theorem suB_no {n : Int} : suB n = false ↔ n < 0 ∨ 4294967295 < n := by simp [suB]; omega
theorem rmay7_any (n : Int) (w : World) : Calls Try.prog 82 #[.int .i64 n] w fun e w' => e = .returned (.bool (suB n)) ∧ w = w' := by
  by_cases h1 : 0 ≤ n
  · have e : suB n = decide (n < 4294967296) := by unfold suB; rw [decide_eq_decide]; omega
    rw [e]; clear e
    go_enter Try.func82, Try.ntmps82
    go_wp2
    go_ret; exact ⟨rfl, rfl⟩
  · have e : suB n = false := by simp [suB, h1]
    rw [e]; clear e
    have h1' : n < 0 := by omega
    go_enter Try.func82, Try.ntmps82
    go_wp2
    go_ret; exact ⟨rfl, rfl⟩
theorem pow32 : (2 : Nat) ^ 32 = 4294967296 := by decide
theorem xor_i64 (a b : Nat) (ha : a < 4294967296) (hb : b < 4294967296) : bits .xor .i64 (a : Int) (b : Int) = ((a ^^^ b : Nat) : Int) := by
  have hx : a ^^^ b < 2 ^ 32 := Nat.xor_lt_two_pow ha hb
  rw [pow32] at hx
  show IntKind.i64.wrap ((BitVec.ofInt 64 (a : Int) ^^^ BitVec.ofInt 64 (b : Int)).toNat : Nat) = _
  rw [BitVec.ofInt_natCast, BitVec.ofInt_natCast, BitVec.toNat_xor, BitVec.toNat_ofNat, BitVec.toNat_ofNat]
  have e : (2 : Nat) ^ 64 = 18446744073709551616 := by decide
  rw [e, Nat.mod_eq_of_lt (by omega), Nat.mod_eq_of_lt (by omega), IntKind.wrap_i64]
  omega
theorem bit_any (n b : Nat) (h : n < 4294967296) (hb : b < 2) (w : World) : Calls Try.prog 108 #[.int .i64 (n : Int), .int .i64 (b : Int)] w fun e w' => e = .returned (.int .i64 (rb n b : Nat)) ∧ w = w' := by
  have h2 : bits .xor .i64 ((n / 2 : Nat) : Int) 3988292384 = ((n / 2 ^^^ gP : Nat) : Int) := xor_i64 (n / 2) gP (by omega) (by decide)
  have h3 : ((n / 2 : Nat) : Int) = (n : Int).tdiv 2 := by rw [Int.tdiv_eq_ediv_of_nonneg (by omega)]; omega
  have h4 : (n : Int).tmod 2 = ((n % 2 : Nat) : Int) := by rw [Int.tmod_eq_emod_of_nonneg (by omega)]; omega
  rw [h3] at h2
  by_cases hm : n % 2 ≠ b
  · have e : ((rb n b : Nat) : Int) = ((n / 2 ^^^ gP : Nat) : Int) := by unfold rb; rw [if_pos hm]
    rw [e, ← h2]
    have hz1 : ((n : Int).tmod 2 == (b : Int)) = false := by rw [h4]; simp; omega
    clear h2 h3 h4 e
    go_enter Try.func108, Try.ntmps108
    go_wp2
    go_ret; exact ⟨rfl, rfl⟩
  · have e : ((rb n b : Nat) : Int) = (n : Int).tdiv 2 := by unfold rb; rw [if_neg hm]; exact h3
    rw [e]
    have hz1 : ((n : Int).tmod 2 == (b : Int)) = true := by rw [h4]; simp; omega
    clear h2 h3 h4 e
    go_enter Try.func108, Try.ntmps108
    go_wp2
    go_ret; exact ⟨rfl, rfl⟩
end Go.Proofs.Ythggafdfglojaaa
