/- A checksum's small functions, the program's: what is a sum, one goes on with a bit 0. -/
import Derived.Test.YthggafdfglojaaaQB
namespace Go.Proofs.Ythggafdfglojaaa
open Go.RowKit
set_option maxRecDepth 100000
theorem issum_any (n : Int) (w : World) : Calls Try.prog 95 #[.int .i64 n] w fun e w' => e = .returned (.bool (suB n)) ∧ w = w' := by
  by_cases h1 : 0 ≤ n
  · have e : suB n = decide (n ≤ 4294967295) := by simp [suB, h1]
    rw [e]; clear e
    go_enter Try.func95, Try.ntmps95
    go_wp2
    go_ret; exact ⟨rfl, rfl⟩
  · have e : suB n = false := by simp [suB, h1]
    rw [e]; clear e
    have h1' : n < 0 := by omega
    go_enter Try.func95, Try.ntmps95
    go_wp2
    go_ret; exact ⟨rfl, rfl⟩
theorem onw_any (n : Nat) (h : n < 4294967296) (w : World) : Calls Try.prog 129 #[.int .u32 (n : Int)] w fun e w' => e = .returned (.int .u32 (g1 n : Nat)) ∧ w = w' := by
  have h1 : bits .and .u32 (n : Int) 1 = ((n % 2 : Nat) : Int) := by
    have := u32_and_nat n 1 h (by decide)
    rw [Nat.and_one_is_mod] at this
    exact this
  have h2 : bits .xor .u32 ((n / 2 : Nat) : Int) 3988292384 = ((n / 2 ^^^ gP : Nat) : Int) := u32_xor_nat (n / 2) gP (by omega) (by decide)
  have h3 : ((n / 2 : Nat) : Int) = (n : Int) / 2 := by omega
  rw [h3] at h2
  by_cases hm : n % 2 = 1
  · have e : ((g1 n : Nat) : Int) = ((n / 2 ^^^ gP : Nat) : Int) := by unfold g1; rw [if_pos hm]
    rw [e, ← h2]
    have E1 := hid h1
    have HM := hid hm
    clear h1 h2 h3 e hm
    obtain ⟨z, hz⟩ : ∃ z, z = bits .and .u32 (n : Int) 1 := ⟨_, rfl⟩
    have hz1 : ¬ bits .and .u32 (n : Int) 1 = 0 := by rw [E1.out, HM.out]; decide
    go_enter Try.func129, Try.ntmps129
    go_wp2
    go_ret; exact ⟨rfl, rfl⟩
  · have e : ((g1 n : Nat) : Int) = (n : Int) / 2 := by unfold g1; rw [if_neg hm]; exact h3
    rw [e]
    have hz1 : bits .and .u32 (n : Int) 1 = 0 := by rw [h1]; omega
    clear h1 h2 h3 e
    go_enter Try.func129, Try.ntmps129
    go_wp2
    go_ret; exact ⟨rfl, rfl⟩
end Go.Proofs.Ythggafdfglojaaa
