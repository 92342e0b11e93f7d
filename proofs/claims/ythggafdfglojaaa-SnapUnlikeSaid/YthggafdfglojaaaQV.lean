/- A sum's four bytes, the program's. -/
import Derived.Test.YthggafdfglojaaaQY
import Derived.Test.YthggafdfglojaaaQC
namespace Go.Proofs.Ythggafdfglojaaa
open Go.RowKit
set_option maxRecDepth 100000
/-- of which k have been filled in -/
def p4 (n k : Nat) : Array Value := ((List.range 4).map fun j => Value.int .u8 (if j < k then ((n / 256 ^ j % 256 : Nat) : Int) else 0)).toArray
theorem p4_at {n k j : Nat} (h : j < 4) : (p4 n k)[j]? = some (.int .u8 (if j < k then ((n / 256 ^ j % 256 : Nat) : Int) else 0)) := by
  unfold p4
  rw [List.getElem?_toArray, List.getElem?_map, List.getElem?_range h]; rfl
theorem p4_size (n k : Nat) : (p4 n k).size = 4 := by simp [p4]
theorem p4_step (n k : Nat) (h : k < 4) : (p4 n k).setIfInBounds k (.int .u8 ((n / 256 ^ k % 256 : Nat) : Int)) = p4 n (k + 1) := by
  apply Array.ext_getElem?
  intro i
  by_cases hi : i < 4
  · rw [p4_at hi, Array.getElem?_setIfInBounds, p4_size]
    by_cases e : k = i
    · subst e; rw [if_pos rfl, if_pos h, if_pos (by omega)]
    · rw [if_neg e, p4_at hi]
      congr 2
      by_cases h1 : i < k
      · rw [if_pos h1, if_pos (by omega)]
      · rw [if_neg h1, if_neg (by omega)]
  · rw [Array.getElem?_eq_none (by rw [Array.size_setIfInBounds, p4_size]; omega), Array.getElem?_eq_none (by rw [p4_size]; omega)]
theorem p4_all {n : Nat} (h : n < 4294967296) : p4 n 4 = c4 n := by
  have e : n / 256 ^ 3 % 256 = n / 16777216 := by
    have : (256 : Nat) ^ 3 = 16777216 := by decide
    rw [this]; omega
  have e1 : (256 : Nat) ^ 2 = 65536 := by decide
  unfold p4 c4 by4
  simp only [List.range_succ, List.range_zero, List.nil_append, List.cons_append, List.map_cons, List.map_nil]
  simp [e, e1]
set_option maxHeartbeats 1500000 in
theorem bytes_any7 (n : Int) (w : World) : Calls Try.prog 66 #[.int .i64 n] w fun e w' => e = .returned (.string (boI n)) ∧ Below w.heap.size w w' := by
  cases hn : suB n
  · rw [boI_no hn]
    go_enter Try.func66, Try.ntmps66
    go_wp2_with (go_at_call 95; refine (issum_any _ _).mono ?_; rintro e w' ⟨rfl, rfl⟩)
    go_ret
    exact ⟨rfl, Below.refl _ _⟩
  · obtain ⟨h0, h1⟩ := suB_iff.1 hn
    obtain ⟨m, rfl⟩ : ∃ m : Nat, n = m := ⟨n.toNat, by omega⟩
    have hm : m < 4294967296 := by omega
    have EM := hid (boI_yes hm)
    have HM := hid hm
    clear h0 h1 hm
    go_enter Try.func66, Try.ntmps66
    go_wp2_with (go_at_call 95; refine (issum_any _ _).mono ?_; rintro e w' ⟨rfl, rfl⟩)
    go_loopw [8] (fun i wr => ∃ k : Nat, k ≤ 4 ∧ i = .int .i64 k ∧ Lies wr w.heap.size 101 (p4 m k) ∧ Below w.heap.size w wr) (fun i _ => 4 - (intOf i).toNat)
    case atStart => exact ⟨0, by omega, rfl, Lies.new w _ _, below_alloc _ _⟩
    case round =>
      obtain ⟨k, hk, rfl, hT, hB⟩ := hrel
      have HT := hid hT
      have HB := hid hB
      clear hT hB
      by_cases hlt : k < 4
      · have f1 := HT.out.frozen k
        have c1 := HT.out.cell k
        rw [p4_at hlt] at c1
        obtain ⟨z, hz⟩ : ∃ z : Int, z = (if k < k then ((m / 256 ^ k % 256 : Nat) : Int) else 0) := ⟨_, rfl⟩
        rw [← hz] at c1
        have hltI : (k : Int) < 4 := by omega
        have h9 : IntKind.i64.wrap (8 * (k : Int)) = 8 * k := IntWalk.i64_in _ ⟨by omega, by omega⟩
        have h7 : (0 : Int) ≤ 8 * (k : Int) := by omega
        obtain ⟨y, hy⟩ : ∃ y, y = m / 256 ^ k % 256 := ⟨_, rfl⟩
        have HN := hid (p4_step m k hlt)
        rw [← hy] at HN
        have e1 : (m : Int) / 2 ^ (8 * k) % 256 = (y : Int) := by
          rw [hy, Int.natCast_emod, Int.natCast_ediv]
          have : ((2 : Int) ^ (8 * k)) = ((256 ^ k : Nat) : Int) := by
            rw [Int.pow_mul]; simp
          rw [this]; rfl
        have E1 := hid e1
        clear e1
        clear hz hy
        go_wp2
        go_roundw
        case rel => exact ⟨k + 1, by omega, by go_num, by rw [← HN.out, ← E1.out]; exact HT.out.set_ k _, HB.out.setCell (Nat.le_refl _) _⟩
        case measure => simp [intOf]; omega
      · obtain rfl : k = 4 := by omega
        have CV : (convert 54 9 (.slice (some ⟨w.heap.size, 0, none⟩) 4 4)).run Try.prog wr = .ok (.string (b4B m)) wr := conv4 HM.out (by rw [← p4_all HM.out]; exact HT.out)
        go_wp2
        go_ret
        exact ⟨by rw [EM.out]; rfl, HB.out⟩
end Go.Proofs.Ythggafdfglojaaa
