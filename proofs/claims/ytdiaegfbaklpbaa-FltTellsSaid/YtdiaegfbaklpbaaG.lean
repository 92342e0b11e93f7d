/- The contracts of the document's rounding, case by case, and of the place of the highest digit. -/
import Derived.Test.YtdiaegfbaklpbaaX
import Derived.Deep.CutRange
namespace Go.Proofs.Ytdiaegfbaklpbaa
open Go.RowKit Flt

theorem log2_lt64 {m : Nat} (h : m < 9223372036854775808) : Nat.log2 m < 63 := by
  rcases Nat.eq_zero_or_pos m with z | z
  · subst z; decide
  · exact (Nat.log2_lt (by omega)).2 (by have : (2 : Nat) ^ 63 = 9223372036854775808 := by decide
                                         omega)

set_option maxHeartbeats 1000000 in
theorem top_any (m : Nat) (hm : m < 9223372036854775808) (w : World) : Calls Try.prog 44 #[.int .i64 (m : Int)] w fun e w' => e = .returned (.int .i64 (Nat.log2 m : Int)) ∧ w = w' := by
  have H := hid hm
  clear hm
  go_enter Try.func44, Try.ntmps44
  go_wp2
  go_loop [0, 3] (fun v i => ∃ j x : Nat, v = .int .i64 (x : Int) ∧ i = .int .i64 (j : Int) ∧ m / 2 ^ j = x ∧ (j = 0 ∨ 2 ^ j ≤ m)) (fun v _ => (intOf v).toNat)
  case atStart => exact ⟨0, m, rfl, rfl, by simp, .inl rfl⟩
  case round =>
    obtain ⟨j, x, rfl, rfl, hx, hj⟩ := hrel
    have e1 : Int.tdiv (x : Int) 2 = (x : Int) / 2 := Int.tdiv_eq_ediv_of_nonneg (by omega)
    have hj62 : j ≤ 62 := by
      rcases hj with g | g
      · omega
      · have hmz : m ≠ 0 := by have := pow_pos2 j; omega
        have := (Nat.le_log2 hmz).2 g
        have := log2_lt64 H.out
        omega
    have hx62 : x < 9223372036854775808 := by
      rw [← hx]; exact Nat.lt_of_le_of_lt (Nat.div_le_self _ _) H.out
    have HJ := hid hj
    have HX := hid hx
    clear hj hx
    go_wp2
    · have hlt : (1 : Int) < x := by assumption
      refine ⟨⟨j + 1, x / 2, by go_num, by go_num, ?_, .inr ?_⟩, by simp [intOf]; omega⟩
      · rw [Nat.pow_succ, ← Nat.div_div_eq_div_mul, HX.out]
      · have h2 : 2 ≤ m / 2 ^ j := by rw [HX.out]; omega
        rw [Nat.le_div_iff_mul_le (pow_pos2 j)] at h2
        rw [Nat.pow_succ, Nat.mul_comm]; exact h2
    · have hle : (x : Int) ≤ 1 := by assumption
      go_ret
      refine ⟨?_, rfl⟩
      have : Nat.log2 m = j := by
        rcases HJ.out with g | g
        · subst g
          have hx' := HX.out
          rw [Nat.pow_zero, Nat.div_one] at hx'
          have : m = 0 ∨ m = 1 := by omega
          rcases this with h | h <;> subst h <;> decide
        · refine log2_eq g ?_
          have h2 : m / 2 ^ j < 2 := by rw [HX.out]; omega
          rw [Nat.div_lt_iff_lt_mul (pow_pos2 j)] at h2
          rw [Nat.pow_succ, Nat.mul_comm]; exact h2
      rw [this]; rfl

theorem top_is {m l : Nat} (hm : m < 9223372036854775808) (hl : Nat.log2 m = l) (w : World) : Calls Try.prog 44 #[.int .i64 (m : Int)] w fun e w' => e = .returned (.int .i64 (l : Int)) ∧ w = w' := by
  subst hl; exact top_any m hm w


set_option maxRecDepth 10000 in
set_option maxHeartbeats 1000000 in
theorem round_A (m l s : Nat) (c e : Int) (more : Bool) (h1 : m < 4611686018427387904) (h2 : -5000 ≤ e) (h3 : e ≤ 5000) (hl : Nat.log2 m = l) (hl' : l ≤ 61) (R : Nat)
    (hS : (if (l : Int) - 52 < -1074 - e then -1074 - e else (l : Int) - 52) = -(s : Int)) (hs : s ≤ 52) (hc : (m : Int) * 2 ^ s = c) (hc0 : 0 ≤ c) (hc' : c ≤ 9007199254740992)
    (hE : -1074 ≤ e - s) (hE' : c < 4503599627370496 → e - s = -1074) (hR : ((e - s + 1074) * 4503599627370496 + c ≤ 9218868437227405312 ∧ (R : Int) = (e - s + 1074) * 4503599627370496 + c) ∨ (9218868437227405312 ≤ (e - s + 1074) * 4503599627370496 + c ∧ (R : Int) = 9218868437227405312))
    (w : World) : Calls Try.prog 38 #[.int .i64 (m : Int), .int .i64 e, .bool more] w fun e w' => e = .returned (.int .i64 (R : Int)) ∧ w = w' := by
  have H := hid h1
  have HL := hid hl
  have HR := hid hR
  have HE' := hid hE'
  clear h1 hl hR hE'
  go_enter Try.func38, Try.ntmps38
  go_wp2_with (first | (go_at_call 44; refine (top_is (by have := H.out; omega) HL.out _).mono ?_; rintro e w' ⟨rfl, rfl⟩) | (go_at_call 43; refine (rmost_any _).mono ?_; rintro e w' ⟨rfl, rfl⟩))
  all_goals go_ret
  all_goals
    refine ⟨congrArg (fun x => Ending.returned (Value.int .i64 x)) ?_, rfl⟩
    have g1 := HR.out
    have g2 := HE'.out
    try simp only [beq_iff_eq] at *
    try unfold wrap64
    omega

set_option maxRecDepth 10000 in
set_option maxHeartbeats 4000000 in
theorem round_B (m l k : Nat) (c e p h q r : Int) (more : Bool) (h1 : m < 4611686018427387904) (h2 : -5000 ≤ e) (h3 : e ≤ 5000) (hl : Nat.log2 m = l) (hl' : l ≤ 61) (R : Nat)
    (hS : (if (l : Int) - 52 < -1074 - e then -1074 - e else (l : Int) - 52) = (k : Int) + 1) (hk : k ≤ 61)
    (hp : (2 : Int) ^ (k + 1) = p) (hh : (2 : Int) ^ k = h) (hh1 : 1 ≤ h) (hh2 : h ≤ 2305843009213693952) (hp2 : p = h + h)
    (hr : Int.tmod (m : Int) p = r) (hq : (m : Int) / p = q) (hq0 : 0 ≤ q) (hc' : c ≤ 9007199254740992)
    (hup : (h < r ∧ c = q + 1) ∨ (r < h ∧ c = q) ∨ (r = h ∧ more = true ∧ c = q + 1) ∨ (r = h ∧ more = false ∧ Int.tmod q 2 = 1 ∧ c = q + 1) ∨ (r = h ∧ more = false ∧ Int.tmod q 2 = 0 ∧ c = q))
    (hE : -1074 ≤ e + (k + 1)) (hE' : c < 4503599627370496 → e + (k + 1) = -1074) (hR : ((e + (k + 1) + 1074) * 4503599627370496 + c ≤ 9218868437227405312 ∧ (R : Int) = (e + (k + 1) + 1074) * 4503599627370496 + c) ∨ (9218868437227405312 ≤ (e + (k + 1) + 1074) * 4503599627370496 + c ∧ (R : Int) = 9218868437227405312))
    (w : World) : Calls Try.prog 38 #[.int .i64 (m : Int), .int .i64 e, .bool more] w fun e w' => e = .returned (.int .i64 (R : Int)) ∧ w = w' := by
  have H := hid h1
  have HL := hid hl
  have HR := hid hR
  have HE' := hid hE'
  have HP := hid hp2
  have hp0 : p ≠ 0 := by omega
  have hpb : 0 < p := by omega
  have hpc : p ≤ 4611686018427387904 := by omega
  clear h1 hl hR hE' hp2
  rcases hup with ⟨u1, u2⟩ | ⟨u1, u2⟩ | ⟨u1, u2, u3⟩ | ⟨u1, u2, u3, u4⟩ | ⟨u1, u2, u3, u4⟩
  · subst u2
    go_enter Try.func38, Try.ntmps38
    go_wp2_with (first | (go_at_call 44; refine (top_is (by have := H.out; omega) HL.out _).mono ?_; rintro e w' ⟨rfl, rfl⟩) | (go_at_call 43; refine (rmost_any _).mono ?_; rintro e w' ⟨rfl, rfl⟩))
    all_goals go_ret
    all_goals
      refine ⟨congrArg (fun x => Ending.returned (Value.int .i64 x)) ?_, rfl⟩
      have g1 := HR.out
      have g2 := HE'.out
      try simp only [beq_iff_eq] at *
      try unfold wrap64
      omega

  · subst u2
    have u2 : ¬ h < r := by omega
    have u3 : (r == h) = false := by rw [beq_eq_false_iff_ne]; omega
    clear u1
    go_enter Try.func38, Try.ntmps38
    go_wp2_with (first | (go_at_call 44; refine (top_is (by have := H.out; omega) HL.out _).mono ?_; rintro e w' ⟨rfl, rfl⟩) | (go_at_call 43; refine (rmost_any _).mono ?_; rintro e w' ⟨rfl, rfl⟩))
    all_goals go_ret
    all_goals
      refine ⟨congrArg (fun x => Ending.returned (Value.int .i64 x)) ?_, rfl⟩
      have g1 := HR.out
      have g2 := HE'.out
      try simp only [beq_iff_eq] at *
      try unfold wrap64
      omega

  · subst u3; subst u2; subst u1
    go_enter Try.func38, Try.ntmps38
    go_wp2_with (first | (go_at_call 44; refine (top_is (by have := H.out; omega) HL.out _).mono ?_; rintro e w' ⟨rfl, rfl⟩) | (go_at_call 43; refine (rmost_any _).mono ?_; rintro e w' ⟨rfl, rfl⟩))
    all_goals go_ret
    all_goals
      refine ⟨congrArg (fun x => Ending.returned (Value.int .i64 x)) ?_, rfl⟩
      have g1 := HR.out
      have g2 := HE'.out
      try simp only [beq_iff_eq] at *
      try unfold wrap64
      omega

  · subst u4; subst u2; subst u1
    go_enter Try.func38, Try.ntmps38
    go_wp2_with (first | (go_at_call 44; refine (top_is (by have := H.out; omega) HL.out _).mono ?_; rintro e w' ⟨rfl, rfl⟩) | (go_at_call 43; refine (rmost_any _).mono ?_; rintro e w' ⟨rfl, rfl⟩))
    all_goals go_ret
    all_goals
      refine ⟨congrArg (fun x => Ending.returned (Value.int .i64 x)) ?_, rfl⟩
      have g1 := HR.out
      have g2 := HE'.out
      try simp only [beq_iff_eq] at *
      try unfold wrap64
      omega

  · subst u4; subst u2; subst u1
    go_enter Try.func38, Try.ntmps38
    go_wp2_with (first | (go_at_call 44; refine (top_is (by have := H.out; omega) HL.out _).mono ?_; rintro e w' ⟨rfl, rfl⟩) | (go_at_call 43; refine (rmost_any _).mono ?_; rintro e w' ⟨rfl, rfl⟩))
    all_goals go_ret
    all_goals
      refine ⟨congrArg (fun x => Ending.returned (Value.int .i64 x)) ?_, rfl⟩
      have g1 := HR.out
      have g2 := HE'.out
      try simp only [beq_iff_eq] at *
      try unfold wrap64
      omega


set_option maxRecDepth 10000 in
set_option maxHeartbeats 1000000 in
theorem round_C (m l : Nat) (e S : Int) (more : Bool) (h1 : m < 4611686018427387904) (h2 : -5000 ≤ e) (h3 : e ≤ 5000) (hl : Nat.log2 m = l) (hl' : l ≤ 61)
    (hS : (if (l : Int) - 52 < -1074 - e then -1074 - e else (l : Int) - 52) = S) (hS1 : 63 ≤ S) (hS2 : S ≤ 10000) (hE : e + S = -1074)
    (w : World) : Calls Try.prog 38 #[.int .i64 (m : Int), .int .i64 e, .bool more] w fun e w' => e = .returned (.int .i64 0) ∧ w = w' := by
  have H := hid h1
  have HL := hid hl
  have a1 : ¬ S ≤ 0 := by omega
  have a2 : ¬ S < 63 := by omega
  have a3 : ¬ (9223372036854775807 : Int) < m := by omega
  have a4 : ((m : Int) == 9223372036854775807) = false := by rw [beq_eq_false_iff_ne]; omega
  clear h1 hl
  go_enter Try.func38, Try.ntmps38
  go_wp2_with (first | (go_at_call 44; refine (top_is (by have := H.out; omega) HL.out _).mono ?_; rintro e w' ⟨rfl, rfl⟩) | (go_at_call 43; refine (rmost_any _).mono ?_; rintro e w' ⟨rfl, rfl⟩))
  go_ret
  exact ⟨rfl, rfl⟩
end Go.Proofs.Ytdiaegfbaklpbaa
