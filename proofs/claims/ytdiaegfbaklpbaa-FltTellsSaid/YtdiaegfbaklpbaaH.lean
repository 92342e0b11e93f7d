/-
  The contracts of the document's rounding, and of a float in parts.
-/
import Derived.Test.YtdiaegfbaklpbaaA
import Derived.Test.YtdiaegfbaklpbaaG
namespace Go.Proofs.Ytdiaegfbaklpbaa
open Go.RowKit Flt

theorem shf_if (m : Nat) (e : Int) : (if (Nat.log2 m : Int) - 52 < -1074 - e then -1074 - e else (Nat.log2 m : Int) - 52) = shf m e := by
  unfold shf; split <;> omega

theorem cast_pow2 (k : Nat) : (2 : Int) ^ k = ((2 ^ k : Nat) : Int) := by simp

theorem min_out {x R : Nat} {z : Int} (hx : (x : Int) = z) (hR : R = min x 9218868437227405312) : (z ≤ 9218868437227405312 ∧ (R : Int) = z) ∨ (9218868437227405312 ≤ z ∧ (R : Int) = 9218868437227405312) := by
  subst hx
  rcases Nat.le_total x 9218868437227405312 with g | g
  · rw [Nat.min_eq_left g] at hR
    subst hR
    exact .inl ⟨by omega, rfl⟩
  · rw [Nat.min_eq_right g] at hR
    subst hR
    exact .inr ⟨by omega, rfl⟩
theorem rung_cast {E : Int} {c : Nat} (h : 0 ≤ E) : ((E.toNat * 4503599627370496 + c : Nat) : Int) = E * 4503599627370496 + c := by
  rw [Int.natCast_add, Int.natCast_mul, Int.toNat_of_nonneg h]
  rfl

theorem round_any (m : Nat) (e : Int) (more : Bool) (h0 : 0 < m) (h1 : m < 4611686018427387904) (h2 : -5000 ≤ e) (h3 : e ≤ 5000) (w : World) :
    Calls Try.prog 38 #[.int .i64 (m : Int), .int .i64 e, .bool more] w fun x w' => x = .returned (.int .i64 (rdN m e more : Int)) ∧ w = w' := by
  have p52 : (2 : Nat) ^ 52 = 4503599627370496 := by decide
  have p53 : (2 : Nat) ^ 53 = 9007199254740992 := by decide
  have p62 : (2 : Nat) ^ 62 = 4611686018427387904 := by decide
  have hl : Nat.log2 m ≤ 61 := by
    have := (Nat.log2_lt (n := m) (k := 62) (by omega)).2 (by rw [p62]; exact h1)
    omega
  have lo : 2 ^ Nat.log2 m ≤ m := Nat.log2_self_le (by omega)
  have hi : m < 2 ^ (Nat.log2 m + 1) := Nat.lt_log2_self
  have hsh : shf m e = (Nat.log2 m : Int) - 52 ∨ shf m e = -1074 - e := by unfold shf; omega
  have hsg : (Nat.log2 m : Int) - 52 ≤ shf m e ∧ -1074 - e ≤ shf m e := by unfold shf; omega
  have hif := shf_if m e
  have hinf : infR = 9218868437227405312 := rfl
  obtain ⟨R, hRd⟩ : ∃ R, rdN m e more = R := ⟨_, rfl⟩
  by_cases cA : shf m e ≤ 0
  · obtain ⟨s, hs⟩ : ∃ s : Nat, shf m e = -(s : Int) := ⟨(-shf m e).toNat, by omega⟩
    have hR : R = min ((e - s + 1074).toNat * 4503599627370496 + m * 2 ^ s) 9218868437227405312 := by
      rw [← hRd]
      unfold rdN keptN
      rw [if_pos cA, hs, p52, hinf]
      have a1 : (-(-(s : Int))).toNat = s := by omega
      have a2 : (e + -(s : Int) + 1074).toNat = (e - s + 1074).toNat := by omega
      rw [a1, a2]
    rw [hs] at hif hsh hsg
    rw [hRd]
    clear hRd
    have c1 : m * 2 ^ s < 2 ^ 53 := by
      have h := Nat.mul_lt_mul_of_pos_right hi (pow_pos2 s)
      rw [← Nat.pow_add] at h
      exact Nat.lt_of_lt_of_le h (Nat.pow_le_pow_right (by omega) (by omega))
    have c2 : m * 2 ^ s < 2 ^ 52 → e - s = -1074 := by
      intro g
      rcases hsh with h | h
      · exfalso
        have h' := Nat.mul_le_mul_right (2 ^ s) lo
        rw [← Nat.pow_add] at h'
        have : Nat.log2 m + s = 52 := by omega
        rw [this] at h'
        omega
      · omega
    rw [p53] at c1
    rw [p52] at c2
    generalize hc : m * 2 ^ s = c at *
    refine round_A m (Nat.log2 m) s (c : Int) e more h1 h2 h3 rfl hl R hif (by omega) ?_ (by omega) (by omega) (by omega) (by omega) ?_ w
    · rw [cast_pow2, ← hc]; simp
    · exact min_out (rung_cast (by omega)) hR
  · by_cases cB : shf m e < 63
    · obtain ⟨k, hk⟩ : ∃ k : Nat, shf m e = (k : Int) + 1 := ⟨(shf m e - 1).toNat, by omega⟩
      have a1 : ((k : Int) + 1).toNat = k + 1 := by omega
      have hR : R = min ((e + (k + 1) + 1074).toNat * 4503599627370496 + rheM m (2 ^ (k + 1)) more) 9218868437227405312 := by
        rw [← hRd]
        unfold rdN keptN
        rw [if_neg cA, hk, p52, hinf, a1]
      rw [hk] at hif hsh hsg
      rw [hRd]
      clear hRd
      have hk61 : k ≤ 61 := by omega
      have hh2 : 2 ^ k ≤ 2 ^ 61 := Nat.pow_le_pow_right (by omega) hk61
      have p61 : (2 : Nat) ^ 61 = 2305843009213693952 := by decide
      rw [p61] at hh2
      have hhp := pow_pos2 k
      have hpp : 2 ^ (k + 1) = 2 ^ k + 2 ^ k := by rw [Nat.pow_succ]; omega
      have q1 : m / 2 ^ (k + 1) < 2 ^ 53 := by
        rw [Nat.div_lt_iff_lt_mul (pow_pos2 _), ← Nat.pow_add]
        exact Nat.lt_of_lt_of_le hi (Nat.pow_le_pow_right (by omega) (by omega))
      have q2 : m / 2 ^ (k + 1) < 2 ^ 52 → e + (k + 1) = -1074 := by
        intro g
        rcases hsh with h | h
        · exfalso
          rw [Nat.div_lt_iff_lt_mul (pow_pos2 _), ← Nat.pow_add] at g
          have : 52 + (k + 1) = Nat.log2 m := by omega
          rw [this] at g
          omega
        · omega
      rw [p53] at q1
      rw [p52] at q2
      have htm : Int.tmod (m : Int) ((2 ^ (k + 1) : Nat) : Int) = ((m % 2 ^ (k + 1) : Nat) : Int) := by
        rw [Int.tmod_eq_emod_of_nonneg (Int.natCast_nonneg _)]; simp
      have hdv : (m : Int) / ((2 ^ (k + 1) : Nat) : Int) = ((m / 2 ^ (k + 1) : Nat) : Int) := by simp
      have hm2 : ∀ q : Nat, Int.tmod (q : Int) 2 = ((q % 2 : Nat) : Int) := by
        intro q; rw [Int.tmod_eq_emod_of_nonneg (Int.natCast_nonneg _)]; omega
      have hrh : rheM m (2 ^ (k + 1)) more = m / 2 ^ (k + 1) + (if 2 ^ (k + 1) < 2 * (m % 2 ^ (k + 1)) ∨ (2 * (m % 2 ^ (k + 1)) = 2 ^ (k + 1) ∧ (more = true ∨ m / 2 ^ (k + 1) % 2 = 1)) then 1 else 0) := rfl
      have hrlt := Nat.mod_lt m (pow_pos2 (k + 1))
      generalize hc : rheM m (2 ^ (k + 1)) more = c at *
      generalize m / 2 ^ (k + 1) = q at *
      generalize m % 2 ^ (k + 1) = r at *
      have hp := cast_pow2 (k + 1)
      have hh := cast_pow2 k
      generalize 2 ^ (k + 1) = p at *
      generalize 2 ^ k = h at *
      refine round_B m (Nat.log2 m) k (c : Int) e (p : Int) (h : Int) (q : Int) (r : Int) more h1 h2 h3 rfl hl R hif hk61 hp hh (by omega) (by omega) (by omega) htm hdv (by omega) ?_ ?_ (by omega) ?_ ?_ w
      · split at hrh <;> omega
      · rw [hm2]
        subst hpp
        rcases Nat.lt_trichotomy h r with g | g | g
        · left
          rw [if_pos (by omega)] at hrh
          omega
        · subst g
          cases more
          · rcases Nat.mod_two_eq_zero_or_one q with y | y
            · rw [if_neg (by simp; omega)] at hrh
              exact .inr (.inr (.inr (.inr ⟨rfl, rfl, by omega, by omega⟩)))
            · rw [if_pos (by omega)] at hrh
              exact .inr (.inr (.inr (.inl ⟨rfl, rfl, by omega, by omega⟩)))
          · rw [if_pos (.inr ⟨by omega, .inl rfl⟩)] at hrh
            exact .inr (.inr (.inl ⟨rfl, rfl, by omega⟩))
        · right; left
          rw [if_neg (by omega)] at hrh
          omega
      · intro g
        apply q2
        omega
      · exact min_out (rung_cast (by omega)) hR
    · have hS : shf m e = -1074 - e := by omega
      have hR : R = 0 := by
        rw [← hRd]
        unfold rdN keptN
        have a1 : (e + shf m e + 1074).toNat = 0 := by omega
        have a2 : 2 ^ 63 ≤ 2 ^ (shf m e).toNat := Nat.pow_le_pow_right (by omega) (by omega)
        have p63 : (2 : Nat) ^ 63 = 9223372036854775808 := by decide
        have a3 : m < 2 ^ (shf m e).toNat := by omega
        rw [a1, if_neg cA]
        unfold rheM
        rw [Nat.div_eq_of_lt a3, Nat.mod_eq_of_lt a3, if_neg (by omega)]
        simp
      rw [hRd, hR]
      exact round_C m (Nat.log2 m) e (shf m e) more h1 h2 h3 rfl hl hif (by omega) (by omega) (by omega) w

theorem round_at {z : Int} (m : Nat) (hz : z = m) (e : Int) (more : Bool) (h0 : 0 < m) (h1 : m < 4611686018427387904) (h2 : -5000 ≤ e) (h3 : e ≤ 5000) (w : World) :
    Calls Try.prog 38 #[.int .i64 z, .int .i64 e, .bool more] w fun x w' => x = .returned (.int .i64 (rdN m e more : Int)) ∧ w = w' := by
  subst hz; exact round_any m e more h0 h1 h2 h3 w

set_option maxHeartbeats 1000000 in
theorem part_any (a : Int) (h0 : rg a ≠ 0) (w : World) : Calls Try.prog 37 #[.int .i64 a] w fun e w' => e = .returned (.tuple #[.int .i64 (pm (rg a) : Int), .int .i64 (pe (rg a))]) ∧ w = w' := by
  have hlt := rg_lt a
  have htm : Int.tmod (rg a : Int) 4503599627370496 = (rg a : Int) % 4503599627370496 := Int.tmod_eq_emod_of_nonneg (by omega)
  by_cases c : rg a < 2 ^ 52
  · have e1 : pm (rg a) = rg a * 2 ^ (52 - Nat.log2 (rg a)) := by unfold pm; rw [if_pos c]
    have e2 : pe (rg a) = -1074 - ((52 - Nat.log2 (rg a) : Nat) : Int) := by unfold pe; rw [if_pos c]
    have hl : Nat.log2 (rg a) < 52 := (Nat.log2_lt h0).2 c
    have lo : 2 ^ Nat.log2 (rg a) ≤ rg a := Nat.log2_self_le h0
    have hi : rg a < 2 ^ (Nat.log2 (rg a) + 1) := Nat.lt_log2_self
    rw [pow2_52] at c
    have f1 : (rg a : Int) / 4503599627370496 = 0 := by omega
    have f2 : (rg a : Int) % 4503599627370496 = rg a := by omega
    rw [f2] at htm
    have E1 := hid e1
    have E2 := hid e2
    have HL := hid hl
    have LO := hid lo
    have HI := hid hi
    have H0 := hid h0
    have hrg : (rg a : Int) < 4503599627370496 := by omega
    clear e1 e2 hl lo hi f2 h0 c hlt hrg
    go_enter Try.func37, Try.ntmps37
    go_wp2_with (go_at_call 34; refine (rplain_any _ _).mono ?_; rintro e w' ⟨rfl, rfl⟩)
    go_loop [5, 6] (fun v i => ∃ (j : Nat) (y : Int), v = .int .i64 y ∧ i = .int .i64 (-1074 - (j : Int)) ∧ 0 ≤ y ∧ y < 9007199254740992 ∧ Hid (y = ((rg a * 2 ^ j : Nat) : Int) ∧ j ≤ 52 - Nat.log2 (rg a))) (fun v _ => (9007199254740992 - intOf v).toNat)
    case atStart => exact ⟨0, rg a, rfl, rfl, by omega, by omega, ⟨by simp, by omega⟩⟩
    case round =>
      obtain ⟨j, y, rfl, rfl, hy0, hy2, HY⟩ := hrel
      have hjb : (j : Int) ≤ 52 := by have := HY.out.2; omega
      go_wp2
      · have hlt : y < 4503599627370496 := by assumption
        have hyp : 0 < rg a * 2 ^ j := Nat.mul_pos (Nat.pos_of_ne_zero H0.out) (pow_pos2 j)
        have hyv := HY.out.1
        refine ⟨⟨j + 1, 2 * y, by go_num, by go_num, by omega, by omega, ⟨?_, ?_⟩⟩, ?_⟩
        · rw [Nat.pow_succ, ← Nat.mul_assoc]; omega
        · have h2 : rg a * 2 ^ j < 2 ^ 52 := by rw [pow2_52]; omega
          have h3 : 2 ^ Nat.log2 (rg a) * 2 ^ j < 2 ^ 52 := Nat.lt_of_le_of_lt (Nat.mul_le_mul_right _ LO.out) h2
          rw [← Nat.pow_add] at h3
          have h4 := (Nat.pow_lt_pow_iff_right (by omega)).1 h3
          have := HL.out
          omega
        · simp [intOf]; omega
      · have hge : 4503599627370496 ≤ y := by assumption
        go_ret2
        have hyv := HY.out.1
        have hj52 : j = 52 - Nat.log2 (rg a) := by
          have h2 : 2 ^ 52 ≤ rg a * 2 ^ j := by rw [pow2_52]; omega
          have h3 : rg a * 2 ^ j < 2 ^ (Nat.log2 (rg a) + 1) * 2 ^ j := Nat.mul_lt_mul_of_pos_right HI.out (pow_pos2 j)
          rw [← Nat.pow_add] at h3
          have h4 := (Nat.pow_lt_pow_iff_right (a := 2) (by omega)).1 (Nat.lt_of_le_of_lt h2 h3)
          have := HY.out.2
          have := HL.out
          omega
        refine ⟨?_, rfl⟩
        rw [E1.out, E2.out, ← hj52, ← hyv]
        rfl
  · have e1 : (pm (rg a) : Int) = (rg a : Int) % 4503599627370496 + 4503599627370496 := by unfold pm; rw [if_neg c, pow2_52]; omega
    have e2 : pe (rg a) = (rg a : Int) / 4503599627370496 - 1075 := by unfold pe; rw [if_neg c, pow2_52]; omega
    have f1 : 0 < (rg a : Int) / 4503599627370496 := by omega
    rw [e1, e2]
    clear e1 e2 c
    go_enter Try.func37, Try.ntmps37
    go_wp2_with (go_at_call 34; refine (rplain_any _ _).mono ?_; rintro e w' ⟨rfl, rfl⟩)
    go_ret2; exact ⟨rfl, rfl⟩
end Go.Proofs.Ytdiaegfbaklpbaa
