/- The contract of the document's quotient of any two floats, of its Op; FltTells, walked. -/
import Derived.Test.YtdiaegfbaklpbaaM2
namespace Go.Proofs.Ytdiaegfbaklpbaa
open Go.RowKit Flt

theorem quo_step (M N k : Nat) (hN : 0 < N) : (N ≤ 2 * (M * 2 ^ k % N) → M * 2 ^ (k + 1) / N = 2 * (M * 2 ^ k / N) + 1 ∧ M * 2 ^ (k + 1) % N = 2 * (M * 2 ^ k % N) - N) ∧
    (2 * (M * 2 ^ k % N) < N → M * 2 ^ (k + 1) / N = 2 * (M * 2 ^ k / N) ∧ M * 2 ^ (k + 1) % N = 2 * (M * 2 ^ k % N)) := by
  have hdm := Nat.div_add_mod (M * 2 ^ k) N
  have hlt := Nat.mod_lt (M * 2 ^ k) hN
  have e : M * 2 ^ (k + 1) = 2 * (M * 2 ^ k) := (mul_two M k).symm
  rw [e]
  generalize M * 2 ^ k = x at *
  generalize x / N = q at *
  generalize x % N = r at *
  subst hdm
  constructor
  · intro h
    have e2 : 2 * (N * q + r) = N * (2 * q + 1) + (2 * r - N) := by rw [Nat.mul_add, Nat.mul_add, Nat.mul_left_comm]; omega
    rw [e2, Nat.mul_add_div hN, Nat.mul_add_mod, Nat.div_eq_of_lt (by omega), Nat.mod_eq_of_lt (by omega)]
    exact ⟨rfl, rfl⟩
  · intro h
    have e2 : 2 * (N * q + r) = N * (2 * q) + 2 * r := by rw [Nat.mul_add, Nat.mul_left_comm]
    rw [e2, Nat.mul_add_div hN, Nat.mul_add_mod, Nat.div_eq_of_lt h, Nat.mod_eq_of_lt h]
    exact ⟨rfl, rfl⟩

theorem quo_bound (M N k : Nat) (hk : k ≤ 60) (h1 : 2 ^ 52 ≤ M) (h2 : M < 2 ^ 53) (h3 : 2 ^ 52 ≤ N) : M * 2 ^ k / N < 2305843009213693952 := by
  rw [Nat.div_lt_iff_lt_mul (by omega)]
  have hp : 2 ^ k ≤ 2 ^ 60 := Nat.pow_le_pow_right (by omega) hk
  have h4 : M * 2 ^ k ≤ M * 2 ^ 60 := Nat.mul_le_mul_left _ hp
  have h5 : 2305843009213693952 * 2 ^ 52 ≤ 2305843009213693952 * N := Nat.mul_le_mul_left _ h3
  have p60 : (2 : Nat) ^ 60 = 1152921504606846976 := by decide
  have p52 : (2 : Nat) ^ 52 = 4503599627370496 := by decide
  have p53 : (2 : Nat) ^ 53 = 9007199254740992 := by decide
  rw [p60] at h4
  rw [p52] at h5
  rw [p53] at h2
  omega

set_option maxRecDepth 10000 in
set_option maxHeartbeats 4000000 in
theorem quo_walk {a b m n eA eB q0 r0 : Int} {M N : Nat} (HA : Hid (rg a ≠ 0 ∧ (pm (rg a) : Int) = m ∧ pe (rg a) = eA)) (HB : Hid (rg b ≠ 0 ∧ (pm (rg b) : Int) = n ∧ pe (rg b) = eB))
    (HM : Hid (m = (M : Int) ∧ n = (N : Int) ∧ 2 ^ 52 ≤ M ∧ M < 2 ^ 53 ∧ 2 ^ 52 ≤ N ∧ N < 2 ^ 53))
    (n1 : 4503599627370496 ≤ n) (n2 : n < 9007199254740992) (n0 : n ≠ 0)
    (e1 : -1126 ≤ eA) (e2 : eA ≤ 971) (e3 : -1126 ≤ eB) (e4 : eB ≤ 971) {j k : Int} (ka : kd a = j) (kb : kd b = k) (j0 : (j == 0) = false) (j1 : (j == 1) = false) (j2 : (j == 2) = false) (k0 : (k == 0) = false) (k1 : (k == 1) = false) (k2 : (k == 2) = false)
    (s1 : Int.tdiv m n = q0) (s2 : Int.tmod m n = r0) (q1 : 0 ≤ q0) (q2 : q0 < 2) (r1 : 0 ≤ r0) (r2 : r0 < n) (HQ : Hid (q0 = ((M * 2 ^ 0 / N : Nat) : Int) ∧ r0 = ((M * 2 ^ 0 % N : Nat) : Int))) {Q : Nat} {more : Bool} (HQM : Hid (Q = M * 2 ^ 60 / N ∧ more = decide (M * 2 ^ 60 % N ≠ 0)))
    {B : Nat} {w0 w : World} (h : On B w0 w) :
    Calls Try.prog 36 #[.int .i64 a, .int .i64 b] w fun e w' => e = .returned (.int .i64 (sg (!(ngv a == ngv b)) (rdN Q (eA - eB - 60) more))) ∧ On B w0 w' := by
  go_enter Try.func36, Try.ntmps36
  go_wp2_with (first
    | (go_at_call 17; refine (rkind_any _ _).mono ?_; rintro e w' ⟨rfl, rfl⟩)
    | (go_at_call 33; refine (rsign_any _ _).mono ?_; rintro e w' ⟨rfl, rfl⟩)
    | (go_at_call 28; refine (rnan_any _).mono ?_; rintro e w' ⟨rfl, rfl⟩)
    | (go_at_call 32; refine (rwith_at _ _ (by first | rfl | decide) (by first | exact rdN_lt _ _ _ | decide) _).mono ?_; rintro e w' ⟨rfl, rfl⟩)
    | (go_at_call 37; refine (part_at (by first | exact HA | exact HB) _).mono ?_; rintro e w' ⟨rfl, rfl⟩))
  go_quiet (fail)
  go_wp2_with fail
  go_loop [12, 13, 14] (fun u v i => ∃ (k : Nat) (q r : Int), u = .int .i64 q ∧ v = .int .i64 r ∧ i = .int .i64 (k : Int) ∧ (k : Int) ≤ 60 ∧ 0 ≤ q ∧ q < 2305843009213693952 ∧ 0 ≤ r ∧ r < n ∧ Hid (q = ((M * 2 ^ k / N : Nat) : Int) ∧ r = ((M * 2 ^ k % N : Nat) : Int))) (fun _ _ i => 60 - (intOf i).toNat)
  case atStart => exact ⟨0, q0, r0, rfl, rfl, rfl, by omega, q1, by omega, r1, r2, HQ⟩
  case round =>
    obtain ⟨k, q, r, rfl, rfl, rfl, hk, hq0, hq1, hr0, hr1, HR⟩ := hrel
    by_cases hlt : (k : Int) < 60
    · go_wp2_with fail
      · have hge : n ≤ 2 * r := by assumption
        obtain ⟨g1, g2⟩ := HR.out
        obtain ⟨d1, d2, d3, d4, d5, d6⟩ := HM.out
        have hs := (quo_step M N k (by omega)).1 (by omega)
        have hb := quo_bound M N (k + 1) (by omega) d3 d4 d5
        rw [hs.1] at hb
        refine ⟨⟨k + 1, 2 * q + 1, 2 * r - n, by go_num, by go_num, by go_num, by omega, by omega, by omega, by omega, by omega, ⟨by rw [hs.1]; omega, by rw [hs.2]; omega⟩⟩, by simp [intOf]; omega⟩
      · have hge : 2 * r < n := by assumption
        obtain ⟨g1, g2⟩ := HR.out
        obtain ⟨d1, d2, d3, d4, d5, d6⟩ := HM.out
        have hs := (quo_step M N k (by omega)).2 (by omega)
        have hb := quo_bound M N (k + 1) (by omega) d3 d4 d5
        rw [hs.1] at hb
        refine ⟨⟨k + 1, 2 * q, 2 * r, by go_num, by go_num, by go_num, by omega, by omega, by omega, by omega, by omega, ⟨by rw [hs.1]; omega, by rw [hs.2]; omega⟩⟩, by simp [intOf]; omega⟩
    · have hk60 : k = 60 := by omega
      subst hk60
      have HZ : Hid (q = (Q : Int) ∧ 0 < Q ∧ Q < 4611686018427387904) := by
        rw [HQM.out.1]
        obtain ⟨d1, d2, d3, d4, d5, d6⟩ := HM.out
        have hb := quo_bound M N 60 (by omega) d3 d4 d5
        refine ⟨HR.out.1, ?_, by omega⟩
        have : 1 ≤ M * 2 ^ 60 / N := by
          rw [Nat.le_div_iff_mul_le (by omega)]
          omega
        omega
      have HW : Hid (more = (r != 0)) := by
        have := HR.out.2
        show more = (r != 0)
        rw [this, HQM.out.2]
        by_cases g : M * 2 ^ 60 % N = 0
        · simp [g]
        · rw [decide_eq_true g]; symm; rw [bne_iff_ne]; omega
      clear hk hlt HR
      go_wp2_with (first
        | (go_at_call 17; refine (rkind_any _ _).mono ?_; rintro e w' ⟨rfl, rfl⟩)
        | (go_at_call 33; refine (rsign_any _ _).mono ?_; rintro e w' ⟨rfl, rfl⟩)
        | (go_at_call 28; refine (rnan_any _).mono ?_; rintro e w' ⟨rfl, rfl⟩)
        | (go_at_call 32; refine (rwith_at _ _ (by first | rfl | decide) (by first | exact rdN_lt _ _ _ | decide) _).mono ?_; rintro e w' ⟨rfl, rfl⟩)
        | (go_at_call 37; refine (part_at (by first | exact HA | exact HB) _).mono ?_; rintro e w' ⟨rfl, rfl⟩)
        | (go_at_call 38; refine (round_at Q HZ.out.1 _ _ HZ.out.2.1 HZ.out.2.2 (by omega) (by omega) _).mono ?_; rintro e w' ⟨rfl, rfl⟩))
      go_ret
      exact ⟨by rw [HW.out]; rfl, h.drewN _⟩

theorem rdiv_main {a b : Int} (fa : rg a < infR) (fb : rg b < infR) (ka : kd a = 3 ∨ kd a = 4) (kb : kd b = 3 ∨ kd b = 4) {B : Nat} {w0 w : World} (h : On B w0 w) :
    Calls Try.prog 36 #[.int .i64 a, .int .i64 b] w fun e w' => e = .returned (.int .i64 (divD a b)) ∧ On B w0 w' := by
  have za : rg a ≠ 0 := kd_more a ka
  have zb : rg b ≠ 0 := kd_more b kb
  have ma := pm_range (r := rg a) (by omega)
  have mb := pm_range (r := rg b) (by omega)
  have ea := pe_range fa
  have eb := pe_range fb
  have hx : (ngv a ^^ ngv b) = (!(ngv a == ngv b)) := by cases ngv a <;> cases ngv b <;> rfl
  unfold divD
  rw [hx]
  have t1 := tdiv_nat (pm (rg a)) (pm (rg b))
  have t2 := tmod_nat (pm (rg a)) (pm (rg b))
  have hq : pm (rg a) / pm (rg b) < 2 := by
    rw [Nat.div_lt_iff_lt_mul (by omega)]; omega
  have hr := Nat.mod_lt (pm (rg a)) (show 0 < pm (rg b) by omega)
  exact quo_walk ⟨za, rfl, rfl⟩ ⟨zb, rfl, rfl⟩ ⟨rfl, rfl, ma.1, ma.2, mb.1, mb.2⟩ (by omega) (by omega) (by omega) ea.1 ea.2 eb.1 eb.2 rfl rfl (by rw [beq_eq_false_iff_ne]; omega) (by rw [beq_eq_false_iff_ne]; omega) (by rw [beq_eq_false_iff_ne]; omega) (by rw [beq_eq_false_iff_ne]; omega) (by rw [beq_eq_false_iff_ne]; omega) (by rw [beq_eq_false_iff_ne]; omega)
    t1 t2 (Int.natCast_nonneg _) (by omega) (Int.natCast_nonneg _) (by omega) ⟨by rw [Nat.pow_zero, Nat.mul_one], by rw [Nat.pow_zero, Nat.mul_one]⟩ ⟨rfl, rfl⟩ h

set_option maxRecDepth 10000 in
set_option maxHeartbeats 4000000 in
theorem rdiv_any {a b : Int} (ha : In64 a) (hb : In64 b) {B : Nat} {w0 w : World} (h : On B w0 w) :
    Calls Try.prog 36 #[.int .i64 a, .int .i64 b] w fun e w' => e = .returned (.int .i64 (fDiv a b)) ∧ On B w0 w' := by
  have hN : theNaN = 9221120237041090561 := rfl
  have hx : (ngv a ^^ ngv b) = (!(ngv a == ngv b)) := by cases ngv a <;> cases ngv b <;> rfl
  rcases kd_range a with j | j | j | j | j <;> rcases kd_range b with k | k | k | k | k
  all_goals first
    | (have e := div_nan ha hb (by omega); rw [e, hN]; clear e ha hb hN hx
       go_enter Try.func36, Try.ntmps36
       go_wp2_with (first
         | (go_at_call 17; refine (rkind_any _ _).mono ?_; rintro e w' ⟨rfl, rfl⟩)
         | (go_at_call 33; refine (rsign_any _ _).mono ?_; rintro e w' ⟨rfl, rfl⟩)
         | (go_at_call 28; refine (rnan_any _).mono ?_; rintro e w' ⟨rfl, rfl⟩)
         | (go_at_call 32; refine (rwith_at _ _ (by first | rfl | decide) (by first | exact rdN_lt _ _ _ | decide) _).mono ?_; rintro e w' ⟨rfl, rfl⟩))
       go_ret; exact ⟨rfl, by assumption⟩)
    | (have e := div_inf ha hb (by omega) (by omega); rw [e, hx]; clear e ha hb hN hx
       go_enter Try.func36, Try.ntmps36
       go_wp2_with (first
         | (go_at_call 17; refine (rkind_any _ _).mono ?_; rintro e w' ⟨rfl, rfl⟩)
         | (go_at_call 33; refine (rsign_any _ _).mono ?_; rintro e w' ⟨rfl, rfl⟩)
         | (go_at_call 28; refine (rnan_any _).mono ?_; rintro e w' ⟨rfl, rfl⟩)
         | (go_at_call 32; refine (rwith_at _ _ (by first | rfl | decide) (by first | exact rdN_lt _ _ _ | decide) _).mono ?_; rintro e w' ⟨rfl, rfl⟩))
       go_ret; exact ⟨rfl, by assumption⟩)
    | (have e := div_zero ha hb (by omega) (by omega) (by omega); rw [e, hx]; clear e ha hb hN hx
       go_enter Try.func36, Try.ntmps36
       go_wp2_with (first
         | (go_at_call 17; refine (rkind_any _ _).mono ?_; rintro e w' ⟨rfl, rfl⟩)
         | (go_at_call 33; refine (rsign_any _ _).mono ?_; rintro e w' ⟨rfl, rfl⟩)
         | (go_at_call 28; refine (rnan_any _).mono ?_; rintro e w' ⟨rfl, rfl⟩)
         | (go_at_call 32; refine (rwith_at _ _ (by first | rfl | decide) (by first | exact rdN_lt _ _ _ | decide) _).mono ?_; rintro e w' ⟨rfl, rfl⟩))
       go_ret; exact ⟨rfl, by assumption⟩)
    | (rw [← divD_eq ha hb (kd_fin a (by omega)) (kd_fin b (by omega)) (kd_more a (by omega)) (kd_more b (by omega))]
       exact rdiv_main (kd_fin a (by omega)) (kd_fin b (by omega)) (by omega) (by omega) h)

set_option maxRecDepth 10000 in
set_option maxHeartbeats 4000000 in
theorem rop_any {d a b : Int} (ha : In64 a) (hb : In64 b) {B : Nat} {w0 w : World} (h : On B w0 w) :
    Calls Try.prog 13 #[.int .i64 d, .int .i64 a, .int .i64 b] w fun e w' => e = .returned (.int .i64 (fOp d a b)) ∧ On B w0 w' := by
  have hN : theNaN = 9221120237041090561 := rfl
  have HA := hid ha
  have HB := hid hb
  by_cases h0 : d = 0
  · subst h0
    rw [fOp0]
    clear ha hb hN
    go_enter Try.func13, Try.ntmps13
    go_wp2_with (first
      | (go_at_call 17; refine (rkind_any _ _).mono ?_; rintro e w' ⟨rfl, rfl⟩)
      | (go_at_call 33; refine (rsign_any _ _).mono ?_; rintro e w' ⟨rfl, rfl⟩)
      | (go_at_call 28; refine (rnan_any _).mono ?_; rintro e w' ⟨rfl, rfl⟩)
      | (go_at_call 32; refine (rwith_at _ _ (by first | rfl | decide) (by first | exact rg_lt _ | decide) _).mono ?_; rintro e w' ⟨rfl, rfl⟩)
      | (go_at_call 34; refine (rplain_any _ _).mono ?_; rintro e w' ⟨rfl, rfl⟩)
      | (go_at_call 31; refine (rsum_any HA.out (by first | exact HB.out | exact in_opp _) _).mono ?_; rintro e w' ⟨rfl, rfl⟩)
      | (go_at_call 35; refine (rmul_any HA.out HB.out (by assumption)).mono ?_; rintro e w' ⟨rfl, _⟩)
      | (go_at_call 36; refine (rdiv_any HA.out HB.out (by assumption)).mono ?_; rintro e w' ⟨rfl, _⟩))
    go_ret; exact ⟨rfl, by assumption⟩
  by_cases h1 : d = 1
  · subst h1
    rw [fOp1, fSub_eq hb]
    by_cases n : infR < rg b
    · have k := (kd_zero b).2 n
      rw [if_pos n, hN]
      clear ha hb hN n h0
      go_enter Try.func13, Try.ntmps13
      go_wp2_with (first
        | (go_at_call 17; refine (rkind_any _ _).mono ?_; rintro e w' ⟨rfl, rfl⟩)
        | (go_at_call 33; refine (rsign_any _ _).mono ?_; rintro e w' ⟨rfl, rfl⟩)
        | (go_at_call 28; refine (rnan_any _).mono ?_; rintro e w' ⟨rfl, rfl⟩)
        | (go_at_call 32; refine (rwith_at _ _ (by first | rfl | decide) (by first | exact rg_lt _ | decide) _).mono ?_; rintro e w' ⟨rfl, rfl⟩)
        | (go_at_call 34; refine (rplain_any _ _).mono ?_; rintro e w' ⟨rfl, rfl⟩)
        | (go_at_call 31; refine (rsum_any HA.out (by first | exact HB.out | exact in_opp _) _).mono ?_; rintro e w' ⟨rfl, rfl⟩)
        | (go_at_call 35; refine (rmul_any HA.out HB.out (by assumption)).mono ?_; rintro e w' ⟨rfl, _⟩)
        | (go_at_call 36; refine (rdiv_any HA.out HB.out (by assumption)).mono ?_; rintro e w' ⟨rfl, _⟩))
      go_ret; exact ⟨rfl, by assumption⟩
    · have k := kd_beq b n
      rw [if_neg n]
      unfold opp
      clear ha hb hN n h0
      go_enter Try.func13, Try.ntmps13
      go_wp2_with (first
        | (go_at_call 17; refine (rkind_any _ _).mono ?_; rintro e w' ⟨rfl, rfl⟩)
        | (go_at_call 33; refine (rsign_any _ _).mono ?_; rintro e w' ⟨rfl, rfl⟩)
        | (go_at_call 28; refine (rnan_any _).mono ?_; rintro e w' ⟨rfl, rfl⟩)
        | (go_at_call 32; refine (rwith_at _ _ (by first | rfl | decide) (by first | exact rg_lt _ | decide) _).mono ?_; rintro e w' ⟨rfl, rfl⟩)
        | (go_at_call 34; refine (rplain_any _ _).mono ?_; rintro e w' ⟨rfl, rfl⟩)
        | (go_at_call 31; refine (rsum_any HA.out (by first | exact HB.out | exact in_opp _) _).mono ?_; rintro e w' ⟨rfl, rfl⟩)
        | (go_at_call 35; refine (rmul_any HA.out HB.out (by assumption)).mono ?_; rintro e w' ⟨rfl, _⟩)
        | (go_at_call 36; refine (rdiv_any HA.out HB.out (by assumption)).mono ?_; rintro e w' ⟨rfl, _⟩))
      go_ret; exact ⟨rfl, by assumption⟩
  by_cases h2 : d = 2
  · subst h2
    rw [fOp2]
    clear ha hb hN h0 h1
    go_enter Try.func13, Try.ntmps13
    go_wp2_with (first
      | (go_at_call 17; refine (rkind_any _ _).mono ?_; rintro e w' ⟨rfl, rfl⟩)
      | (go_at_call 33; refine (rsign_any _ _).mono ?_; rintro e w' ⟨rfl, rfl⟩)
      | (go_at_call 28; refine (rnan_any _).mono ?_; rintro e w' ⟨rfl, rfl⟩)
      | (go_at_call 32; refine (rwith_at _ _ (by first | rfl | decide) (by first | exact rg_lt _ | decide) _).mono ?_; rintro e w' ⟨rfl, rfl⟩)
      | (go_at_call 34; refine (rplain_any _ _).mono ?_; rintro e w' ⟨rfl, rfl⟩)
      | (go_at_call 31; refine (rsum_any HA.out (by first | exact HB.out | exact in_opp _) _).mono ?_; rintro e w' ⟨rfl, rfl⟩)
      | (go_at_call 35; refine (rmul_any HA.out HB.out (by assumption)).mono ?_; rintro e w' ⟨rfl, _⟩)
      | (go_at_call 36; refine (rdiv_any HA.out HB.out (by assumption)).mono ?_; rintro e w' ⟨rfl, _⟩))
    go_ret; exact ⟨rfl, by assumption⟩
  by_cases h3 : d = 3
  · subst h3
    rw [fOp3]
    clear ha hb hN h0 h1 h2
    go_enter Try.func13, Try.ntmps13
    go_wp2_with (first
      | (go_at_call 17; refine (rkind_any _ _).mono ?_; rintro e w' ⟨rfl, rfl⟩)
      | (go_at_call 33; refine (rsign_any _ _).mono ?_; rintro e w' ⟨rfl, rfl⟩)
      | (go_at_call 28; refine (rnan_any _).mono ?_; rintro e w' ⟨rfl, rfl⟩)
      | (go_at_call 32; refine (rwith_at _ _ (by first | rfl | decide) (by first | exact rg_lt _ | decide) _).mono ?_; rintro e w' ⟨rfl, rfl⟩)
      | (go_at_call 34; refine (rplain_any _ _).mono ?_; rintro e w' ⟨rfl, rfl⟩)
      | (go_at_call 31; refine (rsum_any HA.out (by first | exact HB.out | exact in_opp _) _).mono ?_; rintro e w' ⟨rfl, rfl⟩)
      | (go_at_call 35; refine (rmul_any HA.out HB.out (by assumption)).mono ?_; rintro e w' ⟨rfl, _⟩)
      | (go_at_call 36; refine (rdiv_any HA.out HB.out (by assumption)).mono ?_; rintro e w' ⟨rfl, _⟩))
    go_ret; exact ⟨rfl, by assumption⟩
  · have e : fOp d a b = 9221120237041090561 := by unfold fOp; rw [if_neg h0, if_neg h1, if_neg h2, if_neg h3]; rfl
    rw [e]
    have g0 : (d == 0) = false := by rw [beq_eq_false_iff_ne]; exact h0
    have g1 : (d == 1) = false := by rw [beq_eq_false_iff_ne]; exact h1
    have g2 : (d == 2) = false := by rw [beq_eq_false_iff_ne]; exact h2
    have g3 : (d == 3) = false := by rw [beq_eq_false_iff_ne]; exact h3
    clear ha hb hN h0 h1 h2 h3 e
    go_enter Try.func13, Try.ntmps13
    go_wp2_with (first
      | (go_at_call 17; refine (rkind_any _ _).mono ?_; rintro e w' ⟨rfl, rfl⟩)
      | (go_at_call 33; refine (rsign_any _ _).mono ?_; rintro e w' ⟨rfl, rfl⟩)
      | (go_at_call 28; refine (rnan_any _).mono ?_; rintro e w' ⟨rfl, rfl⟩)
      | (go_at_call 32; refine (rwith_at _ _ (by first | rfl | decide) (by first | exact rg_lt _ | decide) _).mono ?_; rintro e w' ⟨rfl, rfl⟩)
      | (go_at_call 34; refine (rplain_any _ _).mono ?_; rintro e w' ⟨rfl, rfl⟩)
      | (go_at_call 31; refine (rsum_any HA.out (by first | exact HB.out | exact in_opp _) _).mono ?_; rintro e w' ⟨rfl, rfl⟩)
      | (go_at_call 35; refine (rmul_any HA.out HB.out (by assumption)).mono ?_; rintro e w' ⟨rfl, _⟩)
      | (go_at_call 36; refine (rdiv_any HA.out HB.out (by assumption)).mono ?_; rintro e w' ⟨rfl, _⟩))
    go_ret; exact ⟨rfl, by assumption⟩

set_option maxRecDepth 10000 in
set_option maxHeartbeats 1000000 in
theorem tells_any {d a b : Int} (_ : In64 d) (ha : In64 a) (hb : In64 b) {B : Nat} {w0 w : World} (h : On B w0 w) :
    Calls Try.prog 3 #[.int .i64 d, .int .i64 a, .int .i64 b] w fun e w' => e = .returned (.bool true) ∧ On B w0 w' := by
  have HA := hid ha
  have HB := hid hb
  clear ha hb
  go_enter Try.func3, Try.ntmps3
  go_wp2_with (first
    | (go_at_call 11; refine (fixed_any (by assumption)).mono ?_; rintro e w' ⟨rfl, _⟩)
    | (go_at_call 12; refine (op_on (by assumption) _ _ _).mono ?_; rintro e w' ⟨rfl, _⟩)
    | (go_at_call 13; refine (rop_any HA.out HB.out (by assumption)).mono ?_; rintro e w' ⟨rfl, _⟩))
  all_goals go_ret
  all_goals exact ⟨rfl, by assumption⟩

end Go.Proofs.Ytdiaegfbaklpbaa
