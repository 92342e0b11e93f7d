/- The contract of the document's product of any two floats. -/
import Derived.Test.YtdiaegfbaklpbaaI
import Derived.Test.YtdiaegfbaklpbaaJ
namespace Go.Proofs.Ytdiaegfbaklpbaa
open Go.RowKit Flt

theorem tmod_nat (x y : Nat) : Int.tmod (x : Int) (y : Int) = ((x % y : Nat) : Int) := by
  rw [Int.tmod_eq_emod_of_nonneg (Int.natCast_nonneg _)]; simp
theorem tdiv_nat (x y : Nat) : Int.tdiv (x : Int) (y : Int) = ((x / y : Nat) : Int) := by
  rw [Int.tdiv_eq_ediv_of_nonneg (Int.natCast_nonneg _)]; simp

theorem On.drewN {B : Nat} {w0 w : World} (h : On B w0 w) (n : Nat) : On B w0 (w.drewN n) :=
  h.go (below_drewN (Below.refl _ _) n)

set_option maxRecDepth 10000 in
set_option maxHeartbeats 4000000 in
theorem mul_walk {a b m n eA eB m0 m1 n0 n1 L l0 l1 X1 X2 Y y0 y1 H r19 : Int} {Q : Nat} (more : Bool) (HA : Hid (rg a ≠ 0 ∧ (pm (rg a) : Int) = m ∧ pe (rg a) = eA)) (HB : Hid (rg b ≠ 0 ∧ (pm (rg b) : Int) = n ∧ pe (rg b) = eB))
    (e1 : -1126 ≤ eA) (e2 : eA ≤ 971) (e3 : -1126 ≤ eB) (e4 : eB ≤ 971) {j k : Int} (ka : kd a = j) (kb : kd b = k) (j0 : (j == 0) = false) (j1 : (j == 1) = false) (j2 : (j == 2) = false) (k0 : (k == 0) = false) (k1 : (k == 1) = false) (k2 : (k == 2) = false)
    (s1 : Int.tmod m 134217728 = m0) (s2 : Int.tdiv m 134217728 = m1) (s3 : Int.tmod n 134217728 = n0) (s4 : Int.tdiv n 134217728 = n1)
    (s5 : m0 * n0 = L) (s6 : Int.tmod L 134217728 = l0) (s7 : Int.tdiv L 134217728 = l1) (s8 : m1 * n0 = X1) (s9 : m0 * n1 = X2) (s10 : X1 + X2 + l1 = Y)
    (s11 : Int.tmod Y 134217728 = y0) (s12 : Int.tdiv Y 134217728 = y1) (s13 : m1 * n1 = H) (s14 : Int.tmod Y 524288 = r19)
    (z1 : 0 ≤ L) (z1' : L ≤ 18014398241046529) (z2 : 0 ≤ X1) (z2' : X1 ≤ 9007199187632128) (z3 : 0 ≤ X2) (z3' : X2 ≤ 9007199187632128) (z4 : 0 ≤ H) (z4' : H ≤ 4503599627370496)
    (z5 : 0 ≤ Y) (z5' : Y ≤ 18014398643699713) (z6 : 0 ≤ y1) (z6' : y1 ≤ 134217729) (z7 : 0 ≤ y0) (z7' : y0 < 134217728) (z8 : 0 ≤ l1) (z8' : l1 < 134217728) (z9 : 0 ≤ m1) (z9' : m1 ≤ 67108864) (z10 : 0 ≤ n1) (z10' : n1 ≤ 67108864)
    (HZ : Hid ((H + y1) * 256 + y0 / 524288 = (Q : Int) ∧ 0 < Q ∧ Q < 4611686018427387904))
    (hm : (r19 = 0 ∧ l0 = 0 ∧ more = false) ∨ (r19 = 0 ∧ (l0 != 0) = true ∧ more = true) ∨ ((r19 != 0) = true ∧ more = true)) {B : Nat} {w0 w : World} (h : On B w0 w) :
    Calls Try.prog 35 #[.int .i64 a, .int .i64 b] w fun e w' => e = .returned (.int .i64 (sg (ngv a != ngv b) (rdN Q (eA + eB + 46) more))) ∧ On B w0 w' := by
  rcases hm with ⟨g1, g2, g3⟩ | ⟨g1, g2, g3⟩ | ⟨g1, g3⟩
  · subst g1 g2 g3
    go_enter Try.func35, Try.ntmps35
    go_wp2_with (first
      | (go_at_call 17; refine (rkind_any _ _).mono ?_; rintro e w' ⟨rfl, rfl⟩)
      | (go_at_call 33; refine (rsign_any _ _).mono ?_; rintro e w' ⟨rfl, rfl⟩)
      | (go_at_call 28; refine (rnan_any _).mono ?_; rintro e w' ⟨rfl, rfl⟩)
      | (go_at_call 32; refine (rwith_at _ _ (by first | rfl | decide) (by first | exact rdN_lt _ _ _ | decide) _).mono ?_; rintro e w' ⟨rfl, rfl⟩)
      | (go_at_call 37; refine (part_at (by first | exact HA | exact HB) _).mono ?_; rintro e w' ⟨rfl, rfl⟩)
      | (go_at_call 38; refine (round_at Q HZ.out.1 _ _ HZ.out.2.1 HZ.out.2.2 (by omega) (by omega) _).mono ?_; rintro e w' ⟨rfl, rfl⟩))
    go_quiet (fail)
    go_wp2_with fail
    go_quiet (fail)
    go_wp2_with fail
    go_quiet (fail)
    go_wp2_with (first
      | (go_at_call 17; refine (rkind_any _ _).mono ?_; rintro e w' ⟨rfl, rfl⟩)
      | (go_at_call 33; refine (rsign_any _ _).mono ?_; rintro e w' ⟨rfl, rfl⟩)
      | (go_at_call 28; refine (rnan_any _).mono ?_; rintro e w' ⟨rfl, rfl⟩)
      | (go_at_call 32; refine (rwith_at _ _ (by first | rfl | decide) (by first | exact rdN_lt _ _ _ | decide) _).mono ?_; rintro e w' ⟨rfl, rfl⟩)
      | (go_at_call 37; refine (part_at (by first | exact HA | exact HB) _).mono ?_; rintro e w' ⟨rfl, rfl⟩)
      | (go_at_call 38; refine (round_at Q HZ.out.1 _ _ HZ.out.2.1 HZ.out.2.2 (by omega) (by omega) _).mono ?_; rintro e w' ⟨rfl, rfl⟩))
    go_ret; exact ⟨rfl, h.drewN _⟩
  · subst g1 g3
    go_enter Try.func35, Try.ntmps35
    go_wp2_with (first
      | (go_at_call 17; refine (rkind_any _ _).mono ?_; rintro e w' ⟨rfl, rfl⟩)
      | (go_at_call 33; refine (rsign_any _ _).mono ?_; rintro e w' ⟨rfl, rfl⟩)
      | (go_at_call 28; refine (rnan_any _).mono ?_; rintro e w' ⟨rfl, rfl⟩)
      | (go_at_call 32; refine (rwith_at _ _ (by first | rfl | decide) (by first | exact rdN_lt _ _ _ | decide) _).mono ?_; rintro e w' ⟨rfl, rfl⟩)
      | (go_at_call 37; refine (part_at (by first | exact HA | exact HB) _).mono ?_; rintro e w' ⟨rfl, rfl⟩)
      | (go_at_call 38; refine (round_at Q HZ.out.1 _ _ HZ.out.2.1 HZ.out.2.2 (by omega) (by omega) _).mono ?_; rintro e w' ⟨rfl, rfl⟩))
    go_quiet (fail)
    go_wp2_with fail
    go_quiet (fail)
    go_wp2_with fail
    go_quiet (fail)
    go_wp2_with (first
      | (go_at_call 17; refine (rkind_any _ _).mono ?_; rintro e w' ⟨rfl, rfl⟩)
      | (go_at_call 33; refine (rsign_any _ _).mono ?_; rintro e w' ⟨rfl, rfl⟩)
      | (go_at_call 28; refine (rnan_any _).mono ?_; rintro e w' ⟨rfl, rfl⟩)
      | (go_at_call 32; refine (rwith_at _ _ (by first | rfl | decide) (by first | exact rdN_lt _ _ _ | decide) _).mono ?_; rintro e w' ⟨rfl, rfl⟩)
      | (go_at_call 37; refine (part_at (by first | exact HA | exact HB) _).mono ?_; rintro e w' ⟨rfl, rfl⟩)
      | (go_at_call 38; refine (round_at Q HZ.out.1 _ _ HZ.out.2.1 HZ.out.2.2 (by omega) (by omega) _).mono ?_; rintro e w' ⟨rfl, rfl⟩))
    go_ret; exact ⟨rfl, h.drewN _⟩
  · subst g3
    go_enter Try.func35, Try.ntmps35
    go_wp2_with (first
      | (go_at_call 17; refine (rkind_any _ _).mono ?_; rintro e w' ⟨rfl, rfl⟩)
      | (go_at_call 33; refine (rsign_any _ _).mono ?_; rintro e w' ⟨rfl, rfl⟩)
      | (go_at_call 28; refine (rnan_any _).mono ?_; rintro e w' ⟨rfl, rfl⟩)
      | (go_at_call 32; refine (rwith_at _ _ (by first | rfl | decide) (by first | exact rdN_lt _ _ _ | decide) _).mono ?_; rintro e w' ⟨rfl, rfl⟩)
      | (go_at_call 37; refine (part_at (by first | exact HA | exact HB) _).mono ?_; rintro e w' ⟨rfl, rfl⟩)
      | (go_at_call 38; refine (round_at Q HZ.out.1 _ _ HZ.out.2.1 HZ.out.2.2 (by omega) (by omega) _).mono ?_; rintro e w' ⟨rfl, rfl⟩))
    go_quiet (fail)
    go_wp2_with fail
    go_quiet (fail)
    go_wp2_with fail
    go_quiet (fail)
    go_wp2_with (first
      | (go_at_call 17; refine (rkind_any _ _).mono ?_; rintro e w' ⟨rfl, rfl⟩)
      | (go_at_call 33; refine (rsign_any _ _).mono ?_; rintro e w' ⟨rfl, rfl⟩)
      | (go_at_call 28; refine (rnan_any _).mono ?_; rintro e w' ⟨rfl, rfl⟩)
      | (go_at_call 32; refine (rwith_at _ _ (by first | rfl | decide) (by first | exact rdN_lt _ _ _ | decide) _).mono ?_; rintro e w' ⟨rfl, rfl⟩)
      | (go_at_call 37; refine (part_at (by first | exact HA | exact HB) _).mono ?_; rintro e w' ⟨rfl, rfl⟩)
      | (go_at_call 38; refine (round_at Q HZ.out.1 _ _ HZ.out.2.1 HZ.out.2.2 (by omega) (by omega) _).mono ?_; rintro e w' ⟨rfl, rfl⟩))
    go_ret; exact ⟨rfl, h.drewN _⟩

theorem rmul_main {a b : Int} (fa : rg a < infR) (fb : rg b < infR) (ka : kd a = 3 ∨ kd a = 4) (kb : kd b = 3 ∨ kd b = 4) {B : Nat} {w0 w : World} (h : On B w0 w) :
    Calls Try.prog 35 #[.int .i64 a, .int .i64 b] w fun e w' => e = .returned (.int .i64 (mulD a b)) ∧ On B w0 w' := by
  have za : rg a ≠ 0 := kd_more a ka
  have zb : rg b ≠ 0 := kd_more b kb
  have ma := pm_range (r := rg a) (by omega)
  have mb := pm_range (r := rg b) (by omega)
  have ea := pe_range fa
  have eb := pe_range fb
  have p52 : (2 : Nat) ^ 52 = 4503599627370496 := by decide
  have p53 : (2 : Nat) ^ 53 = 9007199254740992 := by decide
  have p46 : (2 : Nat) ^ 46 = 70368744177664 := by decide
  rw [p52, p53] at ma mb
  unfold mulD
  rw [p46]
  obtain ⟨m0, m1, n0, n1, L, l0, l1, X1, X2, Y, y0, y1, H, d1, d2, d3, d4, d5, d6, d7, d8, d9, d10, d11, d12, d13, hq, hr⟩ := halves (pm (rg a)) (pm (rg b))
  have hP : 4503599627370496 * 4503599627370496 ≤ pm (rg a) * pm (rg b) := Nat.mul_le_mul ma.1 mb.1
  have hP2 : pm (rg a) * pm (rg b) ≤ 9007199254740991 * 9007199254740991 := Nat.mul_le_mul (by omega) (by omega)
  have b1 : L ≤ 134217727 * 134217727 := by rw [← d5]; exact Nat.mul_le_mul (by omega) (by omega)
  have b2 : X1 ≤ 67108864 * 134217727 := by rw [← d8]; exact Nat.mul_le_mul (by omega) (by omega)
  have b3 : X2 ≤ 134217727 * 67108864 := by rw [← d9]; exact Nat.mul_le_mul (by omega) (by omega)
  have b4 : H ≤ 67108864 * 67108864 := by rw [← d13]; exact Nat.mul_le_mul (by omega) (by omega)
  have s1 : Int.tmod (pm (rg a) : Int) 134217728 = (m0 : Int) := by rw [← d1]; exact tmod_nat _ 134217728
  have s2 : Int.tdiv (pm (rg a) : Int) 134217728 = (m1 : Int) := by rw [← d2]; exact tdiv_nat _ 134217728
  have s3 : Int.tmod (pm (rg b) : Int) 134217728 = (n0 : Int) := by rw [← d3]; exact tmod_nat _ 134217728
  have s4 : Int.tdiv (pm (rg b) : Int) 134217728 = (n1 : Int) := by rw [← d4]; exact tdiv_nat _ 134217728
  have s5 : (m0 : Int) * n0 = (L : Int) := by rw [← d5]; simp
  have s6 : Int.tmod (L : Int) 134217728 = (l0 : Int) := by rw [← d6]; exact tmod_nat _ 134217728
  have s7 : Int.tdiv (L : Int) 134217728 = (l1 : Int) := by rw [← d7]; exact tdiv_nat _ 134217728
  have s8 : (m1 : Int) * n0 = (X1 : Int) := by rw [← d8]; simp
  have s9 : (m0 : Int) * n1 = (X2 : Int) := by rw [← d9]; simp
  have s10 : (X1 : Int) + X2 + l1 = (Y : Int) := by omega
  have s11 : Int.tmod (Y : Int) 134217728 = (y0 : Int) := by rw [← d11]; exact tmod_nat _ 134217728
  have s12 : Int.tdiv (Y : Int) 134217728 = (y1 : Int) := by rw [← d12]; exact tdiv_nat _ 134217728
  have s13 : (m1 : Int) * n1 = (H : Int) := by rw [← d13]; simp
  obtain ⟨r19, hr19⟩ : ∃ r : Nat, Y % 524288 = r := ⟨_, rfl⟩
  have s14 : Int.tmod (Y : Int) 524288 = (r19 : Int) := by rw [← hr19]; exact tmod_nat _ 524288
  rw [hr19] at hr
  have hx : (ngv a ^^ ngv b) = (ngv a != ngv b) := by cases ngv a <;> cases ngv b <;> rfl
  rw [hx]
  have hQ1 : 0 < pm (rg a) * pm (rg b) / 70368744177664 := by
    generalize pm (rg a) * pm (rg b) = x at *
    omega
  have hQ2 : pm (rg a) * pm (rg b) / 70368744177664 < 4611686018427387904 := by
    generalize pm (rg a) * pm (rg b) = x at *
    omega
  have hmore : ((r19 : Int) = 0 ∧ (l0 : Int) = 0 ∧ decide (pm (rg a) * pm (rg b) % 70368744177664 ≠ 0) = false) ∨ ((r19 : Int) = 0 ∧ ((l0 : Int) != 0) = true ∧ decide (pm (rg a) * pm (rg b) % 70368744177664 ≠ 0) = true) ∨ (((r19 : Int) != 0) = true ∧ decide (pm (rg a) * pm (rg b) % 70368744177664 ≠ 0) = true) := by
    by_cases g1 : r19 = 0
    · by_cases g2 : l0 = 0
      · exact .inl ⟨by omega, by omega, by simp [hr.2 ⟨g1, g2⟩]⟩
      · exact .inr (.inl ⟨by omega, by simp; omega, decide_eq_true (fun k => g2 (hr.1 k).2)⟩)
    · exact .inr (.inr ⟨by simp; omega, decide_eq_true (fun k => g1 (hr.1 k).1)⟩)
  clear hP hP2
  generalize decide (pm (rg a) * pm (rg b) % 70368744177664 ≠ 0) = more at *
  generalize pm (rg a) * pm (rg b) / 70368744177664 = Q at *
  exact mul_walk more ⟨za, rfl, rfl⟩ ⟨zb, rfl, rfl⟩ ea.1 ea.2 eb.1 eb.2 rfl rfl (by rw [beq_eq_false_iff_ne]; omega) (by rw [beq_eq_false_iff_ne]; omega) (by rw [beq_eq_false_iff_ne]; omega) (by rw [beq_eq_false_iff_ne]; omega) (by rw [beq_eq_false_iff_ne]; omega) (by rw [beq_eq_false_iff_ne]; omega) s1 s2 s3 s4 s5 s6 s7 s8 s9 s10 s11 s12 s13 s14 (by omega) (by omega) (by omega) (by omega) (by omega) (by omega) (by omega) (by omega)
    (by omega) (by omega) (by omega) (by omega) (by omega) (by omega) (by omega) (by omega) (by omega) (by omega) (by omega) (by omega) ⟨by omega, hQ1, hQ2⟩ hmore h


set_option maxRecDepth 10000 in
set_option maxHeartbeats 4000000 in
theorem rmul_any {a b : Int} (ha : In64 a) (hb : In64 b) {B : Nat} {w0 w : World} (h : On B w0 w) :
    Calls Try.prog 35 #[.int .i64 a, .int .i64 b] w fun e w' => e = .returned (.int .i64 (fMul a b)) ∧ On B w0 w' := by
  have hN : theNaN = 9221120237041090561 := rfl
  have hx : (ngv a ^^ ngv b) = (!(ngv a == ngv b)) := by cases ngv a <;> cases ngv b <;> rfl
  rcases kd_range a with j | j | j | j | j <;> rcases kd_range b with k | k | k | k | k
  all_goals first
    | (have e := mul_nan ha hb (by omega); rw [e, hN]; clear e ha hb hN hx
       go_enter Try.func35, Try.ntmps35
       go_wp2_with (first
         | (go_at_call 17; refine (rkind_any _ _).mono ?_; rintro e w' ⟨rfl, rfl⟩)
         | (go_at_call 33; refine (rsign_any _ _).mono ?_; rintro e w' ⟨rfl, rfl⟩)
         | (go_at_call 28; refine (rnan_any _).mono ?_; rintro e w' ⟨rfl, rfl⟩)
         | (go_at_call 32; refine (rwith_at _ _ (by first | rfl | decide) (by first | exact rdN_lt _ _ _ | decide) _).mono ?_; rintro e w' ⟨rfl, rfl⟩))
       go_ret; exact ⟨rfl, by assumption⟩)
    | (have e := mul_inf ha hb (by omega) (by omega); rw [e, hx]; clear e ha hb hN hx
       go_enter Try.func35, Try.ntmps35
       go_wp2_with (first
         | (go_at_call 17; refine (rkind_any _ _).mono ?_; rintro e w' ⟨rfl, rfl⟩)
         | (go_at_call 33; refine (rsign_any _ _).mono ?_; rintro e w' ⟨rfl, rfl⟩)
         | (go_at_call 28; refine (rnan_any _).mono ?_; rintro e w' ⟨rfl, rfl⟩)
         | (go_at_call 32; refine (rwith_at _ _ (by first | rfl | decide) (by first | exact rdN_lt _ _ _ | decide) _).mono ?_; rintro e w' ⟨rfl, rfl⟩))
       go_ret; exact ⟨rfl, by assumption⟩)
    | (have e := mul_zero ha hb (by omega) (by omega) (by omega); rw [e, hx]; clear e ha hb hN hx
       go_enter Try.func35, Try.ntmps35
       go_wp2_with (first
         | (go_at_call 17; refine (rkind_any _ _).mono ?_; rintro e w' ⟨rfl, rfl⟩)
         | (go_at_call 33; refine (rsign_any _ _).mono ?_; rintro e w' ⟨rfl, rfl⟩)
         | (go_at_call 28; refine (rnan_any _).mono ?_; rintro e w' ⟨rfl, rfl⟩)
         | (go_at_call 32; refine (rwith_at _ _ (by first | rfl | decide) (by first | exact rdN_lt _ _ _ | decide) _).mono ?_; rintro e w' ⟨rfl, rfl⟩))
       go_ret; exact ⟨rfl, by assumption⟩)
    | (rw [← mulD_eq ha hb (kd_fin a (by omega)) (kd_fin b (by omega)) (kd_more a (by omega)) (kd_more b (by omega))]
       exact rmul_main (kd_fin a (by omega)) (kd_fin b (by omega)) (by omega) (by omega) h)

end Go.Proofs.Ytdiaegfbaklpbaa
