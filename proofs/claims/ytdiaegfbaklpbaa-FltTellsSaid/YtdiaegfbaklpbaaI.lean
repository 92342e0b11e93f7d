/- The contracts of the document's sum, product and quotient of any two floats: but where both are finite and not zero. -/
import Derived.Test.YtdiaegfbaklpbaaZ
import Derived.Test.YtdiaegfbaklpbaaE
namespace Go.Proofs.Ytdiaegfbaklpbaa
open Go.RowKit Flt

theorem rwith_at {z : Int} (n : Bool) (r : Nat) (hz : z = (r : Int)) (hr : r < 9223372036854775808) (w : World) : Calls Try.prog 32 #[.bool n, .int .i64 z] w fun e w' => e = .returned (.int .i64 (sg n r)) ∧ w = w' := by
  subst hz; exact rwith_any n r hr w

theorem kd_two_iff (a : Int) : kd a = 2 ↔ rg a = 0 := by
  constructor
  · exact kd_two a
  · intro h; unfold kd; rw [h]; decide

theorem fAdd_zeroR {a b : Int} (ha : In64 a) (hb : In64 b) (fa : rg a < infR) (za : rg a ≠ 0) (zb : rg b = 0) : fAdd a b = a := by
  obtain ⟨K, hK⟩ := exK
  have hi : (0 : Nat) < infR := by decide
  rw [fAdd_fin ha hb fa (by omega) (K := K) (by omega)]
  have hs : sv K b = 0 := by unfold sv; rw [zb, val_zero]; cases ngv b <;> simp
  have hp : 0 < val K (rg a) := val_pos (by omega)
  rw [hs, Int.add_zero]
  have hne : sv K a ≠ 0 := by unfold sv; cases ngv a <;> simp <;> omega
  have hab : (sv K a).natAbs = val K (rg a) := by unfold sv; cases ngv a <;> simp
  have hsg : decide (sv K a < 0) = ngv a := by
    unfold sv
    cases ngv a
    · simp only [Bool.false_eq_true, if_false]; rw [decide_eq_false_iff_not]; omega
    · simp only [if_true]; rw [decide_eq_true_eq]; omega
  rw [if_neg hne, hab, hsg]
  unfold rnd
  rw [rq_val, Nat.min_eq_left (by omega), sg_rg ha]

/-- what the sum is, by kinds -/
theorem sum_nan {a b : Int} (ha : In64 a) (hb : In64 b) (h : kd a = 0 ∨ kd b = 0) : fAdd a b = theNaN := by
  obtain ⟨K, hK⟩ := exK
  rw [kd_zero, kd_zero] at h
  rw [fAdd_eq ha hb (K := K) (by omega)]
  unfold mAdd
  rw [if_pos h]
theorem sum_infs {a b : Int} (ha : In64 a) (hb : In64 b) (h1 : kd a = 1) (h2 : kd b = 1) : fAdd a b = if ngv a = ngv b then a else theNaN := by
  obtain ⟨K, hK⟩ := exK
  rw [kd_one] at h1 h2
  rw [fAdd_eq ha hb (K := K) (by omega)]
  unfold mAdd
  rw [if_neg (by omega), if_pos h1, if_pos h2]
theorem sum_infL {a b : Int} (ha : In64 a) (hb : In64 b) (h1 : kd a = 1) (h2 : kd b ≠ 0) (h3 : kd b ≠ 1) : fAdd a b = a := by
  obtain ⟨K, hK⟩ := exK
  rw [Ne, kd_zero] at h2
  rw [Ne, kd_one] at h3
  rw [kd_one] at h1
  rw [fAdd_eq ha hb (K := K) (by omega)]
  unfold mAdd
  rw [if_neg (by omega), if_pos h1, if_neg h3]
theorem sum_infR {a b : Int} (ha : In64 a) (hb : In64 b) (h1 : kd b = 1) (h2 : kd a ≠ 0) (h3 : kd a ≠ 1) : fAdd a b = b := by
  rw [fAdd_comm hb ha]; exact sum_infL hb ha h1 h2 h3
theorem sum_zeros {a b : Int} (ha : In64 a) (hb : In64 b) (h1 : kd a = 2) (h2 : kd b = 2) : fAdd a b = sg (ngv a && ngv b) 0 := by
  obtain ⟨K, hK⟩ := exK
  have hi : (0 : Nat) < infR := by decide
  rw [kd_two_iff] at h1 h2
  rw [fAdd_fin ha hb (by omega) (by omega) (K := K) (by omega)]
  have hs1 : sv K a = 0 := by unfold sv; rw [h1, val_zero]; cases ngv a <;> simp
  have hs2 : sv K b = 0 := by unfold sv; rw [h2, val_zero]; cases ngv b <;> simp
  rw [hs1, hs2, if_pos (by decide)]

set_option maxRecDepth 10000 in
set_option maxHeartbeats 4000000 in
theorem rsum_any {a b : Int} (ha : In64 a) (hb : In64 b) (w : World) :
    Calls Try.prog 31 #[.int .i64 a, .int .i64 b] w fun e w' => e = .returned (.int .i64 (fAdd a b)) ∧ w = w' := by
  have HA := hid ha
  have HB := hid hb
  have hN : theNaN = 9221120237041090561 := rfl
  by_cases j0 : kd a = 0
  · rw [sum_nan ha hb (.inl j0), hN]
    clear ha hb hN
    go_enter Try.func31, Try.ntmps31
    go_wp2_with (first
      | (go_at_call 17; refine (rkind_any _ _).mono ?_; rintro e w' ⟨rfl, rfl⟩)
      | (go_at_call 33; refine (rsign_any _ _).mono ?_; rintro e w' ⟨rfl, rfl⟩)
      | (go_at_call 28; refine (rnan_any _).mono ?_; rintro e w' ⟨rfl, rfl⟩)
      | (go_at_call 32; refine (rwith_at _ _ (by first | rfl | decide) (by first | exact rdN_lt _ _ _ | decide) _).mono ?_; rintro e w' ⟨rfl, rfl⟩))
    go_ret; exact ⟨rfl, rfl⟩
  by_cases k0 : kd b = 0
  · rw [sum_nan ha hb (.inr k0), hN]
    clear ha hb hN
    rcases kd_range a with j | j | j | j | j
    all_goals
      clear j0
      go_enter Try.func31, Try.ntmps31
      go_wp2_with (first
        | (go_at_call 17; refine (rkind_any _ _).mono ?_; rintro e w' ⟨rfl, rfl⟩)
        | (go_at_call 33; refine (rsign_any _ _).mono ?_; rintro e w' ⟨rfl, rfl⟩)
        | (go_at_call 28; refine (rnan_any _).mono ?_; rintro e w' ⟨rfl, rfl⟩)
        | (go_at_call 32; refine (rwith_at _ _ (by first | rfl | decide) (by first | exact rdN_lt _ _ _ | decide) _).mono ?_; rintro e w' ⟨rfl, rfl⟩))
      go_ret; exact ⟨rfl, rfl⟩
  by_cases j1 : kd a = 1
  · by_cases k1 : kd b = 1
    · rw [sum_infs ha hb j1 k1]
      by_cases hs : ngv a = ngv b
      · rw [if_pos hs]
        have hs' : (ngv a == ngv b) = true := by simp [hs]
        clear ha hb hN hs j0 k0
        go_enter Try.func31, Try.ntmps31
        go_wp2_with (first
          | (go_at_call 17; refine (rkind_any _ _).mono ?_; rintro e w' ⟨rfl, rfl⟩)
          | (go_at_call 33; refine (rsign_any _ _).mono ?_; rintro e w' ⟨rfl, rfl⟩)
          | (go_at_call 28; refine (rnan_any _).mono ?_; rintro e w' ⟨rfl, rfl⟩)
          | (go_at_call 32; refine (rwith_at _ _ (by first | rfl | decide) (by first | exact rdN_lt _ _ _ | decide) _).mono ?_; rintro e w' ⟨rfl, rfl⟩))
        go_ret; exact ⟨rfl, rfl⟩
      · rw [if_neg hs, hN]
        have hs' : (ngv a == ngv b) = false := by simp [hs]
        clear ha hb hN hs j0 k0
        go_enter Try.func31, Try.ntmps31
        go_wp2_with (first
          | (go_at_call 17; refine (rkind_any _ _).mono ?_; rintro e w' ⟨rfl, rfl⟩)
          | (go_at_call 33; refine (rsign_any _ _).mono ?_; rintro e w' ⟨rfl, rfl⟩)
          | (go_at_call 28; refine (rnan_any _).mono ?_; rintro e w' ⟨rfl, rfl⟩)
          | (go_at_call 32; refine (rwith_at _ _ (by first | rfl | decide) (by first | exact rdN_lt _ _ _ | decide) _).mono ?_; rintro e w' ⟨rfl, rfl⟩))
        go_ret; exact ⟨rfl, rfl⟩
    · rw [sum_infL ha hb j1 k0 k1]
      rcases kd_range b with k | k | k | k | k
      · exact absurd k k0
      · exact absurd k k1
      all_goals
        clear ha hb hN j0 k0 k1
        go_enter Try.func31, Try.ntmps31
        go_wp2_with (first
          | (go_at_call 17; refine (rkind_any _ _).mono ?_; rintro e w' ⟨rfl, rfl⟩)
          | (go_at_call 33; refine (rsign_any _ _).mono ?_; rintro e w' ⟨rfl, rfl⟩)
          | (go_at_call 28; refine (rnan_any _).mono ?_; rintro e w' ⟨rfl, rfl⟩)
          | (go_at_call 32; refine (rwith_at _ _ (by first | rfl | decide) (by first | exact rdN_lt _ _ _ | decide) _).mono ?_; rintro e w' ⟨rfl, rfl⟩))
        go_ret; exact ⟨rfl, rfl⟩
  by_cases k1 : kd b = 1
  · rw [sum_infR ha hb k1 j0 j1]
    rcases kd_range a with j | j | j | j | j
    · exact absurd j j0
    · exact absurd j j1
    all_goals
      clear ha hb hN j0 k0 j1
      go_enter Try.func31, Try.ntmps31
      go_wp2_with (first
        | (go_at_call 17; refine (rkind_any _ _).mono ?_; rintro e w' ⟨rfl, rfl⟩)
        | (go_at_call 33; refine (rsign_any _ _).mono ?_; rintro e w' ⟨rfl, rfl⟩)
        | (go_at_call 28; refine (rnan_any _).mono ?_; rintro e w' ⟨rfl, rfl⟩)
        | (go_at_call 32; refine (rwith_at _ _ (by first | rfl | decide) (by first | exact rdN_lt _ _ _ | decide) _).mono ?_; rintro e w' ⟨rfl, rfl⟩))
      go_ret; exact ⟨rfl, rfl⟩
  rcases kd_range a with j | j | j | j | j
  · exact absurd j j0
  · exact absurd j j1
  · rcases kd_range b with k | k | k | k | k
    · exact absurd k k0
    · exact absurd k k1
    · rw [sum_zeros ha hb j k]
      clear ha hb hN j0 k0 j1 k1
      cases hs : ngv a
      all_goals
        go_enter Try.func31, Try.ntmps31
        go_wp2_with (first
          | (go_at_call 17; refine (rkind_any _ _).mono ?_; rintro e w' ⟨rfl, rfl⟩)
          | (go_at_call 33; refine (rsign_any _ _).mono ?_; rintro e w' ⟨rfl, rfl⟩)
          | (go_at_call 28; refine (rnan_any _).mono ?_; rintro e w' ⟨rfl, rfl⟩)
          | (go_at_call 32; refine (rwith_at _ _ (by first | rfl | decide) (by first | exact rdN_lt _ _ _ | decide) _).mono ?_; rintro e w' ⟨rfl, rfl⟩))
        go_ret; exact ⟨rfl, rfl⟩
    all_goals
      have e : fAdd a b = b := by
        rw [fAdd_comm hb ha]
        exact fAdd_zeroR hb ha (kd_fin b (by omega)) (kd_more b (by omega)) ((kd_two_iff a).1 j)
      rw [e]
      clear ha hb hN j0 k0 j1 k1 e
      go_enter Try.func31, Try.ntmps31
      go_wp2_with (first
        | (go_at_call 17; refine (rkind_any _ _).mono ?_; rintro e w' ⟨rfl, rfl⟩)
        | (go_at_call 33; refine (rsign_any _ _).mono ?_; rintro e w' ⟨rfl, rfl⟩)
        | (go_at_call 28; refine (rnan_any _).mono ?_; rintro e w' ⟨rfl, rfl⟩)
        | (go_at_call 32; refine (rwith_at _ _ (by first | rfl | decide) (by first | exact rdN_lt _ _ _ | decide) _).mono ?_; rintro e w' ⟨rfl, rfl⟩))
      go_ret; exact ⟨rfl, rfl⟩
  all_goals
    rcases kd_range b with k | k | k | k | k
    · exact absurd k k0
    · exact absurd k k1
    · have e : fAdd a b = a := fAdd_zeroR ha hb (kd_fin a (by omega)) (kd_more a (by omega)) ((kd_two_iff b).1 k)
      rw [e]
      clear ha hb hN j0 k0 j1 k1 e
      go_enter Try.func31, Try.ntmps31
      go_wp2_with (first
        | (go_at_call 17; refine (rkind_any _ _).mono ?_; rintro e w' ⟨rfl, rfl⟩)
        | (go_at_call 33; refine (rsign_any _ _).mono ?_; rintro e w' ⟨rfl, rfl⟩)
        | (go_at_call 28; refine (rnan_any _).mono ?_; rintro e w' ⟨rfl, rfl⟩)
        | (go_at_call 32; refine (rwith_at _ _ (by first | rfl | decide) (by first | exact rdN_lt _ _ _ | decide) _).mono ?_; rintro e w' ⟨rfl, rfl⟩))
      go_ret; exact ⟨rfl, rfl⟩
    all_goals
      have HF : Hid (rg a < infR ∧ rg b < infR ∧ rg a ≠ 0 ∧ rg b ≠ 0) := ⟨kd_fin a (by omega), kd_fin b (by omega), kd_more a (by omega), kd_more b (by omega)⟩
      clear ha hb hN j0 k0 j1 k1
      go_enter Try.func31, Try.ntmps31
      go_wp2_with (first
        | (go_at_call 17; refine (rkind_any _ _).mono ?_; rintro e w' ⟨rfl, rfl⟩)
        | (go_at_call 33; refine (rsign_any _ _).mono ?_; rintro e w' ⟨rfl, rfl⟩)
        | (go_at_call 28; refine (rnan_any _).mono ?_; rintro e w' ⟨rfl, rfl⟩)
        | (go_at_call 32; refine (rwith_at _ _ (by first | rfl | decide) (by first | exact rdN_lt _ _ _ | decide) _).mono ?_; rintro e w' ⟨rfl, rfl⟩)
        | (go_at_call 42; refine (radd_any HA.out HB.out HF.out.1 HF.out.2.1 HF.out.2.2.1 HF.out.2.2.2 _).mono ?_; rintro e w' ⟨rfl, rfl⟩))
      go_ret; exact ⟨rfl, rfl⟩

end Go.Proofs.Ytdiaegfbaklpbaa
