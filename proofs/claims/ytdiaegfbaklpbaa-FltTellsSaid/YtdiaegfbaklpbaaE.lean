/-
  FltEdges and FltAlgebra, walked: each answers true, whatever the floats.
-/
import Derived.Test.YtdiaegfbaklpbaaL
namespace Go.Proofs.Ytdiaegfbaklpbaa
open Go.RowKit Flt

theorem v_inf : fOp 3 4607182418800017408 0 = 9218868437227405312 := by decide +kernel
theorem kd_one (a : Int) : kd a = 1 ↔ rg a = infR := by
  have hi : infR = 9218868437227405312 := rfl
  unfold kd
  repeat' split
  all_goals first | omega | (simp_all; done) | (simp_all; omega)
theorem kd_fin (a : Int) (h : kd a = 2 ∨ kd a = 3 ∨ kd a = 4) : rg a < infR := by
  have h0 : ¬ kd a = 0 := by omega
  have h1 : ¬ kd a = 1 := by omega
  rw [kd_zero] at h0
  rw [kd_one] at h1
  omega
theorem kd_two (a : Int) (h : kd a = 2) : rg a = 0 := by
  unfold kd at h
  repeat' split at h
  all_goals simp_all
theorem kd_more (a : Int) (h : kd a = 3 ∨ kd a = 4) : rg a ≠ 0 := by
  intro g
  have : kd a = 2 := by
    unfold kd
    rw [g]
    decide
  omega

set_option maxRecDepth 100000 in
set_option maxHeartbeats 4000000 in
theorem edges_any {d a b : Int} (_ : In64 d) (ha : In64 a) (hb : In64 b) {B : Nat} {w0 w : World} (h : On B w0 w) : Calls Try.prog 7 #[.int .i64 d, .int .i64 a, .int .i64 b] w fun e w' => e = .returned (.bool true) ∧ On B w0 w' := by
  have v1 := v_of1
  have v2 := v_inf
  have v3 := v_c
  rcases kd_range a with k | k | k | k | k
  · have n := (kd_zero a).1 k
    obtain ⟨o1, o2⟩ := nan_op ha hb n d
    obtain ⟨p1, p2, p3, _⟩ := nan_no ha hb (.inl n)
    obtain ⟨_, _, p4, _⟩ := nan_no ha ha (.inl n)
    unfold theNaN at o1 o2
    clear n ha hb
    go_enter Try.func7, Try.ntmps7
    go_wp2_with (first
        | (go_at_call 11; refine (fixed_any (by assumption)).mono ?_; rintro e w' ⟨rfl, _⟩)
        | (go_at_call 22; refine (of_any _ _).mono ?_; rintro e w' ⟨rfl, rfl⟩)
        | (go_at_call 12; refine (op_on (by assumption) _ _ _).mono ?_; rintro e w' ⟨rfl, _⟩)
        | (go_at_call 18; refine (canon_any _ _).mono ?_; rintro e w' ⟨rfl, rfl⟩)
        | (go_at_call 28; refine (rnan_any _).mono ?_; rintro e w' ⟨rfl, rfl⟩)
        | (go_at_call 26; refine (equal_any _ _ _).mono ?_; rintro e w' ⟨rfl, rfl⟩)
        | (go_at_call 24; refine (less_any _ _ _).mono ?_; rintro e w' ⟨rfl, rfl⟩)
        | (go_at_call 14; refine (trunc_any _ (by have ht := hid trivial; exact ht.out) _).mono ?_; rintro e w' ⟨rfl, rfl⟩)
        | (go_at_call 17; refine (rkind_any _ _).mono ?_; rintro e w' ⟨rfl, rfl⟩))
    go_ret; exact ⟨rfl, by assumption⟩
  · have n := (kd_one a).1 k
    obtain ⟨s1, s2⟩ := self_order ha (by omega)
    obtain ⟨o1, o2⟩ := inf_less ha n
    rw [← fOp1] at o1
    rw [← fOp3] at o2
    unfold theNaN at o1 o2
    clear n ha hb
    go_enter Try.func7, Try.ntmps7
    go_wp2_with (first
        | (go_at_call 11; refine (fixed_any (by assumption)).mono ?_; rintro e w' ⟨rfl, _⟩)
        | (go_at_call 22; refine (of_any _ _).mono ?_; rintro e w' ⟨rfl, rfl⟩)
        | (go_at_call 12; refine (op_on (by assumption) _ _ _).mono ?_; rintro e w' ⟨rfl, _⟩)
        | (go_at_call 18; refine (canon_any _ _).mono ?_; rintro e w' ⟨rfl, rfl⟩)
        | (go_at_call 28; refine (rnan_any _).mono ?_; rintro e w' ⟨rfl, rfl⟩)
        | (go_at_call 26; refine (equal_any _ _ _).mono ?_; rintro e w' ⟨rfl, rfl⟩)
        | (go_at_call 24; refine (less_any _ _ _).mono ?_; rintro e w' ⟨rfl, rfl⟩)
        | (go_at_call 14; refine (trunc_any _ (by have ht := hid trivial; exact ht.out) _).mono ?_; rintro e w' ⟨rfl, rfl⟩)
        | (go_at_call 17; refine (rkind_any _ _).mono ?_; rintro e w' ⟨rfl, rfl⟩))
    go_ret; exact ⟨rfl, by assumption⟩
  · have n := kd_fin a (by omega)
    obtain ⟨s1, s2⟩ := self_order ha (by omega)
    obtain ⟨l1, l2, o1⟩ := fin_edges ha n
    have o2 := zero_by ha (kd_two a k)
    rw [← fOp1] at o1
    rw [← fOp3] at o2
    unfold theNaN at o2
    unfold posInf at l1
    unfold negInf at l2
    clear n ha hb
    go_enter Try.func7, Try.ntmps7
    go_wp2_with (first
        | (go_at_call 11; refine (fixed_any (by assumption)).mono ?_; rintro e w' ⟨rfl, _⟩)
        | (go_at_call 22; refine (of_any _ _).mono ?_; rintro e w' ⟨rfl, rfl⟩)
        | (go_at_call 12; refine (op_on (by assumption) _ _ _).mono ?_; rintro e w' ⟨rfl, _⟩)
        | (go_at_call 18; refine (canon_any _ _).mono ?_; rintro e w' ⟨rfl, rfl⟩)
        | (go_at_call 28; refine (rnan_any _).mono ?_; rintro e w' ⟨rfl, rfl⟩)
        | (go_at_call 26; refine (equal_any _ _ _).mono ?_; rintro e w' ⟨rfl, rfl⟩)
        | (go_at_call 24; refine (less_any _ _ _).mono ?_; rintro e w' ⟨rfl, rfl⟩)
        | (go_at_call 14; refine (trunc_any _ (by have ht := hid trivial; exact ht.out) _).mono ?_; rintro e w' ⟨rfl, rfl⟩)
        | (go_at_call 17; refine (rkind_any _ _).mono ?_; rintro e w' ⟨rfl, rfl⟩))
    go_ret; exact ⟨rfl, by assumption⟩
  all_goals
    have n := kd_fin a (by omega)
    obtain ⟨s1, s2⟩ := self_order ha (by omega)
    obtain ⟨l1, l2, o1⟩ := fin_edges ha n
    have o2 := self_by ha n (kd_more a (by omega))
    rw [← fOp1] at o1
    rw [← fOp3] at o2
    unfold one at o2
    unfold posInf at l1
    unfold negInf at l2
    clear n ha hb
    go_enter Try.func7, Try.ntmps7
    go_wp2_with (first
        | (go_at_call 11; refine (fixed_any (by assumption)).mono ?_; rintro e w' ⟨rfl, _⟩)
        | (go_at_call 22; refine (of_any _ _).mono ?_; rintro e w' ⟨rfl, rfl⟩)
        | (go_at_call 12; refine (op_on (by assumption) _ _ _).mono ?_; rintro e w' ⟨rfl, _⟩)
        | (go_at_call 18; refine (canon_any _ _).mono ?_; rintro e w' ⟨rfl, rfl⟩)
        | (go_at_call 28; refine (rnan_any _).mono ?_; rintro e w' ⟨rfl, rfl⟩)
        | (go_at_call 26; refine (equal_any _ _ _).mono ?_; rintro e w' ⟨rfl, rfl⟩)
        | (go_at_call 24; refine (less_any _ _ _).mono ?_; rintro e w' ⟨rfl, rfl⟩)
        | (go_at_call 14; refine (trunc_any _ (by have ht := hid trivial; exact ht.out) _).mono ?_; rintro e w' ⟨rfl, rfl⟩)
        | (go_at_call 17; refine (rkind_any _ _).mono ?_; rintro e w' ⟨rfl, rfl⟩))
    go_ret; exact ⟨rfl, by assumption⟩

theorem in_fOp {a b : Int} (ha : In64 a) (hb : In64 b) (d : Int) : In64 (fOp d a b) := by
  unfold fOp
  repeat' split
  all_goals first | exact in_fAdd ha hb | exact in_fSub ha hb | exact in_fMul ha hb | exact in_fDiv ha hb | exact in_nan
theorem canon_fOp {a b : Int} (ha : In64 a) (hb : In64 b) (d : Int) : canon (fOp d a b) = fOp d a b := by
  by_cases h0 : d = 0
  · subst h0; rw [fOp0]; exact fAdd_canon ha hb
  by_cases h1 : d = 1
  · subst h1; rw [fOp1]; exact fSub_canon ha hb
  by_cases h2 : d = 2
  · subst h2; rw [fOp2]; exact fMul_canon ha hb
  by_cases h3 : d = 3
  · subst h3; rw [fOp3]; exact fDiv_canon ha hb
  · have : fOp d a b = theNaN := by unfold fOp; rw [if_neg h0, if_neg h1, if_neg h2, if_neg h3]
    rw [this]; exact canon_nan

set_option maxRecDepth 100000 in
set_option maxHeartbeats 8000000 in
theorem algebra_any {a b : Int} (ha : In64 a) (hb : In64 b) {B : Nat} {w0 w : World} (h : On B w0 w) : Calls Try.prog 6 #[.int .i64 a, .int .i64 b] w fun e w' => e = .returned (.bool true) ∧ On B w0 w' := by
  have x1 := xor_sign ha
  have x2 := xor_sign hb
  have HA := hid ha
  have HB := hid hb
  clear ha hb
  go_enter Try.func6, Try.ntmps6
  go_wp2_with (first
        | (go_at_call 11; refine (fixed_any (by assumption)).mono ?_; rintro e w' ⟨rfl, _⟩)
        | (go_at_call 22; refine (of_any _ _).mono ?_; rintro e w' ⟨rfl, rfl⟩)
        | (go_at_call 12; refine (op_on (by assumption) _ _ _).mono ?_; rintro e w' ⟨rfl, _⟩)
        | (go_at_call 18; refine (canon_any _ _).mono ?_; rintro e w' ⟨rfl, rfl⟩)
        | (go_at_call 28; refine (rnan_any _).mono ?_; rintro e w' ⟨rfl, rfl⟩)
        | (go_at_call 26; refine (equal_any _ _ _).mono ?_; rintro e w' ⟨rfl, rfl⟩)
        | (go_at_call 24; refine (less_any _ _ _).mono ?_; rintro e w' ⟨rfl, rfl⟩)
        | (go_at_call 14; refine (trunc_any _ (by have ht := hid trivial; exact ht.out) _).mono ?_; rintro e w' ⟨rfl, rfl⟩)
        | (go_at_call 17; refine (rkind_any _ _).mono ?_; rintro e w' ⟨rfl, rfl⟩))
  go_loopw [8] (fun i wr => ∃ k : Nat, k ≤ 4 ∧ i = .int .i64 k ∧ On B w0 wr) (fun i _ => 4 - (intOf i).toNat)
  case atStart => exact ⟨0, by omega, rfl, by assumption⟩
  case round =>
    obtain ⟨k, hk, rfl, hR⟩ := hrel
    have hk5 : k = 0 ∨ k = 1 ∨ k = 2 ∨ k = 3 ∨ k = 4 := by omega
    rcases hk5 with rfl | rfl | rfl | rfl | rfl
    · clear hk
      have c := canon_fOp HA.out HB.out 0
      have m : fOp 0 b a = fOp 0 a b := by rw [fOp0, fOp0]; exact fAdd_comm HA.out HB.out
      have x3 := xor_sign (in_fOp HA.out HB.out 0)
      have o : kd (fOp 0 a b) ≠ 0 → kd (fOp 0 a b) ≠ 2 → fOp 0 (opp a) (opp b) = opp (fOp 0 a b) := by
        rw [fOp0, fOp0]; exact fAdd_oppB HA.out HB.out
      rcases kd_range (fOp 0 a b) with g | g | g | g | g
      all_goals
        first | (have o' := o (by omega) (by omega); clear o) | clear o
        go_wp2_with (first
        | (go_at_call 11; refine (fixed_any (by assumption)).mono ?_; rintro e w' ⟨rfl, _⟩)
        | (go_at_call 22; refine (of_any _ _).mono ?_; rintro e w' ⟨rfl, rfl⟩)
        | (go_at_call 12; refine (op_on (by assumption) _ _ _).mono ?_; rintro e w' ⟨rfl, _⟩)
        | (go_at_call 18; refine (canon_any _ _).mono ?_; rintro e w' ⟨rfl, rfl⟩)
        | (go_at_call 28; refine (rnan_any _).mono ?_; rintro e w' ⟨rfl, rfl⟩)
        | (go_at_call 26; refine (equal_any _ _ _).mono ?_; rintro e w' ⟨rfl, rfl⟩)
        | (go_at_call 24; refine (less_any _ _ _).mono ?_; rintro e w' ⟨rfl, rfl⟩)
        | (go_at_call 14; refine (trunc_any _ (by have ht := hid trivial; exact ht.out) _).mono ?_; rintro e w' ⟨rfl, rfl⟩)
        | (go_at_call 17; refine (rkind_any _ _).mono ?_; rintro e w' ⟨rfl, rfl⟩))
        exact ⟨⟨1, by omega, rfl, by assumption⟩, by decide⟩
    · clear hk
      have c := canon_fOp HA.out HB.out 1
      have x3 := xor_sign (in_fOp HA.out HB.out 1)
      have o : kd (fOp 1 a b) ≠ 0 → kd (fOp 1 a b) ≠ 2 → fOp 1 (opp a) (opp b) = opp (fOp 1 a b) := by
        rw [fOp1, fOp1]; exact fSub_oppB HA.out HB.out
      rcases kd_range (fOp 1 a b) with g | g | g | g | g
      all_goals
        first | (have o' := o (by omega) (by omega); clear o) | clear o
        go_wp2_with (first
        | (go_at_call 11; refine (fixed_any (by assumption)).mono ?_; rintro e w' ⟨rfl, _⟩)
        | (go_at_call 22; refine (of_any _ _).mono ?_; rintro e w' ⟨rfl, rfl⟩)
        | (go_at_call 12; refine (op_on (by assumption) _ _ _).mono ?_; rintro e w' ⟨rfl, _⟩)
        | (go_at_call 18; refine (canon_any _ _).mono ?_; rintro e w' ⟨rfl, rfl⟩)
        | (go_at_call 28; refine (rnan_any _).mono ?_; rintro e w' ⟨rfl, rfl⟩)
        | (go_at_call 26; refine (equal_any _ _ _).mono ?_; rintro e w' ⟨rfl, rfl⟩)
        | (go_at_call 24; refine (less_any _ _ _).mono ?_; rintro e w' ⟨rfl, rfl⟩)
        | (go_at_call 14; refine (trunc_any _ (by have ht := hid trivial; exact ht.out) _).mono ?_; rintro e w' ⟨rfl, rfl⟩)
        | (go_at_call 17; refine (rkind_any _ _).mono ?_; rintro e w' ⟨rfl, rfl⟩))
        exact ⟨⟨2, by omega, rfl, by assumption⟩, by decide⟩
    · clear hk
      have c := canon_fOp HA.out HB.out 2
      have m : fOp 2 b a = fOp 2 a b := by rw [fOp2, fOp2]; exact fMul_comm HA.out HB.out
      have x3 := xor_sign (in_fOp HA.out HB.out 2)
      have o : kd (fOp 2 a b) ≠ 0 → fOp 2 (opp a) b = opp (fOp 2 a b) ∧ fOp 2 a (opp b) = opp (fOp 2 a b) ∧ fOp 2 (opp a) (opp b) = fOp 2 a b := by
        rw [fOp2, fOp2, fOp2, fOp2]
        exact fun g => ⟨fMul_oppL HA.out HB.out g, fMul_oppR HA.out HB.out g, fMul_oppB HA.out HB.out g⟩
      rcases kd_range (fOp 2 a b) with g | g | g | g | g
      all_goals
        first | (have o' := o (by omega); obtain ⟨o1, o2, o3⟩ := o'; clear o) | clear o
        go_wp2_with (first
        | (go_at_call 11; refine (fixed_any (by assumption)).mono ?_; rintro e w' ⟨rfl, _⟩)
        | (go_at_call 22; refine (of_any _ _).mono ?_; rintro e w' ⟨rfl, rfl⟩)
        | (go_at_call 12; refine (op_on (by assumption) _ _ _).mono ?_; rintro e w' ⟨rfl, _⟩)
        | (go_at_call 18; refine (canon_any _ _).mono ?_; rintro e w' ⟨rfl, rfl⟩)
        | (go_at_call 28; refine (rnan_any _).mono ?_; rintro e w' ⟨rfl, rfl⟩)
        | (go_at_call 26; refine (equal_any _ _ _).mono ?_; rintro e w' ⟨rfl, rfl⟩)
        | (go_at_call 24; refine (less_any _ _ _).mono ?_; rintro e w' ⟨rfl, rfl⟩)
        | (go_at_call 14; refine (trunc_any _ (by have ht := hid trivial; exact ht.out) _).mono ?_; rintro e w' ⟨rfl, rfl⟩)
        | (go_at_call 17; refine (rkind_any _ _).mono ?_; rintro e w' ⟨rfl, rfl⟩))
        exact ⟨⟨3, by omega, rfl, by assumption⟩, by decide⟩
    · clear hk
      have c := canon_fOp HA.out HB.out 3
      have x3 := xor_sign (in_fOp HA.out HB.out 3)
      have o : kd (fOp 3 a b) ≠ 0 → fOp 3 (opp a) b = opp (fOp 3 a b) ∧ fOp 3 a (opp b) = opp (fOp 3 a b) ∧ fOp 3 (opp a) (opp b) = fOp 3 a b := by
        rw [fOp3, fOp3, fOp3, fOp3]
        exact fun g => ⟨fDiv_oppL HA.out HB.out g, fDiv_oppR HA.out HB.out g, fDiv_oppB HA.out HB.out g⟩
      rcases kd_range (fOp 3 a b) with g | g | g | g | g
      all_goals
        first | (have o' := o (by omega); obtain ⟨o1, o2, o3⟩ := o'; clear o) | clear o
        go_wp2_with (first
        | (go_at_call 11; refine (fixed_any (by assumption)).mono ?_; rintro e w' ⟨rfl, _⟩)
        | (go_at_call 22; refine (of_any _ _).mono ?_; rintro e w' ⟨rfl, rfl⟩)
        | (go_at_call 12; refine (op_on (by assumption) _ _ _).mono ?_; rintro e w' ⟨rfl, _⟩)
        | (go_at_call 18; refine (canon_any _ _).mono ?_; rintro e w' ⟨rfl, rfl⟩)
        | (go_at_call 28; refine (rnan_any _).mono ?_; rintro e w' ⟨rfl, rfl⟩)
        | (go_at_call 26; refine (equal_any _ _ _).mono ?_; rintro e w' ⟨rfl, rfl⟩)
        | (go_at_call 24; refine (less_any _ _ _).mono ?_; rintro e w' ⟨rfl, rfl⟩)
        | (go_at_call 14; refine (trunc_any _ (by have ht := hid trivial; exact ht.out) _).mono ?_; rintro e w' ⟨rfl, rfl⟩)
        | (go_at_call 17; refine (rkind_any _ _).mono ?_; rintro e w' ⟨rfl, rfl⟩))
        exact ⟨⟨4, by omega, rfl, by assumption⟩, by decide⟩
    · clear hk
      by_cases n : infR < rg b
      · have k2 := (kd_zero b).2 n
        clear n
        go_wp2_with (first
        | (go_at_call 11; refine (fixed_any (by assumption)).mono ?_; rintro e w' ⟨rfl, _⟩)
        | (go_at_call 22; refine (of_any _ _).mono ?_; rintro e w' ⟨rfl, rfl⟩)
        | (go_at_call 12; refine (op_on (by assumption) _ _ _).mono ?_; rintro e w' ⟨rfl, _⟩)
        | (go_at_call 18; refine (canon_any _ _).mono ?_; rintro e w' ⟨rfl, rfl⟩)
        | (go_at_call 28; refine (rnan_any _).mono ?_; rintro e w' ⟨rfl, rfl⟩)
        | (go_at_call 26; refine (equal_any _ _ _).mono ?_; rintro e w' ⟨rfl, rfl⟩)
        | (go_at_call 24; refine (less_any _ _ _).mono ?_; rintro e w' ⟨rfl, rfl⟩)
        | (go_at_call 14; refine (trunc_any _ (by have ht := hid trivial; exact ht.out) _).mono ?_; rintro e w' ⟨rfl, rfl⟩)
        | (go_at_call 17; refine (rkind_any _ _).mono ?_; rintro e w' ⟨rfl, rfl⟩))
        go_ret; exact ⟨rfl, by assumption⟩
      · have k2 := kd_beq b n
        have o : fOp 1 a b = fOp 0 a (opp b) := by rw [fOp1, fOp0, fSub_eq HB.out, if_neg n]
        clear n
        go_wp2_with (first
        | (go_at_call 11; refine (fixed_any (by assumption)).mono ?_; rintro e w' ⟨rfl, _⟩)
        | (go_at_call 22; refine (of_any _ _).mono ?_; rintro e w' ⟨rfl, rfl⟩)
        | (go_at_call 12; refine (op_on (by assumption) _ _ _).mono ?_; rintro e w' ⟨rfl, _⟩)
        | (go_at_call 18; refine (canon_any _ _).mono ?_; rintro e w' ⟨rfl, rfl⟩)
        | (go_at_call 28; refine (rnan_any _).mono ?_; rintro e w' ⟨rfl, rfl⟩)
        | (go_at_call 26; refine (equal_any _ _ _).mono ?_; rintro e w' ⟨rfl, rfl⟩)
        | (go_at_call 24; refine (less_any _ _ _).mono ?_; rintro e w' ⟨rfl, rfl⟩)
        | (go_at_call 14; refine (trunc_any _ (by have ht := hid trivial; exact ht.out) _).mono ?_; rintro e w' ⟨rfl, rfl⟩)
        | (go_at_call 17; refine (rkind_any _ _).mono ?_; rintro e w' ⟨rfl, rfl⟩))
        go_ret; exact ⟨rfl, by assumption⟩

end Go.Proofs.Ytdiaegfbaklpbaa
