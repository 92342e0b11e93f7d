/-
  FltWhole, walked: it answers true, whatever the numbers.
-/
import Derived.Test.YtdiaegfbaklpbaaL
namespace Go.Proofs.Ytdiaegfbaklpbaa
open Go.RowKit Flt

set_option maxRecDepth 100000 in
set_option maxHeartbeats 4000000 in
theorem whole_any {m n : Int} (_ : In64 m) (_ : In64 n) {B : Nat} {w0 w : World} (h : On B w0 w) : Calls Try.prog 8 #[.int .i64 m, .int .i64 n] w fun e w' => e = .returned (.bool true) ∧ On B w0 w' := by
  have h26 : (2 : Nat) ^ 26 = 67108864 := by decide
  have h52 : (2 : Nat) ^ 52 = 4503599627370496 := by decide
  by_cases hm : m < -67108864
  · clear h26 h52
    go_enter Try.func8, Try.ntmps8
    go_wp2_with (first
        | (go_at_call 11; refine (fixed_any (by assumption)).mono ?_; rintro e w' ⟨rfl, _⟩)
        | (go_at_call 22; refine (of_any _ _).mono ?_; rintro e w' ⟨rfl, rfl⟩)
        | (go_at_call 12; refine (op_on (by assumption) _ _ _).mono ?_; rintro e w' ⟨rfl, _⟩)
        | (go_at_call 18; refine (canon_any _ _).mono ?_; rintro e w' ⟨rfl, rfl⟩)
        | (go_at_call 28; refine (rnan_any _).mono ?_; rintro e w' ⟨rfl, rfl⟩)
        | (go_at_call 26; refine (equal_any _ _ _).mono ?_; rintro e w' ⟨rfl, rfl⟩)
        | (go_at_call 24; refine (less_any _ _ _).mono ?_; rintro e w' ⟨rfl, rfl⟩)
        | (go_at_call 14; refine (trunc_any _ (by have ht := hid trivial; exact ht.out) _).mono ?_; rintro e w' ⟨rfl, rfl⟩)
        | (go_at_call 17; refine (rkind_any _ _).mono ?_; rintro e w' ⟨rfl, rfl⟩))
    go_ret; exact ⟨rfl, by assumption⟩
  by_cases hm' : 67108864 < m
  · clear h26 h52
    go_enter Try.func8, Try.ntmps8
    go_wp2_with (first
        | (go_at_call 11; refine (fixed_any (by assumption)).mono ?_; rintro e w' ⟨rfl, _⟩)
        | (go_at_call 22; refine (of_any _ _).mono ?_; rintro e w' ⟨rfl, rfl⟩)
        | (go_at_call 12; refine (op_on (by assumption) _ _ _).mono ?_; rintro e w' ⟨rfl, _⟩)
        | (go_at_call 18; refine (canon_any _ _).mono ?_; rintro e w' ⟨rfl, rfl⟩)
        | (go_at_call 28; refine (rnan_any _).mono ?_; rintro e w' ⟨rfl, rfl⟩)
        | (go_at_call 26; refine (equal_any _ _ _).mono ?_; rintro e w' ⟨rfl, rfl⟩)
        | (go_at_call 24; refine (less_any _ _ _).mono ?_; rintro e w' ⟨rfl, rfl⟩)
        | (go_at_call 14; refine (trunc_any _ (by have ht := hid trivial; exact ht.out) _).mono ?_; rintro e w' ⟨rfl, rfl⟩)
        | (go_at_call 17; refine (rkind_any _ _).mono ?_; rintro e w' ⟨rfl, rfl⟩))
    go_ret; exact ⟨rfl, by assumption⟩
  by_cases hn : n < -67108864
  · clear h26 h52
    go_enter Try.func8, Try.ntmps8
    go_wp2_with (first
        | (go_at_call 11; refine (fixed_any (by assumption)).mono ?_; rintro e w' ⟨rfl, _⟩)
        | (go_at_call 22; refine (of_any _ _).mono ?_; rintro e w' ⟨rfl, rfl⟩)
        | (go_at_call 12; refine (op_on (by assumption) _ _ _).mono ?_; rintro e w' ⟨rfl, _⟩)
        | (go_at_call 18; refine (canon_any _ _).mono ?_; rintro e w' ⟨rfl, rfl⟩)
        | (go_at_call 28; refine (rnan_any _).mono ?_; rintro e w' ⟨rfl, rfl⟩)
        | (go_at_call 26; refine (equal_any _ _ _).mono ?_; rintro e w' ⟨rfl, rfl⟩)
        | (go_at_call 24; refine (less_any _ _ _).mono ?_; rintro e w' ⟨rfl, rfl⟩)
        | (go_at_call 14; refine (trunc_any _ (by have ht := hid trivial; exact ht.out) _).mono ?_; rintro e w' ⟨rfl, rfl⟩)
        | (go_at_call 17; refine (rkind_any _ _).mono ?_; rintro e w' ⟨rfl, rfl⟩))
    go_ret; exact ⟨rfl, by assumption⟩
  by_cases hn' : 67108864 < n
  · clear h26 h52
    go_enter Try.func8, Try.ntmps8
    go_wp2_with (first
        | (go_at_call 11; refine (fixed_any (by assumption)).mono ?_; rintro e w' ⟨rfl, _⟩)
        | (go_at_call 22; refine (of_any _ _).mono ?_; rintro e w' ⟨rfl, rfl⟩)
        | (go_at_call 12; refine (op_on (by assumption) _ _ _).mono ?_; rintro e w' ⟨rfl, _⟩)
        | (go_at_call 18; refine (canon_any _ _).mono ?_; rintro e w' ⟨rfl, rfl⟩)
        | (go_at_call 28; refine (rnan_any _).mono ?_; rintro e w' ⟨rfl, rfl⟩)
        | (go_at_call 26; refine (equal_any _ _ _).mono ?_; rintro e w' ⟨rfl, rfl⟩)
        | (go_at_call 24; refine (less_any _ _ _).mono ?_; rintro e w' ⟨rfl, rfl⟩)
        | (go_at_call 14; refine (trunc_any _ (by have ht := hid trivial; exact ht.out) _).mono ?_; rintro e w' ⟨rfl, rfl⟩)
        | (go_at_call 17; refine (rkind_any _ _).mono ?_; rintro e w' ⟨rfl, rfl⟩))
    go_ret; exact ⟨rfl, by assumption⟩
  have am : m.natAbs ≤ 2 ^ 26 := by omega
  have an : n.natAbs ≤ 2 ^ 26 := by omega
  obtain ⟨t1, t2⟩ := whole_trunc am
  have o0 : fOp 0 (fOf m) (fOf n) = fOf (m + n) := by rw [fOp0]; exact whole_add (by omega) (by omega)
  have o1 : fOp 1 (fOf m) (fOf n) = fOf (m - n) := by rw [fOp1]; exact whole_sub (by omega) (by omega)
  obtain ⟨l1, l2⟩ := whole_order (m := m) (n := n) (by omega) (by omega)
  have l2' : fEqual (fOf m) (fOf n) = (m == n) := by rw [l2]; rfl
  clear l2
  have hw : wrap64 (m.tdiv n) = m.tdiv n := by
    have : (m.tdiv n).natAbs ≤ 67108864 := by
      rw [Int.natAbs_tdiv]
      exact Nat.le_trans (Nat.div_le_self _ _) (by omega)
    unfold wrap64
    omega
  have h53 : (2 : Nat) ^ 53 = 9007199254740992 := by decide
  have in1 : In64 (fOf m) := (of_parts (n := m) (by omega) (K := 1074) (Nat.le_refl _)).1
  clear h53
  have IN := hid in1
  by_cases zn : n = 0
  · have zn' : (n != 0) = false := by simpa using zn
    have zn'' : (n == 0) = true := by simpa using zn
    clear h26 h52 am an in1 zn
    go_enter Try.func8, Try.ntmps8
    go_wp2_with (first
        | (go_at_call 11; refine (fixed_any (by assumption)).mono ?_; rintro e w' ⟨rfl, _⟩)
        | (go_at_call 22; refine (of_any _ _).mono ?_; rintro e w' ⟨rfl, rfl⟩)
        | (go_at_call 12; refine (op_on (by assumption) _ _ _).mono ?_; rintro e w' ⟨rfl, _⟩)
        | (go_at_call 18; refine (canon_any _ _).mono ?_; rintro e w' ⟨rfl, rfl⟩)
        | (go_at_call 28; refine (rnan_any _).mono ?_; rintro e w' ⟨rfl, rfl⟩)
        | (go_at_call 26; refine (equal_any _ _ _).mono ?_; rintro e w' ⟨rfl, rfl⟩)
        | (go_at_call 24; refine (less_any _ _ _).mono ?_; rintro e w' ⟨rfl, rfl⟩)
        | (go_at_call 14; refine (trunc_any _ (by have ht := IN; exact ht.out) _).mono ?_; rintro e w' ⟨rfl, rfl⟩)
        | (go_at_call 17; refine (rkind_any _ _).mono ?_; rintro e w' ⟨rfl, rfl⟩))
    all_goals go_ret
    all_goals exact ⟨rfl, by assumption⟩
  · have zn' : (n != 0) = true := by simpa using zn
    have zn'' : (n == 0) = false := by simpa using zn
    obtain ⟨i3, t3, t4⟩ := whole_div am an zn
    rw [← fOp3] at i3 t3 t4
    have IN2 := hid i3
    by_cases zm : m = 0
    · have zm' : (m != 0) = false := by simpa using zm
      clear h26 h52 am an in1 i3 zm
      go_enter Try.func8, Try.ntmps8
      go_wp2_with (first
        | (go_at_call 11; refine (fixed_any (by assumption)).mono ?_; rintro e w' ⟨rfl, _⟩)
        | (go_at_call 22; refine (of_any _ _).mono ?_; rintro e w' ⟨rfl, rfl⟩)
        | (go_at_call 12; refine (op_on (by assumption) _ _ _).mono ?_; rintro e w' ⟨rfl, _⟩)
        | (go_at_call 18; refine (canon_any _ _).mono ?_; rintro e w' ⟨rfl, rfl⟩)
        | (go_at_call 28; refine (rnan_any _).mono ?_; rintro e w' ⟨rfl, rfl⟩)
        | (go_at_call 26; refine (equal_any _ _ _).mono ?_; rintro e w' ⟨rfl, rfl⟩)
        | (go_at_call 24; refine (less_any _ _ _).mono ?_; rintro e w' ⟨rfl, rfl⟩)
        | (go_at_call 14; refine (trunc_any _ (by first | exact IN.out | exact IN2.out) _).mono ?_; rintro e w' ⟨rfl, rfl⟩)
        | (go_at_call 17; refine (rkind_any _ _).mono ?_; rintro e w' ⟨rfl, rfl⟩))
      all_goals go_ret
      all_goals exact ⟨rfl, by assumption⟩
    · have zm' : (m != 0) = true := by simpa using zm
      have o2 : fOp 2 (fOf m) (fOf n) = fOf (m * n) := by rw [fOp2]; exact whole_mul am an zm zn
      have hmn : -4503599627370496 ≤ m * n ∧ m * n ≤ 4503599627370496 := by
        have h1 : (m * n).natAbs ≤ 2 ^ 26 * 2 ^ 26 := by rw [Int.natAbs_mul]; exact Nat.mul_le_mul am an
        have h2 : (2 : Nat) ^ 26 * 2 ^ 26 = 4503599627370496 := by decide
        omega
      obtain ⟨b1, b2⟩ := hmn
      clear h26 h52 am an in1 i3
      go_enter Try.func8, Try.ntmps8
      go_wp2_with (first
        | (go_at_call 11; refine (fixed_any (by assumption)).mono ?_; rintro e w' ⟨rfl, _⟩)
        | (go_at_call 22; refine (of_any _ _).mono ?_; rintro e w' ⟨rfl, rfl⟩)
        | (go_at_call 12; refine (op_on (by assumption) _ _ _).mono ?_; rintro e w' ⟨rfl, _⟩)
        | (go_at_call 18; refine (canon_any _ _).mono ?_; rintro e w' ⟨rfl, rfl⟩)
        | (go_at_call 28; refine (rnan_any _).mono ?_; rintro e w' ⟨rfl, rfl⟩)
        | (go_at_call 26; refine (equal_any _ _ _).mono ?_; rintro e w' ⟨rfl, rfl⟩)
        | (go_at_call 24; refine (less_any _ _ _).mono ?_; rintro e w' ⟨rfl, rfl⟩)
        | (go_at_call 14; refine (trunc_any _ (by first | exact IN.out | exact IN2.out) _).mono ?_; rintro e w' ⟨rfl, rfl⟩)
        | (go_at_call 17; refine (rkind_any _ _).mono ?_; rintro e w' ⟨rfl, rfl⟩))
      all_goals go_ret
      all_goals exact ⟨rfl, by assumption⟩

end Go.Proofs.Ytdiaegfbaklpbaa
