/-
  The statements of stage 2 that name no document's answer but kinds, walked: each answers true, whatever the floats.
-/
import Derived.Test.YtdiaegfbaklpbaaF
import Derived.Test.YtdiaegfbaklpbaaM
namespace Go.Proofs.Ytdiaegfbaklpbaa
open Go.RowKit Flt

theorem kd_beq (a : Int) (h : ¬ infR < rg a) : (kd a == 0) = false := by
  rw [beq_eq_false_iff_ne]; exact fun g => h ((kd_zero a).1 g)

set_option maxRecDepth 100000 in
set_option maxHeartbeats 4000000 in
theorem turned_any {a b : Int} (ha : In64 a) (hb : In64 b) {B : Nat} {w0 w : World} (h : On B w0 w) : Calls Try.prog 10 #[.int .i64 a, .int .i64 b] w fun e w' => e = .returned (.bool true) ∧ On B w0 w' := by
  have x1 := xor_sign ha
  have x2 := xor_sign hb
  have t1 := fLess_opp ha hb
  have t2 := fEqual_comm ha hb
  by_cases n : infR < rg a ∨ infR < rg b
  · obtain ⟨p1, p2, p3, _⟩ := nan_no ha hb n
    by_cases n1 : infR < rg a
    · have k1 := (kd_zero a).2 n1
      clear n n1 ha hb
      go_enter Try.func10, Try.ntmps10
      go_wp2_with (first
        | (go_at_call 11; refine (fixed_any (by assumption)).mono ?_; rintro e w' ⟨rfl, _⟩)
        | (go_at_call 26; refine (equal_any _ _ _).mono ?_; rintro e w' ⟨rfl, rfl⟩)
        | (go_at_call 24; refine (less_any _ _ _).mono ?_; rintro e w' ⟨rfl, rfl⟩)
        | (go_at_call 17; refine (rkind_any _ _).mono ?_; rintro e w' ⟨rfl, rfl⟩))
      go_ret; exact ⟨rfl, by assumption⟩
    · have k2 := (kd_zero b).2 (n.resolve_left n1)
      have k1 := kd_beq a n1
      clear n n1 ha hb
      go_enter Try.func10, Try.ntmps10
      go_wp2_with (first
        | (go_at_call 11; refine (fixed_any (by assumption)).mono ?_; rintro e w' ⟨rfl, _⟩)
        | (go_at_call 26; refine (equal_any _ _ _).mono ?_; rintro e w' ⟨rfl, rfl⟩)
        | (go_at_call 24; refine (less_any _ _ _).mono ?_; rintro e w' ⟨rfl, rfl⟩)
        | (go_at_call 17; refine (rkind_any _ _).mono ?_; rintro e w' ⟨rfl, rfl⟩))
      go_ret; exact ⟨rfl, by assumption⟩
  · have k1 := kd_beq a (fun g => n (.inl g))
    have k2 := kd_beq b (fun g => n (.inr g))
    rcases just_one ha hb (fun g => n (.inl g)) (fun g => n (.inr g)) with ⟨p1, p2, p3⟩ | ⟨p1, p2, p3⟩ | ⟨p1, p2, p3⟩
    all_goals
      clear n ha hb
      go_enter Try.func10, Try.ntmps10
      go_wp2_with (first
        | (go_at_call 11; refine (fixed_any (by assumption)).mono ?_; rintro e w' ⟨rfl, _⟩)
        | (go_at_call 26; refine (equal_any _ _ _).mono ?_; rintro e w' ⟨rfl, rfl⟩)
        | (go_at_call 24; refine (less_any _ _ _).mono ?_; rintro e w' ⟨rfl, rfl⟩)
        | (go_at_call 17; refine (rkind_any _ _).mono ?_; rintro e w' ⟨rfl, rfl⟩))
      go_ret; exact ⟨rfl, by assumption⟩

theorem fOp0 (a b : Int) : fOp 0 a b = fAdd a b := by unfold fOp; rw [if_pos rfl]
theorem fOp1 (a b : Int) : fOp 1 a b = fSub a b := by unfold fOp; rw [if_neg (by decide), if_pos rfl]
theorem fOp2 (a b : Int) : fOp 2 a b = fMul a b := by unfold fOp; rw [if_neg (by decide), if_neg (by decide), if_pos rfl]
theorem fOp3 (a b : Int) : fOp 3 a b = fDiv a b := by unfold fOp; rw [if_neg (by decide), if_neg (by decide), if_neg (by decide), if_pos rfl]

theorem kd_range (a : Int) : kd a = 0 ∨ kd a = 1 ∨ kd a = 2 ∨ kd a = 3 ∨ kd a = 4 := by
  unfold kd
  repeat' split
  all_goals simp

set_option maxRecDepth 100000 in
set_option maxHeartbeats 4000000 in
theorem twice_any {a : Int} (ha : In64 a) {B : Nat} {w0 w : World} (h : On B w0 w) : Calls Try.prog 9 #[.int .i64 a] w fun e w' => e = .returned (.bool true) ∧ On B w0 w' := by
  have v2 := v_of2
  have e1 : fOp 2 a 4611686018427387904 = fOp 0 a a := by rw [fOp2, fOp0]; exact twice ha
  have e2 : kd (fOp 0 a a) ≠ 0 → kd (fOp 0 a a) ≠ 1 → fOp 3 (fOp 0 a a) 4611686018427387904 = a := by
    rw [← e1, fOp2, fOp3]; exact half ha
  rcases kd_range (fOp 0 a a) with k | k | k
  · clear e2 ha
    go_enter Try.func9, Try.ntmps9
    go_wp2_with (first
      | (go_at_call 11; refine (fixed_any (by assumption)).mono ?_; rintro e w' ⟨rfl, _⟩)
      | (go_at_call 22; refine (of_any _ _).mono ?_; rintro e w' ⟨rfl, rfl⟩)
      | (go_at_call 12; refine (op_on (by assumption) _ _ _).mono ?_; rintro e w' ⟨rfl, _⟩)
      | (go_at_call 17; refine (rkind_any _ _).mono ?_; rintro e w' ⟨rfl, rfl⟩))
    go_ret; exact ⟨rfl, by assumption⟩
  · clear e2 ha
    go_enter Try.func9, Try.ntmps9
    go_wp2_with (first
      | (go_at_call 11; refine (fixed_any (by assumption)).mono ?_; rintro e w' ⟨rfl, _⟩)
      | (go_at_call 22; refine (of_any _ _).mono ?_; rintro e w' ⟨rfl, rfl⟩)
      | (go_at_call 12; refine (op_on (by assumption) _ _ _).mono ?_; rintro e w' ⟨rfl, _⟩)
      | (go_at_call 17; refine (rkind_any _ _).mono ?_; rintro e w' ⟨rfl, rfl⟩))
    go_ret; exact ⟨rfl, by assumption⟩
  · have e3 := e2 (by omega) (by omega)
    have k' : ¬ kd (fOp 0 a a) < 2 := by omega
    clear e2 ha k
    go_enter Try.func9, Try.ntmps9
    go_wp2_with (first
      | (go_at_call 11; refine (fixed_any (by assumption)).mono ?_; rintro e w' ⟨rfl, _⟩)
      | (go_at_call 22; refine (of_any _ _).mono ?_; rintro e w' ⟨rfl, rfl⟩)
      | (go_at_call 12; refine (op_on (by assumption) _ _ _).mono ?_; rintro e w' ⟨rfl, _⟩)
      | (go_at_call 17; refine (rkind_any _ _).mono ?_; rintro e w' ⟨rfl, rfl⟩))
    go_ret; exact ⟨rfl, by assumption⟩

end Go.Proofs.Ytdiaegfbaklpbaa
