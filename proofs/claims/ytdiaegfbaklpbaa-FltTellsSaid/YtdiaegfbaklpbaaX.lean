/-
  The contracts of the document's small answers (the NaN, the sign, the bits without it, the kind, the order), and of the calls whose answers the document fixes.
-/
import Derived.Test.YtdiaegfbaklpbaaU
import Derived.Test.YtdiaegfbaklpbaaV
namespace Go.Proofs.Ytdiaegfbaklpbaa
open Go.RowKit Flt

/-- what was in memory below block B when the world was w0 is as it was -/
def On (B : Nat) (w0 w : World) : Prop := Below B w0 w ∧ B ≤ w.heap.size
theorem On.start (w : World) : On w.heap.size w w := ⟨Below.refl _ _, Nat.le_refl _⟩
theorem On.go {B : Nat} {w0 w w' : World} (h : On B w0 w) (g : Below w.heap.size w w') : On B w0 w' := ⟨h.1.trans (g.mono h.2), Nat.le_trans h.2 g.size⟩

theorem op_on {B : Nat} {w0 w : World} (h : On B w0 w) (do_ a b : Int) : Calls Try.prog 12 #[.int .i64 do_, .int .i64 a, .int .i64 b] w fun e w' => e = .returned (.int .i64 (fOp do_ a b)) ∧ On B w0 w' :=
  (op_any do_ a b w).mono fun _ _ ⟨he, hb⟩ => ⟨he, h.go hb⟩
theorem text_on {B : Nat} {w0 w : World} (h : On B w0 w) (a : Int) : Calls Try.prog 20 #[.int .i64 a] w fun e w' => e = .returned (.string (textS a)) ∧ On B w0 w' :=
  (text_any a w).mono fun _ _ ⟨he, hb⟩ => ⟨he, h.go hb⟩

set_option maxHeartbeats 400000 in
theorem rnan_any (w : World) : Calls Try.prog 28 #[] w fun e w' => e = .returned (.int .i64 9221120237041090561) ∧ w = w' := by
  go_enter Try.func28, Try.ntmps28
  go_wp2
  go_ret; exact ⟨rfl, rfl⟩
set_option maxHeartbeats 400000 in
theorem rmost_any (w : World) : Calls Try.prog 43 #[] w fun e w' => e = .returned (.int .i64 9223372036854775807) ∧ w = w' := by
  go_enter Try.func43, Try.ntmps43
  go_wp2
  go_ret; exact ⟨rfl, rfl⟩
set_option maxHeartbeats 400000 in
theorem rsign_any (a : Int) (w : World) : Calls Try.prog 33 #[.int .i64 a] w fun e w' => e = .returned (.bool (ngv a)) ∧ w = w' := by
  go_enter Try.func33, Try.ntmps33
  go_wp2
  go_ret; exact ⟨rfl, rfl⟩
theorem rg_cast (a : Int) : (rg a : Int) = a % 9223372036854775808 := by unfold rg; omega
set_option maxHeartbeats 400000 in
theorem rplain_any (a : Int) (w : World) : Calls Try.prog 34 #[.int .i64 a] w fun e w' => e = .returned (.int .i64 (rg a)) ∧ w = w' := by
  have e1 : bits .and .i64 a 9223372036854775807 = (rg a : Int) := by rw [and63, rg_cast]
  go_enter Try.func34, Try.ntmps34
  go_wp2_with (go_at_call 43; refine (rmost_any _).mono ?_; rintro e w' ⟨rfl, rfl⟩)
  go_ret; exact ⟨rfl, rfl⟩
set_option maxHeartbeats 400000 in
theorem rwith_any (n : Bool) (r : Nat) (hr : r < 9223372036854775808) (w : World) : Calls Try.prog 32 #[.bool n, .int .i64 r] w fun e w' => e = .returned (.int .i64 (sg n r)) ∧ w = w' := by
  cases n
  · have e1 : sg false r = r := by simp [sg]
    rw [e1]; clear e1
    go_enter Try.func32, Try.ntmps32
    go_wp2_with (go_at_call 43; refine (rmost_any _).mono ?_; rintro e w' ⟨rfl, rfl⟩)
    go_ret; exact ⟨rfl, rfl⟩
  · have e1 : sg true r = (r : Int) - 9223372036854775807 - 1 := by simp [sg]; omega
    rw [e1]; clear e1
    go_enter Try.func32, Try.ntmps32
    go_wp2_with (go_at_call 43; refine (rmost_any _).mono ?_; rintro e w' ⟨rfl, rfl⟩)
    go_ret; exact ⟨rfl, rfl⟩
set_option maxHeartbeats 400000 in
theorem rkind_any (a : Int) (w : World) : Calls Try.prog 17 #[.int .i64 a] w fun e w' => e = .returned (.int .i64 (kd a)) ∧ w = w' := by
  have hl := rg_lt a
  have e2 : Int.tmod (rg a : Int) 4503599627370496 = (rg a : Int) % 4503599627370496 := Int.tmod_eq_emod_of_nonneg (by omega)
  go_enter Try.func17, Try.ntmps17
  go_wp2_with (go_at_call 34; refine (rplain_any _ _).mono ?_; rintro e w' ⟨rfl, rfl⟩)
  all_goals go_ret
  all_goals
    refine ⟨?_, rfl⟩
    refine congrArg (fun x => Ending.returned (Value.int .i64 x)) ?_
    have hi : infR = 9218868437227405312 := rfl
    unfold kd
    repeat' split
    all_goals first | omega | (simp_all; done) | (simp_all; omega) | skip
set_option maxHeartbeats 400000 in
theorem rorder_any (a : Int) (w : World) : Calls Try.prog 39 #[.int .i64 a] w fun e w' => e = .returned (.int .i64 (if ngv a then -(rg a : Int) else a)) ∧ w = w' := by
  have hl := rg_lt a
  cases h : ngv a
  · go_enter Try.func39, Try.ntmps39
    go_wp2_with (first | (go_at_call 34; refine (rplain_any _ _).mono ?_; rintro e w' ⟨rfl, rfl⟩) | (go_at_call 33; refine (rsign_any _ _).mono ?_; rintro e w' ⟨rfl, rfl⟩))
    go_ret; exact ⟨by simp, rfl⟩
  · go_enter Try.func39, Try.ntmps39
    go_wp2_with (first | (go_at_call 34; refine (rplain_any _ _).mono ?_; rintro e w' ⟨rfl, rfl⟩) | (go_at_call 33; refine (rsign_any _ _).mono ?_; rintro e w' ⟨rfl, rfl⟩))
    go_ret; exact ⟨by simp, rfl⟩
end Go.Proofs.Ytdiaegfbaklpbaa
