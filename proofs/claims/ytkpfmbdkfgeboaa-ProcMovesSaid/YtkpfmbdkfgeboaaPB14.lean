/- The program's small words on processes: at, ref, isRef, isWithin; the slots of an object of a class. -/
import Derived.Test.YtkpfmbdkfgeboaaPA14
namespace Go.Proofs.Ytkpfmbdkfgeboaa
open Go.RowKit
set_option maxRecDepth 100000
theorem pat_any14 (v : Int) (w : World) : Calls Try.prog 38 #[.int .i64 v] w fun e w' => e = .returned (.int .i64 (atV v)) ∧ w = w' := by
  go_enter Try.func38, Try.ntmps38
  go_wp2_with (go_at_call 64; refine (at_any _ _).mono ?_; rintro e w' ⟨rfl, rfl⟩)
  go_ret; exact ⟨rfl, rfl⟩
theorem pref_any14 (v : Int) (w : World) : Calls Try.prog 65 #[.int .i64 v] w fun e w' => e = .returned (.int .i64 (reV v)) ∧ w = w' := by
  go_enter Try.func65, Try.ntmps65
  go_wp2_with (go_at_call 79; refine (ref_any _ _).mono ?_; rintro e w' ⟨rfl, rfl⟩)
  go_ret; exact ⟨rfl, rfl⟩
theorem pisref_any14 (v : Int) (w : World) : Calls Try.prog 43 #[.int .i64 v] w fun e w' => e = .returned (.bool (atB v)) ∧ w = w' := by
  go_enter Try.func43, Try.ntmps43
  go_wp2_with (go_at_call 64; refine (at_any _ _).mono ?_; rintro e w' ⟨rfl, rfl⟩)
  go_ret; exact ⟨rfl, rfl⟩
theorem piswithin_any14 (v m : Int) (w : World) : Calls Try.prog 42 #[.int .i64 v, .int .i64 m] w fun e w' => e = .returned (.bool (wi14 v m)) ∧ w = w' := by
  unfold wi14
  cases hb : nB v
  · go_enter Try.func42, Try.ntmps42
    go_wp2_with (go_at_call 53; refine (n_any _ _).mono ?_; rintro e w' ⟨rfl, rfl⟩)
    go_ret; exact ⟨rfl, rfl⟩
  · by_cases h0 : 0 ≤ nV v
    · by_cases h1 : nV v ≤ m
      · go_enter Try.func42, Try.ntmps42
        go_wp2_with (go_at_call 53; refine (n_any _ _).mono ?_; rintro e w' ⟨rfl, rfl⟩)
        go_ret; exact ⟨by simp [h0, h1], rfl⟩
      · go_enter Try.func42, Try.ntmps42
        go_wp2_with (go_at_call 53; refine (n_any _ _).mono ?_; rintro e w' ⟨rfl, rfl⟩)
        go_ret; exact ⟨by simp [h0, h1], rfl⟩
    · go_enter Try.func42, Try.ntmps42
      go_wp2_with (go_at_call 53; refine (n_any _ _).mono ?_; rintro e w' ⟨rfl, rfl⟩)
      go_ret; exact ⟨by simp; omega, rfl⟩
end Go.Proofs.Ytkpfmbdkfgeboaa
