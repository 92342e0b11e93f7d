/- FltOrder and FltKinds, walked: each answers true, whatever the bits. -/
import Derived.Test.YtdiaegfbaklpbaaD
namespace Go.Proofs.Ytdiaegfbaklpbaa
open Go.RowKit Flt

set_option maxRecDepth 100000 in
set_option maxHeartbeats 2000000 in
theorem order_any {a b : Int} (ha : In64 a) (hb : In64 b) {B : Nat} {w0 w : World} (h : On B w0 w) : Calls Try.prog 5 #[.int .i64 a, .int .i64 b] w fun e w' => e = .returned (.bool true) ∧ On B w0 w' := by
  have HA := hid ha
  have HB := hid hb
  clear ha hb
  go_enter Try.func5, Try.ntmps5
  go_wp2_with (first
    | (go_at_call 11; refine (fixed_any (by assumption)).mono ?_; rintro e w' ⟨rfl, _⟩)
    | (go_at_call 24; refine (less_any _ _ _).mono ?_; rintro e w' ⟨rfl, rfl⟩)
    | (go_at_call 25; refine (rless_any HA.out HB.out _).mono ?_; rintro e w' ⟨rfl, rfl⟩)
    | (go_at_call 26; refine (equal_any _ _ _).mono ?_; rintro e w' ⟨rfl, rfl⟩)
    | (go_at_call 27; refine (requal_any HA.out HB.out _).mono ?_; rintro e w' ⟨rfl, rfl⟩))
  all_goals go_ret
  all_goals exact ⟨rfl, by assumption⟩

set_option maxRecDepth 100000 in
set_option maxHeartbeats 2000000 in
theorem kinds_any {a : Int} (ha : In64 a) {B : Nat} {w0 w : World} (h : On B w0 w) : Calls Try.prog 4 #[.int .i64 a] w fun e w' => e = .returned (.bool true) ∧ On B w0 w' := by
  have HA := hid ha
  clear ha
  go_enter Try.func4, Try.ntmps4
  go_wp2_with (first
    | (go_at_call 11; refine (fixed_any (by assumption)).mono ?_; rintro e w' ⟨rfl, _⟩)
    | (go_at_call 14; refine (trunc_any _ HA.out _).mono ?_; rintro e w' ⟨rfl, rfl⟩)
    | (go_at_call 15; refine (rtrunc_any HA.out _).mono ?_; rintro e w' ⟨rfl, rfl⟩)
    | (go_at_call 16; refine (kind_any _ _).mono ?_; rintro e w' ⟨rfl, rfl⟩)
    | (go_at_call 17; refine (rkind_any _ _).mono ?_; rintro e w' ⟨rfl, rfl⟩)
    | (go_at_call 18; refine (canon_any _ _).mono ?_; rintro e w' ⟨rfl, rfl⟩)
    | (go_at_call 19; refine (rcanon_any _ _).mono ?_; rintro e w' ⟨rfl, rfl⟩)
    | (go_at_call 20; refine (text_on (by assumption) _).mono ?_; rintro e w' ⟨rfl, _⟩)
    | (go_at_call 21; refine (rtext_any _ (by assumption)).mono ?_; rintro e w' ⟨rfl, _⟩)
    | (go_at_call 22; refine (of_any _ _).mono ?_; rintro e w' ⟨rfl, rfl⟩)
    | (go_at_call 23; refine (rof_any _ _).mono ?_; rintro e w' ⟨rfl, rfl⟩))
  all_goals go_ret
  all_goals exact ⟨rfl, by assumption⟩

end Go.Proofs.Ytdiaegfbaklpbaa
