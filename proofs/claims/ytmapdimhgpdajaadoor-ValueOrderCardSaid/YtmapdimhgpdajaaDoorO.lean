/- ValueOrder walk: it returns true, whatever two numbers come, where the table of powers of ten stands. -/
import Derived.Test.YtmapdimhgpdajaaDoorL
namespace Go.Proofs.YtmapdimhgpdajaaDoor
open Go.RowKit
set_option maxHeartbeats 4000000 in
theorem order_any (a b : Int) (w : World) (hT : TB w.heap.size w) : Calls Tryd.prog 6 #[.int .i64 a, .int .i64 b] w fun e w' => e = .returned (.bool true) ∧ Below w.heap.size w w' := by
  have HT := Lib.hid hT
  clear hT
  have F1 : ∀ n : Int, smB n = true ∧ inV n = 2 * n + 1 ∧ -1073741824 ≤ n ∧ n < 1073741824 ∨ smB n = false ∧ n < -1073741824 ∨ smB n = false ∧ -1073741824 ≤ n ∧ 1073741824 ≤ n := fun n => by
    cases h : smB n
    · have := smB_no.1 h; simp; omega
    · have := smB_iff.1 h; simp [inV, h]; omega
  have F2 : ∀ i : Int, nuB i = true ∧ reV i = 2 * i ∧ 0 ≤ i ∧ i < 1048576 ∨ nuB i = false := fun i => by
    cases h : nuB i
    · simp
    · have := nuB_iff.1 h; simp [reV, h]; omega
  have HF1 := Lib.hid F1
  have HF2 := Lib.hid F2
  clear F1 F2
  have hab : a < b ∨ b ≤ a := by omega
  rcases hab with hab | hab <;> rcases HF2.out a with ⟨h1, e1, b1, b2⟩ | h1 <;> rcases HF2.out b with ⟨h2, e2, b3, b4⟩ | h2 <;> rcases HF1.out a with ⟨h3, e3, b5, b6⟩ | ⟨h3, b5⟩ | ⟨h3, b5, b6⟩ <;> rcases HF1.out b with ⟨h4, e4, b7, b8⟩ | ⟨h4, b7⟩ | ⟨h4, b7, b8⟩
  all_goals try omega
  any_goals
    rcases HF1.out (a + b) with ⟨h5, e5, b9, b10⟩ | ⟨h5, b9⟩ | ⟨h5, b9, b10⟩
    all_goals try omega
  all_goals
    go_enter Tryd.func6, Tryd.ntmps6
    go_wp2_with (first
      | (go_at_call 8; refine (int_any _ _).mono ?_; rintro e w' ⟨rfl, rfl⟩)
      | (go_at_call 10; refine (ref_any _ _).mono ?_; rintro e w' ⟨rfl, rfl⟩)
      | (go_at_call 20; refine (fixed_any _ _ HT.out (Nat.le_refl _)).mono ?_; rintro e w' ⟨rfl, hb⟩))
    go_ret
    first | exact ⟨rfl, hb⟩ | exact ⟨by simp; omega, hb⟩
end Go.Proofs.YtmapdimhgpdajaaDoor
