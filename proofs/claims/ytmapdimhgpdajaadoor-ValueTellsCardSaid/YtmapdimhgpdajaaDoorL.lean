/- The laws' walks over the contracts of package value: ValueBack, ValueOrder, ValueEven return true, whatever numbers come, where the table of powers of ten stands. -/
import Derived.Test.YtmapdimhgpdajaaDoorW
namespace Go.Proofs.YtmapdimhgpdajaaDoor
open Go.RowKit
theorem in_back {n : Int} (h : smB n = true) : nV (inV n) = n ∧ nB (inV n) = true ∧ atB (inV n) = false ∧ mayB (inV n) = true ∧ inV n = 2 * n + 1 := by
  have hb := smB_iff.1 h
  have e : inV n = 2 * n + 1 := by simp [inV, h]
  have h1 : nB (inV n) = true := by rw [nB_iff, e]; omega
  have h2 : atB (inV n) = false := by
    cases h3 : atB (inV n) with
    | false => rfl
    | true => rw [atB_iff, e] at h3; omega
  exact ⟨by unfold nV; rw [if_pos h1, e]; omega, h1, h2, by simp [mayB, h1], e⟩
theorem re_back {n : Int} (h : nuB n = true) : atV (reV n) = n ∧ atB (reV n) = true ∧ nB (reV n) = false ∧ mayB (reV n) = true ∧ reV n = 2 * n := by
  have hb := nuB_iff.1 h
  have e : reV n = 2 * n := by simp [reV, h]
  have h1 : atB (reV n) = true := by rw [atB_iff, e]; omega
  have h2 : nB (reV n) = false := by
    cases h3 : nB (reV n) with
    | false => rfl
    | true => rw [nB_iff, e] at h3; omega
  exact ⟨by unfold atV; rw [if_pos h1, e]; omega, h1, h2, by simp [mayB, h1], e⟩
theorem back_any (n i : Int) (w : World) (hT : TB w.heap.size w) : Calls Tryd.prog 4 #[.int .i64 n, .int .i64 i] w fun e w' => e = .returned (.bool true) ∧ Below w.heap.size w w' := by
  have hne : smB n = true → nuB i = true → (inV n == reV i) = false ∧ (inV n != reV i) = true := fun h1 h2 => by
    obtain ⟨-, -, -, -, e1⟩ := in_back h1
    obtain ⟨-, -, -, -, e2⟩ := re_back h2
    have : inV n ≠ reV i := by rw [e1, e2]; omega
    exact ⟨beq_eq_false_iff_ne.2 this, by simpa using this⟩
  have F1 : smB n = true ∧ -1073741824 ≤ n ∧ n < 1073741824 ∨ smB n = false ∧ n < -1073741824 ∨ smB n = false ∧ -1073741824 ≤ n ∧ 1073741824 ≤ n := by
    cases h : smB n
    · have := smB_no.1 h; simp; omega
    · have := smB_iff.1 h; simp; omega
  have F2 : nuB i = true ∧ 0 ≤ i ∧ i < 1048576 ∨ nuB i = false ∧ i < 0 ∨ nuB i = false ∧ 0 ≤ i ∧ 1048576 ≤ i := by
    cases h : nuB i
    · have := nuB_no.1 h; simp; omega
    · have := nuB_iff.1 h; simp; omega
  have HF2 := Lib.hid F2
  have HT := Lib.hid hT
  have Hne := Lib.hid hne
  clear hne F2 hT
  rcases F1 with ⟨h1, b1, b2⟩ | ⟨h1, b1⟩ | ⟨h1, b1, b2⟩ <;> rcases HF2.out with ⟨h2, b3, b4⟩ | ⟨h2, b3⟩ | ⟨h2, b3, b4⟩
  · obtain ⟨c1, c2, c3, c4, -⟩ := in_back h1
    obtain ⟨d1, d2, d3, d4, -⟩ := re_back h2
    obtain ⟨f1, f2⟩ := Hne.out h1 h2
    go_enter Tryd.func4, Tryd.ntmps4
    go_wp2_with (first
      | (go_at_call 8; refine (int_any _ _).mono ?_; rintro e w' ⟨rfl, rfl⟩)
      | (go_at_call 10; refine (ref_any _ _).mono ?_; rintro e w' ⟨rfl, rfl⟩)
      | (go_at_call 12; refine (may_any _ _).mono ?_; rintro e w' ⟨rfl, rfl⟩)
      | (go_at_call 16; refine (n_any _ _).mono ?_; rintro e w' ⟨rfl, rfl⟩)
      | (go_at_call 18; refine (at_any _ _).mono ?_; rintro e w' ⟨rfl, rfl⟩)
      | (go_at_call 20; refine (fixed_any _ _ HT.out (Nat.le_refl _)).mono ?_; rintro e w' ⟨rfl, hb⟩))
    go_ret; exact ⟨rfl, hb⟩
  any_goals
    obtain ⟨c1, c2, c3, c4, -⟩ := in_back h1
    go_enter Tryd.func4, Tryd.ntmps4
    go_wp2_with (first
      | (go_at_call 8; refine (int_any _ _).mono ?_; rintro e w' ⟨rfl, rfl⟩)
      | (go_at_call 10; refine (ref_any _ _).mono ?_; rintro e w' ⟨rfl, rfl⟩)
      | (go_at_call 12; refine (may_any _ _).mono ?_; rintro e w' ⟨rfl, rfl⟩)
      | (go_at_call 16; refine (n_any _ _).mono ?_; rintro e w' ⟨rfl, rfl⟩)
      | (go_at_call 18; refine (at_any _ _).mono ?_; rintro e w' ⟨rfl, rfl⟩)
      | (go_at_call 20; refine (fixed_any _ _ HT.out (Nat.le_refl _)).mono ?_; rintro e w' ⟨rfl, hb⟩))
    go_ret; exact ⟨rfl, hb⟩
  any_goals
    obtain ⟨d1, d2, d3, d4, -⟩ := re_back h2
    go_enter Tryd.func4, Tryd.ntmps4
    go_wp2_with (first
      | (go_at_call 8; refine (int_any _ _).mono ?_; rintro e w' ⟨rfl, rfl⟩)
      | (go_at_call 10; refine (ref_any _ _).mono ?_; rintro e w' ⟨rfl, rfl⟩)
      | (go_at_call 12; refine (may_any _ _).mono ?_; rintro e w' ⟨rfl, rfl⟩)
      | (go_at_call 16; refine (n_any _ _).mono ?_; rintro e w' ⟨rfl, rfl⟩)
      | (go_at_call 18; refine (at_any _ _).mono ?_; rintro e w' ⟨rfl, rfl⟩)
      | (go_at_call 20; refine (fixed_any _ _ HT.out (Nat.le_refl _)).mono ?_; rintro e w' ⟨rfl, hb⟩))
    go_ret; exact ⟨rfl, hb⟩
  all_goals
    go_enter Tryd.func4, Tryd.ntmps4
    go_wp2_with (first
      | (go_at_call 8; refine (int_any _ _).mono ?_; rintro e w' ⟨rfl, rfl⟩)
      | (go_at_call 10; refine (ref_any _ _).mono ?_; rintro e w' ⟨rfl, rfl⟩)
      | (go_at_call 12; refine (may_any _ _).mono ?_; rintro e w' ⟨rfl, rfl⟩)
      | (go_at_call 16; refine (n_any _ _).mono ?_; rintro e w' ⟨rfl, rfl⟩)
      | (go_at_call 18; refine (at_any _ _).mono ?_; rintro e w' ⟨rfl, rfl⟩)
      | (go_at_call 20; refine (fixed_any _ _ HT.out (Nat.le_refl _)).mono ?_; rintro e w' ⟨rfl, hb⟩))
    go_ret; exact ⟨rfl, hb⟩
theorem even_any (v : Int) (w : World) (hT : TB w.heap.size w) : Calls Tryd.prog 7 #[.int .i64 v] w fun e w' => e = .returned (.bool true) ∧ Below w.heap.size w w' := by
  have HT := Lib.hid hT
  clear hT
  cases h1 : nB v
  · cases h2 : atB v
    · have e1 : mayB v = false := by simp [mayB, h1, h2]
      have e2 : nV v = 0 := by simp [nV, h1]
      have e3 : atV v = 0 := by simp [atV, h2]
      go_enter Tryd.func7, Tryd.ntmps7
      go_wp2_with (first
        | (go_at_call 8; refine (int_any _ _).mono ?_; rintro e w' ⟨rfl, rfl⟩)
        | (go_at_call 10; refine (ref_any _ _).mono ?_; rintro e w' ⟨rfl, rfl⟩)
        | (go_at_call 12; refine (may_any _ _).mono ?_; rintro e w' ⟨rfl, rfl⟩)
        | (go_at_call 16; refine (n_any _ _).mono ?_; rintro e w' ⟨rfl, rfl⟩)
        | (go_at_call 18; refine (at_any _ _).mono ?_; rintro e w' ⟨rfl, rfl⟩)
        | (go_at_call 20; refine (fixed_any _ _ HT.out (Nat.le_refl _)).mono ?_; rintro e w' ⟨rfl, hb⟩))
      go_ret; exact ⟨rfl, hb⟩
    · have hb2 := atB_iff.1 h2
      have e1 : mayB v = true := by simp [mayB, h1, h2]
      have e2 : nV v = 0 := by simp [nV, h1]
      have e3 : atV v = v / 2 := by simp [atV, h2]
      have e4 : (2 * (v / 2) != v) = false := by simp; omega
      have b1 := hb2.2.1
      have b2 := hb2.2.2
      clear hb2
      go_enter Tryd.func7, Tryd.ntmps7
      go_wp2_with (first
        | (go_at_call 8; refine (int_any _ _).mono ?_; rintro e w' ⟨rfl, rfl⟩)
        | (go_at_call 10; refine (ref_any _ _).mono ?_; rintro e w' ⟨rfl, rfl⟩)
        | (go_at_call 12; refine (may_any _ _).mono ?_; rintro e w' ⟨rfl, rfl⟩)
        | (go_at_call 16; refine (n_any _ _).mono ?_; rintro e w' ⟨rfl, rfl⟩)
        | (go_at_call 18; refine (at_any _ _).mono ?_; rintro e w' ⟨rfl, rfl⟩)
        | (go_at_call 20; refine (fixed_any _ _ HT.out (Nat.le_refl _)).mono ?_; rintro e w' ⟨rfl, hb⟩))
      go_ret; exact ⟨rfl, hb⟩
  · cases h2 : atB v
    · have hb2 := nB_iff.1 h1
      have e1 : mayB v = true := by simp [mayB, h1, h2]
      have e2 : nV v = v / 2 := by simp [nV, h1]
      have e3 : atV v = 0 := by simp [atV, h2]
      have e4 : (2 * (v / 2) + 1 != v) = false := by simp; omega
      have b1 := hb2.2.1
      have b2 := hb2.2.2
      clear hb2
      go_enter Tryd.func7, Tryd.ntmps7
      go_wp2_with (first
        | (go_at_call 8; refine (int_any _ _).mono ?_; rintro e w' ⟨rfl, rfl⟩)
        | (go_at_call 10; refine (ref_any _ _).mono ?_; rintro e w' ⟨rfl, rfl⟩)
        | (go_at_call 12; refine (may_any _ _).mono ?_; rintro e w' ⟨rfl, rfl⟩)
        | (go_at_call 16; refine (n_any _ _).mono ?_; rintro e w' ⟨rfl, rfl⟩)
        | (go_at_call 18; refine (at_any _ _).mono ?_; rintro e w' ⟨rfl, rfl⟩)
        | (go_at_call 20; refine (fixed_any _ _ HT.out (Nat.le_refl _)).mono ?_; rintro e w' ⟨rfl, hb⟩))
      go_ret; exact ⟨rfl, hb⟩
    · have := atB_iff.1 h2
      have := nB_iff.1 h1
      omega
end Go.Proofs.YtmapdimhgpdajaaDoor
