/- The walks of the document's own answers for layer 1, and ValueTells. -/
import Derived.Test.YtmapdimhgpdajaaDoorD
import Derived.Test.YtmapdimhgpdajaaDoorX
namespace Go.Proofs.YtmapdimhgpdajaaDoor
open Go.RowKit
theorem rint_any (n : Int) (w : World) : Calls Tryd.prog 9 #[.int .i64 n] w fun e w' => e = .returned (.tuple #[.int .i64 (inV n), .bool (smB n)]) ∧ w = w' := by
  have F : smB n = true ∧ inV n = 2 * n + 1 ∧ -1073741824 ≤ n ∧ n ≤ 1073741823 ∨ smB n = false ∧ inV n = 0 ∧ n < -1073741824 ∨ smB n = false ∧ inV n = 0 ∧ -1073741824 ≤ n ∧ 1073741823 < n := by
    cases h : smB n
    · have := smB_no.1 h; simp [inV, h]; omega
    · have := smB_iff.1 h; simp [inV, h]; omega
  rcases F with ⟨h, e, b1, b2⟩ | ⟨h, e, b1⟩ | ⟨h, e, b1, b2⟩
  all_goals
    rw [h, e]; clear h e
    go_enter Tryd.func9, Tryd.ntmps9
    go_wp2
    go_ret2; exact ⟨rfl, rfl⟩
theorem rref_any (n : Int) (w : World) : Calls Tryd.prog 11 #[.int .i64 n] w fun e w' => e = .returned (.tuple #[.int .i64 (reV n), .bool (nuB n)]) ∧ w = w' := by
  have F : nuB n = true ∧ reV n = 2 * n ∧ 0 ≤ n ∧ n ≤ 1048575 ∨ nuB n = false ∧ reV n = 0 ∧ n < 0 ∨ nuB n = false ∧ reV n = 0 ∧ 0 ≤ n ∧ 1048575 < n := by
    cases h : nuB n
    · have := nuB_no.1 h; simp [reV, h]; omega
    · have := nuB_iff.1 h; simp [reV, h]; omega
  rcases F with ⟨h, e, b1, b2⟩ | ⟨h, e, b1⟩ | ⟨h, e, b1, b2⟩
  all_goals
    rw [h, e]; clear h e
    go_enter Tryd.func11, Tryd.ntmps11
    go_wp2
    go_ret2; exact ⟨rfl, rfl⟩
theorem rn_any (v : Int) (w : World) : Calls Tryd.prog 17 #[.int .i64 v] w fun e w' => e = .returned (.tuple #[.int .i64 (nV v), .bool (nB v)]) ∧ w = w' := by
  have hm : v.tmod 2 = 0 ∧ v % 2 = 0 ∨ ¬ v.tmod 2 = 0 ∧ v % 2 = 1 := by
    have := Int.emod_two_eq v
    have e : v.tmod 2 = 0 ↔ v % 2 = 0 := by
      rw [← Int.dvd_iff_tmod_eq_zero, Int.dvd_iff_emod_eq_zero]
    rw [e]; omega
  have F : nB v = true ∧ nV v = (v - 1).tdiv 2 ∧ (v.tmod 2 == 0) = false ∧ -2147483647 ≤ v ∧ v ≤ 2147483647 ∨ nB v = false ∧ nV v = 0 ∧ (v.tmod 2 == 0) = true ∨
      nB v = false ∧ nV v = 0 ∧ (v.tmod 2 == 0) = false ∧ v < -2147483647 ∨ nB v = false ∧ nV v = 0 ∧ (v.tmod 2 == 0) = false ∧ -2147483647 ≤ v ∧ 2147483647 < v := by
    cases h : nB v
    · have h' : ¬ (v % 2 = 1 ∧ -2147483648 ≤ v ∧ v ≤ 2147483647) := fun e => by rw [← nB_iff, h] at e; cases e
      rcases hm with ⟨h1, h2⟩ | ⟨h1, h2⟩ <;> simp [h1, nV, h] <;> omega
    · have h' := nB_iff.1 h
      have e : (v - 1).tdiv 2 = v / 2 := by
        by_cases hv : 0 ≤ v - 1
        · rw [Int.tdiv_eq_ediv_of_nonneg hv]; omega
        · have : v - 1 = -(1 - v) := by omega
          rw [this, Int.neg_tdiv, Int.tdiv_eq_ediv_of_nonneg (by omega)]; omega
      rcases hm with ⟨h1, h2⟩ | ⟨h1, h2⟩ <;> simp [h1, nV, h, e] <;> omega
  clear hm
  rcases F with ⟨h, e, t, b1, b2⟩ | ⟨h, e, t⟩ | ⟨h, e, t, b1⟩ | ⟨h, e, t, b1, b2⟩
  all_goals
    rw [h, e]; clear h e
    go_enter Tryd.func17, Tryd.ntmps17
    go_wp2
    all_goals (go_ret2; exact ⟨rfl, rfl⟩)
theorem rat_any (v : Int) (w : World) : Calls Tryd.prog 19 #[.int .i64 v] w fun e w' => e = .returned (.tuple #[.int .i64 (atV v), .bool (atB v)]) ∧ w = w' := by
  have hm : v.tmod 2 = 0 ∧ v % 2 = 0 ∨ ¬ v.tmod 2 = 0 ∧ v % 2 = 1 := by
    have := Int.emod_two_eq v
    have e : v.tmod 2 = 0 ↔ v % 2 = 0 := by
      rw [← Int.dvd_iff_tmod_eq_zero, Int.dvd_iff_emod_eq_zero]
    rw [e]; omega
  have F : atB v = true ∧ atV v = v / 2 ∧ (v.tmod 2 != 0) = false ∧ v % 2 = 0 ∧ 0 ≤ v ∧ v ≤ 2097150 ∨ atB v = false ∧ atV v = 0 ∧ (v.tmod 2 != 0) = true ∧ v % 2 = 1 ∨
      atB v = false ∧ atV v = 0 ∧ (v.tmod 2 != 0) = false ∧ v < 0 ∨ atB v = false ∧ atV v = 0 ∧ (v.tmod 2 != 0) = false ∧ 0 ≤ v ∧ 2097150 < v := by
    cases h : atB v
    · have h' : ¬ (v % 2 = 0 ∧ 0 ≤ v ∧ v < 2097152) := fun e => by rw [← atB_iff, h] at e; cases e
      rcases hm with ⟨h1, h2⟩ | ⟨h1, h2⟩ <;> simp [h1, atV, h] <;> omega
    · have h' := atB_iff.1 h
      rcases hm with ⟨h1, h2⟩ | ⟨h1, h2⟩ <;> simp [h1, atV, h] <;> omega
  clear hm
  rcases F with ⟨h, e, t, b0, b1, b2⟩ | ⟨h, e, t, b0⟩ | ⟨h, e, t, b1⟩ | ⟨h, e, t, b1, b2⟩
  all_goals
    rw [h, e]; clear h e
    go_enter Tryd.func19, Tryd.ntmps19
    go_wp2
    all_goals (go_ret2; exact ⟨rfl, rfl⟩)
theorem rmay_any (v : Int) (w : World) : Calls Tryd.prog 13 #[.int .i64 v] w fun e w' => e = .returned (.bool (mayB v)) ∧ w = w' := by
  cases h1 : nB v
  all_goals
    go_enter Tryd.func13, Tryd.ntmps13
    go_wp2_with (first | (go_at_call 17; refine (rn_any _ _).mono ?_; rintro e w' ⟨rfl, rfl⟩) | (go_at_call 19; refine (rat_any _ _).mono ?_; rintro e w' ⟨rfl, rfl⟩))
    go_ret
    exact ⟨by simp [mayB, h1], rfl⟩
theorem rtext_any (v : Int) (w : World) : Calls Tryd.prog 15 #[.int .i64 v] w fun e w' => e = .returned (.string (textS v)) ∧ Below w.heap.size w w' := by
  cases h1 : nB v
  · cases h2 : atB v
    · have e : textS v = ⟨#[]⟩ := by simp [textS, textL, h1, h2]
      rw [e]; clear e
      go_enter Tryd.func15, Tryd.ntmps15
      go_wp2_with (first | (go_at_call 17; refine (rn_any _ _).mono ?_; rintro e w' ⟨rfl, rfl⟩) | (go_at_call 19; refine (rat_any _ _).mono ?_; rintro e w' ⟨rfl, rfl⟩))
      go_ret
      exact ⟨rfl, Below.refl _ _⟩
    · have hb := atB_iff.1 h2
      have b1 : 0 ≤ atV v := by simp [atV, h2]; omega
      have b2 : atV v ≤ 1048575 := by simp [atV, h2]; omega
      have e : textS v = ⟨#[64]⟩ ++ itoS (atV v) := by
        simp only [textS, textL, h1, h2, itoS, atV, if_true]
        apply ByteArray.ext
        simp
      rw [e]; clear e hb
      have hl : (itoS (atV v)).size ≤ 21 := by rw [ito_pos b1]; exact dec_len _ b1 (by omega)
      go_enter Tryd.func15, Tryd.ntmps15
      go_wp2_with (first | (go_at_call 17; refine (rn_any _ _).mono ?_; rintro e w' ⟨rfl, rfl⟩) | (go_at_call 19; refine (rat_any _ _).mono ?_; rintro e w' ⟨rfl, rfl⟩))
      refine (digits_any _ _ (by omega) (by omega)).mono ?_
      rintro e w1 ⟨rfl, hb1⟩
      go_wp2_with fail
      go_ret
      exact ⟨rfl, hb1⟩
  · have hb := nB_iff.1 h1
    have b1 : -1073741824 ≤ nV v := by simp [nV, h1]; omega
    have b2 : nV v ≤ 1073741823 := by simp [nV, h1]; omega
    have e : textS v = itoS (nV v) := by simp [textS, textL, h1, itoS, nV]
    rw [e]; clear e hb
    go_enter Tryd.func15, Tryd.ntmps15
    go_wp2_with (first | (go_at_call 17; refine (rn_any _ _).mono ?_; rintro e w' ⟨rfl, rfl⟩) | (go_at_call 19; refine (rat_any _ _).mono ?_; rintro e w' ⟨rfl, rfl⟩))
    refine (digits_any _ _ (by omega) (by omega)).mono ?_
    rintro e w1 ⟨rfl, hb1⟩
    go_wp2_with fail
    go_ret
    exact ⟨rfl, hb1⟩
theorem tells_any (v : Int) (w : World) (hT : TB w.heap.size w) : Calls Tryd.prog 3 #[.int .i64 v] w fun e w' => e = .returned (.bool true) ∧ Below w.heap.size w w' := by
  have HT := Lib.hid hT
  clear hT
  go_enter Tryd.func3, Tryd.ntmps3
  go_wp2_with (first
    | (go_at_call 8; refine (int_any _ _).mono ?_; rintro e w' ⟨rfl, rfl⟩)
    | (go_at_call 10; refine (ref_any _ _).mono ?_; rintro e w' ⟨rfl, rfl⟩)
    | (go_at_call 12; refine (may_any _ _).mono ?_; rintro e w' ⟨rfl, rfl⟩)
    | (go_at_call 9; refine (rint_any _ _).mono ?_; rintro e w' ⟨rfl, rfl⟩)
    | (go_at_call 11; refine (rref_any _ _).mono ?_; rintro e w' ⟨rfl, rfl⟩)
    | (go_at_call 13; refine (rmay_any _ _).mono ?_; rintro e w' ⟨rfl, rfl⟩))
  refine (textS_any _ w.heap.size _ HT.out).mono ?_
  rintro e w1 ⟨rfl, hb1⟩
  have hB1 := hb1.size
  go_wp2_with fail
  refine (rtext_any _ _).mono ?_
  rintro e w2 ⟨rfl, hb2⟩
  have hB2 := hb2.size
  go_wp2_with (first
    | (go_at_call 16; refine (n_any _ _).mono ?_; rintro e w' ⟨rfl, rfl⟩)
    | (go_at_call 18; refine (at_any _ _).mono ?_; rintro e w' ⟨rfl, rfl⟩)
    | (go_at_call 17; refine (rn_any _ _).mono ?_; rintro e w' ⟨rfl, rfl⟩)
    | (go_at_call 19; refine (rat_any _ _).mono ?_; rintro e w' ⟨rfl, rfl⟩))
  refine (fixed_any w.heap.size _ (HT.out.on (hb1.trans (hb2.mono hB1))) (by omega)).mono ?_
  rintro e w3 ⟨rfl, hb3⟩
  go_wp2_with fail
  go_ret
  exact ⟨by simp, (hb1.trans (hb2.mono hB1)).trans hb3⟩
end Go.Proofs.YtmapdimhgpdajaaDoor
