/- Values by a table: the program's and the document's walks. -/
import Derived.Test.YtelljlmjhnjpiaaVA
namespace Go.Proofs.Ytelljlmjhnjpiaa
open Go.RowKit
set_option maxRecDepth 100000
set_option maxHeartbeats 1000000 in
theorem value_any (t : List Int) (v : Int) (A : Option Addr) (c : Nat) (w : World) (hs : IntsR w A t) (hl : t.length ≤ 9223372036854775807) :
    Calls Try.prog 41 #[.slice A t.length c, .int .i64 v] w fun e w' => e = .returned (.tuple #[.int .i64 (vaV t v), .bool (vaB t v)]) ∧ w' = w := by
  have HS := hid hs
  clear hs
  cases hn : nB v
  · cases ha : atB v
    · have e1 : vaV t v = 0 := by unfold vaV; rw [hn, ha]; rfl
      have e2 : vaB t v = false := by unfold vaB; rw [hn, ha]; rfl
      rw [e1, e2]; clear e1 e2
      go_enter Try.func41, Try.ntmps41
      go_wp2_with fail
      refine (n_any _ _).mono ?_
      rintro e w1 ⟨rfl, rfl⟩
      rw [hn]
      go_wp2_with fail
      refine (at_any _ _).mono ?_
      rintro e w1 ⟨rfl, rfl⟩
      rw [ha]
      go_wp2_with fail
      go_ret2
      exact ⟨rfl, rfl⟩
    · have hv := atV_lt ha
      obtain ⟨i, hi⟩ : ∃ i : Nat, atV v = i := ⟨(atV v).toNat, by omega⟩
      by_cases hlt : i < t.length
      · have hd : decide (atV v < t.length) = true := by rw [hi]; simpa using hlt
        have hd0 : t.getD i 0 = t[i] := by rw [List.getD_eq_getElem?_getD, List.getElem?_eq_getElem hlt]; rfl
        have e1 : vaV t v = reV t[i] := by
          unfold vaV; rw [hn, ha, hd, hi, Int.toNat_natCast, hd0]; rfl
        have e2 : vaB t v = nuB t[i] := by unfold vaB; rw [hn, ha, hd, hi, Int.toNat_natCast, hd0]; rfl
        rw [e1, e2]; clear e1 e2 hd hd0
        obtain ⟨b, o, rfl, hb, hc⟩ := HS.out (by omega)
        have hcell := hc i _ (List.getElem?_eq_getElem hlt)
        clear hc
        go_enter Try.func41, Try.ntmps41
        go_wp2_with fail
        refine (n_any _ _).mono ?_
        rintro e w1 ⟨rfl, rfl⟩
        rw [hn]
        go_wp2_with fail
        refine (at_any _ _).mono ?_
        rintro e w1 ⟨rfl, rfl⟩
        rw [ha, hi]
        go_wp2_with fail
        refine (ref_any _ _).mono ?_
        rintro e w1 ⟨rfl, rfl⟩
        go_wp2_with fail
        go_ret2
        exact ⟨rfl, rfl⟩
      · have hd : decide (atV v < t.length) = false := by rw [hi]; simpa using hlt
        have e1 : vaV t v = 0 := by unfold vaV; rw [hn, ha, hd]; rfl
        have e2 : vaB t v = false := by unfold vaB; rw [hn, ha, hd]; rfl
        rw [e1, e2]; clear e1 e2 hd
        go_enter Try.func41, Try.ntmps41
        go_wp2_with fail
        refine (n_any _ _).mono ?_
        rintro e w1 ⟨rfl, rfl⟩
        rw [hn]
        go_wp2_with fail
        refine (at_any _ _).mono ?_
        rintro e w1 ⟨rfl, rfl⟩
        rw [ha, hi]
        go_wp2_with fail
        go_ret2
        exact ⟨rfl, rfl⟩
  · have e1 : vaV t v = v := (va_small hn).1
    have e2 : vaB t v = true := (va_small hn).2
    rw [e1, e2]; clear e1 e2
    go_enter Try.func41, Try.ntmps41
    go_wp2_with fail
    refine (n_any _ _).mono ?_
    rintro e w1 ⟨rfl, rfl⟩
    rw [hn]
    go_wp2_with fail
    go_ret2
    exact ⟨rfl, rfl⟩
theorem rref1_any (n : Int) (w : World) : Calls Try.prog 77 #[.int .i64 n] w fun e w' => e = .returned (.tuple #[.int .i64 (reV n), .bool (nuB n)]) ∧ w = w' := by
  have F : nuB n = true ∧ reV n = 2 * n ∧ 0 ≤ n ∧ n < 1048576 ∨ nuB n = false ∧ reV n = 0 ∧ n < 0 ∨ nuB n = false ∧ reV n = 0 ∧ 0 ≤ n ∧ 1048576 ≤ n := by
    cases h : nuB n
    · have := nuB_no.1 h; simp [reV, h]; omega
    · have hb := nuB_iff.1 h
      exact .inl ⟨rfl, by unfold reV; rw [if_pos h], hb.1, hb.2⟩
  rcases F with ⟨h, e, b1, b2⟩ | ⟨h, e, b1⟩ | ⟨h, e, b1, b2⟩
  all_goals
    rw [h, e]; clear h e
    go_enter Try.func77, Try.ntmps77
    go_wp2
    all_goals (go_ret2; exact ⟨rfl, rfl⟩)
set_option maxHeartbeats 1000000 in
theorem rvalue_any (t : List Int) (v : Int) (A : Option Addr) (c : Nat) (w : World) (hs : IntsR w A t) (hl : t.length ≤ 9223372036854775807) :
    Calls Try.prog 42 #[.slice A t.length c, .int .i64 v] w fun e w' => e = .returned (.tuple #[.int .i64 (vaV t v), .bool (vaB t v)]) ∧ w' = w := by
  have HS := hid hs
  clear hs
  cases hn : nB v
  · cases ha : atB v
    · have e1 : vaV t v = 0 := by unfold vaV; rw [hn, ha]; rfl
      have e2 : vaB t v = false := by unfold vaB; rw [hn, ha]; rfl
      rw [e1, e2]; clear e1 e2
      go_enter Try.func42, Try.ntmps42
      go_wp2_with fail
      refine (rn_any _ _).mono ?_
      rintro e w1 ⟨rfl, rfl⟩
      rw [hn]
      go_wp2_with fail
      refine (rat_any _ _).mono ?_
      rintro e w1 ⟨rfl, rfl⟩
      rw [ha]
      go_wp2_with fail
      go_ret2
      exact ⟨rfl, rfl⟩
    · have hv := atV_lt ha
      obtain ⟨i, hi⟩ : ∃ i : Nat, atV v = i := ⟨(atV v).toNat, by omega⟩
      by_cases hlt : i < t.length
      · have hd : decide (atV v < t.length) = true := by rw [hi]; simpa using hlt
        have hd0 : t.getD i 0 = t[i] := by rw [List.getD_eq_getElem?_getD, List.getElem?_eq_getElem hlt]; rfl
        have e1 : vaV t v = reV t[i] := by
          unfold vaV; rw [hn, ha, hd, hi, Int.toNat_natCast, hd0]; rfl
        have e2 : vaB t v = nuB t[i] := by unfold vaB; rw [hn, ha, hd, hi, Int.toNat_natCast, hd0]; rfl
        rw [e1, e2]; clear e1 e2 hd hd0
        obtain ⟨b, o, rfl, hb, hc⟩ := HS.out (by omega)
        have hcell := hc i _ (List.getElem?_eq_getElem hlt)
        clear hc
        go_enter Try.func42, Try.ntmps42
        go_wp2_with fail
        refine (rn_any _ _).mono ?_
        rintro e w1 ⟨rfl, rfl⟩
        rw [hn]
        go_wp2_with fail
        refine (rat_any _ _).mono ?_
        rintro e w1 ⟨rfl, rfl⟩
        rw [ha, hi]
        go_wp2_with fail
        refine (rref1_any _ _).mono ?_
        rintro e w1 ⟨rfl, rfl⟩
        go_wp2_with fail
        go_ret2
        exact ⟨rfl, rfl⟩
      · have hd : decide (atV v < t.length) = false := by rw [hi]; simpa using hlt
        have e1 : vaV t v = 0 := by unfold vaV; rw [hn, ha, hd]; rfl
        have e2 : vaB t v = false := by unfold vaB; rw [hn, ha, hd]; rfl
        rw [e1, e2]; clear e1 e2 hd
        go_enter Try.func42, Try.ntmps42
        go_wp2_with fail
        refine (rn_any _ _).mono ?_
        rintro e w1 ⟨rfl, rfl⟩
        rw [hn]
        go_wp2_with fail
        refine (rat_any _ _).mono ?_
        rintro e w1 ⟨rfl, rfl⟩
        rw [ha, hi]
        go_wp2_with fail
        go_ret2
        exact ⟨rfl, rfl⟩
  · have e1 : vaV t v = v := (va_small hn).1
    have e2 : vaB t v = true := (va_small hn).2
    rw [e1, e2]; clear e1 e2
    go_enter Try.func42, Try.ntmps42
    go_wp2_with fail
    refine (rn_any _ _).mono ?_
    rintro e w1 ⟨rfl, rfl⟩
    rw [hn]
    go_wp2_with fail
    go_ret2
    exact ⟨rfl, rfl⟩
end Go.Proofs.Ytelljlmjhnjpiaa
