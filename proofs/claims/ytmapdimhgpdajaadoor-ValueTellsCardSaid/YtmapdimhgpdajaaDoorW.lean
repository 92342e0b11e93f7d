/- The contracts of package value's functions, and of the document's answers for them: each function, called with any numbers, returns what the plain definitions say, and leaves all that was in memory as it was. -/
import Derived.Test.YtmapdimhgpdajaaDoorP
import Derived.Test.YtmapdimhgpdajaaDoorS
import Derived.WalkKit
import Derived.BigQuiet
import Derived.Deep.QuietTactic
import Derived.Deep.RegionWith
import Derived.Deep.DeepFit
import Derived.Outline
import Derived.WalkLawsBesides
import Derived.Lib.AppendIntMem
namespace Go.Proofs.YtmapdimhgpdajaaDoor
open Go.RowKit
/-- the table of powers of ten, whatever is done from block B on -/
def TB (B : Nat) (w : World) : Prop := Lib.TabBelow Tryd.prog B w "internal/strconv.uint64pow10" .u64 Lib.pow10Tab
theorem TB.on {B : Nat} {w w1 : World} (h : TB B w) (hb : Below B w w1) : TB B w1 := Lib.TabBelow.on h hb
theorem below_grow (w : World) (k : Nat) (os : Array Obj) : Below w.heap.size w (Sort.grow (w.drewN k) os) := by
  refine ⟨rfl, rfl, rfl, by simp [Sort.grow], fun i hi => ?_⟩
  show (w.heap ++ os)[i]? = _
  rw [Array.getElem?_append_left hi]
theorem small_any (v : Int) (w : World) : Calls Tryd.prog 21 #[.int .i64 v] w fun e w' => e = .returned (.bool (smB v)) ∧ w = w' := by
  by_cases h1 : -1073741824 ≤ v
  · have e : smB v = decide (v ≤ 1073741823) := by simp [smB, h1]
    rw [e]; clear e
    go_enter Tryd.func21, Tryd.ntmps21
    go_wp2
    go_ret; exact ⟨rfl, rfl⟩
  · have e : smB v = false := by simp [smB, h1]
    rw [e]; clear e
    have h1' : v < -1073741824 := by omega
    go_enter Tryd.func21, Tryd.ntmps21
    go_wp2
    go_ret; exact ⟨rfl, rfl⟩
theorem number_any (v : Int) (w : World) : Calls Tryd.prog 22 #[.int .i64 v] w fun e w' => e = .returned (.bool (nuB v)) ∧ w = w' := by
  by_cases h1 : 0 ≤ v
  · have e : nuB v = decide (v < 1048576) := by simp [nuB, h1]
    rw [e]; clear e
    go_enter Tryd.func22, Tryd.ntmps22
    go_wp2
    go_ret; exact ⟨rfl, rfl⟩
  · have e : nuB v = false := by simp [nuB, h1]
    rw [e]; clear e
    have h1' : v < 0 := by omega
    go_enter Tryd.func22, Tryd.ntmps22
    go_wp2
    go_ret; exact ⟨rfl, rfl⟩
theorem odd_any (v : Int) (w : World) : Calls Tryd.prog 25 #[.int .i64 v] w fun e w' => e = .returned (.bool (odB v)) ∧ w = w' := by
  have e : odB v = (bits .and .i64 v 1 == 1) := by rw [and1]; simp [odB]; rfl
  rw [e]; clear e
  go_enter Tryd.func25, Tryd.ntmps25
  go_wp2
  go_ret
  exact ⟨rfl, rfl⟩
theorem int_any (n : Int) (w : World) : Calls Tryd.prog 8 #[.int .i64 n] w fun e w' => e = .returned (.tuple #[.int .i64 (inV n), .bool (smB n)]) ∧ w = w' := by
  cases h : smB n
  · go_enter Tryd.func8, Tryd.ntmps8
    go_wp2_with (go_at_call 21; refine (small_any _ _).mono ?_; rintro e w' ⟨rfl, rfl⟩)
    go_ret2; exact ⟨by simp [inV, h], rfl⟩
  · have hb := smB_iff.1 h
    have e : inV n = bits .or .i64 (n * 2) 1 := by rw [or1 _ (by omega) (by omega) (by omega)]; simp [inV, h]; omega
    rw [e]; clear e
    have h1 := hb.1
    have h2 := hb.2
    clear hb
    go_enter Tryd.func8, Tryd.ntmps8
    go_wp2_with (go_at_call 21; refine (small_any _ _).mono ?_; rintro e w' ⟨rfl, rfl⟩)
    go_ret2; exact ⟨rfl, rfl⟩
theorem ref_any (n : Int) (w : World) : Calls Tryd.prog 10 #[.int .i64 n] w fun e w' => e = .returned (.tuple #[.int .i64 (reV n), .bool (nuB n)]) ∧ w = w' := by
  cases h : nuB n
  · go_enter Tryd.func10, Tryd.ntmps10
    go_wp2_with (go_at_call 22; refine (number_any _ _).mono ?_; rintro e w' ⟨rfl, rfl⟩)
    go_ret2; exact ⟨by simp [reV, h], rfl⟩
  · have hb := nuB_iff.1 h
    have e : reV n = n * 2 := by simp [reV, h]; omega
    rw [e]; clear e
    have h1 := hb.1
    have h2 := hb.2
    clear hb
    go_enter Tryd.func10, Tryd.ntmps10
    go_wp2_with (go_at_call 22; refine (number_any _ _).mono ?_; rintro e w' ⟨rfl, rfl⟩)
    go_ret2; exact ⟨rfl, rfl⟩
theorem n_any (v : Int) (w : World) : Calls Tryd.prog 16 #[.int .i64 v] w fun e w' => e = .returned (.tuple #[.int .i64 (nV v), .bool (nB v)]) ∧ w = w' := by
  cases h1 : odB v <;> cases h2 : smB (v / 2)
  all_goals
    go_enter Tryd.func16, Tryd.ntmps16
    go_wp2_with (first | (go_at_call 21; refine (small_any _ _).mono ?_; rintro e w' ⟨rfl, rfl⟩) | (go_at_call 25; refine (odd_any _ _).mono ?_; rintro e w' ⟨rfl, rfl⟩))
    go_ret2
    exact ⟨by simp [nV, nB, h1, h2], rfl⟩
theorem at_any (v : Int) (w : World) : Calls Tryd.prog 18 #[.int .i64 v] w fun e w' => e = .returned (.tuple #[.int .i64 (atV v), .bool (atB v)]) ∧ w = w' := by
  cases h1 : odB v <;> cases h2 : nuB (v / 2)
  all_goals
    go_enter Tryd.func18, Tryd.ntmps18
    go_wp2_with (first | (go_at_call 22; refine (number_any _ _).mono ?_; rintro e w' ⟨rfl, rfl⟩) | (go_at_call 25; refine (odd_any _ _).mono ?_; rintro e w' ⟨rfl, rfl⟩))
    go_ret2
    exact ⟨by simp [atV, atB, h1, h2], rfl⟩
theorem may_any (v : Int) (w : World) : Calls Tryd.prog 12 #[.int .i64 v] w fun e w' => e = .returned (.bool (mayB v)) ∧ w = w' := by
  cases h1 : nB v
  all_goals
    go_enter Tryd.func12, Tryd.ntmps12
    go_wp2_with (first | (go_at_call 16; refine (n_any _ _).mono ?_; rintro e w' ⟨rfl, rfl⟩) | (go_at_call 18; refine (at_any _ _).mono ?_; rintro e w' ⟨rfl, rfl⟩))
    go_ret
    exact ⟨by simp [mayB, h1], rfl⟩
theorem itoa_any (n : Int) (h0 : -9223372036854775808 ≤ n) (h1 : n ≤ 9223372036854775807) (B : Nat) (w : World) (hT : TB B w) :
    Calls Tryd.prog 23 #[.int .i64 n] w fun e w' => e = .returned (.string ⟨(Lib.itoa n).toArray⟩) ∧ Below w.heap.size w w' :=
  (Tryd.strconv_Itoa n h0 h1 w (Lib.TabBelow.here hT)).mono fun _ _ ⟨he, k, os, hw⟩ => ⟨he, by subst hw; exact below_grow w k os⟩
theorem text_any (v : Int) (B : Nat) (w : World) (hT : TB B w) : Calls Tryd.prog 14 #[.int .i64 v] w fun e w' => e = .returned (.string ⟨(textL v).toArray⟩) ∧ Below w.heap.size w w' := by
  cases h1 : nB v
  · cases h2 : atB v
    · go_enter Tryd.func14, Tryd.ntmps14
      go_wp2_with (first | (go_at_call 16; refine (n_any _ _).mono ?_; rintro e w' ⟨rfl, rfl⟩) | (go_at_call 18; refine (at_any _ _).mono ?_; rintro e w' ⟨rfl, rfl⟩))
      go_ret
      exact ⟨by simp [textL, h1, h2], Below.refl _ _⟩
    · have hb := atB_iff.1 h2
      have hl := Lib.itoa_length_le (atV v) (by simp [atV, h2]; omega) (by simp [atV, h2]; omega)
      have H1 := Lib.hid h1
      have H2 := Lib.hid h2
      clear hb
      go_enter Tryd.func14, Tryd.ntmps14
      go_wp2_with (first | (go_at_call 16; refine (n_any _ _).mono ?_; rintro e w' ⟨rfl, rfl⟩) | (go_at_call 18; refine (at_any _ _).mono ?_; rintro e w' ⟨rfl, rfl⟩))
      refine (itoa_any _ (by simp [atV, H2.out]; have := atB_iff.1 H2.out; omega) (by simp [atV, H2.out]; have := atB_iff.1 H2.out; omega) B _ hT).mono ?_
      rintro e w' ⟨rfl, hb⟩
      go_wp2
      go_ret
      exact ⟨by simp [textL, H1.out, H2.out, atV]; rfl, hb⟩
  · have H1 := Lib.hid h1
    go_enter Tryd.func14, Tryd.ntmps14
    go_wp2_with (first | (go_at_call 16; refine (n_any _ _).mono ?_; rintro e w' ⟨rfl, rfl⟩) | (go_at_call 18; refine (at_any _ _).mono ?_; rintro e w' ⟨rfl, rfl⟩))
    refine (itoa_any _ (by simp [nV, H1.out]; have := nB_iff.1 H1.out; omega) (by simp [nV, H1.out]; have := nB_iff.1 H1.out; omega) B _ hT).mono ?_
    rintro e w' ⟨rfl, hb⟩
    go_wp2
    go_ret
    exact ⟨by simp [textL, nV, H1.out], hb⟩
theorem fixed_any (B : Nat) (w : World) (hT : TB B w) (hB : B ≤ w.heap.size) : Calls Tryd.prog 20 #[] w fun e w' => e = .returned (.bool true) ∧ Below B w w' := by
  have e1 : inV (-1) = -1 := by decide
  have e2 : smB (-1) = true := by decide
  have e3 : inV 3 = 7 := by decide
  have e4 : smB 3 = true := by decide
  have e5 : reV 3 = 6 := by decide
  have e6 : nuB 3 = true := by decide
  have e7 : nV (-1) = -1 := by decide
  have e8 : nB (-1) = true := by decide
  have e9 : atV 6 = 3 := by decide
  have e10 : atB 6 = true := by decide
  have e11 : smB 1073741824 = false := by decide
  have e12 : nuB (-1) = false := by decide
  have e13 : textL 7 = [51] := by simp [textL, show nB 7 = true from by decide, Lib.itoa, Lib.decDigits]
  have e14 : textL (-1) = [45, 49] := by simp [textL, e8, Lib.itoa, Lib.decDigits]
  have e15 : textL 6 = [64, 51] := by simp [textL, show nB 6 = false from by decide, e10, Lib.itoa, Lib.decDigits]
  have e16 : textL (-2) = [] := by simp [textL, show nB (-2) = false from by decide, show atB (-2) = false from by decide]
  have e17 : mayB 6 = true := by decide
  have e18 : mayB (-2) = false := by decide
  go_enter Tryd.func20, Tryd.ntmps20
  go_wp2_with (first
    | (go_at_call 8; refine (int_any _ _).mono ?_; rintro e w' ⟨rfl, rfl⟩)
    | (go_at_call 10; refine (ref_any _ _).mono ?_; rintro e w' ⟨rfl, rfl⟩)
    | (go_at_call 16; refine (n_any _ _).mono ?_; rintro e w' ⟨rfl, rfl⟩)
    | (go_at_call 18; refine (at_any _ _).mono ?_; rintro e w' ⟨rfl, rfl⟩))
  refine (text_any _ B _ hT).mono ?_
  rintro e w1 ⟨rfl, hb1⟩
  have hT1 := hT.on (hb1.mono hB)
  have hB1 := hb1.size
  go_wp2_with fail
  refine (text_any _ B _ hT1).mono ?_
  rintro e w2 ⟨rfl, hb2⟩
  have hT2 := hT1.on (hb2.mono (by omega))
  have hB2 := hb2.size
  go_wp2_with fail
  refine (text_any _ B _ hT2).mono ?_
  rintro e w3 ⟨rfl, hb3⟩
  have hT3 := hT2.on (hb3.mono (by omega))
  have hB3 := hb3.size
  go_wp2_with fail
  refine (text_any _ B _ hT3).mono ?_
  rintro e w4 ⟨rfl, hb4⟩
  go_wp2_with (go_at_call 12; refine (may_any _ _).mono ?_; rintro e w' ⟨rfl, rfl⟩)
  go_ret
  exact ⟨rfl, (((hb1.mono hB).trans (hb2.mono (by omega))).trans (hb3.mono (by omega))).trans (hb4.mono (by omega))⟩
end Go.Proofs.YtmapdimhgpdajaaDoor
