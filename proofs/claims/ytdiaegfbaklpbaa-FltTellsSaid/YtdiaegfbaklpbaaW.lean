/-
  The contracts of package flt's small functions: the kind, the one NaN, the float of bits and back, the operations, the order: each, called with any numbers, returns what the plain definitions say, and leaves all that was in memory as it was.
-/
import Derived.Test.YtdiaegfbaklpbaaR
import Derived.Test.YtdiaegfbaklpbaaRows
import Derived.WalkKit
import Derived.BigQuiet
import Derived.Deep.QuietTactic
import Derived.Deep.RegionWith
import Derived.Deep.DeepFit
import Derived.Outline
import Derived.WalkSpells
import Derived.WalkLawsBesides
namespace Go.Proofs.Ytdiaegfbaklpbaa
open Go.RowKit Flt

theorem hid {p : Prop} (h : p) : Go.RowKit.Hid p := h

theorem and_mask (a : Int) (k : Nat) (hk : k ≤ 63) (m : Int) (hm : m = (2 ^ k - 1 : Nat)) : bits .and .i64 a m = a % (2 ^ k : Nat) := by
  have h2 : 2 ^ k ≤ 2 ^ 63 := Nat.pow_le_pow_right (by omega) hk
  have hp := pow_pos2 k
  have h1 : (BitVec.ofInt 64 m).toNat = 2 ^ k - 1 := by
    rw [hm, BitVec.toNat_ofInt]
    have : ((2 ^ 64 : Nat) : Int) = 18446744073709551616 := by decide
    rw [this]
    generalize 2 ^ k = p at *
    omega
  have key : (BitVec.ofInt 64 a &&& BitVec.ofInt 64 m).toNat = (a % ((2 ^ 64 : Nat) : Int)).toNat % 2 ^ k := by
    rw [BitVec.toNat_and, BitVec.toNat_ofInt, h1, Nat.and_two_pow_sub_one_eq_mod]
  show IntKind.i64.wrap ((BitVec.ofInt 64 a &&& BitVec.ofInt 64 m).toNat : Nat) = _
  rw [key, IntKind.wrap_i64]
  have hd : ((a % ((2 ^ 64 : Nat) : Int)).toNat % 2 ^ k : Nat) = (a % (2 ^ k : Nat)).toNat := by
    have e : (2 ^ 64 : Nat) = 2 ^ k * 2 ^ (64 - k) := by rw [← Nat.pow_add]; congr 1; omega
    have h3 : 0 ≤ a % ((2 ^ 64 : Nat) : Int) := Int.emod_nonneg _ (by decide)
    have h4 : 0 ≤ a % ((2 ^ k : Nat) : Int) := Int.emod_nonneg _ (by omega)
    apply Int.ofNat.inj
    show (((a % ((2 ^ 64 : Nat) : Int)).toNat % 2 ^ k : Nat) : Int) = ((a % (2 ^ k : Nat)).toNat : Int)
    rw [Int.natCast_emod, Int.toNat_of_nonneg h3, Int.toNat_of_nonneg h4, Int.emod_emod_of_dvd]
    rw [e, Int.natCast_mul]
    exact Int.dvd_mul_right ..
  rw [hd]
  have h4 : 0 ≤ a % ((2 ^ k : Nat) : Int) := Int.emod_nonneg _ (by omega)
  have h5 : a % ((2 ^ k : Nat) : Int) < (2 ^ k : Nat) := Int.emod_lt_of_pos _ (by omega)
  rw [Int.toNat_of_nonneg h4]
  have h6 : ((2 ^ k : Nat) : Int) ≤ 9223372036854775808 := by
    have : (2 : Nat) ^ 63 = 9223372036854775808 := by decide
    rw [this] at h2
    generalize 2 ^ k = p at *
    omega
  generalize a % ((2 ^ k : Nat) : Int) = x at *
  generalize ((2 ^ k : Nat) : Int) = y at *
  omega

theorem and11 (a : Int) : bits .and .i64 a 2047 = a % 2048 := and_mask a 11 (by omega) 2047 (by decide)
theorem and52 (a : Int) : bits .and .i64 a 4503599627370495 = a % 4503599627370496 := and_mask a 52 (by omega) _ (by decide)
theorem and63 (a : Int) : bits .and .i64 a 9223372036854775807 = a % 9223372036854775808 := and_mask a 63 (by omega) _ (by decide)
theorem and15 (a : Int) : bits .and .i64 a 15 = a % 16 := and_mask a 4 (by omega) _ (by decide)

set_option maxHeartbeats 400000 in
theorem kind_any (a : Int) (w : World) : Calls Try.prog 16 #[.int .i64 a] w fun e w' => e = .returned (.int .i64 (kd a)) ∧ w = w' := by
  have e1 := and11 (a / 4503599627370496)
  have e2 := and52 a
  go_enter Try.func16, Try.ntmps16
  go_wp2
  all_goals go_ret
  all_goals
    refine ⟨?_, rfl⟩
    refine congrArg (fun x => Ending.returned (Value.int .i64 x)) ?_
    simp only [bne_iff_ne, ne_eq, bne_eq_false_iff_eq, beq_eq_false_iff_ne] at *
    have hi : infR = 9218868437227405312 := rfl
    have hr : (rg a : Int) = a % 9223372036854775808 := by unfold rg; omega
    unfold kd
    repeat' split
    all_goals omega

theorem kd_zero (a : Int) : kd a = 0 ↔ infR < rg a := by
  unfold kd
  repeat' split
  all_goals simp_all

set_option maxHeartbeats 400000 in
theorem canon_any (a : Int) (w : World) : Calls Try.prog 18 #[.int .i64 a] w fun e w' => e = .returned (.int .i64 (canon a)) ∧ w = w' := by
  by_cases h : infR < rg a
  · have e1 : kd a = 0 := (kd_zero a).2 h
    have e2 : canon a = 9221120237041090561 := by unfold canon; rw [if_pos h]; rfl
    rw [e2]; clear e2
    go_enter Try.func18, Try.ntmps18
    go_wp2_with (go_at_call 16; refine (kind_any _ _).mono ?_; rintro e w' ⟨rfl, rfl⟩)
    go_ret; exact ⟨rfl, rfl⟩
  · have e1 : (kd a == 0) = false := by rw [beq_eq_false_iff_ne]; exact fun g => h ((kd_zero a).1 g)
    have e2 : canon a = a := by unfold canon; rw [if_neg h]
    rw [e2]; clear e2
    go_enter Try.func18, Try.ntmps18
    go_wp2_with (go_at_call 16; refine (kind_any _ _).mono ?_; rintro e w' ⟨rfl, rfl⟩)
    all_goals go_ret
    all_goals first | exact ⟨rfl, rfl⟩ | skip

theorem run_frombits (n : Int) (w : World) : Sem.run Try.prog (callFunc 40 #[Value.int IntKind.u64 n]) w = .ok (.value (.float .f64 n.toNat)) w := by
  rw [run_callFunc_extern (P := Try.prog) (f := 40) (e := Extern.MathFloatBits.float64frombits) Try.func40 (by kernel_rfl) (by kernel_rfl) (by kernel_rfl) (by kernel_rfl)]
  rfl
theorem run_bits (r : Nat) (w : World) : Sem.run Try.prog (callFunc 41 #[Value.float .f64 r]) w = .ok (.value (.int .u64 r)) w := by
  rw [run_callFunc_extern (P := Try.prog) (f := 41) (e := Extern.MathFloatBits.float64bits) Try.func41 (by kernel_rfl) (by kernel_rfl) (by kernel_rfl) (by kernel_rfl)]
  rfl

set_option maxHeartbeats 400000 in
theorem floatOf_any (a : Int) (w : World) : Calls Try.prog 29 #[.int .i64 a] w fun e w' => e = .returned (.float .f64 (wd a)) ∧ w = w' := by
  have e : wd a = (IntKind.u64.wrap a).toNat := by unfold wd; rw [IntKind.wrap_u64]
  go_enter Try.func29, Try.ntmps29
  go_wp2
  rw [run_frombits]
  go_wp2
  go_ret; exact ⟨by rw [e]; rfl, rfl⟩

set_option maxHeartbeats 400000 in
theorem bitsOf_any (r : Nat) (w : World) (hr : r < 18446744073709551616) : Calls Try.prog 30 #[.float .f64 r] w fun e w' => e = .returned (.int .i64 (canon (s64 r))) ∧ w = w' := by
  have e : IntKind.i64.wrap (r : Int) = s64 r := by unfold s64; rw [IntKind.wrap_i64]; split <;> omega
  go_enter Try.func30, Try.ntmps30
  go_wp2
  rw [run_bits]
  go_wp2_with (go_at_call 18; refine (canon_any _ _).mono ?_; rintro e w' ⟨rfl, rfl⟩)
  go_ret; exact ⟨by first | rw [e] | rfl, rfl⟩

/-- An operation on floats: the bits that IEEE 754 fixes, or a NaN of some bits; but for the count of draws nothing turns. -/
theorem run_fbin (op : BinOp) (o : Option Nat) (x y : Nat) (ho : floatBits op .f64 x y = o) (hop : op = .add ∨ op = .sub ∨ op = .mul ∨ op = .quo) (hn : ∀ r, o = some r → rg (s64 r) ≤ infR) (w : World) :
    ∃ v w', (binOp op 32 (.float .f64 x) (.float .f64 y)).run Try.prog w = .ok (.float .f64 v) w' ∧ v < 18446744073709551616 ∧ canon (s64 v) = bitsOr o ∧ (w' = w ∨ w' = w.drew) := by
  cases o with
  | some r =>
    refine ⟨r, w, run_float_arith w op 32 .f64 x y r ho, ?_, ?_, .inl rfl⟩
    · have := floatBits_wf ho
      simpa [Lit.wf] using this
    · unfold canon
      rw [if_neg (by have := hn r rfl; omega)]
      rfl
  | none =>
    refine ⟨(Question.nanBits .f64 x y).cut (w.tape w.drawn (Question.nanBits .f64 x y)), w.drew, ?_, ?_, ?_, .inr rfl⟩
    · unfold floatBits at ho
      rcases hop with rfl | rfl | rfl | rfl
      all_goals
        simp only at ho
        simp [binOp, Op.floatArith, ho, choose, Sem.run, Question.forced]
    · simp only [Question.cut]; omega
    · simp only [Question.cut]
      generalize w.tape w.drawn (Question.nanBits .f64 x y) = t
      have : infR < rg (s64 (t % 2 * 2 ^ 63 + 9218868437227405312 + 1 + t / 2 % (2 ^ 52 - 1))) := by
        have hi : infR = 9218868437227405312 := rfl
        have hr : t / 2 % (2 ^ 52 - 1) < 2 ^ 52 - 1 := Nat.mod_lt _ (by decide)
        generalize t / 2 % (2 ^ 52 - 1) = r at *
        unfold rg s64
        rcases Nat.mod_two_eq_zero_or_one t with h | h
        · rw [h]; split <;> omega
        · rw [h]; split <;> omega
      unfold canon
      rw [if_pos this]
      rfl

theorem rg_inf_le (n : Bool) : rg (sg n infR) ≤ infR := by rw [rg_sg n (by decide)]; exact Nat.le_refl _
theorem rg_near (n : Bool) (m : Nat) (p : Int) : rg (s64 (Ieee.double.nearest n m p)) ≤ infR := by
  have h : ∃ K : Nat, 0 ≤ p + K ∧ 1074 ≤ K := ⟨p.natAbs + 1074, by omega, by omega⟩
  obtain ⟨K, h1, h2⟩ := h
  rw [nearest_s64 n m p K h1 h2]
  unfold rnd
  rw [rg_sg _ (min_lt _)]
  omega
theorem rg_write (d : Ieee.Datum) (h : d.isNaN = false) : rg (s64 (Ieee.double.write d)) ≤ infR := by
  cases d with
  | number n m p => exact rg_near n m p
  | infinity n => rw [write_inf]; exact rg_inf_le n
  | nan n t => cases h
theorem sum_nn (d e f : Ieee.Datum) (h : d.sum e = some f) : f.isNaN = false := by
  cases d <;> cases e <;> simp only [Ieee.Datum.sum] at h
  all_goals first
    | (cases h; rfl)
    | (split at h
       · cases h; rfl
       · cases h)
    | cases h
theorem product_nn (d e f : Ieee.Datum) (h : d.product e = some f) : f.isNaN = false := by
  cases d <;> cases e <;> simp only [Ieee.Datum.product] at h
  all_goals first
    | (cases h; rfl)
    | (split at h
       · cases h
       · cases h; rfl)
    | cases h
theorem quotient_nn (k : Nat) (d e f : Ieee.Datum) (h : d.quotient k e = some f) : f.isNaN = false := by
  cases d <;> cases e <;> simp only [Ieee.Datum.quotient] at h
  all_goals first
    | (cases h; rfl)
    | (split at h
       · split at h
         · cases h
         · cases h; rfl
       · cases h; rfl)
    | cases h
theorem map_nn (o : Option Ieee.Datum) (h : ∀ f, o = some f → f.isNaN = false) (r : Nat) (hr : o.map Ieee.double.write = some r) : rg (s64 r) ≤ infR := by
  cases o with
  | none => cases hr
  | some d => cases hr; exact rg_write d (h d rfl)
theorem run_fadd (a b : Int) (w : World) : ∃ v w', (binOp .add 32 (.float .f64 (wd a)) (.float .f64 (wd b))).run Try.prog w = .ok (.float .f64 v) w' ∧ v < 18446744073709551616 ∧ canon (s64 v) = fAdd a b ∧ (w' = w ∨ w' = w.drew) :=
  run_fbin .add _ _ _ rfl (.inl rfl) (fun r h => map_nn _ (fun _ => sum_nn _ _ _) r h) w
theorem run_fsub (a b : Int) (w : World) : ∃ v w', (binOp .sub 32 (.float .f64 (wd a)) (.float .f64 (wd b))).run Try.prog w = .ok (.float .f64 v) w' ∧ v < 18446744073709551616 ∧ canon (s64 v) = fSub a b ∧ (w' = w ∨ w' = w.drew) :=
  run_fbin .sub _ _ _ rfl (.inr (.inl rfl)) (fun r h => map_nn _ (fun _ => sum_nn _ _ _) r h) w
theorem run_fmul (a b : Int) (w : World) : ∃ v w', (binOp .mul 32 (.float .f64 (wd a)) (.float .f64 (wd b))).run Try.prog w = .ok (.float .f64 v) w' ∧ v < 18446744073709551616 ∧ canon (s64 v) = fMul a b ∧ (w' = w ∨ w' = w.drew) :=
  run_fbin .mul _ _ _ rfl (.inr (.inr (.inl rfl))) (fun r h => map_nn _ (fun _ => product_nn _ _ _) r h) w
theorem run_fdiv (a b : Int) (w : World) : ∃ v w', (binOp .quo 32 (.float .f64 (wd a)) (.float .f64 (wd b))).run Try.prog w = .ok (.float .f64 v) w' ∧ v < 18446744073709551616 ∧ canon (s64 v) = fDiv a b ∧ (w' = w ∨ w' = w.drew) :=
  run_fbin .quo _ _ _ rfl (.inr (.inr (.inr rfl))) (fun r h => map_nn _ (fun _ => quotient_nn _ _ _ _) r h) w

/-- What package flt's Op answers. -/
def fOp (do_ a b : Int) : Int := if do_ = 0 then fAdd a b else if do_ = 1 then fSub a b else if do_ = 2 then fMul a b else if do_ = 3 then fDiv a b else theNaN

theorem below_or {w w' : World} (h : w' = w ∨ w' = w.drew) : Below w.heap.size w w' := by
  rcases h with rfl | rfl
  · exact Below.refl _ _
  · exact Below.drew (Below.refl _ _)

set_option maxHeartbeats 1000000 in
theorem op_any (do_ a b : Int) (w : World) : Calls Try.prog 12 #[.int .i64 do_, .int .i64 a, .int .i64 b] w fun e w' => e = .returned (.int .i64 (fOp do_ a b)) ∧ Below w.heap.size w w' := by
  by_cases h0 : do_ = 0
  · have e : fOp do_ a b = fAdd a b := by unfold fOp; rw [if_pos h0]
    rw [e]; clear e
    subst h0
    obtain ⟨v, w1, h1, h2, h3, h4⟩ := run_fadd a b w
    have H2 := hid h2
    have H3 := hid h3
    have H4 := hid h4
    clear h2 h3 h4
    go_enter Try.func12, Try.ntmps12
    go_wp2_with (first | (go_at_call 29; refine (floatOf_any _ _).mono ?_; rintro e w' ⟨rfl, rfl⟩) | (go_at_call 30; refine (bitsOf_any _ _ H2.out).mono ?_; rintro e w' ⟨rfl, rfl⟩))
    go_ret; exact ⟨by rw [← H3.out]; rfl, below_or H4.out⟩
  by_cases h1 : do_ = 1
  · have e : fOp do_ a b = fSub a b := by unfold fOp; rw [if_neg h0, if_pos h1]
    rw [e]; clear e
    subst h1
    obtain ⟨v, w1, h1, h2, h3, h4⟩ := run_fsub a b w
    have H2 := hid h2
    have H3 := hid h3
    have H4 := hid h4
    clear h2 h3 h4 h0
    go_enter Try.func12, Try.ntmps12
    go_wp2_with (first | (go_at_call 29; refine (floatOf_any _ _).mono ?_; rintro e w' ⟨rfl, rfl⟩) | (go_at_call 30; refine (bitsOf_any _ _ H2.out).mono ?_; rintro e w' ⟨rfl, rfl⟩))
    go_ret; exact ⟨by rw [← H3.out]; rfl, below_or H4.out⟩
  by_cases h2 : do_ = 2
  · have e : fOp do_ a b = fMul a b := by unfold fOp; rw [if_neg h0, if_neg h1, if_pos h2]
    rw [e]; clear e
    subst h2
    obtain ⟨v, w1, h1, h2, h3, h4⟩ := run_fmul a b w
    have H2 := hid h2
    have H3 := hid h3
    have H4 := hid h4
    clear h2 h3 h4 h0
    go_enter Try.func12, Try.ntmps12
    go_wp2_with (first | (go_at_call 29; refine (floatOf_any _ _).mono ?_; rintro e w' ⟨rfl, rfl⟩) | (go_at_call 30; refine (bitsOf_any _ _ H2.out).mono ?_; rintro e w' ⟨rfl, rfl⟩))
    go_ret; exact ⟨by rw [← H3.out]; rfl, below_or H4.out⟩
  by_cases h3 : do_ = 3
  · have e : fOp do_ a b = fDiv a b := by unfold fOp; rw [if_neg h0, if_neg h1, if_neg h2, if_pos h3]
    rw [e]; clear e
    subst h3
    obtain ⟨v, w1, h1, h2, h3, h4⟩ := run_fdiv a b w
    have H2 := hid h2
    have H3 := hid h3
    have H4 := hid h4
    clear h2 h3 h4 h0
    go_enter Try.func12, Try.ntmps12
    go_wp2_with (first | (go_at_call 29; refine (floatOf_any _ _).mono ?_; rintro e w' ⟨rfl, rfl⟩) | (go_at_call 30; refine (bitsOf_any _ _ H2.out).mono ?_; rintro e w' ⟨rfl, rfl⟩))
    go_ret; exact ⟨by rw [← H3.out]; rfl, below_or H4.out⟩
  · have e : fOp do_ a b = 9221120237041090561 := by unfold fOp; rw [if_neg h0, if_neg h1, if_neg h2, if_neg h3]; rfl
    rw [e]; clear e
    have g0 : (do_ == 0) = false := by rw [beq_eq_false_iff_ne]; exact h0
    have g1 : (do_ == 1) = false := by rw [beq_eq_false_iff_ne]; exact h1
    have g2 : (do_ == 2) = false := by rw [beq_eq_false_iff_ne]; exact h2
    have g3 : (do_ == 3) = false := by rw [beq_eq_false_iff_ne]; exact h3
    clear h0 h1 h2 h3
    go_enter Try.func12, Try.ntmps12
    go_wp2_with (go_at_call 29; refine (floatOf_any _ _).mono ?_; rintro e w' ⟨rfl, rfl⟩)
    go_ret; exact ⟨rfl, Below.refl _ _⟩

set_option maxHeartbeats 400000 in
theorem of_any (n : Int) (w : World) : Calls Try.prog 22 #[.int .i64 n] w fun e w' => e = .returned (.int .i64 (fOf n)) ∧ w = w' := by
  by_cases h : n < -9007199254740992 ∨ 9007199254740992 < n
  · have e : fOf n = 9221120237041090561 := by unfold fOf; rw [if_pos h]; rfl
    rw [e]; clear e
    rcases h with h | h
    · go_enter Try.func22, Try.ntmps22
      go_wp2
      go_ret; exact ⟨rfl, rfl⟩
    · have h' : ¬ n < -9007199254740992 := by omega
      go_enter Try.func22, Try.ntmps22
      go_wp2
      go_ret; exact ⟨rfl, rfl⟩
  · have h1 : ¬ n < -9007199254740992 := by omega
    have h2 : ¬ 9007199254740992 < n := by omega
    have e : fOf n = canon (s64 (floatOfInt .f64 n)) := by
      unfold fOf canon; rw [if_neg h, if_neg]
      have := rg_near (decide (n < 0)) n.natAbs 0
      intro g
      exact absurd g (Nat.not_lt.2 this)
    have hw : floatOfInt .f64 n < 18446744073709551616 := by
      have := floatOfInt_wf .f64 n
      simpa [Lit.wf] using this
    have H := hid hw
    rw [e]; clear e h hw
    go_enter Try.func22, Try.ntmps22
    go_wp2_with (go_at_call 30; refine (bitsOf_any _ _ H.out).mono ?_; rintro e w' ⟨rfl, rfl⟩)
    go_ret; exact ⟨rfl, rfl⟩

set_option maxHeartbeats 400000 in
theorem less_any (a b : Int) (w : World) : Calls Try.prog 24 #[.int .i64 a, .int .i64 b] w fun e w' => e = .returned (.bool (fLess a b)) ∧ w = w' := by
  go_enter Try.func24, Try.ntmps24
  go_wp2_with (go_at_call 29; refine (floatOf_any _ _).mono ?_; rintro e w' ⟨rfl, rfl⟩)
  go_ret; exact ⟨rfl, rfl⟩
set_option maxHeartbeats 400000 in
theorem equal_any (a b : Int) (w : World) : Calls Try.prog 26 #[.int .i64 a, .int .i64 b] w fun e w' => e = .returned (.bool (fEqual a b)) ∧ w = w' := by
  go_enter Try.func26, Try.ntmps26
  go_wp2_with (go_at_call 29; refine (floatOf_any _ _).mono ?_; rintro e w' ⟨rfl, rfl⟩)
  go_ret; exact ⟨rfl, rfl⟩

end Go.Proofs.Ytdiaegfbaklpbaa
