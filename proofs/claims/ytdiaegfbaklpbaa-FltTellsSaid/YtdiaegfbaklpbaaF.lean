/-
  The calls whose answers the document fixes: all are as it says.
-/
import Derived.Test.YtdiaegfbaklpbaaX
namespace Go.Proofs.Ytdiaegfbaklpbaa
open Go.RowKit Flt

theorem v_of1 : fOf 1 = 4607182418800017408 := by decide +kernel
theorem v_of2 : fOf 2 = 4611686018427387904 := by decide +kernel
theorem v_of7 : fOf (-7) = -4603804719079489536 := by decide +kernel
theorem v_ofbig : fOf 9007199254740993 = 9221120237041090561 := by decide +kernel
theorem v_q : fOp 3 (-4603804719079489536) 4611686018427387904 = -4608308318706860032 := by decide +kernel
theorem v_tr : fTr (-4608308318706860032) = -3 := by decide +kernel
theorem v_tb : tb (-4608308318706860032) = true := by decide +kernel
theorem v_tbi : tb 9218868437227405312 = false := by decide +kernel
theorem v_a : fOp 0 4607182418800017408 4607182418800017408 = 4611686018427387904 := by decide +kernel
theorem v_b : fOp 1 4607182418800017408 4607182418800017408 = 0 := by decide +kernel
theorem v_c : fOp 3 4607182418800017408 (-9223372036854775808) = -4503599627370496 := by decide +kernel
theorem v_d : fOp 3 0 0 = 9221120237041090561 := by decide +kernel
theorem v_e : fOp 2 9218868437227405312 (-9223372036854775808) = 9221120237041090561 := by decide +kernel
theorem v_f : fOp 0 (-9223372036854775808) (-9223372036854775808) = -9223372036854775808 := by decide +kernel
theorem v_g : fOp 0 (-9223372036854775808) 0 = 0 := by decide +kernel
theorem v_h : fEqual (-9223372036854775808) 0 = true := by decide +kernel
theorem v_i : fLess (-9223372036854775808) 0 = false := by decide +kernel
theorem v_j : fEqual 9221120237041090561 9221120237041090561 = false := by decide +kernel
theorem v_k : fLess 4607182418800017408 4611686018427387904 = true := by decide +kernel
theorem v_l : kd 1 = 3 := by decide +kernel
theorem v_m : kd 9221120237041090561 = 0 := by decide +kernel
theorem v_n : canon 9218868437227405317 = 9221120237041090561 := by decide +kernel
theorem v_o : textS 4607182418800017408 = { data := #[51, 102, 102, 48, 48, 48, 48, 48, 48, 48, 48, 48, 48, 48, 48, 48] } := by decide +kernel

set_option maxRecDepth 100000 in
set_option maxHeartbeats 4000000 in
theorem fixed_any {B : Nat} {w0 w : World} (h : On B w0 w) : Calls Try.prog 11 #[] w fun e w' => e = .returned (.bool true) ∧ On B w0 w' := by
  have e1 := v_of1
  have e2 := v_of2
  have e3 := v_of7
  have e4 := v_ofbig
  have e5 := v_q
  have e6 := v_tr
  have e7 := v_tb
  have e8 := v_tbi
  have e9 := v_a
  have e10 := v_b
  have e11 := v_c
  have e12 := v_d
  have e13 := v_e
  have e14 := v_f
  have e15 := v_g
  have e16 := v_h
  have e17 := v_i
  have e18 := v_j
  have e19 := v_k
  have e20 := v_l
  have e21 := v_m
  have e22 := v_n
  have e23 := v_o
  go_enter Try.func11, Try.ntmps11
  go_wp2_with (first
    | (go_at_call 22; refine (of_any _ _).mono ?_; rintro e w' ⟨rfl, rfl⟩)
    | (go_at_call 12; refine (op_on (by assumption) _ _ _).mono ?_; rintro e w' ⟨rfl, _⟩)
    | (go_at_call 14; refine (trunc_any _ (by unfold In64; omega) _).mono ?_; rintro e w' ⟨rfl, rfl⟩)
    | (go_at_call 28; refine (rnan_any _).mono ?_; rintro e w' ⟨rfl, rfl⟩)
    | (go_at_call 26; refine (equal_any _ _ _).mono ?_; rintro e w' ⟨rfl, rfl⟩)
    | (go_at_call 24; refine (less_any _ _ _).mono ?_; rintro e w' ⟨rfl, rfl⟩)
    | (go_at_call 16; refine (kind_any _ _).mono ?_; rintro e w' ⟨rfl, rfl⟩)
    | (go_at_call 18; refine (canon_any _ _).mono ?_; rintro e w' ⟨rfl, rfl⟩)
    | (go_at_call 20; refine (text_on (by assumption) _).mono ?_; rintro e w' ⟨rfl, _⟩))
  go_ret; exact ⟨rfl, by assumption⟩
end Go.Proofs.Ytdiaegfbaklpbaa
