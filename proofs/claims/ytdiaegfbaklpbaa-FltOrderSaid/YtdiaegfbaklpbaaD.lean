/- The contract of the document's whole number towards 0. -/
import Derived.Test.YtdiaegfbaklpbaaC
import Derived.Test.YtdiaegfbaklpbaaE
namespace Go.Proofs.Ytdiaegfbaklpbaa
open Go.RowKit Flt

theorem tm_small {a : Int} (ha : In64 a) (h : rg a < 4503599627370496) : tm a = 0 := by
  obtain ⟨K, hK⟩ := exK
  have hi : infR = 9218868437227405312 := rfl
  rw [(toInt_fin ha (by omega)).2 K (by omega)]
  rw [Nat.div_eq_of_lt]
  unfold val
  have p52 := pow2_52
  rw [if_pos (by omega)]
  obtain ⟨x, hx⟩ : ∃ x : Nat, x = 1074 := ⟨1074, rfl⟩
  have eK : K = x + (K - 1074) := by omega
  have e : 2 ^ K = 2 ^ x * 2 ^ (K - 1074) := (congrArg (fun y => 2 ^ y) eK).trans (Nat.pow_add 2 x (K - 1074))
  rw [e]
  refine Nat.mul_lt_mul_of_pos_right ?_ (pow_pos2 _)
  have : (2 : Nat) ^ 52 ≤ 2 ^ x := Nat.pow_le_pow_right (by omega) (by omega)
  exact Nat.lt_of_lt_of_le (by omega) this

theorem tm_part {a : Int} (ha : In64 a) (hf : rg a < infR) (h0 : rg a ≠ 0) : (0 < pe (rg a) → 9007199254740992 ≤ tm a) ∧ (pe (rg a) ≤ 0 → tm a = pm (rg a) / 2 ^ (-pe (rg a)).toNat) := by
  obtain ⟨K, hK⟩ := exK
  have hv := pm_val (K := K) (r := rg a) (by omega) (by omega)
  have hr := pm_range (r := rg a) (by omega)
  have hp := pe_range hf
  rw [(toInt_fin ha hf).2 K (by omega), ← hv]
  constructor
  · intro g
    rw [Nat.le_div_iff_mul_le (pow_pos2 K)]
    have e : 2 ^ (K + 1) ≤ 2 ^ (pe (rg a) + K).toNat := Nat.pow_le_pow_right (by omega) (by omega)
    have h1 : 2 ^ 52 * 2 ^ (K + 1) ≤ pm (rg a) * 2 ^ (pe (rg a) + K).toNat := Nat.mul_le_mul hr.1 e
    have h2 : 2 ^ 52 * 2 ^ (K + 1) = 9007199254740992 * 2 ^ K := by
      rw [Nat.pow_succ 2 K, Nat.mul_comm (2 ^ K) 2, ← Nat.mul_assoc]
    rw [h2] at h1
    exact h1
  · intro g
    have e : 2 ^ K = 2 ^ (-pe (rg a)).toNat * 2 ^ (pe (rg a) + K).toNat := by rw [← Nat.pow_add]; congr 1; omega
    rw [e, Nat.mul_div_mul_right _ _ (pow_pos2 _)]

theorem kd_sub (a : Int) (h : kd a = 2 ∨ kd a = 3) : rg a < 4503599627370496 := by
  unfold kd at h
  have hi : infR = 9218868437227405312 := rfl
  by_cases c1 : infR < rg a
  · rw [if_pos c1] at h; omega
  rw [if_neg c1] at h
  by_cases c2 : rg a = infR
  · rw [if_pos c2] at h; omega
  rw [if_neg c2] at h
  by_cases c3 : rg a = 0
  · omega
  rw [if_neg c3] at h
  by_cases c4 : rg a < 4503599627370496
  · exact c4
  · rw [if_neg c4] at h; omega

set_option maxRecDepth 10000 in
set_option maxHeartbeats 2000000 in
theorem rtrunc_any {a : Int} (ha : In64 a) (w : World) : Calls Try.prog 15 #[.int .i64 a] w fun e w' => e = .returned (.tuple #[.int .i64 (fTr a), .bool (tb a)]) ∧ w = w' := by
  have hi : infR = 9218868437227405312 := rfl
  rcases kd_range a with k | k | k | k | k
  · have t : tb a = false := by
      have := (kd_zero a).1 k
      unfold tb
      have : ¬ rg a < infR := by omega
      simp [this]
    have e : fTr a = 0 := by unfold fTr; rw [t]; rfl
    rw [e, t]
    clear e t hi ha
    go_enter Try.func15, Try.ntmps15
    go_wp2_with (first
        | (go_at_call 17; refine (rkind_any _ _).mono ?_; rintro e w' ⟨rfl, rfl⟩)
        | (go_at_call 33; refine (rsign_any _ _).mono ?_; rintro e w' ⟨rfl, rfl⟩))
    go_ret2; exact ⟨rfl, rfl⟩
  · have t : tb a = false := by
      have := (kd_one a).1 k
      unfold tb
      have : ¬ rg a < infR := by omega
      simp [this]
    have e : fTr a = 0 := by unfold fTr; rw [t]; rfl
    rw [e, t]
    clear e t hi ha
    go_enter Try.func15, Try.ntmps15
    go_wp2_with (first
        | (go_at_call 17; refine (rkind_any _ _).mono ?_; rintro e w' ⟨rfl, rfl⟩)
        | (go_at_call 33; refine (rsign_any _ _).mono ?_; rintro e w' ⟨rfl, rfl⟩))
    go_ret2; exact ⟨rfl, rfl⟩
  · have hs := kd_sub a (.inl k)
    have hm := tm_small ha hs
    have v : tv a = 0 := by unfold tv; rw [hm]; cases ngv a <;> rfl
    have t : tb a = true := by
      unfold tb; rw [v]
      have : rg a < infR := by omega
      simp [this]
    have e : fTr a = 0 := by unfold fTr; rw [t, v]; rfl
    rw [e, t]
    clear e t hi ha hs hm v
    go_enter Try.func15, Try.ntmps15
    go_wp2_with (first
        | (go_at_call 17; refine (rkind_any _ _).mono ?_; rintro e w' ⟨rfl, rfl⟩)
        | (go_at_call 33; refine (rsign_any _ _).mono ?_; rintro e w' ⟨rfl, rfl⟩))
    go_ret2; exact ⟨rfl, rfl⟩
  · have hs := kd_sub a (.inr k)
    have hm := tm_small ha hs
    have v : tv a = 0 := by unfold tv; rw [hm]; cases ngv a <;> rfl
    have t : tb a = true := by
      unfold tb; rw [v]
      have : rg a < infR := by omega
      simp [this]
    have e : fTr a = 0 := by unfold fTr; rw [t, v]; rfl
    rw [e, t]
    clear e t hi ha hs hm v
    go_enter Try.func15, Try.ntmps15
    go_wp2_with (first
        | (go_at_call 17; refine (rkind_any _ _).mono ?_; rintro e w' ⟨rfl, rfl⟩)
        | (go_at_call 33; refine (rsign_any _ _).mono ?_; rintro e w' ⟨rfl, rfl⟩))
    go_ret2; exact ⟨rfl, rfl⟩
  · have hf := kd_fin a (by omega)
    have h0 := kd_more a (by omega)
    obtain ⟨t1, t2⟩ := tm_part ha hf h0
    have hr := pm_range (r := rg a) (by omega)
    have hp := pe_range hf
    have H0 := hid h0
    have ht : tb a = (decide (-1073741824 ≤ tv a) && decide (tv a < 1073741824)) := by
      unfold tb; simp [hf]
    by_cases c1 : 0 < pe (rg a)
    · have hm := t1 c1
      have t : tb a = false := by
        rw [ht, Bool.eq_false_iff]
        intro g
        simp only [Bool.and_eq_true, decide_eq_true_eq] at g
        unfold tv at g
        cases hn : ngv a
        · rw [hn] at g; simp only [Bool.false_eq_true, if_false] at g; omega
        · rw [hn] at g; simp only [if_true] at g; omega
      have e : fTr a = 0 := by unfold fTr; rw [t]; rfl
      rw [e, t]
      clear e t hi ha hm ht hr hp t1 t2 hf h0
      go_enter Try.func15, Try.ntmps15
      go_wp2_with (first
        | (go_at_call 17; refine (rkind_any _ _).mono ?_; rintro e w' ⟨rfl, rfl⟩)
        | (go_at_call 33; refine (rsign_any _ _).mono ?_; rintro e w' ⟨rfl, rfl⟩)
        | (go_at_call 37; refine (part_any _ H0.out _).mono ?_; rintro e w' ⟨rfl, rfl⟩))
      go_ret2; exact ⟨rfl, rfl⟩
    by_cases c2 : pe (rg a) < -62
    · have hm : tm a = 0 := by
        rw [t2 (by omega), Nat.div_eq_of_lt]
        have : (2 : Nat) ^ 53 ≤ 2 ^ (-pe (rg a)).toNat := Nat.pow_le_pow_right (by omega) (by omega)
        omega
      have v : tv a = 0 := by unfold tv; rw [hm]; cases ngv a <;> rfl
      have t : tb a = true := by rw [ht, v]; decide
      have e : fTr a = 0 := by unfold fTr; rw [t, v]; rfl
      rw [e, t]
      clear e t hi ha hm ht hr hp t1 t2 hf h0 v
      cases hn : ngv a
      · go_enter Try.func15, Try.ntmps15
        go_wp2_with (first
        | (go_at_call 17; refine (rkind_any _ _).mono ?_; rintro e w' ⟨rfl, rfl⟩)
        | (go_at_call 33; refine (rsign_any _ _).mono ?_; rintro e w' ⟨rfl, rfl⟩)
        | (go_at_call 37; refine (part_any _ H0.out _).mono ?_; rintro e w' ⟨rfl, rfl⟩))
        go_ret2; exact ⟨rfl, rfl⟩
      · go_enter Try.func15, Try.ntmps15
        go_wp2_with (first
        | (go_at_call 17; refine (rkind_any _ _).mono ?_; rintro e w' ⟨rfl, rfl⟩)
        | (go_at_call 33; refine (rsign_any _ _).mono ?_; rintro e w' ⟨rfl, rfl⟩)
        | (go_at_call 37; refine (part_any _ H0.out _).mono ?_; rintro e w' ⟨rfl, rfl⟩))
        go_ret2; exact ⟨rfl, rfl⟩
    obtain ⟨s, hs⟩ : ∃ s : Nat, pe (rg a) = -(s : Int) := ⟨(-pe (rg a)).toNat, by omega⟩
    have hsb : (s : Int) ≤ 62 := by omega
    have hm := t2 (by omega)
    have hs' : (-pe (rg a)).toNat = s := by omega
    rw [hs'] at hm
    have hd : (pm (rg a) : Int) / 2 ^ s = (tm a : Int) := by
      rw [hm, cast_pow2]; simp
    have hb : (tm a : Int) < 9007199254740992 := by
      have : tm a ≤ pm (rg a) := by rw [hm]; exact Nat.div_le_self _ _
      have p53 : (2 : Nat) ^ 53 = 9007199254740992 := by decide
      omega
    have hb0 : 0 ≤ (tm a : Int) := by omega
    have hft : fTr a = if tb a then tv a else 0 := rfl
    unfold tv at ht hft
    generalize hz : (tm a : Int) = z at *
    cases hn : ngv a
    · rw [hn] at ht hft
      simp only [Bool.false_eq_true, if_false] at ht hft
      by_cases r1 : z < 1073741824
      · have t : tb a = true := by rw [ht]; simp; omega
        have e : fTr a = z := by rw [hft, t]; rfl
        have r0 : ¬ z < -1073741824 := by omega
        have r2 : ¬ 1073741824 ≤ z := by omega
        rw [e, t]
        clear e t hi ha hm ht hr hp t1 t2 hf h0 hft hs' c1 c2 r1
        go_enter Try.func15, Try.ntmps15
        go_wp2_with (first
        | (go_at_call 17; refine (rkind_any _ _).mono ?_; rintro e w' ⟨rfl, rfl⟩)
        | (go_at_call 33; refine (rsign_any _ _).mono ?_; rintro e w' ⟨rfl, rfl⟩)
        | (go_at_call 37; refine (part_any _ H0.out _).mono ?_; rintro e w' ⟨rfl, rfl⟩))
        go_ret2; exact ⟨rfl, rfl⟩
      · have t : tb a = false := by rw [ht]; simp; omega
        have e : fTr a = 0 := by rw [hft, t]; rfl
        have r0 : ¬ z < -1073741824 := by omega
        have r2 : 1073741824 ≤ z := by omega
        rw [e, t]
        clear e t hi ha hm ht hr hp t1 t2 hf h0 hft hs' c1 c2 r1
        go_enter Try.func15, Try.ntmps15
        go_wp2_with (first
        | (go_at_call 17; refine (rkind_any _ _).mono ?_; rintro e w' ⟨rfl, rfl⟩)
        | (go_at_call 33; refine (rsign_any _ _).mono ?_; rintro e w' ⟨rfl, rfl⟩)
        | (go_at_call 37; refine (part_any _ H0.out _).mono ?_; rintro e w' ⟨rfl, rfl⟩))
        go_ret2; exact ⟨rfl, rfl⟩
    · rw [hn] at ht hft
      simp only [if_true] at ht hft
      by_cases r1 : z ≤ 1073741824
      · have t : tb a = true := by rw [ht]; simp; omega
        have e : fTr a = -z := by rw [hft, t]; rfl
        have r0 : ¬ -z < -1073741824 := by omega
        have r2 : ¬ 1073741824 ≤ -z := by omega
        rw [e, t]
        clear e t hi ha hm ht hr hp t1 t2 hf h0 hft hs' c1 c2 r1
        go_enter Try.func15, Try.ntmps15
        go_wp2_with (first
        | (go_at_call 17; refine (rkind_any _ _).mono ?_; rintro e w' ⟨rfl, rfl⟩)
        | (go_at_call 33; refine (rsign_any _ _).mono ?_; rintro e w' ⟨rfl, rfl⟩)
        | (go_at_call 37; refine (part_any _ H0.out _).mono ?_; rintro e w' ⟨rfl, rfl⟩))
        go_ret2; exact ⟨rfl, rfl⟩
      · have t : tb a = false := by rw [ht]; simp; omega
        have e : fTr a = 0 := by rw [hft, t]; rfl
        have r0 : -z < -1073741824 := by omega
        rw [e, t]
        clear e t hi ha hm ht hr hp t1 t2 hf h0 hft hs' c1 c2 r1
        go_enter Try.func15, Try.ntmps15
        go_wp2_with (first
        | (go_at_call 17; refine (rkind_any _ _).mono ?_; rintro e w' ⟨rfl, rfl⟩)
        | (go_at_call 33; refine (rsign_any _ _).mono ?_; rintro e w' ⟨rfl, rfl⟩)
        | (go_at_call 37; refine (part_any _ H0.out _).mono ?_; rintro e w' ⟨rfl, rfl⟩))
        go_ret2; exact ⟨rfl, rfl⟩

end Go.Proofs.Ytdiaegfbaklpbaa
