/- The contract of the document's sum of two that are finite, and not zero. -/
import Derived.Test.YtdiaegfbaklpbaaC
namespace Go.Proofs.Ytdiaegfbaklpbaa
open Go.RowKit Flt

theorem part_at {a m e : Int} (h : Hid (rg a ≠ 0 ∧ (pm (rg a) : Int) = m ∧ pe (rg a) = e)) (w : World) : Calls Try.prog 37 #[.int .i64 a] w fun x w' => x = .returned (.tuple #[.int .i64 m, .int .i64 e]) ∧ w = w' := by
  obtain ⟨h0, hm, he⟩ := h
  subst hm he; exact part_any a h0 w

set_option maxRecDepth 10000 in
set_option maxHeartbeats 1000000 in
theorem add_bs {a b mA mB eA eB dz : Int} (HA : Hid (rg a ≠ 0 ∧ (pm (rg a) : Int) = mA ∧ pe (rg a) = eA)) (HB : Hid (rg b ≠ 0 ∧ (pm (rg b) : Int) = mB ∧ pe (rg b) = eB)) (hord : ¬ ((rg a : Int) < rg b))
    (a1 : 4503599627370496 ≤ mA) (a2 : mA < 9007199254740992) (b1 : 4503599627370496 ≤ mB) (b2 : mB < 9007199254740992) (e1 : -1126 ≤ eA) (e2 : eA ≤ 971) (e3 : -1126 ≤ eB) (e4 : eB ≤ 971) (hd : eA - eB = dz) (d0 : 0 ≤ dz)
    (hbig : 62 < dz) (hs : (ngv a == ngv b) = true) {Q : Nat} (HZ : Hid (mA * 256 = (Q : Int) ∧ 0 < Q ∧ Q < 4611686018427387904)) (w : World) :
    Calls Try.prog 42 #[.int .i64 a, .int .i64 b] w fun e w' => e = .returned (.int .i64 (sg (ngv a) (rdN Q (eA - 8) true))) ∧ w = w' := by
  go_enter Try.func42, Try.ntmps42
  go_wp2_with (first
    | (go_at_call 34; refine (rplain_any _ _).mono ?_; rintro e w' ⟨rfl, rfl⟩)
    | (go_at_call 33; refine (rsign_any _ _).mono ?_; rintro e w' ⟨rfl, rfl⟩)
    | (go_at_call 37; refine (part_at (by first | exact HA | exact HB) _).mono ?_; rintro e w' ⟨rfl, rfl⟩)
    | (go_at_call 38; refine (round_at Q HZ.out.1 _ _ HZ.out.2.1 HZ.out.2.2 (by omega) (by omega) _).mono ?_; rintro e w' ⟨rfl, rfl⟩)
    | (go_at_call 32; refine (rwith_any _ _ (rdN_lt _ _ _) _).mono ?_; rintro e w' ⟨rfl, rfl⟩))
  go_ret; exact ⟨rfl, rfl⟩

set_option maxRecDepth 10000 in
set_option maxHeartbeats 1000000 in
theorem add_bd {a b mA mB eA eB dz : Int} (HA : Hid (rg a ≠ 0 ∧ (pm (rg a) : Int) = mA ∧ pe (rg a) = eA)) (HB : Hid (rg b ≠ 0 ∧ (pm (rg b) : Int) = mB ∧ pe (rg b) = eB)) (hord : ¬ ((rg a : Int) < rg b))
    (a1 : 4503599627370496 ≤ mA) (a2 : mA < 9007199254740992) (b1 : 4503599627370496 ≤ mB) (b2 : mB < 9007199254740992) (e1 : -1126 ≤ eA) (e2 : eA ≤ 971) (e3 : -1126 ≤ eB) (e4 : eB ≤ 971) (hd : eA - eB = dz) (d0 : 0 ≤ dz)
    (hbig : 62 < dz) (hs : (ngv a == ngv b) = false) {Q : Nat} (HZ : Hid (mA * 256 - 1 = (Q : Int) ∧ 0 < Q ∧ Q < 4611686018427387904)) (w : World) :
    Calls Try.prog 42 #[.int .i64 a, .int .i64 b] w fun e w' => e = .returned (.int .i64 (sg (ngv a) (rdN Q (eA - 8) true))) ∧ w = w' := by
  have nz : (mA * 256 - 1 == 0) = false := by rw [beq_eq_false_iff_ne]; omega
  go_enter Try.func42, Try.ntmps42
  go_wp2_with (first
    | (go_at_call 34; refine (rplain_any _ _).mono ?_; rintro e w' ⟨rfl, rfl⟩)
    | (go_at_call 33; refine (rsign_any _ _).mono ?_; rintro e w' ⟨rfl, rfl⟩)
    | (go_at_call 37; refine (part_at (by first | exact HA | exact HB) _).mono ?_; rintro e w' ⟨rfl, rfl⟩)
    | (go_at_call 38; refine (round_at Q HZ.out.1 _ _ HZ.out.2.1 HZ.out.2.2 (by omega) (by omega) _).mono ?_; rintro e w' ⟨rfl, rfl⟩)
    | (go_at_call 32; refine (rwith_any _ _ (rdN_lt _ _ _) _).mono ?_; rintro e w' ⟨rfl, rfl⟩))
  go_ret; exact ⟨rfl, rfl⟩

set_option maxRecDepth 10000 in
set_option maxHeartbeats 1000000 in
theorem add_ss0 {a b mA mB eA eB dz : Int} (HA : Hid (rg a ≠ 0 ∧ (pm (rg a) : Int) = mA ∧ pe (rg a) = eA)) (HB : Hid (rg b ≠ 0 ∧ (pm (rg b) : Int) = mB ∧ pe (rg b) = eB)) (hord : ¬ ((rg a : Int) < rg b))
    (a1 : 4503599627370496 ≤ mA) (a2 : mA < 9007199254740992) (b1 : 4503599627370496 ≤ mB) (b2 : mB < 9007199254740992) (e1 : -1126 ≤ eA) (e2 : eA ≤ 971) (e3 : -1126 ≤ eB) (e4 : eB ≤ 971) (hd : eA - eB = dz) (d0 : 0 ≤ dz)
    {P x r : Int} (hd62 : dz ≤ 62) (hP : (2 : Int) ^ dz.toNat = P) (P1 : 1 ≤ P) (P2 : P ≤ 4611686018427387904) (htm : Int.tmod (mB * 256) P = r) (hdv : mB * 256 / P = x) (x0 : 0 ≤ x) (x1 : x < 2305843009213693952) (hr : r = 0) (hs : (ngv a == ngv b) = true) {Q : Nat} (HZ : Hid (mA * 256 + x = (Q : Int) ∧ 0 < Q ∧ Q < 4611686018427387904)) (w : World) :
    Calls Try.prog 42 #[.int .i64 a, .int .i64 b] w fun e w' => e = .returned (.int .i64 (sg (ngv a) (rdN Q (eA - 8) false))) ∧ w = w' := by
  subst hr
  have P3 : P ≠ 0 := by omega
  go_enter Try.func42, Try.ntmps42
  go_wp2_with (first
    | (go_at_call 34; refine (rplain_any _ _).mono ?_; rintro e w' ⟨rfl, rfl⟩)
    | (go_at_call 33; refine (rsign_any _ _).mono ?_; rintro e w' ⟨rfl, rfl⟩)
    | (go_at_call 37; refine (part_at (by first | exact HA | exact HB) _).mono ?_; rintro e w' ⟨rfl, rfl⟩)
    | (go_at_call 38; refine (round_at Q HZ.out.1 _ _ HZ.out.2.1 HZ.out.2.2 (by omega) (by omega) _).mono ?_; rintro e w' ⟨rfl, rfl⟩)
    | (go_at_call 32; refine (rwith_any _ _ (rdN_lt _ _ _) _).mono ?_; rintro e w' ⟨rfl, rfl⟩))
  go_ret; exact ⟨rfl, rfl⟩

set_option maxRecDepth 10000 in
set_option maxHeartbeats 1000000 in
theorem add_ss1 {a b mA mB eA eB dz : Int} (HA : Hid (rg a ≠ 0 ∧ (pm (rg a) : Int) = mA ∧ pe (rg a) = eA)) (HB : Hid (rg b ≠ 0 ∧ (pm (rg b) : Int) = mB ∧ pe (rg b) = eB)) (hord : ¬ ((rg a : Int) < rg b))
    (a1 : 4503599627370496 ≤ mA) (a2 : mA < 9007199254740992) (b1 : 4503599627370496 ≤ mB) (b2 : mB < 9007199254740992) (e1 : -1126 ≤ eA) (e2 : eA ≤ 971) (e3 : -1126 ≤ eB) (e4 : eB ≤ 971) (hd : eA - eB = dz) (d0 : 0 ≤ dz)
    {P x r : Int} (hd62 : dz ≤ 62) (hP : (2 : Int) ^ dz.toNat = P) (P1 : 1 ≤ P) (P2 : P ≤ 4611686018427387904) (htm : Int.tmod (mB * 256) P = r) (hdv : mB * 256 / P = x) (x0 : 0 ≤ x) (x1 : x < 2305843009213693952) (hr : (r != 0) = true) (hs : (ngv a == ngv b) = true) {Q : Nat} (HZ : Hid (mA * 256 + x = (Q : Int) ∧ 0 < Q ∧ Q < 4611686018427387904)) (w : World) :
    Calls Try.prog 42 #[.int .i64 a, .int .i64 b] w fun e w' => e = .returned (.int .i64 (sg (ngv a) (rdN Q (eA - 8) true))) ∧ w = w' := by
  have P3 : P ≠ 0 := by omega
  go_enter Try.func42, Try.ntmps42
  go_wp2_with (first
    | (go_at_call 34; refine (rplain_any _ _).mono ?_; rintro e w' ⟨rfl, rfl⟩)
    | (go_at_call 33; refine (rsign_any _ _).mono ?_; rintro e w' ⟨rfl, rfl⟩)
    | (go_at_call 37; refine (part_at (by first | exact HA | exact HB) _).mono ?_; rintro e w' ⟨rfl, rfl⟩)
    | (go_at_call 38; refine (round_at Q HZ.out.1 _ _ HZ.out.2.1 HZ.out.2.2 (by omega) (by omega) _).mono ?_; rintro e w' ⟨rfl, rfl⟩)
    | (go_at_call 32; refine (rwith_any _ _ (rdN_lt _ _ _) _).mono ?_; rintro e w' ⟨rfl, rfl⟩))
  go_ret; exact ⟨rfl, rfl⟩

set_option maxRecDepth 10000 in
set_option maxHeartbeats 1000000 in
theorem add_sdz {a b mA mB eA eB dz : Int} (HA : Hid (rg a ≠ 0 ∧ (pm (rg a) : Int) = mA ∧ pe (rg a) = eA)) (HB : Hid (rg b ≠ 0 ∧ (pm (rg b) : Int) = mB ∧ pe (rg b) = eB)) (hord : ¬ ((rg a : Int) < rg b))
    (a1 : 4503599627370496 ≤ mA) (a2 : mA < 9007199254740992) (b1 : 4503599627370496 ≤ mB) (b2 : mB < 9007199254740992) (e1 : -1126 ≤ eA) (e2 : eA ≤ 971) (e3 : -1126 ≤ eB) (e4 : eB ≤ 971) (hd : eA - eB = dz) (d0 : 0 ≤ dz)
    {P x r : Int} (hd62 : dz ≤ 62) (hP : (2 : Int) ^ dz.toNat = P) (P1 : 1 ≤ P) (P2 : P ≤ 4611686018427387904) (htm : Int.tmod (mB * 256) P = r) (hdv : mB * 256 / P = x) (x0 : 0 ≤ x) (x1 : x < 2305843009213693952) (hr : r = 0) (hs : (ngv a == ngv b) = false) (nz : (mA * 256 - x == 0) = true) (w : World) :
    Calls Try.prog 42 #[.int .i64 a, .int .i64 b] w fun e w' => e = .returned (.int .i64 (0)) ∧ w = w' := by
  subst hr
  have P3 : P ≠ 0 := by omega
  go_enter Try.func42, Try.ntmps42
  go_wp2_with (first
    | (go_at_call 34; refine (rplain_any _ _).mono ?_; rintro e w' ⟨rfl, rfl⟩)
    | (go_at_call 33; refine (rsign_any _ _).mono ?_; rintro e w' ⟨rfl, rfl⟩)
    | (go_at_call 37; refine (part_at (by first | exact HA | exact HB) _).mono ?_; rintro e w' ⟨rfl, rfl⟩)
    | (go_at_call 32; refine (rwith_any _ _ (rdN_lt _ _ _) _).mono ?_; rintro e w' ⟨rfl, rfl⟩))
  go_ret; exact ⟨rfl, rfl⟩

set_option maxRecDepth 10000 in
set_option maxHeartbeats 1000000 in
theorem add_sd0 {a b mA mB eA eB dz : Int} (HA : Hid (rg a ≠ 0 ∧ (pm (rg a) : Int) = mA ∧ pe (rg a) = eA)) (HB : Hid (rg b ≠ 0 ∧ (pm (rg b) : Int) = mB ∧ pe (rg b) = eB)) (hord : ¬ ((rg a : Int) < rg b))
    (a1 : 4503599627370496 ≤ mA) (a2 : mA < 9007199254740992) (b1 : 4503599627370496 ≤ mB) (b2 : mB < 9007199254740992) (e1 : -1126 ≤ eA) (e2 : eA ≤ 971) (e3 : -1126 ≤ eB) (e4 : eB ≤ 971) (hd : eA - eB = dz) (d0 : 0 ≤ dz)
    {P x r : Int} (hd62 : dz ≤ 62) (hP : (2 : Int) ^ dz.toNat = P) (P1 : 1 ≤ P) (P2 : P ≤ 4611686018427387904) (htm : Int.tmod (mB * 256) P = r) (hdv : mB * 256 / P = x) (x0 : 0 ≤ x) (x1 : x < 2305843009213693952) (hr : r = 0) (hs : (ngv a == ngv b) = false) (nz : (mA * 256 - x == 0) = false) {Q : Nat} (HZ : Hid (mA * 256 - x = (Q : Int) ∧ 0 < Q ∧ Q < 4611686018427387904)) (w : World) :
    Calls Try.prog 42 #[.int .i64 a, .int .i64 b] w fun e w' => e = .returned (.int .i64 (sg (ngv a) (rdN Q (eA - 8) false))) ∧ w = w' := by
  subst hr
  have P3 : P ≠ 0 := by omega
  go_enter Try.func42, Try.ntmps42
  go_wp2_with (first
    | (go_at_call 34; refine (rplain_any _ _).mono ?_; rintro e w' ⟨rfl, rfl⟩)
    | (go_at_call 33; refine (rsign_any _ _).mono ?_; rintro e w' ⟨rfl, rfl⟩)
    | (go_at_call 37; refine (part_at (by first | exact HA | exact HB) _).mono ?_; rintro e w' ⟨rfl, rfl⟩)
    | (go_at_call 38; refine (round_at Q HZ.out.1 _ _ HZ.out.2.1 HZ.out.2.2 (by omega) (by omega) _).mono ?_; rintro e w' ⟨rfl, rfl⟩)
    | (go_at_call 32; refine (rwith_any _ _ (rdN_lt _ _ _) _).mono ?_; rintro e w' ⟨rfl, rfl⟩))
  go_ret; exact ⟨rfl, rfl⟩

set_option maxRecDepth 10000 in
set_option maxHeartbeats 1000000 in
theorem add_sd1 {a b mA mB eA eB dz : Int} (HA : Hid (rg a ≠ 0 ∧ (pm (rg a) : Int) = mA ∧ pe (rg a) = eA)) (HB : Hid (rg b ≠ 0 ∧ (pm (rg b) : Int) = mB ∧ pe (rg b) = eB)) (hord : ¬ ((rg a : Int) < rg b))
    (a1 : 4503599627370496 ≤ mA) (a2 : mA < 9007199254740992) (b1 : 4503599627370496 ≤ mB) (b2 : mB < 9007199254740992) (e1 : -1126 ≤ eA) (e2 : eA ≤ 971) (e3 : -1126 ≤ eB) (e4 : eB ≤ 971) (hd : eA - eB = dz) (d0 : 0 ≤ dz)
    {P x r : Int} (hd62 : dz ≤ 62) (hP : (2 : Int) ^ dz.toNat = P) (P1 : 1 ≤ P) (P2 : P ≤ 4611686018427387904) (htm : Int.tmod (mB * 256) P = r) (hdv : mB * 256 / P = x) (x0 : 0 ≤ x) (x1 : x < 2305843009213693952) (hr : (r != 0) = true) (hs : (ngv a == ngv b) = false) (nz : (mA * 256 - x - 1 == 0) = false) {Q : Nat} (HZ : Hid (mA * 256 - x - 1 = (Q : Int) ∧ 0 < Q ∧ Q < 4611686018427387904)) (w : World) :
    Calls Try.prog 42 #[.int .i64 a, .int .i64 b] w fun e w' => e = .returned (.int .i64 (sg (ngv a) (rdN Q (eA - 8) true))) ∧ w = w' := by
  have P3 : P ≠ 0 := by omega
  go_enter Try.func42, Try.ntmps42
  go_wp2_with (first
    | (go_at_call 34; refine (rplain_any _ _).mono ?_; rintro e w' ⟨rfl, rfl⟩)
    | (go_at_call 33; refine (rsign_any _ _).mono ?_; rintro e w' ⟨rfl, rfl⟩)
    | (go_at_call 37; refine (part_at (by first | exact HA | exact HB) _).mono ?_; rintro e w' ⟨rfl, rfl⟩)
    | (go_at_call 38; refine (round_at Q HZ.out.1 _ _ HZ.out.2.1 HZ.out.2.2 (by omega) (by omega) _).mono ?_; rintro e w' ⟨rfl, rfl⟩)
    | (go_at_call 32; refine (rwith_any _ _ (rdN_lt _ _ _) _).mono ?_; rintro e w' ⟨rfl, rfl⟩))
  go_ret; exact ⟨rfl, rfl⟩


theorem quo_le {a b : Int} (fa : rg a < infR) (fb : rg b < infR) (za : rg a ≠ 0) (zb : rg b ≠ 0) (hle : rg b ≤ rg a) {d : Nat} (hd : (pe (rg a) - pe (rg b)).toNat = d) :
    pm (rg b) * 256 / 2 ^ d ≤ pm (rg a) * 256 := by
  obtain ⟨K, hK⟩ := exK
  have va := pm_val (K := K) (r := rg a) (by omega) (by omega)
  have vb := pm_val (K := K) (r := rg b) (by omega) (by omega)
  have ea := pe_range fa
  have eb := pe_range fb
  have hmono := pe_mono (by omega) fb fa hle
  have hval : val K (rg b) ≤ val K (rg a) := by
    rcases Nat.lt_or_ge (rg b) (rg a) with g | g
    · exact Nat.le_of_lt (val_lt g)
    · have : rg b = rg a := by omega
      rw [this]; exact Nat.le_refl _
  rw [← va, ← vb] at hval
  have e : (pe (rg a) + K).toNat = d + (pe (rg b) + K).toNat := by omega
  rw [e, Nat.pow_add, ← Nat.mul_assoc] at hval
  have h := Nat.le_of_mul_le_mul_right hval (pow_pos2 _)
  refine Nat.div_le_of_le_mul ?_
  have h2 := Nat.mul_le_mul_right 256 h
  rw [Nat.mul_comm (2 ^ d), Nat.mul_right_comm]
  exact h2

theorem radd_le {a b : Int} (fa : rg a < infR) (fb : rg b < infR) (za : rg a ≠ 0) (zb : rg b ≠ 0) (hle : rg b ≤ rg a) (w : World) :
    Calls Try.prog 42 #[.int .i64 a, .int .i64 b] w fun e w' => e = .returned (.int .i64 (addD a b)) ∧ w = w' := by
  have ma := pm_range (r := rg a) (by omega)
  have mb := pm_range (r := rg b) (by omega)
  have ea := pe_range fa
  have eb := pe_range fb
  have hmono := pe_mono (by omega) fb fa hle
  have p52 : (2 : Nat) ^ 52 = 4503599627370496 := by decide
  have p53 : (2 : Nat) ^ 53 = 9007199254740992 := by decide
  rw [p52, p53] at ma mb
  obtain ⟨d, hd⟩ : ∃ d : Nat, pe (rg a) - pe (rg b) = (d : Int) := ⟨(pe (rg a) - pe (rg b)).toNat, by omega⟩
  have hdn : (pe (rg a) - pe (rg b)).toNat = d := by omega
  have hord : ¬ ((rg a : Int) < rg b) := by omega
  have HA : Hid (rg a ≠ 0 ∧ (pm (rg a) : Int) = (pm (rg a) : Int) ∧ pe (rg a) = pe (rg a)) := ⟨za, rfl, rfl⟩
  have HB : Hid (rg b ≠ 0 ∧ (pm (rg b) : Int) = (pm (rg b) : Int) ∧ pe (rg b) = pe (rg b)) := ⟨zb, rfl, rfl⟩
  unfold addD
  rw [hdn]
  by_cases hbig : 62 < d
  · have hp : 2 ^ 63 ≤ 2 ^ d := Nat.pow_le_pow_right (by omega) hbig
    have p63 : (2 : Nat) ^ 63 = 9223372036854775808 := by decide
    have x0 : pm (rg b) * 256 / 2 ^ d = 0 := Nat.div_eq_of_lt (by omega)
    have r0 : pm (rg b) * 256 % 2 ^ d = pm (rg b) * 256 := Nat.mod_eq_of_lt (by omega)
    have r1 : pm (rg b) * 256 ≠ 0 := by omega
    rw [x0, r0]
    by_cases hs : ngv a = ngv b
    · rw [if_pos hs, decide_eq_true r1, Nat.add_zero]
      exact add_bs HA HB hord (by omega) (by omega) (by omega) (by omega) ea.1 ea.2 eb.1 eb.2 hd (by omega) (by omega) (by rw [hs]; simp) ⟨by omega, by omega, by omega⟩ w
    · rw [if_neg hs, if_neg r1, if_neg (by omega), decide_eq_true r1, Nat.sub_zero]
      exact add_bd HA HB hord (by omega) (by omega) (by omega) (by omega) ea.1 ea.2 eb.1 eb.2 hd (by omega) (by omega) (by rw [beq_eq_false_iff_ne]; exact hs) ⟨by omega, by omega, by omega⟩ w
  · have hp : 2 ^ d ≤ 2 ^ 62 := Nat.pow_le_pow_right (by omega) (by omega)
    have p62 : (2 : Nat) ^ 62 = 4611686018427387904 := by decide
    rw [p62] at hp
    have hpp := pow_pos2 d
    have hP : (2 : Int) ^ ((d : Int).toNat) = ((2 ^ d : Nat) : Int) := cast_pow2 d
    have htm : Int.tmod ((pm (rg b) : Int) * 256) ((2 ^ d : Nat) : Int) = ((pm (rg b) * 256 % 2 ^ d : Nat) : Int) := by
      rw [Int.tmod_eq_emod_of_nonneg (by omega)]; simp
    have hdv : ((pm (rg b) : Int) * 256) / ((2 ^ d : Nat) : Int) = ((pm (rg b) * 256 / 2 ^ d : Nat) : Int) := by simp
    have hxle : pm (rg b) * 256 / 2 ^ d ≤ pm (rg b) * 256 := Nat.div_le_self _ _
    have HX : pm (rg b) * 256 / 2 ^ d ≤ pm (rg a) * 256 := quo_le fa fb za zb hle hdn
    have hmore : pm (rg b) * 256 % 2 ^ d ≠ 0 → pm (rg b) * 256 / 2 ^ d < 2 ^ 52 := by
      intro g
      have h9 := more_far g
      have h1 : pm (rg b) * 256 / 2 ^ d ≤ pm (rg b) * 256 / 2 ^ 9 := Nat.div_le_div_left (Nat.pow_le_pow_right (by omega) h9) (by omega)
      have p9 : (2 : Nat) ^ 9 = 512 := by decide
      rw [p9] at h1
      omega
    generalize pm (rg b) * 256 / 2 ^ d = x at *
    generalize pm (rg b) * 256 % 2 ^ d = r at *
    generalize 2 ^ d = P at *
    by_cases hs : ngv a = ngv b
    · rw [if_pos hs]
      by_cases hr : r = 0
      · rw [decide_eq_false (by simp [hr])]
        exact add_ss0 HA HB hord (by omega) (by omega) (by omega) (by omega) ea.1 ea.2 eb.1 eb.2 hd (by omega) (by omega) hP (by omega) (by omega) htm hdv (by omega) (by omega) (by omega) (by rw [hs]; simp) ⟨by omega, by omega, by omega⟩ w
      · rw [decide_eq_true hr]
        exact add_ss1 HA HB hord (by omega) (by omega) (by omega) (by omega) ea.1 ea.2 eb.1 eb.2 hd (by omega) (by omega) hP (by omega) (by omega) htm hdv (by omega) (by omega) (by simp; omega) (by rw [hs]; simp) ⟨by omega, by omega, by omega⟩ w
    · rw [if_neg hs]
      have hs' : (ngv a == ngv b) = false := by rw [beq_eq_false_iff_ne]; exact hs
      by_cases hr : r = 0
      · rw [if_pos hr, decide_eq_false (by simp [hr]), Nat.sub_zero]
        by_cases hq : pm (rg a) * 256 - x = 0
        · rw [if_pos hq]
          exact add_sdz HA HB hord (by omega) (by omega) (by omega) (by omega) ea.1 ea.2 eb.1 eb.2 hd (by omega) (by omega) hP (by omega) (by omega) htm hdv (by omega) (by omega) (by omega) hs' (by rw [beq_iff_eq]; omega) w
        · rw [if_neg hq]
          exact add_sd0 HA HB hord (by omega) (by omega) (by omega) (by omega) ea.1 ea.2 eb.1 eb.2 hd (by omega) (by omega) hP (by omega) (by omega) htm hdv (by omega) (by omega) (by omega) hs' (by rw [beq_eq_false_iff_ne]; omega) ⟨by omega, by omega, by omega⟩ w
      · have hx52 := hmore hr
        rw [if_neg hr, decide_eq_true hr, if_neg (by omega)]
        exact add_sd1 HA HB hord (by omega) (by omega) (by omega) (by omega) ea.1 ea.2 eb.1 eb.2 hd (by omega) (by omega) hP (by omega) (by omega) htm hdv (by omega) (by omega) (by simp; omega) hs' (by rw [beq_eq_false_iff_ne]; omega) ⟨by omega, by omega, by omega⟩ w

set_option maxHeartbeats 1000000 in
theorem radd_any {a b : Int} (ha : In64 a) (hb : In64 b) (fa : rg a < infR) (fb : rg b < infR) (za : rg a ≠ 0) (zb : rg b ≠ 0) (w : World) :
    Calls Try.prog 42 #[.int .i64 a, .int .i64 b] w fun e w' => e = .returned (.int .i64 (fAdd a b)) ∧ w = w' := by
  by_cases h : rg b ≤ rg a
  · rw [← addD_eq ha hb fa fb za zb h]
    exact radd_le fa fb za zb h w
  · have e : fAdd a b = addD b a := by
      rw [addD_eq hb ha fb fa zb za (by omega), fAdd_comm ha hb]
    have hc := fun w => radd_le fb fa zb za (by omega) w
    have HC := hid hc
    have hlt : (rg a : Int) < rg b := by omega
    rw [e]
    clear e hc h fa fb za zb ha hb
    go_enter Try.func42, Try.ntmps42
    go_wp2_with (first
      | (go_at_call 34; refine (rplain_any _ _).mono ?_; rintro e w' ⟨rfl, rfl⟩)
      | (go_at_call 42; refine (HC.out _).mono ?_; rintro e w' ⟨rfl, rfl⟩))
    go_ret; exact ⟨rfl, rfl⟩
end Go.Proofs.Ytdiaegfbaklpbaa
