/- The contracts of the document's text, order, canonical bits, whole numbers' floats and floats' whole numbers. -/
import Derived.Test.YtdiaegfbaklpbaaH
import Derived.Test.YtdiaegfbaklpbaaL
namespace Go.Proofs.Ytdiaegfbaklpbaa
open Go.RowKit Flt

def hexL (a : Int) (k : Nat) : List UInt8 := (List.range k).map fun j => dg (nib a (k - 1 - j))
theorem hexL_succ (a : Int) (k : Nat) : hexL a (k + 1) = dg (nib a k) :: hexL a k := by
  unfold hexL
  rw [List.range_succ_eq_map, List.map_cons, List.map_map]
  congr 1
  apply List.map_congr_left
  intro j _
  show dg (nib a (k + 1 - 1 - (j + 1))) = dg (nib a (k - 1 - j))
  congr 2
  omega
theorem one_conv (b : UInt8) (w : World) : (convert 41 9 (.slice (some ⟨w.heap.size, 0, none⟩) 1 1)).run Try.prog (w.alloc (.cells #[.int .u8 (b.toNat : Int)] 5)) = .ok (.string ⟨#[b]⟩) (w.alloc (.cells #[.int .u8 (b.toNat : Int)] 5)) := by
  rw [run_convert_bytes_string _ 41 9 5 _ _ _ Try.underlying41 Try.underlying5 Try.underlying9,
    run_bytesToString _ _ 1 1 ([b].map fun x => ((x.toNat : Nat) : Int)), fold_push]
  · rfl
  · have := run_loadCells (P := Try.prog) (w := w.alloc (.cells #[.int .u8 (b.toNat : Int)] 5)) ⟨w.heap.size, 0, none⟩ 1 (fun _ => .int .u8 (b.toNat : Int)) (fun j hj => by
      have : j = 0 := by omega
      subst this
      show (w.alloc _).cell? ⟨w.heap.size, 0, none⟩ = _
      rw [World.cell?_alloc_new]
      rfl)
    rw [this]
    rfl
theorem div_step (a : Int) (k : Nat) : a / 2 ^ (4 * k) / 16 = a / 2 ^ (4 * (k + 1)) := by
  have e : (2 : Int) ^ (4 * (k + 1)) = 2 ^ (4 * k) * 16 := by
    have : 4 * (k + 1) = 4 * k + 4 := by omega
    rw [this, Int.pow_add]
    rfl
  rw [e, Int.ediv_ediv_of_nonneg]
  rw [cast_pow2]
  exact Int.natCast_nonneg _

set_option maxHeartbeats 1000000 in
theorem rtext_any (a : Int) {B : Nat} {w0 w : World} (h : On B w0 w) : Calls Try.prog 21 #[.int .i64 a] w fun e w' => e = .returned (.string (textS a)) ∧ On B w0 w' := by
  go_enter Try.func21, Try.ntmps21
  go_wp2
  go_loopw [0, 3, 4] (fun v s i wr => ∃ k : Nat, k ≤ 16 ∧ v = .int .i64 (a / 2 ^ (4 * k)) ∧ s = .string ⟨(hexL a k).toArray⟩ ∧ i = .int .i64 k ∧ On B w0 wr) (fun _ _ i _ => 16 - (intOf i).toNat)
  case atStart => exact ⟨0, by omega, by simp, rfl, rfl, h⟩
  case round =>
    obtain ⟨k, hk, rfl, rfl, rfl, hR⟩ := hrel
    rcases Nat.lt_or_ge k 16 with hlt | hge
    · have e1 := nib_and a k
      have hn := nib_lt a k
      have hx := hex_at (nib a k) hn
      have HR := hid hR
      clear hR
      have hlt' : (k : Int) < 16 := by omega
      unfold hexA at hx
      have hv := one_conv (dg (nib a k)) wr
      have hd := div_step a k
      have hlen : (hexL a k).length = k := by unfold hexL; simp
      go_wp2
      refine ⟨⟨k + 1, by omega, rfl, ?_, by simp, HR.out.go ((Below.refl _ _).alloc (Nat.le_refl _) _)⟩, by simp [intOf]; omega⟩
      rw [hexL_succ]
      rfl
    · have e16 : k = 16 := by omega
      subst e16
      go_wp2
      go_ret
      exact ⟨rfl, hR⟩
set_option maxHeartbeats 1000000 in
theorem rcanon_any (a : Int) (w : World) : Calls Try.prog 19 #[.int .i64 a] w fun e w' => e = .returned (.int .i64 (canon a)) ∧ w = w' := by
  by_cases h : infR < rg a
  · have e1 : kd a = 0 := (kd_zero a).2 h
    have e2 : canon a = 9221120237041090561 := by unfold canon; rw [if_pos h]; rfl
    rw [e2]; clear e2
    go_enter Try.func19, Try.ntmps19
    go_wp2_with (first | (go_at_call 17; refine (rkind_any _ _).mono ?_; rintro e w' ⟨rfl, rfl⟩) | (go_at_call 28; refine (rnan_any _).mono ?_; rintro e w' ⟨rfl, rfl⟩))
    go_ret; exact ⟨rfl, rfl⟩
  · have e1 : (kd a == 0) = false := by rw [beq_eq_false_iff_ne]; exact fun g => h ((kd_zero a).1 g)
    have e2 : canon a = a := by unfold canon; rw [if_neg h]
    rw [e2]; clear e2
    go_enter Try.func19, Try.ntmps19
    go_wp2_with (first | (go_at_call 17; refine (rkind_any _ _).mono ?_; rintro e w' ⟨rfl, rfl⟩) | (go_at_call 28; refine (rnan_any _).mono ?_; rintro e w' ⟨rfl, rfl⟩))
    all_goals go_ret
    all_goals exact ⟨rfl, rfl⟩

theorem rorder_in {a : Int} (h : In64 a) (w : World) : Calls Try.prog 39 #[.int .i64 a] w fun e w' => e = .returned (.int .i64 (ord a)) ∧ w = w' := by
  have e : (if ngv a then -(rg a : Int) else a) = ord a := by
    unfold ord
    cases g : ngv a
    · have := sg_rg h
      rw [g] at this
      simp only [Bool.false_eq_true, if_false]
      rw [← this]
      unfold sg
      simp only [Bool.false_eq_true, if_false]
      unfold rg
      omega
    · rfl
  rw [← e]
  exact rorder_any a w

theorem kd_pos (a : Int) (h : ¬ infR < rg a) : 0 < kd a := by
  have := kd_range a
  have h' : ¬ kd a = 0 := fun g => h ((kd_zero a).1 g)
  omega

set_option maxHeartbeats 1000000 in
theorem rless_any {a b : Int} (ha : In64 a) (hb : In64 b) (w : World) : Calls Try.prog 25 #[.int .i64 a, .int .i64 b] w fun e w' => e = .returned (.bool (fLess a b)) ∧ w = w' := by
  rw [fLess_eq ha hb]
  have HA := hid ha
  have HB := hid hb
  clear ha hb
  by_cases n1 : infR < rg a
  · have k1 := (kd_zero a).2 n1
    have e : (notNaN a b && decide (ord a < ord b)) = false := by
      unfold notNaN
      have : ¬ rg a ≤ infR := by omega
      simp [this]
    rw [e]; clear e
    clear n1
    go_enter Try.func25, Try.ntmps25
    go_wp2_with (first | (go_at_call 17; refine (rkind_any _ _).mono ?_; rintro e w' ⟨rfl, rfl⟩) | (go_at_call 39; refine (rorder_in (by first | exact HA.out | exact HB.out) _).mono ?_; rintro e w' ⟨rfl, rfl⟩))
    go_ret; exact ⟨rfl, rfl⟩
  have k1 := kd_pos a n1
  by_cases n2 : infR < rg b
  · have k2 := (kd_zero b).2 n2
    have e : (notNaN a b && decide (ord a < ord b)) = false := by
      unfold notNaN
      have : ¬ rg b ≤ infR := by omega
      simp [this]
    rw [e]; clear e
    clear n1 n2
    go_enter Try.func25, Try.ntmps25
    go_wp2_with (first | (go_at_call 17; refine (rkind_any _ _).mono ?_; rintro e w' ⟨rfl, rfl⟩) | (go_at_call 39; refine (rorder_in (by first | exact HA.out | exact HB.out) _).mono ?_; rintro e w' ⟨rfl, rfl⟩))
    go_ret; exact ⟨rfl, rfl⟩
  have k2 := kd_pos b n2
  have e : (notNaN a b && decide (ord a < ord b)) = decide (ord a < ord b) := by
    unfold notNaN
    have h1 : rg a ≤ infR := by omega
    have h2 : rg b ≤ infR := by omega
    simp [h1, h2]
  rw [e]; clear e
  clear n1 n2
  go_enter Try.func25, Try.ntmps25
  go_wp2_with (first | (go_at_call 17; refine (rkind_any _ _).mono ?_; rintro e w' ⟨rfl, rfl⟩) | (go_at_call 39; refine (rorder_in (by first | exact HA.out | exact HB.out) _).mono ?_; rintro e w' ⟨rfl, rfl⟩))
  go_ret; exact ⟨rfl, rfl⟩

set_option maxHeartbeats 1000000 in
theorem requal_any {a b : Int} (ha : In64 a) (hb : In64 b) (w : World) : Calls Try.prog 27 #[.int .i64 a, .int .i64 b] w fun e w' => e = .returned (.bool (fEqual a b)) ∧ w = w' := by
  rw [fEqual_eq ha hb]
  have HA := hid ha
  have HB := hid hb
  clear ha hb
  by_cases n1 : infR < rg a
  · have k1 := (kd_zero a).2 n1
    have e : (notNaN a b && decide (ord a = ord b)) = false := by
      unfold notNaN
      have : ¬ rg a ≤ infR := by omega
      simp [this]
    rw [e]; clear e
    clear n1
    go_enter Try.func27, Try.ntmps27
    go_wp2_with (first | (go_at_call 17; refine (rkind_any _ _).mono ?_; rintro e w' ⟨rfl, rfl⟩) | (go_at_call 39; refine (rorder_in (by first | exact HA.out | exact HB.out) _).mono ?_; rintro e w' ⟨rfl, rfl⟩))
    go_ret; exact ⟨rfl, rfl⟩
  have k1 := kd_pos a n1
  by_cases n2 : infR < rg b
  · have k2 := (kd_zero b).2 n2
    have e : (notNaN a b && decide (ord a = ord b)) = false := by
      unfold notNaN
      have : ¬ rg b ≤ infR := by omega
      simp [this]
    rw [e]; clear e
    clear n1 n2
    go_enter Try.func27, Try.ntmps27
    go_wp2_with (first | (go_at_call 17; refine (rkind_any _ _).mono ?_; rintro e w' ⟨rfl, rfl⟩) | (go_at_call 39; refine (rorder_in (by first | exact HA.out | exact HB.out) _).mono ?_; rintro e w' ⟨rfl, rfl⟩))
    go_ret; exact ⟨rfl, rfl⟩
  have k2 := kd_pos b n2
  have e : (notNaN a b && decide (ord a = ord b)) = (ord a == ord b) := by
    unfold notNaN
    have h1 : rg a ≤ infR := by omega
    have h2 : rg b ≤ infR := by omega
    simp only [h1, h2, decide_true, Bool.true_and]
    rfl
  rw [e]; clear e
  clear n1 n2
  go_enter Try.func27, Try.ntmps27
  go_wp2_with (first | (go_at_call 17; refine (rkind_any _ _).mono ?_; rintro e w' ⟨rfl, rfl⟩) | (go_at_call 39; refine (rorder_in (by first | exact HA.out | exact HB.out) _).mono ?_; rintro e w' ⟨rfl, rfl⟩))
  go_ret; exact ⟨rfl, rfl⟩

theorem rdN_lt (m : Nat) (e : Int) (more : Bool) : rdN m e more < 9223372036854775808 := by
  unfold rdN; exact min_lt _

set_option maxHeartbeats 1000000 in
theorem rof_any (n : Int) (w : World) : Calls Try.prog 23 #[.int .i64 n] w fun e w' => e = .returned (.int .i64 (fOf n)) ∧ w = w' := by
  by_cases h : n < -9007199254740992 ∨ 9007199254740992 < n
  · have e : fOf n = 9221120237041090561 := by unfold fOf; rw [if_pos h]; rfl
    rw [e]; clear e
    rcases h with h | h
    · go_enter Try.func23, Try.ntmps23
      go_wp2_with (go_at_call 28; refine (rnan_any _).mono ?_; rintro e w' ⟨rfl, rfl⟩)
      go_ret; exact ⟨rfl, rfl⟩
    · have h' : ¬ n < -9007199254740992 := by omega
      go_enter Try.func23, Try.ntmps23
      go_wp2_with (go_at_call 28; refine (rnan_any _).mono ?_; rintro e w' ⟨rfl, rfl⟩)
      go_ret; exact ⟨rfl, rfl⟩
  · have h1 : ¬ n < -9007199254740992 := by omega
    have h2 : ¬ 9007199254740992 < n := by omega
    by_cases z : n = 0
    · subst z
      have e : fOf 0 = 0 := by decide +kernel
      rw [e]; clear e h h1 h2
      go_enter Try.func23, Try.ntmps23
      go_wp2_with fail
      go_ret; exact ⟨rfl, rfl⟩
    · have e : fOf n = sg (decide (n < 0)) (rdN n.natAbs 0 false) := by
        rw [ofD z]; unfold fOf; rw [if_neg h]
      have z' : (n == 0) = false := by rw [beq_eq_false_iff_ne]; exact z
      rw [e]; clear e
      by_cases g : n < 0
      · have e2 : decide (n < 0) = true := by simp [g]
        have HZ : Hid (-n = ((n.natAbs : Nat) : Int) ∧ 0 < n.natAbs ∧ n.natAbs < 4611686018427387904) := ⟨by omega, by omega, by omega⟩
        rw [e2]
        clear e2 h z
        go_enter Try.func23, Try.ntmps23
        go_wp2_with (first
          | (go_at_call 38; refine (round_at n.natAbs HZ.out.1 _ _ HZ.out.2.1 HZ.out.2.2 (by omega) (by omega) _).mono ?_; rintro e w' ⟨rfl, rfl⟩)
          | (go_at_call 32; refine (rwith_any _ _ (rdN_lt _ _ _) _).mono ?_; rintro e w' ⟨rfl, rfl⟩))
        go_ret; exact ⟨rfl, rfl⟩
      · have e2 : sg (decide (n < 0)) (rdN n.natAbs 0 false) = (rdN n.natAbs 0 false : Int) := by simp [g, sg]
        have HZ : Hid (n = ((n.natAbs : Nat) : Int) ∧ 0 < n.natAbs ∧ n.natAbs < 4611686018427387904) := ⟨by omega, by omega, by omega⟩
        rw [e2]
        clear e2 h z
        go_enter Try.func23, Try.ntmps23
        go_wp2_with (first
          | (go_at_call 38; refine (round_at n.natAbs HZ.out.1 _ _ HZ.out.2.1 HZ.out.2.2 (by omega) (by omega) _).mono ?_; rintro e w' ⟨rfl, rfl⟩)
          | (go_at_call 32; refine (rwith_any _ _ (rdN_lt _ _ _) _).mono ?_; rintro e w' ⟨rfl, rfl⟩))
        go_ret; exact ⟨rfl, rfl⟩

end Go.Proofs.Ytdiaegfbaklpbaa
