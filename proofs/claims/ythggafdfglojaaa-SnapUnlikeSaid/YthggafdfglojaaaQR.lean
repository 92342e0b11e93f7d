/- The sum of a text, from any sum on: the document's. -/
import Derived.Test.YthggafdfglojaaaQD
namespace Go.Proofs.Ythggafdfglojaaa
open Go.RowKit
set_option maxRecDepth 100000
set_option maxHeartbeats 1500000 in
theorem rmore_any (n : Int) (s : ByteArray) (hl : s.size ≤ 9223372036854775807) (w : World) : Calls Try.prog 83 #[.int .i64 n, .string s] w fun e w' => e = .returned (.int .i64 (moI n s)) ∧ w = w' := by
  cases hn : suB n
  · have e : moI n s = 0 := by unfold moI; rw [if_neg (by rw [hn]; decide)]
    rw [e]; clear e
    go_enter Try.func83, Try.ntmps83
    go_wp2_with (go_at_call 82; refine (rmay7_any _ _).mono ?_; rintro e w' ⟨rfl, rfl⟩)
    go_ret
    exact ⟨rfl, rfl⟩
  · obtain ⟨h0, h1⟩ := suB_iff.1 hn
    obtain ⟨m, rfl⟩ : ∃ m : Nat, n = m := ⟨n.toNat, by omega⟩
    have hm : m < 4294967296 := by omega
    have EM := hid (moI_yes hm s)
    obtain ⟨v0, hv0⟩ : ∃ v0, v0 = mx - m := ⟨_, rfl⟩
    have hvl : v0 < 4294967296 := by rw [hv0]; unfold mx; omega
    have hu2 : wrap64 (4294967295 - (m : Int)) = (v0 : Int) := by rw [hv0]; unfold wrap64 mx; omega
    have hu3 : (4294967295 - (m : Int)) = (v0 : Int) := by rw [hv0]; unfold mx; omega
    have HV0 := hid hv0
    have HVL := hid hvl
    have HLT := hid (byL_lt s)
    clear h0 h1 hv0 hm hvl
    go_enter Try.func83, Try.ntmps83
    go_wp2_with (go_at_call 82; refine (rmay7_any _ _).mono ?_; rintro e w' ⟨rfl, rfl⟩)
    go_loop [5, 0] (fun i z => ∃ k : Nat, k ≤ s.size ∧ i = .int .i64 k ∧ z = .int .i64 ((cu v0 ((byL s).take k) : Nat) : Int)) (fun i _ => s.size - (intOf i).toNat)
    case atStart => exact ⟨0, by omega, rfl, rfl⟩
    case round =>
      obtain ⟨k, hk, rfl, rfl⟩ := hrel
      have hv : cu v0 ((byL s).take k) < 4294967296 := cu_lt HVL.out (take_lt HLT.out k)
      by_cases hlt : k < s.size
      · obtain ⟨v, hv'⟩ : ∃ v, v = cu v0 ((byL s).take k) := ⟨_, rfl⟩
        rw [← hv'] at hv ⊢
        obtain ⟨c, hc⟩ : ∃ c, c = (s[k]'hlt).toNat := ⟨_, rfl⟩
        have hcl : c < 256 := by rw [hc]; exact (s[k]'hlt).toNat_lt
        have HST : Hid (cu v0 ((byL s).take (k + 1)) = gk 8 (v ^^^ c)) := by
          show _ = _
          rw [byL_step s k hlt, cu_one, ← hv', hc]
        have b0 : ((s[k]'hlt).toNat : Int) = (c : Int) := by rw [hc]
        have b1 : wrap64 (c : Int) = c := by unfold wrap64; omega
        have hltI : (k : Int) < (s.size : Int) := by omega
        clear hv' hc
        go_wp2
        go_loop [7, 6, 0] (fun i z u => ∃ j d x : Nat, j ≤ 8 ∧ d < 256 ∧ x < 4294967296 ∧ Hid (d = c / 2 ^ j ∧ x ^^^ d = gk j (v ^^^ c)) ∧ i = .int .i64 j ∧ z = .int .i64 d ∧ u = .int .i64 x) (fun i _ _ => 8 - (intOf i).toNat)
        case atStart => exact ⟨0, c, v, by omega, hcl, hv, hid ⟨by simp, rfl⟩, rfl, rfl, rfl⟩
        case round =>
          obtain ⟨j, d, x, hj, hd, hx, HH, rfl, rfl, rfl⟩ := hrel
          by_cases hjl : j < 8
          · obtain ⟨r, hr⟩ : ∃ r, r = d % 2 := ⟨_, rfl⟩
            obtain ⟨d2, hd2⟩ : ∃ d2, d2 = d / 2 := ⟨_, rfl⟩
            have hr2 : r < 2 := by omega
            have t1 : (d : Int).tmod 2 = (r : Int) := by rw [Int.tmod_eq_emod_of_nonneg (by omega)]; omega
            have t2 : (d : Int).tdiv 2 = (d2 : Int) := by rw [Int.tdiv_eq_ediv_of_nonneg (by omega)]; omega
            have hd3 : d2 < 256 := by omega
            have HN : Hid (d2 = c / 2 ^ (j + 1) ∧ rb x r ^^^ d2 = gk (j + 1) (v ^^^ c)) := by
              obtain ⟨e1, e2⟩ := HH.out
              have e3 : d2 = c / 2 ^ (j + 1) := by rw [hd2, e1, Nat.pow_succ, Nat.div_div_eq_div_mul]
              refine ⟨e3, ?_⟩
              rw [e3, hr, e1]
              exact rb_step j x v c (by rw [← e1]; exact e2)
            have hxl : rb x r < 4294967296 := by
              rw [rb_g x r hr2]
              exact g_lt (Nat.xor_lt_two_pow (n := 32) hx (by omega))
            clear hr hd2
            go_wp2_with fail
            refine (bit_any x r hx hr2 _).mono ?_
            rintro e w' ⟨rfl, rfl⟩
            go_wp2
            go_round
            case rel => exact ⟨j + 1, d2, rb x r, by omega, hd3, hxl, HN, by go_num, rfl, rfl⟩
            case measure => simp [intOf]; omega
          · obtain rfl : j = 8 := by omega
            have HX : Hid (x = gk 8 (v ^^^ c)) := by
              obtain ⟨e1, e2⟩ := HH.out
              have e3 : d = 0 := by rw [e1]; omega
              rw [e3, Nat.xor_zero] at e2
              exact e2
            go_wp2
            go_round
            case rel => exact ⟨k + 1, by omega, by go_num, by rw [HST.out, HX.out]⟩
            case measure => simp [intOf]; omega
      · obtain rfl : k = s.size := by omega
        have hz : (byL s).take s.size = byL s := List.take_of_length_le (by rw [byL_len]; omega)
        obtain ⟨v, hv'⟩ : ∃ v, v = cu v0 ((byL s).take s.size) := ⟨_, rfl⟩
        rw [← hv'] at hv ⊢
        have HE : Hid (moI (m : Int) s = 4294967295 - (v : Int)) := by
          show _ = _
          rw [EM.out]
          have : crM m (byL s) = mx - v := by rw [hv', hz, HV0.out]; rfl
          rw [this]; unfold mx; omega
        clear hv' hz
        go_wp2
        go_ret
        exact ⟨by rw [HE.out]; rfl, rfl⟩
theorem rof_any7 (s : ByteArray) (hl : s.size ≤ 9223372036854775807) (w : World) : Calls Try.prog 44 #[.string s] w fun e w' => e = .returned (.int .i64 (moI 0 s)) ∧ w = w' := by
  go_enter Try.func44, Try.ntmps44
  go_wp2_with fail
  refine (rmore_any 0 s hl _).mono ?_
  rintro e w' ⟨rfl, rfl⟩
  go_wp2
  go_ret; exact ⟨rfl, rfl⟩
end Go.Proofs.Ythggafdfglojaaa
