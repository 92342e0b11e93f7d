/- CrcTells walked: whatever sum and text, it answers true. -/
import Derived.Test.YtjpibkcbgogfoabQX
namespace Go.Proofs.Ytjpibkcbgogfoab
open Go.RowKit
set_option maxRecDepth 100000
set_option maxHeartbeats 1500000 in
theorem tells7_any (n : Int) (s : ByteArray) (w : World) (hl : s.size ≤ 9223372036854775807) : Calls Try.prog 3 #[.int .i64 n, .string s] w fun e w' => e = .returned (.bool true) ∧ Below w.heap.size w w' := by
  have HB0 := hid (Below.refl w.heap.size w)
  obtain ⟨x0, hx0⟩ : ∃ x, x = moI 0 s := ⟨_, rfl⟩
  obtain ⟨x1, hx1⟩ : ∃ x, x = moI n s := ⟨_, rfl⟩
  obtain ⟨x2, hx2⟩ : ∃ x, x = boI n := ⟨_, rfl⟩
  have H0 := hid hx0
  have H1 := hid hx1
  have H2 := hid hx2
  clear hx0 hx1 hx2
  by_cases q : (2000 : Int) < s.size
  · go_enter Try.func3, Try.ntmps3
    go_wp2_with fail
    refine (fixed7_any _).mono ?_
    rintro e w1 ⟨rfl, hb⟩
    have HB1 := hid (HB0.out.trans (hb.mono HB0.out.size))
    clear hb
    go_wp2_with fail
    go_ret
    exact ⟨rfl, HB1.out⟩
  · go_enter Try.func3, Try.ntmps3
    go_wp2_with fail
    refine (fixed7_any _).mono ?_
    rintro e w1 ⟨rfl, hb⟩
    have HB1 := hid (HB0.out.trans (hb.mono HB0.out.size))
    clear hb
    go_wp2_with fail
    refine (of_any7 s hl _).mono ?_
    rintro e w2 ⟨rfl, hb⟩
    rw [← H0.out]
    have HB2 := hid (HB1.out.trans (hb.mono HB1.out.size))
    clear hb
    go_wp2_with fail
    refine (rof_b s hl _).mono ?_
    rintro e w3 ⟨rfl, hb⟩
    rw [← H0.out]
    have HB3 := hid (HB2.out.trans (hb.mono HB2.out.size))
    clear hb
    go_wp2_with fail
    refine (more_any n s hl _).mono ?_
    rintro e w4 ⟨rfl, hb⟩
    rw [← H1.out]
    have HB4 := hid (HB3.out.trans (hb.mono HB3.out.size))
    clear hb
    go_wp2_with fail
    refine (rmore_b n s hl _).mono ?_
    rintro e w5 ⟨rfl, hb⟩
    rw [← H1.out]
    have HB5 := hid (HB4.out.trans (hb.mono HB4.out.size))
    clear hb
    go_wp2_with fail
    refine (bytes_any7 n _).mono ?_
    rintro e w6 ⟨rfl, hb⟩
    rw [← H2.out]
    have HB6 := hid (HB5.out.trans (hb.mono HB5.out.size))
    clear hb
    go_wp2_with fail
    refine (rbytes_any n _).mono ?_
    rintro e w7 ⟨rfl, hb⟩
    rw [← H2.out]
    have HB7 := hid (HB6.out.trans (hb.mono HB6.out.size))
    clear hb
    go_wp2_with fail
    go_ret
    exact ⟨by simp, HB7.out⟩
end Go.Proofs.Ytjpibkcbgogfoab
