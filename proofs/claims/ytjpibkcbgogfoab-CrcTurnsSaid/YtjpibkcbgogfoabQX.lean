/- The calls whose answers the document fixes: all are as it says. -/
import Derived.Test.YtjpibkcbgogfoabQR
import Derived.Test.YtjpibkcbgogfoabQY
namespace Go.Proofs.Ytjpibkcbgogfoab
open Go.RowKit
set_option maxRecDepth 100000
theorem rmay_b (n : Int) (w : World) : Calls Try.prog 14 #[.int .i64 n] w fun e w' => e = .returned (.bool (suB n)) ∧ Below w.heap.size w w' :=
  (rmay7_any n w).mono fun e w' ⟨h1, h2⟩ => ⟨h1, by subst h2; exact Below.refl _ _⟩
theorem of_lit {s : ByteArray} {v : Int} (h : moI 0 s = v) (hl : s.size ≤ 100) (w : World) : Calls Try.prog 8 #[.string s] w fun e w' => e = .returned (.int .i64 v) ∧ Below w.heap.size w w' := by
  rw [← h]; exact of_any7 s (by omega) w
theorem more_lit {n : Int} {s : ByteArray} {v : Int} (h : moI n s = v) (hl : s.size ≤ 100) (w : World) : Calls Try.prog 10 #[.int .i64 n, .string s] w fun e w' => e = .returned (.int .i64 v) ∧ Below w.heap.size w w' := by
  rw [← h]; exact more_any n s (by omega) w
theorem bytes_lit {n : Int} {s : ByteArray} (h : boI n = s) (w : World) : Calls Try.prog 12 #[.int .i64 n] w fun e w' => e = .returned (.string s) ∧ Below w.heap.size w w' := by
  rw [← h]; exact bytes_any7 n w
theorem rmore_b (n : Int) (s : ByteArray) (hl : s.size ≤ 9223372036854775807) (w : World) : Calls Try.prog 11 #[.int .i64 n, .string s] w fun e w' => e = .returned (.int .i64 (moI n s)) ∧ Below w.heap.size w w' :=
  (rmore_any n s hl w).mono fun e w' ⟨h1, h2⟩ => ⟨h1, by subst h2; exact Below.refl _ _⟩
theorem rof_b (s : ByteArray) (hl : s.size ≤ 9223372036854775807) (w : World) : Calls Try.prog 9 #[.string s] w fun e w' => e = .returned (.int .i64 (moI 0 s)) ∧ Below w.heap.size w w' :=
  (rof_any7 s hl w).mono fun e w' ⟨h1, h2⟩ => ⟨h1, by subst h2; exact Below.refl _ _⟩
set_option maxHeartbeats 1500000 in
theorem fixed7_any (w : World) : Calls Try.prog 7 #[] w fun e w' => e = .returned (.bool true) ∧ Below w.heap.size w w' := by
  have HB0 := hid (Below.refl w.heap.size w)
  go_enter Try.func7, Try.ntmps7
  go_wp2_with fail
  refine (of_lit (v := 3421780262) (by kernel_rfl) (by decide) _).mono ?_
  rintro e w1 ⟨rfl, hb⟩
  have HB1 := hid (HB0.out.trans (hb.mono HB0.out.size))
  clear hb
  go_wp2_with fail
  refine (of_lit (v := 0) (by kernel_rfl) (by decide) _).mono ?_
  rintro e w2 ⟨rfl, hb⟩
  have HB2 := hid (HB1.out.trans (hb.mono HB1.out.size))
  clear hb
  go_wp2_with fail
  refine (bytes_lit (s := ⟨#[38, 57, 244, 203]⟩) (by kernel_rfl) _).mono ?_
  rintro e w3 ⟨rfl, hb⟩
  have HB3 := hid (HB2.out.trans (hb.mono HB2.out.size))
  clear hb
  go_wp2_with fail
  refine (bytes_lit (s := ⟨#[]⟩) (by kernel_rfl) _).mono ?_
  rintro e w4 ⟨rfl, hb⟩
  have HB4 := hid (HB3.out.trans (hb.mono HB3.out.size))
  clear hb
  go_wp2_with fail
  refine (more_lit (v := 0) (by kernel_rfl) (by decide) _).mono ?_
  rintro e w5 ⟨rfl, hb⟩
  have HB5 := hid (HB4.out.trans (hb.mono HB4.out.size))
  clear hb
  go_wp2_with fail
  refine (of_lit (v := 3421846044) (by kernel_rfl) (by decide) _).mono ?_
  rintro e w6 ⟨rfl, hb⟩
  have HB6 := hid (HB5.out.trans (hb.mono HB5.out.size))
  clear hb
  go_wp2_with fail
  refine (more_lit (v := 3421780262) (by kernel_rfl) (by decide) _).mono ?_
  rintro e w7 ⟨rfl, hb⟩
  have HB7 := hid (HB6.out.trans (hb.mono HB6.out.size))
  clear hb
  go_wp2_with fail
  go_ret
  exact ⟨rfl, HB7.out⟩
end Go.Proofs.Ytjpibkcbgogfoab
