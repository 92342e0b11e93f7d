/- CodeChecks walked: whatever instructions and numbers, it answers true. -/
import Derived.Test.YtobelbaeaamkkaaDoorSQ11
namespace Go.Proofs.YtobelbaeaamkkaaDoor
open Go.RowKit
set_option maxRecDepth 100000
set_option maxHeartbeats 1000000 in
theorem checks11_any (l : List In) (lits temps : Int) (A : Option Addr) (c : Nat) (w : World) (hs : InsR w A l) (hv : Vr11 w) (_fl : l.length ≤ 9223372036854775807) :
    Calls Tryd.prog 3 #[.slice A l.length c, .int .i64 lits, .int .i64 temps] w fun e w' => e = .returned (.bool true) ∧ Below w.heap.size w w' := by
  have HB0 := hid (Below.refl w.heap.size w)
  have I0 := hid hs
  have Z0 := hid hv
  clear hs hv
  go_enter Tryd.func3, Tryd.ntmps3
  by_cases q1 : 50 < l.length
  · go_wp2_with fail
    refine (fixed11_any _ Z0.out).mono ?_
    rintro e w1 ⟨rfl, hb⟩
    have HB1 := hid (HB0.out.trans (hb.mono HB0.out.size))
    have I1 := hid (I0.out.below hb)
    have Z1 := hid (Z0.out.below hb)
    clear hb
    go_wp2_with fail
    go_ret
    exact ⟨rfl, HB1.out⟩
  · have hl : l.length ≤ 1000 := by omega
    obtain ⟨r, hr⟩ : ∃ r, r = ck11 l lits temps := ⟨_, rfl⟩
    have HR := hid hr
    clear hr
    go_wp2_with fail
    refine (fixed11_any _ Z0.out).mono ?_
    rintro e w1 ⟨rfl, hb⟩
    have HB1 := hid (HB0.out.trans (hb.mono HB0.out.size))
    have I1 := hid (I0.out.below hb)
    have Z1 := hid (Z0.out.below hb)
    clear hb
    go_wp2_with fail
    refine (ccheck_any11 l lits temps A c _ I1.out hl).mono ?_
    rintro e w2 ⟨rfl, hb⟩
    rw [← HR.out]
    have HB2 := hid (HB1.out.trans (hb.mono HB1.out.size))
    have I2 := hid (I1.out.below hb)
    have Z2 := hid (Z1.out.below hb)
    clear hb
    go_wp2_with fail
    refine (check_any11 l lits temps A c _ I2.out hl).mono ?_
    rintro e w3 ⟨rfl, hb⟩
    rw [← HR.out]
    have HB3 := hid (HB2.out.trans (hb.mono HB2.out.size))
    have I3 := hid (I2.out.below hb)
    have Z3 := hid (Z2.out.below hb)
    clear hb
    go_wp2_with fail
    go_ret
    exact ⟨by simp, HB3.out⟩
end Go.Proofs.YtobelbaeaamkkaaDoor
