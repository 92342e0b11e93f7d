/- CodeTells walked: whatever instructions, bytes and text, it answers true. -/
import Derived.Test.YtobelbaeaamkkaaDoorSQ11
namespace Go.Proofs.YtobelbaeaamkkaaDoor
open Go.RowKit
set_option maxRecDepth 100000
set_option maxHeartbeats 1500000 in
theorem tells11_any (l : List In) (b d : List UInt8) (A : Option Addr) (c : Nat) (w : World) (hs : InsR w A l) (hv : Vr11 w) (_fl : l.length ≤ 9223372036854775807) :
    Calls Tryd.prog 4 #[.slice A l.length c, .string (str b), .string (str d)] w fun e w' => e = .returned (.bool true) ∧ Below w.heap.size w w' := by
  have HB0 := hid (Below.refl w.heap.size w)
  have I0 := hid hs
  have Z0 := hid hv
  clear hs hv
  have sb := str_size b
  have sd := str_size d
  go_enter Tryd.func4, Tryd.ntmps4
  by_cases q1 : 50 < l.length
  · go_wp2_with fail
    refine (fixed11_any _ Z0.out).mono ?_
    rintro e w1 ⟨rfl, hb⟩
    have HB1 := hid (HB0.out.trans (hb.mono HB0.out.size))
    have I1 := hid (I0.out.below hb)
    have Z1 := hid (Z0.out.below hb)
    clear hb
    go_wp2_with fail
    go_ret
    exact ⟨rfl, HB1.out⟩
  · by_cases q2 : 1000 < b.length
    · go_wp2_with fail
      refine (fixed11_any _ Z0.out).mono ?_
      rintro e w1 ⟨rfl, hb⟩
      have HB1 := hid (HB0.out.trans (hb.mono HB0.out.size))
      have I1 := hid (I0.out.below hb)
      have Z1 := hid (Z0.out.below hb)
      clear hb
      go_wp2_with fail
      go_ret
      exact ⟨rfl, HB1.out⟩
    · by_cases q3 : 1000 < d.length
      · go_wp2_with fail
        refine (fixed11_any _ Z0.out).mono ?_
        rintro e w1 ⟨rfl, hb⟩
        have HB1 := hid (HB0.out.trans (hb.mono HB0.out.size))
        have I1 := hid (I0.out.below hb)
        have Z1 := hid (Z0.out.below hb)
        clear hb
        go_wp2_with fail
        go_ret
        exact ⟨rfl, HB1.out⟩
      · have hl : l.length ≤ 1000 := by omega
        have hb1000 : b.length ≤ 1000 := by omega
        have hd1000 : d.length ≤ 1000 := by omega
        obtain ⟨P, pe, hP⟩ : ∃ P pe, Pk11 l = (P, pe) := ⟨_, _, rfl⟩
        obtain ⟨R, re, hR⟩ : ∃ R re, Pr11 l = (R, re) := ⟨_, _, rfl⟩
        obtain ⟨U, ue, hU⟩ : ∃ U ue, Up11 b = (U, ue) := ⟨_, _, rfl⟩
        obtain ⟨V, ve, hV⟩ : ∃ V ve, Pa11 d = (V, ve) := ⟨_, _, rfl⟩
        have HUL : Hid (U.length ≤ 1000) := by
          show _ ≤ _
          by_cases z : (Up11 b).2 = 0
          · have := all_len11 (up_some11 z).1
            rw [hU] at this
            exact Nat.le_trans this (by decide)
          · have := up_none11 z
            rw [hU] at this
            injection this with h1 _
            rw [h1]; decide
        have HVL : Hid (V.length ≤ 1000) := by
          show _ ≤ _
          by_cases z : (Pa11 d).2 = 0
          · have := all_len11 (pa_some11 z).1
            rw [hV] at this
            exact Nat.le_trans this (by decide)
          · have := pa_none11 z
            rw [hV] at this
            injection this with h1 _
            rw [h1]; decide
        have HP := hid hP
        have HR := hid hR
        have HU := hid hU
        have HV := hid hV
        clear hP hR hU hV
        go_wp2_with fail
        refine (cpack_any11 l A c _ I0.out hl).mono ?_
        rintro e w1 ⟨rfl, hb⟩
        rw [HP.out]
        have HB1 := hid (HB0.out.trans (hb.mono HB0.out.size))
        have I1 := hid (I0.out.below hb)
        have Z1 := hid (Z0.out.below hb)
        clear hb
        go_wp2_with fail
        refine (pack_any11 l A c _ I1.out hl).mono ?_
        rintro e w2 ⟨rfl, hb⟩
        rw [HP.out]
        have HB2 := hid (HB1.out.trans (hb.mono HB1.out.size))
        have I2 := hid (I1.out.below hb)
        have Z2 := hid (Z1.out.below hb)
        clear hb
        go_wp2_with fail
        refine (cprint_any11 l A c _ I2.out hl Z2.out).mono ?_
        rintro e w3 ⟨rfl, hb⟩
        rw [HR.out]
        have HB3 := hid (HB2.out.trans (hb.mono HB2.out.size))
        have I3 := hid (I2.out.below hb)
        have Z3 := hid (Z2.out.below hb)
        clear hb
        go_wp2_with fail
        refine (print_any11 l A c _ I3.out hl).mono ?_
        rintro e w4 ⟨rfl, hb⟩
        rw [HR.out]
        have HB4 := hid (HB3.out.trans (hb.mono HB3.out.size))
        have I4 := hid (I3.out.below hb)
        have Z4 := hid (Z3.out.below hb)
        clear hb
        go_wp2_with fail
        refine (cunpack_any11 b _ hb1000).mono ?_
        rintro e w5 ⟨AJ, cJ, he, hi, hb⟩
        rw [HU.out] at he hi
        subst he
        have J5 := hid hi
        have HB5 := hid (then_w HB4.out hb)
        have I5 := hid (I4.out.below hb)
        have Z5 := hid (Z4.out.below hb)
        clear hb hi
        go_wp2_with fail
        refine (unpack_any11 b _ hb1000).mono ?_
        rintro e w6 ⟨AK, cK, he, hi, hb⟩
        rw [HU.out] at he hi
        subst he
        have K6 := hid hi
        have HB6 := hid (then_w HB5.out hb)
        have I6 := hid (I5.out.below hb)
        have Z6 := hid (Z5.out.below hb)
        have J6 := hid (J5.out.below hb)
        clear hb hi
        go_wp2_with fail
        refine (cparse_any11 d _ hd1000 Z6.out).mono ?_
        rintro e w7 ⟨AM, cM, he, hi, hb⟩
        rw [HV.out] at he hi
        subst he
        have M7 := hid hi
        have HB7 := hid (then_w HB6.out hb)
        have I7 := hid (I6.out.below hb)
        have Z7 := hid (Z6.out.below hb)
        have J7 := hid (J6.out.below hb)
        have K7 := hid (K6.out.below hb)
        clear hb hi
        go_wp2_with fail
        refine (parse_any11 d _ hd1000).mono ?_
        rintro e w8 ⟨AN, cN, he, hi, hb⟩
        rw [HV.out] at he hi
        subst he
        have N8 := hid hi
        have HB8 := hid (then_w HB7.out hb)
        have I8 := hid (I7.out.below hb)
        have Z8 := hid (Z7.out.below hb)
        have J8 := hid (J7.out.below hb)
        have K8 := hid (K7.out.below hb)
        have M8 := hid (M7.out.below hb)
        clear hb hi
        go_wp2_with fail
        refine (fixed11_any _ Z8.out).mono ?_
        rintro e w9 ⟨rfl, hb⟩
        have HB9 := hid (HB8.out.trans (hb.mono HB8.out.size))
        have I9 := hid (I8.out.below hb)
        have Z9 := hid (Z8.out.below hb)
        have J9 := hid (J8.out.below hb)
        have K9 := hid (K8.out.below hb)
        have M9 := hid (M8.out.below hb)
        have N9 := hid (N8.out.below hb)
        clear hb
        go_wp2_with fail
        refine (same_any11 U U AJ AK cJ cK _ J9.out K9.out HUL.out HUL.out).mono ?_
        rintro e w10 ⟨rfl, hb⟩
        rw [decide_eq_true (rfl : U = U)]
        have HB10 := hid (HB9.out.trans (hb.mono HB9.out.size))
        have I10 := hid (I9.out.below hb)
        have Z10 := hid (Z9.out.below hb)
        have J10 := hid (J9.out.below hb)
        have K10 := hid (K9.out.below hb)
        have M10 := hid (M9.out.below hb)
        have N10 := hid (N9.out.below hb)
        clear hb
        go_wp2_with fail
        refine (same_any11 V V AM AN cM cN _ M10.out N10.out HVL.out HVL.out).mono ?_
        rintro e w11 ⟨rfl, hb⟩
        rw [decide_eq_true (rfl : V = V)]
        have HB11 := hid (HB10.out.trans (hb.mono HB10.out.size))
        have I11 := hid (I10.out.below hb)
        have Z11 := hid (Z10.out.below hb)
        have J11 := hid (J10.out.below hb)
        have K11 := hid (K10.out.below hb)
        have M11 := hid (M10.out.below hb)
        have N11 := hid (N10.out.below hb)
        clear hb
        go_wp2_with fail
        go_ret
        exact ⟨by first | rfl | simp, HB11.out⟩
end Go.Proofs.YtobelbaeaamkkaaDoor
