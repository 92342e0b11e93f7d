/- CodeBack walked: whatever instructions, bytes and text, it answers true. -/
import Derived.Test.YtobelbaeaamkkaaDoorSQ11
namespace Go.Proofs.YtobelbaeaamkkaaDoor
open Go.RowKit
set_option maxRecDepth 100000
set_option maxHeartbeats 3000000 in
theorem back11_any (l : List In) (b d : List UInt8) (A : Option Addr) (c : Nat) (w : World) (hs : InsR w A l) (hv : Vr11 w) (_fl : l.length ≤ 9223372036854775807) :
    Calls Tryd.prog 5 #[.slice A l.length c, .string (str b), .string (str d)] w fun e w' => e = .returned (.bool true) ∧ Below w.heap.size w w' := by
  have HB0 := hid (Below.refl w.heap.size w)
  have I0 := hid hs
  have Z0 := hid hv
  clear hs hv
  have sb := str_size b
  have sd := str_size d
  go_enter Tryd.func5, Tryd.ntmps5
  go_wp2_with fail
  refine (fixed11_any _ Z0.out).mono ?_
  rintro e w1 ⟨rfl, hb⟩
  have HB1 := hid (HB0.out.trans (hb.mono HB0.out.size))
  have I1 := hid (I0.out.below hb)
  have Z1 := hid (Z0.out.below hb)
  clear hb
  by_cases q1 : 50 < l.length
  · go_wp2_with fail
    refine (fixed11_any _ Z1.out).mono ?_
    rintro e w2 ⟨rfl, hb⟩
    have HB2 := hid (HB1.out.trans (hb.mono HB1.out.size))
    have I2 := hid (I1.out.below hb)
    have Z2 := hid (Z1.out.below hb)
    clear hb
    go_wp2_with fail
    go_ret
    exact ⟨rfl, HB2.out⟩
  · by_cases q2 : 1000 < b.length
    · go_wp2_with fail
      refine (fixed11_any _ Z1.out).mono ?_
      rintro e w2 ⟨rfl, hb⟩
      have HB2 := hid (HB1.out.trans (hb.mono HB1.out.size))
      have I2 := hid (I1.out.below hb)
      have Z2 := hid (Z1.out.below hb)
      clear hb
      go_wp2_with fail
      go_ret
      exact ⟨rfl, HB2.out⟩
    · by_cases q3 : 1000 < d.length
      · go_wp2_with fail
        refine (fixed11_any _ Z1.out).mono ?_
        rintro e w2 ⟨rfl, hb⟩
        have HB2 := hid (HB1.out.trans (hb.mono HB1.out.size))
        have I2 := hid (I1.out.below hb)
        have Z2 := hid (Z1.out.below hb)
        clear hb
        go_wp2_with fail
        go_ret
        exact ⟨rfl, HB2.out⟩
      · have hl : l.length ≤ 1000 := by omega
        have hb1000 : b.length ≤ 1000 := by omega
        have hd1000 : d.length ≤ 1000 := by omega
        have H0 : Hid (Pk11 [] = ([], 0)) := hid rfl
        have H1 : Hid (Pr11 [] = ([], 0)) := hid rfl
        have BS : Hid (∃ U ue Q, Up11 b = (U, ue) ∧ U.length ≤ 1000 ∧ (ue = 110 ∧ Pk11 U = (Q, 0) ∨ ue = 0 ∧ Pk11 U = (Q, 0) ∧ Q = b)) := by
          by_cases z : (Up11 b).2 = 0
          · obtain ⟨z1, z2⟩ := up_some11 z
            refine ⟨(Up11 b).1, 0, b, by rw [← z], Nat.le_trans (all_len11 z1) (by decide), .inr ⟨rfl, ?_, rfl⟩⟩
            unfold Pk11; rw [if_pos z1, z2]
          · exact ⟨[], 110, [], up_none11 z, by decide, .inl ⟨rfl, rfl⟩⟩
        have DS : Hid (∃ V ve Q, Pa11 d = (V, ve) ∧ V.length ≤ 1000 ∧ (ve = 111 ∧ Pr11 V = (Q, 0) ∨ ve = 0 ∧ Pr11 V = (Q, 0) ∧ Q = d)) := by
          by_cases z : (Pa11 d).2 = 0
          · obtain ⟨z1, z2⟩ := pa_some11 z
            refine ⟨(Pa11 d).1, 0, d, by rw [← z], Nat.le_trans (all_len11 z1) (by decide), .inr ⟨rfl, ?_, rfl⟩⟩
            unfold Pr11; rw [if_pos z1, z2]
          · exact ⟨[], 111, [], pa_none11 z, by decide, .inl ⟨rfl, rfl⟩⟩
        cases ha : all11 l
        · have HP : Hid (Pk11 l = ([], 110)) := by show _ = _; unfold Pk11; rw [ha]; rfl
          have HR : Hid (Pr11 l = ([], 110)) := by show _ = _; unfold Pr11; rw [ha]; rfl
          clear ha
          go_wp2_with fail
          refine (cpack_any11 l A c _ I1.out hl).mono ?_
          rintro e w2 ⟨rfl, hb⟩
          rw [HP.out]
          have HB2 := hid (HB1.out.trans (hb.mono HB1.out.size))
          have I2 := hid (I1.out.below hb)
          have Z2 := hid (Z1.out.below hb)
          clear hb
          go_wp2_with fail
          refine (cprint_any11 l A c _ I2.out hl Z2.out).mono ?_
          rintro e w3 ⟨rfl, hb⟩
          rw [HR.out]
          have HB3 := hid (HB2.out.trans (hb.mono HB2.out.size))
          have I3 := hid (I2.out.below hb)
          have Z3 := hid (Z2.out.below hb)
          clear hb
          obtain ⟨U, ue, Q1, hU, hUL, hUC⟩ := BS.out
          obtain ⟨V, ve, Q2, hV, hVL, hVC⟩ := DS.out
          have HU := hid hU
          have HUL := hid hUL
          have HUC := hid hUC
          have HV := hid hV
          have HVL := hid hVL
          have HVC := hid hVC
          clear hU hUL hUC hV hVL hVC BS DS
          have HPK : Hid (Pk11 U = (Q1, 0)) := by
            show _ = _
            rcases HUC.out with ⟨_, h⟩ | ⟨_, h, _⟩ <;> exact h
          have HPR : Hid (Pr11 V = (Q2, 0)) := by
            show _ = _
            rcases HVC.out with ⟨_, h⟩ | ⟨_, h, _⟩ <;> exact h
          go_wp2_with fail
          refine (cunpack_any11 b _ hb1000).mono ?_
          rintro e w4 ⟨AG, cG, he, hi, hb⟩
          rw [HU.out] at he hi
          subst he
          have G4 := hid hi
          have HB4 := hid (then_w HB3.out hb)
          have I4 := hid (I3.out.below hb)
          have Z4 := hid (Z3.out.below hb)
          clear hb hi
          go_wp2_with fail
          refine (cparse_any11 d _ hd1000 Z4.out).mono ?_
          rintro e w5 ⟨AK, cK, he, hi, hb⟩
          rw [HV.out] at he hi
          subst he
          have K5 := hid hi
          have HB5 := hid (then_w HB4.out hb)
          have I5 := hid (I4.out.below hb)
          have Z5 := hid (Z4.out.below hb)
          have G5 := hid (G4.out.below hb)
          clear hb hi
          go_wp2_with fail
          refine (cpack_any11 U AG cG _ G5.out HUL.out).mono ?_
          rintro e w6 ⟨rfl, hb⟩
          rw [HPK.out]
          have HB6 := hid (HB5.out.trans (hb.mono HB5.out.size))
          have I6 := hid (I5.out.below hb)
          have Z6 := hid (Z5.out.below hb)
          have G6 := hid (G5.out.below hb)
          have K6 := hid (K5.out.below hb)
          clear hb
          go_wp2_with fail
          refine (cprint_any11 V AK cK _ K6.out HVL.out Z6.out).mono ?_
          rintro e w7 ⟨rfl, hb⟩
          rw [HPR.out]
          have HB7 := hid (HB6.out.trans (hb.mono HB6.out.size))
          have I7 := hid (I6.out.below hb)
          have Z7 := hid (Z6.out.below hb)
          have G7 := hid (G6.out.below hb)
          have K7 := hid (K6.out.below hb)
          clear hb
          rcases HUC.out with ⟨rfl, -⟩ | ⟨rfl, -, rfl⟩
          · rcases HVC.out with ⟨rfl, -⟩ | ⟨rfl, -, rfl⟩
            · go_wp2_with fail
              go_ret
              exact ⟨by first | rfl | simp, HB7.out⟩
            · go_wp2_with fail
              go_ret
              exact ⟨by first | rfl | simp, HB7.out⟩
          · rcases HVC.out with ⟨rfl, -⟩ | ⟨rfl, -, rfl⟩
            · go_wp2_with fail
              go_ret
              exact ⟨by first | rfl | simp, HB7.out⟩
            · go_wp2_with fail
              go_ret
              exact ⟨by first | rfl | simp, HB7.out⟩
        · have HP : Hid (Pk11 l = (pk11 l, 0)) := by show _ = _; unfold Pk11; rw [if_pos ha]
          have HR : Hid (Pr11 l = (pr11 l, 0)) := by show _ = _; unfold Pr11; rw [if_pos ha]
          have HU0 := hid (up_pk11 ha)
          have HA0 := hid (pa_pr11 ha)
          have h32 := all_len11 ha
          have HY : Hid ((pk11 l).length ≤ 1000) := by show _ ≤ _; rw [pk_len11]; omega
          have HX : Hid ((pr11 l).length ≤ 1000) := by have := pr_len11 (all_may11 ha); show _ ≤ _; omega
          obtain ⟨X, hX⟩ : ∃ X, X = pr11 l := ⟨_, rfl⟩
          obtain ⟨Y, hY⟩ : ∃ Y, Y = pk11 l := ⟨_, rfl⟩
          rw [← hX] at HR HA0 HX
          rw [← hY] at HP HU0 HY
          clear ha hX hY h32
          go_wp2_with fail
          refine (cpack_any11 l A c _ I1.out hl).mono ?_
          rintro e w2 ⟨rfl, hb⟩
          rw [HP.out]
          have HB2 := hid (HB1.out.trans (hb.mono HB1.out.size))
          have I2 := hid (I1.out.below hb)
          have Z2 := hid (Z1.out.below hb)
          clear hb
          go_wp2_with fail
          refine (cprint_any11 l A c _ I2.out hl Z2.out).mono ?_
          rintro e w3 ⟨rfl, hb⟩
          rw [HR.out]
          have HB3 := hid (HB2.out.trans (hb.mono HB2.out.size))
          have I3 := hid (I2.out.below hb)
          have Z3 := hid (Z2.out.below hb)
          clear hb
          go_wp2_with fail
          refine (cunpack_any11 Y _ HY.out).mono ?_
          rintro e w4 ⟨AM, cM, he, hi, hb⟩
          rw [HU0.out] at he hi
          subst he
          have M4 := hid hi
          have HB4 := hid (then_w HB3.out hb)
          have I4 := hid (I3.out.below hb)
          have Z4 := hid (Z3.out.below hb)
          clear hb hi
          go_wp2_with fail
          refine (cparse_any11 X _ HX.out Z4.out).mono ?_
          rintro e w5 ⟨AN, cN, he, hi, hb⟩
          rw [HA0.out] at he hi
          subst he
          have N5 := hid hi
          have HB5 := hid (then_w HB4.out hb)
          have I5 := hid (I4.out.below hb)
          have Z5 := hid (Z4.out.below hb)
          have M5 := hid (M4.out.below hb)
          clear hb hi
          go_wp2_with fail
          refine (same_any11 l l AM A cM c _ M5.out I5.out hl hl).mono ?_
          rintro e w6 ⟨rfl, hb⟩
          rw [decide_eq_true (rfl : l = l)]
          have HB6 := hid (HB5.out.trans (hb.mono HB5.out.size))
          have I6 := hid (I5.out.below hb)
          have Z6 := hid (Z5.out.below hb)
          have M6 := hid (M5.out.below hb)
          have N6 := hid (N5.out.below hb)
          clear hb
          go_wp2_with fail
          refine (same_any11 l l AN A cN c _ N6.out I6.out hl hl).mono ?_
          rintro e w7 ⟨rfl, hb⟩
          rw [decide_eq_true (rfl : l = l)]
          have HB7 := hid (HB6.out.trans (hb.mono HB6.out.size))
          have I7 := hid (I6.out.below hb)
          have Z7 := hid (Z6.out.below hb)
          have M7 := hid (M6.out.below hb)
          have N7 := hid (N6.out.below hb)
          clear hb
          obtain ⟨U, ue, Q1, hU, hUL, hUC⟩ := BS.out
          obtain ⟨V, ve, Q2, hV, hVL, hVC⟩ := DS.out
          have HU := hid hU
          have HUL := hid hUL
          have HUC := hid hUC
          have HV := hid hV
          have HVL := hid hVL
          have HVC := hid hVC
          clear hU hUL hUC hV hVL hVC BS DS
          have HPK : Hid (Pk11 U = (Q1, 0)) := by
            show _ = _
            rcases HUC.out with ⟨_, h⟩ | ⟨_, h, _⟩ <;> exact h
          have HPR : Hid (Pr11 V = (Q2, 0)) := by
            show _ = _
            rcases HVC.out with ⟨_, h⟩ | ⟨_, h, _⟩ <;> exact h
          go_wp2_with fail
          refine (cunpack_any11 b _ hb1000).mono ?_
          rintro e w8 ⟨AG, cG, he, hi, hb⟩
          rw [HU.out] at he hi
          subst he
          have G8 := hid hi
          have HB8 := hid (then_w HB7.out hb)
          have I8 := hid (I7.out.below hb)
          have Z8 := hid (Z7.out.below hb)
          have M8 := hid (M7.out.below hb)
          have N8 := hid (N7.out.below hb)
          clear hb hi
          go_wp2_with fail
          refine (cparse_any11 d _ hd1000 Z8.out).mono ?_
          rintro e w9 ⟨AK, cK, he, hi, hb⟩
          rw [HV.out] at he hi
          subst he
          have K9 := hid hi
          have HB9 := hid (then_w HB8.out hb)
          have I9 := hid (I8.out.below hb)
          have Z9 := hid (Z8.out.below hb)
          have M9 := hid (M8.out.below hb)
          have N9 := hid (N8.out.below hb)
          have G9 := hid (G8.out.below hb)
          clear hb hi
          go_wp2_with fail
          refine (cpack_any11 U AG cG _ G9.out HUL.out).mono ?_
          rintro e w10 ⟨rfl, hb⟩
          rw [HPK.out]
          have HB10 := hid (HB9.out.trans (hb.mono HB9.out.size))
          have I10 := hid (I9.out.below hb)
          have Z10 := hid (Z9.out.below hb)
          have M10 := hid (M9.out.below hb)
          have N10 := hid (N9.out.below hb)
          have G10 := hid (G9.out.below hb)
          have K10 := hid (K9.out.below hb)
          clear hb
          go_wp2_with fail
          refine (cprint_any11 V AK cK _ K10.out HVL.out Z10.out).mono ?_
          rintro e w11 ⟨rfl, hb⟩
          rw [HPR.out]
          have HB11 := hid (HB10.out.trans (hb.mono HB10.out.size))
          have I11 := hid (I10.out.below hb)
          have Z11 := hid (Z10.out.below hb)
          have M11 := hid (M10.out.below hb)
          have N11 := hid (N10.out.below hb)
          have G11 := hid (G10.out.below hb)
          have K11 := hid (K10.out.below hb)
          clear hb
          rcases HUC.out with ⟨rfl, -⟩ | ⟨rfl, -, rfl⟩
          · rcases HVC.out with ⟨rfl, -⟩ | ⟨rfl, -, rfl⟩
            · go_wp2_with fail
              go_ret
              exact ⟨by first | rfl | simp, HB11.out⟩
            · go_wp2_with fail
              go_ret
              exact ⟨by first | rfl | simp, HB11.out⟩
          · rcases HVC.out with ⟨rfl, -⟩ | ⟨rfl, -, rfl⟩
            · go_wp2_with fail
              go_ret
              exact ⟨by first | rfl | simp, HB11.out⟩
            · go_wp2_with fail
              go_ret
              exact ⟨by first | rfl | simp, HB11.out⟩
end Go.Proofs.YtobelbaeaamkkaaDoor
