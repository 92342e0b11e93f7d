/- CodeReads walked: whatever instructions, it answers true. -/
import Derived.Test.YtobelbaeaamkkaaDoorSQ11
namespace Go.Proofs.YtobelbaeaamkkaaDoor
open Go.RowKit
set_option maxRecDepth 100000
set_option maxHeartbeats 1500000 in
theorem reads11_any (l : List In) (A : Option Addr) (c : Nat) (w : World) (hs : InsR w A l) (hv : Vr11 w) (_fl : l.length ≤ 9223372036854775807) :
    Calls Tryd.prog 8 #[.slice A l.length c] w fun e w' => e = .returned (.bool true) ∧ Below w.heap.size w w' := by
  have HB0 := hid (Below.refl w.heap.size w)
  have I0 := hid hs
  have Z0 := hid hv
  clear hs hv
  go_enter Tryd.func8, Tryd.ntmps8
  go_wp2_with fail
  refine (fixed11_any _ Z0.out).mono ?_
  rintro e w1 ⟨rfl, hb⟩
  have HB1 := hid (HB0.out.trans (hb.mono HB0.out.size))
  have I1 := hid (I0.out.below hb)
  have Z1 := hid (Z0.out.below hb)
  clear hb
  by_cases q1 : 50 < l.length
  · go_wp2_with fail
    refine (fixed11_any _ Z1.out).mono ?_
    rintro e w2 ⟨rfl, hb⟩
    have HB2 := hid (HB1.out.trans (hb.mono HB1.out.size))
    have I2 := hid (I1.out.below hb)
    have Z2 := hid (Z1.out.below hb)
    clear hb
    go_wp2_with fail
    go_ret
    exact ⟨rfl, HB2.out⟩
  · have hl : l.length ≤ 1000 := by omega
    cases ha : all11 l
    · have HP : Hid (Pk11 l = ([], 110)) := by show _ = _; unfold Pk11; rw [ha]; rfl
      have HR : Hid (Pr11 l = ([], 110)) := by show _ = _; unfold Pr11; rw [ha]; rfl
      have hz := txt_list11 []
      clear ha
      go_wp2_with fail
      refine (cpack_any11 l A c _ I1.out hl).mono ?_
      rintro e w2 ⟨rfl, hb⟩
      rw [HP.out]
      have HB2 := hid (HB1.out.trans (hb.mono HB1.out.size))
      have I2 := hid (I1.out.below hb)
      have Z2 := hid (Z1.out.below hb)
      clear hb
      go_wp2_with fail
      refine (cprint_any11 l A c _ I2.out hl Z2.out).mono ?_
      rintro e w3 ⟨rfl, hb⟩
      rw [HR.out]
      have HB3 := hid (HB2.out.trans (hb.mono HB2.out.size))
      have I3 := hid (I2.out.below hb)
      have Z3 := hid (Z2.out.below hb)
      clear hb
      go_wp2_with fail
      go_ret
      exact ⟨by first | rfl | simp, HB3.out⟩
    · have HP : Hid (Pk11 l = (pk11 l, 0)) := by show _ = _; unfold Pk11; rw [if_pos ha]
      have HR : Hid (Pr11 l = (pr11 l, 0)) := by show _ = _; unfold Pr11; rw [if_pos ha]
      have HU := hid (up_pk11 ha)
      have HA := hid (pa_pr11 ha)
      have h32 := all_len11 ha
      have HY : Hid ((pk11 l).length ≤ 1000) := by show _ ≤ _; rw [pk_len11]; omega
      have HX : Hid ((pr11 l).length ≤ 1000) := by have := pr_len11 (all_may11 ha); show _ ≤ _; omega
      obtain ⟨X, hX⟩ : ∃ X, X = pr11 l := ⟨_, rfl⟩
      obtain ⟨Y, hY⟩ : ∃ Y, Y = pk11 l := ⟨_, rfl⟩
      rw [← hX] at HR HA HX
      rw [← hY] at HP HU HY
      clear ha hX hY
      go_wp2_with fail
      refine (cpack_any11 l A c _ I1.out hl).mono ?_
      rintro e w2 ⟨rfl, hb⟩
      rw [HP.out]
      have HB2 := hid (HB1.out.trans (hb.mono HB1.out.size))
      have I2 := hid (I1.out.below hb)
      have Z2 := hid (Z1.out.below hb)
      clear hb
      go_wp2_with fail
      refine (cprint_any11 l A c _ I2.out hl Z2.out).mono ?_
      rintro e w3 ⟨rfl, hb⟩
      rw [HR.out]
      have HB3 := hid (HB2.out.trans (hb.mono HB2.out.size))
      have I3 := hid (I2.out.below hb)
      have Z3 := hid (Z2.out.below hb)
      clear hb
      go_wp2_with fail
      refine (cunpack_any11 Y _ HY.out).mono ?_
      rintro e w4 ⟨AU, cU, he, hi, hb⟩
      rw [HU.out] at he hi
      subst he
      have U4 := hid hi
      have HB4 := hid (then_w HB3.out hb)
      have I4 := hid (I3.out.below hb)
      have Z4 := hid (Z3.out.below hb)
      clear hb hi
      go_wp2_with fail
      refine (cprint_any11 l AU cU _ U4.out hl Z4.out).mono ?_
      rintro e w5 ⟨rfl, hb⟩
      rw [HR.out]
      have HB5 := hid (HB4.out.trans (hb.mono HB4.out.size))
      have I5 := hid (I4.out.below hb)
      have Z5 := hid (Z4.out.below hb)
      have U5 := hid (U4.out.below hb)
      clear hb
      go_wp2_with fail
      refine (cparse_any11 X _ HX.out Z5.out).mono ?_
      rintro e w6 ⟨AV, cV, he, hi, hb⟩
      rw [HA.out] at he hi
      subst he
      have V6 := hid hi
      have HB6 := hid (then_w HB5.out hb)
      have I6 := hid (I5.out.below hb)
      have Z6 := hid (Z5.out.below hb)
      have U6 := hid (U5.out.below hb)
      clear hb hi
      go_wp2_with fail
      refine (cpack_any11 l AV cV _ V6.out hl).mono ?_
      rintro e w7 ⟨rfl, hb⟩
      rw [HP.out]
      have HB7 := hid (HB6.out.trans (hb.mono HB6.out.size))
      have I7 := hid (I6.out.below hb)
      have Z7 := hid (Z6.out.below hb)
      have U7 := hid (U6.out.below hb)
      have V7 := hid (V6.out.below hb)
      clear hb
      go_wp2_with fail
      refine (same_any11 l l AV A cV c _ V7.out I7.out hl hl).mono ?_
      rintro e w8 ⟨rfl, hb⟩
      rw [decide_eq_true (rfl : l = l)]
      have HB8 := hid (HB7.out.trans (hb.mono HB7.out.size))
      have I8 := hid (I7.out.below hb)
      have Z8 := hid (Z7.out.below hb)
      have U8 := hid (U7.out.below hb)
      have V8 := hid (V7.out.below hb)
      clear hb
      go_wp2_with fail
      go_ret
      exact ⟨by first | rfl | simp, HB8.out⟩
end Go.Proofs.YtobelbaeaamkkaaDoor
