/- CodeWider walked: whatever instructions and numbers, it answers true. -/
import Derived.Test.YtobelbaeaamkkaaDoorSQ11
import Derived.Test.YtobelbaeaamkkaaDoorSL11
namespace Go.Proofs.YtobelbaeaamkkaaDoor
open Go.RowKit
set_option maxRecDepth 100000
set_option maxHeartbeats 1500000 in
theorem wider11_any (l : List In) (lits temps : Int) (A : Option Addr) (c : Nat) (w : World) (hs : InsR w A l) (hv : Vr11 w) (hn : A = none → c = 0) (_fl : l.length ≤ 9223372036854775807) :
    Calls Tryd.prog 6 #[.slice A l.length c, .int .i64 lits, .int .i64 temps] w fun e w' => e = .returned (.bool true) ∧ Below w.heap.size w w' := by
  have HB0 := hid (Below.refl w.heap.size w)
  have I0 := hid hs
  have Z0 := hid hv
  clear hs hv
  have HNL := hid hn
  clear hn
  go_enter Tryd.func6, Tryd.ntmps6
  go_wp2_with fail
  refine (fixed11_any _ Z0.out).mono ?_
  rintro e w1 ⟨rfl, hb⟩
  have HB1 := hid (HB0.out.trans (hb.mono HB0.out.size))
  have I1 := hid (I0.out.below hb)
  have Z1 := hid (Z0.out.below hb)
  clear hb
  by_cases q1 : 50 < l.length
  · go_wp2_with fail
    refine (fixed11_any _ Z1.out).mono ?_
    rintro e w2 ⟨rfl, hb⟩
    have HB2 := hid (HB1.out.trans (hb.mono HB1.out.size))
    have I2 := hid (I1.out.below hb)
    have Z2 := hid (Z1.out.below hb)
    clear hb
    go_wp2_with fail
    go_ret
    exact ⟨rfl, HB2.out⟩
  · by_cases q2 : lits < 0
    · go_wp2_with fail
      refine (fixed11_any _ Z1.out).mono ?_
      rintro e w2 ⟨rfl, hb⟩
      have HB2 := hid (HB1.out.trans (hb.mono HB1.out.size))
      have I2 := hid (I1.out.below hb)
      have Z2 := hid (Z1.out.below hb)
      clear hb
      go_wp2_with fail
      go_ret
      exact ⟨rfl, HB2.out⟩
    · by_cases q3 : 1000 < lits
      · go_wp2_with fail
        refine (fixed11_any _ Z1.out).mono ?_
        rintro e w2 ⟨rfl, hb⟩
        have HB2 := hid (HB1.out.trans (hb.mono HB1.out.size))
        have I2 := hid (I1.out.below hb)
        have Z2 := hid (Z1.out.below hb)
        clear hb
        go_wp2_with fail
        go_ret
        exact ⟨rfl, HB2.out⟩
      · by_cases q4 : temps < 0
        · go_wp2_with fail
          refine (fixed11_any _ Z1.out).mono ?_
          rintro e w2 ⟨rfl, hb⟩
          have HB2 := hid (HB1.out.trans (hb.mono HB1.out.size))
          have I2 := hid (I1.out.below hb)
          have Z2 := hid (Z1.out.below hb)
          clear hb
          go_wp2_with fail
          go_ret
          exact ⟨rfl, HB2.out⟩
        · by_cases q5 : 1000 < temps
          · go_wp2_with fail
            refine (fixed11_any _ Z1.out).mono ?_
            rintro e w2 ⟨rfl, hb⟩
            have HB2 := hid (HB1.out.trans (hb.mono HB1.out.size))
            have I2 := hid (I1.out.below hb)
            have Z2 := hid (Z1.out.below hb)
            clear hb
            go_wp2_with fail
            go_ret
            exact ⟨rfl, HB2.out⟩
          · have hl : l.length ≤ 1000 := by omega
            obtain ⟨r, hr⟩ : ∃ r, r = ck11 l lits temps := ⟨_, rfl⟩
            have HR := hid hr
            clear hr
            go_wp2_with fail
            refine (ccheck_any11 l lits temps A c _ I1.out hl).mono ?_
            rintro e w2 ⟨rfl, hb⟩
            rw [← HR.out]
            have HB2 := hid (HB1.out.trans (hb.mono HB1.out.size))
            have I2 := hid (I1.out.below hb)
            have Z2 := hid (Z1.out.below hb)
            clear hb
            by_cases hr0 : r = 0
            · subst hr0
              have K0 : Hid (ck11 l lits temps = 0) := HR.out.symm
              have K1 := hid (ck_more11 (a' := lits + 1) (b' := temps) (by omega) (by omega) K0.out)
              have K2 := hid (ck_more11 (a' := lits) (b' := temps + 1) (by omega) (by omega) K0.out)
              have W1 : IntKind.i64.wrap (lits + 1) = lits + 1 := IntWalk.i64_in _ ⟨by omega, by omega⟩
              have W2 : IntKind.i64.wrap (temps + 1) = temps + 1 := IntWalk.i64_in _ ⟨by omega, by omega⟩
              clear HR
              go_wp2_with fail
              refine (ccheck_any11 l (lits + 1) temps A c _ I2.out hl).mono ?_
              rintro e w3 ⟨rfl, hb⟩
              rw [K1.out]
              have HB3 := hid (HB2.out.trans (hb.mono HB2.out.size))
              have I3 := hid (I2.out.below hb)
              have Z3 := hid (Z2.out.below hb)
              clear hb
              go_wp2_with fail
              refine (ccheck_any11 l lits (temps + 1) A c _ I3.out hl).mono ?_
              rintro e w4 ⟨rfl, hb⟩
              rw [K2.out]
              have HB4 := hid (HB3.out.trans (hb.mono HB3.out.size))
              have I4 := hid (I3.out.below hb)
              have Z4 := hid (Z3.out.below hb)
              clear hb
              have E0 : (w4.alloc (.cells #[] 34)).ownsRow w4.heap.size 34 2 (.slice (some ⟨w4.heap.size, 0, none⟩) 0 0) ([] : List In).length (([] : List In).flatMap in211) := own_empty11 w4
              obtain ⟨v1, u1, hr1, ho1, hb1⟩ := own_appl11 (w0 := w4) E0 l A c (I4.out.below (below_alloc _ _)) HNL.out (by decide) (by omega) (below_alloc _ _)
              have L2 := Lies.new u1 34 #[.int .i64 7, .int .i64 0]
              obtain ⟨v2, u2, hr2, ho2, hb2⟩ := own_app11 (w0 := w4) (own_later ho1 (below_alloc u1 (.cells #[.int .i64 7, .int .i64 0] 34))) ⟨7, 0⟩ u1.heap.size L2 (by rw [List.nil_append]; omega) (then_w hb1 (below_alloc _ _))
              rw [List.nil_append] at ho2
              have RA := hid hr1
              have RB := hid hr2
              obtain ⟨A2, c2, hv2, hin2, -⟩ := own_ins11 ho2
              have HV2 := hid hv2
              have IN2 := hid hin2
              have HBB := hid (then_w HB4.out hb2)
              have IO2 := hid (I4.out.below hb2)
              have ZO2 := hid (Z4.out.below hb2)
              clear E0 hr1 ho1 hb1 L2 hr2 ho2 hb2 hv2 hin2
              go_wp2_with (first | (with_reducible (show wpList _ _ _ ({ dst := some 55, op := _, type := _, pos := _, after := _, guard := _ } :: _) _ _); refine wpList_append_want12 (by kernel_rfl) (.tmp 53) (.tmp 54) 22 22 rfl rfl (.slice (some ⟨w4.heap.size, 0, none⟩) 0 0) (.slice A l.length c) (by kernel_rfl) (by kernel_rfl) v1 u1 RA.out ?_) | (with_reducible (show wpList _ _ _ ({ dst := some 58, op := _, type := _, pos := _, after := _, guard := _ } :: _) _ _); refine wpList_append_want12 (by kernel_rfl) (.tmp 55) (.tmp 57) 22 22 rfl rfl v1 (.slice (some ⟨u1.heap.size, 0, none⟩) 1 1) (by kernel_rfl) (by kernel_rfl) v2 u2 RB.out ?_))
              rw [HV2.out]
              clear RA RB HV2
              have hl7 : (l ++ [(⟨7, 0⟩ : In)]).length ≤ 1000 := by rw [List.length_append]; show _ + 1 ≤ _; omega
              have HC := hid (ccheck_any11 (l ++ [⟨7, 0⟩]) lits temps A2 c2 u2 IN2.out hl7)
              clear hl7
              refine HC.out.mono ?_
              clear HC
              rintro e w5 ⟨rfl, hb⟩
              rw [ck_dup11]
              have HB5 := hid (then_w HBB.out hb)
              have I5 := hid (IO2.out.below hb)
              have Z5 := hid (ZO2.out.below hb)
              clear hb HBB IO2 ZO2 IN2
              by_cases h32 : 32 ≤ l.length
              · have h32I : (32 : Int) ≤ (l.length : Int) := by omega
                go_wp2_with fail
                go_ret
                exact ⟨by first | rfl | simp, HB5.out⟩
              · have h32I : ¬ (32 : Int) ≤ (l.length : Int) := by omega
                have K3 := hid (ck_return11 (by omega) K0.out)
                have HD : Hid (decide ((32 : Int) ≤ (l.length : Int)) = false) := decide_eq_false h32I
                have E0 : (w5.alloc (.cells #[] 34)).ownsRow w5.heap.size 34 2 (.slice (some ⟨w5.heap.size, 0, none⟩) 0 0) ([] : List In).length (([] : List In).flatMap in211) := own_empty11 w5
                obtain ⟨v1, u1, hr1, ho1, hb1⟩ := own_appl11 (w0 := w5) E0 l A c (I5.out.below (below_alloc _ _)) HNL.out (by decide) (by omega) (below_alloc _ _)
                have L2 := Lies.new u1 34 #[.int .i64 14, .int .i64 0]
                obtain ⟨v2, u2, hr2, ho2, hb2⟩ := own_app11 (w0 := w5) (own_later ho1 (below_alloc u1 (.cells #[.int .i64 14, .int .i64 0] 34))) ⟨14, 0⟩ u1.heap.size L2 (by rw [List.nil_append]; omega) (then_w hb1 (below_alloc _ _))
                rw [List.nil_append] at ho2
                have RA := hid hr1
                have RB := hid hr2
                obtain ⟨A2, c2, hv2, hin2, -⟩ := own_ins11 ho2
                have HV2 := hid hv2
                have IN2 := hid hin2
                have HBB := hid (then_w HB5.out hb2)
                have IO2 := hid (I5.out.below hb2)
                have ZO2 := hid (Z5.out.below hb2)
                clear E0 hr1 ho1 hb1 L2 hr2 ho2 hb2 hv2 hin2
                go_wp2_with (first | (with_reducible (show wpList _ _ _ ({ dst := some 70, op := _, type := _, pos := _, after := _, guard := _ } :: _) _ _); (try rw [HD.out]); refine wpList_append_want12 (by kernel_rfl) (.tmp 68) (.tmp 69) 22 22 rfl rfl (.slice (some ⟨w5.heap.size, 0, none⟩) 0 0) (.slice A l.length c) (by kernel_rfl) (by kernel_rfl) v1 u1 RA.out ?_) | (with_reducible (show wpList _ _ _ ({ dst := some 73, op := _, type := _, pos := _, after := _, guard := _ } :: _) _ _); (try rw [HD.out]); refine wpList_append_want12 (by kernel_rfl) (.tmp 70) (.tmp 72) 22 22 rfl rfl v1 (.slice (some ⟨u1.heap.size, 0, none⟩) 1 1) (by kernel_rfl) (by kernel_rfl) v2 u2 RB.out ?_))
                rw [HV2.out]
                clear RA RB HV2
                have hl7 : (l ++ [(⟨14, 0⟩ : In)]).length ≤ 1000 := by rw [List.length_append]; show _ + 1 ≤ _; omega
                have HC := hid (ccheck_any11 (l ++ [⟨14, 0⟩]) lits temps A2 c2 u2 IN2.out hl7)
                clear hl7
                refine HC.out.mono ?_
                clear HC
                rintro e w6 ⟨rfl, hb⟩
                rw [K3.out]
                have HB6 := hid (then_w HBB.out hb)
                have I6 := hid (IO2.out.below hb)
                have Z6 := hid (ZO2.out.below hb)
                clear hb HBB IO2 ZO2 IN2
                go_wp2_with fail
                go_ret
                exact ⟨by first | rfl | simp, HB6.out⟩
            · have hr0B : (r == 0) = false := beq_eq_false_iff_ne.2 hr0
              have hr0C : (r != 0) = true := bne_iff_ne.2 hr0
              go_wp2_with fail
              refine (fixed11_any _ Z2.out).mono ?_
              rintro e w3 ⟨rfl, hb⟩
              have HB3 := hid (HB2.out.trans (hb.mono HB2.out.size))
              have I3 := hid (I2.out.below hb)
              have Z3 := hid (Z2.out.below hb)
              clear hb
              go_wp2_with fail
              go_ret
              exact ⟨rfl, HB3.out⟩
end Go.Proofs.YtobelbaeaamkkaaDoor
