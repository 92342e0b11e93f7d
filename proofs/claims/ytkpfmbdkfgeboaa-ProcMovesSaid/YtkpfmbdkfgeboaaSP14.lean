/- The calls whose answers the document fixes. -/
import Derived.Test.YtkpfmbdkfgeboaaSO14
import Derived.Test.YtkpfmbdkfgeboaaSQ14
import Derived.Test.YtkpfmbdkfgeboaaMP
namespace Go.Proofs.Ytkpfmbdkfgeboaa
open Go.RowKit
set_option maxRecDepth 100000
def F1_14 : Hp := (is14 T14 0 18).1
def F2_14 : Hp := (is14 F1_14 18 20).1
def F3_14 : Hp := (is14 F2_14 20 22).1
def F4_14 : Hp := (tk14 F3_14 20).1
def F5_14 : Hp := (dr14 F4_14 18 22).1
theorem tri14 {r : Hp × Int × Int} {x y : Int} (h1 : r.2.1 = x) (h2 : r.2.2 = y) : r = (r.1, x, y) := by
  rw [← h1, ← h2]
theorem quad14 {r : Hp × Int × Int × Int} {x y z : Int} (h1 : r.2.1 = x) (h2 : r.2.2.1 = y) (h3 : r.2.2.2 = z) : r = (r.1, x, y, z) := by
  rw [← h1, ← h2, ← h3]
theorem may_t14 : mayB T14 = true := by decide +kernel
theorem may_f1_14 : mayB F1_14 = true := by decide +kernel
theorem may_f2_14 : mayB F2_14 = true := by decide +kernel
theorem may_f3_14 : mayB F3_14 = true := by decide +kernel
theorem may_f4_14 : mayB F4_14 = true := by decide +kernel
theorem may_f5_14 : mayB F5_14 = true := by decide +kernel
theorem e1_14 : is14 T14 0 18 = (F1_14, 18, 0) := tri14 (by decide +kernel) (by decide +kernel)
theorem e2_14 : is14 F1_14 18 20 = (F2_14, 20, 0) := tri14 (by decide +kernel) (by decide +kernel)
theorem e3_14 : is14 F2_14 20 22 = (F3_14, 20, 0) := tri14 (by decide +kernel) (by decide +kernel)
theorem e4_14 : lr14 F3_14 20 = ([20, 18, 22], 0) := by decide +kernel
theorem e5_14 : tk14 F3_14 20 = (F4_14, 20, 18, 0) := quad14 (by decide +kernel) (by decide +kernel) (by decide +kernel)
theorem e6_14 : dr14 F4_14 18 22 = (F5_14, 18, 0) := tri14 (by decide +kernel) (by decide +kernel)
theorem l5_14 : ls14 F5_14 18 = some [18] ∧ fr14 F5_14 18 = true := by decide +kernel
theorem e7_14 : is14 F5_14 18 18 = (F5_14, 0, 140) := jo_bad14 may_f5_14 l5_14.1 (.inr (by decide))
theorem e8_14 : tk14 F5_14 0 = (F5_14, 0, 0, 141) := tk_nil14 may_f5_14 (by decide +kernel)
theorem e9_14 : dr14 F5_14 18 20 = (F5_14, 0, 140) := dr_not14 may_f5_14 l5_14.1 (by decide)
theorem e10_14 : lr14 F5_14 24 = ([], 141) := by decide +kernel
theorem e11_14 : pc14 F5_14 18 = true ∧ pc14 F5_14 24 = false ∧ sm14 F5_14 24 = true ∧ sm14 F5_14 18 = false := by decide +kernel
set_option maxHeartbeats 4000000 in
theorem fixed14_any (w : World) : Calls Try.prog 5 #[] w fun e w' => e = .returned (.bool true) ∧ Below w.heap.size w w' := by
  go_enter Try.func5, Try.ntmps5
  go_wp2_with fail
  refine (three_any14 w).mono ?_
  rintro e w1 ⟨A, c, rfl, ho, hb⟩
  have HB1 := hid hb
  have HO1 := hid ho
  clear hb ho
  go_wp2_with fail
  refine (pinsert_any14 T14 0 18 A c w1 HO1.out (may_fit may_t14)).mono ?_
  rintro e w2 ⟨A1, c1, l1, rfl, hm, ho, hb⟩
  rw [e1_14] at hm ⊢
  have HB2 := hid (then_w HB1.out hb)
  have HO2 := hid (own_obs ho hm)
  clear hb ho hm HB1 HO1
  go_upto_region 2 with fail
  obtain ⟨w3, hw⟩ : ∃ x, x = w2.alloc (.cells #[Value.slice A1 F1_14.objs.length c1, Value.int .i64 F1_14.cap, Value.int .i64 F1_14.last] 24) := ⟨_, rfl⟩
  obtain ⟨bx, hbx⟩ : ∃ x, x = w2.heap.size := ⟨_, rfl⟩
  have HX3 : Hid (Lies w3 bx 24 #[Value.slice A1 F1_14.objs.length c1, Value.int .i64 F1_14.cap, Value.int .i64 F1_14.last]) := by show Lies _ _ _ _; rw [hw, hbx]; exact Lies.new _ _ _
  have hb : Below w2.heap.size w2 w3 := by rw [hw]; exact below_alloc _ _
  have HBX : Hid (w.heap.size ≤ bx) := by show _ ≤ _; rw [hbx]; exact HB2.out.size
  have HB3 := hid (then_w HB2.out hb)
  have HO3 := hid (HO2.out.below hb)
  rw [← hw, ← hbx]
  clear hw hbx hb HB2 HO2
  obtain ⟨x0, x1, x2⟩ := HX3.out.c3
  go_wp2_with fail
  refine (pinsert_any14 F1_14 18 20 A1 c1 w3 HO3.out (may_fit may_f1_14)).mono ?_
  rintro e w4 ⟨A2, c2, l2, rfl, hm, ho, hb⟩
  rw [e2_14] at hm ⊢
  have HB4 := hid (then_w HB3.out hb)
  have HX4 := hid (HX3.out.later hb)
  have HP4 := hid (HO3.out.below hb)
  have HO4 := hid ho
  have HM4 := hid hm
  clear ho hm hb x0 x1 x2 HB3 HX3 HO3
  obtain ⟨k0, k1, k2⟩ := HX4.out.c3
  obtain ⟨f0, f1, f2⟩ := HX4.out.f3
  go_upto_region 3 with fail
  clear k0 k1 k2 f0 f1 f2
  obtain ⟨s1, s2, s3⟩ := set3_14 HX4.out HO4.out HB4.out HBX.out (.slice A2 F2_14.objs.length c2) (.int .i64 F2_14.cap) (.int .i64 F2_14.last)
  obtain ⟨w5, hw⟩ : ∃ x, x = ((w4.setCell ⟨bx, 0, none⟩ (.slice A2 F2_14.objs.length c2)).setCell ⟨bx, 1, none⟩ (.int .i64 F2_14.cap)).setCell ⟨bx, 2, none⟩ (.int .i64 F2_14.last) := ⟨_, rfl⟩
  rw [← hw] at s1 s2 s3
  rw [← hw]
  have HX5 := hid s1
  have HO5 := hid (own_obs s2 HM4.out)
  have HB5 := hid s3
  clear hw s1 s2 s3 HX4 HO4 HB4 HM4 HP4
  obtain ⟨x0, x1, x2⟩ := HX5.out.c3
  go_wp2_with fail
  refine (pinsert_any14 F2_14 20 22 A2 c2 w5 HO5.out (may_fit may_f2_14)).mono ?_
  rintro e w6 ⟨A3, c3, l3, rfl, hm, ho, hb⟩
  rw [e3_14] at hm ⊢
  have HB6 := hid (then_w HB5.out hb)
  have HX6 := hid (HX5.out.later hb)
  have HP6 := hid (HO5.out.below hb)
  have HO6 := hid ho
  have HM6 := hid hm
  clear ho hm hb x0 x1 x2 HB5 HX5 HO5
  obtain ⟨k0, k1, k2⟩ := HX6.out.c3
  obtain ⟨f0, f1, f2⟩ := HX6.out.f3
  go_upto_region 4 with fail
  clear k0 k1 k2 f0 f1 f2
  obtain ⟨s1, s2, s3⟩ := set3_14 HX6.out HO6.out HB6.out HBX.out (.slice A3 F3_14.objs.length c3) (.int .i64 F3_14.cap) (.int .i64 F3_14.last)
  obtain ⟨w7, hw⟩ : ∃ x, x = ((w6.setCell ⟨bx, 0, none⟩ (.slice A3 F3_14.objs.length c3)).setCell ⟨bx, 1, none⟩ (.int .i64 F3_14.cap)).setCell ⟨bx, 2, none⟩ (.int .i64 F3_14.last) := ⟨_, rfl⟩
  rw [← hw] at s1 s2 s3
  rw [← hw]
  have HX7 := hid s1
  have HO7 := hid (own_obs s2 HM6.out)
  have HB7 := hid s3
  clear hw s1 s2 s3 HX6 HO6 HB6 HM6 HP6
  obtain ⟨x0, x1, x2⟩ := HX7.out.c3
  go_wp2_with fail
  refine (plist_any14 F3_14 20 A3 c3 w7 HO7.out (may_fit may_f3_14)).mono ?_
  rintro e w8 ⟨S, cl, rfl, hol, hb⟩
  rw [e4_14] at hol ⊢
  have HB8 := hid (then_w HB7.out hb)
  have HX8 := hid (HX7.out.later hb)
  have HO8 := hid (HO7.out.below hb)
  have HI := hid ((own_ints hol).below (below_alloc w8 (.cells #[.int .i64 20, .int .i64 18, .int .i64 22] 3)))
  clear hol hb x0 x1 x2 HB7 HX7 HO7
  go_wp2_with fail
  refine (rints_any [20, 18, 22] [20, 18, 22] S (some ⟨w8.heap.size, 0, none⟩) cl 3 _ HI.out (lies_ints14 (Lies.new w8 3 #[.int .i64 20, .int .i64 18, .int .i64 22]) rfl) (by decide)).mono ?_
  rintro e w9 ⟨rfl, hb2⟩
  have hb := then_w (below_alloc w8 (.cells #[.int .i64 20, .int .i64 18, .int .i64 22] 3)) hb2
  rw [show decide (([20, 18, 22] : List Int) = [20, 18, 22]) = true from by decide]
  have HB9 := hid (then_w HB8.out hb)
  have HX9 := hid (HX8.out.later hb)
  have HO9 := hid (HO8.out.below hb)
  clear hb hb2 HI HB8 HX8 HO8
  obtain ⟨x0, x1, x2⟩ := HX9.out.c3
  go_wp2_with fail
  refine (ptake_any14 F3_14 20 A3 c3 w9 HO9.out (may_fit may_f3_14)).mono ?_
  rintro e w10 ⟨A4, c4, l4, rfl, hm, ho, hb⟩
  rw [e5_14] at hm ⊢
  have HB10 := hid (then_w HB9.out hb)
  have HX10 := hid (HX9.out.later hb)
  have HP10 := hid (HO9.out.below hb)
  have HO10 := hid ho
  have HM10 := hid hm
  clear ho hm hb x0 x1 x2 HB9 HX9 HO9
  obtain ⟨k0, k1, k2⟩ := HX10.out.c3
  obtain ⟨f0, f1, f2⟩ := HX10.out.f3
  go_upto_region 8 with fail
  clear k0 k1 k2 f0 f1 f2
  obtain ⟨s1, s2, s3⟩ := set3_14 HX10.out HO10.out HB10.out HBX.out (.slice A4 F4_14.objs.length c4) (.int .i64 F4_14.cap) (.int .i64 F4_14.last)
  obtain ⟨w11, hw⟩ : ∃ x, x = ((w10.setCell ⟨bx, 0, none⟩ (.slice A4 F4_14.objs.length c4)).setCell ⟨bx, 1, none⟩ (.int .i64 F4_14.cap)).setCell ⟨bx, 2, none⟩ (.int .i64 F4_14.last) := ⟨_, rfl⟩
  rw [← hw] at s1 s2 s3
  rw [← hw]
  have HX11 := hid s1
  have HO11 := hid (own_obs s2 HM10.out)
  have HB11 := hid s3
  clear hw s1 s2 s3 HX10 HO10 HB10 HM10 HP10
  obtain ⟨x0, x1, x2⟩ := HX11.out.c3
  go_wp2_with fail
  refine (pdrop_any14 F4_14 18 22 A4 c4 w11 HO11.out (may_fit may_f4_14)).mono ?_
  rintro e w12 ⟨A5, c5, l5, rfl, hm, ho, hb⟩
  rw [e6_14] at hm ⊢
  have HB12 := hid (then_w HB11.out hb)
  have HX12 := hid (HX11.out.later hb)
  have HP12 := hid (HO11.out.below hb)
  have HO12 := hid ho
  have HM12 := hid hm
  clear ho hm hb x0 x1 x2 HB11 HX11 HO11
  obtain ⟨k0, k1, k2⟩ := HX12.out.c3
  obtain ⟨f0, f1, f2⟩ := HX12.out.f3
  go_upto_region 9 with fail
  clear k0 k1 k2 f0 f1 f2
  obtain ⟨s1, s2, s3⟩ := set3_14 HX12.out HO12.out HB12.out HBX.out (.slice A5 F5_14.objs.length c5) (.int .i64 F5_14.cap) (.int .i64 F5_14.last)
  obtain ⟨w13, hw⟩ : ∃ x, x = ((w12.setCell ⟨bx, 0, none⟩ (.slice A5 F5_14.objs.length c5)).setCell ⟨bx, 1, none⟩ (.int .i64 F5_14.cap)).setCell ⟨bx, 2, none⟩ (.int .i64 F5_14.last) := ⟨_, rfl⟩
  rw [← hw] at s1 s2 s3
  rw [← hw]
  have HX13 := hid s1
  have HO13 := hid (own_obs s2 HM12.out)
  have HB13 := hid s3
  clear hw s1 s2 s3 HX12 HO12 HB12 HM12 HP12
  obtain ⟨x0, x1, x2⟩ := HX13.out.c3
  go_wp2_with fail
  refine (pinsert_any14 F5_14 18 18 A5 c5 w13 HO13.out (may_fit may_f5_14)).mono ?_
  rintro e w14 ⟨A6, c6, l6, rfl, hm, ho, hb⟩
  rw [e7_14] at hm ⊢
  have HB14 := hid (then_w HB13.out hb)
  have HX14 := hid (HX13.out.later hb)
  have HP14 := hid (HO13.out.below hb)
  have HO14 := hid ho
  have HM14 := hid hm
  clear ho hm hb x0 x1 x2 HB13 HX13 HO13
  go_upto_region 10 with fail
  obtain ⟨w15, hw⟩ : ∃ x, x = w14.alloc (.cells #[Value.slice A6 F5_14.objs.length c6, Value.int .i64 F5_14.cap, Value.int .i64 F5_14.last] 24) := ⟨_, rfl⟩
  have hb : Below w14.heap.size w14 w15 := by rw [hw]; exact below_alloc _ _
  have HX15 := hid (HX14.out.later hb)
  have HO15 := hid (HP14.out.below hb)
  have HB15 := hid (then_w HB14.out hb)
  rw [← hw]
  clear hw hb HX14 HO14 HB14 HM14 HP14
  obtain ⟨x0, x1, x2⟩ := HX15.out.c3
  go_wp2_with fail
  refine (ptake_any14 F5_14 0 A5 c5 w15 HO15.out (may_fit may_f5_14)).mono ?_
  rintro e w16 ⟨A7, c7, l7, rfl, hm, ho, hb⟩
  rw [e8_14] at hm ⊢
  have HB16 := hid (then_w HB15.out hb)
  have HX16 := hid (HX15.out.later hb)
  have HP16 := hid (HO15.out.below hb)
  have HO16 := hid ho
  have HM16 := hid hm
  clear ho hm hb x0 x1 x2 HB15 HX15 HO15
  go_upto_region 11 with fail
  obtain ⟨w17, hw⟩ : ∃ x, x = w16.alloc (.cells #[Value.slice A7 F5_14.objs.length c7, Value.int .i64 F5_14.cap, Value.int .i64 F5_14.last] 24) := ⟨_, rfl⟩
  have hb : Below w16.heap.size w16 w17 := by rw [hw]; exact below_alloc _ _
  have HX17 := hid (HX16.out.later hb)
  have HO17 := hid (HP16.out.below hb)
  have HB17 := hid (then_w HB16.out hb)
  rw [← hw]
  clear hw hb HX16 HO16 HB16 HM16 HP16
  obtain ⟨x0, x1, x2⟩ := HX17.out.c3
  go_wp2_with fail
  refine (pdrop_any14 F5_14 18 20 A5 c5 w17 HO17.out (may_fit may_f5_14)).mono ?_
  rintro e w18 ⟨A8, c8, l8, rfl, hm, ho, hb⟩
  rw [e9_14] at hm ⊢
  have HB18 := hid (then_w HB17.out hb)
  have HX18 := hid (HX17.out.later hb)
  have HP18 := hid (HO17.out.below hb)
  have HO18 := hid ho
  have HM18 := hid hm
  clear ho hm hb x0 x1 x2 HB17 HX17 HO17
  go_upto_region 12 with fail
  obtain ⟨w19, hw⟩ : ∃ x, x = w18.alloc (.cells #[Value.slice A8 F5_14.objs.length c8, Value.int .i64 F5_14.cap, Value.int .i64 F5_14.last] 24) := ⟨_, rfl⟩
  have hb : Below w18.heap.size w18 w19 := by rw [hw]; exact below_alloc _ _
  have HX19 := hid (HX18.out.later hb)
  have HO19 := hid (HP18.out.below hb)
  have HB19 := hid (then_w HB18.out hb)
  rw [← hw]
  clear hw hb HX18 HO18 HB18 HM18 HP18
  obtain ⟨x0, x1, x2⟩ := HX19.out.c3
  go_wp2_with fail
  refine (plist_any14 F5_14 24 A5 c5 w19 HO19.out (may_fit may_f5_14)).mono ?_
  rintro e w20 ⟨S2, cl2, rfl, hol, hb⟩
  rw [e10_14] at hol ⊢
  have HB20 := hid (then_w HB19.out hb)
  have HX20 := hid (HX19.out.later hb)
  have HO20 := hid (HO19.out.below hb)
  clear hol hb x0 x1 x2 HB19 HX19 HO19
  obtain ⟨x0, x1, x2⟩ := HX20.out.c3
  go_wp2_with fail
  refine (pmay_any14 F5_14 18 A5 c5 w20 HO20.out (may_fit may_f5_14) may_f5_14).mono ?_
  rintro e w21 ⟨rfl, hb⟩
  rw [e11_14.1]
  have HB21 := hid (then_w HB20.out hb)
  have HX21 := hid (HX20.out.later hb)
  have HO21 := hid (HO20.out.below hb)
  clear hb x0 x1 x2 HB20 HX20 HO20
  obtain ⟨x0, x1, x2⟩ := HX21.out.c3
  go_wp2_with fail
  refine (pmay_any14 F5_14 24 A5 c5 w21 HO21.out (may_fit may_f5_14) may_f5_14).mono ?_
  rintro e w22 ⟨rfl, hb⟩
  rw [e11_14.2.1]
  have HB22 := hid (then_w HB21.out hb)
  have HX22 := hid (HX21.out.later hb)
  have HO22 := hid (HO21.out.below hb)
  clear hb x0 x1 x2 HB21 HX21 HO21
  obtain ⟨x0, x1, x2⟩ := HX22.out.c3
  go_wp2_with fail
  refine (psem_any14 F5_14 24 A5 c5 w22 HO22.out (may_fit may_f5_14) may_f5_14).mono ?_
  rintro e w23 ⟨rfl, hb⟩
  rw [e11_14.2.2.1]
  have HB23 := hid (then_w HB22.out hb)
  have HX23 := hid (HX22.out.later hb)
  have HO23 := hid (HO22.out.below hb)
  clear hb x0 x1 x2 HB22 HX22 HO22
  obtain ⟨x0, x1, x2⟩ := HX23.out.c3
  go_wp2_with fail
  refine (psem_any14 F5_14 18 A5 c5 w23 HO23.out (may_fit may_f5_14) may_f5_14).mono ?_
  rintro e w24 ⟨rfl, hb⟩
  rw [e11_14.2.2.2]
  have HB24 := hid (then_w HB23.out hb)
  have HX24 := hid (HX23.out.later hb)
  have HO24 := hid (HO23.out.below hb)
  clear hb x0 x1 x2 HB23 HX23 HO23
  go_wp2_with fail
  go_ret
  exact ⟨rfl, HB24.out⟩
end Go.Proofs.Ytkpfmbdkfgeboaa
