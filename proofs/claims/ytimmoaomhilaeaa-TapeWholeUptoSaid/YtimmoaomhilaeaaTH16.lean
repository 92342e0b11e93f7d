/- The calls whose answers the document fixes: all are as it says. -/
import Derived.Test.YtimmoaomhilaeaaTG16
namespace Go.Proofs.Ytimmoaomhilaeaa
open Go.RowKit
set_option maxRecDepth 100000
set_option maxHeartbeats 4000000 in
theorem fixed16_any (w : World) : Calls Try.prog 7 #[] w fun e w' => e = .returned (.bool true) ∧ Below w.heap.size w w' := by
  obtain ⟨wa, hwa⟩ : ∃ x, x = w.alloc (.cells #[.int .i64 5] 3) := ⟨_, rfl⟩
  obtain ⟨wb, hwb⟩ : ∃ x, x = wa.alloc (.cells #[.int .i64 7] 3) := ⟨_, rfl⟩
  obtain ⟨A, hA⟩ : ∃ x, x = w.heap.size := ⟨_, rfl⟩
  obtain ⟨B, hB⟩ : ∃ x, x = wa.heap.size := ⟨_, rfl⟩
  have hB2 : B = w.heap.size + 1 := by rw [hB, hwa]; simp
  obtain ⟨w1, hw1⟩ : ∃ x, x = wb.alloc (.cells #[.slice (some ⟨A, 0, none⟩) 1 1, .slice (some ⟨B, 0, none⟩) 1 1] 24) := ⟨_, rfl⟩
  obtain ⟨bt, hbt⟩ : ∃ x, x = wb.heap.size := ⟨_, rfl⟩
  have hbt2 : bt = w.heap.size + 2 := by rw [hbt, hwb]; simp [← hB, hB2]
  have LA : Lies w1 A 3 #[.int .i64 5] := by rw [hw1, hwb, hwa, hA]; exact ((Lies.new _ _ _).alloc _).alloc _
  have LB : Lies w1 B 3 #[.int .i64 7] := by rw [hw1, hwb, hB]; exact (Lies.new _ _ _).alloc _
  have T1 : Hid (Lies w1 bt 24 #[.slice (some ⟨A, 0, none⟩) 1 1, .slice (some ⟨B, 0, none⟩) 1 1]) := by show Lies _ _ _ _; rw [hw1, hbt]; exact Lies.new _ _ _
  have HB1 : Hid (Below w.heap.size w w1) := by show Below _ _ _; rw [hw1, hwb, hwa]; exact ((below_alloc _ _).alloc (by simp) _).alloc (by simp; omega) _
  have RA1 := hid (ints_lies16 LA)
  have RB1 := hid (ints_lies16 LB)
  have hw2 : w1 = ((w.alloc (.cells #[.int .i64 5] 3)).alloc (.cells #[.int .i64 7] 3)).alloc (.cells #[.slice (some ⟨w.heap.size, 0, none⟩) 1 1, .slice (some ⟨w.heap.size + 1, 0, none⟩) 1 1] 24) := by rw [hw1, hwb, hwa, hB2, hA]
  clear LA LB hw1 hwb hwa hB hbt hB2
  go_enter Try.func7, Try.ntmps7
  go_upto_region 2 with fail
  rw [← hw2, ← hbt2]
  clear hw2 hbt2 hA
  have nsA : ∀ (x : Nat), (some (⟨x, 0, none⟩ : Addr)) = none → 1 = 0 := fun x h => by cases h
  have t_0 := T1.out.cell 0
  have t_1 := T1.out.cell 1
  simp only [List.getElem?_toArray, List.getElem?_cons_zero, List.getElem?_cons_succ] at t_0 t_1
  go_wp2_with fail
  refine (pdrawE (t := ⟨[5], [7]⟩) (u := ⟨[5], [7]⟩) (k := 0) (n := 5) (er := 0) ⟨by decide, by kernel_rfl, by decide⟩ rfl rfl rfl rfl (some ⟨A, 0, none⟩) (some ⟨B, 0, none⟩) 1 1 _ RA1.out RB1.out (nsA A) (nsA B) (Nat.le_refl _) (Nat.le_refl _) (by decide)).mono ?_
  rintro e w2 ⟨Pu, pu, Qu, qu, rfl, hP, hQ, nP, nQ, lP, lQ, hb⟩
  clear t_0 t_1
  have HB2 := hid (then_w HB1.out hb)
  have T2 := hid (T1.out.later hb)
  have RA2 := hid (RA1.out.below hb)
  have RB2 := hid (RB1.out.below hb)
  clear hb
  clear HB1 T1 RA1 RB1
  have RPu_2 := hid hP
  clear hP
  have RQu_2 := hid hQ
  clear hQ
  have NPu := hid nP
  have NQu := hid nQ
  have LPu := hid lP
  have LQu := hid lQ
  clear nP nQ lP lQ
  go_upto_region 3 with fail
  obtain ⟨w3, hw⟩ : ∃ x, x = w2.alloc (.cells #[.slice Pu 1 pu, .slice Qu 1 qu] 24) := ⟨_, rfl⟩
  obtain ⟨bu, hbx⟩ : ∃ x, x = w2.heap.size := ⟨_, rfl⟩
  have U3 : Hid (Lies w3 bu 24 #[.slice Pu 1 pu, .slice Qu 1 qu]) := by show Lies _ _ _ _; rw [hw, hbx]; exact Lies.new _ _ _
  have hb : Below w2.heap.size w2 w3 := by rw [hw]; exact below_alloc _ _
  rw [← hw, ← hbx]
  have ne_T_U : Hid (bt ≠ bu) := by show _ ≠ _; rw [hbx]; exact Nat.ne_of_lt T2.out.lt
  have at_U : Hid (bu = w2.heap.size) := hbx
  have le_HB_U : Hid (w.heap.size ≤ bu) := by show _ ≤ _; rw [hbx]; exact HB2.out.size
  clear hbx hw
  have HALU := hid hb
  have HB3 := hid (then_w HB2.out hb)
  have T3 := hid (T2.out.later hb)
  have RA3 := hid (RA2.out.below hb)
  have RB3 := hid (RB2.out.below hb)
  have RPu_3 := hid (RPu_2.out.below hb)
  have RQu_3 := hid (RQu_2.out.below hb)
  clear hb
  clear HB2 T2 RA2 RB2 RPu_2 RQu_2
  have t_0 := T3.out.cell 0
  have t_1 := T3.out.cell 1
  simp only [List.getElem?_toArray, List.getElem?_cons_zero, List.getElem?_cons_succ] at t_0 t_1
  go_wp2_with fail
  refine (pdrawE (t := ⟨[5], [7]⟩) (u := ⟨[5, 7], []⟩) (k := 1) (n := 7) (er := 0) ⟨by decide, by kernel_rfl, by decide⟩ rfl rfl rfl rfl (some ⟨A, 0, none⟩) (some ⟨B, 0, none⟩) 1 1 _ RA3.out RB3.out (nsA A) (nsA B) (Nat.le_refl _) (Nat.le_refl _) (by decide)).mono ?_
  rintro e w4 ⟨Pv, pv, Qv, qv, rfl, hP, hQ, nP, nQ, lP, lQ, hb⟩
  clear t_0 t_1
  have HB4 := hid (then_w HB3.out hb)
  have T4 := hid (T3.out.later hb)
  have U4 := hid (U3.out.later hb)
  have RA4 := hid (RA3.out.below hb)
  have RB4 := hid (RB3.out.below hb)
  have RPu_4 := hid (RPu_3.out.below hb)
  have RQu_4 := hid (RQu_3.out.below hb)
  clear hb
  clear HB3 T3 U3 RA3 RB3 RPu_3 RQu_3
  have RPv_4 := hid hP
  clear hP
  have RQv_4 := hid hQ
  clear hQ
  have NPv := hid nP
  have NQv := hid nQ
  have LPv := hid lP
  have LQv := hid lQ
  clear nP nQ lP lQ
  go_upto_region 4 with fail
  obtain ⟨w5, hw⟩ : ∃ x, x = w4.alloc (.cells #[.slice Pv 2 pv, .slice Qv 0 qv] 24) := ⟨_, rfl⟩
  obtain ⟨bv, hbx⟩ : ∃ x, x = w4.heap.size := ⟨_, rfl⟩
  have V5 : Hid (Lies w5 bv 24 #[.slice Pv 2 pv, .slice Qv 0 qv]) := by show Lies _ _ _ _; rw [hw, hbx]; exact Lies.new _ _ _
  have hb : Below w4.heap.size w4 w5 := by rw [hw]; exact below_alloc _ _
  rw [← hw, ← hbx]
  have ne_T_V : Hid (bt ≠ bv) := by show _ ≠ _; rw [hbx]; exact Nat.ne_of_lt T4.out.lt
  have ne_U_V : Hid (bu ≠ bv) := by show _ ≠ _; rw [hbx]; exact Nat.ne_of_lt U4.out.lt
  have at_V : Hid (bv = w4.heap.size) := hbx
  have le_HB_V : Hid (w.heap.size ≤ bv) := by show _ ≤ _; rw [hbx]; exact HB4.out.size
  clear hbx hw
  have HALV := hid hb
  have HB5 := hid (then_w HB4.out hb)
  have T5 := hid (T4.out.later hb)
  have U5 := hid (U4.out.later hb)
  have RA5 := hid (RA4.out.below hb)
  have RB5 := hid (RB4.out.below hb)
  have RPu_5 := hid (RPu_4.out.below hb)
  have RQu_5 := hid (RQu_4.out.below hb)
  have RPv_5 := hid (RPv_4.out.below hb)
  have RQv_5 := hid (RQv_4.out.below hb)
  clear hb
  clear HB4 T4 U4 RA4 RB4 RPu_4 RQu_4 RPv_4 RQv_4
  have v_0 := V5.out.cell 0
  have v_1 := V5.out.cell 1
  simp only [List.getElem?_toArray, List.getElem?_cons_zero, List.getElem?_cons_succ] at v_0 v_1
  go_wp2_with fail
  refine (pdrawE (t := ⟨[5, 7], []⟩) (u := ⟨[5, 7, 0], []⟩) (k := 2) (n := 0) (er := 0) ⟨by decide, by kernel_rfl, by decide⟩ rfl rfl rfl rfl Pv Qv pv qv _ RPv_5.out.1 RQv_5.out.1 NPv.out NQv.out LPv.out LQv.out (by decide)).mono ?_
  rintro e w6 ⟨Px, px, Qx, qx, rfl, hP, hQ, nP, nQ, lP, lQ, hb⟩
  clear v_0 v_1
  have HB6 := hid (then_w HB5.out hb)
  have T6 := hid (T5.out.later hb)
  have U6 := hid (U5.out.later hb)
  have V6 := hid (V5.out.later hb)
  have RA6 := hid (RA5.out.below hb)
  have RB6 := hid (RB5.out.below hb)
  have RPu_6 := hid (RPu_5.out.below hb)
  have RQu_6 := hid (RQu_5.out.below hb)
  have RPv_6 := hid (RPv_5.out.below hb)
  have RQv_6 := hid (RQv_5.out.below hb)
  clear hb
  clear HB5 T5 U5 V5 RA5 RB5 RPu_5 RQu_5 RPv_5 RQv_5
  have RPx_6 := hid hP
  clear hP
  have RQx_6 := hid hQ
  clear hQ
  have NPx := hid nP
  have NQx := hid nQ
  have LPx := hid lP
  have LQx := hid lQ
  clear nP nQ lP lQ
  go_upto_region 5 with fail
  obtain ⟨w7, hw⟩ : ∃ x, x = w6.alloc (.cells #[.slice Px 3 px, .slice Qx 0 qx] 24) := ⟨_, rfl⟩
  obtain ⟨bx, hbx⟩ : ∃ x, x = w6.heap.size := ⟨_, rfl⟩
  have X7 : Hid (Lies w7 bx 24 #[.slice Px 3 px, .slice Qx 0 qx]) := by show Lies _ _ _ _; rw [hw, hbx]; exact Lies.new _ _ _
  have hb : Below w6.heap.size w6 w7 := by rw [hw]; exact below_alloc _ _
  rw [← hw, ← hbx]
  have ne_T_X : Hid (bt ≠ bx) := by show _ ≠ _; rw [hbx]; exact Nat.ne_of_lt T6.out.lt
  have ne_U_X : Hid (bu ≠ bx) := by show _ ≠ _; rw [hbx]; exact Nat.ne_of_lt U6.out.lt
  have ne_V_X : Hid (bv ≠ bx) := by show _ ≠ _; rw [hbx]; exact Nat.ne_of_lt V6.out.lt
  have at_X : Hid (bx = w6.heap.size) := hbx
  have le_HB_X : Hid (w.heap.size ≤ bx) := by show _ ≤ _; rw [hbx]; exact HB6.out.size
  clear hbx hw
  have HALX := hid hb
  have HB7 := hid (then_w HB6.out hb)
  have T7 := hid (T6.out.later hb)
  have U7 := hid (U6.out.later hb)
  have V7 := hid (V6.out.later hb)
  have RA7 := hid (RA6.out.below hb)
  have RB7 := hid (RB6.out.below hb)
  have RPu_7 := hid (RPu_6.out.below hb)
  have RQu_7 := hid (RQu_6.out.below hb)
  have RPv_7 := hid (RPv_6.out.below hb)
  have RQv_7 := hid (RQv_6.out.below hb)
  have RPx_7 := hid (RPx_6.out.below hb)
  have RQx_7 := hid (RQx_6.out.below hb)
  clear hb
  clear HB6 T6 U6 V6 RA6 RB6 RPu_6 RQu_6 RPv_6 RQv_6 RPx_6 RQx_6
  have t_0 := T7.out.cell 0
  have t_1 := T7.out.cell 1
  simp only [List.getElem?_toArray, List.getElem?_cons_zero, List.getElem?_cons_succ] at t_0 t_1
  go_wp2_with fail
  refine (pdrawE (t := ⟨[5], [7]⟩) (u := ⟨[], []⟩) (k := 2) (n := 0) (er := 160) ⟨by decide, by kernel_rfl, by decide⟩ rfl rfl rfl rfl (some ⟨A, 0, none⟩) (some ⟨B, 0, none⟩) 1 1 _ RA7.out RB7.out (nsA A) (nsA B) (Nat.le_refl _) (Nat.le_refl _) (by decide)).mono ?_
  rintro e w8 ⟨Pi, pi, Qi, qi, rfl, hP, hQ, nP, nQ, lP, lQ, hb⟩
  clear t_0 t_1
  have HB8 := hid (then_w HB7.out hb)
  have T8 := hid (T7.out.later hb)
  have U8 := hid (U7.out.later hb)
  have V8 := hid (V7.out.later hb)
  have X8 := hid (X7.out.later hb)
  have RA8 := hid (RA7.out.below hb)
  have RB8 := hid (RB7.out.below hb)
  have RPu_8 := hid (RPu_7.out.below hb)
  have RQu_8 := hid (RQu_7.out.below hb)
  have RPv_8 := hid (RPv_7.out.below hb)
  have RQv_8 := hid (RQv_7.out.below hb)
  have RPx_8 := hid (RPx_7.out.below hb)
  have RQx_8 := hid (RQx_7.out.below hb)
  clear hb
  clear HB7 T7 U7 V7 X7 RA7 RB7 RPu_7 RQu_7 RPv_7 RQv_7 RPx_7 RQx_7
  have RPi_8 := hid hP
  clear hP
  have RQi_8 := hid hQ
  clear hQ
  have NPi := hid nP
  have NQi := hid nQ
  have LPi := hid lP
  have LQi := hid lQ
  clear nP nQ lP lQ
  go_upto_region 6 with fail
  obtain ⟨w9, hw⟩ : ∃ x, x = w8.alloc (.cells #[.slice Pi 0 pi, .slice Qi 0 qi] 24) := ⟨_, rfl⟩
  obtain ⟨bi, hbx⟩ : ∃ x, x = w8.heap.size := ⟨_, rfl⟩
  have I9 : Hid (Lies w9 bi 24 #[.slice Pi 0 pi, .slice Qi 0 qi]) := by show Lies _ _ _ _; rw [hw, hbx]; exact Lies.new _ _ _
  have hb : Below w8.heap.size w8 w9 := by rw [hw]; exact below_alloc _ _
  rw [← hw, ← hbx]
  have ne_T_I : Hid (bt ≠ bi) := by show _ ≠ _; rw [hbx]; exact Nat.ne_of_lt T8.out.lt
  have ne_U_I : Hid (bu ≠ bi) := by show _ ≠ _; rw [hbx]; exact Nat.ne_of_lt U8.out.lt
  have ne_V_I : Hid (bv ≠ bi) := by show _ ≠ _; rw [hbx]; exact Nat.ne_of_lt V8.out.lt
  have ne_X_I : Hid (bx ≠ bi) := by show _ ≠ _; rw [hbx]; exact Nat.ne_of_lt X8.out.lt
  have at_I : Hid (bi = w8.heap.size) := hbx
  have le_HB_I : Hid (w.heap.size ≤ bi) := by show _ ≤ _; rw [hbx]; exact HB8.out.size
  clear hbx hw
  have HALI := hid hb
  have HB9 := hid (then_w HB8.out hb)
  have T9 := hid (T8.out.later hb)
  have U9 := hid (U8.out.later hb)
  have V9 := hid (V8.out.later hb)
  have X9 := hid (X8.out.later hb)
  have RA9 := hid (RA8.out.below hb)
  have RB9 := hid (RB8.out.below hb)
  have RPu_9 := hid (RPu_8.out.below hb)
  have RQu_9 := hid (RQu_8.out.below hb)
  have RPv_9 := hid (RPv_8.out.below hb)
  have RQv_9 := hid (RQv_8.out.below hb)
  have RPx_9 := hid (RPx_8.out.below hb)
  have RQx_9 := hid (RQx_8.out.below hb)
  have RPi_9 := hid (RPi_8.out.below hb)
  have RQi_9 := hid (RQi_8.out.below hb)
  clear hb
  clear HB8 T8 U8 V8 X8 RA8 RB8 RPu_8 RQu_8 RPv_8 RQv_8 RPx_8 RQx_8 RPi_8 RQi_8
  have v_0 := V9.out.cell 0
  have v_1 := V9.out.cell 1
  simp only [List.getElem?_toArray, List.getElem?_cons_zero, List.getElem?_cons_succ] at v_0 v_1
  go_wp2_with fail
  refine (pdivE (t := ⟨[5, 7], []⟩) (u := ⟨[5], []⟩) (k := 1) (er := 0) ⟨by kernel_rfl, by decide⟩ rfl rfl rfl rfl Pv Qv pv qv _ RPv_9.out.1 RQv_9.out.1 NPv.out NQv.out LPv.out LQv.out (by decide)).mono ?_
  rintro e w10 ⟨Py, py, Qy, qy, rfl, hP, hQ, nP, nQ, lP, lQ, hb⟩
  clear v_0 v_1
  have HB10 := hid (then_w HB9.out hb)
  have T10 := hid (T9.out.later hb)
  have U10 := hid (U9.out.later hb)
  have V10 := hid (V9.out.later hb)
  have X10 := hid (X9.out.later hb)
  have I10 := hid (I9.out.later hb)
  have RA10 := hid (RA9.out.below hb)
  have RB10 := hid (RB9.out.below hb)
  have RPu_10 := hid (RPu_9.out.below hb)
  have RQu_10 := hid (RQu_9.out.below hb)
  have RPv_10 := hid (RPv_9.out.below hb)
  have RQv_10 := hid (RQv_9.out.below hb)
  have RPx_10 := hid (RPx_9.out.below hb)
  have RQx_10 := hid (RQx_9.out.below hb)
  have RPi_10 := hid (RPi_9.out.below hb)
  have RQi_10 := hid (RQi_9.out.below hb)
  clear hb
  clear HB9 T9 U9 V9 X9 I9 RA9 RB9 RPu_9 RQu_9 RPv_9 RQv_9 RPx_9 RQx_9 RPi_9 RQi_9
  have RPy_10 := hid hP
  clear hP
  have RQy_10 := hid hQ
  clear hQ
  clear nP nQ lP lQ
  obtain ⟨w11, hw⟩ : ∃ x, x = w10.alloc (.cells #[.slice Py 1 py, .slice Qy 0 qy] 24) := ⟨_, rfl⟩
  obtain ⟨by_, hby⟩ : ∃ x, x = w10.heap.size := ⟨_, rfl⟩
  have hb : Below w10.heap.size w10 w11 := by rw [hw]; exact below_alloc _ _
  have Y11 : Hid (Lies w11 by_ 24 #[.slice Py 1 py, .slice Qy 0 qy]) := by show Lies _ _ _ _; rw [hw, hby]; exact Lies.new _ _ _
  obtain ⟨f0, f1⟩ := (U10.out.later hb).c2
  obtain ⟨f2, f3⟩ := (T10.out.later hb).c2
  rw [hw] at f0 f1 f2 f3
  go_wp2_with fail
  rw [← hw, ← hby]
  clear f0 f1 f2 f3 hw hby
  have HB11 := hid (then_w HB10.out hb)
  have T11 := hid (T10.out.later hb)
  have U11 := hid (U10.out.later hb)
  have V11 := hid (V10.out.later hb)
  have X11 := hid (X10.out.later hb)
  have I11 := hid (I10.out.later hb)
  have RA11 := hid (RA10.out.below hb)
  have RB11 := hid (RB10.out.below hb)
  have RPu_11 := hid (RPu_10.out.below hb)
  have RQu_11 := hid (RQu_10.out.below hb)
  have RPv_11 := hid (RPv_10.out.below hb)
  have RQv_11 := hid (RQv_10.out.below hb)
  have RPx_11 := hid (RPx_10.out.below hb)
  have RQx_11 := hid (RQx_10.out.below hb)
  have RPi_11 := hid (RPi_10.out.below hb)
  have RQi_11 := hid (RQi_10.out.below hb)
  have RPy_11 := hid (RPy_10.out.below hb)
  have RQy_11 := hid (RQy_10.out.below hb)
  clear hb
  clear HB10 T10 U10 V10 X10 I10 RA10 RB10 RPu_10 RQu_10 RPv_10 RQv_10 RPx_10 RQx_10 RPi_10 RQi_10 RPy_10 RQy_10
  refine (rsameE (t := ⟨[5], [7]⟩) (u := ⟨[5], [7]⟩) (r := true) (by decide) rfl rfl rfl rfl Pu Qu pu qu (some ⟨A, 0, none⟩) (some ⟨B, 0, none⟩) 1 1 _ RPu_11.out.1 RQu_11.out.1 RA11.out RB11.out (by decide) (by decide)).mono ?_
  rintro e w12 ⟨rfl, hb⟩
  have HB12 := hid (then_w HB11.out hb)
  have T12 := hid (T11.out.later hb)
  have U12 := hid (U11.out.later hb)
  have V12 := hid (V11.out.later hb)
  have X12 := hid (X11.out.later hb)
  have I12 := hid (I11.out.later hb)
  have Y12 := hid (Y11.out.later hb)
  have RA12 := hid (RA11.out.below hb)
  have RB12 := hid (RB11.out.below hb)
  have RPu_12 := hid (RPu_11.out.below hb)
  have RQu_12 := hid (RQu_11.out.below hb)
  have RPv_12 := hid (RPv_11.out.below hb)
  have RQv_12 := hid (RQv_11.out.below hb)
  have RPx_12 := hid (RPx_11.out.below hb)
  have RQx_12 := hid (RQx_11.out.below hb)
  have RPi_12 := hid (RPi_11.out.below hb)
  have RQi_12 := hid (RQi_11.out.below hb)
  have RPy_12 := hid (RPy_11.out.below hb)
  have RQy_12 := hid (RQy_11.out.below hb)
  clear hb
  clear HB11 T11 U11 V11 X11 I11 Y11 RA11 RB11 RPu_11 RQu_11 RPv_11 RQv_11 RPx_11 RQx_11 RPi_11 RQi_11 RPy_11 RQy_11
  have v_0 := V12.out.cell 0
  have v_1 := V12.out.cell 1
  simp only [List.getElem?_toArray, List.getElem?_cons_zero, List.getElem?_cons_succ] at v_0 v_1
  go_wp2_with fail
  refine (rsameE (t := ⟨[5, 7], []⟩) (u := ⟨[5, 7], []⟩) (r := true) (by decide) rfl rfl rfl rfl Pv Qv pv qv (some ⟨w12.heap.size, 0, none⟩) none 2 0 _ (RPv_12.out.1.below (below_alloc _ _)) (RQv_12.out.1.below (below_alloc _ _)) (ints_two16 (Lies.new _ _ _)) (ints_nil16 _ _) (by decide) (by decide)).mono ?_
  rintro e w13 ⟨rfl, hb⟩
  clear v_0 v_1
  replace hb := below_alloc_go hb
  have HB13 := hid (then_w HB12.out hb)
  have T13 := hid (T12.out.later hb)
  have U13 := hid (U12.out.later hb)
  have V13 := hid (V12.out.later hb)
  have X13 := hid (X12.out.later hb)
  have I13 := hid (I12.out.later hb)
  have Y13 := hid (Y12.out.later hb)
  have RA13 := hid (RA12.out.below hb)
  have RB13 := hid (RB12.out.below hb)
  have RPu_13 := hid (RPu_12.out.below hb)
  have RQu_13 := hid (RQu_12.out.below hb)
  have RPv_13 := hid (RPv_12.out.below hb)
  have RQv_13 := hid (RQv_12.out.below hb)
  have RPx_13 := hid (RPx_12.out.below hb)
  have RQx_13 := hid (RQx_12.out.below hb)
  have RPi_13 := hid (RPi_12.out.below hb)
  have RQi_13 := hid (RQi_12.out.below hb)
  have RPy_13 := hid (RPy_12.out.below hb)
  have RQy_13 := hid (RQy_12.out.below hb)
  clear hb
  clear HB12 T12 U12 V12 X12 I12 Y12 RA12 RB12 RPu_12 RQu_12 RPv_12 RQv_12 RPx_12 RQx_12 RPi_12 RQi_12 RPy_12 RQy_12
  have x_0 := X13.out.cell 0
  have x_1 := X13.out.cell 1
  simp only [List.getElem?_toArray, List.getElem?_cons_zero, List.getElem?_cons_succ] at x_0 x_1
  have y_0 := Y13.out.cell 0
  have y_1 := Y13.out.cell 1
  simp only [List.getElem?_toArray, List.getElem?_cons_zero, List.getElem?_cons_succ] at y_0 y_1
  go_wp2_with fail
  refine (rsameE (t := ⟨[5], []⟩) (u := ⟨[5], []⟩) (r := true) (by decide) rfl rfl rfl rfl Py Qy py qy (some ⟨w13.heap.size, 0, none⟩) none 1 0 _ (RPy_13.out.1.below (below_alloc _ _)) (RQy_13.out.1.below (below_alloc _ _)) (ints_lies16 (Lies.new _ _ _)) (ints_nil16 _ _) (by decide) (by decide)).mono ?_
  rintro e w14 ⟨rfl, hb⟩
  clear x_0 x_1 y_0 y_1
  replace hb := below_alloc_go hb
  have HB14 := hid (then_w HB13.out hb)
  have T14 := hid (T13.out.later hb)
  have U14 := hid (U13.out.later hb)
  have V14 := hid (V13.out.later hb)
  have X14 := hid (X13.out.later hb)
  have I14 := hid (I13.out.later hb)
  have Y14 := hid (Y13.out.later hb)
  have RA14 := hid (RA13.out.below hb)
  have RB14 := hid (RB13.out.below hb)
  have RPu_14 := hid (RPu_13.out.below hb)
  have RQu_14 := hid (RQu_13.out.below hb)
  have RPv_14 := hid (RPv_13.out.below hb)
  have RQv_14 := hid (RQv_13.out.below hb)
  have RPx_14 := hid (RPx_13.out.below hb)
  have RQx_14 := hid (RQx_13.out.below hb)
  have RPi_14 := hid (RPi_13.out.below hb)
  have RQi_14 := hid (RQi_13.out.below hb)
  have RPy_14 := hid (RPy_13.out.below hb)
  have RQy_14 := hid (RQy_13.out.below hb)
  clear hb
  clear HB13 T13 U13 V13 X13 I13 Y13 RA13 RB13 RPu_13 RQu_13 RPv_13 RQv_13 RPx_13 RQx_13 RPi_13 RQi_13 RPy_13 RQy_13
  have t_0 := T14.out.cell 0
  have t_1 := T14.out.cell 1
  simp only [List.getElem?_toArray, List.getElem?_cons_zero, List.getElem?_cons_succ] at t_0 t_1
  go_wp2_with fail
  refine (pallE (t := ⟨[5], [7]⟩) (l := [5, 7]) (n := 2) rfl rfl rfl rfl (some ⟨A, 0, none⟩) (some ⟨B, 0, none⟩) 1 1 _ RA14.out RB14.out (nsA A) (nsA B) (by decide)).mono ?_
  rintro e w15 ⟨Pz, pz, rfl, hP, -, hb⟩
  clear t_0 t_1
  have HB15 := hid (then_w HB14.out hb)
  have T15 := hid (T14.out.later hb)
  have U15 := hid (U14.out.later hb)
  have V15 := hid (V14.out.later hb)
  have X15 := hid (X14.out.later hb)
  have I15 := hid (I14.out.later hb)
  have Y15 := hid (Y14.out.later hb)
  have RA15 := hid (RA14.out.below hb)
  have RB15 := hid (RB14.out.below hb)
  have RPu_15 := hid (RPu_14.out.below hb)
  have RQu_15 := hid (RQu_14.out.below hb)
  have RPv_15 := hid (RPv_14.out.below hb)
  have RQv_15 := hid (RQv_14.out.below hb)
  have RPx_15 := hid (RPx_14.out.below hb)
  have RQx_15 := hid (RQx_14.out.below hb)
  have RPi_15 := hid (RPi_14.out.below hb)
  have RQi_15 := hid (RQi_14.out.below hb)
  have RPy_15 := hid (RPy_14.out.below hb)
  have RQy_15 := hid (RQy_14.out.below hb)
  clear hb
  clear HB14 T14 U14 V14 X14 I14 Y14 RA14 RB14 RPu_14 RQu_14 RPv_14 RQv_14 RPx_14 RQx_14 RPi_14 RQi_14 RPy_14 RQy_14
  have RPz_15 := hid hP
  clear hP
  go_wp2_with fail
  refine (rintsE (x := [5, 7]) (y := [5, 7]) (r := true) (by decide) rfl rfl Pz (some ⟨w15.heap.size, 0, none⟩) pz 2 _ (RPz_15.out.1.below (below_alloc _ _)) (ints_two16 (Lies.new _ _ _)) (by decide)).mono ?_
  rintro e w16 ⟨rfl, hb⟩
  replace hb := below_alloc_go hb
  have HB16 := hid (then_w HB15.out hb)
  have T16 := hid (T15.out.later hb)
  have U16 := hid (U15.out.later hb)
  have V16 := hid (V15.out.later hb)
  have X16 := hid (X15.out.later hb)
  have I16 := hid (I15.out.later hb)
  have Y16 := hid (Y15.out.later hb)
  have RA16 := hid (RA15.out.below hb)
  have RB16 := hid (RB15.out.below hb)
  have RPu_16 := hid (RPu_15.out.below hb)
  have RQu_16 := hid (RQu_15.out.below hb)
  have RPv_16 := hid (RPv_15.out.below hb)
  have RQv_16 := hid (RQv_15.out.below hb)
  have RPx_16 := hid (RPx_15.out.below hb)
  have RQx_16 := hid (RQx_15.out.below hb)
  have RPi_16 := hid (RPi_15.out.below hb)
  have RQi_16 := hid (RQi_15.out.below hb)
  have RPy_16 := hid (RPy_15.out.below hb)
  have RQy_16 := hid (RQy_15.out.below hb)
  have RPz_16 := hid (RPz_15.out.below hb)
  clear hb
  clear HB15 T15 U15 V15 X15 I15 Y15 RA15 RB15 RPu_15 RQu_15 RPv_15 RQv_15 RPx_15 RQx_15 RPi_15 RQi_15 RPy_15 RQy_15 RPz_15
  have t_0 := T16.out.cell 0
  have t_1 := T16.out.cell 1
  simp only [List.getElem?_toArray, List.getElem?_cons_zero, List.getElem?_cons_succ] at t_0 t_1
  go_wp2_with fail
  refine (pcheckE (t := ⟨[5], [7]⟩) (r := 0) (by decide) rfl rfl (some ⟨A, 0, none⟩) (some ⟨B, 0, none⟩) 1 1 _ RA16.out RB16.out (nsA A) (nsA B) (by decide)).mono ?_
  rintro e w17 ⟨rfl, hb⟩
  clear t_0 t_1
  have HB17 := hid (then_w HB16.out hb)
  have T17 := hid (T16.out.later hb)
  have U17 := hid (U16.out.later hb)
  have V17 := hid (V16.out.later hb)
  have X17 := hid (X16.out.later hb)
  have I17 := hid (I16.out.later hb)
  have Y17 := hid (Y16.out.later hb)
  have RA17 := hid (RA16.out.below hb)
  have RB17 := hid (RB16.out.below hb)
  have RPu_17 := hid (RPu_16.out.below hb)
  have RQu_17 := hid (RQu_16.out.below hb)
  have RPv_17 := hid (RPv_16.out.below hb)
  have RQv_17 := hid (RQv_16.out.below hb)
  have RPx_17 := hid (RPx_16.out.below hb)
  have RQx_17 := hid (RQx_16.out.below hb)
  have RPi_17 := hid (RPi_16.out.below hb)
  have RQi_17 := hid (RQi_16.out.below hb)
  have RPy_17 := hid (RPy_16.out.below hb)
  have RQy_17 := hid (RQy_16.out.below hb)
  have RPz_17 := hid (RPz_16.out.below hb)
  clear hb
  clear HB16 T16 U16 V16 X16 I16 Y16 RA16 RB16 RPu_16 RQu_16 RPv_16 RQv_16 RPx_16 RQx_16 RPi_16 RQi_16 RPy_16 RQy_16 RPz_16
  go_wp2_with fail
  refine (pcheckE (t := ⟨[1073741824], []⟩) (r := 160) (by decide) rfl rfl (some ⟨w17.heap.size, 0, none⟩) none 1 0 _ (ints_lies16 (Lies.new _ _ _)) (ints_nil16 _ _) (nsA _) (fun _ => rfl) (by decide)).mono ?_
  rintro e w18 ⟨rfl, hb⟩
  replace hb := below_alloc_go hb
  have HB18 := hid (then_w HB17.out hb)
  have T18 := hid (T17.out.later hb)
  have U18 := hid (U17.out.later hb)
  have V18 := hid (V17.out.later hb)
  have X18 := hid (X17.out.later hb)
  have I18 := hid (I17.out.later hb)
  have Y18 := hid (Y17.out.later hb)
  have RA18 := hid (RA17.out.below hb)
  have RB18 := hid (RB17.out.below hb)
  have RPu_18 := hid (RPu_17.out.below hb)
  have RQu_18 := hid (RQu_17.out.below hb)
  have RPv_18 := hid (RPv_17.out.below hb)
  have RQv_18 := hid (RQv_17.out.below hb)
  have RPx_18 := hid (RPx_17.out.below hb)
  have RQx_18 := hid (RQx_17.out.below hb)
  have RPi_18 := hid (RPi_17.out.below hb)
  have RQi_18 := hid (RQi_17.out.below hb)
  have RPy_18 := hid (RPy_17.out.below hb)
  have RQy_18 := hid (RQy_17.out.below hb)
  have RPz_18 := hid (RPz_17.out.below hb)
  clear hb
  clear HB17 T17 U17 V17 X17 I17 Y17 RA17 RB17 RPu_17 RQu_17 RPv_17 RQv_17 RPx_17 RQx_17 RPi_17 RQi_17 RPy_17 RQy_17 RPz_17
  go_wp2_with fail
  go_ret
  exact ⟨rfl, HB18.out⟩
end Go.Proofs.Ytimmoaomhilaeaa
