/- The calls whose answers the document fixes: all are as it says. -/
import Derived.Test.YtobelbaeaamkkaaDoorTM11
namespace Go.Proofs.YtobelbaeaamkkaaDoor
open Go.RowKit
set_option maxRecDepth 100000
def F11 : List In := [⟨1, 0⟩, ⟨8, 10⟩, ⟨14, 0⟩]
theorem z0_11 : Pk11 F11 = ([1, 0, 8, 10, 14, 0], 0) := by decide +kernel
theorem z1_11 : Pr11 F11 = ([108, 105, 116, 32, 48, 10, 115, 101, 110, 100, 32, 49, 32, 50, 10, 114, 101, 116, 117, 114, 110, 10], 0) := by decide +kernel
theorem zall11 : all11 F11 = true := by decide +kernel
theorem z2_11 : Up11 [1, 0, 8, 10, 14, 0] = (F11, 0) := by
  have e : pk11 F11 = [1, 0, 8, 10, 14, 0] := by decide +kernel
  rw [← e]; exact up_pk11 zall11
theorem z3_11 : Pa11 [108, 105, 116, 32, 48, 10, 115, 101, 110, 100, 32, 49, 32, 50, 10, 114, 101, 116, 117, 114, 110, 10] = (F11, 0) := by
  have e : pr11 F11 = [108, 105, 116, 32, 48, 10, 115, 101, 110, 100, 32, 49, 32, 50, 10, 114, 101, 116, 117, 114, 110, 10] := by decide +kernel
  rw [← e]; exact pa_pr11 zall11
theorem z4_11 : Pk11 [⟨6, 1⟩] = ([], 110) := by decide +kernel
theorem z5_11 : Pa11 [108, 105, 116, 32, 48, 49, 10] = ([], 111) := by
  have e : rd11 [108, 105, 116, 32, 48, 49] = none := by decide +kernel
  have e2 : spl11 [108, 105, 116, 32, 48, 49, 10] = ([[108, 105, 116, 32, 48, 49]], []) := by decide +kernel
  unfold Pa11
  rw [e2, List.mapM_cons, e]; rfl
theorem z6_11 : Up11 [1] = ([], 110) := by decide +kernel
theorem z7_11 : ck11 F11 2 0 = 0 := by decide +kernel
theorem z8_11 : ck11 F11 1 0 = 110 := by decide +kernel
theorem z9_11 : ck11 [⟨1, 0⟩, ⟨8, 10⟩] 2 0 = 110 := by decide +kernel
theorem zA_11 : ck11 [] 0 0 = 110 := by decide +kernel
theorem lies_ins11 {w : World} {g n : Nat} {l : List In} {cs : Array Value} (hl : Lies w g 34 cs) (hc : cs.toList.take n = l.flatMap in211) : InsR w (some ⟨g, 0, none⟩) l := fun _ => ⟨g, 0, rfl, hl.lt, fun i x hx => by
  have e : ∀ k, k < 2 → w.cell? ⟨g, i * 2 + k, none⟩ = (in211 x)[k]? := fun k hk => by
    have hi : i < l.length := (List.getElem?_eq_some_iff.1 hx).1
    have h1 := in2_at11 l i k x hk hx
    rw [← hc, List.getElem?_take] at h1
    split at h1
    · rw [hl.cell, ← Array.getElem?_toList]; exact h1
    · rcases (by omega : k = 0 ∨ k = 1) with rfl | rfl <;> cases h1
  have e0 := e 0 (by omega)
  have e1 := e 1 (by omega)
  rw [Nat.zero_add]
  exact ⟨e0, e1⟩⟩
theorem txt_list11 (l : List UInt8) : (str l).toList = l := by rw [ByteArray.toList_eq]; exact list_str l
set_option maxHeartbeats 2000000 in
theorem fixed11_any (w : World) (hv : Vr11 w) : Calls Tryd.prog 9 #[] w fun e w' => e = .returned (.bool true) ∧ Below w.heap.size w w' := by
  obtain ⟨w1, hw1⟩ : ∃ u, u = w.alloc (.cells #[.int .i64 1, .int .i64 0, .int .i64 8, .int .i64 10, .int .i64 14, .int .i64 0] 34) := ⟨_, rfl⟩
  have HB1 : Hid (Below w.heap.size w w1) := by show Below _ _ _; rw [hw1]; exact below_alloc _ _
  have hL : Lies w1 w.heap.size 34 #[.int .i64 1, .int .i64 0, .int .i64 8, .int .i64 10, .int .i64 14, .int .i64 0] := by rw [hw1]; exact Lies.new _ _ _
  have I1 := hid (lies_ins11 (n := 6) (l := F11) hL rfl)
  have J1 := hid (lies_ins11 (n := 4) (l := [⟨1, 0⟩, ⟨8, 10⟩]) hL rfl)
  have Z1 := hid (hv.below HB1.out)
  have HW := hid hw1
  clear hL hw1 hv
  go_enter Tryd.func9, Tryd.ntmps9
  go_upto_region 2 with fail
  rw [← HW.out]
  clear HW
  go_wp2_with fail
  refine (cpack_any11 F11 _ _ _ I1.out (by decide)).mono ?_
  rintro e w2 ⟨rfl, hb⟩
  rw [z0_11]
  have HB2 := hid (then_w HB1.out hb)
  have I2 := hid (I1.out.below hb)
  have Z2 := hid (Z1.out.below hb)
  have J2 := hid (J1.out.below hb)
  clear hb
  go_wp2_with fail
  refine (cprint_any11 F11 _ _ _ I2.out (by decide) Z2.out).mono ?_
  rintro e w3 ⟨rfl, hb⟩
  rw [z1_11]
  have HB3 := hid (then_w HB2.out hb)
  have I3 := hid (I2.out.below hb)
  have Z3 := hid (Z2.out.below hb)
  have J3 := hid (J2.out.below hb)
  clear hb
  go_wp2_with fail
  refine (cunpack_any11 [1, 0, 8, 10, 14, 0] _ (by decide)).mono ?_
  rintro e w4 ⟨A4, c4, he, hi, hb⟩
  rw [z2_11] at he hi
  subst he
  have U4 := hid hi
  have HB4 := hid (then_w HB3.out hb)
  have I4 := hid (I3.out.below hb)
  have Z4 := hid (Z3.out.below hb)
  have J4 := hid (J3.out.below hb)
  clear hb hi
  go_wp2_with fail
  refine (cparse_any11 _ _ (by decide) Z4.out).mono ?_
  rintro e w5 ⟨A5, c5, he, hi, hb⟩
  rw [z3_11] at he hi
  subst he
  have P5 := hid hi
  have U5 := hid (U4.out.below hb)
  have HB5 := hid (then_w HB4.out hb)
  have I5 := hid (I4.out.below hb)
  have Z5 := hid (Z4.out.below hb)
  have J5 := hid (J4.out.below hb)
  clear hb hi
  obtain ⟨w6, hw6⟩ : ∃ u, u = w5.alloc (.cells #[.int .i64 6, .int .i64 1] 34) := ⟨_, rfl⟩
  have hb : Below w5.heap.size w5 w6 := by rw [hw6]; exact below_alloc _ _
  have HIX := hid (lies_ins11 (n := 2) (l := [⟨6, 1⟩]) (show Lies w6 w5.heap.size 34 #[.int .i64 6, .int .i64 1] by rw [hw6]; exact Lies.new _ _ _) rfl)
  have HB6 := hid (then_w HB5.out hb)
  have I6 := hid (I5.out.below hb)
  have Z6 := hid (Z5.out.below hb)
  have J6 := hid (J5.out.below hb)
  have U6 := hid (U5.out.below hb)
  have P6 := hid (P5.out.below hb)
  have HW := hid hw6
  clear hb hw6
  go_wp2_with fail
  rw [← HW.out]
  clear HW
  refine (cpack_any11 [⟨6, 1⟩] _ _ _ HIX.out (by decide)).mono ?_
  rintro e w7 ⟨rfl, hb⟩
  rw [z4_11]
  have HB7 := hid (then_w HB6.out hb)
  have I7 := hid (I6.out.below hb)
  have Z7 := hid (Z6.out.below hb)
  have J7 := hid (J6.out.below hb)
  have U7 := hid (U6.out.below hb)
  have P7 := hid (P6.out.below hb)
  clear hb HIX
  go_wp2_with fail
  refine (cparse_any11 [108, 105, 116, 32, 48, 49, 10] _ (by decide) Z7.out).mono ?_
  rintro e w8 ⟨A8, c8, he, -, hb⟩
  rw [z5_11] at he
  subst he
  have HB8 := hid (then_w HB7.out hb)
  have I8 := hid (I7.out.below hb)
  have Z8 := hid (Z7.out.below hb)
  have J8 := hid (J7.out.below hb)
  have U8 := hid (U7.out.below hb)
  have P8 := hid (P7.out.below hb)
  clear hb
  go_wp2_with fail
  refine (cunpack_any11 [1] _ (by decide)).mono ?_
  have q1 := txt_list11 [1, 0, 8, 10, 14, 0]
  have q2 := txt_list11 [108, 105, 116, 32, 48, 10, 115, 101, 110, 100, 32, 49, 32, 50, 10, 114, 101, 116, 117, 114, 110, 10]
  rintro e w9 ⟨A9, c9, he, -, hb⟩
  rw [z6_11] at he
  subst he
  have HB9 := hid (then_w HB8.out hb)
  have I9 := hid (I8.out.below hb)
  have Z9 := hid (Z8.out.below hb)
  have J9 := hid (J8.out.below hb)
  have U9 := hid (U8.out.below hb)
  have P9 := hid (P8.out.below hb)
  clear hb
  go_wp2_with fail
  refine (same_any11 F11 F11 _ _ _ _ _ U9.out I9.out (by decide) (by decide)).mono ?_
  rintro e w10 ⟨rfl, hb⟩
  rw [decide_eq_true (rfl : F11 = F11)]
  have HB10 := hid (then_w HB9.out hb)
  have I10 := hid (I9.out.below hb)
  have Z10 := hid (Z9.out.below hb)
  have J10 := hid (J9.out.below hb)
  have U10 := hid (U9.out.below hb)
  have P10 := hid (P9.out.below hb)
  clear hb
  go_wp2_with fail
  refine (same_any11 F11 F11 _ _ _ _ _ P10.out I10.out (by decide) (by decide)).mono ?_
  rintro e w11 ⟨rfl, hb⟩
  rw [decide_eq_true (rfl : F11 = F11)]
  have HB11 := hid (then_w HB10.out hb)
  have I11 := hid (I10.out.below hb)
  have Z11 := hid (Z10.out.below hb)
  have J11 := hid (J10.out.below hb)
  have U11 := hid (U10.out.below hb)
  have P11 := hid (P10.out.below hb)
  clear hb
  go_wp2_with fail
  refine (ccheck_any11 F11 2 0 _ _ _ I11.out (by decide)).mono ?_
  rintro e w12 ⟨rfl, hb⟩
  rw [z7_11]
  have HB12 := hid (then_w HB11.out hb)
  have I12 := hid (I11.out.below hb)
  have Z12 := hid (Z11.out.below hb)
  have J12 := hid (J11.out.below hb)
  have U12 := hid (U11.out.below hb)
  have P12 := hid (P11.out.below hb)
  clear hb
  go_wp2_with fail
  refine (ccheck_any11 F11 1 0 _ _ _ I12.out (by decide)).mono ?_
  rintro e w13 ⟨rfl, hb⟩
  rw [z8_11]
  have HB13 := hid (then_w HB12.out hb)
  have I13 := hid (I12.out.below hb)
  have Z13 := hid (Z12.out.below hb)
  have J13 := hid (J12.out.below hb)
  have U13 := hid (U12.out.below hb)
  have P13 := hid (P12.out.below hb)
  clear hb
  go_wp2_with fail
  refine (ccheck_any11 [⟨1, 0⟩, ⟨8, 10⟩] 2 0 _ _ _ J13.out (by decide)).mono ?_
  rintro e w14 ⟨rfl, hb⟩
  rw [z9_11]
  have HB14 := hid (then_w HB13.out hb)
  have I14 := hid (I13.out.below hb)
  have Z14 := hid (Z13.out.below hb)
  have J14 := hid (J13.out.below hb)
  have U14 := hid (U13.out.below hb)
  have P14 := hid (P13.out.below hb)
  clear hb
  go_wp2_with fail
  refine (ccheck_any11 [] 0 0 none 0 _ (fun h => absurd h (by decide)) (by decide)).mono ?_
  rintro e w15 ⟨rfl, hb⟩
  rw [zA_11]
  have HB15 := hid (then_w HB14.out hb)
  have I15 := hid (I14.out.below hb)
  have Z15 := hid (Z14.out.below hb)
  have J15 := hid (J14.out.below hb)
  have U15 := hid (U14.out.below hb)
  have P15 := hid (P14.out.below hb)
  clear hb
  go_wp2_with fail
  go_ret
  exact ⟨by first | rfl | simp, HB15.out⟩
end Go.Proofs.YtobelbaeaamkkaaDoor
