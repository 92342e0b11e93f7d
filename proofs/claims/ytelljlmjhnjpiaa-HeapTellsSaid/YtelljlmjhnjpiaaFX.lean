/- The calls whose answers the document fixes: all are as it says. -/
import Derived.Test.YtelljlmjhnjpiaaF
namespace Go.Proofs.Ytelljlmjhnjpiaa
open Go.RowKit
def H1 : Hp := ⟨[⟨0, 0, [], ⟨#[]⟩, 0, 0⟩], 3, 0⟩
set_option maxRecDepth 100000 in
set_option maxHeartbeats 1000000 in
theorem one_any (w : World) : Calls Try.prog 48 #[] w (HeapOwn w H1) := by
  have HB := hid (below_alloc2 w (.cells #[.slice (some ⟨w.heap.size + 1, 0, none⟩) 1 1, .int .i64 3, .int .i64 0] 24) (.cells #[.int .i64 0, .int .i64 0, .slice none 0 0, .string ⟨#[]⟩, .int .i64 0, .int .i64 0] 46))
  have HO := hid (World.ownsRow_lit (base := w.heap.size) (e := 46) (size := 6) (w.alloc (.cells #[.slice (some ⟨w.heap.size + 1, 0, none⟩) 1 1, .int .i64 3, .int .i64 0] 24)) #[.int .i64 0, .int .i64 0, .slice none 0 0, .string ⟨#[]⟩, .int .i64 0, .int .i64 0] 1 (by simp) (by decide) rfl)
  go_enter Try.func48, Try.ntmps48
  go_wp2
  refine bodyPost_ret (v := .agg #[.slice (some ⟨w.heap.size + 1, 0, none⟩) 1 1, .int .i64 3, .int .i64 0]) (by simp [results, Try.results48, go_sem]) rfl ?_
  refine ⟨some ⟨w.heap.size + 1, 0, none⟩, 1, [⟨⟨0, 0, [], ⟨#[]⟩, 0, 0⟩, none, 0⟩], rfl, rfl, ⟨?_, fun i l hl => ?_, fun i j li lj a b hi hj hij ha => ?_⟩, HB.out⟩
  · have := HO.out
    rw [show (w.alloc (.cells #[.slice (some ⟨w.heap.size + 1, 0, none⟩) 1 1, .int .i64 3, .int .i64 0] 24)).heap.size = w.heap.size + 1 by simp] at this
    exact this
  · cases i with
    | zero =>
      obtain rfl : (⟨⟨0, 0, [], ⟨#[]⟩, 0, 0⟩, none, 0⟩ : LO) = l := by simpa using hl
      exact World.ownsRow_nil _ _ _ _
    | succ i => simp at hl
  · cases i with
    | zero =>
      obtain rfl : (⟨⟨0, 0, [], ⟨#[]⟩, 0, 0⟩, none, 0⟩ : LO) = li := by simpa using hi
      cases ha
    | succ i => simp at hi
theorem f1 : roE H1 0 0 2 = 0 := by decide +kernel
theorem f2 : alV H1 0 0 2 = 2 := by decide +kernel
theorem f3 : mayB (alR H1 0 0 2) = true := by decide +kernel
theorem f4 : (alR H1 0 0 2).objs.length = 2 := by decide +kernel
theorem f5 : (alR H1 0 0 2).last = 12345 := by decide +kernel
theorem f6 : setE (alR H1 0 0 2) 2 1 7 = 0 := by decide +kernel
theorem f7 : geV (setR (alR H1 0 0 2) 2 1 7) 2 1 = 7 := by decide +kernel
theorem f8 : plE (setR (alR H1 0 0 2) 2 1 7) 2 0 1 = 0 := by decide +kernel
theorem f9 : beE (setR (alR H1 0 0 2) 2 1 7) 0 2 = 0 := by decide +kernel
theorem f10 : geV (beR (setR (alR H1 0 0 2) 2 1 7) 0 2) 0 1 = 7 := by decide +kernel
theorem f11 : plE (beR (setR (alR H1 0 0 2) 2 1 7) 0 2) 0 0 1 = 0 := by decide +kernel
theorem f12 : roE (setR (alR H1 0 0 2) 2 1 7) 7 0 0 = 31 := by decide +kernel
theorem f13 : plE (setR (alR H1 0 0 2) 2 1 7) 2 1 0 = 33 := by decide +kernel
theorem f14 : plE (setR (alR H1 0 0 2) 2 1 7) 2 0 2 = 32 := by decide +kernel
theorem f15 : plE zeroH 0 0 0 = 1 := by decide +kernel
theorem f16 : nxI 0 = 12345 := by decide +kernel
theorem f17 : mayB zeroH = false := by decide +kernel
theorem f18 : mayB (setR (alR H1 0 0 2) 2 1 7) = true := by decide +kernel
theorem f19 : mayB (beR (setR (alR H1 0 0 2) 2 1 7) 0 2) = true := by decide +kernel
theorem fitZ : zeroH.Fit := ⟨Nat.zero_le _, fun o ho => by simp [zeroH] at ho⟩
theorem fit1 : H1.Fit := by
  refine ⟨by decide, fun o ho => ?_⟩
  simp [H1] at ho
  subst ho
  exact Nat.zero_le _
theorem may_fit {h : Hp} (hm : mayB h = true) : h.Fit :=
  ⟨by have := may_len hm; omega, fun o ho => by have := (kind_len (ob_kind (may_all hm o ho))).1; show o.slots.length ≤ _; omega⟩
set_option maxRecDepth 100000 in
set_option maxHeartbeats 2000000 in
theorem fixed_any (w : World) : Calls Try.prog 15 #[] w fun e w' => e = .returned (.bool true) ∧ Below w.heap.size w w' := by
  go_enter Try.func15, Try.ntmps15
  go_wp2_with fail
  refine (one_any _).mono ?_
  rintro e w1 ⟨A1, c1, l1, rfl, hl1, ho1, hb1⟩
  have O1 := hid (own_obs ho1 hl1)
  have HB1 := hid hb1
  clear hl1 ho1 hb1
  go_wp2_with fail
  refine (alloc_any H1 0 0 2 A1 c1 _ O1.out fit1).mono ?_
  rintro e w2 ⟨A2, c2, l2, rfl, hl2, ho2, hb2⟩
  obtain ⟨H2, hH2⟩ : ∃ H, H = alR H1 0 0 2 := ⟨_, rfl⟩
  rw [← hH2] at hl2 ⊢
  rw [f1, f2]
  have m2 : mayB H2 = true := by rw [hH2]; exact f3
  have n2 : ((H2.objs.length : Int) != 2) = false := by rw [hH2, f4]; rfl
  have la2 : (H2.last != 12345) = false := by rw [hH2, f5]; rfl
  have F2 := hid (may_fit m2)
  have e6 : setE H2 2 1 7 = 0 := by rw [hH2]; exact f6
  have e7 : geV (setR H2 2 1 7) 2 1 = 7 := by rw [hH2]; exact f7
  have e8 : plE (setR H2 2 1 7) 2 0 1 = 0 := by rw [hH2]; exact f8
  have e9 : beE (setR H2 2 1 7) 0 2 = 0 := by rw [hH2]; exact f9
  have e10 : geV (beR (setR H2 2 1 7) 0 2) 0 1 = 7 := by rw [hH2]; exact f10
  have e11 : plE (beR (setR H2 2 1 7) 0 2) 0 0 1 = 0 := by rw [hH2]; exact f11
  have e12 : roE (setR H2 2 1 7) 7 0 0 = 31 := by rw [hH2]; exact f12
  have e13 : plE (setR H2 2 1 7) 2 1 0 = 33 := by rw [hH2]; exact f13
  have e14 : plE (setR H2 2 1 7) 2 0 2 = 32 := by rw [hH2]; exact f14
  have MM : Hid (mayB (setR H2 2 1 7) = true ∧ mayB (beR (setR H2 2 1 7) 0 2) = true) := by rw [hH2]; exact ⟨f18, f19⟩
  have HE := hid (And.intro e6 (And.intro e7 (And.intro e8 (And.intro e9 (And.intro e10 (And.intro e11 (And.intro e12 (And.intro e13 e14))))))))
  have O2 := hid ((own_obs ho2 hl2).below (below_alloc w2 (.cells #[Value.slice A2 H2.objs.length c2, Value.int .i64 H2.cap, Value.int .i64 H2.last] 24)))
  have K2 := hid (Lies.new w2 24 #[Value.slice A2 H2.objs.length c2, Value.int .i64 H2.cap, Value.int .i64 H2.last])
  have HB2 := hid ((HB1.out.trans (hb2.mono HB1.out.size)).trans ((below_alloc w2 (.cells #[Value.slice A2 H2.objs.length c2, Value.int .i64 H2.cap, Value.int .i64 H2.last] 24)).mono (Nat.le_trans HB1.out.size hb2.size)))
  have HWB := hid (Nat.le_trans HB1.out.size hb2.size)
  clear hl2 ho2 hb2 hH2 e6 e7 e8 e9 e10 e11 e12 e13 e14
  go_wp2_with fail
  refine (may_any H2 A2 c2 _ O2.out F2.out).mono ?_
  rintro e w3 ⟨rfl, hb3⟩
  rw [m2]
  have K3 := hid (K2.out.later hb3)
  have O3 := hid (O2.out.below hb3)
  have HB3 := hid (HB2.out.trans (hb3.mono HB2.out.size))
  clear hb3
  have b0 := K3.out.cell 0
  have b1 := K3.out.cell 1
  have b2 := K3.out.cell 2
  simp only [List.getElem?_toArray, List.getElem?_cons_zero, List.getElem?_cons_succ] at b0 b1 b2
  go_wp2_with fail
  refine (set_any H2 2 1 7 A2 c2 _ O3.out F2.out).mono ?_
  rintro e w4 ⟨A4, c4, l4, rfl, hl4, ho4, hb4⟩
  rw [HE.out.1]
  obtain ⟨H3, hH3⟩ : ∃ H, H = setR H2 2 1 7 := ⟨_, rfl⟩
  rw [← hH3] at hl4 HE MM ⊢
  have K4 := hid (K3.out.later hb4)
  have HB4 := hid (HB3.out.trans (hb4.mono HB3.out.size))
  have hw23 : w2.heap.size < w3.heap.size := K3.out.lt
  have KL := hid (((K4.out.set_ 0 (.slice A4 H3.objs.length c4)).set_ 1 (.int .i64 H3.cap)).set_ 2 (.int .i64 H3.last))
  have OL := hid (own_obs (((ho4.low (p := ⟨w2.heap.size, 0, none⟩) hw23 (.slice A4 H3.objs.length c4)).low (p := ⟨w2.heap.size, 1, none⟩) hw23 (.int .i64 H3.cap)).low (p := ⟨w2.heap.size, 2, none⟩) hw23 (.int .i64 H3.last)) hl4)
  have HBL := hid (((HB4.out.setCell (p := ⟨w2.heap.size, 0, none⟩) HWB.out (.slice A4 H3.objs.length c4)).setCell (p := ⟨w2.heap.size, 1, none⟩) HWB.out (.int .i64 H3.cap)).setCell (p := ⟨w2.heap.size, 2, none⟩) HWB.out (.int .i64 H3.last))
  have K5 : Hid (Lies (((w4.setCell ⟨w2.heap.size, 0, none⟩ (.slice A4 H3.objs.length c4)).setCell ⟨w2.heap.size, 1, none⟩ (.int .i64 H3.cap)).setCell ⟨w2.heap.size, 2, none⟩ (.int .i64 H3.last)) w2.heap.size 24 #[Value.slice A4 H3.objs.length c4, Value.int .i64 H3.cap, Value.int .i64 H3.last]) := by simpa [Hid] using KL.out
  clear b0 b1 b2
  have b0 := K4.out.cell 0
  have b1 := K4.out.cell 1
  have b2 := K4.out.cell 2
  have bf0 := K4.out.frozen 0
  have bf1 := K4.out.frozen 1
  have bf2 := K4.out.frozen 2
  simp only [List.getElem?_toArray, List.getElem?_cons_zero, List.getElem?_cons_succ] at b0 b1 b2
  clear hl4 ho4 hb4 hH3 KL
  go_wp2_with fail
  have F3 := hid (may_fit MM.out.1)
  have F4 := hid (may_fit MM.out.2)
  clear b0 b1 b2 bf0 bf1 bf2
  refine (get_any H3 2 1 A4 c4 _ OL.out F3.out).mono ?_
  rintro e w6 ⟨rfl, hb⟩
  rw [HE.out.2.1, HE.out.2.2.1]
  have K6 := hid (K5.out.later hb)
  have O6 := hid (OL.out.below hb)
  have HB6 := hid (HBL.out.trans (hb.mono HBL.out.size))
  clear hb
  have b0 := K6.out.cell 0
  have b1 := K6.out.cell 1
  have b2 := K6.out.cell 2
  simp only [List.getElem?_toArray, List.getElem?_cons_zero, List.getElem?_cons_succ] at b0 b1 b2
  go_wp2_with fail
  refine (become_any H3 0 2 A4 c4 _ O6.out F3.out).mono ?_
  rintro e w7 ⟨A7, c7, l7, rfl, hl7, ho7, hb⟩
  rw [HE.out.2.2.2.1]
  obtain ⟨H4, hH4⟩ : ∃ H, H = beR H3 0 2 := ⟨_, rfl⟩
  rw [← hH4] at hl7 HE F4 ⊢
  have HA7 := hid (below_alloc w7 (.cells #[Value.slice A7 H4.objs.length c7, Value.int .i64 H4.cap, Value.int .i64 H4.last] 24))
  have K7 := hid ((K6.out.later hb).later HA7.out)
  have K7b := hid (Lies.new w7 24 #[Value.slice A7 H4.objs.length c7, Value.int .i64 H4.cap, Value.int .i64 H4.last])
  have O7 := hid ((O6.out.below hb).below HA7.out)
  have O7b := hid ((own_obs ho7 hl7).below HA7.out)
  have HB7 := hid ((HB6.out.trans (hb.mono HB6.out.size)).trans (HA7.out.mono (Nat.le_trans HB6.out.size hb.size)))
  clear hl7 ho7 hb hH4 b0 b1 b2
  have b0 := K7.out.cell 0
  have b1 := K7.out.cell 1
  have b2 := K7.out.cell 2
  simp only [List.getElem?_toArray, List.getElem?_cons_zero, List.getElem?_cons_succ] at b0 b1 b2
  go_wp2_with fail
  refine (get_any H4 0 1 A7 c7 _ O7b.out F4.out).mono ?_
  rintro e w8 ⟨rfl, hb⟩
  rw [HE.out.2.2.2.2.1, HE.out.2.2.2.2.2.1]
  have K8 := hid (K7.out.later hb)
  have O8 := hid (O7.out.below hb)
  have HB8 := hid (HB7.out.trans (hb.mono HB7.out.size))
  clear hb b0 b1 b2
  have b0 := K8.out.cell 0
  have b1 := K8.out.cell 1
  have b2 := K8.out.cell 2
  simp only [List.getElem?_toArray, List.getElem?_cons_zero, List.getElem?_cons_succ] at b0 b1 b2
  go_wp2_with fail
  refine (alloc_any H3 7 0 0 A4 c4 _ O8.out F3.out).mono ?_
  rintro e w9 ⟨A9, c9, l9, rfl, hl9, ho9, hb⟩
  rw [HE.out.2.2.2.2.2.2.1]
  obtain ⟨H9, hH9⟩ : ∃ H, H = alR H3 7 0 0 := ⟨_, rfl⟩
  rw [← hH9]
  have HA9 := hid (below_alloc w9 (.cells #[Value.slice A9 H9.objs.length c9, Value.int .i64 H9.cap, Value.int .i64 H9.last] 24))
  have K9 := hid ((K8.out.later hb).later HA9.out)
  have O9 := hid ((O8.out.below hb).below HA9.out)
  have HB9 := hid ((HB8.out.trans (hb.mono HB8.out.size)).trans (HA9.out.mono (Nat.le_trans HB8.out.size hb.size)))
  clear hl9 ho9 hb hH9 b0 b1 b2
  have b0 := K9.out.cell 0
  have b1 := K9.out.cell 1
  have b2 := K9.out.cell 2
  simp only [List.getElem?_toArray, List.getElem?_cons_zero, List.getElem?_cons_succ] at b0 b1 b2
  go_wp2_with fail
  refine (byte_any H3 2 0 A4 c4 _ O9.out F3.out).mono ?_
  rintro e w10 ⟨rfl, hb⟩
  rw [HE.out.2.2.2.2.2.2.2.1]
  have K10 := hid (K9.out.later hb)
  have O10 := hid (O9.out.below hb)
  have HB10 := hid (HB9.out.trans (hb.mono HB9.out.size))
  clear hb b0 b1 b2
  have b0 := K10.out.cell 0
  have b1 := K10.out.cell 1
  have b2 := K10.out.cell 2
  simp only [List.getElem?_toArray, List.getElem?_cons_zero, List.getElem?_cons_succ] at b0 b1 b2
  go_wp2_with fail
  refine (get_any H3 2 2 A4 c4 _ O10.out F3.out).mono ?_
  rintro e w11 ⟨rfl, hb⟩
  rw [HE.out.2.2.2.2.2.2.2.2]
  have HB11 := hid (HB10.out.trans (hb.mono HB10.out.size))
  clear hb b0 b1 b2
  go_wp2_with fail
  refine (get_any zeroH 0 0 none 0 _ (ObsR.nil _) fitZ).mono ?_
  rintro e w12 ⟨rfl, hb⟩
  rw [f15]
  have HB12 := hid (HB11.out.trans (hb.mono HB11.out.size))
  clear hb
  go_wp2_with fail
  refine (next_any _ _).mono ?_
  rintro e w' ⟨rfl, rfl⟩
  rw [f16]
  go_wp2_with fail
  refine (may_any zeroH none 0 _ (ObsR.nil _) fitZ).mono ?_
  rintro e w13 ⟨rfl, hb⟩
  rw [f17]
  have HB13 := hid (HB12.out.trans (hb.mono HB12.out.size))
  clear hb
  go_wp2_with fail
  go_ret
  exact ⟨rfl, HB13.out⟩
end Go.Proofs.Ytelljlmjhnjpiaa
