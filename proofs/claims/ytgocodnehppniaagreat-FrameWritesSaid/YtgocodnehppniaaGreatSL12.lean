/- The document's SetTemp. The document's Push. The document's Pop. The document's Go. -/
import Derived.Test.YtgocodnehppniaaGreatRSO12
import Derived.Test.YtgocodnehppniaaGreatMK0
namespace Go.Proofs.YtgocodnehppniaaGreat
open Go.RowKit
set_option maxRecDepth 100000
set_option maxHeartbeats 4000000 in
theorem rsettemp_any12 (h : Hp) (cx k v : Int) (A : Option Addr) (c : Nat) (w : World) (hs : ObsR w A h.objs) (fit : h.Fit) :
    Calls Tryz.prog 25 #[.agg #[.slice A h.objs.length c, .int .i64 h.cap, .int .i64 h.last], .int .i64 cx, .int .i64 k, .int .i64 v] w (HeapTwo w (st12 h cx k v).1 (st12 h cx k v).2) := by
  obtain ⟨w0, hw0⟩ : ∃ w0, w0 = (w.alloc (.cells #[Value.slice A h.objs.length c, Value.int .i64 h.cap, Value.int .i64 h.last] 24)).alloc (.cells #[.slice none 0 0, .int .i64 0, .int .i64 0] 24) := ⟨_, rfl⟩
  have HB0 : Hid (Below w.heap.size w w0) := by show Below _ _ _; rw [hw0]; exact below_alloc2 w _ _
  have HX0 : Hid (Lies w0 w.heap.size 24 #[Value.slice A h.objs.length c, Value.int .i64 h.cap, Value.int .i64 h.last]) := by show Lies _ _ _ _; rw [hw0]; exact (Lies.new w 24 _).later (below_alloc _ _)
  have HK0 : Hid (Lies w0 (w.heap.size + 1) 24 #[.slice none 0 0, .int .i64 0, .int .i64 0]) := by
    show Lies _ _ _ _
    have := Lies.new (w.alloc (.cells #[Value.slice A h.objs.length c, Value.int .i64 h.cap, Value.int .i64 h.last] 24)) 24 #[.slice none 0 0, .int .i64 0, .int .i64 0]
    rw [hw0]
    simpa [Hid] using this
  have HS := hid hs
  have HF := hid fit
  clear hs fit
  go_enter Tryz.func25, Tryz.ntmps25
  go_upto_region 1 with fail
  rw [← hw0]
  clear hw0
  obtain ⟨x0, x1, x2⟩ := HX0.out.c3
  go_wp2_with fail
  refine (rmay_any12 h cx A c _ (HS.out.below HB0.out) HF.out).mono ?_
  rintro e w1 ⟨rfl, hb⟩
  have HB := hid (then_w HB0.out hb)
  have HX1 := hid (HX0.out.later hb)
  have HK1 := hid (HK0.out.later hb)
  clear hb x0 x1 x2
  cases hm : may12 h cx
  · have HRR : Hid (st12 h cx k v = (h, 120)) := by show _ = _; unfold st12; rw [if_pos hm]
    clear hm
    obtain ⟨x0, x1, x2⟩ := HX1.out.c3
    obtain ⟨u0, u1, u2⟩ := HK1.out.c3
    obtain ⟨uf0, uf1, uf2⟩ := HK1.out.f3
    go_wp2_with fail
    have K0 := (((HK1.out.set_ 0 (.slice A h.objs.length c)).set_ 1 (.int .i64 h.cap)).set_ 2 (.int .i64 h.last))
    have r0 := K0.cell 0
    have r1 := K0.cell 1
    have r2 := K0.cell 2
    simp only [List.setIfInBounds_toArray, List.set_cons_zero, List.set_cons_succ, List.getElem?_toArray, List.getElem?_cons_zero, List.getElem?_cons_succ] at r0 r1 r2
    refine bodyPost_ret (v := .tuple #[.agg #[.slice A h.objs.length c, .int .i64 h.cap, .int .i64 h.last], .int .i64 120]) (by simp [results, Tryz.results25, go_sem, r0, r1, r2]) rfl ?_
    rw [HRR.out]
    have HBE := (((HB.out).setCell (p := ⟨w.heap.size + 1, 0, none⟩) (by simp) (.slice A h.objs.length c)).setCell (p := ⟨w.heap.size + 1, 1, none⟩) (by simp) (.int .i64 h.cap)).setCell (p := ⟨w.heap.size + 1, 2, none⟩) (by simp) (.int .i64 h.last)
    exact ⟨A, c, rfl, HS.out.below HBE, HBE⟩
  obtain ⟨hm0, h22, -⟩ := may_parts12 hm
  obtain ⟨t, ht⟩ : ∃ t, t = (cm12 h cx).temps := ⟨_, rfl⟩
  have HT := hid ht
  have H22 := hid h22
  have HM := hid hm
  clear hm h22 ht hm0
  obtain ⟨x0, x1, x2⟩ := HX1.out.c3
  go_wp2_with fail
  refine (rsp_any12 h cx A c _ (HS.out.below HB.out) HF.out H22.out).mono ?_
  rintro e w2 ⟨rfl, hb⟩
  rw [← HT.out]
  have HB2 := hid (then_w HB.out hb)
  have HX2 := hid (HX1.out.later hb)
  have HK2 := hid (HK1.out.later hb)
  clear hb x0 x1 x2
  obtain ⟨x0, x1, x2⟩ := HX2.out.c3
  go_wp2_with fail
  refine (rhas_any h v A c _).mono ?_
  rintro e w3 ⟨rfl, hb⟩
  have HB3 := hid (then_w HB2.out hb)
  have HX3 := hid (HX2.out.later hb)
  have HK3 := hid (HK2.out.later hb)
  clear hb x0 x1 x2
  cases hv : hasB h.objs.length v
  · have HRR : Hid (st12 h cx k v = (h, 31)) := by show _ = _; unfold st12; rw [if_neg (by rw [HM.out]; decide), if_pos hv]
    clear hv
    obtain ⟨x0, x1, x2⟩ := HX3.out.c3
    obtain ⟨u0, u1, u2⟩ := HK3.out.c3
    obtain ⟨uf0, uf1, uf2⟩ := HK3.out.f3
    go_wp2_with fail
    have K0 := (((HK3.out.set_ 0 (.slice A h.objs.length c)).set_ 1 (.int .i64 h.cap)).set_ 2 (.int .i64 h.last))
    have r0 := K0.cell 0
    have r1 := K0.cell 1
    have r2 := K0.cell 2
    simp only [List.setIfInBounds_toArray, List.set_cons_zero, List.set_cons_succ, List.getElem?_toArray, List.getElem?_cons_zero, List.getElem?_cons_succ] at r0 r1 r2
    refine bodyPost_ret (v := .tuple #[.agg #[.slice A h.objs.length c, .int .i64 h.cap, .int .i64 h.last], .int .i64 31]) (by simp [results, Tryz.results25, go_sem, r0, r1, r2]) rfl ?_
    rw [HRR.out]
    have HBE := (((HB3.out).setCell (p := ⟨w.heap.size + 1, 0, none⟩) (by simp) (.slice A h.objs.length c)).setCell (p := ⟨w.heap.size + 1, 1, none⟩) (by simp) (.int .i64 h.cap)).setCell (p := ⟨w.heap.size + 1, 2, none⟩) (by simp) (.int .i64 h.last)
    exact ⟨A, c, rfl, HS.out.below HBE, HBE⟩
  have HV := hid hv
  clear hv
  by_cases g : k < 0
  · have HRR : Hid (st12 h cx k v = (h, 121)) := by show _ = _; unfold st12; rw [if_neg (by rw [HM.out]; decide), if_neg (by rw [HV.out]; decide), if_pos (.inl g)]
    obtain ⟨x0, x1, x2⟩ := HX3.out.c3
    obtain ⟨u0, u1, u2⟩ := HK3.out.c3
    obtain ⟨uf0, uf1, uf2⟩ := HK3.out.f3
    go_wp2_with fail
    have K0 := (((HK3.out.set_ 0 (.slice A h.objs.length c)).set_ 1 (.int .i64 h.cap)).set_ 2 (.int .i64 h.last))
    have r0 := K0.cell 0
    have r1 := K0.cell 1
    have r2 := K0.cell 2
    simp only [List.setIfInBounds_toArray, List.set_cons_zero, List.set_cons_succ, List.getElem?_toArray, List.getElem?_cons_zero, List.getElem?_cons_succ] at r0 r1 r2
    refine bodyPost_ret (v := .tuple #[.agg #[.slice A h.objs.length c, .int .i64 h.cap, .int .i64 h.last], .int .i64 121]) (by simp [results, Tryz.results25, go_sem, r0, r1, r2]) rfl ?_
    rw [HRR.out]
    have HBE := (((HB3.out).setCell (p := ⟨w.heap.size + 1, 0, none⟩) (by simp) (.slice A h.objs.length c)).setCell (p := ⟨w.heap.size + 1, 1, none⟩) (by simp) (.int .i64 h.cap)).setCell (p := ⟨w.heap.size + 1, 2, none⟩) (by simp) (.int .i64 h.last)
    exact ⟨A, c, rfl, HS.out.below HBE, HBE⟩
  by_cases g2 : t ≤ k
  · have HRR : Hid (st12 h cx k v = (h, 121)) := by show _ = _; unfold st12; rw [if_neg (by rw [HM.out]; decide), if_neg (by rw [HV.out]; decide), if_pos (.inr (by rw [← HT.out]; exact g2))]
    obtain ⟨x0, x1, x2⟩ := HX3.out.c3
    obtain ⟨u0, u1, u2⟩ := HK3.out.c3
    obtain ⟨uf0, uf1, uf2⟩ := HK3.out.f3
    go_wp2_with fail
    have K0 := (((HK3.out.set_ 0 (.slice A h.objs.length c)).set_ 1 (.int .i64 h.cap)).set_ 2 (.int .i64 h.last))
    have r0 := K0.cell 0
    have r1 := K0.cell 1
    have r2 := K0.cell 2
    simp only [List.setIfInBounds_toArray, List.set_cons_zero, List.set_cons_succ, List.getElem?_toArray, List.getElem?_cons_zero, List.getElem?_cons_succ] at r0 r1 r2
    refine bodyPost_ret (v := .tuple #[.agg #[.slice A h.objs.length c, .int .i64 h.cap, .int .i64 h.last], .int .i64 121]) (by simp [results, Tryz.results25, go_sem, r0, r1, r2]) rfl ?_
    rw [HRR.out]
    have HBE := (((HB3.out).setCell (p := ⟨w.heap.size + 1, 0, none⟩) (by simp) (.slice A h.objs.length c)).setCell (p := ⟨w.heap.size + 1, 1, none⟩) (by simp) (.int .i64 h.cap)).setCell (p := ⟨w.heap.size + 1, 2, none⟩) (by simp) (.int .i64 h.last)
    exact ⟨A, c, rfl, HS.out.below HBE, HBE⟩
  have HRR : Hid (st12 h cx k v = (setR h cx (6 + k) v, 0)) := by show _ = _; unfold st12; rw [if_neg (by rw [HM.out]; decide), if_neg (by rw [HV.out]; decide), if_neg (by rw [← HT.out]; omega)]
  have HTB : t ≤ 16 := by rw [HT.out]; exact temps_le12 HM.out
  have hw : IntKind.i64.wrap (6 + k) = 6 + k := IntWalk.i64_in _ ⟨by omega, by omega⟩
  obtain ⟨x0, x1, x2⟩ := HX3.out.c3
  go_wp2_with fail
  refine (rset_own12 h cx (6 + k) v A c _ (HS.out.below HB3.out) HF.out (set_ok12 HM.out HV.out (by omega) (by omega))).mono ?_
  rintro e u4 ⟨A4, c4, ls4, rfl, hm, ho, hb⟩
  obtain ⟨g4, hg4⟩ : ∃ x, x = setR h cx (6 + k) v := ⟨_, rfl⟩
  rw [← hg4] at hm ⊢
  have HG4 := hid hg4
  have BU4 := hid (then_w HB3.out hb)
  have XU4 := hid (HX3.out.later hb)
  have KU4 := hid (HK3.out.later hb)
  have HM4 := hid hm
  have OU4 := hid ho
  clear hb hm ho hg4 x0 x1 x2
  go_upto_region 9 with fail
  obtain ⟨w4, hw⟩ : ∃ x, x = u4.alloc (.cells #[.slice A4 g4.objs.length c4, .int .i64 g4.cap, .int .i64 g4.last] 24) := ⟨_, rfl⟩
  obtain ⟨bg4, hbg⟩ : ∃ x, x = u4.heap.size := ⟨_, rfl⟩
  have LG4 : Hid (Lies w4 bg4 24 #[.slice A4 g4.objs.length c4, .int .i64 g4.cap, .int .i64 g4.last]) := by
    show Lies _ _ _ _
    rw [hw, hbg]
    exact Lies.new u4 24 _
  have hb : Below u4.heap.size u4 w4 := by
    rw [hw]
    exact below_alloc u4 _
  have HB4 := hid (then_w BU4.out hb)
  have HX4 := hid (XU4.out.later hb)
  have HK4 := hid (KU4.out.later hb)
  have HO4 := hid (OU4.out.later hb)
  have HBG4 : Hid (w.heap.size + 1 < bg4) := by show _ < _; rw [hbg]; exact KU4.out.lt
  rw [← hw]
  simp only [← hbg]
  clear hb hw hbg
  obtain ⟨l0, l1, l2⟩ := LG4.out.c3
  obtain ⟨lf0, lf1, lf2⟩ := LG4.out.f3
  have HR2 : Hid (st12 h cx k v = (g4, 0)) := by show _ = _; rw [HG4.out]; exact HRR.out
  clear HRR
  have HRR := HR2
  obtain ⟨u0, u1, u2⟩ := HK4.out.c3
  obtain ⟨uf0, uf1, uf2⟩ := HK4.out.f3
  go_wp2_with fail
  have K0 := (((HK4.out.set_ 0 (.slice A4 g4.objs.length c4)).set_ 1 (.int .i64 g4.cap)).set_ 2 (.int .i64 g4.last))
  have r0 := K0.cell 0
  have r1 := K0.cell 1
  have r2 := K0.cell 2
  simp only [List.setIfInBounds_toArray, List.set_cons_zero, List.set_cons_succ, List.getElem?_toArray, List.getElem?_cons_zero, List.getElem?_cons_succ] at r0 r1 r2
  refine bodyPost_ret (v := .tuple #[.agg #[.slice A4 g4.objs.length c4, .int .i64 g4.cap, .int .i64 g4.last], .int .i64 0]) (by simp [results, Tryz.results25, go_sem, r0, r1, r2]) rfl ?_
  rw [HRR.out]
  have HBE := (((HB4.out).setCell (p := ⟨w.heap.size + 1, 0, none⟩) (by simp) (.slice A4 g4.objs.length c4)).setCell (p := ⟨w.heap.size + 1, 1, none⟩) (by simp) (.int .i64 g4.cap)).setCell (p := ⟨w.heap.size + 1, 2, none⟩) (by simp) (.int .i64 g4.last)
  have hlt : w.heap.size + 1 < w3.heap.size := HK3.out.lt
  exact ⟨A4, c4, rfl, own_obs (((HO4.out.low (p := ⟨w.heap.size + 1, 0, none⟩) hlt _).low (p := ⟨w.heap.size + 1, 1, none⟩) hlt _).low (p := ⟨w.heap.size + 1, 2, none⟩) hlt _) HM4.out, HBE⟩
end Go.Proofs.YtgocodnehppniaaGreat
namespace Go.Proofs.YtgocodnehppniaaGreat
open Go.RowKit
set_option maxRecDepth 100000
set_option maxHeartbeats 4000000 in
theorem rpush_any12 (h : Hp) (cx v : Int) (A : Option Addr) (c : Nat) (w : World) (hs : ObsR w A h.objs) (fit : h.Fit) :
    Calls Tryz.prog 21 #[.agg #[.slice A h.objs.length c, .int .i64 h.cap, .int .i64 h.last], .int .i64 cx, .int .i64 v] w (HeapTwo w (pu12 h cx v).1 (pu12 h cx v).2) := by
  obtain ⟨w0, hw0⟩ : ∃ w0, w0 = (w.alloc (.cells #[Value.slice A h.objs.length c, Value.int .i64 h.cap, Value.int .i64 h.last] 24)).alloc (.cells #[.slice none 0 0, .int .i64 0, .int .i64 0] 24) := ⟨_, rfl⟩
  have HB0 : Hid (Below w.heap.size w w0) := by show Below _ _ _; rw [hw0]; exact below_alloc2 w _ _
  have HX0 : Hid (Lies w0 w.heap.size 24 #[Value.slice A h.objs.length c, Value.int .i64 h.cap, Value.int .i64 h.last]) := by show Lies _ _ _ _; rw [hw0]; exact (Lies.new w 24 _).later (below_alloc _ _)
  have HK0 : Hid (Lies w0 (w.heap.size + 1) 24 #[.slice none 0 0, .int .i64 0, .int .i64 0]) := by
    show Lies _ _ _ _
    have := Lies.new (w.alloc (.cells #[Value.slice A h.objs.length c, Value.int .i64 h.cap, Value.int .i64 h.last] 24)) 24 #[.slice none 0 0, .int .i64 0, .int .i64 0]
    rw [hw0]
    simpa [Hid] using this
  have HS := hid hs
  have HF := hid fit
  clear hs fit
  go_enter Tryz.func21, Tryz.ntmps21
  go_upto_region 1 with fail
  rw [← hw0]
  clear hw0
  obtain ⟨x0, x1, x2⟩ := HX0.out.c3
  go_wp2_with fail
  refine (rmay_any12 h cx A c _ (HS.out.below HB0.out) HF.out).mono ?_
  rintro e w1 ⟨rfl, hb⟩
  have HB := hid (then_w HB0.out hb)
  have HX1 := hid (HX0.out.later hb)
  have HK1 := hid (HK0.out.later hb)
  clear hb x0 x1 x2
  cases hm : may12 h cx
  · have HRR : Hid (pu12 h cx v = (h, 120)) := by show _ = _; unfold pu12; rw [if_pos hm]
    clear hm
    obtain ⟨x0, x1, x2⟩ := HX1.out.c3
    obtain ⟨u0, u1, u2⟩ := HK1.out.c3
    obtain ⟨uf0, uf1, uf2⟩ := HK1.out.f3
    go_wp2_with fail
    have K0 := (((HK1.out.set_ 0 (.slice A h.objs.length c)).set_ 1 (.int .i64 h.cap)).set_ 2 (.int .i64 h.last))
    have r0 := K0.cell 0
    have r1 := K0.cell 1
    have r2 := K0.cell 2
    simp only [List.setIfInBounds_toArray, List.set_cons_zero, List.set_cons_succ, List.getElem?_toArray, List.getElem?_cons_zero, List.getElem?_cons_succ] at r0 r1 r2
    refine bodyPost_ret (v := .tuple #[.agg #[.slice A h.objs.length c, .int .i64 h.cap, .int .i64 h.last], .int .i64 120]) (by simp [results, Tryz.results21, go_sem, r0, r1, r2]) rfl ?_
    rw [HRR.out]
    have HBE := (((HB.out).setCell (p := ⟨w.heap.size + 1, 0, none⟩) (by simp) (.slice A h.objs.length c)).setCell (p := ⟨w.heap.size + 1, 1, none⟩) (by simp) (.int .i64 h.cap)).setCell (p := ⟨w.heap.size + 1, 2, none⟩) (by simp) (.int .i64 h.last)
    exact ⟨A, c, rfl, HS.out.below HBE, HBE⟩
  obtain ⟨hm0, h22, -⟩ := may_parts12 hm
  obtain ⟨t, ht⟩ : ∃ t, t = (cm12 h cx).temps := ⟨_, rfl⟩
  obtain ⟨n, hn⟩ : ∃ n, n = sp12 h cx := ⟨_, rfl⟩
  have HT := hid ht
  have HN := hid hn
  have H22 := hid h22
  have HM := hid hm
  clear hm h22 ht hm0 hn
  obtain ⟨x0, x1, x2⟩ := HX1.out.c3
  go_wp2_with fail
  refine (rsp_any12 h cx A c _ (HS.out.below HB.out) HF.out H22.out).mono ?_
  rintro e w2 ⟨rfl, hb⟩
  rw [← HT.out, ← HN.out]
  have HB2 := hid (then_w HB.out hb)
  have HX2 := hid (HX1.out.later hb)
  have HK2 := hid (HK1.out.later hb)
  clear hb x0 x1 x2
  obtain ⟨x0, x1, x2⟩ := HX2.out.c3
  go_wp2_with fail
  refine (rhas_any h v A c _).mono ?_
  rintro e w3 ⟨rfl, hb⟩
  have HB3 := hid (then_w HB2.out hb)
  have HX3 := hid (HX2.out.later hb)
  have HK3 := hid (HK2.out.later hb)
  clear hb x0 x1 x2
  cases hv : hasB h.objs.length v
  · have HRR : Hid (pu12 h cx v = (h, 31)) := by show _ = _; unfold pu12; rw [if_neg (by rw [HM.out]; decide), if_pos hv]
    clear hv
    obtain ⟨x0, x1, x2⟩ := HX3.out.c3
    obtain ⟨u0, u1, u2⟩ := HK3.out.c3
    obtain ⟨uf0, uf1, uf2⟩ := HK3.out.f3
    go_wp2_with fail
    have K0 := (((HK3.out.set_ 0 (.slice A h.objs.length c)).set_ 1 (.int .i64 h.cap)).set_ 2 (.int .i64 h.last))
    have r0 := K0.cell 0
    have r1 := K0.cell 1
    have r2 := K0.cell 2
    simp only [List.setIfInBounds_toArray, List.set_cons_zero, List.set_cons_succ, List.getElem?_toArray, List.getElem?_cons_zero, List.getElem?_cons_succ] at r0 r1 r2
    refine bodyPost_ret (v := .tuple #[.agg #[.slice A h.objs.length c, .int .i64 h.cap, .int .i64 h.last], .int .i64 31]) (by simp [results, Tryz.results21, go_sem, r0, r1, r2]) rfl ?_
    rw [HRR.out]
    have HBE := (((HB3.out).setCell (p := ⟨w.heap.size + 1, 0, none⟩) (by simp) (.slice A h.objs.length c)).setCell (p := ⟨w.heap.size + 1, 1, none⟩) (by simp) (.int .i64 h.cap)).setCell (p := ⟨w.heap.size + 1, 2, none⟩) (by simp) (.int .i64 h.last)
    exact ⟨A, c, rfl, HS.out.below HBE, HBE⟩
  have HV := hid hv
  clear hv
  by_cases g : n = 16
  · have HRR : Hid (pu12 h cx v = (h, 121)) := by show _ = _; unfold pu12; rw [if_neg (by rw [HM.out]; decide), if_neg (by rw [HV.out]; decide), if_pos (by rw [← HN.out]; exact g)]
    subst g
    obtain ⟨x0, x1, x2⟩ := HX3.out.c3
    obtain ⟨u0, u1, u2⟩ := HK3.out.c3
    obtain ⟨uf0, uf1, uf2⟩ := HK3.out.f3
    go_wp2_with fail
    have K0 := (((HK3.out.set_ 0 (.slice A h.objs.length c)).set_ 1 (.int .i64 h.cap)).set_ 2 (.int .i64 h.last))
    have r0 := K0.cell 0
    have r1 := K0.cell 1
    have r2 := K0.cell 2
    simp only [List.setIfInBounds_toArray, List.set_cons_zero, List.set_cons_succ, List.getElem?_toArray, List.getElem?_cons_zero, List.getElem?_cons_succ] at r0 r1 r2
    refine bodyPost_ret (v := .tuple #[.agg #[.slice A h.objs.length c, .int .i64 h.cap, .int .i64 h.last], .int .i64 121]) (by simp [results, Tryz.results21, go_sem, r0, r1, r2]) rfl ?_
    rw [HRR.out]
    have HBE := (((HB3.out).setCell (p := ⟨w.heap.size + 1, 0, none⟩) (by simp) (.slice A h.objs.length c)).setCell (p := ⟨w.heap.size + 1, 1, none⟩) (by simp) (.int .i64 h.cap)).setCell (p := ⟨w.heap.size + 1, 2, none⟩) (by simp) (.int .i64 h.last)
    exact ⟨A, c, rfl, HS.out.below HBE, HBE⟩
  have HRR : Hid (pu12 h cx v = (setR (setR h cx (6 + n) v) cx 2 (2 * n + 3), 0)) := by show _ = _; unfold pu12; rw [if_neg (by rw [HM.out]; decide), if_neg (by rw [HV.out]; decide), if_neg (by rw [← HN.out]; exact g), ← HN.out]
  have HTB := temps_nn12 HM.out
  rw [← HN.out, ← HT.out] at HTB
  obtain ⟨t0, t1, t2⟩ := HTB
  have hnb : 0 ≤ n ∧ n ≤ 15 := by omega
  have HNB := hid hnb
  have gB : (n == 16) = false := beq_eq_false_iff_ne.2 g
  have hw : IntKind.i64.wrap (6 + n) = 6 + n := IntWalk.i64_in _ ⟨by omega, by omega⟩
  have hw2 : IntKind.i64.wrap (2 * n) = 2 * n := IntWalk.i64_in _ ⟨by omega, by omega⟩
  have hw3 : IntKind.i64.wrap (2 * n + 3) = 2 * n + 3 := IntWalk.i64_in _ ⟨by omega, by omega⟩
  have hod : ∀ z, hasB z (2 * n + 3) = true := fun z => by
    rw [show 2 * n + 3 = 2 * (n + 1) + 1 by omega]
    exact odd_has12 (by omega) (by omega)
  have HAG := hid (set_again12 HM.out HV.out (k := 6 + n) (by omega) (by omega) (hod _) (j := 2) (by decide) (by decide))
  clear t0 t1 t2 hod
  obtain ⟨x0, x1, x2⟩ := HX3.out.c3
  go_wp2_with fail
  refine (rset_own12 h cx (6 + n) v A c _ (HS.out.below HB3.out) HF.out (set_ok12 HM.out HV.out (by omega) (by omega))).mono ?_
  rintro e u4 ⟨A4, c4, ls4, rfl, hm, ho, hb⟩
  obtain ⟨g4, hg4⟩ : ∃ x, x = setR h cx (6 + n) v := ⟨_, rfl⟩
  rw [← hg4] at hm ⊢
  have HG4 := hid hg4
  have BU4 := hid (then_w HB3.out hb)
  have XU4 := hid (HX3.out.later hb)
  have KU4 := hid (HK3.out.later hb)
  have HM4 := hid hm
  have OU4 := hid ho
  clear hb hm ho hg4 x0 x1 x2
  go_upto_region 9 with fail
  obtain ⟨w4, hw⟩ : ∃ x, x = u4.alloc (.cells #[.slice A4 g4.objs.length c4, .int .i64 g4.cap, .int .i64 g4.last] 24) := ⟨_, rfl⟩
  obtain ⟨bg4, hbg⟩ : ∃ x, x = u4.heap.size := ⟨_, rfl⟩
  have LG4 : Hid (Lies w4 bg4 24 #[.slice A4 g4.objs.length c4, .int .i64 g4.cap, .int .i64 g4.last]) := by
    show Lies _ _ _ _
    rw [hw, hbg]
    exact Lies.new u4 24 _
  have hb : Below u4.heap.size u4 w4 := by
    rw [hw]
    exact below_alloc u4 _
  have HB4 := hid (then_w BU4.out hb)
  have HX4 := hid (XU4.out.later hb)
  have HK4 := hid (KU4.out.later hb)
  have HO4 := hid (OU4.out.later hb)
  have HBG4 : Hid (w.heap.size + 1 < bg4) := by show _ < _; rw [hbg]; exact KU4.out.lt
  rw [← hw]
  simp only [← hbg]
  clear hb hw hbg
  rw [← HG4.out] at HAG HRR
  have O4 := hid (own_obs HO4.out HM4.out)
  obtain ⟨x0, x1, x2⟩ := HX4.out.c3
  obtain ⟨l0, l1, l2⟩ := LG4.out.c3
  obtain ⟨lf0, lf1, lf2⟩ := LG4.out.f3
  clear lf0 lf1 lf2
  go_wp2_with fail
  refine (rset_own12 g4 cx 2 (2 * n + 3) A4 c4 _ (O4.out) HAG.out.2 (HAG.out.1)).mono ?_
  rintro e u5 ⟨A5, c5, ls5, rfl, hm, ho, hb⟩
  obtain ⟨g5, hg5⟩ : ∃ x, x = setR g4 cx 2 (2 * n + 3) := ⟨_, rfl⟩
  rw [← hg5] at hm ⊢
  have HG5 := hid hg5
  have BU5 := hid (then_w HB4.out hb)
  have XU5 := hid (HX4.out.later hb)
  have KU5 := hid (HK4.out.later hb)
  have LU5 := hid (LG4.out.later hb)
  have HM5 := hid hm
  have OU5 := hid ho
  clear hb hm ho hg5 x0 x1 x2 l0 l1 l2
  obtain ⟨l0, l1, l2⟩ := LU5.out.c3
  obtain ⟨lf0, lf1, lf2⟩ := LU5.out.f3
  have hbl := HBG4.out
  have hbu : bg4 < w4.heap.size := LG4.out.lt
  go_upto_region 10 with fail
  obtain ⟨w5, hw⟩ : ∃ x, x = (((u5.setCell ⟨bg4, 0, none⟩ (.slice A5 g5.objs.length c5)).setCell ⟨bg4, 1, none⟩ (.int .i64 g5.cap)).setCell ⟨bg4, 2, none⟩ (.int .i64 g5.last)) := ⟨_, rfl⟩
  have LG5 : Hid (Lies w5 bg4 24 #[.slice A5 g5.objs.length c5, .int .i64 g5.cap, .int .i64 g5.last]) := by
    show Lies _ _ _ _
    rw [hw]
    exact (((LU5.out.set_ 0 (.slice A5 g5.objs.length c5)).set_ 1 (.int .i64 g5.cap)).set_ 2 (.int .i64 g5.last))
  have HB5 : Hid (Below w.heap.size w w5) := by
    show Below _ _ _
    rw [hw]
    exact ((BU5.out.setCell (p := ⟨bg4, 0, none⟩) (by show w.heap.size ≤ bg4; omega) _).setCell (p := ⟨bg4, 1, none⟩) (by show w.heap.size ≤ bg4; omega) _).setCell (p := ⟨bg4, 2, none⟩) (by show w.heap.size ≤ bg4; omega) _
  have HX5 : Hid (Lies w5 w.heap.size 24 #[Value.slice A h.objs.length c, Value.int .i64 h.cap, Value.int .i64 h.last]) := by
    show Lies _ _ _ _
    rw [hw]
    exact (((XU5.out.far (p := ⟨bg4, 0, none⟩) (by show w.heap.size ≠ bg4; omega) _).far (p := ⟨bg4, 1, none⟩) (by show w.heap.size ≠ bg4; omega) _).far (p := ⟨bg4, 2, none⟩) (by show w.heap.size ≠ bg4; omega) _)
  have HK5 : Hid (Lies w5 (w.heap.size + 1) 24 #[.slice none 0 0, .int .i64 0, .int .i64 0]) := by
    show Lies _ _ _ _
    rw [hw]
    exact (((KU5.out.far (p := ⟨bg4, 0, none⟩) (by show w.heap.size + 1 ≠ bg4; omega) _).far (p := ⟨bg4, 1, none⟩) (by show w.heap.size + 1 ≠ bg4; omega) _).far (p := ⟨bg4, 2, none⟩) (by show w.heap.size + 1 ≠ bg4; omega) _)
  have HO5 : Hid (OwnH w5 w4.heap.size A5 c5 ls5) := by
    show OwnH _ _ _ _ _
    rw [hw]
    exact ((OU5.out.low (p := ⟨bg4, 0, none⟩) hbu _).low (p := ⟨bg4, 1, none⟩) hbu _).low (p := ⟨bg4, 2, none⟩) hbu _
  rw [← hw]
  clear hw hbl hbu l0 l1 l2 lf0 lf1 lf2
  rw [← HG5.out] at HRR
  obtain ⟨l0, l1, l2⟩ := LG5.out.c3
  obtain ⟨lf0, lf1, lf2⟩ := LG5.out.f3
  obtain ⟨u0, u1, u2⟩ := HK5.out.c3
  obtain ⟨uf0, uf1, uf2⟩ := HK5.out.f3
  go_wp2_with fail
  have K0 := (((HK5.out.set_ 0 (.slice A5 g5.objs.length c5)).set_ 1 (.int .i64 g5.cap)).set_ 2 (.int .i64 g5.last))
  have r0 := K0.cell 0
  have r1 := K0.cell 1
  have r2 := K0.cell 2
  simp only [List.setIfInBounds_toArray, List.set_cons_zero, List.set_cons_succ, List.getElem?_toArray, List.getElem?_cons_zero, List.getElem?_cons_succ] at r0 r1 r2
  refine bodyPost_ret (v := .tuple #[.agg #[.slice A5 g5.objs.length c5, .int .i64 g5.cap, .int .i64 g5.last], .int .i64 0]) (by simp [results, Tryz.results21, go_sem, r0, r1, r2]) rfl ?_
  rw [HRR.out]
  have HBE := (((HB5.out).setCell (p := ⟨w.heap.size + 1, 0, none⟩) (by simp) (.slice A5 g5.objs.length c5)).setCell (p := ⟨w.heap.size + 1, 1, none⟩) (by simp) (.int .i64 g5.cap)).setCell (p := ⟨w.heap.size + 1, 2, none⟩) (by simp) (.int .i64 g5.last)
  have hlt : w.heap.size + 1 < w4.heap.size := HK4.out.lt
  exact ⟨A5, c5, rfl, own_obs (((HO5.out.low (p := ⟨w.heap.size + 1, 0, none⟩) hlt _).low (p := ⟨w.heap.size + 1, 1, none⟩) hlt _).low (p := ⟨w.heap.size + 1, 2, none⟩) hlt _) HM5.out, HBE⟩
end Go.Proofs.YtgocodnehppniaaGreat
namespace Go.Proofs.YtgocodnehppniaaGreat
open Go.RowKit
set_option maxRecDepth 100000
/-- a heap, a value and an error are returned -/
def HeapVal12 (w : World) (r : Hp × Int × Int) (e : Ending) (w' : World) : Prop := ∃ A c, e = .returned (.tuple #[.agg #[.slice A r.1.objs.length c, .int .i64 r.1.cap, .int .i64 r.1.last], .int .i64 r.2.1, .int .i64 r.2.2]) ∧ ObsR w' A r.1.objs ∧ Below w.heap.size w w'
set_option maxHeartbeats 4000000 in
theorem rpop_any12 (h : Hp) (cx : Int) (A : Option Addr) (c : Nat) (w : World) (hs : ObsR w A h.objs) (fit : h.Fit) :
    Calls Tryz.prog 23 #[.agg #[.slice A h.objs.length c, .int .i64 h.cap, .int .i64 h.last], .int .i64 cx] w (HeapVal12 w (po12 h cx)) := by
  obtain ⟨w0, hw0⟩ : ∃ w0, w0 = (w.alloc (.cells #[Value.slice A h.objs.length c, Value.int .i64 h.cap, Value.int .i64 h.last] 24)).alloc (.cells #[.slice none 0 0, .int .i64 0, .int .i64 0] 24) := ⟨_, rfl⟩
  have HB0 : Hid (Below w.heap.size w w0) := by show Below _ _ _; rw [hw0]; exact below_alloc2 w _ _
  have HX0 : Hid (Lies w0 w.heap.size 24 #[Value.slice A h.objs.length c, Value.int .i64 h.cap, Value.int .i64 h.last]) := by show Lies _ _ _ _; rw [hw0]; exact (Lies.new w 24 _).later (below_alloc _ _)
  have HK0 : Hid (Lies w0 (w.heap.size + 1) 24 #[.slice none 0 0, .int .i64 0, .int .i64 0]) := by
    show Lies _ _ _ _
    have := Lies.new (w.alloc (.cells #[Value.slice A h.objs.length c, Value.int .i64 h.cap, Value.int .i64 h.last] 24)) 24 #[.slice none 0 0, .int .i64 0, .int .i64 0]
    rw [hw0]
    simpa [Hid] using this
  have HS := hid hs
  have HF := hid fit
  clear hs fit
  go_enter Tryz.func23, Tryz.ntmps23
  go_upto_region 1 with fail
  rw [← hw0]
  clear hw0
  obtain ⟨x0, x1, x2⟩ := HX0.out.c3
  go_wp2_with fail
  refine (rmay_any12 h cx A c _ (HS.out.below HB0.out) HF.out).mono ?_
  rintro e w1 ⟨rfl, hb⟩
  have HB := hid (then_w HB0.out hb)
  have HX1 := hid (HX0.out.later hb)
  have HK1 := hid (HK0.out.later hb)
  clear hb x0 x1 x2
  cases hm : may12 h cx
  · have HRR : Hid (po12 h cx = (h, 0, 120)) := by show _ = _; unfold po12; rw [if_pos hm]
    clear hm
    obtain ⟨x0, x1, x2⟩ := HX1.out.c3
    obtain ⟨u0, u1, u2⟩ := HK1.out.c3
    obtain ⟨uf0, uf1, uf2⟩ := HK1.out.f3
    go_wp2_with fail
    have K0 := (((HK1.out.set_ 0 (.slice A h.objs.length c)).set_ 1 (.int .i64 h.cap)).set_ 2 (.int .i64 h.last))
    have r0 := K0.cell 0
    have r1 := K0.cell 1
    have r2 := K0.cell 2
    simp only [List.setIfInBounds_toArray, List.set_cons_zero, List.set_cons_succ, List.getElem?_toArray, List.getElem?_cons_zero, List.getElem?_cons_succ] at r0 r1 r2
    refine bodyPost_ret (v := .tuple #[.agg #[.slice A h.objs.length c, .int .i64 h.cap, .int .i64 h.last], .int .i64 0, .int .i64 120]) (by simp [results, Tryz.results23, go_sem, r0, r1, r2]) rfl ?_
    rw [HRR.out]
    have HBE := (((HB.out).setCell (p := ⟨w.heap.size + 1, 0, none⟩) (by simp) (.slice A h.objs.length c)).setCell (p := ⟨w.heap.size + 1, 1, none⟩) (by simp) (.int .i64 h.cap)).setCell (p := ⟨w.heap.size + 1, 2, none⟩) (by simp) (.int .i64 h.last)
    exact ⟨A, c, rfl, HS.out.below HBE, HBE⟩
  obtain ⟨hm0, h22, -⟩ := may_parts12 hm
  obtain ⟨t, ht⟩ : ∃ t, t = (cm12 h cx).temps := ⟨_, rfl⟩
  obtain ⟨n, hn⟩ : ∃ n, n = sp12 h cx := ⟨_, rfl⟩
  have HT := hid ht
  have HN := hid hn
  have H22 := hid h22
  have HM := hid hm
  clear hm h22 ht hm0 hn
  obtain ⟨x0, x1, x2⟩ := HX1.out.c3
  go_wp2_with fail
  refine (rsp_any12 h cx A c _ (HS.out.below HB.out) HF.out H22.out).mono ?_
  rintro e w2 ⟨rfl, hb⟩
  rw [← HT.out, ← HN.out]
  have HB2 := hid (then_w HB.out hb)
  have HX2 := hid (HX1.out.later hb)
  have HK2 := hid (HK1.out.later hb)
  clear hb x0 x1 x2
  by_cases g : n = t
  · have HRR : Hid (po12 h cx = (h, 0, 121)) := by show _ = _; unfold po12; rw [if_neg (by rw [HM.out]; decide), if_pos (by rw [← HN.out, ← HT.out]; exact g)]
    subst g
    obtain ⟨x0, x1, x2⟩ := HX2.out.c3
    obtain ⟨u0, u1, u2⟩ := HK2.out.c3
    obtain ⟨uf0, uf1, uf2⟩ := HK2.out.f3
    go_wp2_with fail
    have K0 := (((HK2.out.set_ 0 (.slice A h.objs.length c)).set_ 1 (.int .i64 h.cap)).set_ 2 (.int .i64 h.last))
    have r0 := K0.cell 0
    have r1 := K0.cell 1
    have r2 := K0.cell 2
    simp only [List.setIfInBounds_toArray, List.set_cons_zero, List.set_cons_succ, List.getElem?_toArray, List.getElem?_cons_zero, List.getElem?_cons_succ] at r0 r1 r2
    refine bodyPost_ret (v := .tuple #[.agg #[.slice A h.objs.length c, .int .i64 h.cap, .int .i64 h.last], .int .i64 0, .int .i64 121]) (by simp [results, Tryz.results23, go_sem, r0, r1, r2]) rfl ?_
    rw [HRR.out]
    have HBE := (((HB2.out).setCell (p := ⟨w.heap.size + 1, 0, none⟩) (by simp) (.slice A h.objs.length c)).setCell (p := ⟨w.heap.size + 1, 1, none⟩) (by simp) (.int .i64 h.cap)).setCell (p := ⟨w.heap.size + 1, 2, none⟩) (by simp) (.int .i64 h.last)
    exact ⟨A, c, rfl, HS.out.below HBE, HBE⟩
  have HRR : Hid (po12 h cx = (setR (setR h cx (5 + n) 0) cx 2 (2 * n - 1), sl12 h cx (5 + n).toNat, 0)) := by show _ = _; unfold po12; rw [if_neg (by rw [HM.out]; decide), if_neg (by rw [← HN.out, ← HT.out]; exact g), ← HN.out]
  have HTB := temps_nn12 HM.out
  rw [← HN.out, ← HT.out] at HTB
  obtain ⟨t0, t1, t2⟩ := HTB
  have hnb : 1 ≤ n ∧ n ≤ 16 := by omega
  have HNB := hid hnb
  have gB : (n == t) = false := beq_eq_false_iff_ne.2 g
  obtain ⟨x0, x1, x2⟩ := HX2.out.c3
  go_wp2_with fail
  refine (rslots_any12 h cx A c _ (HS.out.below HB2.out)).mono ?_
  rintro e w3 ⟨S, d, rfl, hin, -, hb⟩
  have HB3 := hid (then_w HB2.out hb)
  have HX3 := hid (HX2.out.later hb)
  have HK3 := hid (HK2.out.later hb)
  have hll := H22.out
  obtain ⟨bl, ol, rfl, hbl, hcl⟩ := hin (by omega)
  clear hb x0 x1 x2 hin hbl
  obtain ⟨j, rfl⟩ : ∃ j : Nat, n = j := ⟨n.toNat, by omega⟩
  have q := hcl (5 + j) _ (by
    rw [List.getElem?_eq_getElem (by omega)])
  have hv : sl12 h cx (5 + (j : Int)).toNat = (sls12 h cx)[5 + j]'(by omega) := by
    unfold sl12
    rw [show (5 + (j : Int)).toNat = 5 + j by omega, List.getD_eq_getElem?_getD, List.getElem?_eq_getElem (by omega)]; rfl
  rw [← hv] at q
  obtain ⟨vv, hvv⟩ : ∃ x, x = sl12 h cx (5 + (j : Int)).toNat := ⟨_, rfl⟩
  rw [← hvv] at q HRR
  rw [hll]
  have hw : IntKind.i64.wrap (5 + (j : Int)) = ((5 + j : Nat) : Int) := by rw [IntWalk.i64_in _ ⟨by omega, by omega⟩]; omega
  have hw2 : IntKind.i64.wrap (2 * (j : Int)) = 2 * (j : Int) := IntWalk.i64_in _ ⟨by omega, by omega⟩
  have hw3 : IntKind.i64.wrap (2 * (j : Int) - 1) = 2 * (j : Int) - 1 := IntWalk.i64_in _ ⟨by omega, by omega⟩
  have hz : hasB h.objs.length 0 = true := nil_has12 HM.out
  have hod : ∀ z, hasB z (2 * (j : Int) - 1) = true := fun z => by
    rw [show 2 * (j : Int) - 1 = 2 * ((j : Int) - 1) + 1 by omega]
    exact odd_has12 (by omega) (by omega)
  have HZ0 := hid hz
  have HSO := hid (set_ok12 HM.out hz (k := 5 + (j : Int)) (by omega) (by omega))
  have HAG := hid (set_again12 HM.out hz (k := 5 + (j : Int)) (by omega) (by omega) (hod _) (j := 2) (by decide) (by decide))
  clear t0 t1 t2 hod hz hvv hv hcl hll
  go_upto_region 7 with fail
  clear q
  have hw : IntKind.i64.wrap (5 + (j : Int)) = 5 + (j : Int) := IntWalk.i64_in _ ⟨by omega, by omega⟩
  obtain ⟨x0, x1, x2⟩ := HX3.out.c3
  go_wp2_with fail
  refine (rset_own12 h cx (5 + (j : Int)) 0 A c _ (HS.out.below HB3.out) HF.out (HSO.out)).mono ?_
  rintro e u4 ⟨A4, c4, ls4, rfl, hm, ho, hb⟩
  obtain ⟨g4, hg4⟩ : ∃ x, x = setR h cx (5 + (j : Int)) 0 := ⟨_, rfl⟩
  rw [← hg4] at hm ⊢
  have HG4 := hid hg4
  have BU4 := hid (then_w HB3.out hb)
  have XU4 := hid (HX3.out.later hb)
  have KU4 := hid (HK3.out.later hb)
  have HM4 := hid hm
  have OU4 := hid ho
  clear hb hm ho hg4 x0 x1 x2
  go_upto_region 8 with fail
  obtain ⟨w4, hw⟩ : ∃ x, x = u4.alloc (.cells #[.slice A4 g4.objs.length c4, .int .i64 g4.cap, .int .i64 g4.last] 24) := ⟨_, rfl⟩
  obtain ⟨bg4, hbg⟩ : ∃ x, x = u4.heap.size := ⟨_, rfl⟩
  have LG4 : Hid (Lies w4 bg4 24 #[.slice A4 g4.objs.length c4, .int .i64 g4.cap, .int .i64 g4.last]) := by
    show Lies _ _ _ _
    rw [hw, hbg]
    exact Lies.new u4 24 _
  have hb : Below u4.heap.size u4 w4 := by
    rw [hw]
    exact below_alloc u4 _
  have HB4 := hid (then_w BU4.out hb)
  have HX4 := hid (XU4.out.later hb)
  have HK4 := hid (KU4.out.later hb)
  have HO4 := hid (OU4.out.later hb)
  have HBG4 : Hid (w.heap.size + 1 < bg4) := by show _ < _; rw [hbg]; exact KU4.out.lt
  rw [← hw]
  simp only [← hbg]
  clear hb hw hbg
  rw [← HG4.out] at HAG HRR
  have O4 := hid (own_obs HO4.out HM4.out)
  obtain ⟨x0, x1, x2⟩ := HX4.out.c3
  obtain ⟨l0, l1, l2⟩ := LG4.out.c3
  obtain ⟨lf0, lf1, lf2⟩ := LG4.out.f3
  clear lf0 lf1 lf2
  go_wp2_with fail
  refine (rset_own12 g4 cx 2 (2 * (j : Int) - 1) A4 c4 _ (O4.out) HAG.out.2 (HAG.out.1)).mono ?_
  rintro e u5 ⟨A5, c5, ls5, rfl, hm, ho, hb⟩
  obtain ⟨g5, hg5⟩ : ∃ x, x = setR g4 cx 2 (2 * (j : Int) - 1) := ⟨_, rfl⟩
  rw [← hg5] at hm ⊢
  have HG5 := hid hg5
  have BU5 := hid (then_w HB4.out hb)
  have XU5 := hid (HX4.out.later hb)
  have KU5 := hid (HK4.out.later hb)
  have LU5 := hid (LG4.out.later hb)
  have HM5 := hid hm
  have OU5 := hid ho
  clear hb hm ho hg5 x0 x1 x2 l0 l1 l2
  obtain ⟨l0, l1, l2⟩ := LU5.out.c3
  obtain ⟨lf0, lf1, lf2⟩ := LU5.out.f3
  have hbl := HBG4.out
  have hbu : bg4 < w4.heap.size := LG4.out.lt
  go_upto_region 9 with fail
  obtain ⟨w5, hw⟩ : ∃ x, x = (((u5.setCell ⟨bg4, 0, none⟩ (.slice A5 g5.objs.length c5)).setCell ⟨bg4, 1, none⟩ (.int .i64 g5.cap)).setCell ⟨bg4, 2, none⟩ (.int .i64 g5.last)) := ⟨_, rfl⟩
  have LG5 : Hid (Lies w5 bg4 24 #[.slice A5 g5.objs.length c5, .int .i64 g5.cap, .int .i64 g5.last]) := by
    show Lies _ _ _ _
    rw [hw]
    exact (((LU5.out.set_ 0 (.slice A5 g5.objs.length c5)).set_ 1 (.int .i64 g5.cap)).set_ 2 (.int .i64 g5.last))
  have HB5 : Hid (Below w.heap.size w w5) := by
    show Below _ _ _
    rw [hw]
    exact ((BU5.out.setCell (p := ⟨bg4, 0, none⟩) (by show w.heap.size ≤ bg4; omega) _).setCell (p := ⟨bg4, 1, none⟩) (by show w.heap.size ≤ bg4; omega) _).setCell (p := ⟨bg4, 2, none⟩) (by show w.heap.size ≤ bg4; omega) _
  have HX5 : Hid (Lies w5 w.heap.size 24 #[Value.slice A h.objs.length c, Value.int .i64 h.cap, Value.int .i64 h.last]) := by
    show Lies _ _ _ _
    rw [hw]
    exact (((XU5.out.far (p := ⟨bg4, 0, none⟩) (by show w.heap.size ≠ bg4; omega) _).far (p := ⟨bg4, 1, none⟩) (by show w.heap.size ≠ bg4; omega) _).far (p := ⟨bg4, 2, none⟩) (by show w.heap.size ≠ bg4; omega) _)
  have HK5 : Hid (Lies w5 (w.heap.size + 1) 24 #[.slice none 0 0, .int .i64 0, .int .i64 0]) := by
    show Lies _ _ _ _
    rw [hw]
    exact (((KU5.out.far (p := ⟨bg4, 0, none⟩) (by show w.heap.size + 1 ≠ bg4; omega) _).far (p := ⟨bg4, 1, none⟩) (by show w.heap.size + 1 ≠ bg4; omega) _).far (p := ⟨bg4, 2, none⟩) (by show w.heap.size + 1 ≠ bg4; omega) _)
  have HO5 : Hid (OwnH w5 w4.heap.size A5 c5 ls5) := by
    show OwnH _ _ _ _ _
    rw [hw]
    exact ((OU5.out.low (p := ⟨bg4, 0, none⟩) hbu _).low (p := ⟨bg4, 1, none⟩) hbu _).low (p := ⟨bg4, 2, none⟩) hbu _
  rw [← hw]
  clear hw hbl hbu l0 l1 l2 lf0 lf1 lf2
  rw [← HG5.out] at HRR
  obtain ⟨l0, l1, l2⟩ := LG5.out.c3
  obtain ⟨lf0, lf1, lf2⟩ := LG5.out.f3
  obtain ⟨u0, u1, u2⟩ := HK5.out.c3
  obtain ⟨uf0, uf1, uf2⟩ := HK5.out.f3
  go_wp2_with fail
  have K0 := (((HK5.out.set_ 0 (.slice A5 g5.objs.length c5)).set_ 1 (.int .i64 g5.cap)).set_ 2 (.int .i64 g5.last))
  have r0 := K0.cell 0
  have r1 := K0.cell 1
  have r2 := K0.cell 2
  simp only [List.setIfInBounds_toArray, List.set_cons_zero, List.set_cons_succ, List.getElem?_toArray, List.getElem?_cons_zero, List.getElem?_cons_succ] at r0 r1 r2
  refine bodyPost_ret (v := .tuple #[.agg #[.slice A5 g5.objs.length c5, .int .i64 g5.cap, .int .i64 g5.last], .int .i64 vv, .int .i64 0]) (by simp [results, Tryz.results23, go_sem, r0, r1, r2]) rfl ?_
  rw [HRR.out]
  have HBE := (((HB5.out).setCell (p := ⟨w.heap.size + 1, 0, none⟩) (by simp) (.slice A5 g5.objs.length c5)).setCell (p := ⟨w.heap.size + 1, 1, none⟩) (by simp) (.int .i64 g5.cap)).setCell (p := ⟨w.heap.size + 1, 2, none⟩) (by simp) (.int .i64 g5.last)
  have hlt : w.heap.size + 1 < w4.heap.size := HK4.out.lt
  exact ⟨A5, c5, rfl, own_obs (((HO5.out.low (p := ⟨w.heap.size + 1, 0, none⟩) hlt _).low (p := ⟨w.heap.size + 1, 1, none⟩) hlt _).low (p := ⟨w.heap.size + 1, 2, none⟩) hlt _) HM5.out, HBE⟩
end Go.Proofs.YtgocodnehppniaaGreat
namespace Go.Proofs.YtgocodnehppniaaGreat
open Go.RowKit
set_option maxRecDepth 100000
set_option maxHeartbeats 4000000 in
theorem rgo_any12 (h : Hp) (cx ip : Int) (A : Option Addr) (c : Nat) (w : World) (hs : ObsR w A h.objs) (fit : h.Fit) :
    Calls Tryz.prog 27 #[.agg #[.slice A h.objs.length c, .int .i64 h.cap, .int .i64 h.last], .int .i64 cx, .int .i64 ip] w (HeapTwo w (go12 h cx ip).1 (go12 h cx ip).2) := by
  obtain ⟨w0, hw0⟩ : ∃ w0, w0 = (w.alloc (.cells #[Value.slice A h.objs.length c, Value.int .i64 h.cap, Value.int .i64 h.last] 24)).alloc (.cells #[.slice none 0 0, .int .i64 0, .int .i64 0] 24) := ⟨_, rfl⟩
  have HB0 : Hid (Below w.heap.size w w0) := by show Below _ _ _; rw [hw0]; exact below_alloc2 w _ _
  have HX0 : Hid (Lies w0 w.heap.size 24 #[Value.slice A h.objs.length c, Value.int .i64 h.cap, Value.int .i64 h.last]) := by show Lies _ _ _ _; rw [hw0]; exact (Lies.new w 24 _).later (below_alloc _ _)
  have HK0 : Hid (Lies w0 (w.heap.size + 1) 24 #[.slice none 0 0, .int .i64 0, .int .i64 0]) := by
    show Lies _ _ _ _
    have := Lies.new (w.alloc (.cells #[Value.slice A h.objs.length c, Value.int .i64 h.cap, Value.int .i64 h.last] 24)) 24 #[.slice none 0 0, .int .i64 0, .int .i64 0]
    rw [hw0]
    simpa [Hid] using this
  have HS := hid hs
  have HF := hid fit
  clear hs fit
  go_enter Tryz.func27, Tryz.ntmps27
  go_upto_region 1 with fail
  rw [← hw0]
  clear hw0
  obtain ⟨x0, x1, x2⟩ := HX0.out.c3
  go_wp2_with fail
  refine (rmay_any12 h cx A c _ (HS.out.below HB0.out) HF.out).mono ?_
  rintro e w1 ⟨rfl, hb⟩
  have HB := hid (then_w HB0.out hb)
  have HX1 := hid (HX0.out.later hb)
  have HK1 := hid (HK0.out.later hb)
  clear hb x0 x1 x2
  cases hm : may12 h cx
  · have HRR : Hid (go12 h cx ip = (h, 120)) := by show _ = _; unfold go12; rw [if_pos hm]
    clear hm
    obtain ⟨x0, x1, x2⟩ := HX1.out.c3
    obtain ⟨u0, u1, u2⟩ := HK1.out.c3
    obtain ⟨uf0, uf1, uf2⟩ := HK1.out.f3
    go_wp2_with fail
    have K0 := (((HK1.out.set_ 0 (.slice A h.objs.length c)).set_ 1 (.int .i64 h.cap)).set_ 2 (.int .i64 h.last))
    have r0 := K0.cell 0
    have r1 := K0.cell 1
    have r2 := K0.cell 2
    simp only [List.setIfInBounds_toArray, List.set_cons_zero, List.set_cons_succ, List.getElem?_toArray, List.getElem?_cons_zero, List.getElem?_cons_succ] at r0 r1 r2
    refine bodyPost_ret (v := .tuple #[.agg #[.slice A h.objs.length c, .int .i64 h.cap, .int .i64 h.last], .int .i64 120]) (by simp [results, Tryz.results27, go_sem, r0, r1, r2]) rfl ?_
    rw [HRR.out]
    have HBE := (((HB.out).setCell (p := ⟨w.heap.size + 1, 0, none⟩) (by simp) (.slice A h.objs.length c)).setCell (p := ⟨w.heap.size + 1, 1, none⟩) (by simp) (.int .i64 h.cap)).setCell (p := ⟨w.heap.size + 1, 2, none⟩) (by simp) (.int .i64 h.last)
    exact ⟨A, c, rfl, HS.out.below HBE, HBE⟩
  obtain ⟨hm0, h22, -⟩ := may_parts12 hm
  obtain ⟨v3, hv3⟩ : ∃ v, v = sl12 h cx 3 := ⟨_, rfl⟩
  obtain ⟨M3, hM3⟩ : ∃ M, M = (mt12 h v3).1 := ⟨_, rfl⟩
  obtain ⟨e3, he3⟩ : ∃ e, e = (mt12 h v3).2 := ⟨_, rfl⟩
  have V3 := hid hv3
  have HM3 := hid hM3
  have HE3 := hid he3
  have HCM : Hid (cm12 h cx = M3) := by show _ = _; unfold cm12; rw [hM3, hv3]
  have HCL : Hid ((M3.code.length : Int) ≤ 32) := by show _ ≤ _; rw [hM3]; exact code_le12
  have H22 := hid h22
  have HM := hid hm
  clear hm h22 hm0 hv3 hM3 he3
  obtain ⟨x0, x1, x2⟩ := HX1.out.c3
  go_upto_region 3 with fail
  go_cut [8, 9] from 17 to 27 (fun p z wx => ∃ bx CA cc LA lc, p = .pointer (some ⟨bx, 0, none⟩) ∧ z = .int .i64 e3 ∧ Hid (Lies wx bx 32 #[.int .i64 M3.prim, .int .i64 M3.args, .int .i64 M3.temps, .slice CA M3.code.length cc, .slice LA M3.lits.length lc]) ∧ Hid (Below w1.heap.size w1 wx))
  case first =>
    have BB0 := hid ((Below.refl w1.heap.size w1).drew)
    have z0 := cell_later BB0.out x0
    have z1 := cell_later BB0.out x1
    have z2 := cell_later BB0.out x2
    refine wp_region_held_drew (S := (fun w' => w'.cell? ⟨w.heap.size, 0, none⟩ = some (.slice A h.objs.length c) ∧ w'.cell? ⟨w.heap.size, 1, none⟩ = some (.int .i64 h.cap) ∧ w'.cell? ⟨w.heap.size, 2, none⟩ = some (.int .i64 h.last))) (by kernel_rfl) ?_ (fun hH0 => ?_)
    · exact ⟨cell_later BB0.out x0, cell_later BB0.out x1, cell_later BB0.out x2⟩
    refine tkI 0 ⟨some 18, .load 24 (.tmp 3), 24, "ref.go:167", #[], none⟩ ?v370 rfl (by kernel_rfl) (by rfl) ?y370 ?_
    case y370 => intro w hSw; (try dsimp only at hSw); go_simp; all_goals with_reducible rfl
    try simp only [apt12]
    refine tkI 1 ⟨some 19, .load 24 (.tmp 3), 24, "ref.go:167", #[], none⟩ ?v371 rfl (by kernel_rfl) (by rfl) ?y371 ?_
    case y371 => intro w hSw; (try dsimp only at hSw); go_simp; all_goals with_reducible rfl
    try simp only [apt12]
    refine tkI 2 ⟨some 20, .move (.tmp 1), 3, "ref.go:167", #[], none⟩ ?v372 rfl (by kernel_rfl) (by rfl) ?y372 ?_
    case y372 => intro w hSw; (try dsimp only at hSw); go_simp; all_goals with_reducible rfl
    try simp only [apt12]
    refine wpAnyH_ready (rs := [3, 10]) (by kernel_rfl) (by simp) ?_
    refine AllReadyH.cons (i := 3) (o := ⟨some 21, .call { callee := .value (.func 31), args := #[.tmp 19, .tmp 20], argTypes := #[24, 3] }, 30, "ref.go:167", #[⟨1, .data⟩, ⟨2, .data⟩], none⟩) rfl (fun K hK => ?_) (AllReadyH.cons (i := 10) (o := ⟨some 8, .alloc 32, 0, "ref.go:167", #[], none⟩) rfl (fun K hK => ?_) AllReadyH.nil)
    · go_simp
      go_at_call 31
      refine (rslots_any12 h cx A c _ (HS.out.below (then_w HB.out BB0.out))).mono ?_
      rintro e u1 ⟨S, d, rfl, hin, -, hb⟩
      have hll := H22.out
      obtain ⟨bl, ol, rfl, hbl, hcl⟩ := hin (by omega)
      have q3 := hcl 3 (sl12 h cx 3) (by
        unfold sl12
        rw [List.getElem?_eq_getElem (by omega), List.getD_eq_getElem?_getD, List.getElem?_eq_getElem (by omega)]; rfl)
      rw [← V3.out] at q3
      rw [hll]
      have BB1 := hid (then_w BB0.out hb)
      have QC1 := hid q3
      refine hK.out _ _ ?_ (fun hH1 => ?_)
      · exact ⟨cell_later BB1.out x0, cell_later BB1.out x1, cell_later BB1.out x2⟩
      clear hK K
      try simp only [apt12]
      clear hb hin hbl hcl q3 hll
      refine tkI 4 ⟨some 22, .indexAddr 30 (.tmp 21) (.const (Go.Value.int .i64 3)), 0, "ref.go:167", #[⟨3, .data⟩], none⟩ ?v373 rfl (by kernel_rfl) (by rfl) ?y373 ?_
      case y373 => intro w hSw; (try dsimp only at hSw); go_simp; all_goals with_reducible rfl
      try simp only [apt12]
      refine wpAnyH_ready (rs := [5, 10]) (by kernel_rfl) (by simp) ?_
      refine AllReadyH.cons (i := 5) (o := ⟨some 23, .load 3 (.tmp 22), 3, "ref.go:167", #[⟨4, .data⟩], none⟩) rfl (fun K hK => ?_) (AllReadyH.cons (i := 10) (o := ⟨some 8, .alloc 32, 0, "ref.go:167", #[], none⟩) rfl (fun K hK => ?_) AllReadyH.nil)
      · have q3 := QC1.out
        go_simp
        refine hK.out _ _ ?_ (fun hH2 => ?_)
        · exact hH1
        clear hK K
        try simp only [apt12]
        clear q3
        refine wpAnyH_ready (rs := [6, 10]) (by kernel_rfl) (by simp) ?_
        refine AllReadyH.cons (i := 6) (o := ⟨some 24, .call { callee := .value (.func 12), args := #[.tmp 18, .tmp 23], argTypes := #[24, 3] }, 34, "ref.go:167", #[⟨0, .data⟩, ⟨5, .data⟩, ⟨3, .chain⟩], none⟩) rfl (fun K hK => ?_) (AllReadyH.cons (i := 10) (o := ⟨some 8, .alloc 32, 0, "ref.go:167", #[], none⟩) rfl (fun K hK => ?_) AllReadyH.nil)
        · go_simp
          go_at_call 12
          refine (rmethod_any12 h v3 _ c _ (HS.out.below (then_w HB.out BB1.out)) HF.out).mono ?_
          rintro e u3 ⟨CA, cc, LA, lc, rfl, hins, -, hb, hfr⟩
          rw [← HM3.out] at hins
          rw [← HM3.out, ← HE3.out]
          have BB3 := hid (then_w BB1.out hb)
          have IC3 := hid hins
          refine hK.out _ _ ?_ (fun hH3 => ?_)
          · exact ⟨cell_later BB3.out x0, cell_later BB3.out x1, cell_later BB3.out x2⟩
          clear hK K
          try simp only [apt12]
          clear hb hins hfr
          refine tkI 7 ⟨some 17, .move (.tmp 24), 34, "ref.go:167", #[⟨6, .data⟩], none⟩ ?v374 rfl (by kernel_rfl) (by rfl) ?y374 ?_
          case y374 => intro w hSw; (try dsimp only at hSw); go_simp; all_goals with_reducible rfl
          try simp only [apt12]
          refine tkI 8 ⟨some 25, .extract (.tmp 17) 0, 32, "ref.go:167", #[⟨7, .data⟩], none⟩ ?v375 rfl (by kernel_rfl) (by rfl) ?y375 ?_
          case y375 => intro w hSw; (try dsimp only at hSw); go_simp; all_goals with_reducible rfl
          try simp only [apt12]
          refine tkI 9 ⟨some 26, .extract (.tmp 17) 1, 33, "ref.go:167", #[⟨7, .data⟩, ⟨11, .gcOnly .lateStores⟩], none⟩ ?v376 rfl (by kernel_rfl) (by rfl) ?y376 ?_
          case y376 => intro w hSw; (try dsimp only at hSw); go_simp; all_goals with_reducible rfl
          try simp only [apt12]
          refine wpAnyH_ready (rs := [10]) (by kernel_rfl) (by simp) ?_
          refine AllReadyH.cons (i := 10) (o := ⟨some 8, .alloc 32, 0, "ref.go:167", #[], none⟩) rfl (fun K hK => ?_) AllReadyH.nil
          go_simp
          obtain ⟨u4, hu⟩ : ∃ x, x = u3.alloc (.cells #[.int .i64 0, .int .i64 0, .int .i64 0, .slice none 0 0, .slice none 0 0] 32) := ⟨_, rfl⟩
          obtain ⟨bx, hg⟩ : ∃ x, x = u3.heap.size := ⟨_, rfl⟩
          have hb : Below u3.heap.size u3 u4 := by rw [hu]; exact below_alloc u3 _
          have HX9 : Hid (w1.heap.size ≤ bx) := by show _ ≤ _; rw [hg]; exact BB3.out.size
          have LB4 := hid (show Lies u4 bx 32 #[.int .i64 0, .int .i64 0, .int .i64 0, .slice none 0 0, .slice none 0 0] by rw [hu, hg]; exact Lies.new u3 _ _)
          have BB4 := hid (then_w BB3.out hb)
          have IC4 := hid (IC3.out.below hb)
          try simp only [← hg]
          try rw [← hu]
          refine hK.out _ _ ?_ (fun hH4 => ?_)
          · exact ⟨cell_later BB4.out x0, cell_later BB4.out x1, cell_later BB4.out x2⟩
          clear hK K
          try simp only [apt12]
          clear hb hu hg
          refine wpAnyH_ready (rs := [11]) (by kernel_rfl) (by simp) ?_
          refine AllReadyH.cons (i := 11) (o := ⟨none, .store 32 (.tmp 8) (.tmp 25), 0, "ref.go:167", #[⟨10, .data⟩, ⟨8, .data⟩, ⟨6, .chain⟩, ⟨0, .phase⟩, ⟨1, .phase⟩, ⟨2, .phase⟩, ⟨3, .phase⟩, ⟨4, .phase⟩, ⟨5, .phase⟩, ⟨6, .phase⟩, ⟨7, .phase⟩, ⟨8, .phase⟩, ⟨9, .textOnly .lateStores⟩, ⟨10, .phase⟩], none⟩) rfl (fun K hK => ?_) AllReadyH.nil
          obtain ⟨r0, r1, r2, r3, r4⟩ := LB4.out.c5
          obtain ⟨f0, f1, f2, f3, f4⟩ := LB4.out.f5
          have BB5 := hid (below_five12 BB4.out HX9.out (.int .i64 M3.prim) (.int .i64 M3.args) (.int .i64 M3.temps) (.slice CA M3.code.length cc) (.slice LA M3.lits.length lc))
          have LF : Hid (Lies (((((u4.setCell ⟨bx, 0, none⟩ (.int .i64 M3.prim)).setCell ⟨bx, 1, none⟩ (.int .i64 M3.args)).setCell ⟨bx, 2, none⟩ (.int .i64 M3.temps)).setCell ⟨bx, 3, none⟩ (.slice CA M3.code.length cc)).setCell ⟨bx, 4, none⟩ (.slice LA M3.lits.length lc)) bx 32 #[.int .i64 M3.prim, .int .i64 M3.args, .int .i64 M3.temps, .slice CA M3.code.length cc, .slice LA M3.lits.length lc]) := by
            show Lies _ _ _ _
            exact (((((LB4.out.set_ 0 (.int .i64 M3.prim)).set_ 1 (.int .i64 M3.args)).set_ 2 (.int .i64 M3.temps)).set_ 3 (.slice CA M3.code.length cc)).set_ 4 (.slice LA M3.lits.length lc))
          go_simp
          refine hK.out _ _ ?_ (fun hH5 => ?_)
          · exact ⟨cell_later BB5.out x0, cell_later BB5.out x1, cell_later BB5.out x2⟩
          clear hK K
          try simp only [apt12]
          clear r0 r1 r2 r3 r4 f0 f1 f2 f3 f4
          refine tkI 12 ⟨some 9, .assign (.tmp 26), 33, "ref.go:167", #[⟨9, .data⟩, ⟨11, .chain⟩, ⟨0, .phase⟩, ⟨1, .phase⟩, ⟨2, .phase⟩, ⟨3, .phase⟩, ⟨4, .phase⟩, ⟨5, .phase⟩, ⟨6, .phase⟩, ⟨7, .phase⟩, ⟨8, .phase⟩, ⟨9, .phase⟩, ⟨10, .phase⟩, ⟨11, .phase⟩], none⟩ ?v377 rfl (by kernel_rfl) (by rfl) ?y377 ?_
          case y377 => intro w hSw; (try dsimp only at hSw); go_simp; all_goals with_reducible rfl
          try simp only [apt12]
          refine wpAnyH_done (by kernel_rfl) ?_ _
          go_wp2_with fail
          go_meet
          exact ⟨bx, CA, cc, LA, lc, rfl, rfl, LF, BB5⟩
        · go_simp
          obtain ⟨u3, hu⟩ : ∃ x, x = u1.alloc (.cells #[.int .i64 0, .int .i64 0, .int .i64 0, .slice none 0 0, .slice none 0 0] 32) := ⟨_, rfl⟩
          obtain ⟨bx, hg⟩ : ∃ x, x = u1.heap.size := ⟨_, rfl⟩
          have hb : Below u1.heap.size u1 u3 := by rw [hu]; exact below_alloc u1 _
          have HX9 : Hid (w1.heap.size ≤ bx) := by show _ ≤ _; rw [hg]; exact BB1.out.size
          have LB3 := hid (show Lies u3 bx 32 #[.int .i64 0, .int .i64 0, .int .i64 0, .slice none 0 0, .slice none 0 0] by rw [hu, hg]; exact Lies.new u1 _ _)
          have BB3 := hid (then_w BB1.out hb)
          have QC3 := hid (cell_later hb QC1.out)
          try simp only [← hg]
          try rw [← hu]
          refine hK.out _ _ ?_ (fun hH3 => ?_)
          · exact ⟨cell_later BB3.out x0, cell_later BB3.out x1, cell_later BB3.out x2⟩
          clear hK K
          try simp only [apt12]
          clear hb hu hg
          refine wpAnyH_ready (rs := [6]) (by kernel_rfl) (by simp) ?_
          refine AllReadyH.cons (i := 6) (o := ⟨some 24, .call { callee := .value (.func 12), args := #[.tmp 18, .tmp 23], argTypes := #[24, 3] }, 34, "ref.go:167", #[⟨0, .data⟩, ⟨5, .data⟩, ⟨3, .chain⟩], none⟩) rfl (fun K hK => ?_) AllReadyH.nil
          go_simp
          go_at_call 12
          refine (rmethod_any12 h v3 _ c _ (HS.out.below (then_w HB.out BB3.out)) HF.out).mono ?_
          rintro e u4 ⟨CA, cc, LA, lc, rfl, hins, -, hb, hfr⟩
          rw [← HM3.out] at hins
          rw [← HM3.out, ← HE3.out]
          have BB4 := hid (then_w BB3.out hb)
          have IC4 := hid hins
          have LB4 := hid (LB3.out.later hb)
          refine hK.out _ _ ?_ (fun hH4 => ?_)
          · exact ⟨cell_later BB4.out x0, cell_later BB4.out x1, cell_later BB4.out x2⟩
          clear hK K
          try simp only [apt12]
          clear hb hins hfr
          refine tkI 7 ⟨some 17, .move (.tmp 24), 34, "ref.go:167", #[⟨6, .data⟩], none⟩ ?v378 rfl (by kernel_rfl) (by rfl) ?y378 ?_
          case y378 => intro w hSw; (try dsimp only at hSw); go_simp; all_goals with_reducible rfl
          try simp only [apt12]
          refine tkI 8 ⟨some 25, .extract (.tmp 17) 0, 32, "ref.go:167", #[⟨7, .data⟩], none⟩ ?v379 rfl (by kernel_rfl) (by rfl) ?y379 ?_
          case y379 => intro w hSw; (try dsimp only at hSw); go_simp; all_goals with_reducible rfl
          try simp only [apt12]
          refine tkI 9 ⟨some 26, .extract (.tmp 17) 1, 33, "ref.go:167", #[⟨7, .data⟩, ⟨11, .gcOnly .lateStores⟩], none⟩ ?v380 rfl (by kernel_rfl) (by rfl) ?y380 ?_
          case y380 => intro w hSw; (try dsimp only at hSw); go_simp; all_goals with_reducible rfl
          try simp only [apt12]
          refine wpAnyH_ready (rs := [11]) (by kernel_rfl) (by simp) ?_
          refine AllReadyH.cons (i := 11) (o := ⟨none, .store 32 (.tmp 8) (.tmp 25), 0, "ref.go:167", #[⟨10, .data⟩, ⟨8, .data⟩, ⟨6, .chain⟩, ⟨0, .phase⟩, ⟨1, .phase⟩, ⟨2, .phase⟩, ⟨3, .phase⟩, ⟨4, .phase⟩, ⟨5, .phase⟩, ⟨6, .phase⟩, ⟨7, .phase⟩, ⟨8, .phase⟩, ⟨9, .textOnly .lateStores⟩, ⟨10, .phase⟩], none⟩) rfl (fun K hK => ?_) AllReadyH.nil
          obtain ⟨r0, r1, r2, r3, r4⟩ := LB4.out.c5
          obtain ⟨f0, f1, f2, f3, f4⟩ := LB4.out.f5
          have BB5 := hid (below_five12 BB4.out HX9.out (.int .i64 M3.prim) (.int .i64 M3.args) (.int .i64 M3.temps) (.slice CA M3.code.length cc) (.slice LA M3.lits.length lc))
          have LF : Hid (Lies (((((u4.setCell ⟨bx, 0, none⟩ (.int .i64 M3.prim)).setCell ⟨bx, 1, none⟩ (.int .i64 M3.args)).setCell ⟨bx, 2, none⟩ (.int .i64 M3.temps)).setCell ⟨bx, 3, none⟩ (.slice CA M3.code.length cc)).setCell ⟨bx, 4, none⟩ (.slice LA M3.lits.length lc)) bx 32 #[.int .i64 M3.prim, .int .i64 M3.args, .int .i64 M3.temps, .slice CA M3.code.length cc, .slice LA M3.lits.length lc]) := by
            show Lies _ _ _ _
            exact (((((LB4.out.set_ 0 (.int .i64 M3.prim)).set_ 1 (.int .i64 M3.args)).set_ 2 (.int .i64 M3.temps)).set_ 3 (.slice CA M3.code.length cc)).set_ 4 (.slice LA M3.lits.length lc))
          go_simp
          refine hK.out _ _ ?_ (fun hH5 => ?_)
          · exact ⟨cell_later BB5.out x0, cell_later BB5.out x1, cell_later BB5.out x2⟩
          clear hK K
          try simp only [apt12]
          clear r0 r1 r2 r3 r4 f0 f1 f2 f3 f4
          refine tkI 12 ⟨some 9, .assign (.tmp 26), 33, "ref.go:167", #[⟨9, .data⟩, ⟨11, .chain⟩, ⟨0, .phase⟩, ⟨1, .phase⟩, ⟨2, .phase⟩, ⟨3, .phase⟩, ⟨4, .phase⟩, ⟨5, .phase⟩, ⟨6, .phase⟩, ⟨7, .phase⟩, ⟨8, .phase⟩, ⟨9, .phase⟩, ⟨10, .phase⟩, ⟨11, .phase⟩], none⟩ ?v381 rfl (by kernel_rfl) (by rfl) ?y381 ?_
          case y381 => intro w hSw; (try dsimp only at hSw); go_simp; all_goals with_reducible rfl
          try simp only [apt12]
          refine wpAnyH_done (by kernel_rfl) ?_ _
          go_wp2_with fail
          go_meet
          exact ⟨bx, CA, cc, LA, lc, rfl, rfl, LF, BB5⟩
      · go_simp
        obtain ⟨u2, hu⟩ : ∃ x, x = u1.alloc (.cells #[.int .i64 0, .int .i64 0, .int .i64 0, .slice none 0 0, .slice none 0 0] 32) := ⟨_, rfl⟩
        obtain ⟨bx, hg⟩ : ∃ x, x = u1.heap.size := ⟨_, rfl⟩
        have hb : Below u1.heap.size u1 u2 := by rw [hu]; exact below_alloc u1 _
        have HX9 : Hid (w1.heap.size ≤ bx) := by show _ ≤ _; rw [hg]; exact BB1.out.size
        have LB2 := hid (show Lies u2 bx 32 #[.int .i64 0, .int .i64 0, .int .i64 0, .slice none 0 0, .slice none 0 0] by rw [hu, hg]; exact Lies.new u1 _ _)
        have BB2 := hid (then_w BB1.out hb)
        have QC2 := hid (cell_later hb QC1.out)
        try simp only [← hg]
        try rw [← hu]
        refine hK.out _ _ ?_ (fun hH2 => ?_)
        · exact ⟨cell_later BB2.out x0, cell_later BB2.out x1, cell_later BB2.out x2⟩
        clear hK K
        try simp only [apt12]
        clear hb hu hg
        refine wpAnyH_ready (rs := [5]) (by kernel_rfl) (by simp) ?_
        refine AllReadyH.cons (i := 5) (o := ⟨some 23, .load 3 (.tmp 22), 3, "ref.go:167", #[⟨4, .data⟩], none⟩) rfl (fun K hK => ?_) AllReadyH.nil
        have q3 := QC2.out
        go_simp
        refine hK.out _ _ ?_ (fun hH3 => ?_)
        · exact hH2
        clear hK K
        try simp only [apt12]
        clear q3
        refine wpAnyH_ready (rs := [6]) (by kernel_rfl) (by simp) ?_
        refine AllReadyH.cons (i := 6) (o := ⟨some 24, .call { callee := .value (.func 12), args := #[.tmp 18, .tmp 23], argTypes := #[24, 3] }, 34, "ref.go:167", #[⟨0, .data⟩, ⟨5, .data⟩, ⟨3, .chain⟩], none⟩) rfl (fun K hK => ?_) AllReadyH.nil
        go_simp
        go_at_call 12
        refine (rmethod_any12 h v3 _ c _ (HS.out.below (then_w HB.out BB2.out)) HF.out).mono ?_
        rintro e u4 ⟨CA, cc, LA, lc, rfl, hins, -, hb, hfr⟩
        rw [← HM3.out] at hins
        rw [← HM3.out, ← HE3.out]
        have BB4 := hid (then_w BB2.out hb)
        have IC4 := hid hins
        have LB4 := hid (LB2.out.later hb)
        refine hK.out _ _ ?_ (fun hH4 => ?_)
        · exact ⟨cell_later BB4.out x0, cell_later BB4.out x1, cell_later BB4.out x2⟩
        clear hK K
        try simp only [apt12]
        clear hb hins hfr
        refine tkI 7 ⟨some 17, .move (.tmp 24), 34, "ref.go:167", #[⟨6, .data⟩], none⟩ ?v382 rfl (by kernel_rfl) (by rfl) ?y382 ?_
        case y382 => intro w hSw; (try dsimp only at hSw); go_simp; all_goals with_reducible rfl
        try simp only [apt12]
        refine tkI 8 ⟨some 25, .extract (.tmp 17) 0, 32, "ref.go:167", #[⟨7, .data⟩], none⟩ ?v383 rfl (by kernel_rfl) (by rfl) ?y383 ?_
        case y383 => intro w hSw; (try dsimp only at hSw); go_simp; all_goals with_reducible rfl
        try simp only [apt12]
        refine tkI 9 ⟨some 26, .extract (.tmp 17) 1, 33, "ref.go:167", #[⟨7, .data⟩, ⟨11, .gcOnly .lateStores⟩], none⟩ ?v384 rfl (by kernel_rfl) (by rfl) ?y384 ?_
        case y384 => intro w hSw; (try dsimp only at hSw); go_simp; all_goals with_reducible rfl
        try simp only [apt12]
        refine wpAnyH_ready (rs := [11]) (by kernel_rfl) (by simp) ?_
        refine AllReadyH.cons (i := 11) (o := ⟨none, .store 32 (.tmp 8) (.tmp 25), 0, "ref.go:167", #[⟨10, .data⟩, ⟨8, .data⟩, ⟨6, .chain⟩, ⟨0, .phase⟩, ⟨1, .phase⟩, ⟨2, .phase⟩, ⟨3, .phase⟩, ⟨4, .phase⟩, ⟨5, .phase⟩, ⟨6, .phase⟩, ⟨7, .phase⟩, ⟨8, .phase⟩, ⟨9, .textOnly .lateStores⟩, ⟨10, .phase⟩], none⟩) rfl (fun K hK => ?_) AllReadyH.nil
        obtain ⟨r0, r1, r2, r3, r4⟩ := LB4.out.c5
        obtain ⟨f0, f1, f2, f3, f4⟩ := LB4.out.f5
        have BB5 := hid (below_five12 BB4.out HX9.out (.int .i64 M3.prim) (.int .i64 M3.args) (.int .i64 M3.temps) (.slice CA M3.code.length cc) (.slice LA M3.lits.length lc))
        have LF : Hid (Lies (((((u4.setCell ⟨bx, 0, none⟩ (.int .i64 M3.prim)).setCell ⟨bx, 1, none⟩ (.int .i64 M3.args)).setCell ⟨bx, 2, none⟩ (.int .i64 M3.temps)).setCell ⟨bx, 3, none⟩ (.slice CA M3.code.length cc)).setCell ⟨bx, 4, none⟩ (.slice LA M3.lits.length lc)) bx 32 #[.int .i64 M3.prim, .int .i64 M3.args, .int .i64 M3.temps, .slice CA M3.code.length cc, .slice LA M3.lits.length lc]) := by
          show Lies _ _ _ _
          exact (((((LB4.out.set_ 0 (.int .i64 M3.prim)).set_ 1 (.int .i64 M3.args)).set_ 2 (.int .i64 M3.temps)).set_ 3 (.slice CA M3.code.length cc)).set_ 4 (.slice LA M3.lits.length lc))
        go_simp
        refine hK.out _ _ ?_ (fun hH5 => ?_)
        · exact ⟨cell_later BB5.out x0, cell_later BB5.out x1, cell_later BB5.out x2⟩
        clear hK K
        try simp only [apt12]
        clear r0 r1 r2 r3 r4 f0 f1 f2 f3 f4
        refine tkI 12 ⟨some 9, .assign (.tmp 26), 33, "ref.go:167", #[⟨9, .data⟩, ⟨11, .chain⟩, ⟨0, .phase⟩, ⟨1, .phase⟩, ⟨2, .phase⟩, ⟨3, .phase⟩, ⟨4, .phase⟩, ⟨5, .phase⟩, ⟨6, .phase⟩, ⟨7, .phase⟩, ⟨8, .phase⟩, ⟨9, .phase⟩, ⟨10, .phase⟩, ⟨11, .phase⟩], none⟩ ?v385 rfl (by kernel_rfl) (by rfl) ?y385 ?_
        case y385 => intro w hSw; (try dsimp only at hSw); go_simp; all_goals with_reducible rfl
        try simp only [apt12]
        refine wpAnyH_done (by kernel_rfl) ?_ _
        go_wp2_with fail
        go_meet
        exact ⟨bx, CA, cc, LA, lc, rfl, rfl, LF, BB5⟩
    · go_simp
      obtain ⟨u1, hu⟩ : ∃ x, x = (w1.alloc (.cells #[.int .i64 0, .int .i64 0, .int .i64 0, .slice none 0 0, .slice none 0 0] 32)).drew := ⟨_, rfl⟩
      obtain ⟨bx, hg⟩ : ∃ x, x = w1.heap.size := ⟨_, rfl⟩
      have hb : Below w1.drew.heap.size w1.drew u1 := by rw [hu]; exact below_alloc w1.drew _
      have HX9 : Hid (w1.heap.size ≤ bx) := by show _ ≤ _; rw [hg]; exact BB0.out.size
      have LB1 := hid (show Lies u1 bx 32 #[.int .i64 0, .int .i64 0, .int .i64 0, .slice none 0 0, .slice none 0 0] by rw [hu, hg]; exact Lies.new w1.drew _ _)
      have BB1 := hid (then_w BB0.out hb)
      try simp only [← hg]
      try rw [← hu]
      refine hK.out _ _ ?_ (fun hH1 => ?_)
      · exact ⟨cell_later BB1.out x0, cell_later BB1.out x1, cell_later BB1.out x2⟩
      clear hK K
      try simp only [apt12]
      clear hb hu hg
      refine wpAnyH_ready (rs := [3]) (by kernel_rfl) (by simp) ?_
      refine AllReadyH.cons (i := 3) (o := ⟨some 21, .call { callee := .value (.func 31), args := #[.tmp 19, .tmp 20], argTypes := #[24, 3] }, 30, "ref.go:167", #[⟨1, .data⟩, ⟨2, .data⟩], none⟩) rfl (fun K hK => ?_) AllReadyH.nil
      go_simp
      go_at_call 31
      refine (rslots_any12 h cx A c _ (HS.out.below (then_w HB.out BB1.out))).mono ?_
      rintro e u2 ⟨S, d, rfl, hin, -, hb⟩
      have hll := H22.out
      obtain ⟨bl, ol, rfl, hbl, hcl⟩ := hin (by omega)
      have q3 := hcl 3 (sl12 h cx 3) (by
        unfold sl12
        rw [List.getElem?_eq_getElem (by omega), List.getD_eq_getElem?_getD, List.getElem?_eq_getElem (by omega)]; rfl)
      rw [← V3.out] at q3
      rw [hll]
      have BB2 := hid (then_w BB1.out hb)
      have QC2 := hid q3
      have LB2 := hid (LB1.out.later hb)
      refine hK.out _ _ ?_ (fun hH2 => ?_)
      · exact ⟨cell_later BB2.out x0, cell_later BB2.out x1, cell_later BB2.out x2⟩
      clear hK K
      try simp only [apt12]
      clear hb hin hbl hcl q3 hll
      refine tkI 4 ⟨some 22, .indexAddr 30 (.tmp 21) (.const (Go.Value.int .i64 3)), 0, "ref.go:167", #[⟨3, .data⟩], none⟩ ?v386 rfl (by kernel_rfl) (by rfl) ?y386 ?_
      case y386 => intro w hSw; (try dsimp only at hSw); go_simp; all_goals with_reducible rfl
      try simp only [apt12]
      refine wpAnyH_ready (rs := [5]) (by kernel_rfl) (by simp) ?_
      refine AllReadyH.cons (i := 5) (o := ⟨some 23, .load 3 (.tmp 22), 3, "ref.go:167", #[⟨4, .data⟩], none⟩) rfl (fun K hK => ?_) AllReadyH.nil
      have q3 := QC2.out
      go_simp
      refine hK.out _ _ ?_ (fun hH3 => ?_)
      · exact hH2
      clear hK K
      try simp only [apt12]
      clear q3
      refine wpAnyH_ready (rs := [6]) (by kernel_rfl) (by simp) ?_
      refine AllReadyH.cons (i := 6) (o := ⟨some 24, .call { callee := .value (.func 12), args := #[.tmp 18, .tmp 23], argTypes := #[24, 3] }, 34, "ref.go:167", #[⟨0, .data⟩, ⟨5, .data⟩, ⟨3, .chain⟩], none⟩) rfl (fun K hK => ?_) AllReadyH.nil
      go_simp
      go_at_call 12
      refine (rmethod_any12 h v3 _ c _ (HS.out.below (then_w HB.out BB2.out)) HF.out).mono ?_
      rintro e u4 ⟨CA, cc, LA, lc, rfl, hins, -, hb, hfr⟩
      rw [← HM3.out] at hins
      rw [← HM3.out, ← HE3.out]
      have BB4 := hid (then_w BB2.out hb)
      have IC4 := hid hins
      have LB4 := hid (LB2.out.later hb)
      refine hK.out _ _ ?_ (fun hH4 => ?_)
      · exact ⟨cell_later BB4.out x0, cell_later BB4.out x1, cell_later BB4.out x2⟩
      clear hK K
      try simp only [apt12]
      clear hb hins hfr
      refine tkI 7 ⟨some 17, .move (.tmp 24), 34, "ref.go:167", #[⟨6, .data⟩], none⟩ ?v387 rfl (by kernel_rfl) (by rfl) ?y387 ?_
      case y387 => intro w hSw; (try dsimp only at hSw); go_simp; all_goals with_reducible rfl
      try simp only [apt12]
      refine tkI 8 ⟨some 25, .extract (.tmp 17) 0, 32, "ref.go:167", #[⟨7, .data⟩], none⟩ ?v388 rfl (by kernel_rfl) (by rfl) ?y388 ?_
      case y388 => intro w hSw; (try dsimp only at hSw); go_simp; all_goals with_reducible rfl
      try simp only [apt12]
      refine tkI 9 ⟨some 26, .extract (.tmp 17) 1, 33, "ref.go:167", #[⟨7, .data⟩, ⟨11, .gcOnly .lateStores⟩], none⟩ ?v389 rfl (by kernel_rfl) (by rfl) ?y389 ?_
      case y389 => intro w hSw; (try dsimp only at hSw); go_simp; all_goals with_reducible rfl
      try simp only [apt12]
      refine wpAnyH_ready (rs := [11]) (by kernel_rfl) (by simp) ?_
      refine AllReadyH.cons (i := 11) (o := ⟨none, .store 32 (.tmp 8) (.tmp 25), 0, "ref.go:167", #[⟨10, .data⟩, ⟨8, .data⟩, ⟨6, .chain⟩, ⟨0, .phase⟩, ⟨1, .phase⟩, ⟨2, .phase⟩, ⟨3, .phase⟩, ⟨4, .phase⟩, ⟨5, .phase⟩, ⟨6, .phase⟩, ⟨7, .phase⟩, ⟨8, .phase⟩, ⟨9, .textOnly .lateStores⟩, ⟨10, .phase⟩], none⟩) rfl (fun K hK => ?_) AllReadyH.nil
      obtain ⟨r0, r1, r2, r3, r4⟩ := LB4.out.c5
      obtain ⟨f0, f1, f2, f3, f4⟩ := LB4.out.f5
      have BB5 := hid (below_five12 BB4.out HX9.out (.int .i64 M3.prim) (.int .i64 M3.args) (.int .i64 M3.temps) (.slice CA M3.code.length cc) (.slice LA M3.lits.length lc))
      have LF : Hid (Lies (((((u4.setCell ⟨bx, 0, none⟩ (.int .i64 M3.prim)).setCell ⟨bx, 1, none⟩ (.int .i64 M3.args)).setCell ⟨bx, 2, none⟩ (.int .i64 M3.temps)).setCell ⟨bx, 3, none⟩ (.slice CA M3.code.length cc)).setCell ⟨bx, 4, none⟩ (.slice LA M3.lits.length lc)) bx 32 #[.int .i64 M3.prim, .int .i64 M3.args, .int .i64 M3.temps, .slice CA M3.code.length cc, .slice LA M3.lits.length lc]) := by
        show Lies _ _ _ _
        exact (((((LB4.out.set_ 0 (.int .i64 M3.prim)).set_ 1 (.int .i64 M3.args)).set_ 2 (.int .i64 M3.temps)).set_ 3 (.slice CA M3.code.length cc)).set_ 4 (.slice LA M3.lits.length lc))
      go_simp
      refine hK.out _ _ ?_ (fun hH5 => ?_)
      · exact ⟨cell_later BB5.out x0, cell_later BB5.out x1, cell_later BB5.out x2⟩
      clear hK K
      try simp only [apt12]
      clear r0 r1 r2 r3 r4 f0 f1 f2 f3 f4
      refine tkI 12 ⟨some 9, .assign (.tmp 26), 33, "ref.go:167", #[⟨9, .data⟩, ⟨11, .chain⟩, ⟨0, .phase⟩, ⟨1, .phase⟩, ⟨2, .phase⟩, ⟨3, .phase⟩, ⟨4, .phase⟩, ⟨5, .phase⟩, ⟨6, .phase⟩, ⟨7, .phase⟩, ⟨8, .phase⟩, ⟨9, .phase⟩, ⟨10, .phase⟩, ⟨11, .phase⟩], none⟩ ?v390 rfl (by kernel_rfl) (by rfl) ?y390 ?_
      case y390 => intro w hSw; (try dsimp only at hSw); go_simp; all_goals with_reducible rfl
      try simp only [apt12]
      refine wpAnyH_done (by kernel_rfl) ?_ _
      go_wp2_with fail
      go_meet
      exact ⟨bx, CA, cc, LA, lc, rfl, rfl, LF, BB5⟩
  case rest =>
    rename World => w2
    obtain ⟨bx, CA, cc, LA, lc, rfl, rfl, LF, BF⟩ := hcut
    have HB2 := hid (then_w HB.out BF.out)
    have HX2 := hid (HX1.out.later BF.out)
    have HK2 := hid (HK1.out.later BF.out)
    have m3 := LF.out.cell 3
    simp only [List.getElem?_toArray, List.getElem?_cons_zero, List.getElem?_cons_succ] at m3
    clear x0 x1 x2
    by_cases g : ip < 0
    · have HRR : Hid (go12 h cx ip = (h, 120)) := by show _ = _; unfold go12; rw [if_neg (by rw [HM.out]; decide), if_pos (.inl g)]
      obtain ⟨x0, x1, x2⟩ := HX2.out.c3
      obtain ⟨u0, u1, u2⟩ := HK2.out.c3
      obtain ⟨uf0, uf1, uf2⟩ := HK2.out.f3
      go_wp2_with fail
      have K0 := (((HK2.out.set_ 0 (.slice A h.objs.length c)).set_ 1 (.int .i64 h.cap)).set_ 2 (.int .i64 h.last))
      have r0 := K0.cell 0
      have r1 := K0.cell 1
      have r2 := K0.cell 2
      simp only [List.setIfInBounds_toArray, List.set_cons_zero, List.set_cons_succ, List.getElem?_toArray, List.getElem?_cons_zero, List.getElem?_cons_succ] at r0 r1 r2
      refine bodyPost_ret (v := .tuple #[.agg #[.slice A h.objs.length c, .int .i64 h.cap, .int .i64 h.last], .int .i64 120]) (by simp [results, Tryz.results27, go_sem, r0, r1, r2]) rfl ?_
      rw [HRR.out]
      have HBE := (((HB2.out).setCell (p := ⟨w.heap.size + 1, 0, none⟩) (by simp) (.slice A h.objs.length c)).setCell (p := ⟨w.heap.size + 1, 1, none⟩) (by simp) (.int .i64 h.cap)).setCell (p := ⟨w.heap.size + 1, 2, none⟩) (by simp) (.int .i64 h.last)
      exact ⟨A, c, rfl, HS.out.below HBE, HBE⟩
    by_cases g2 : (M3.code.length : Int) ≤ ip
    · have HRR : Hid (go12 h cx ip = (h, 120)) := by show _ = _; unfold go12; rw [if_neg (by rw [HM.out]; decide), if_pos (.inr (by rw [HCM.out]; exact g2))]
      obtain ⟨x0, x1, x2⟩ := HX2.out.c3
      obtain ⟨u0, u1, u2⟩ := HK2.out.c3
      obtain ⟨uf0, uf1, uf2⟩ := HK2.out.f3
      go_wp2_with fail
      have K0 := (((HK2.out.set_ 0 (.slice A h.objs.length c)).set_ 1 (.int .i64 h.cap)).set_ 2 (.int .i64 h.last))
      have r0 := K0.cell 0
      have r1 := K0.cell 1
      have r2 := K0.cell 2
      simp only [List.setIfInBounds_toArray, List.set_cons_zero, List.set_cons_succ, List.getElem?_toArray, List.getElem?_cons_zero, List.getElem?_cons_succ] at r0 r1 r2
      refine bodyPost_ret (v := .tuple #[.agg #[.slice A h.objs.length c, .int .i64 h.cap, .int .i64 h.last], .int .i64 120]) (by simp [results, Tryz.results27, go_sem, r0, r1, r2]) rfl ?_
      rw [HRR.out]
      have HBE := (((HB2.out).setCell (p := ⟨w.heap.size + 1, 0, none⟩) (by simp) (.slice A h.objs.length c)).setCell (p := ⟨w.heap.size + 1, 1, none⟩) (by simp) (.int .i64 h.cap)).setCell (p := ⟨w.heap.size + 1, 2, none⟩) (by simp) (.int .i64 h.last)
      exact ⟨A, c, rfl, HS.out.below HBE, HBE⟩
    have HRR : Hid (go12 h cx ip = (setR h cx 1 (2 * ip + 1), 0)) := by show _ = _; unfold go12; rw [if_neg (by rw [HM.out]; decide), if_neg (by rw [HCM.out]; omega)]
    have hcl := HCL.out
    have hw2 : IntKind.i64.wrap (2 * ip) = 2 * ip := IntWalk.i64_in _ ⟨by omega, by omega⟩
    have hw3 : IntKind.i64.wrap (2 * ip + 1) = 2 * ip + 1 := IntWalk.i64_in _ ⟨by omega, by omega⟩
    have hod : hasB h.objs.length (2 * ip + 1) = true := odd_has12 (by omega) (by omega)
    have HSO := hid (set_ok12 HM.out hod (k := 1) (by decide) (by decide))
    clear hod hcl
    obtain ⟨x0, x1, x2⟩ := HX2.out.c3
    go_wp2_with fail
    refine (rset_own12 h cx 1 (2 * ip + 1) A c _ (HS.out.below HB2.out) HF.out (HSO.out)).mono ?_
    rintro e u3 ⟨A3, c3, ls3, rfl, hm, ho, hb⟩
    obtain ⟨g3, hg3⟩ : ∃ x, x = setR h cx 1 (2 * ip + 1) := ⟨_, rfl⟩
    rw [← hg3] at hm ⊢
    have HG3 := hid hg3
    have BU3 := hid (then_w HB2.out hb)
    have XU3 := hid (HX2.out.later hb)
    have KU3 := hid (HK2.out.later hb)
    have HM3 := hid hm
    have OU3 := hid ho
    clear hb hm ho hg3 x0 x1 x2
    go_upto_region 7 with fail
    obtain ⟨w3, hw⟩ : ∃ x, x = u3.alloc (.cells #[.slice A3 g3.objs.length c3, .int .i64 g3.cap, .int .i64 g3.last] 24) := ⟨_, rfl⟩
    obtain ⟨bg3, hbg⟩ : ∃ x, x = u3.heap.size := ⟨_, rfl⟩
    have LG3 : Hid (Lies w3 bg3 24 #[.slice A3 g3.objs.length c3, .int .i64 g3.cap, .int .i64 g3.last]) := by
      show Lies _ _ _ _
      rw [hw, hbg]
      exact Lies.new u3 24 _
    have hb : Below u3.heap.size u3 w3 := by
      rw [hw]
      exact below_alloc u3 _
    have HB3 := hid (then_w BU3.out hb)
    have HX3 := hid (XU3.out.later hb)
    have HK3 := hid (KU3.out.later hb)
    have HO3 := hid (OU3.out.later hb)
    have HBG3 : Hid (w.heap.size + 1 < bg3) := by show _ < _; rw [hbg]; exact KU3.out.lt
    rw [← hw]
    simp only [← hbg]
    clear hb hw hbg
    rw [← HG3.out] at HRR
    obtain ⟨l0, l1, l2⟩ := LG3.out.c3
    obtain ⟨lf0, lf1, lf2⟩ := LG3.out.f3
    obtain ⟨u0, u1, u2⟩ := HK3.out.c3
    obtain ⟨uf0, uf1, uf2⟩ := HK3.out.f3
    go_wp2_with fail
    have K0 := (((HK3.out.set_ 0 (.slice A3 g3.objs.length c3)).set_ 1 (.int .i64 g3.cap)).set_ 2 (.int .i64 g3.last))
    have r0 := K0.cell 0
    have r1 := K0.cell 1
    have r2 := K0.cell 2
    simp only [List.setIfInBounds_toArray, List.set_cons_zero, List.set_cons_succ, List.getElem?_toArray, List.getElem?_cons_zero, List.getElem?_cons_succ] at r0 r1 r2
    refine bodyPost_ret (v := .tuple #[.agg #[.slice A3 g3.objs.length c3, .int .i64 g3.cap, .int .i64 g3.last], .int .i64 0]) (by simp [results, Tryz.results27, go_sem, r0, r1, r2]) rfl ?_
    rw [HRR.out]
    have HBE := (((HB3.out).setCell (p := ⟨w.heap.size + 1, 0, none⟩) (by simp) (.slice A3 g3.objs.length c3)).setCell (p := ⟨w.heap.size + 1, 1, none⟩) (by simp) (.int .i64 g3.cap)).setCell (p := ⟨w.heap.size + 1, 2, none⟩) (by simp) (.int .i64 g3.last)
    have hlt : w.heap.size + 1 < w2.heap.size := HK2.out.lt
    exact ⟨A3, c3, rfl, own_obs (((HO3.out.low (p := ⟨w.heap.size + 1, 0, none⟩) hlt _).low (p := ⟨w.heap.size + 1, 1, none⟩) hlt _).low (p := ⟨w.heap.size + 1, 2, none⟩) hlt _) HM3.out, HBE⟩
end Go.Proofs.YtgocodnehppniaaGreat
