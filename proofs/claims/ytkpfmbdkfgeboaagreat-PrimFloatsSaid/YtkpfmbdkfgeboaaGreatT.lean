/- The program's Set. -/
import Derived.Test.YtkpfmbdkfgeboaaGreatT0
import Derived.Test.YtkpfmbdkfgeboaaGreatI
import Derived.Test.YtkpfmbdkfgeboaaGreatR2
namespace Go.Proofs.YtkpfmbdkfgeboaaGreat
open Go.RowKit
set_option maxRecDepth 100000 in
set_option maxHeartbeats 4000000 in
theorem set_any (h : Hp) (v k x : Int) (A : Option Addr) (c : Nat) (w : World) (hs : ObsR w A h.objs) (fit : h.Fit) :
    Calls Tryz.prog 133 #[.agg #[.slice A h.objs.length c, .int .i64 h.cap, .int .i64 h.last], .int .i64 v, .int .i64 k, .int .i64 x] w (HeapOwn2 w (setR h v k x) (setE h v k x)) := by
  have HB0 := hid (below_alloc2 w (.cells #[Value.slice A h.objs.length c, Value.int .i64 h.cap, Value.int .i64 h.last] 24) (.cells #[.slice none 0 0, .int .i64 0, .int .i64 0] 24))
  have HX := hid ((BoxH.new w h A c).later (below_alloc _ (.cells #[.slice none 0 0, .int .i64 0, .int .i64 0] 24)))
  have K1 : Hid (Lies ((w.alloc (.cells #[Value.slice A h.objs.length c, Value.int .i64 h.cap, Value.int .i64 h.last] 24)).alloc (.cells #[.slice none 0 0, .int .i64 0, .int .i64 0] 24)) (w.heap.size + 1) 24 #[.slice none 0 0, .int .i64 0, .int .i64 0]) := by
    have := Lies.new (w.alloc (.cells #[Value.slice A h.objs.length c, Value.int .i64 h.cap, Value.int .i64 h.last] 24)) 24 #[.slice none 0 0, .int .i64 0, .int .i64 0]
    simpa [Hid] using this
  have HS := hid hs
  have HF := hid fit
  clear hs fit
  by_cases e0 : plE h v 0 k = 0
  · cases hx : hasB h.objs.length x
    · obtain ⟨hm, hr, hk, h0, h1⟩ := pl_ok e0
      have EE : Hid (setE h v k x = 31) := by show _ = _; unfold setE; rw [if_pos e0, hx]; rfl
      have ER : Hid (setR h v k x = unH h 31) := by show _ = _; unfold setR; rw [EE.out, if_neg (by decide)]
      have E0 := hid e0
      have HM := hid hm
      have HXX := hid hx
      clear hm hr hk h0 h1 e0 hx
      go_enter Tryz.func133, Tryz.ntmps133
      go_wp2_with fail
      refine (place_any h v 0 k (.inl rfl) A c _ (HS.out.below HB0.out) HF.out).mono ?_
      rintro e w1 ⟨rfl, hb1⟩
      rw [E0.out]
      have HB1 := hid (HB0.out.trans (hb1.mono HB0.out.size))
      have HX1 := hid (HX.out.later hb1)
      have HK1 := hid (K1.out.later hb1)
      clear hb1
      obtain ⟨x0, x1, x2⟩ := HX1.out
      go_wp2_with fail
      refine (isval_any h x A c _).mono ?_
      rintro e w2 ⟨rfl, hb2⟩
      rw [HXX.out]
      have HB2 := hid (HB1.out.trans (hb2.mono HB1.out.size))
      have HX2 := hid (HX1.out.later hb2)
      have HK2 := hid (HK1.out.later hb2)
      clear hb2 x0 x1 x2
      obtain ⟨x0, x1, x2⟩ := HX2.out
      go_wp2_with fail
      refine (unchanged_any h 31 A c _ (HS.out.below HB2.out) (fun _ => HM.out)).mono ?_
      rintro e wu ⟨Au, cu, lu, rfl, hlu, hou, hbu⟩
      have HKu := hid (HK2.out.later hbu)
      have HBu := hid (HB2.out.trans (hbu.mono HB2.out.size))
      have HOu := hid hou
      have HLu := hid hlu
      have hltu := HK2.out.lt
      have u0 := HKu.out.cell 0
      have u1 := HKu.out.cell 1
      have u2 := HKu.out.cell 2
      have uf0 := HKu.out.frozen 0
      have uf1 := HKu.out.frozen 1
      have uf2 := HKu.out.frozen 2
      simp only [List.getElem?_toArray, List.getElem?_cons_zero, List.getElem?_cons_succ] at u0 u1 u2
      clear hou hbu hlu
      go_wp2_with fail
      have K0 := (((HKu.out.set_ 0 (.slice Au (unH h 31).objs.length cu)).set_ 1 (.int .i64 (unH h 31).cap)).set_ 2 (.int .i64 (unH h 31).last))
      have r0 := K0.cell 0
      have r1 := K0.cell 1
      have r2 := K0.cell 2
      simp only [List.setIfInBounds_toArray, List.set_cons_zero, List.set_cons_succ, List.getElem?_toArray, List.getElem?_cons_zero, List.getElem?_cons_succ] at r0 r1 r2
      refine bodyPost_ret (v := .tuple #[.agg #[.slice Au (unH h 31).objs.length cu, .int .i64 (unH h 31).cap, .int .i64 (unH h 31).last], .int .i64 31]) (by simp [results, Tryz.results133, go_sem, r0, r1, r2]) rfl ?_
      rw [EE.out, ER.out]
      refine ⟨Au, cu, lu, rfl, HLu.out, ((((HOu.out).low (p := ⟨w.heap.size + 1, 0, none⟩) (by simp; omega) _).low (p := ⟨w.heap.size + 1, 1, none⟩) (by simp; omega) _).low (p := ⟨w.heap.size + 1, 2, none⟩) (by simp; omega) _).lower HB2.out.size, (((HBu.out).setCell (p := ⟨w.heap.size + 1, 0, none⟩) (by simp) _).setCell (p := ⟨w.heap.size + 1, 1, none⟩) (by simp) _).setCell (p := ⟨w.heap.size + 1, 2, none⟩) (by simp) _⟩
    · obtain ⟨hm, hr, hk, h0, h1⟩ := pl_ok e0
      have hv := pl_v e0
      obtain ⟨i, hi, hvi, ho⟩ := obAt_get hr
      obtain ⟨j, rfl⟩ : ∃ j : Nat, k = j := ⟨k.toNat, by omega⟩
      have hjn : j < (obAt h v).slots.length := by unfold szO at h1; rw [if_neg (by decide)] at h1; omega
      obtain ⟨hl1, -⟩ := kind_len (ob_kind (may_all hm _ (List.mem_of_getElem? ho)))
      have hv' : plV h v 0 j = (i : Int) := by rw [hv, hvi]
      have EE : Hid (setE h v j x = 0) := by show _ = _; unfold setE; rw [if_pos e0, hx]; rfl
      have ER : Hid (setR h v j x = { h with objs := h.objs.set i { obAt h v with slots := (obAt h v).slots.set j x } }) := by
        show _ = _
        unfold setR; rw [if_pos EE.out]; unfold setH; rw [hvi]; rfl
      have HO := hid ho
      have E0 := hid e0
      have HM := hid hm
      have HXX := hid hx
      clear hm hr hk h0 h1 hv hvi ho e0 hx
      go_enter Tryz.func133, Tryz.ntmps133
      go_wp2_with fail
      refine (place_any h v 0 j (.inl rfl) A c _ (HS.out.below HB0.out) HF.out).mono ?_
      rintro e w1 ⟨rfl, hb1⟩
      rw [E0.out]
      have HB1 := hid (HB0.out.trans (hb1.mono HB0.out.size))
      have HX1 := hid (HX.out.later hb1)
      have HK1 := hid (K1.out.later hb1)
      clear hb1
      obtain ⟨x0, x1, x2⟩ := HX1.out
      go_wp2_with fail
      refine (isval_any h x A c _).mono ?_
      rintro e w2 ⟨rfl, hb2⟩
      rw [HXX.out]
      have HB2 := hid (HB1.out.trans (hb2.mono HB1.out.size))
      have HX2 := hid (HX1.out.later hb2)
      have HK2 := hid (HK1.out.later hb2)
      clear hb2 x0 x1 x2
      obtain ⟨x0, x1, x2⟩ := HX2.out
      go_wp2_with fail
      refine (clone_h h A c _ (HS.out.below HB2.out) HM.out).mono ?_
      rintro e w3 ⟨A3, c3, ls, rfl, hls, hown, hb3⟩
      have HB3 := hid (HB2.out.trans (hb3.mono HB2.out.size))
      have HK3 := hid (HK2.out.later hb3)
      have hw2 : w.heap.size + 2 ≤ w2.heap.size := by have := HB0.out; have := HK2.out.lt; omega
      have hin : i < ls.length := by have := congrArg List.length hls; simp at this; omega
      have hlo : ls[i].o = obAt h v := by
        have := congrArg (fun t => t[i]?) hls
        simp only [List.getElem?_map, List.getElem?_eq_getElem hin, Option.map_some] at this
        rw [HO.out] at this
        exact Option.some.inj this
      obtain ⟨g, cg, hvv, hg0, hg1⟩ := hown.row.form (by omega)
      simp only [Value.slice.injEq, true_and] at hvv
      obtain ⟨rfl, rfl⟩ := hvv
      have hli : ls[i]? = some ls[i] := List.getElem?_eq_getElem hin
      obtain ⟨gs, cs, hvs, hs0, hs1⟩ := (hown.ints i _ hli).form (by rw [hlo]; omega)
      simp only [Value.slice.injEq, true_and] at hvs
      obtain ⟨hS, hC⟩ := hvs
      have q2 := (hown.row.cellAt (i * 6 + 2) (by omega)).trans (rowOf_get ls i 2 _ hli (by omega))
      simp only [LO.cells, List.getElem?_cons_zero, List.getElem?_cons_succ] at q2
      rw [hlo, hS] at q2
      have hI := hown.ints i _ hli
      rw [hS, hlo] at hI
      have qj := hI.cellAt j (by omega)
      have fj := hI.frozenAt j
      rw [List.getElem?_map, getD_at _ _ hjn] at qj
      simp only [Option.map_some] at qj
      have HOW := hid hown
      have HLS := hid hls
      have HSS := hid hS
      have HLI := hid hli
      have HLO := hid hlo
      have q2' := cell_old (ob := .cells #[Value.slice (some ⟨g, 0, none⟩) h.objs.length c3, Value.int .i64 h.cap, Value.int .i64 h.last] 24) q2
      have qj' := cell_old (ob := .cells #[Value.slice (some ⟨g, 0, none⟩) h.objs.length c3, Value.int .i64 h.cap, Value.int .i64 h.last] 24) qj
      have fj' : (w3.alloc (.cells #[Value.slice (some ⟨g, 0, none⟩) h.objs.length c3, Value.int .i64 h.cap, Value.int .i64 h.last] 24)).frozen? ⟨gs, j, none⟩ = false := by
        rw [(below_alloc w3 (.cells #[Value.slice (some ⟨g, 0, none⟩) h.objs.length c3, Value.int .i64 h.cap, Value.int .i64 h.last] 24)).frozen hs1]; exact fj
      have hne1 : gs ≠ w3.heap.size := by omega
      have hne2 : gs ≠ w.heap.size + 1 := by omega
      have HK4 := hid (HK3.out.far (p := ⟨gs, j, none⟩) (by show w.heap.size + 1 ≠ gs; omega) (.int .i64 x))
      have hlt3 : w.heap.size + 1 < w3.heap.size := HK3.out.lt
      have hne3 : w.heap.size + 1 ≠ w3.heap.size := by omega
      have y0 := HK3.out.cell 0
      have y1 := HK3.out.cell 1
      have y2 := HK3.out.cell 2
      have yf0 := HK3.out.frozen 0
      have yf1 := HK3.out.frozen 1
      have yf2 := HK3.out.frozen 2
      simp only [List.getElem?_toArray, List.getElem?_cons_zero, List.getElem?_cons_succ] at y0 y1 y2
      clear hb3 hown hls hS hli hlo hI q2 qj fj hC x0 x1 x2
      go_wp2_with fail
      have K0 := (((HK4.out.set_ 0 (.slice (some ⟨g, 0, none⟩) h.objs.length c3)).set_ 1 (.int .i64 h.cap)).set_ 2 (.int .i64 h.last)).alloc (.cells #[Value.slice (some ⟨g, 0, none⟩) h.objs.length c3, Value.int .i64 h.cap, Value.int .i64 h.last] 24)
      have r0 := K0.cell 0
      have r1 := K0.cell 1
      have r2 := K0.cell 2
      simp only [List.setIfInBounds_toArray, List.set_cons_zero, List.set_cons_succ, List.getElem?_toArray, List.getElem?_cons_zero, List.getElem?_cons_succ] at r0 r1 r2
      refine bodyPost_ret (v := .tuple #[.agg #[.slice (some ⟨g, 0, none⟩) h.objs.length c3, .int .i64 h.cap, .int .i64 h.last], .int .i64 0]) (by simp [results, Tryz.results133, go_sem, r0, r1, r2]) rfl ?_
      rw [EE.out, ER.out]
      refine ⟨some ⟨g, 0, none⟩, c3, ls.set i ⟨{ ls[i].o with slots := ls[i].o.slots.set j x }, ls[i].S, ls[i].c⟩, by simp, ?_, ?_, ?_⟩
      · show List.map _ _ = h.objs.set i _
        rw [List.map_set, HLS.out, ← HLO.out]
      · have hb2 : w.heap.size + 1 < w2.heap.size := by omega
        exact (((((HOW.out.slot HLI.out HSS.out).low (p := ⟨w.heap.size + 1, 0, none⟩) (by simp; omega) _).low (p := ⟨w.heap.size + 1, 1, none⟩) (by simp; omega) _).low (p := ⟨w.heap.size + 1, 2, none⟩) (by simp; omega) _).later (below_alloc _ _)).lower (by omega)
      · exact (((((HB3.out.setCell (p := ⟨gs, j, none⟩) (by show w.heap.size ≤ gs; omega) _)).setCell (p := ⟨w.heap.size + 1, 0, none⟩) (by simp) _).setCell (p := ⟨w.heap.size + 1, 1, none⟩) (by simp) _).setCell (p := ⟨w.heap.size + 1, 2, none⟩) (by simp) _).alloc (by simp; omega) _
  · have EE : Hid (setE h v k x = plE h v 0 k) := by show _ = _; unfold setE; rw [if_neg e0]
    have ER : Hid (setR h v k x = unH h (plE h v 0 k)) := by show _ = _; unfold setR; rw [EE.out, if_neg e0]
    have e1 : (plE h v 0 k == 0) = false := by simpa using e0
    have e2 : (plE h v 0 k != 0) = true := by simpa using e0
    clear e0
    go_enter Tryz.func133, Tryz.ntmps133
    go_wp2_with fail
    refine (place_any h v 0 k (.inl rfl) A c _ (HS.out.below HB0.out) HF.out).mono ?_
    rintro e w1 ⟨rfl, hb1⟩
    have HB1 := hid (HB0.out.trans (hb1.mono HB0.out.size))
    have HX1 := hid (HX.out.later hb1)
    have HK1 := hid (K1.out.later hb1)
    clear hb1
    obtain ⟨x0, x1, x2⟩ := HX1.out
    go_wp2_with fail
    refine (unchanged_any h (plE h v 0 k) A c _ (HS.out.below HB1.out) plE_may).mono ?_
    rintro e wu ⟨Au, cu, lu, rfl, hlu, hou, hbu⟩
    have HKu := hid (HK1.out.later hbu)
    have HBu := hid (HB1.out.trans (hbu.mono HB1.out.size))
    have HOu := hid hou
    have HLu := hid hlu
    have hltu := HK1.out.lt
    have u0 := HKu.out.cell 0
    have u1 := HKu.out.cell 1
    have u2 := HKu.out.cell 2
    have uf0 := HKu.out.frozen 0
    have uf1 := HKu.out.frozen 1
    have uf2 := HKu.out.frozen 2
    simp only [List.getElem?_toArray, List.getElem?_cons_zero, List.getElem?_cons_succ] at u0 u1 u2
    clear hou hbu hlu
    go_wp2_with fail
    have K0 := (((HKu.out.set_ 0 (.slice Au (unH h (plE h v 0 k)).objs.length cu)).set_ 1 (.int .i64 (unH h (plE h v 0 k)).cap)).set_ 2 (.int .i64 (unH h (plE h v 0 k)).last))
    have r0 := K0.cell 0
    have r1 := K0.cell 1
    have r2 := K0.cell 2
    simp only [List.setIfInBounds_toArray, List.set_cons_zero, List.set_cons_succ, List.getElem?_toArray, List.getElem?_cons_zero, List.getElem?_cons_succ] at r0 r1 r2
    refine bodyPost_ret (v := .tuple #[.agg #[.slice Au (unH h (plE h v 0 k)).objs.length cu, .int .i64 (unH h (plE h v 0 k)).cap, .int .i64 (unH h (plE h v 0 k)).last], .int .i64 (plE h v 0 k)]) (by simp [results, Tryz.results133, go_sem, r0, r1, r2]) rfl ?_
    rw [EE.out, ER.out]
    refine ⟨Au, cu, lu, rfl, HLu.out, ((((HOu.out).low (p := ⟨w.heap.size + 1, 0, none⟩) (by simp; omega) _).low (p := ⟨w.heap.size + 1, 1, none⟩) (by simp; omega) _).low (p := ⟨w.heap.size + 1, 2, none⟩) (by simp; omega) _).lower HB1.out.size, (((HBu.out).setCell (p := ⟨w.heap.size + 1, 0, none⟩) (by simp) _).setCell (p := ⟨w.heap.size + 1, 1, none⟩) (by simp) _).setCell (p := ⟨w.heap.size + 1, 2, none⟩) (by simp) _⟩
end Go.Proofs.YtkpfmbdkfgeboaaGreat
