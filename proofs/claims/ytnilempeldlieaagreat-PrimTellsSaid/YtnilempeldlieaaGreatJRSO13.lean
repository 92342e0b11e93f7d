/- The document's Set where nothing stands against it: the heap that it answers is of its own. -/
import Derived.Test.YtnilempeldlieaaGreatJ10
import Derived.Test.YtnilempeldlieaaGreatJ06
import Derived.Deep.DeepCutAuto
namespace Go.Proofs.YtnilempeldlieaaGreat
open Go.RowKit
set_option maxRecDepth 100000
def HeapOE13 (w : World) (h' : Hp) (en : Int) (e : Ending) (w' : World) : Prop := ∃ A c ls, e = .returned (.tuple #[.agg #[.slice A h'.objs.length c, .int .i64 h'.cap, .int .i64 h'.last], .int .i64 en]) ∧ ls.map (·.o) = h'.objs ∧ OwnH w' w.heap.size A c ls ∧ Below w.heap.size w w'
set_option maxHeartbeats 4000000 in
theorem rset_own13 (h : Hp) (v k x : Int) (A : Option Addr) (c : Nat) (w : World) (hs : ObsR w A h.objs) (fit : h.Fit) (hE : setE h v k x = 0) :
    Calls Tryz.prog 80 #[.agg #[.slice A h.objs.length c, .int .i64 h.cap, .int .i64 h.last], .int .i64 v, .int .i64 k, .int .i64 x] w (HeapOE13 w (setR h v k x) 0) := by
  have HB0 := hid (below_alloc2 w (.cells #[Value.slice A h.objs.length c, Value.int .i64 h.cap, Value.int .i64 h.last] 24) (.cells #[.slice none 0 0, .int .i64 0, .int .i64 0] 24))
  have HX := hid ((BoxH.new w h A c).later (below_alloc _ (.cells #[.slice none 0 0, .int .i64 0, .int .i64 0] 24)))
  have K1 : Hid (Lies ((w.alloc (.cells #[Value.slice A h.objs.length c, Value.int .i64 h.cap, Value.int .i64 h.last] 24)).alloc (.cells #[.slice none 0 0, .int .i64 0, .int .i64 0] 24)) (w.heap.size + 1) 24 #[.slice none 0 0, .int .i64 0, .int .i64 0]) := by
    have := Lies.new (w.alloc (.cells #[Value.slice A h.objs.length c, Value.int .i64 h.cap, Value.int .i64 h.last] 24)) 24 #[.slice none 0 0, .int .i64 0, .int .i64 0]
    simpa [Hid] using this
  have HS := hid hs
  have HF := hid fit
  clear hs fit
  have HX0 := HX
  have HK0 := K1
  have e0 : plE h v 0 k = 0 := by
    by_cases z : plE h v 0 k = 0
    · exact z
    · unfold setE at hE; rw [if_neg z] at hE; exact absurd hE z
  have hx : hasB h.objs.length x = true := by
    unfold setE at hE
    rw [if_pos e0] at hE
    cases z : hasB h.objs.length x
    · rw [z] at hE; exact absurd hE (by decide)
    · rfl
  obtain ⟨hm, hr, hk, h0, h1⟩ := pl_ok e0
  have HM := hid hm
  clear hE
  have hrr := hr
  obtain ⟨i, hi, hvi, ho⟩ := obAt_get hr
  obtain ⟨j, rfl⟩ : ∃ j : Nat, k = j := ⟨k.toNat, by omega⟩
  have hjn : j < (obAt h v).slots.length := by unfold szO at h1; rw [if_neg (by decide)] at h1; omega
  obtain ⟨hl1, -⟩ := kind_len (ob_kind (may_all hm _ (List.mem_of_getElem? ho)))
  have hri : refI h.objs.length v = (i : Int) := by rw [refI_nonneg hr, hvi]
  have EE : Hid (setE h v j x = 0) := by show _ = _; unfold setE; rw [if_pos e0, hx]; rfl
  have ER : Hid (setR h v j x = { h with objs := h.objs.set i { obAt h v with slots := (obAt h v).slots.set j x } }) := by
    show _ = _
    unfold setR; rw [if_pos EE.out]; unfold setH; rw [hvi]; rfl
  have HO := hid ho
  have E0 := hid e0
  have HXX := hid hx
  clear hm hr hrr hk h0 h1 hvi ho e0 hx
  go_enter Tryz.func80, Tryz.ntmps80
  go_wp2_with fail
  refine (wrong_any h v 0 j (.inl rfl) A c _ (HS.out.below HB0.out) HF.out).mono ?_
  rintro e w1 ⟨rfl, hb⟩
  rw [E0.out]
  have HB1 := hid (HB0.out.trans (hb.mono HB0.out.size))
  have HX1 := hid (HX0.out.later hb)
  have HK1 := hid (HK0.out.later hb)
  clear hb
  obtain ⟨x0, x1, x2⟩ := HX1.out
  go_wp2_with fail
  refine (rhas_any h x A c _).mono ?_
  rintro e w2 ⟨rfl, hb⟩
  rw [HXX.out]
  have HB2 := hid (HB1.out.trans (hb.mono HB1.out.size))
  have HX2 := hid (HX1.out.later hb)
  have HK2 := hid (HK1.out.later hb)
  clear hb x0 x1 x2
  obtain ⟨x0, x1, x2⟩ := HX2.out
  go_wp2_with fail
  refine (copy_h h A c _ (HS.out.below HB2.out) HM.out).mono ?_
  rintro e w3 ⟨A3, c3, ls, rfl, hls, hown, hb3⟩
  have HB3 := hid (HB2.out.trans (hb3.mono HB2.out.size))
  have HK3 := hid (HK2.out.later hb3)
  have HX3 := hid (HX2.out.later hb3)
  have hw2 : w.heap.size + 2 ≤ w2.heap.size := by have := HK2.out.lt; omega
  have hin : i < ls.length := by have := congrArg List.length hls; simp at this; omega
  have hlo : ls[i].o = obAt h v := by
    have := congrArg (fun t => t[i]?) hls
    simp only [List.getElem?_map, List.getElem?_eq_getElem hin, Option.map_some] at this
    rw [HO.out] at this
    exact Option.some.inj this
  obtain ⟨g, cg, hvv, hg0, hg1⟩ := hown.row.form (by omega)
  simp only [Value.slice.injEq, true_and] at hvv
  obtain ⟨rfl, rfl⟩ := hvv
  have hli : ls[i]? = some ls[i] := List.getElem?_eq_getElem hin
  obtain ⟨gs, cs, hvs, hs0, hs1⟩ := (hown.ints i _ hli).form (by rw [hlo]; omega)
  simp only [Value.slice.injEq, true_and] at hvs
  obtain ⟨hS, hC⟩ := hvs
  have q2 := (hown.row.cellAt (i * 6 + 2) (by omega)).trans (rowOf_get ls i 2 _ hli (by omega))
  simp only [LO.cells, List.getElem?_cons_zero, List.getElem?_cons_succ] at q2
  rw [hlo, hS] at q2
  have hI := hown.ints i _ hli
  rw [hS, hlo] at hI
  have qj := hI.cellAt j (by omega)
  have fj := hI.frozenAt j
  rw [List.getElem?_map, getD_at _ _ hjn] at qj
  simp only [Option.map_some] at qj
  have HOW := hid hown
  have HLS := hid hls
  have HSS := hid hS
  have HLI := hid hli
  have HLO := hid hlo
  have HC3 := hid hI
  have Q2 := hid q2
  have QJ := hid qj
  have hne1 : gs ≠ w3.heap.size := by omega
  have hne2 : gs ≠ w.heap.size + 1 := by omega
  clear hb3 hown hls hS hli hlo hI q2 qj fj hC x0 x1 x2
  have HA4 := hid (below_alloc w3 (.cells #[Value.slice (some ⟨g, 0, none⟩) h.objs.length c3, Value.int .i64 h.cap, Value.int .i64 h.last] 24))
  obtain ⟨x0, x1, x2⟩ := HX3.out.later HA4.out
  have HT := hid (BoxH.new w3 h (some ⟨g, 0, none⟩) c3)
  have t0 := HT.out.b0
  have q2' := cell_old (ob := .cells #[Value.slice (some ⟨g, 0, none⟩) h.objs.length c3, Value.int .i64 h.cap, Value.int .i64 h.last] 24) Q2.out
  have qj' := cell_old (ob := .cells #[Value.slice (some ⟨g, 0, none⟩) h.objs.length c3, Value.int .i64 h.cap, Value.int .i64 h.last] 24) QJ.out
  have hgg : g ≠ gs := by
    obtain ⟨cur, hB, _, _, _⟩ := own_blk HC3.out
    intro e
    exact own_blk_ne HOW.out.row hB (by decide) (by simp [Value.ownBlock, e])
  have hltg : w.heap.size < gs := by omega
  have hd0 : w.heap.size ≠ gs := by omega
  have hd1 : w3.heap.size ≠ gs := by omega
  go_wp2_with fail
  go_region_held3 (fun w' => w'.cell? ⟨w3.heap.size, 0, none⟩ = some (.slice (some ⟨g, 0, none⟩) h.objs.length c3) ∧ w'.cell? ⟨w.heap.size, 0, none⟩ = some (.slice A h.objs.length c) ∧ w'.cell? ⟨w.heap.size, 1, none⟩ = some (.int .i64 h.cap) ∧ w'.cell? ⟨w.heap.size, 2, none⟩ = some (.int .i64 h.last) ∧ w'.cell? ⟨g, i * 6 + 2, none⟩ = some (.slice (some ⟨gs, 0, none⟩) (obAt h v).slots.length ls[i].c))
    (first | exact ⟨t0, x0, x1, x2, q2'⟩ | exact ⟨cell_later hb5 t0, cell_later hb5 x0, cell_later hb5 x1, cell_later hb5 x2, cell_later hb5 q2'⟩ | exact ⟨cell_far hd1 (cell_later hb5 t0), cell_far hd0 (cell_later hb5 x0), cell_far hd0 (cell_later hb5 x1), cell_far hd0 (cell_later hb5 x2), cell_far hgg (cell_later hb5 q2')⟩)
    (first | (go_at_call 32; refine (rref_any h v A c _).mono ?_; rintro e w5 ⟨rfl, hb5⟩; have zj := cell_later hb5 qj'; have zf := ((own_later (own_later (own_later HC3.out HA4.out) (Below.refl _ _).drew) hb5).frozenAt j)))
  have HB34 : Hid (Below w3.heap.size w3 w5) := (HA4.out.drew).trans (hb5.mono (by simp))
  obtain ⟨z0, z1, z2⟩ := (HT.out.later (Below.refl _ _).drew).later hb5
  have HK5 := hid (HK3.out.later HB34.out)
  have hw5 : w3.heap.size < w5.heap.size := by have := hb5.size; simp at this; omega
  have hlt5 : w.heap.size + 1 < w5.heap.size := HK5.out.lt
  have HK6 := hid (HK5.out.far (p := ⟨gs, j, none⟩) (by show w.heap.size + 1 ≠ gs; omega) (.int .i64 x))
  obtain ⟨y0, y1, y2⟩ := HK5.out.c3
  obtain ⟨yf0, yf1, yf2⟩ := HK5.out.f3
  clear hb5 x0 x1 x2 t0 q2' qj' zj zf
  have z0' := cell_far (u := .int .i64 x) (j := j) hne1.symm z0
  have z1' := cell_far (u := .int .i64 x) (j := j) hne1.symm z1
  have z2' := cell_far (u := .int .i64 x) (j := j) hne1.symm z2
  go_wp2_with fail
  obtain ⟨r0, r1, r2⟩ := HK6.out.s3 (.slice (some ⟨g, 0, none⟩) h.objs.length c3) (.int .i64 h.cap) (.int .i64 h.last)
  refine bodyPost_ret (v := .tuple #[.agg #[.slice (some ⟨g, 0, none⟩) h.objs.length c3, .int .i64 h.cap, .int .i64 h.last], .int .i64 0]) (by simp [results, Tryz.results80, go_sem, r0, r1, r2]) rfl ?_
  rw [ER.out]
  have hsz : w.heap.size ≤ w2.heap.size := HB2.out.size
  refine ⟨some ⟨g, 0, none⟩, c3, ls.set i ⟨{ ls[i].o with slots := ls[i].o.slots.set j x }, ls[i].S, ls[i].c⟩, by simp, ?_, (OwnH.lower (base := w2.heap.size) ?_ hsz), ?_⟩
  · show List.map _ _ = h.objs.set i _
    rw [List.map_set, HLS.out, ← HLO.out]
  · have hb2 : w.heap.size + 1 < w2.heap.size := by omega
    exact ((((HOW.out.later HB34.out).slot HLI.out HSS.out).low (p := ⟨w.heap.size + 1, 0, none⟩) (by simp; omega) _).low (p := ⟨w.heap.size + 1, 1, none⟩) (by simp; omega) _).low (p := ⟨w.heap.size + 1, 2, none⟩) (by simp; omega) _
  · exact (((((HB3.out.trans (HB34.out.mono HB3.out.size)).setCell (p := ⟨gs, j, none⟩) (by show w.heap.size ≤ gs; omega) _)).setCell (p := ⟨w.heap.size + 1, 0, none⟩) (by simp) _).setCell (p := ⟨w.heap.size + 1, 1, none⟩) (by simp) _).setCell (p := ⟨w.heap.size + 1, 2, none⟩) (by simp) _
end Go.Proofs.YtnilempeldlieaaGreat
