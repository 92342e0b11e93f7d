/- Become: two objects change places. -/
import Derived.Test.YtkpfmbdkfgeboaaGreatSW
import Derived.BigRegion
namespace Go.Proofs.YtkpfmbdkfgeboaaGreat
open Go.RowKit
theorem obj_of {ls : List LO} {os : List Ob} {i : Nat} {l : LO} {o : Ob} (h : ls.map (·.o) = os) (hl : ls[i]? = some l) (ho : os[i]? = some o) : l.o = o := by
  rw [← h, List.getElem?_map, hl] at ho
  exact Option.some.inj ho
def beE (h : Hp) (v u : Int) : Int := if mayB h = false then 1 else if refB h.objs.length v = false ∨ refB h.objs.length u = false then 31 else 0
def beR (h : Hp) (v u : Int) : Hp := if mayB h = false then zeroH else if refB h.objs.length v = false ∨ refB h.objs.length u = false then h else { h with objs := (h.objs.set (atV v).toNat (obAt h u)).set (atV u).toNat (obAt h v) }
set_option maxRecDepth 100000 in
set_option maxHeartbeats 1600000 in
theorem become_any (h : Hp) (v u : Int) (A : Option Addr) (c : Nat) (w : World) (hs : ObsR w A h.objs) (fit : h.Fit) :
    Calls Tryz.prog 140 #[.agg #[.slice A h.objs.length c, .int .i64 h.cap, .int .i64 h.last], .int .i64 v, .int .i64 u] w (HeapOwn2 w (beR h v u) (beE h v u)) := by
  have HB0 := hid (below_alloc2 w (.cells #[Value.slice A h.objs.length c, Value.int .i64 h.cap, Value.int .i64 h.last] 24) (.cells #[.slice none 0 0, .int .i64 0, .int .i64 0] 24))
  have HX := hid ((BoxH.new w h A c).later (below_alloc _ (.cells #[.slice none 0 0, .int .i64 0, .int .i64 0] 24)))
  have K1 : Hid (Lies ((w.alloc (.cells #[Value.slice A h.objs.length c, Value.int .i64 h.cap, Value.int .i64 h.last] 24)).alloc (.cells #[.slice none 0 0, .int .i64 0, .int .i64 0] 24)) (w.heap.size + 1) 24 #[.slice none 0 0, .int .i64 0, .int .i64 0]) := by
    have := Lies.new (w.alloc (.cells #[Value.slice A h.objs.length c, Value.int .i64 h.cap, Value.int .i64 h.last] 24)) 24 #[.slice none 0 0, .int .i64 0, .int .i64 0]
    simpa [Hid] using this
  have HS := hid hs
  have HF := hid fit
  clear hs fit
  have HX0 := HX
  have HK0 := K1
  cases hm : mayB h
  · have EE : Hid (beE h v u = 1) := by show _ = _; unfold beE; rw [if_pos hm]
    have ER : Hid (beR h v u = zeroH) := by show _ = _; unfold beR; rw [if_pos hm]
    have HM := hid hm
    clear hm
    go_enter Tryz.func140, Tryz.ntmps140
    go_wp2_with fail
    refine (may_any h A c _ (HS.out.below HB0.out) HF.out).mono ?_
    rintro e w1 ⟨rfl, hb⟩
    rw [HM.out]
    have HB1 := hid (HB0.out.trans (hb.mono HB0.out.size))
    have HX1 := hid (HX0.out.later hb)
    have HK1 := hid (HK0.out.later hb)
    clear hb
    obtain ⟨x0, x1, x2⟩ := HX1.out
    have hlta := HK1.out.lt
    have u0 := HK1.out.cell 0
    have u1 := HK1.out.cell 1
    have u2 := HK1.out.cell 2
    have uf0 := HK1.out.frozen 0
    have uf1 := HK1.out.frozen 1
    have uf2 := HK1.out.frozen 2
    simp only [List.getElem?_toArray, List.getElem?_cons_zero, List.getElem?_cons_succ] at u0 u1 u2
    go_wp2_with fail
    have K0 := (((HK1.out.set_ 0 (.slice none 0 0)).set_ 1 (.int .i64 0)).set_ 2 (.int .i64 0))
    have r0 := K0.cell 0
    have r1 := K0.cell 1
    have r2 := K0.cell 2
    simp only [List.setIfInBounds_toArray, List.set_cons_zero, List.set_cons_succ, List.getElem?_toArray, List.getElem?_cons_zero, List.getElem?_cons_succ] at r0 r1 r2
    refine bodyPost_ret (v := .tuple #[.agg #[.slice none 0 0, .int .i64 0, .int .i64 0], .int .i64 1]) (by simp [results, Tryz.results140, go_sem, r0, r1, r2]) rfl ?_
    rw [EE.out, ER.out]
    refine ⟨none, 0, [], rfl, rfl, OwnH.nil _ _, ?_⟩
    exact (((HB1.out).setCell (p := ⟨w.heap.size + 1, 0, none⟩) (by simp) _).setCell (p := ⟨w.heap.size + 1, 1, none⟩) (by simp) _).setCell (p := ⟨w.heap.size + 1, 2, none⟩) (by simp) _
  · have HM := hid hm
    by_cases hr : refB h.objs.length v = false ∨ refB h.objs.length u = false
    · have EE : Hid (beE h v u = 31) := by show _ = _; unfold beE; rw [if_neg (by rw [hm]; decide), if_pos hr]
      have ER : Hid (beR h v u = h) := by show _ = _; unfold beR; rw [if_neg (by rw [hm]; decide), if_pos hr]
      have HR := hid hr
      clear hm hr
      go_enter Tryz.func140, Tryz.ntmps140
      go_wp2_with fail
      refine (may_any h A c _ (HS.out.below HB0.out) HF.out).mono ?_
      rintro e w1 ⟨rfl, hb⟩
      rw [HM.out]
      have HB1 := hid (HB0.out.trans (hb.mono HB0.out.size))
      have HX1 := hid (HX0.out.later hb)
      have HK1 := hid (HK0.out.later hb)
      clear hb
      obtain ⟨x0, x1, x2⟩ := HX1.out
      go_wp2_with fail
      refine (clone_h h A c _ (HS.out.below HB1.out) HM.out).mono ?_
      rintro e w2 ⟨A2, c2, ls, rfl, hls, hown, hb2⟩
      have HA := hid (below_alloc w2 (.cells #[Value.slice A2 h.objs.length c2, Value.int .i64 h.cap, Value.int .i64 h.last] 24))
      have HB2 := hid ((HB1.out.trans (hb2.mono HB1.out.size)).trans (HA.out.mono (Nat.le_trans HB1.out.size hb2.size)))
      have HK2 := hid ((HK1.out.later hb2).later HA.out)
      have HX2 := hid ((HX1.out.later hb2).later HA.out)
      have HT2 := hid (BoxH.new w2 h A2 c2)
      have HOW := hid (hown.later HA.out)
      have HLS := hid hls
      have hw1 : w.heap.size + 2 ≤ w1.heap.size := by have := HK1.out.lt; omega
      have hw2 : w1.heap.size ≤ w2.heap.size := hb2.size
      clear hown hls hb2 x0 x1 x2
      obtain ⟨x0, x1, x2⟩ := HX2.out
      go_wp2_with fail
      refine (find_any h v A c _).mono ?_
      rintro e w3 ⟨rfl, hb⟩
      have HB3 := hid (HB2.out.trans (hb.mono HB2.out.size))
      have HX3 := hid (HX2.out.later hb)
      have HK3 := hid (HK2.out.later hb)
      have HT3 := hid (HT2.out.later hb)
      have HO3 := hid (HOW.out.later hb)
      have hw3 : w2.heap.size < w3.heap.size := by have := hb.size; simp at this; omega
      clear hb x0 x1 x2
      obtain ⟨x0, x1, x2⟩ := HX3.out
      go_wp2_with fail
      refine (find_any h u A c _).mono ?_
      rintro e w4 ⟨rfl, hb⟩
      have HB4 := hid (HB3.out.trans (hb.mono HB3.out.size))
      have HK4 := hid (HK3.out.later hb)
      have HT4 := hid (HT3.out.later hb)
      have HO4 := hid (HO3.out.later hb)
      have hw4 : w3.heap.size ≤ w4.heap.size := hb.size
      clear hb x0 x1 x2
      obtain ⟨z0, z1, z2⟩ := HT4.out
      have hlt4 := HK4.out.lt
      have y0 := HK4.out.cell 0
      have y1 := HK4.out.cell 1
      have y2 := HK4.out.cell 2
      have yf0 := HK4.out.frozen 0
      have yf1 := HK4.out.frozen 1
      have yf2 := HK4.out.frozen 2
      simp only [List.getElem?_toArray, List.getElem?_cons_zero, List.getElem?_cons_succ] at y0 y1 y2
      rcases HR.out with hr | hr
      all_goals
        have HRR := hid hr
        clear hr
        cases hr1 : refB h.objs.length v <;> cases hr2 : refB h.objs.length u
        all_goals first
          | (exfalso; have := HRR.out; simp_all; done)
          | skip
        all_goals
          go_wp2_with fail
          have K0 := (((HK4.out.set_ 0 (.slice A2 h.objs.length c2)).set_ 1 (.int .i64 h.cap)).set_ 2 (.int .i64 h.last))
          have r0 := K0.cell 0
          have r1 := K0.cell 1
          have r2 := K0.cell 2
          simp only [List.setIfInBounds_toArray, List.set_cons_zero, List.set_cons_succ, List.getElem?_toArray, List.getElem?_cons_zero, List.getElem?_cons_succ] at r0 r1 r2
          refine bodyPost_ret (v := .tuple #[.agg #[.slice A2 h.objs.length c2, .int .i64 h.cap, .int .i64 h.last], .int .i64 31]) (by simp [results, Tryz.results140, go_sem, r0, r1, r2]) rfl ?_
          rw [EE.out, ER.out]
          refine ⟨A2, c2, ls, rfl, HLS.out, ((((HO4.out).low (p := ⟨w.heap.size + 1, 0, none⟩) (by simp; omega) _).low (p := ⟨w.heap.size + 1, 1, none⟩) (by simp; omega) _).low (p := ⟨w.heap.size + 1, 2, none⟩) (by simp; omega) _).lower (by omega), (((HB4.out).setCell (p := ⟨w.heap.size + 1, 0, none⟩) (by simp) _).setCell (p := ⟨w.heap.size + 1, 1, none⟩) (by simp) _).setCell (p := ⟨w.heap.size + 1, 2, none⟩) (by simp) _⟩
    · have hr1 : refB h.objs.length v = true := by cases e : refB h.objs.length v <;> simp_all
      have hr2 : refB h.objs.length u = true := by cases e : refB h.objs.length u <;> simp_all
      have EE : Hid (beE h v u = 0) := by show _ = _; unfold beE; rw [if_neg (by rw [hm]; decide), if_neg hr]
      have ER : Hid (beR h v u = { h with objs := (h.objs.set (atV v).toNat (obAt h u)).set (atV u).toNat (obAt h v) }) := by show _ = _; unfold beR; rw [if_neg (by rw [hm]; decide), if_neg hr]
      obtain ⟨i, hi, hvi, ho⟩ := obAt_get hr1
      obtain ⟨k, hk, huk, ho2⟩ := obAt_get hr2
      have hv1 : refV h.objs.length v = (i : Int) := by unfold refV; rw [if_pos hr1, hvi]
      have hv2 : refV h.objs.length u = (k : Int) := by unfold refV; rw [if_pos hr2, huk]
      have HVI := hid hvi
      have HUK := hid huk
      have HO1 := hid ho
      have HO2 := hid ho2
      clear hm hr hvi huk ho ho2
      go_enter Tryz.func140, Tryz.ntmps140
      go_wp2_with fail
      refine (may_any h A c _ (HS.out.below HB0.out) HF.out).mono ?_
      rintro e w1 ⟨rfl, hb⟩
      rw [HM.out]
      have HB1 := hid (HB0.out.trans (hb.mono HB0.out.size))
      have HX1 := hid (HX0.out.later hb)
      have HK1 := hid (HK0.out.later hb)
      clear hb
      obtain ⟨x0, x1, x2⟩ := HX1.out
      go_wp2_with fail
      refine (clone_h h A c _ (HS.out.below HB1.out) HM.out).mono ?_
      rintro e w2 ⟨A2, c2, ls, rfl, hls, hown, hb2⟩
      have HA := hid (below_alloc w2 (.cells #[Value.slice A2 h.objs.length c2, Value.int .i64 h.cap, Value.int .i64 h.last] 24))
      have HB2 := hid ((HB1.out.trans (hb2.mono HB1.out.size)).trans (HA.out.mono (Nat.le_trans HB1.out.size hb2.size)))
      have HK2 := hid ((HK1.out.later hb2).later HA.out)
      have HX2 := hid ((HX1.out.later hb2).later HA.out)
      have HT2 := hid (BoxH.new w2 h A2 c2)
      have HOW := hid (hown.later HA.out)
      have HLS := hid hls
      have hw1 : w.heap.size + 2 ≤ w1.heap.size := by have := HK1.out.lt; omega
      have hw2 : w1.heap.size ≤ w2.heap.size := hb2.size
      clear hown hls hb2 x0 x1 x2
      obtain ⟨x0, x1, x2⟩ := HX2.out
      go_wp2_with fail
      refine (find_any h v A c _).mono ?_
      rintro e w3 ⟨rfl, hb⟩
      have HB3 := hid (HB2.out.trans (hb.mono HB2.out.size))
      have HX3 := hid (HX2.out.later hb)
      have HK3 := hid (HK2.out.later hb)
      have HT3 := hid (HT2.out.later hb)
      have HO3 := hid (HOW.out.later hb)
      have hw3 : w2.heap.size < w3.heap.size := by have := hb.size; simp at this; omega
      clear hb x0 x1 x2
      obtain ⟨x0, x1, x2⟩ := HX3.out
      go_wp2_with fail
      refine (find_any h u A c _).mono ?_
      rintro e w4 ⟨rfl, hb⟩
      have HB4 := hid (HB3.out.trans (hb.mono HB3.out.size))
      have HK4 := hid (HK3.out.later hb)
      have HT4 := hid (HT3.out.later hb)
      have HO4 := hid (HO3.out.later hb)
      have hw4 : w3.heap.size ≤ w4.heap.size := hb.size
      clear hb x0 x1 x2
      obtain ⟨z0, z1, z2⟩ := HT4.out
      have hlt4 := HK4.out.lt
      have y0 := HK4.out.cell 0
      have y1 := HK4.out.cell 1
      have y2 := HK4.out.cell 2
      have yf0 := HK4.out.frozen 0
      have yf1 := HK4.out.frozen 1
      have yf2 := HK4.out.frozen 2
      simp only [List.getElem?_toArray, List.getElem?_cons_zero, List.getElem?_cons_succ] at y0 y1 y2
      have hll : ls.length = h.objs.length := by have := congrArg List.length HLS.out; simpa using this
      obtain ⟨g, cg, hvv, hg0, hg1⟩ := HO4.out.row.form (by omega)
      simp only [Value.slice.injEq, true_and] at hvv
      obtain ⟨rfl, rfl⟩ := hvv
      have hin : i < ls.length := by omega
      have hkn : k < ls.length := by omega
      obtain ⟨l, hl⟩ : ∃ l, ls[i]? = some l := ⟨_, List.getElem?_eq_getElem hin⟩
      obtain ⟨m, hm⟩ : ∃ m, ls[k]? = some m := ⟨_, List.getElem?_eq_getElem hkn⟩
      have q := fun j (hj : j < 6) => (HO4.out.row.cellAt (i * 6 + j) (by omega)).trans (rowOf_get ls i j l hl hj)
      have p := fun j (hj : j < 6) => (HO4.out.row.cellAt (k * 6 + j) (by omega)).trans (rowOf_get ls k j m hm hj)
      have fz := HO4.out.row.frozenAt
      have q0 := q 0 (by omega)
      have p0 := p 0 (by omega)
      have fq0 := fz (i * 6 + 0)
      have fp0 := fz (k * 6 + 0)
      have q1 := q 1 (by omega)
      have p1 := p 1 (by omega)
      have fq1 := fz (i * 6 + 1)
      have fp1 := fz (k * 6 + 1)
      have q2 := q 2 (by omega)
      have p2 := p 2 (by omega)
      have fq2 := fz (i * 6 + 2)
      have fp2 := fz (k * 6 + 2)
      have q3 := q 3 (by omega)
      have p3 := p 3 (by omega)
      have fq3 := fz (i * 6 + 3)
      have fp3 := fz (k * 6 + 3)
      have q4 := q 4 (by omega)
      have p4 := p 4 (by omega)
      have fq4 := fz (i * 6 + 4)
      have fp4 := fz (k * 6 + 4)
      have q5 := q 5 (by omega)
      have p5 := p 5 (by omega)
      have fq5 := fz (i * 6 + 5)
      have fp5 := fz (k * 6 + 5)
      simp only [LO.cells, List.getElem?_cons_zero, List.getElem?_cons_succ, Nat.add_zero] at q0 q1 q2 q3 q4 q5 p0 p1 p2 p3 p4 p5 fq0 fp0
      have hil : (i : Int) < (h.objs.length : Int) := by omega
      have hkl : (k : Int) < (h.objs.length : Int) := by omega
      have HLI := hid hl
      have HMI := hid hm
      have HFZ := hid fz
      have hgb : g ≠ w2.heap.size := by
        have := (HOW.out.row.lt g rfl).2
        obtain ⟨cur, hB, _, _, _⟩ := own_blk HOW.out.row
        intro e
        subst e
        have hb2 := Lies.new w2 24 #[Value.slice (some ⟨w2.heap.size, 0, none⟩) h.objs.length c2, Value.int .i64 h.cap, Value.int .i64 h.last]
        unfold Lies at hB hb2
        rw [hb2] at hB
        injection hB with hB
        injection hB with _ ht
        exact absurd ht (by decide)
      have hgw : w.heap.size + 1 < g := by omega
      clear q p fz hl hm
      by_cases hik : i = k
      · subst hik
        obtain rfl : m = l := by have := HLI.out; have h2 := HMI.out; rw [this] at h2; exact (Option.some.inj h2).symm
        clear p0 p1 p2 p3 p4 p5 fp0 fp1 fp2 fp3 fp4 fp5
        go_wp2_with fail
        go_region
        have hO6 := HO4.out.swap HLI.out HMI.out
        have hB6 : Below w.heap.size w (set6 (set6 w4 g i m) g i m) := below_set6 (i := i) (below_set6 (i := i) HB4.out (by omega) m) (by omega) m
        have hK5 := blk_set6 (i := i) HK4.out (show w.heap.size + 1 ≠ g by omega) m
        have hK6 := blk_set6 (i := i) hK5 (show w.heap.size + 1 ≠ g by omega) m
        clear hK5
        have s0 := cell_set6 (i := i) (cell_set6 (i := i) z0 hgb.symm m) hgb.symm m
        have s1 := cell_set6 (i := i) (cell_set6 (i := i) z1 hgb.symm m) hgb.symm m
        have s2 := cell_set6 (i := i) (cell_set6 (i := i) z2 hgb.symm m) hgb.symm m
        obtain ⟨W6, hW6⟩ : ∃ W : World, W = (World.drew (World.setCell (World.setCell (World.setCell (World.setCell (World.setCell (World.setCell (World.setCell (World.setCell (World.setCell (World.setCell (World.setCell (World.setCell w4 ⟨g, i * 6, none⟩ (.int .i64 m.o.cls)) ⟨g, i * 6 + 1, none⟩ (.int .i64 m.o.kind)) ⟨g, i * 6 + 2, none⟩ (.slice m.S m.o.slots.length m.c)) ⟨g, i * 6 + 3, none⟩ (.string m.o.text)) ⟨g, i * 6 + 4, none⟩ (.int .i64 m.o.bits)) ⟨g, i * 6 + 5, none⟩ (.int .i64 m.o.hash)) ⟨g, i * 6, none⟩ (.int .i64 m.o.cls)) ⟨g, i * 6 + 1, none⟩ (.int .i64 m.o.kind)) ⟨g, i * 6 + 2, none⟩ (.slice m.S m.o.slots.length m.c)) ⟨g, i * 6 + 3, none⟩ (.string m.o.text)) ⟨g, i * 6 + 4, none⟩ (.int .i64 m.o.bits)) ⟨g, i * 6 + 5, none⟩ (.int .i64 m.o.hash))) := ⟨_, rfl⟩
        rw [← hW6]
        have hW7 : W6 = (set6 (set6 w4 g i m) g i m).drew := hW6
        clear hW6
        have hO7 := hO6.later (Below.refl _ _).drew
        have hB7 := hB6.drew
        have hK7 := hK6.drew
        have s0' : W6.cell? ⟨w2.heap.size, 0, none⟩ = some (.slice (some ⟨g, 0, none⟩) h.objs.length c2) := by rw [hW7]; exact cell_later (Below.refl _ _).drew s0
        have s1' : W6.cell? ⟨w2.heap.size, 1, none⟩ = some (.int .i64 h.cap) := by rw [hW7]; exact cell_later (Below.refl _ _).drew s1
        have s2' : W6.cell? ⟨w2.heap.size, 2, none⟩ = some (.int .i64 h.last) := by rw [hW7]; exact cell_later (Below.refl _ _).drew s2
        rw [← hW7] at hO7 hB7
        replace hK7 : Lies W6 (w.heap.size + 1) 24 #[.slice none 0 0, .int .i64 0, .int .i64 0] := by rw [hW7]; exact hK7
        clear hW7
        have HO7 := hid hO7
        have HB7 := hid hB7
        have HK7 := hid hK7
        clear hO6 hB6 hK6 s0 s1 s2 hO7 hB7 hK7 q0 q1 q2 q3 q4 q5 fq0 fq1 fq2 fq3 fq4 fq5 z0 z1 z2 y0 y1 y2 yf0 yf1 yf2
        have t0 := HK7.out.cell 0
        have t1 := HK7.out.cell 1
        have t2 := HK7.out.cell 2
        have tf0 := HK7.out.frozen 0
        have tf1 := HK7.out.frozen 1
        have tf2 := HK7.out.frozen 2
        simp only [List.getElem?_toArray, List.getElem?_cons_zero, List.getElem?_cons_succ] at t0 t1 t2
        go_wp2_with fail
        have K0 := (((HK7.out.set_ 0 (.slice (some ⟨g, 0, none⟩) h.objs.length c2)).set_ 1 (.int .i64 h.cap)).set_ 2 (.int .i64 h.last))
        have r0 := K0.cell 0
        have r1 := K0.cell 1
        have r2 := K0.cell 2
        simp only [List.setIfInBounds_toArray, List.set_cons_zero, List.set_cons_succ, List.getElem?_toArray, List.getElem?_cons_zero, List.getElem?_cons_succ] at r0 r1 r2
        refine bodyPost_ret (v := .tuple #[.agg #[.slice (some ⟨g, 0, none⟩) h.objs.length c2, .int .i64 h.cap, .int .i64 h.last], .int .i64 0]) (by simp [results, Tryz.results140, go_sem, r0, r1, r2]) rfl ?_
        rw [EE.out, ER.out]
        refine ⟨some ⟨g, 0, none⟩, c2, (ls.set i m).set i m, by simp, ?_, ((((HO7.out).low (p := ⟨w.heap.size + 1, 0, none⟩) (by simp; omega) _).low (p := ⟨w.heap.size + 1, 1, none⟩) (by simp; omega) _).low (p := ⟨w.heap.size + 1, 2, none⟩) (by simp; omega) _).lower (by omega), (((HB7.out).setCell (p := ⟨w.heap.size + 1, 0, none⟩) (by simp) _).setCell (p := ⟨w.heap.size + 1, 1, none⟩) (by simp) _).setCell (p := ⟨w.heap.size + 1, 2, none⟩) (by simp) _⟩
        rw [swap_objs HLS.out, HVI.out, HUK.out]
        show _ = (h.objs.set (i : Int).toNat _).set (i : Int).toNat _
        simp only [Int.toNat_natCast]
        have e1 : m.o = obAt h u := obj_of HLS.out HMI.out HO2.out
        have e2 : m.o = obAt h v := obj_of HLS.out HLI.out HO1.out
        rw [show obAt h u = obAt h v by rw [← e1, e2], e2]
      · go_wp2_with fail
        go_region
        have hO6 := HO4.out.swap HLI.out HMI.out
        have hB6 : Below w.heap.size w (set6 (set6 w4 g i m) g k l) := below_set6 (i := k) (below_set6 (i := i) HB4.out (by omega) m) (by omega) l
        have hK5 := blk_set6 (i := i) HK4.out (show w.heap.size + 1 ≠ g by omega) m
        have hK6 := blk_set6 (i := k) hK5 (show w.heap.size + 1 ≠ g by omega) l
        clear hK5
        have s0 := cell_set6 (i := k) (cell_set6 (i := i) z0 hgb.symm m) hgb.symm l
        have s1 := cell_set6 (i := k) (cell_set6 (i := i) z1 hgb.symm m) hgb.symm l
        have s2 := cell_set6 (i := k) (cell_set6 (i := i) z2 hgb.symm m) hgb.symm l
        obtain ⟨W6, hW6⟩ : ∃ W : World, W = (World.drew (World.setCell (World.setCell (World.setCell (World.setCell (World.setCell (World.setCell (World.setCell (World.setCell (World.setCell (World.setCell (World.setCell (World.setCell w4 ⟨g, i * 6, none⟩ (.int .i64 m.o.cls)) ⟨g, i * 6 + 1, none⟩ (.int .i64 m.o.kind)) ⟨g, i * 6 + 2, none⟩ (.slice m.S m.o.slots.length m.c)) ⟨g, i * 6 + 3, none⟩ (.string m.o.text)) ⟨g, i * 6 + 4, none⟩ (.int .i64 m.o.bits)) ⟨g, i * 6 + 5, none⟩ (.int .i64 m.o.hash)) ⟨g, k * 6, none⟩ (.int .i64 l.o.cls)) ⟨g, k * 6 + 1, none⟩ (.int .i64 l.o.kind)) ⟨g, k * 6 + 2, none⟩ (.slice l.S l.o.slots.length l.c)) ⟨g, k * 6 + 3, none⟩ (.string l.o.text)) ⟨g, k * 6 + 4, none⟩ (.int .i64 l.o.bits)) ⟨g, k * 6 + 5, none⟩ (.int .i64 l.o.hash))) := ⟨_, rfl⟩
        rw [← hW6]
        have hW7 : W6 = (set6 (set6 w4 g i m) g k l).drew := hW6
        clear hW6
        have hO7 := hO6.later (Below.refl _ _).drew
        have hB7 := hB6.drew
        have hK7 := hK6.drew
        have s0' : W6.cell? ⟨w2.heap.size, 0, none⟩ = some (.slice (some ⟨g, 0, none⟩) h.objs.length c2) := by rw [hW7]; exact cell_later (Below.refl _ _).drew s0
        have s1' : W6.cell? ⟨w2.heap.size, 1, none⟩ = some (.int .i64 h.cap) := by rw [hW7]; exact cell_later (Below.refl _ _).drew s1
        have s2' : W6.cell? ⟨w2.heap.size, 2, none⟩ = some (.int .i64 h.last) := by rw [hW7]; exact cell_later (Below.refl _ _).drew s2
        rw [← hW7] at hO7 hB7
        replace hK7 : Lies W6 (w.heap.size + 1) 24 #[.slice none 0 0, .int .i64 0, .int .i64 0] := by rw [hW7]; exact hK7
        clear hW7
        have HO7 := hid hO7
        have HB7 := hid hB7
        have HK7 := hid hK7
        clear hO6 hB6 hK6 s0 s1 s2 hO7 hB7 hK7 q0 q1 q2 q3 q4 q5 p0 p1 p2 p3 p4 p5 fq0 fq1 fq2 fq3 fq4 fq5 fp0 fp1 fp2 fp3 fp4 fp5 z0 z1 z2 y0 y1 y2 yf0 yf1 yf2
        have t0 := HK7.out.cell 0
        have t1 := HK7.out.cell 1
        have t2 := HK7.out.cell 2
        have tf0 := HK7.out.frozen 0
        have tf1 := HK7.out.frozen 1
        have tf2 := HK7.out.frozen 2
        simp only [List.getElem?_toArray, List.getElem?_cons_zero, List.getElem?_cons_succ] at t0 t1 t2
        go_wp2_with fail
        have K0 := (((HK7.out.set_ 0 (.slice (some ⟨g, 0, none⟩) h.objs.length c2)).set_ 1 (.int .i64 h.cap)).set_ 2 (.int .i64 h.last))
        have r0 := K0.cell 0
        have r1 := K0.cell 1
        have r2 := K0.cell 2
        simp only [List.setIfInBounds_toArray, List.set_cons_zero, List.set_cons_succ, List.getElem?_toArray, List.getElem?_cons_zero, List.getElem?_cons_succ] at r0 r1 r2
        refine bodyPost_ret (v := .tuple #[.agg #[.slice (some ⟨g, 0, none⟩) h.objs.length c2, .int .i64 h.cap, .int .i64 h.last], .int .i64 0]) (by simp [results, Tryz.results140, go_sem, r0, r1, r2]) rfl ?_
        rw [EE.out, ER.out]
        refine ⟨some ⟨g, 0, none⟩, c2, (ls.set i m).set k l, by simp, ?_, ((((HO7.out).low (p := ⟨w.heap.size + 1, 0, none⟩) (by simp; omega) _).low (p := ⟨w.heap.size + 1, 1, none⟩) (by simp; omega) _).low (p := ⟨w.heap.size + 1, 2, none⟩) (by simp; omega) _).lower (by omega), (((HB7.out).setCell (p := ⟨w.heap.size + 1, 0, none⟩) (by simp) _).setCell (p := ⟨w.heap.size + 1, 1, none⟩) (by simp) _).setCell (p := ⟨w.heap.size + 1, 2, none⟩) (by simp) _⟩
        rw [swap_objs HLS.out, HVI.out, HUK.out]
        show _ = (h.objs.set (i : Int).toNat _).set (k : Int).toNat _
        simp only [Int.toNat_natCast]
        have e1 : m.o = obAt h u := obj_of HLS.out HMI.out HO2.out
        have e2 : l.o = obAt h v := obj_of HLS.out HLI.out HO1.out
        rw [e1, e2]
end Go.Proofs.YtkpfmbdkfgeboaaGreat
