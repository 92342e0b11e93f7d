/- Become: two objects change places. A new object of zeros: blank; whether there is room: noRoom. -/
import Derived.Test.YtnilempeldlieaaGreatJ08
import Derived.BigRegion
import Derived.Test.YtnilempeldlieaaGreatJ06
import Derived.Test.YtnilempeldlieaaGreatZ
import Derived.Lib.AppendZeros
import Derived.Lib.Repeat
namespace Go.Proofs.YtnilempeldlieaaGreat
open Go.RowKit
theorem obj_of {ls : List LO} {os : List Ob} {i : Nat} {l : LO} {o : Ob} (h : ls.map (·.o) = os) (hl : ls[i]? = some l) (ho : os[i]? = some o) : l.o = o := by
  rw [← h, List.getElem?_map, hl] at ho
  exact Option.some.inj ho
def beE (h : Hp) (v u : Int) : Int := if mayB h = false then 1 else if refB h.objs.length v = false ∨ refB h.objs.length u = false then 31 else 0
def beR (h : Hp) (v u : Int) : Hp := if mayB h = false then zeroH else if refB h.objs.length v = false ∨ refB h.objs.length u = false then h else { h with objs := (h.objs.set (atV v).toNat (obAt h u)).set (atV u).toNat (obAt h v) }
set_option maxRecDepth 100000 in
set_option maxHeartbeats 1600000 in
theorem become_any (h : Hp) (v u : Int) (A : Option Addr) (c : Nat) (w : World) (hs : ObsR w A h.objs) (fit : h.Fit) :
    Calls Tryz.prog 191 #[.agg #[.slice A h.objs.length c, .int .i64 h.cap, .int .i64 h.last], .int .i64 v, .int .i64 u] w (HeapOwn2 w (beR h v u) (beE h v u)) := by
  have HB0 := hid (below_alloc2 w (.cells #[Value.slice A h.objs.length c, Value.int .i64 h.cap, Value.int .i64 h.last] 24) (.cells #[.slice none 0 0, .int .i64 0, .int .i64 0] 24))
  have HX := hid ((BoxH.new w h A c).later (below_alloc _ (.cells #[.slice none 0 0, .int .i64 0, .int .i64 0] 24)))
  have K1 : Hid (Lies ((w.alloc (.cells #[Value.slice A h.objs.length c, Value.int .i64 h.cap, Value.int .i64 h.last] 24)).alloc (.cells #[.slice none 0 0, .int .i64 0, .int .i64 0] 24)) (w.heap.size + 1) 24 #[.slice none 0 0, .int .i64 0, .int .i64 0]) := by
    have := Lies.new (w.alloc (.cells #[Value.slice A h.objs.length c, Value.int .i64 h.cap, Value.int .i64 h.last] 24)) 24 #[.slice none 0 0, .int .i64 0, .int .i64 0]
    simpa [Hid] using this
  have HS := hid hs
  have HF := hid fit
  clear hs fit
  have HX0 := HX
  have HK0 := K1
  cases hm : mayB h
  next =>
   have EE : Hid (beE h v u = 1) := by show _ = _; unfold beE; rw [if_pos hm]
   have ER : Hid (beR h v u = zeroH) := by show _ = _; unfold beR; rw [if_pos hm]
   have HM := hid hm
   clear hm
   go_enter Tryz.func191, Tryz.ntmps191
   go_wp2_with fail
   refine (may_any h A c _ (HS.out.below HB0.out) HF.out).mono ?_
   rintro e w1 ⟨rfl, hb⟩
   rw [HM.out]
   have HB1 := hid (HB0.out.trans (hb.mono HB0.out.size))
   have HX1 := hid (HX0.out.later hb)
   have HK1 := hid (HK0.out.later hb)
   clear hb
   obtain ⟨x0, x1, x2⟩ := HX1.out
   have hlta := HK1.out.lt
   obtain ⟨u0, u1, u2⟩ := HK1.out.c3
   obtain ⟨uf0, uf1, uf2⟩ := HK1.out.f3
   go_wp2_with fail
   have K0 := (((HK1.out.set_ 0 (.slice none 0 0)).set_ 1 (.int .i64 0)).set_ 2 (.int .i64 0))
   have r0 := K0.cell 0
   have r1 := K0.cell 1
   have r2 := K0.cell 2
   simp only [List.setIfInBounds_toArray, List.set_cons_zero, List.set_cons_succ, List.getElem?_toArray, List.getElem?_cons_zero, List.getElem?_cons_succ] at r0 r1 r2
   refine bodyPost_ret (v := .tuple #[.agg #[.slice none 0 0, .int .i64 0, .int .i64 0], .int .i64 1]) (by simp [results, Tryz.results191, go_sem, r0, r1, r2]) rfl ?_
   rw [EE.out, ER.out]
   refine ⟨none, 0, [], rfl, rfl, OwnH.nil _ _, ?_⟩
   exact (((HB1.out).setCell (p := ⟨w.heap.size + 1, 0, none⟩) (by simp) _).setCell (p := ⟨w.heap.size + 1, 1, none⟩) (by simp) _).setCell (p := ⟨w.heap.size + 1, 2, none⟩) (by simp) _
  next =>
   have HM := hid hm
   by_cases hr : refB h.objs.length v = false ∨ refB h.objs.length u = false
   next =>
    have EE : Hid (beE h v u = 31) := by show _ = _; unfold beE; rw [if_neg (by rw [hm]; decide), if_pos hr]
    have ER : Hid (beR h v u = h) := by show _ = _; unfold beR; rw [if_neg (by rw [hm]; decide), if_pos hr]
    have HR := hid hr
    clear hm hr
    go_enter Tryz.func191, Tryz.ntmps191
    go_wp2_with fail
    refine (may_any h A c _ (HS.out.below HB0.out) HF.out).mono ?_
    rintro e w1 ⟨rfl, hb⟩
    rw [HM.out]
    have HB1 := hid (HB0.out.trans (hb.mono HB0.out.size))
    have HX1 := hid (HX0.out.later hb)
    have HK1 := hid (HK0.out.later hb)
    clear hb
    obtain ⟨x0, x1, x2⟩ := HX1.out
    go_wp2_with fail
    refine (clone_h h A c _ (HS.out.below HB1.out) HM.out).mono ?_
    rintro e w2 ⟨A2, c2, ls, rfl, hls, hown, hb2⟩
    have HA := hid (below_alloc w2 (.cells #[Value.slice A2 h.objs.length c2, Value.int .i64 h.cap, Value.int .i64 h.last] 24))
    have HB2 := hid ((HB1.out.trans (hb2.mono HB1.out.size)).trans (HA.out.mono (Nat.le_trans HB1.out.size hb2.size)))
    have HK2 := hid ((HK1.out.later hb2).later HA.out)
    have HX2 := hid ((HX1.out.later hb2).later HA.out)
    have HT2 := hid (BoxH.new w2 h A2 c2)
    have HOW := hid (hown.later HA.out)
    have HLS := hid hls
    have hw1 : w.heap.size + 2 ≤ w1.heap.size := by have := HK1.out.lt; omega
    have hw2 : w1.heap.size ≤ w2.heap.size := hb2.size
    clear hown hls hb2 x0 x1 x2
    obtain ⟨x0, x1, x2⟩ := HX2.out
    go_wp2_with fail
    refine (find_any h v A c _).mono ?_
    rintro e w3 ⟨rfl, hb⟩
    have HB3 := hid (HB2.out.trans (hb.mono HB2.out.size))
    have HX3 := hid (HX2.out.later hb)
    have HK3 := hid (HK2.out.later hb)
    have HT3 := hid (HT2.out.later hb)
    have HO3 := hid (HOW.out.later hb)
    have hw3 : w2.heap.size < w3.heap.size := by have := hb.size; simp at this; omega
    clear hb x0 x1 x2
    obtain ⟨x0, x1, x2⟩ := HX3.out
    go_wp2_with fail
    refine (find_any h u A c _).mono ?_
    rintro e w4 ⟨rfl, hb⟩
    have HB4 := hid (HB3.out.trans (hb.mono HB3.out.size))
    have HK4 := hid (HK3.out.later hb)
    have HT4 := hid (HT3.out.later hb)
    have HO4 := hid (HO3.out.later hb)
    have hw4 : w3.heap.size ≤ w4.heap.size := hb.size
    clear hb x0 x1 x2
    obtain ⟨z0, z1, z2⟩ := HT4.out
    have hlt4 := HK4.out.lt
    obtain ⟨y0, y1, y2⟩ := HK4.out.c3
    obtain ⟨yf0, yf1, yf2⟩ := HK4.out.f3
    rcases HR.out with hr | hr
    all_goals
      have HRR := hid hr
      clear hr
      cases hr1 : refB h.objs.length v <;> cases hr2 : refB h.objs.length u
      all_goals first
        | (exfalso; have := HRR.out; simp_all; done)
        | skip
      all_goals
        go_wp2_with fail
        have K0 := (((HK4.out.set_ 0 (.slice A2 h.objs.length c2)).set_ 1 (.int .i64 h.cap)).set_ 2 (.int .i64 h.last))
        have r0 := K0.cell 0
        have r1 := K0.cell 1
        have r2 := K0.cell 2
        simp only [List.setIfInBounds_toArray, List.set_cons_zero, List.set_cons_succ, List.getElem?_toArray, List.getElem?_cons_zero, List.getElem?_cons_succ] at r0 r1 r2
        refine bodyPost_ret (v := .tuple #[.agg #[.slice A2 h.objs.length c2, .int .i64 h.cap, .int .i64 h.last], .int .i64 31]) (by simp [results, Tryz.results191, go_sem, r0, r1, r2]) rfl ?_
        rw [EE.out, ER.out]
        refine ⟨A2, c2, ls, rfl, HLS.out, ((((HO4.out).low (p := ⟨w.heap.size + 1, 0, none⟩) (by simp; omega) _).low (p := ⟨w.heap.size + 1, 1, none⟩) (by simp; omega) _).low (p := ⟨w.heap.size + 1, 2, none⟩) (by simp; omega) _).lower (by omega), (((HB4.out).setCell (p := ⟨w.heap.size + 1, 0, none⟩) (by simp) _).setCell (p := ⟨w.heap.size + 1, 1, none⟩) (by simp) _).setCell (p := ⟨w.heap.size + 1, 2, none⟩) (by simp) _⟩
   next =>
    have hr1 : refB h.objs.length v = true := by cases e : refB h.objs.length v <;> simp_all
    have hr2 : refB h.objs.length u = true := by cases e : refB h.objs.length u <;> simp_all
    have EE : Hid (beE h v u = 0) := by show _ = _; unfold beE; rw [if_neg (by rw [hm]; decide), if_neg hr]
    have ER : Hid (beR h v u = { h with objs := (h.objs.set (atV v).toNat (obAt h u)).set (atV u).toNat (obAt h v) }) := by show _ = _; unfold beR; rw [if_neg (by rw [hm]; decide), if_neg hr]
    obtain ⟨i, hi, hvi, ho⟩ := obAt_get hr1
    obtain ⟨k, hk, huk, ho2⟩ := obAt_get hr2
    have hv1 : refV h.objs.length v = (i : Int) := by unfold refV; rw [if_pos hr1, hvi]
    have hv2 : refV h.objs.length u = (k : Int) := by unfold refV; rw [if_pos hr2, huk]
    have HVI := hid hvi
    have HUK := hid huk
    have HO1 := hid ho
    have HO2 := hid ho2
    clear hm hr hvi huk ho ho2
    go_enter Tryz.func191, Tryz.ntmps191
    go_wp2_with fail
    refine (may_any h A c _ (HS.out.below HB0.out) HF.out).mono ?_
    rintro e w1 ⟨rfl, hb⟩
    rw [HM.out]
    have HB1 := hid (HB0.out.trans (hb.mono HB0.out.size))
    have HX1 := hid (HX0.out.later hb)
    have HK1 := hid (HK0.out.later hb)
    clear hb
    obtain ⟨x0, x1, x2⟩ := HX1.out
    go_wp2_with fail
    refine (clone_h h A c _ (HS.out.below HB1.out) HM.out).mono ?_
    rintro e w2 ⟨A2, c2, ls, rfl, hls, hown, hb2⟩
    have HA := hid (below_alloc w2 (.cells #[Value.slice A2 h.objs.length c2, Value.int .i64 h.cap, Value.int .i64 h.last] 24))
    have HB2 := hid ((HB1.out.trans (hb2.mono HB1.out.size)).trans (HA.out.mono (Nat.le_trans HB1.out.size hb2.size)))
    have HK2 := hid ((HK1.out.later hb2).later HA.out)
    have HX2 := hid ((HX1.out.later hb2).later HA.out)
    have HT2 := hid (BoxH.new w2 h A2 c2)
    have HOW := hid (hown.later HA.out)
    have HLS := hid hls
    have hw1 : w.heap.size + 2 ≤ w1.heap.size := by have := HK1.out.lt; omega
    have hw2 : w1.heap.size ≤ w2.heap.size := hb2.size
    clear hown hls hb2 x0 x1 x2
    obtain ⟨x0, x1, x2⟩ := HX2.out
    go_wp2_with fail
    refine (find_any h v A c _).mono ?_
    rintro e w3 ⟨rfl, hb⟩
    have HB3 := hid (HB2.out.trans (hb.mono HB2.out.size))
    have HX3 := hid (HX2.out.later hb)
    have HK3 := hid (HK2.out.later hb)
    have HT3 := hid (HT2.out.later hb)
    have HO3 := hid (HOW.out.later hb)
    have hw3 : w2.heap.size < w3.heap.size := by have := hb.size; simp at this; omega
    clear hb x0 x1 x2
    obtain ⟨x0, x1, x2⟩ := HX3.out
    go_wp2_with fail
    refine (find_any h u A c _).mono ?_
    rintro e w4 ⟨rfl, hb⟩
    have HB4 := hid (HB3.out.trans (hb.mono HB3.out.size))
    have HK4 := hid (HK3.out.later hb)
    have HT4 := hid (HT3.out.later hb)
    have HO4 := hid (HO3.out.later hb)
    have hw4 : w3.heap.size ≤ w4.heap.size := hb.size
    clear hb x0 x1 x2
    obtain ⟨z0, z1, z2⟩ := HT4.out
    have hlt4 := HK4.out.lt
    obtain ⟨y0, y1, y2⟩ := HK4.out.c3
    obtain ⟨yf0, yf1, yf2⟩ := HK4.out.f3
    have hll : ls.length = h.objs.length := by have := congrArg List.length HLS.out; simpa using this
    obtain ⟨g, cg, hvv, hg0, hg1⟩ := HO4.out.row.form (by omega)
    simp only [Value.slice.injEq, true_and] at hvv
    obtain ⟨rfl, rfl⟩ := hvv
    have hin : i < ls.length := by omega
    have hkn : k < ls.length := by omega
    obtain ⟨l, hl⟩ : ∃ l, ls[i]? = some l := ⟨_, List.getElem?_eq_getElem hin⟩
    obtain ⟨m, hm⟩ : ∃ m, ls[k]? = some m := ⟨_, List.getElem?_eq_getElem hkn⟩
    have q := fun j (hj : j < 6) => (HO4.out.row.cellAt (i * 6 + j) (by omega)).trans (rowOf_get ls i j l hl hj)
    have p := fun j (hj : j < 6) => (HO4.out.row.cellAt (k * 6 + j) (by omega)).trans (rowOf_get ls k j m hm hj)
    have fz := HO4.out.row.frozenAt
    have q0 := q 0 (by omega)
    have p0 := p 0 (by omega)
    have fq0 := fz (i * 6 + 0)
    have fp0 := fz (k * 6 + 0)
    have q1 := q 1 (by omega)
    have p1 := p 1 (by omega)
    have fq1 := fz (i * 6 + 1)
    have fp1 := fz (k * 6 + 1)
    have q2 := q 2 (by omega)
    have p2 := p 2 (by omega)
    have fq2 := fz (i * 6 + 2)
    have fp2 := fz (k * 6 + 2)
    have q3 := q 3 (by omega)
    have p3 := p 3 (by omega)
    have fq3 := fz (i * 6 + 3)
    have fp3 := fz (k * 6 + 3)
    have q4 := q 4 (by omega)
    have p4 := p 4 (by omega)
    have fq4 := fz (i * 6 + 4)
    have fp4 := fz (k * 6 + 4)
    have q5 := q 5 (by omega)
    have p5 := p 5 (by omega)
    have fq5 := fz (i * 6 + 5)
    have fp5 := fz (k * 6 + 5)
    simp only [LO.cells, List.getElem?_cons_zero, List.getElem?_cons_succ, Nat.add_zero] at q0 q1 q2 q3 q4 q5 p0 p1 p2 p3 p4 p5 fq0 fp0
    have hil : (i : Int) < (h.objs.length : Int) := by omega
    have hkl : (k : Int) < (h.objs.length : Int) := by omega
    have HLI := hid hl
    have HMI := hid hm
    have HFZ := hid fz
    have hgb : g ≠ w2.heap.size := by
      have := (HOW.out.row.lt g rfl).2
      obtain ⟨cur, hB, _, _, _⟩ := own_blk HOW.out.row
      intro e
      subst e
      have hb2 := Lies.new w2 24 #[Value.slice (some ⟨w2.heap.size, 0, none⟩) h.objs.length c2, Value.int .i64 h.cap, Value.int .i64 h.last]
      unfold Lies at hB hb2
      rw [hb2] at hB
      injection hB with hB
      injection hB with _ ht
      exact absurd ht (by decide)
    have hgw : w.heap.size + 1 < g := by omega
    clear q p fz hl hm
    by_cases hik : i = k
    next =>
     subst hik
     obtain rfl : m = l := by have := HLI.out; have h2 := HMI.out; rw [this] at h2; exact (Option.some.inj h2).symm
     clear p0 p1 p2 p3 p4 p5 fp0 fp1 fp2 fp3 fp4 fp5
     go_wp2_with fail
     go_region
     have hO6 := HO4.out.swap HLI.out HMI.out
     have hB6 : Below w.heap.size w (set6 (set6 w4 g i m) g i m) := below_set6 (i := i) (below_set6 (i := i) HB4.out (by omega) m) (by omega) m
     have hK5 := blk_set6 (i := i) HK4.out (show w.heap.size + 1 ≠ g by omega) m
     have hK6 := blk_set6 (i := i) hK5 (show w.heap.size + 1 ≠ g by omega) m
     clear hK5
     have s0 := cell_set6 (i := i) (cell_set6 (i := i) z0 hgb.symm m) hgb.symm m
     have s1 := cell_set6 (i := i) (cell_set6 (i := i) z1 hgb.symm m) hgb.symm m
     have s2 := cell_set6 (i := i) (cell_set6 (i := i) z2 hgb.symm m) hgb.symm m
     obtain ⟨W6, hW6⟩ : ∃ W : World, W = (World.drew (World.setCell (World.setCell (World.setCell (World.setCell (World.setCell (World.setCell (World.setCell (World.setCell (World.setCell (World.setCell (World.setCell (World.setCell w4 ⟨g, i * 6, none⟩ (.int .i64 m.o.cls)) ⟨g, i * 6 + 1, none⟩ (.int .i64 m.o.kind)) ⟨g, i * 6 + 2, none⟩ (.slice m.S m.o.slots.length m.c)) ⟨g, i * 6 + 3, none⟩ (.string m.o.text)) ⟨g, i * 6 + 4, none⟩ (.int .i64 m.o.bits)) ⟨g, i * 6 + 5, none⟩ (.int .i64 m.o.hash)) ⟨g, i * 6, none⟩ (.int .i64 m.o.cls)) ⟨g, i * 6 + 1, none⟩ (.int .i64 m.o.kind)) ⟨g, i * 6 + 2, none⟩ (.slice m.S m.o.slots.length m.c)) ⟨g, i * 6 + 3, none⟩ (.string m.o.text)) ⟨g, i * 6 + 4, none⟩ (.int .i64 m.o.bits)) ⟨g, i * 6 + 5, none⟩ (.int .i64 m.o.hash))) := ⟨_, rfl⟩
     rw [← hW6]
     have hW7 : W6 = (set6 (set6 w4 g i m) g i m).drew := hW6
     clear hW6
     have hO7 := hO6.later (Below.refl _ _).drew
     have hB7 := hB6.drew
     have hK7 := hK6.drew
     have s0' : W6.cell? ⟨w2.heap.size, 0, none⟩ = some (.slice (some ⟨g, 0, none⟩) h.objs.length c2) := by rw [hW7]; exact cell_later (Below.refl _ _).drew s0
     have s1' : W6.cell? ⟨w2.heap.size, 1, none⟩ = some (.int .i64 h.cap) := by rw [hW7]; exact cell_later (Below.refl _ _).drew s1
     have s2' : W6.cell? ⟨w2.heap.size, 2, none⟩ = some (.int .i64 h.last) := by rw [hW7]; exact cell_later (Below.refl _ _).drew s2
     rw [← hW7] at hO7 hB7
     replace hK7 : Lies W6 (w.heap.size + 1) 24 #[.slice none 0 0, .int .i64 0, .int .i64 0] := by rw [hW7]; exact hK7
     clear hW7
     have HO7 := hid hO7
     have HB7 := hid hB7
     have HK7 := hid hK7
     clear hO6 hB6 hK6 s0 s1 s2 hO7 hB7 hK7 q0 q1 q2 q3 q4 q5 fq0 fq1 fq2 fq3 fq4 fq5 z0 z1 z2 y0 y1 y2 yf0 yf1 yf2
     obtain ⟨t0, t1, t2⟩ := HK7.out.c3
     obtain ⟨tf0, tf1, tf2⟩ := HK7.out.f3
     go_wp2_with fail
     have K0 := (((HK7.out.set_ 0 (.slice (some ⟨g, 0, none⟩) h.objs.length c2)).set_ 1 (.int .i64 h.cap)).set_ 2 (.int .i64 h.last))
     have r0 := K0.cell 0
     have r1 := K0.cell 1
     have r2 := K0.cell 2
     simp only [List.setIfInBounds_toArray, List.set_cons_zero, List.set_cons_succ, List.getElem?_toArray, List.getElem?_cons_zero, List.getElem?_cons_succ] at r0 r1 r2
     refine bodyPost_ret (v := .tuple #[.agg #[.slice (some ⟨g, 0, none⟩) h.objs.length c2, .int .i64 h.cap, .int .i64 h.last], .int .i64 0]) (by simp [results, Tryz.results191, go_sem, r0, r1, r2]) rfl ?_
     rw [EE.out, ER.out]
     refine ⟨some ⟨g, 0, none⟩, c2, (ls.set i m).set i m, by simp, ?_, ((((HO7.out).low (p := ⟨w.heap.size + 1, 0, none⟩) (by simp; omega) _).low (p := ⟨w.heap.size + 1, 1, none⟩) (by simp; omega) _).low (p := ⟨w.heap.size + 1, 2, none⟩) (by simp; omega) _).lower (by omega), (((HB7.out).setCell (p := ⟨w.heap.size + 1, 0, none⟩) (by simp) _).setCell (p := ⟨w.heap.size + 1, 1, none⟩) (by simp) _).setCell (p := ⟨w.heap.size + 1, 2, none⟩) (by simp) _⟩
     rw [swap_objs HLS.out, HVI.out, HUK.out]
     show _ = (h.objs.set (i : Int).toNat _).set (i : Int).toNat _
     simp only [Int.toNat_natCast]
     have e1 : m.o = obAt h u := obj_of HLS.out HMI.out HO2.out
     have e2 : m.o = obAt h v := obj_of HLS.out HLI.out HO1.out
     rw [show obAt h u = obAt h v by rw [← e1, e2], e2]
    next =>
     go_wp2_with fail
     go_region
     have hO6 := HO4.out.swap HLI.out HMI.out
     have hB6 : Below w.heap.size w (set6 (set6 w4 g i m) g k l) := below_set6 (i := k) (below_set6 (i := i) HB4.out (by omega) m) (by omega) l
     have hK5 := blk_set6 (i := i) HK4.out (show w.heap.size + 1 ≠ g by omega) m
     have hK6 := blk_set6 (i := k) hK5 (show w.heap.size + 1 ≠ g by omega) l
     clear hK5
     have s0 := cell_set6 (i := k) (cell_set6 (i := i) z0 hgb.symm m) hgb.symm l
     have s1 := cell_set6 (i := k) (cell_set6 (i := i) z1 hgb.symm m) hgb.symm l
     have s2 := cell_set6 (i := k) (cell_set6 (i := i) z2 hgb.symm m) hgb.symm l
     obtain ⟨W6, hW6⟩ : ∃ W : World, W = (World.drew (World.setCell (World.setCell (World.setCell (World.setCell (World.setCell (World.setCell (World.setCell (World.setCell (World.setCell (World.setCell (World.setCell (World.setCell w4 ⟨g, i * 6, none⟩ (.int .i64 m.o.cls)) ⟨g, i * 6 + 1, none⟩ (.int .i64 m.o.kind)) ⟨g, i * 6 + 2, none⟩ (.slice m.S m.o.slots.length m.c)) ⟨g, i * 6 + 3, none⟩ (.string m.o.text)) ⟨g, i * 6 + 4, none⟩ (.int .i64 m.o.bits)) ⟨g, i * 6 + 5, none⟩ (.int .i64 m.o.hash)) ⟨g, k * 6, none⟩ (.int .i64 l.o.cls)) ⟨g, k * 6 + 1, none⟩ (.int .i64 l.o.kind)) ⟨g, k * 6 + 2, none⟩ (.slice l.S l.o.slots.length l.c)) ⟨g, k * 6 + 3, none⟩ (.string l.o.text)) ⟨g, k * 6 + 4, none⟩ (.int .i64 l.o.bits)) ⟨g, k * 6 + 5, none⟩ (.int .i64 l.o.hash))) := ⟨_, rfl⟩
     rw [← hW6]
     have hW7 : W6 = (set6 (set6 w4 g i m) g k l).drew := hW6
     clear hW6
     have hO7 := hO6.later (Below.refl _ _).drew
     have hB7 := hB6.drew
     have hK7 := hK6.drew
     have s0' : W6.cell? ⟨w2.heap.size, 0, none⟩ = some (.slice (some ⟨g, 0, none⟩) h.objs.length c2) := by rw [hW7]; exact cell_later (Below.refl _ _).drew s0
     have s1' : W6.cell? ⟨w2.heap.size, 1, none⟩ = some (.int .i64 h.cap) := by rw [hW7]; exact cell_later (Below.refl _ _).drew s1
     have s2' : W6.cell? ⟨w2.heap.size, 2, none⟩ = some (.int .i64 h.last) := by rw [hW7]; exact cell_later (Below.refl _ _).drew s2
     rw [← hW7] at hO7 hB7
     replace hK7 : Lies W6 (w.heap.size + 1) 24 #[.slice none 0 0, .int .i64 0, .int .i64 0] := by rw [hW7]; exact hK7
     clear hW7
     have HO7 := hid hO7
     have HB7 := hid hB7
     have HK7 := hid hK7
     clear hO6 hB6 hK6 s0 s1 s2 hO7 hB7 hK7 q0 q1 q2 q3 q4 q5 p0 p1 p2 p3 p4 p5 fq0 fq1 fq2 fq3 fq4 fq5 fp0 fp1 fp2 fp3 fp4 fp5 z0 z1 z2 y0 y1 y2 yf0 yf1 yf2
     obtain ⟨t0, t1, t2⟩ := HK7.out.c3
     obtain ⟨tf0, tf1, tf2⟩ := HK7.out.f3
     go_wp2_with fail
     have K0 := (((HK7.out.set_ 0 (.slice (some ⟨g, 0, none⟩) h.objs.length c2)).set_ 1 (.int .i64 h.cap)).set_ 2 (.int .i64 h.last))
     have r0 := K0.cell 0
     have r1 := K0.cell 1
     have r2 := K0.cell 2
     simp only [List.setIfInBounds_toArray, List.set_cons_zero, List.set_cons_succ, List.getElem?_toArray, List.getElem?_cons_zero, List.getElem?_cons_succ] at r0 r1 r2
     refine bodyPost_ret (v := .tuple #[.agg #[.slice (some ⟨g, 0, none⟩) h.objs.length c2, .int .i64 h.cap, .int .i64 h.last], .int .i64 0]) (by simp [results, Tryz.results191, go_sem, r0, r1, r2]) rfl ?_
     rw [EE.out, ER.out]
     refine ⟨some ⟨g, 0, none⟩, c2, (ls.set i m).set k l, by simp, ?_, ((((HO7.out).low (p := ⟨w.heap.size + 1, 0, none⟩) (by simp; omega) _).low (p := ⟨w.heap.size + 1, 1, none⟩) (by simp; omega) _).low (p := ⟨w.heap.size + 1, 2, none⟩) (by simp; omega) _).lower (by omega), (((HB7.out).setCell (p := ⟨w.heap.size + 1, 0, none⟩) (by simp) _).setCell (p := ⟨w.heap.size + 1, 1, none⟩) (by simp) _).setCell (p := ⟨w.heap.size + 1, 2, none⟩) (by simp) _⟩
     rw [swap_objs HLS.out, HVI.out, HUK.out]
     show _ = (h.objs.set (i : Int).toNat _).set (k : Int).toNat _
     simp only [Int.toNat_natCast]
     have e1 : m.o = obAt h u := obj_of HLS.out HMI.out HO2.out
     have e2 : l.o = obAt h v := obj_of HLS.out HLI.out HO1.out
     rw [e1, e2]
end Go.Proofs.YtnilempeldlieaaGreat
namespace Go.Proofs.YtnilempeldlieaaGreat
open Go.RowKit
def zeroT (n : Nat) : ByteArray := ⟨(Lib.repeatL [0] n).toArray⟩
def blankO (kind : Int) (n : Nat) : Ob := ⟨0, kind, if kind = 0 then List.replicate n 0 else [], if kind = 1 then zeroT n else ⟨#[]⟩, 0, 0⟩
def ObjOwn (w : World) (o : Ob) (e : Ending) (w' : World) : Prop := ∃ S c, e = .returned (.agg #[.int .i64 o.cls, .int .i64 o.kind, .slice S o.slots.length c, .string o.text, .int .i64 o.bits, .int .i64 o.hash]) ∧ w'.ownsRow w.heap.size 3 1 (.slice S o.slots.length c) o.slots.length (o.slots.map (Value.int .i64)) ∧ Below w.heap.size w w'
theorem zeroT_size (n : Nat) : (zeroT n).size = n := by
  unfold zeroT
  show (Lib.repeatL [0] n).toArray.size = n
  rw [List.size_toArray]
  induction n with
  | zero => simp [Lib.repeatL]
  | succ n ih =>
    simp [Lib.repeatL] at ih ⊢
    exact ih
theorem repeat_zero : zeroT 0 = ⟨#[]⟩ := by simp [zeroT, Lib.repeatL]
set_option maxRecDepth 100000 in
set_option maxHeartbeats 2000000 in
theorem blank_two (w : World) : Calls Tryz.prog 235 #[.int .i64 2, .int .i64 0] w (ObjOwn w (blankO 2 0)) := by
  have HB0 := hid (below_alloc2 w (.cells #[.int .i64 0, .int .i64 2, .slice none 0 0, .string ⟨#[]⟩, .int .i64 0, .int .i64 0] 41) (.cells #[.int .i64 0, .int .i64 2, .slice none 0 0, .string ⟨#[]⟩, .int .i64 0, .int .i64 0] 41))
  go_enter Tryz.func235, Tryz.ntmps235
  go_wp2
  refine bodyPost_ret (v := .agg #[.int .i64 0, .int .i64 2, .slice none 0 0, .string ⟨#[]⟩, .int .i64 0, .int .i64 0]) (by simp [results, Tryz.results235, go_sem]) rfl ?_
  exact ⟨none, 0, rfl, World.ownsRow_nil _ _ _ _, HB0.out⟩
theorem run_append_zero {P : Program} (w : World) (t tn ty e : TypeId) (i : TypeInfo) (kn : IntKind) (ht : P.underlying t = some (.slice e)) (htn : P.underlying tn = some (.int kn)) (hi : P.info? e = some i) :
    (Builtin.append_ #[t, tn] ty #[.slice none 0 0, .int .i64 0]).run P w = .ok (.slice none 0 0) w := by
  simp [Builtin.append_, run_underlying ht, run_underlying htn, sizeOf, typeInfo, hi, Builtin.lenOf, asInt, asIntOf, IntKind.wrap_i64]
theorem zeroCells_one (v : Value) (n : Nat) : (Builtin.zeroCells #[v] n).toList = List.replicate n v := by
  unfold Builtin.zeroCells
  have h : (fun i => (#[v] : Array Value)[i % (#[v] : Array Value).size]!) = fun _ => v := by
    funext i
    have : i % (#[v] : Array Value).size = 0 := Nat.mod_one i
    rw [this]; rfl
  rw [h]
  apply List.ext_getElem?
  intro j
  simp [List.getElem?_replicate]
  by_cases e : j < n <;> simp [e]
theorem run_zeros (w : World) (n : Nat) (hn : n ≤ 64) : ∃ A c w', (Builtin.append_ #[34, 3] 34 #[.slice none 0 0, .int .i64 n]).run Tryz.prog w = .ok (.slice A n c) w' ∧ w'.ownsRow w.heap.size 3 1 (.slice A n c) n ((List.replicate n (0 : Int)).map (Value.int .i64)) ∧ Below w.heap.size w w' := by
  obtain ⟨i0, hi, hz0, hz1, hz2⟩ := info_parts int_info
  by_cases h0 : n = 0
  · subst h0
    exact ⟨none, 0, w, run_append_zero (P := Tryz.prog) w 34 3 34 3 i0 .i64 Tryz.underlying34 Tryz.underlying3 hi, World.ownsRow_nil _ _ _ _, Below.refl _ _⟩
  · refine ⟨_, _, _, Lib.run_append_nil_zeros (P := Tryz.prog) w 34 3 34 3 i0 (.int .i64 0) .i64 .i64 Tryz.underlying34 Tryz.underlying3 hi hz0 n (by omega) (by omega) (by omega) (by rw [hz2]; omega), ⟨by simp, .inr ⟨w.heap.size, _, _, rfl, Nat.le_refl _, heap_alloc_new w.drew _, grownCap_ge w n 0 3, grownCap_le_maxLen w n 0 3 (by unfold maxLen; omega), ?_, ?_⟩⟩, ?_⟩
    · have := grownCap_ge w n 0 3
      simp only [Array.size_append, size_zeroCells]
      show n * 1 + (grownCap w n 0 3 - n) * 1 = grownCap w n 0 3 * 1
      omega
    · show List.take (n * 1) (Builtin.zeroCells #[Value.int .i64 0] n ++ Builtin.zeroCells #[Value.int .i64 0] _).toList = _
      rw [Array.toList_append, zeroCells_one, Nat.mul_one, List.take_left' (by simp), List.map_replicate]
    · exact (Below.refl _ _).drew.trans ((Below.refl _ w.drew).alloc (Nat.le_refl _) _)
set_option maxRecDepth 100000 in
set_option maxHeartbeats 2000000 in
theorem blank_zero (n : Nat) (hn : n ≤ 64) (w : World) : Calls Tryz.prog 235 #[.int .i64 0, .int .i64 n] w (ObjOwn w (blankO 0 n)) := by
  have HB0 := hid (below_alloc2 w (.cells #[.int .i64 0, .int .i64 0, .slice none 0 0, .string ⟨#[]⟩, .int .i64 0, .int .i64 0] 41) (.cells #[.int .i64 0, .int .i64 0, .slice none 0 0, .string ⟨#[]⟩, .int .i64 0, .int .i64 0] 41))
  have HK := hid ((Lies.new w 41 #[.int .i64 0, .int .i64 0, .slice none 0 0, .string ⟨#[]⟩, .int .i64 0, .int .i64 0]).alloc (.cells #[.int .i64 0, .int .i64 0, .slice none 0 0, .string ⟨#[]⟩, .int .i64 0, .int .i64 0] 41))
  have HL := hid (Lies.new (w.alloc (.cells #[.int .i64 0, .int .i64 0, .slice none 0 0, .string ⟨#[]⟩, .int .i64 0, .int .i64 0] 41)) 41 #[.int .i64 0, .int .i64 0, .slice none 0 0, .string ⟨#[]⟩, .int .i64 0, .int .i64 0])
  obtain ⟨A, c, w1, hr, hown, hb⟩ := run_zeros ((w.alloc (.cells #[.int .i64 0, .int .i64 0, .slice none 0 0, .string ⟨#[]⟩, .int .i64 0, .int .i64 0] 41)).alloc (.cells #[.int .i64 0, .int .i64 0, .slice none 0 0, .string ⟨#[]⟩, .int .i64 0, .int .i64 0] 41)) n hn
  have HR := hid hr
  have HO := hid hown
  have HB := hid hb
  have k0 := HK.out.later hb
  have k1 := HL.out.later hb
  rw [show (w.alloc (.cells #[.int .i64 0, .int .i64 0, .slice none 0 0, .string ⟨#[]⟩, .int .i64 0, .int .i64 0] 41)).heap.size = w.heap.size + 1 by simp] at k1
  have a0 := k0.cell 0
  have a1 := k0.cell 1
  have a2 := k0.cell 2
  have a3 := k0.cell 3
  have a4 := k0.cell 4
  have a5 := k0.cell 5
  have af0 := k0.frozen 0
  have af1 := k0.frozen 1
  have af2 := k0.frozen 2
  have af3 := k0.frozen 3
  have af4 := k0.frozen 4
  have af5 := k0.frozen 5
  have b0 := k1.cell 0
  have b1 := k1.cell 1
  have b2 := k1.cell 2
  have b3 := k1.cell 3
  have b4 := k1.cell 4
  have b5 := k1.cell 5
  have bf2 := k1.frozen 2
  simp only [List.getElem?_toArray, List.getElem?_cons_zero, List.getElem?_cons_succ] at a0 a1 a2 a3 a4 a5 b0 b1 b2 b3 b4 b5
  have K0 := hid k0
  have K1 := hid k1
  clear hr hown hb k0 k1
  go_enter Tryz.func235, Tryz.ntmps235
  go_wp2_with (at_builtin; refine Lib.wpList_append_run _ rfl (.tmp 12) (.tmp 13) 34 3 rfl (.slice none 0 0) (.int .i64 n) rfl rfl _ _ HR.out ?_)
  have X0 : Lies (w1.setCell ⟨w.heap.size + 1, 2, none⟩ (.slice A n c)) w.heap.size 41 #[.int .i64 0, .int .i64 0, .slice none 0 0, .string ⟨#[]⟩, .int .i64 0, .int .i64 0] := K0.out.far (by simp) _
  have X1 := (((((X0.set_ 0 (.int .i64 0)).set_ 1 (.int .i64 0)).set_ 2 (.slice A n c)).set_ 3 (.string ⟨#[]⟩)).set_ 4 (.int .i64 0)).set_ 5 (.int .i64 0)
  have r0 := X1.cell 0
  have r1 := X1.cell 1
  have r2 := X1.cell 2
  have r3 := X1.cell 3
  have r4 := X1.cell 4
  have r5 := X1.cell 5
  simp only [List.setIfInBounds_toArray, List.set_cons_zero, List.set_cons_succ, List.getElem?_toArray, List.getElem?_cons_zero, List.getElem?_cons_succ] at r0 r1 r2 r3 r4 r5
  refine bodyPost_ret (v := .agg #[.int .i64 0, .int .i64 0, .slice A n c, .string ⟨#[]⟩, .int .i64 0, .int .i64 0]) (by simp [results, Tryz.results235, go_sem, r0, r1, r2, r3, r4, r5]) rfl ?_
  have hO := HO.out
  have hz : ((w.alloc (.cells #[.int .i64 0, .int .i64 0, .slice none 0 0, .string ⟨#[]⟩, .int .i64 0, .int .i64 0] 41)).alloc (.cells #[.int .i64 0, .int .i64 0, .slice none 0 0, .string ⟨#[]⟩, .int .i64 0, .int .i64 0] 41)).heap.size = w.heap.size + 2 := by simp
  rw [hz] at hO
  refine ⟨A, c, by simp [blankO], ?_, ?_⟩
  · have e1 : (blankO 0 n).slots = List.replicate n 0 := by simp [blankO]
    rw [e1, List.length_replicate]
    refine own_lower (base := w.heap.size + 2) ?_ (by omega)
    exact ownsRow_setCell_below (ownsRow_setCell_below (ownsRow_setCell_below (ownsRow_setCell_below (ownsRow_setCell_below (ownsRow_setCell_below (ownsRow_setCell_below hO (by simp) _) (by simp) _) (by simp) _) (by simp) _) (by simp) _) (by simp) _) (by simp) _
  · have hB := HB0.out.trans (HB.out.mono (by simp; omega))
    exact ((((((hB.setCell (p := ⟨w.heap.size + 1, 2, none⟩) (by simp) _).setCell (p := ⟨w.heap.size, 0, none⟩) (by simp) _).setCell (p := ⟨w.heap.size, 1, none⟩) (by simp) _).setCell (p := ⟨w.heap.size, 2, none⟩) (by simp) _).setCell (p := ⟨w.heap.size, 3, none⟩) (by simp) _).setCell (p := ⟨w.heap.size, 4, none⟩) (by simp) _).setCell (p := ⟨w.heap.size, 5, none⟩) (by simp) _
set_option maxRecDepth 100000 in
set_option maxHeartbeats 2000000 in
theorem blank_one (n : Nat) (hn : n ≤ 64) (w : World) : Calls Tryz.prog 235 #[.int .i64 1, .int .i64 n] w (ObjOwn w (blankO 1 n)) := by
  have HB0 := hid (below_alloc2 w (.cells #[.int .i64 0, .int .i64 0, .slice none 0 0, .string ⟨#[]⟩, .int .i64 0, .int .i64 0] 41) (.cells #[.int .i64 0, .int .i64 1, .slice none 0 0, .string ⟨#[]⟩, .int .i64 0, .int .i64 0] 41))
  have HK := hid ((Lies.new w 41 #[.int .i64 0, .int .i64 0, .slice none 0 0, .string ⟨#[]⟩, .int .i64 0, .int .i64 0]).alloc (.cells #[.int .i64 0, .int .i64 1, .slice none 0 0, .string ⟨#[]⟩, .int .i64 0, .int .i64 0] 41))
  have HL := hid (Lies.new (w.alloc (.cells #[.int .i64 0, .int .i64 0, .slice none 0 0, .string ⟨#[]⟩, .int .i64 0, .int .i64 0] 41)) 41 #[.int .i64 0, .int .i64 1, .slice none 0 0, .string ⟨#[]⟩, .int .i64 0, .int .i64 0])
  go_enter Tryz.func235, Tryz.ntmps235
  go_wp2_with fail
  refine (Tryz.strings_Repeat ⟨#[0]⟩ n _ (by omega) (by show 1 * n ≤ _; omega)).mono ?_
  rintro e w1 ⟨rfl, hb⟩
  have HB := hid hb
  have k0 := HK.out.later hb
  have k1 := HL.out.later hb
  rw [show (w.alloc (.cells #[.int .i64 0, .int .i64 0, .slice none 0 0, .string ⟨#[]⟩, .int .i64 0, .int .i64 0] 41)).heap.size = w.heap.size + 1 by simp] at k1
  have a0 := k0.cell 0
  have a1 := k0.cell 1
  have a2 := k0.cell 2
  have a3 := k0.cell 3
  have a4 := k0.cell 4
  have a5 := k0.cell 5
  have af0 := k0.frozen 0
  have af1 := k0.frozen 1
  have af2 := k0.frozen 2
  have af3 := k0.frozen 3
  have af4 := k0.frozen 4
  have af5 := k0.frozen 5
  have b0 := k1.cell 0
  have b1 := k1.cell 1
  have b2 := k1.cell 2
  have b3 := k1.cell 3
  have b4 := k1.cell 4
  have b5 := k1.cell 5
  have bf3 := k1.frozen 3
  simp only [List.getElem?_toArray, List.getElem?_cons_zero, List.getElem?_cons_succ] at a0 a1 a2 a3 a4 a5 b0 b1 b2 b3 b4 b5
  have K0 := hid k0
  clear hb k0 k1
  obtain ⟨T, hT⟩ : ∃ T : ByteArray, T = zeroT n := ⟨_, rfl⟩
  have hT2 : (⟨(Lib.repeatL (ByteArray.mk #[0]).data.toList n).toArray⟩ : ByteArray) = T := by rw [hT]; rfl
  rw [hT2]
  have HT := hid hT
  clear hT hT2
  go_wp2_with fail
  have X0 : Lies (w1.setCell ⟨w.heap.size + 1, 3, none⟩ (.string T)) w.heap.size 41 #[.int .i64 0, .int .i64 0, .slice none 0 0, .string ⟨#[]⟩, .int .i64 0, .int .i64 0] := K0.out.far (by simp) _
  have X1 := (((((X0.set_ 0 (.int .i64 0)).set_ 1 (.int .i64 1)).set_ 2 (.slice none 0 0)).set_ 3 (.string T)).set_ 4 (.int .i64 0)).set_ 5 (.int .i64 0)
  have r0 := X1.cell 0
  have r1 := X1.cell 1
  have r2 := X1.cell 2
  have r3 := X1.cell 3
  have r4 := X1.cell 4
  have r5 := X1.cell 5
  simp only [List.setIfInBounds_toArray, List.set_cons_zero, List.set_cons_succ, List.getElem?_toArray, List.getElem?_cons_zero, List.getElem?_cons_succ] at r0 r1 r2 r3 r4 r5
  refine bodyPost_ret (v := .agg #[.int .i64 0, .int .i64 1, .slice none 0 0, .string T, .int .i64 0, .int .i64 0]) (by simp [results, Tryz.results235, go_sem, r0, r1, r2, r3, r4, r5]) rfl ?_
  rw [HT.out]
  refine ⟨none, 0, by simp [blankO], World.ownsRow_nil _ _ _ _, ?_⟩
  have hB := HB0.out.trans (HB.out.mono (by simp; omega))
  exact ((((((hB.setCell (p := ⟨w.heap.size + 1, 3, none⟩) (by simp) _).setCell (p := ⟨w.heap.size, 0, none⟩) (by simp) _).setCell (p := ⟨w.heap.size, 1, none⟩) (by simp) _).setCell (p := ⟨w.heap.size, 2, none⟩) (by simp) _).setCell (p := ⟨w.heap.size, 3, none⟩) (by simp) _).setCell (p := ⟨w.heap.size, 4, none⟩) (by simp) _).setCell (p := ⟨w.heap.size, 5, none⟩) (by simp) _
def mostI (kind : Int) : Int := if kind = 0 then 64 else if kind = 1 then 64 else 0
def roE (h : Hp) (class_ kind size : Int) : Int :=
  if mayB h = false then 1 else if refB h.objs.length class_ = false then 31 else if kind < 0 ∨ 3 ≤ kind then 33 else if size < 0 ∨ mostI kind < size then 32 else if h.cap ≤ (h.objs.length : Int) then 30 else 0
theorem most_any (kind : Int) (w : World) : Calls Tryz.prog 244 #[.int .i64 kind] w fun e w' => e = .returned (.int .i64 (mostI kind)) ∧ w = w' := by
  by_cases h0 : kind = 0
  · subst h0
    go_enter Tryz.func244, Tryz.ntmps244
    go_wp2
    go_ret; exact ⟨rfl, rfl⟩
  · by_cases h1 : kind = 1
    · subst h1
      go_enter Tryz.func244, Tryz.ntmps244
      go_wp2
      go_ret; exact ⟨rfl, rfl⟩
    · have e : mostI kind = 0 := by unfold mostI; rw [if_neg h0, if_neg h1]
      rw [e]
      have h0' : (kind == 0) = false := by simpa using h0
      have h1' : (kind == 1) = false := by simpa using h1
      clear e h0 h1
      go_enter Tryz.func244, Tryz.ntmps244
      go_wp2
      go_ret; exact ⟨rfl, rfl⟩
set_option maxRecDepth 100000 in
set_option maxHeartbeats 2000000 in
theorem room_any (h : Hp) (cl kind size : Int) (A : Option Addr) (c : Nat) (w : World) (hs : ObsR w A h.objs) (fit : h.Fit) :
    Calls Tryz.prog 233 #[.agg #[.slice A h.objs.length c, .int .i64 h.cap, .int .i64 h.last], .int .i64 cl, .int .i64 kind, .int .i64 size] w fun e w' => e = .returned (.int .i64 (roE h cl kind size)) ∧ Below w.heap.size w w' := by
  have HB0 := hid (below_alloc w (.cells #[Value.slice A h.objs.length c, Value.int .i64 h.cap, Value.int .i64 h.last] 24))
  have HX := hid (BoxH.new w h A c)
  have HS := hid hs
  have HF := hid fit
  clear hs fit
  cases hm : mayB h
  · have e1 : roE h cl kind size = 1 := by unfold roE; rw [if_pos hm]
    rw [e1]; clear e1
    go_enter Tryz.func233, Tryz.ntmps233
    go_wp2_with fail
    refine (may_any h A c _ (HS.out.below HB0.out) HF.out).mono ?_
    rintro e w1 ⟨rfl, hb1⟩
    have HB1 := hid hb1
    clear hb1
    go_wp2_with fail
    go_ret
    exact ⟨rfl, HB0.out.trans (HB1.out.mono (by simp))⟩
  · have E1 : Hid (roE h cl kind size = if refB h.objs.length cl = false then 31 else if kind < 0 ∨ 3 ≤ kind then 33 else if size < 0 ∨ mostI kind < size then 32 else if h.cap ≤ (h.objs.length : Int) then 30 else 0) := by
      show _ = _
      unfold roE; rw [if_neg (by rw [hm]; decide)]
    cases hr : refB h.objs.length cl
    all_goals
      have HR := hid hr
      go_enter Tryz.func233, Tryz.ntmps233
      go_wp2_with fail
      refine (may_any h A c _ (HS.out.below HB0.out) HF.out).mono ?_
      rintro e w1 ⟨rfl, hb1⟩
      have HX1 := hid (HX.out.later hb1)
      obtain ⟨x0, x1, x2⟩ := HX1.out
      have HB1 := hid (HB0.out.trans (hb1.mono (by simp)))
      clear hb1
      go_wp2_with fail
      refine (find_any h _ A c _).mono ?_
      rintro e w2 ⟨rfl, hb2⟩
      have HB2 := hid (HB1.out.trans (hb2.mono HB1.out.size))
      clear x0 x1 x2
      obtain ⟨x0, x1, x2⟩ := HX1.out.later hb2
      clear hb2
      go_wp2_with (first | (go_at_call 244; refine (most_any _ _).mono ?_; rintro e w' ⟨rfl, rfl⟩))
    · go_ret
      exact ⟨ret_int (by rw [E1.out, if_pos HR.out]), HB2.out⟩
    all_goals go_ret
    all_goals
      refine ⟨ret_int ?_, HB2.out⟩
      rw [E1.out, if_neg (by rw [HR.out]; decide)]
      repeat' split
      all_goals first | rfl | omega
end Go.Proofs.YtnilempeldlieaaGreat
