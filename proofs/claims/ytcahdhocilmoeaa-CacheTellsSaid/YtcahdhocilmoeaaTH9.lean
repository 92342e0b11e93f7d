/- What is found, from a class on upwards: the program's word. -/
import Derived.Test.YtcahdhocilmoeaaTGK
namespace Go.Proofs.Ytcahdhocilmoeaa
open Go.RowKit Go.Shelf
attribute [local go_sem] Oper.semAt_some
set_option maxRecDepth 100000
theorem res3_9 {w W : World} {v at_ er : Int} {a b c : Value} (K2 : Lies W (w.heap.size + 1 + 1) 3 #[a]) (K3 : Lies W (w.heap.size + 1 + 1 + 1) 3 #[b]) (K4 : Lies W (w.heap.size + 1 + 1 + 1 + 1) 29 #[c]) (hB : Below w.heap.size w W) :
    let W' := ((W.setCell ⟨w.heap.size + 1 + 1, 0, none⟩ (.int .i64 v)).setCell ⟨w.heap.size + 1 + 1 + 1, 0, none⟩ (.int .i64 at_)).setCell ⟨w.heap.size + 1 + 1 + 1 + 1, 0, none⟩ (.int .i64 er)
    KeepsOthers W W' ∧ W'.cell? ⟨w.heap.size + 1 + 1, 0, none⟩ = some (.int .i64 v) ∧ W'.cell? ⟨w.heap.size + 1 + 1 + 1, 0, none⟩ = some (.int .i64 at_) ∧ W'.cell? ⟨w.heap.size + 1 + 1 + 1 + 1, 0, none⟩ = some (.int .i64 er) ∧ Below w.heap.size w W' := by
  intro W'
  have M2 := ((K2.set_ 0 (.int .i64 v)).far (p := ⟨w.heap.size + 1 + 1 + 1, 0, none⟩) (by simp) (.int .i64 at_)).far (p := ⟨w.heap.size + 1 + 1 + 1 + 1, 0, none⟩) (by simp <;> omega) (.int .i64 er)
  have M3 := ((K3.far (p := ⟨w.heap.size + 1 + 1, 0, none⟩) (by simp) (.int .i64 v)).set_ 0 (.int .i64 at_)).far (p := ⟨w.heap.size + 1 + 1 + 1 + 1, 0, none⟩) (by simp) (.int .i64 er)
  have M4 := ((K4.far (p := ⟨w.heap.size + 1 + 1, 0, none⟩) (by simp <;> omega) (.int .i64 v)).far (p := ⟨w.heap.size + 1 + 1 + 1, 0, none⟩) (by simp) (.int .i64 at_)).set_ 0 (.int .i64 er)
  refine ⟨((KeepsOthers.setCell _ _ _).trans (KeepsOthers.setCell _ _ _)).trans (KeepsOthers.setCell _ _ _), (M2.cell 0).trans (by simp), (M3.cell 0).trans (by simp), (M4.cell 0).trans (by simp), ?_⟩
  exact ((hB.setCell (p := ⟨w.heap.size + 1 + 1, 0, none⟩) (by show w.heap.size ≤ w.heap.size + 1 + 1; omega) _).setCell (p := ⟨w.heap.size + 1 + 1 + 1, 0, none⟩) (by show w.heap.size ≤ w.heap.size + 1 + 1 + 1; omega) _).setCell (p := ⟨w.heap.size + 1 + 1 + 1 + 1, 0, none⟩) (by show w.heap.size ≤ w.heap.size + 1 + 1 + 1 + 1; omega) _
set_option maxHeartbeats 2000000 in
theorem lfind_yes9 (h : Hp) (c s : Int) (A : Option Addr) (d : Nat) (w : World) (hs : ObsR w A h.objs) (fit : h.Fit) (hm : mayB h = true) :
    Calls Try.prog 68 #[.agg #[.slice A h.objs.length d, .int .i64 h.cap, .int .i64 h.last], .int .i64 c, .int .i64 s] w fun en w' => en = .returned (.tuple #[.int .i64 (fi9 h s 64 c).1, .int .i64 (fi9 h s 64 c).2.1, .int .i64 (fi9 h s 64 c).2.2]) ∧ Below w.heap.size w w' := by
  rw [← gf9_ups, ← upc9_val]
  refine (callsIn_wide (n := 5)).1 ?_
  obtain ⟨w0, hw0⟩ : ∃ w0, w0 = (((((w.alloc (.cells #[Value.slice A h.objs.length d, Value.int .i64 h.cap, Value.int .i64 h.last] 24)).alloc (.cells #[.int .i64 s] 3)).alloc (.cells #[.int .i64 0] 3)).alloc (.cells #[.int .i64 0] 3)).alloc (.cells #[.int .i64 0] 29)) := ⟨_, rfl⟩
  have HB0 : Hid (Below w.heap.size w w0) := by
    show Below _ _ _
    rw [hw0]
    exact (((below_alloc2 _ _ _).alloc (by simp; omega) _).alloc (by simp; omega) _).alloc (by simp; omega) _
  have H00 : Hid (Lies w0 (w.heap.size) 24 #[Value.slice A h.objs.length d, Value.int .i64 h.cap, Value.int .i64 h.last]) := by
    show Lies _ _ _ _
    have := (((((Lies.new w 24 #[Value.slice A h.objs.length d, Value.int .i64 h.cap, Value.int .i64 h.last]).alloc (.cells #[.int .i64 s] 3)).alloc (.cells #[.int .i64 0] 3)).alloc (.cells #[.int .i64 0] 3)).alloc (.cells #[.int .i64 0] 29))
    rw [hw0]; simpa using this
  have H10 : Hid (Lies w0 (w.heap.size + 1) 3 #[.int .i64 s]) := by
    show Lies _ _ _ _
    have := ((((Lies.new (w.alloc (.cells #[Value.slice A h.objs.length d, Value.int .i64 h.cap, Value.int .i64 h.last] 24)) 3 #[.int .i64 s]).alloc (.cells #[.int .i64 0] 3)).alloc (.cells #[.int .i64 0] 3)).alloc (.cells #[.int .i64 0] 29))
    rw [hw0]; simpa using this
  have H20 : Hid (Lies w0 (w.heap.size + 1 + 1) 3 #[.int .i64 0]) := by
    show Lies _ _ _ _
    have := (((Lies.new ((w.alloc (.cells #[Value.slice A h.objs.length d, Value.int .i64 h.cap, Value.int .i64 h.last] 24)).alloc (.cells #[.int .i64 s] 3)) 3 #[.int .i64 0]).alloc (.cells #[.int .i64 0] 3)).alloc (.cells #[.int .i64 0] 29))
    rw [hw0]; simpa using this
  have H30 : Hid (Lies w0 (w.heap.size + 1 + 1 + 1) 3 #[.int .i64 0]) := by
    show Lies _ _ _ _
    have := ((Lies.new (((w.alloc (.cells #[Value.slice A h.objs.length d, Value.int .i64 h.cap, Value.int .i64 h.last] 24)).alloc (.cells #[.int .i64 s] 3)).alloc (.cells #[.int .i64 0] 3)) 3 #[.int .i64 0]).alloc (.cells #[.int .i64 0] 29))
    rw [hw0]; simpa using this
  have H40 : Hid (Lies w0 (w.heap.size + 1 + 1 + 1 + 1) 29 #[.int .i64 0]) := by
    show Lies _ _ _ _
    have := (Lies.new ((((w.alloc (.cells #[Value.slice A h.objs.length d, Value.int .i64 h.cap, Value.int .i64 h.last] 24)).alloc (.cells #[.int .i64 s] 3)).alloc (.cells #[.int .i64 0] 3)).alloc (.cells #[.int .i64 0] 3)) 29 #[.int .i64 0])
    rw [hw0]; simpa using this
  have HS := hid hs
  have HM := hid hm
  have HSM := hid (hm ▸ may_any h A d w0 (hs.below HB0.out) fit)
  clear hs fit hm
  refine callsIn_of_wp_marks Try.func68 rfl trivial ?_ rfl
  simp only [Try.ntmps68, List.size_toArray, List.length_cons, List.length_nil, Nat.reduceAdd, Nat.reduceSub, Array.replicate_succ, Array.replicate_zero, List.push_toArray, List.append_toArray, List.nil_append, List.cons_append]
  gi_wp2_with fail
  rw [← hw0]
  clear hw0
  refine ⟨trivial, ?_⟩
  refine (callsIn_wide.2 HSM.out).mono ?_
  rintro e1 w1 ⟨rfl, hb⟩
  have HB1 := hid (HB0.out.trans (hb.mono HB0.out.size))
  have H01 := hid (H00.out.later hb)
  have H11 := hid (H10.out.later hb)
  have H21 := hid (H20.out.later hb)
  have H31 := hid (H30.out.later hb)
  have H41 := hid (H40.out.later hb)
  clear hb HSM
  have x0 := H01.out.cell 0
  have x1 := H01.out.cell 1
  have x2 := H01.out.cell 2
  simp only [List.getElem?_toArray, List.getElem?_cons_zero, List.getElem?_cons_succ] at x0 x1 x2
  gi_wp2_with fail
  refine ⟨trivial, ?_⟩
  refine (callsIn_wide.2 (pup_any9 h c A d w1)).mono ?_
  rintro e2 w2 ⟨rfl, hw2⟩
  have HC2 : Hid (w2.cell? ⟨w1.heap.size + 1, 0, none⟩ = some (.int .i64 c)) := by
    show _ = _
    have := (Lies.new (w1.alloc (.cells #[Value.slice A h.objs.length d, Value.int .i64 h.cap, Value.int .i64 h.last] 24)) 3 #[.int .i64 c]).cell 0
    rw [hw2]; simp
  have HH2 : Hid (Lies w2 w1.heap.size 24 #[Value.slice A h.objs.length d, Value.int .i64 h.cap, Value.int .i64 h.last]) := by
    show Lies _ _ _ _
    rw [hw2]; exact (Lies.new _ _ _).alloc _
  have hb2 : Below w1.heap.size w1 w2 := by rw [hw2]; exact below_alloc2 _ _ _
  have HB2 := hid (HB1.out.trans (hb2.mono HB1.out.size))
  have H02 := hid (H01.out.later hb2)
  have H12 := hid (H11.out.later hb2)
  have H22 := hid (H21.out.later hb2)
  have H32 := hid (H31.out.later hb2)
  have H42 := hid (H41.out.later hb2)
  have hbn : w1.heap.size < w2.heap.size := HH2.out.lt
  have hww : w.heap.size ≤ w2.heap.size := HB2.out.size
  clear hb2 hw2 x0 x1 x2
  gi_wp2
  refine wpIn_rangeFunc_ownF rfl (by omega) (gf := 97) (lb := #[.pointer (some ⟨w1.heap.size + 1, 0, none⟩), .pointer (some ⟨w1.heap.size, 0, none⟩)]) rfl trivial (enters_of Try.func97 (by kernel_rfl) rfl)
    (pups_stops9 h c A d 4 (by omega) (w1.heap.size + 1) w1.heap.size w2.heap.size w w2 HS.out HB2.out HM.out hww HH2.out HC2.out hbn (Nat.le_refl _)) belowK_t (belowK_b (Nat.le_refl _)) (Below.refl _ _) (fun _ => rfl)
    (fun pre W => Hid (∀ t, gf9 h s (pre.map (·.1) ++ t) = gf9 h s t) ∧ Below w2.heap.size w2 W)
    (fun cd pre W => (cd = .ret ∧ ∃ r : Int × Int × Int, Hid (∀ t, gf9 h s (pre.map (·.1) ++ t) = r) ∧ W.cell? ⟨w.heap.size + 1 + 1, 0, none⟩ = some (.int .i64 r.1) ∧ W.cell? ⟨w.heap.size + 1 + 1 + 1, 0, none⟩ = some (.int .i64 r.2.1) ∧ W.cell? ⟨w.heap.size + 1 + 1 + 1 + 1, 0, none⟩ = some (.int .i64 r.2.2)) ∧ Below w.heap.size w W)
    (OwnFrom.and (Own.from (fun s A B row hs hg hr => hs) _) (ownFrom_below (Nat.le_refl _) (Nat.le_refl _)))
    (fun cd => OwnFrom.and (Own.from (fun s A B row hs hg hr => by
      obtain ⟨h1, r, h2, h3, h4, h5⟩ := hs
      exact ⟨h1, r, h2, cell_kept h3 hg hr, cell_kept h4 hg hr, cell_kept h5 hg hr⟩) _) (ownFrom_below (Nat.le_refl _) hww))
    ⟨fun _ => rfl, Below.refl _ _⟩
    ?a1 ?assign ?body ?done ?stop
  case assign =>
    intro l x W K hK
    gi_wp2
    exact hK
  case body =>
    rintro l pre x W ⟨hp, hB⟩ _
    have HHB := hid hB
    have hbw : Below w.heap.size w W := HB2.out.trans (hB.mono hww)
    have HBW := hid hbw
    have K0 := hid (H02.out.below hB H02.out.lt)
    have K1 := hid (H12.out.below hB H12.out.lt)
    have K2 := hid (H22.out.below hB H22.out.lt)
    have K3 := hid (H32.out.below hB H32.out.lt)
    have K4 := hid (H42.out.below hB H42.out.lt)
    clear hB hbw
    cases hxb : x.1.2
    · have HG : Hid (∀ t, gf9 h s (pre.map (·.1) ++ [x.1] ++ t) = (0, 0, 90)) := by
        have := gf9_not hp.out (a := x.1.1)
        rw [← hxb] at this; exact this
      have r0 := K2.out.cell 0
      have r1 := K3.out.cell 0
      have r2 := K4.out.cell 0
      have f0 := K2.out.frozen 0
      have f1 := K3.out.frozen 0
      have f2 := K4.out.frozen 0
      simp only [List.getElem?_toArray, List.getElem?_cons_zero] at r0 r1 r2
      clear hxb
      gi_wp2
      obtain ⟨q1, q2, q3, q4, q5⟩ := res3_9 (w := w) (W := W) (v := 0) (at_ := 0) (er := 90) K2.out K3.out K4.out HBW.out
      exact ⟨q1, ⟨rfl, (0, 0, 90), by rw [List.map_append]; exact HG, q2, q3, q4⟩, q5⟩
    · have hcl : clB9 h x.1.1 = true := by rw [← x.2]; exact hxb
      have x0 := K0.out.cell 0
      have x1 := K0.out.cell 1
      have x2 := K0.out.cell 2
      have y0 := K1.out.cell 0
      simp only [List.getElem?_toArray, List.getElem?_cons_zero, List.getElem?_cons_succ] at x0 x1 x2 y0
      have HXB := hid hxb
      have HCL := hid hcl
      clear hxb hcl
      gi_wp2_with fail
      refine ⟨trivial, ?_⟩
      refine (CallsIn.inRound l (callsIn_wide.2 (pwith_any9 h x.1.1 s A d w W HS.out HBW.out HM.out HCL.out))).mono ?_
      rintro e3 w3 ⟨rfl, hb⟩
      have HBK := hid (keeps_below9 hb)
      have HB3 := hid (HBW.out.trans (hb.mono HBW.out.size))
      have HHB3 := hid (HHB.out.trans (hb.mono HHB.out.size))
      have HHK : Hid (Below w2.heap.size W w3) := hb.mono HHB.out.size
      have L2 := hid (K2.out.later hb)
      have L3 := hid (K3.out.later hb)
      have L4 := hid (K4.out.later hb)
      clear hb x0 x1 x2 y0
      cases hpf : pf9 (paL9 h (sl9 h x.1.1 1)) s with
      | none =>
        have HG : Hid (∀ t, gf9 h s (pre.map (·.1) ++ [x.1] ++ t) = gf9 h s t) := by
          have := gf9_miss hp.out hpf
          rw [← HXB.out] at this; exact this
        rw [wt9_none hpf]
        clear hpf
        gi_wp2
        exact ⟨HBK.out, HHK.out, by rw [List.map_append]; exact HG, HHB3.out⟩
      | some v =>
        have HG : Hid (∀ t, gf9 h s (pre.map (·.1) ++ [x.1] ++ t) = (v, x.1.1, 0)) := by
          have := gf9_hit hp.out hpf
          rw [← HXB.out] at this; exact this
        rw [wt9_some hpf]
        have r0 := L2.out.cell 0
        have r1 := L3.out.cell 0
        have r2 := L4.out.cell 0
        have f0 := L2.out.frozen 0
        have f1 := L3.out.frozen 0
        have f2 := L4.out.frozen 0
        simp only [List.getElem?_toArray, List.getElem?_cons_zero] at r0 r1 r2
        clear hpf
        gi_wp2
        obtain ⟨q1, q2, q3, q4, q5⟩ := res3_9 (w := w) (W := w3) (v := v) (at_ := x.1.1) (er := 0) L2.out L3.out L4.out HB3.out
        exact ⟨HBK.out.trans q1, ⟨rfl, (v, x.1.1, 0), by rw [List.map_append]; exact HG, q2, q3, q4⟩, q5⟩
  case done =>
    rintro D ys W hD rfl ⟨hp, hB⟩ hK
    have K2 := hid (H22.out.below hB H22.out.lt)
    have K3 := hid (H32.out.below hB H32.out.lt)
    have K4 := hid (H42.out.below hB H42.out.lt)
    have r0 := K2.out.cell 0
    have r1 := K3.out.cell 0
    have r2 := K4.out.cell 0
    have f0 := K2.out.frozen 0
    have f1 := K3.out.frozen 0
    have f2 := K4.out.frozen 0
    simp only [List.getElem?_toArray, List.getElem?_cons_zero] at r0 r1 r2
    have HHB := hid (HB2.out.trans (hB.mono hww))
    gi_wp2
    obtain ⟨q1, q2, q3, q4, q5⟩ := res3_9 (w := w) (W := W) (v := 0) (at_ := 0) (er := 91) K2.out K3.out K4.out HHB.out
    have hK' := q1.same D _ hK rfl
    refine ⟨by simp, .inl ⟨_, _, rfl, run_takeDeferred hK', ?_⟩⟩
    have c0 := cell_kept q2 (grownBy_putObj' _ D (.deferred none)) (fun r e => by cases e; exact ⟨_, hK', rfl⟩)
    have c1 := cell_kept q3 (grownBy_putObj' _ D (.deferred none)) (fun r e => by cases e; exact ⟨_, hK', rfl⟩)
    have c2 := cell_kept q4 (grownBy_putObj' _ D (.deferred none)) (fun r e => by cases e; exact ⟨_, hK', rfl⟩)
    refine ⟨.tuple #[.int .i64 0, .int .i64 0, .int .i64 91], ?_, ?_, q5.trans (belowK_b (w := w) (Nat.le_refl _) _ D _ _ (by omega) hK' rfl rfl)⟩
    · simp [results, Try.f68, go_sem, c0, c1, c2]
    · have := hp.out []
      rw [List.append_nil] at this
      rw [this]; rfl
  case stop =>
    rintro D cd pre W hD hpre ⟨⟨rfl, r, hp, q2, q3, q4⟩, hB⟩ hK
    have HB3 := hid hB
    have E : gf9 h s ((upc9 h 64 c).map (·.1)) = r := by
      obtain ⟨t, ht⟩ := hpre
      rw [← ht, List.map_append]; exact hp.out _
    have HE := hid E
    clear E hp
    gi_wp2
    refine ⟨by simp, .inl ⟨_, _, rfl, run_takeDeferred hK, ?_⟩⟩
    have c0 := cell_kept q2 (grownBy_putObj' _ D (.deferred none)) (fun r e => by cases e; exact ⟨_, hK, rfl⟩)
    have c1 := cell_kept q3 (grownBy_putObj' _ D (.deferred none)) (fun r e => by cases e; exact ⟨_, hK, rfl⟩)
    have c2 := cell_kept q4 (grownBy_putObj' _ D (.deferred none)) (fun r e => by cases e; exact ⟨_, hK, rfl⟩)
    refine ⟨.tuple #[.int .i64 r.1, .int .i64 r.2.1, .int .i64 r.2.2], ?_, by rw [HE.out], HB3.out.trans (belowK_b (w := w) (Nat.le_refl _) W D _ _ (by omega) hK rfl rfl)⟩
    simp [results, Try.f68, go_sem, c0, c1, c2]
end Go.Proofs.Ytcahdhocilmoeaa
