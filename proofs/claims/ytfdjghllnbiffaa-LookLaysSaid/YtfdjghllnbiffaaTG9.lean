/- Is one under another: the program's word. -/
import Derived.Test.YtfdjghllnbiffaaTF9
import Derived.RangeFuncFrom
namespace Go.Proofs.Ytfdjghllnbiffaa
open Go.RowKit Go.Shelf
attribute [local go_sem] Oper.semAt_some
set_option maxRecDepth 100000
theorem keeps_below9 {w w' : World} (hb : Below w.heap.size w w') : KeepsOthers w w' := ⟨hb.size, fun r _ h _ => (hb.block r (Array.getElem?_eq_some_iff.1 h).1).trans h⟩
theorem gu9_snoc (d : Int) (l : List (Int × Bool)) (x : Int × Bool) : gu9 d (l ++ [x]) = (gu9 d l || (x.2 && decide (x.1 = d))) := by unfold gu9; rw [List.any_append]; simp
set_option maxHeartbeats 2000000 in
theorem lunder_yes9 (h : Hp) (c e : Int) (A : Option Addr) (d : Nat) (w : World) (hs : ObsR w A h.objs) (fit : h.Fit) (hm : mayB h = true) :
    Calls Try.prog 36 #[.agg #[.slice A h.objs.length d, .int .i64 h.cap, .int .i64 h.last], .int .i64 c, .int .i64 e] w fun en w' => en = .returned (.bool (un9 h e 64 c)) ∧ Below w.heap.size w w' := by
  rw [← gu9_ups, ← upc9_val]
  refine (callsIn_wide (n := 5)).1 ?_
  obtain ⟨w0, hw0⟩ : ∃ w0, w0 = ((w.alloc (.cells #[Value.slice A h.objs.length d, Value.int .i64 h.cap, Value.int .i64 h.last] 24)).alloc (.cells #[.int .i64 e] 3)).alloc (.cells #[.bool false] 4) := ⟨_, rfl⟩
  have HB0 : Hid (Below w.heap.size w w0) := by show Below _ _ _; rw [hw0]; exact (below_alloc2 _ _ _).alloc (by simp; omega) _
  have HX0 : Hid (Lies w0 w.heap.size 24 #[Value.slice A h.objs.length d, Value.int .i64 h.cap, Value.int .i64 h.last]) := by
    show Lies _ _ _ _
    rw [hw0]; exact ((Lies.new _ _ _).alloc _).alloc _
  have HE0 : Hid (Lies w0 (w.heap.size + 1) 3 #[.int .i64 e]) := by
    show Lies _ _ _ _
    have := (Lies.new (w.alloc (.cells #[Value.slice A h.objs.length d, Value.int .i64 h.cap, Value.int .i64 h.last] 24)) 3 #[.int .i64 e]).alloc (.cells #[.bool false] 4)
    rw [hw0]; simpa using this
  have HR0 : Hid (Lies w0 (w.heap.size + 1 + 1) 4 #[.bool false]) := by
    show Lies _ _ _ _
    have := Lies.new ((w.alloc (.cells #[Value.slice A h.objs.length d, Value.int .i64 h.cap, Value.int .i64 h.last] 24)).alloc (.cells #[.int .i64 e] 3)) 4 #[.bool false]
    rw [hw0]; simpa using this
  have HS := hid hs
  have HF := hid fit
  have HM := hid hm
  have HSM := hid (hm ▸ may_any h A d w0 (hs.below HB0.out) fit)
  clear hs fit hm
  refine callsIn_of_wp_marks Try.func36 rfl trivial ?_ rfl
  simp only [Try.ntmps36, List.size_toArray, List.length_cons, List.length_nil, Nat.reduceAdd, Nat.reduceSub, Array.replicate_succ, Array.replicate_zero, List.push_toArray, List.append_toArray, List.nil_append, List.cons_append]
  gi_wp2_with fail
  rw [← hw0]
  clear hw0
  refine ⟨trivial, ?_⟩
  refine (callsIn_wide.2 HSM.out).mono ?_
  rintro e1 w1 ⟨rfl, hb⟩
  have HB1 := hid (HB0.out.trans (hb.mono HB0.out.size))
  have HX1 := hid (HX0.out.later hb)
  have HE1 := hid (HE0.out.later hb)
  have HR1 := hid (HR0.out.later hb)
  clear hb HSM
  have x0 := HX1.out.cell 0
  have x1 := HX1.out.cell 1
  have x2 := HX1.out.cell 2
  simp only [List.getElem?_toArray, List.getElem?_cons_zero, List.getElem?_cons_succ] at x0 x1 x2
  gi_wp2_with fail
  refine ⟨trivial, ?_⟩
  refine (callsIn_wide.2 (pup_any9 h c A d w1)).mono ?_
  rintro e2 w2 ⟨rfl, hw2⟩
  have HC2 : Hid (w2.cell? ⟨w1.heap.size + 1, 0, none⟩ = some (.int .i64 c)) := by
    show _ = _
    have := (Lies.new (w1.alloc (.cells #[Value.slice A h.objs.length d, Value.int .i64 h.cap, Value.int .i64 h.last] 24)) 3 #[.int .i64 c]).cell 0
    rw [hw2]; simp
  have HH2 : Hid (Lies w2 w1.heap.size 24 #[Value.slice A h.objs.length d, Value.int .i64 h.cap, Value.int .i64 h.last]) := by
    show Lies _ _ _ _
    rw [hw2]; exact (Lies.new _ _ _).alloc _
  have hb2 : Below w1.heap.size w1 w2 := by rw [hw2]; exact below_alloc2 _ _ _
  have HB2 := hid (HB1.out.trans (hb2.mono HB1.out.size))
  have HE2 := hid (HE1.out.later hb2)
  have HR2 := hid (HR1.out.later hb2)
  have hbn : w1.heap.size < w2.heap.size := HH2.out.lt
  have hww : w.heap.size ≤ w2.heap.size := HB2.out.size
  clear hb2 hw2 x0 x1 x2
  gi_wp2
  refine wpIn_rangeFunc_ownF rfl (by omega) (gf := 78) (lb := #[.pointer (some ⟨w1.heap.size + 1, 0, none⟩), .pointer (some ⟨w1.heap.size, 0, none⟩)]) rfl trivial (enters_of Try.func78 (by kernel_rfl) rfl)
    (pups_stops9 h c A d 4 (by omega) (w1.heap.size + 1) w1.heap.size w2.heap.size w w2 HS.out HB2.out HM.out hww HH2.out HC2.out hbn (Nat.le_refl _)) belowK_t (belowK_b (Nat.le_refl _)) (Below.refl _ _) (fun _ => rfl)
    (fun pre W => Hid (gu9 e (pre.map (·.1)) = false) ∧ Below w2.heap.size w2 W)
    (fun cd pre W => (cd = .ret ∧ Hid (gu9 e (pre.map (·.1)) = true) ∧ W.cell? ⟨w.heap.size + 1 + 1, 0, none⟩ = some (.bool true)) ∧ Below w.heap.size w W)
    (OwnFrom.and (Own.from (fun s A B row hs hg hr => hs) _) (ownFrom_below (Nat.le_refl _) (Nat.le_refl _)))
    (fun cd => OwnFrom.and (Own.from (fun s A B row hs hg hr => ⟨hs.1, hs.2.1, cell_kept hs.2.2 hg hr⟩) _) (ownFrom_below (Nat.le_refl _) hww))
    ⟨rfl, Below.refl _ _⟩
    ?a1 ?assign ?body ?done ?stop
  case assign =>
    intro l x W K hK
    gi_wp2
    exact hK
  case body =>
    rintro l pre x W ⟨hp, hB⟩ _
    have HHB := hid hB
    have q0 := (HE2.out.below hB HE2.out.lt).cell 0
    have r0 := (HR2.out.below hB HR2.out.lt).cell 0
    have rf := (HR2.out.below hB HR2.out.lt).frozen 0
    simp only [List.getElem?_toArray, List.getElem?_cons_zero] at q0 r0
    clear hB
    cases hxb : x.1.2
    · have HG : Hid (gu9 e (pre.map (·.1) ++ [x.1]) = false) := by show _ = _; rw [gu9_snoc, hp.out, hxb]; rfl
      clear hxb
      gi_wp2
      exact ⟨KeepsOthers.refl _, Below.refl _ _, by rw [List.map_append]; exact HG, HHB.out⟩
    · by_cases hae : x.1.1 = e
      · have haB : (x.1.1 == e) = true := beq_iff_eq.2 hae
        have HG : Hid (gu9 e (pre.map (·.1) ++ [x.1]) = true) := by show _ = _; rw [gu9_snoc, hxb, decide_eq_true hae]; simp
        clear hxb
        gi_wp2
        exact ⟨KeepsOthers.setCell _ _ _, ⟨rfl, by rw [List.map_append]; exact HG, World.cell?_setCell_same' _ _ _ (by rw [r0]; rfl)⟩, (HB2.out.trans (HHB.out.mono hww)).setCell (p := ⟨w.heap.size + 1 + 1, 0, none⟩) (by show w.heap.size ≤ w.heap.size + 1 + 1; omega) _⟩
      · have haB : (x.1.1 == e) = false := beq_eq_false_iff_ne.2 hae
        have HG : Hid (gu9 e (pre.map (·.1) ++ [x.1]) = false) := by show _ = _; rw [gu9_snoc, hp.out, hxb, decide_eq_false hae]; rfl
        clear hxb
        gi_wp2
        exact ⟨KeepsOthers.refl _, Below.refl _ _, by rw [List.map_append]; exact HG, HHB.out⟩
  case done =>
    rintro D ys W hD rfl ⟨hp, hB⟩ hK
    have r0 := (HR2.out.below hB HR2.out.lt).cell 0
    have rf := (HR2.out.below hB HR2.out.lt).frozen 0
    simp only [List.getElem?_toArray, List.getElem?_cons_zero] at r0
    have HHB := hid (HB2.out.trans (hB.mono hww))
    gi_wp2
    have hK' := (KeepsOthers.setCell W ⟨w.heap.size + 1 + 1, 0, none⟩ (.bool false)).same D _ hK rfl
    refine ⟨by simp, .inl ⟨_, _, rfl, run_takeDeferred hK', ?_⟩⟩
    have hc5 := cell_kept (World.cell?_setCell_same' W ⟨w.heap.size + 1 + 1, 0, none⟩ (.bool false) (by rw [r0]; rfl)) (grownBy_putObj' _ D (.deferred none)) (fun r e => by cases e; exact ⟨_, hK', rfl⟩)
    refine ⟨.bool false, ?_, by rw [hp.out], (HHB.out.setCell (p := ⟨w.heap.size + 1 + 1, 0, none⟩) (by show w.heap.size ≤ w.heap.size + 1 + 1; omega) _).trans (belowK_b (w := w) (Nat.le_refl _) _ D _ _ (by omega) hK' rfl rfl)⟩
    simp [results, Try.f36, go_sem, hc5]
  case stop =>
    rintro D cd pre W hD hpre ⟨⟨rfl, hp, hcr⟩, hB⟩ hK
    have HB3 := hid hB
    have E : gu9 e ((upc9 h 64 c).map (·.1)) = true := by
      obtain ⟨t, ht⟩ := hpre
      rw [← ht, List.map_append]
      unfold gu9
      rw [List.any_append]
      have := hp.out
      unfold gu9 at this
      rw [this]; rfl
    have HE := hid E
    clear E
    gi_wp2
    refine ⟨by simp, .inl ⟨_, _, rfl, run_takeDeferred hK, ?_⟩⟩
    have hc5 := cell_kept hcr (grownBy_putObj' _ D (.deferred none)) (fun r e => by cases e; exact ⟨_, hK, rfl⟩)
    refine ⟨.bool true, ?_, by rw [HE.out], HB3.out.trans (belowK_b (w := w) (Nat.le_refl _) W D _ _ (by omega) hK rfl rfl)⟩
    simp [results, Try.f36, go_sem, hc5]
end Go.Proofs.Ytfdjghllnbiffaa
