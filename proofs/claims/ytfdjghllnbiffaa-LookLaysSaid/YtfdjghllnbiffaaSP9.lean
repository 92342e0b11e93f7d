/- Package look's calls. -/
import Derived.Test.YtfdjghllnbiffaaTH9
import Derived.Test.YtfdjghllnbiffaaSD9
namespace Go.Proofs.Ytfdjghllnbiffaa
open Go.RowKit
set_option maxRecDepth 100000
theorem cl9_may {h : Hp} {c : Int} (hm : mayB h = false) : clB9 h c = false := by unfold clB9; rw [hm]; rfl
theorem un9_may {h : Hp} {c e : Int} (hm : mayB h = false) : un9 h e 64 c = false := by
  show (clB9 h c && _) = false
  rw [cl9_may hm]; rfl
set_option maxHeartbeats 1000000 in
theorem lfind_any9 (h : Hp) (c s : Int) (A : Option Addr) (d : Nat) (w : World) (hs : ObsR w A h.objs) (fit : h.Fit) :
    Calls Try.prog 35 #[.agg #[.slice A h.objs.length d, .int .i64 h.cap, .int .i64 h.last], .int .i64 c, .int .i64 s] w fun e w' => e = .returned (.tuple #[.int .i64 (lk9 h c s).1, .int .i64 (lk9 h c s).2.1, .int .i64 (lk9 h c s).2.2]) ∧ Below w.heap.size w w' := by
  cases hm : mayB h
  · obtain ⟨w0, hw0⟩ : ∃ w0, w0 = (((((w.alloc (.cells #[Value.slice A h.objs.length d, Value.int .i64 h.cap, Value.int .i64 h.last] 24)).alloc (.cells #[.int .i64 s] 3)).alloc (.cells #[.int .i64 0] 3)).alloc (.cells #[.int .i64 0] 3)).alloc (.cells #[.int .i64 0] 29)) := ⟨_, rfl⟩
    have HB0 : Hid (Below w.heap.size w w0) := by
      show Below _ _ _
      rw [hw0]
      exact (((below_alloc2 _ _ _).alloc (by simp; omega) _).alloc (by simp; omega) _).alloc (by simp; omega) _
    have H20 : Hid (Lies w0 (w.heap.size + 1 + 1) 3 #[.int .i64 0]) := by
      show Lies _ _ _ _
      have := (((Lies.new ((w.alloc (.cells #[Value.slice A h.objs.length d, Value.int .i64 h.cap, Value.int .i64 h.last] 24)).alloc (.cells #[.int .i64 s] 3)) 3 #[.int .i64 0]).alloc (.cells #[.int .i64 0] 3)).alloc (.cells #[.int .i64 0] 29))
      rw [hw0]; simpa using this
    have H30 : Hid (Lies w0 (w.heap.size + 1 + 1 + 1) 3 #[.int .i64 0]) := by
      show Lies _ _ _ _
      have := ((Lies.new (((w.alloc (.cells #[Value.slice A h.objs.length d, Value.int .i64 h.cap, Value.int .i64 h.last] 24)).alloc (.cells #[.int .i64 s] 3)).alloc (.cells #[.int .i64 0] 3)) 3 #[.int .i64 0]).alloc (.cells #[.int .i64 0] 29))
      rw [hw0]; simpa using this
    have H40 : Hid (Lies w0 (w.heap.size + 1 + 1 + 1 + 1) 29 #[.int .i64 0]) := by
      show Lies _ _ _ _
      have := (Lies.new ((((w.alloc (.cells #[Value.slice A h.objs.length d, Value.int .i64 h.cap, Value.int .i64 h.last] 24)).alloc (.cells #[.int .i64 s] 3)).alloc (.cells #[.int .i64 0] 3)).alloc (.cells #[.int .i64 0] 3)) 29 #[.int .i64 0])
      rw [hw0]; simpa using this
    have E : Hid (lk9 h c s = (0, 0, 1)) := by show _ = _; unfold lk9; rw [hm]; rfl
    have HSM := hid (hm ▸ may_any h A d w0 (hs.below HB0.out) fit)
    clear hs fit hm
    go_enter Try.func35, Try.ntmps35
    go_wp2_with fail
    rw [← hw0]
    clear hw0
    refine HSM.out.mono ?_
    rintro e1 w1 ⟨rfl, hb⟩
    have HB1 := hid (HB0.out.trans (hb.mono HB0.out.size))
    have K2 := hid (H20.out.later hb)
    have K3 := hid (H30.out.later hb)
    have K4 := hid (H40.out.later hb)
    clear hb HSM
    have r0 := K2.out.cell 0
    have r1 := K3.out.cell 0
    have r2 := K4.out.cell 0
    have f0 := K2.out.frozen 0
    have f1 := K3.out.frozen 0
    have f2 := K4.out.frozen 0
    simp only [List.getElem?_toArray, List.getElem?_cons_zero] at r0 r1 r2
    go_wp2_with fail
    obtain ⟨-, q2, q3, q4, q5⟩ := res3_9 (w := w) (W := w1) (v := 0) (at_ := 0) (er := 1) K2.out K3.out K4.out HB1.out
    refine bodyPost_ret (v := .tuple #[.int .i64 0, .int .i64 0, .int .i64 1]) (by simp [results, Try.results35, go_sem, q2, q3, q4]) rfl ?_
    exact ⟨by rw [E.out], q5⟩
  · rw [lk9_may hm]
    exact lfind_yes9 h c s A d w hs fit hm
set_option maxHeartbeats 1000000 in
theorem lunder_any9 (h : Hp) (c e : Int) (A : Option Addr) (d : Nat) (w : World) (hs : ObsR w A h.objs) (fit : h.Fit) :
    Calls Try.prog 36 #[.agg #[.slice A h.objs.length d, .int .i64 h.cap, .int .i64 h.last], .int .i64 c, .int .i64 e] w fun en w' => en = .returned (.bool (un9 h e 64 c)) ∧ Below w.heap.size w w' := by
  cases hm : mayB h
  · rw [un9_may hm]
    obtain ⟨w0, hw0⟩ : ∃ w0, w0 = ((w.alloc (.cells #[Value.slice A h.objs.length d, Value.int .i64 h.cap, Value.int .i64 h.last] 24)).alloc (.cells #[.int .i64 e] 3)).alloc (.cells #[.bool false] 4) := ⟨_, rfl⟩
    have HB0 : Hid (Below w.heap.size w w0) := by show Below _ _ _; rw [hw0]; exact (below_alloc2 _ _ _).alloc (by simp; omega) _
    have HR0 : Hid (Lies w0 (w.heap.size + 1 + 1) 4 #[.bool false]) := by
      show Lies _ _ _ _
      have := Lies.new ((w.alloc (.cells #[Value.slice A h.objs.length d, Value.int .i64 h.cap, Value.int .i64 h.last] 24)).alloc (.cells #[.int .i64 e] 3)) 4 #[.bool false]
      rw [hw0]; simpa using this
    have HSM := hid (hm ▸ may_any h A d w0 (hs.below HB0.out) fit)
    clear hs fit hm
    go_enter Try.func36, Try.ntmps36
    go_wp2_with fail
    rw [← hw0]
    clear hw0
    refine HSM.out.mono ?_
    rintro e1 w1 ⟨rfl, hb⟩
    have HB1 := hid (HB0.out.trans (hb.mono HB0.out.size))
    have K2 := hid (HR0.out.later hb)
    clear hb HSM
    have r0 := K2.out.cell 0
    have f0 := K2.out.frozen 0
    simp only [List.getElem?_toArray, List.getElem?_cons_zero] at r0
    go_wp2_with fail
    have q2 := (K2.out.set_ 0 (.bool false)).cell 0
    simp only [List.setIfInBounds_toArray, List.set_cons_zero, List.getElem?_toArray, List.getElem?_cons_zero] at q2
    refine bodyPost_ret (v := .bool false) (by simp [results, Try.results36, go_sem, q2]) rfl ?_
    exact ⟨rfl, HB1.out.setCell (p := ⟨w.heap.size + 1 + 1, 0, none⟩) (by show w.heap.size ≤ w.heap.size + 1 + 1; omega) _⟩
  · exact lunder_yes9 h c e A d w hs fit hm
set_option maxHeartbeats 1000000 in
theorem lclass_any9 (h : Hp) (c : Int) (A : Option Addr) (d : Nat) (w : World) (hs : ObsR w A h.objs) (fit : h.Fit) :
    Calls Try.prog 61 #[.agg #[.slice A h.objs.length d, .int .i64 h.cap, .int .i64 h.last], .int .i64 c] w fun e w' => e = .returned (.bool (clB9 h c)) ∧ Below w.heap.size w w' := by
  obtain ⟨w0, hw0⟩ : ∃ w0, w0 = w.alloc (.cells #[Value.slice A h.objs.length d, Value.int .i64 h.cap, Value.int .i64 h.last] 24) := ⟨_, rfl⟩
  have HB0 : Hid (Below w.heap.size w w0) := by show Below _ _ _; rw [hw0]; exact below_alloc _ _
  have HX0 : Hid (Lies w0 w.heap.size 24 #[Value.slice A h.objs.length d, Value.int .i64 h.cap, Value.int .i64 h.last]) := by
    show Lies _ _ _ _
    rw [hw0]; exact Lies.new _ _ _
  have HS := hid hs
  have HSM := hid (may_any h A d w0 (hs.below HB0.out) fit)
  clear hs fit
  go_enter Try.func61, Try.ntmps61
  go_wp2_with fail
  rw [← hw0]
  clear hw0
  refine HSM.out.mono ?_
  rintro e1 w1 ⟨rfl, hb⟩
  have HB1 := hid (HB0.out.trans (hb.mono HB0.out.size))
  have HX1 := hid (HX0.out.later hb)
  clear hb HSM
  cases hm : mayB h
  · have E : Hid (clB9 h c = false) := cl9_may hm
    clear hm
    go_wp2_with fail
    go_ret
    exact ⟨by rw [E.out]; rfl, HB1.out⟩
  · have HM := hid hm
    have x0 := HX1.out.cell 0
    have x1 := HX1.out.cell 1
    have x2 := HX1.out.cell 2
    simp only [List.getElem?_toArray, List.getElem?_cons_zero, List.getElem?_cons_succ] at x0 x1 x2
    clear hm
    go_wp2_with fail
    refine (pclass_any9 h c A d w _ HS.out HB1.out HM.out).mono ?_
    rintro e2 w2 ⟨rfl, hb⟩
    have HB2 := hid (HB1.out.trans (hb.mono HB1.out.size))
    clear hb x0 x1 x2
    go_wp2_with fail
    go_ret
    exact ⟨rfl, HB2.out⟩
set_option maxHeartbeats 1000000 in
theorem lof_any9 (h : Hp) (v : Int) (A : Option Addr) (d : Nat) (w : World) (hs : ObsR w A h.objs) (fit : h.Fit) :
    Calls Try.prog 60 #[.agg #[.slice A h.objs.length d, .int .i64 h.cap, .int .i64 h.last], .int .i64 v] w fun e w' => e = .returned (.tuple #[.int .i64 (lf9 h v).1, .int .i64 (lf9 h v).2]) ∧ Below w.heap.size w w' := by
  obtain ⟨w0, hw0⟩ : ∃ w0, w0 = w.alloc (.cells #[Value.slice A h.objs.length d, Value.int .i64 h.cap, Value.int .i64 h.last] 24) := ⟨_, rfl⟩
  have HB0 : Hid (Below w.heap.size w w0) := by show Below _ _ _; rw [hw0]; exact below_alloc _ _
  have HX0 : Hid (Lies w0 w.heap.size 24 #[Value.slice A h.objs.length d, Value.int .i64 h.cap, Value.int .i64 h.last]) := by
    show Lies _ _ _ _
    rw [hw0]; exact Lies.new _ _ _
  have HS := hid hs
  have HSM := hid (may_any h A d w0 (hs.below HB0.out) fit)
  clear hs fit
  go_enter Try.func60, Try.ntmps60
  go_wp2_with fail
  rw [← hw0]
  clear hw0
  refine HSM.out.mono ?_
  rintro e1 w1 ⟨rfl, hb⟩
  have HB1 := hid (HB0.out.trans (hb.mono HB0.out.size))
  have HX1 := hid (HX0.out.later hb)
  clear hb HSM
  cases hm : mayB h
  · have E : Hid (lf9 h v = (0, 1)) := by show _ = _; unfold lf9; rw [if_pos hm]
    clear hm
    go_wp2_with fail
    go_ret2
    exact ⟨by rw [E.out]; rfl, HB1.out⟩
  · cases hn : nB v
    · have x0 := HX1.out.cell 0
      have x1 := HX1.out.cell 1
      have x2 := HX1.out.cell 2
      simp only [List.getElem?_toArray, List.getElem?_cons_zero, List.getElem?_cons_succ] at x0 x1 x2
      have E : Hid (lf9 h v = if refB h.objs.length v then ((obAt h v).cls, 0) else (0, 31)) := by
        show _ = _
        unfold lf9; rw [if_neg (by rw [hm]; decide), if_neg (by rw [hn]; decide)]
      clear hm
      go_wp2_with (go_at_call 65; refine (n_any _ _).mono ?_; rintro e w' ⟨rfl, rfl⟩)
      refine (pobj_any9 h v A d w w1 HS.out HB1.out).mono ?_
      rintro e2 w2 ⟨S, dd, rfl, -, -, hb⟩
      have HB2 := hid (HB1.out.trans (hb.mono HB1.out.size))
      clear hb x0 x1 x2 hn
      cases hr : refB h.objs.length v
      · have E2 : Hid (lf9 h v = (0, 31)) := by show _ = _; rw [E.out, hr]; rfl
        clear hr
        go_wp2_with fail
        go_ret2
        exact ⟨by rw [E2.out]; rfl, HB2.out.alloc HB2.out.size _⟩
      · have E2 : Hid (lf9 h v = ((obD9 h v).cls, 0)) := by show _ = _; rw [E.out, obD9_yes hr, hr]; rfl
        clear hr
        go_wp2_with fail
        go_ret2
        exact ⟨by rw [E2.out]; rfl, HB2.out.alloc HB2.out.size _⟩
    · have E : Hid (lf9 h v = (6, 0)) := by
        show _ = _
        unfold lf9; rw [if_neg (by rw [hm]; decide), if_pos hn]
      have hr3 : reV 3 = 6 := by decide
      clear hm
      go_wp2_with (first | (go_at_call 65; refine (n_any _ _).mono ?_; rintro e w' ⟨rfl, rfl⟩) | (go_at_call 55; refine (ref_any _ _).mono ?_; rintro e w' ⟨rfl, rfl⟩))
      go_ret2
      exact ⟨by rw [E.out]; rfl, HB1.out⟩
end Go.Proofs.Ytfdjghllnbiffaa
