/- Insert and Append. -/
import Derived.Test.YtkpfmbdkfgeboaaRP14
namespace Go.Proofs.Ytkpfmbdkfgeboaa
open Go.RowKit
set_option maxRecDepth 100000
set_option maxHeartbeats 2000000 in
theorem pinsert_any14 (h : Hp) (f p : Int) (A : Option Addr) (c : Nat) (w : World) (hs : ObsR w A h.objs) (fit : h.Fit) :
    Calls Try.prog 11 #[.agg #[.slice A h.objs.length c, .int .i64 h.cap, .int .i64 h.last], .int .i64 f, .int .i64 p] w (HO14 w (is14 h f p)) := by
  obtain ⟨w0, hw0⟩ : ∃ u, u = ((w.alloc (.cells #[Value.slice A h.objs.length c, Value.int .i64 h.cap, Value.int .i64 h.last] 24)).alloc (.cells #[.int .i64 p] 3)).alloc (.cells #[.slice none 0 0, .int .i64 0, .int .i64 0] 24) := ⟨_, rfl⟩
  obtain ⟨bR, hbR⟩ : ∃ x, x = w.heap.size + 2 := ⟨_, rfl⟩
  have HB0 : Hid (Below w.heap.size w w0) := by
    show Below _ _ _
    rw [hw0]
    exact (below_alloc2 w _ _).trans ((below_alloc _ _).mono (by simp; omega))
  have HX0 : Hid (Lies w0 w.heap.size 24 #[Value.slice A h.objs.length c, Value.int .i64 h.cap, Value.int .i64 h.last]) := by
    show Lies _ _ _ _
    rw [hw0]; exact ((Lies.new _ _ _).alloc _).alloc _
  have HP0 : Hid (Lies w0 (w.heap.size + 1) 3 #[.int .i64 p]) := by
    show Lies _ _ _ _
    have := (Lies.new (w.alloc (.cells #[Value.slice A h.objs.length c, Value.int .i64 h.cap, Value.int .i64 h.last] 24)) 3 #[.int .i64 p]).alloc (.cells #[.slice none 0 0, .int .i64 0, .int .i64 0] 24)
    rw [hw0]; simpa using this
  have HR0 : Hid (Lies w0 bR 24 #[.slice none 0 0, .int .i64 0, .int .i64 0]) := by
    show Lies _ _ _ _
    have := Lies.new (((w.alloc (.cells #[Value.slice A h.objs.length c, Value.int .i64 h.cap, Value.int .i64 h.last] 24)).alloc (.cells #[.int .i64 p] 3))) 24 #[.slice none 0 0, .int .i64 0, .int .i64 0]
    rw [hw0, hbR]; simpa using this
  have HRW : Hid (w.heap.size ≤ bR) := by show _ ≤ _; omega
  have HC : Hid (Calls Try.prog 29 #[.agg #[.slice A h.objs.length c, .int .i64 h.cap, .int .i64 h.last], .int .i64 f, .int .i64 p, .func (.func 30) #[] #[.pointer (some ⟨w.heap.size, 0, none⟩), .pointer (some ⟨w.heap.size + 1, 0, none⟩)]] w0 (HO14 w0 (is14 h f p))) := by
    refine pjoined_any14 h f p A c _ _ w0 (hs.below HB0.out) fit ?_
    intro W l S d hb hr hl hpc hp
    exact pidx_ins14 l S d W hr hl h p A c _ _ w hs (HB0.out.trans (hb.mono HB0.out.size)) (HX0.out.later hb) (HP0.out.later hb) hpc hp
  obtain ⟨rr, hrr⟩ : ∃ r, r = is14 h f p := ⟨_, rfl⟩
  rw [← hrr] at HC ⊢
  clear hrr hs fit
  go_enter Try.func11, Try.ntmps11
  go_upto_region 1 with fail
  rw [← hw0, ← hbR]
  clear hw0 hbR
  obtain ⟨x0, x1, x2⟩ := HX0.out.c3
  have p0 := HP0.out.cell 0
  simp only [List.getElem?_toArray, List.getElem?_cons_zero] at p0
  go_wp2_with fail
  refine HC.out.mono ?_
  rintro e wu ⟨Au, cu, lu, rfl, hlu, hou, hbu⟩
  have HKu := hid (HR0.out.later hbu)
  have HBu := hid (then_w HB0.out hbu)
  have HOu := hid hou
  have HLu := hid hlu
  clear hou hbu hlu x0 x1 x2
  obtain ⟨k0, k1, k2⟩ := HKu.out.c3
  obtain ⟨f0, f1, f2⟩ := HKu.out.f3
  go_wp2_with fail
  obtain ⟨s1, s2, s3⟩ := set3_14 HKu.out HOu.out HBu.out HRW.out (.slice Au rr.1.objs.length cu) (.int .i64 rr.1.cap) (.int .i64 rr.1.last)
  obtain ⟨r0, r1, r2⟩ := s1.c3
  refine bodyPost_ret (v := .tuple #[.agg #[.slice Au rr.1.objs.length cu, .int .i64 rr.1.cap, .int .i64 rr.1.last], .int .i64 rr.2.1, .int .i64 rr.2.2]) (by simp [results, Try.results11, go_sem, r0, r1, r2]) rfl ?_
  exact ⟨Au, cu, lu, rfl, HLu.out, s2.lower HB0.out.size, s3⟩
set_option maxHeartbeats 2000000 in
theorem pappend_any14 (h : Hp) (f p : Int) (A : Option Addr) (c : Nat) (w : World) (hs : ObsR w A h.objs) (fit : h.Fit) :
    Calls Try.prog 12 #[.agg #[.slice A h.objs.length c, .int .i64 h.cap, .int .i64 h.last], .int .i64 f, .int .i64 p] w (HO14 w (ap14 h f p)) := by
  obtain ⟨w0, hw0⟩ : ∃ u, u = (w.alloc (.cells #[Value.slice A h.objs.length c, Value.int .i64 h.cap, Value.int .i64 h.last] 24)).alloc (.cells #[.slice none 0 0, .int .i64 0, .int .i64 0] 24) := ⟨_, rfl⟩
  obtain ⟨bR, hbR⟩ : ∃ x, x = w.heap.size + 1 := ⟨_, rfl⟩
  have HB0 : Hid (Below w.heap.size w w0) := by
    show Below _ _ _
    rw [hw0]
    exact below_alloc2 w _ _
  have HX0 : Hid (Lies w0 w.heap.size 24 #[Value.slice A h.objs.length c, Value.int .i64 h.cap, Value.int .i64 h.last]) := by
    show Lies _ _ _ _
    rw [hw0]; exact (Lies.new _ _ _).alloc _
  have HR0 : Hid (Lies w0 bR 24 #[.slice none 0 0, .int .i64 0, .int .i64 0]) := by
    show Lies _ _ _ _
    have := Lies.new ((w.alloc (.cells #[Value.slice A h.objs.length c, Value.int .i64 h.cap, Value.int .i64 h.last] 24))) 24 #[.slice none 0 0, .int .i64 0, .int .i64 0]
    rw [hw0, hbR]; simpa using this
  have HRW : Hid (w.heap.size ≤ bR) := by show _ ≤ _; omega
  have HC : Hid (Calls Try.prog 29 #[.agg #[.slice A h.objs.length c, .int .i64 h.cap, .int .i64 h.last], .int .i64 f, .int .i64 p, .func (.func 32) #[] #[]] w0 (HO14 w0 (ap14 h f p))) := by
    refine pjoined_any14 h f p A c _ _ w0 (hs.below HB0.out) fit ?_
    intro W l S d hb hr hl hpc hp
    exact pidx_app14 l S d W hr hl
  obtain ⟨rr, hrr⟩ : ∃ r, r = ap14 h f p := ⟨_, rfl⟩
  rw [← hrr] at HC ⊢
  clear hrr hs fit
  go_enter Try.func12, Try.ntmps12
  go_upto_region 1 with fail
  rw [← hw0, ← hbR]
  clear hw0 hbR
  obtain ⟨x0, x1, x2⟩ := HX0.out.c3
  skip
  skip
  go_wp2_with fail
  refine HC.out.mono ?_
  rintro e wu ⟨Au, cu, lu, rfl, hlu, hou, hbu⟩
  have HKu := hid (HR0.out.later hbu)
  have HBu := hid (then_w HB0.out hbu)
  have HOu := hid hou
  have HLu := hid hlu
  clear hou hbu hlu x0 x1 x2
  obtain ⟨k0, k1, k2⟩ := HKu.out.c3
  obtain ⟨f0, f1, f2⟩ := HKu.out.f3
  go_wp2_with fail
  obtain ⟨s1, s2, s3⟩ := set3_14 HKu.out HOu.out HBu.out HRW.out (.slice Au rr.1.objs.length cu) (.int .i64 rr.1.cap) (.int .i64 rr.1.last)
  obtain ⟨r0, r1, r2⟩ := s1.c3
  refine bodyPost_ret (v := .tuple #[.agg #[.slice Au rr.1.objs.length cu, .int .i64 rr.1.cap, .int .i64 rr.1.last], .int .i64 rr.2.1, .int .i64 rr.2.2]) (by simp [results, Try.results12, go_sem, r0, r1, r2]) rfl ?_
  exact ⟨Au, cu, lu, rfl, HLu.out, s2.lower HB0.out.size, s3⟩
end Go.Proofs.Ytkpfmbdkfgeboaa
