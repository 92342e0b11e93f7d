/- Package look's Find. -/
import Derived.Test.YtcahdhocilmoeaaTH9
namespace Go.Proofs.Ytcahdhocilmoeaa
open Go.RowKit
set_option maxRecDepth 100000
set_option maxHeartbeats 1000000 in
theorem lfind_any9 (h : Hp) (c s : Int) (A : Option Addr) (d : Nat) (w : World) (hs : ObsR w A h.objs) (fit : h.Fit) :
    Calls Try.prog 68 #[.agg #[.slice A h.objs.length d, .int .i64 h.cap, .int .i64 h.last], .int .i64 c, .int .i64 s] w fun e w' => e = .returned (.tuple #[.int .i64 (lk9 h c s).1, .int .i64 (lk9 h c s).2.1, .int .i64 (lk9 h c s).2.2]) ∧ Below w.heap.size w w' := by
  cases hm : mayB h
  · obtain ⟨w0, hw0⟩ : ∃ w0, w0 = (((((w.alloc (.cells #[Value.slice A h.objs.length d, Value.int .i64 h.cap, Value.int .i64 h.last] 24)).alloc (.cells #[.int .i64 s] 3)).alloc (.cells #[.int .i64 0] 3)).alloc (.cells #[.int .i64 0] 3)).alloc (.cells #[.int .i64 0] 29)) := ⟨_, rfl⟩
    have HB0 : Hid (Below w.heap.size w w0) := by
      show Below _ _ _
      rw [hw0]
      exact (((below_alloc2 _ _ _).alloc (by simp; omega) _).alloc (by simp; omega) _).alloc (by simp; omega) _
    have H20 : Hid (Lies w0 (w.heap.size + 1 + 1) 3 #[.int .i64 0]) := by
      show Lies _ _ _ _
      have := (((Lies.new ((w.alloc (.cells #[Value.slice A h.objs.length d, Value.int .i64 h.cap, Value.int .i64 h.last] 24)).alloc (.cells #[.int .i64 s] 3)) 3 #[.int .i64 0]).alloc (.cells #[.int .i64 0] 3)).alloc (.cells #[.int .i64 0] 29))
      rw [hw0]; simpa using this
    have H30 : Hid (Lies w0 (w.heap.size + 1 + 1 + 1) 3 #[.int .i64 0]) := by
      show Lies _ _ _ _
      have := ((Lies.new (((w.alloc (.cells #[Value.slice A h.objs.length d, Value.int .i64 h.cap, Value.int .i64 h.last] 24)).alloc (.cells #[.int .i64 s] 3)).alloc (.cells #[.int .i64 0] 3)) 3 #[.int .i64 0]).alloc (.cells #[.int .i64 0] 29))
      rw [hw0]; simpa using this
    have H40 : Hid (Lies w0 (w.heap.size + 1 + 1 + 1 + 1) 29 #[.int .i64 0]) := by
      show Lies _ _ _ _
      have := (Lies.new ((((w.alloc (.cells #[Value.slice A h.objs.length d, Value.int .i64 h.cap, Value.int .i64 h.last] 24)).alloc (.cells #[.int .i64 s] 3)).alloc (.cells #[.int .i64 0] 3)).alloc (.cells #[.int .i64 0] 3)) 29 #[.int .i64 0])
      rw [hw0]; simpa using this
    have E : Hid (lk9 h c s = (0, 0, 1)) := by show _ = _; unfold lk9; rw [hm]; rfl
    have HSM := hid (hm ▸ may_any h A d w0 (hs.below HB0.out) fit)
    clear hs fit hm
    go_enter Try.func68, Try.ntmps68
    go_wp2_with fail
    rw [← hw0]
    clear hw0
    refine HSM.out.mono ?_
    rintro e1 w1 ⟨rfl, hb⟩
    have HB1 := hid (HB0.out.trans (hb.mono HB0.out.size))
    have K2 := hid (H20.out.later hb)
    have K3 := hid (H30.out.later hb)
    have K4 := hid (H40.out.later hb)
    clear hb HSM
    have r0 := K2.out.cell 0
    have r1 := K3.out.cell 0
    have r2 := K4.out.cell 0
    have f0 := K2.out.frozen 0
    have f1 := K3.out.frozen 0
    have f2 := K4.out.frozen 0
    simp only [List.getElem?_toArray, List.getElem?_cons_zero] at r0 r1 r2
    go_wp2_with fail
    obtain ⟨-, q2, q3, q4, q5⟩ := res3_9 (w := w) (W := w1) (v := 0) (at_ := 0) (er := 1) K2.out K3.out K4.out HB1.out
    refine bodyPost_ret (v := .tuple #[.int .i64 0, .int .i64 0, .int .i64 1]) (by simp [results, Try.results68, go_sem, q2, q3, q4]) rfl ?_
    exact ⟨by rw [E.out], q5⟩
  · rw [lk9_may hm]
    exact lfind_yes9 h c s A d w hs fit hm
end Go.Proofs.Ytcahdhocilmoeaa
