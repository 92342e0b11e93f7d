/- The document's word Same, of any two heaps: just if they are the same. -/
import Derived.Test.YthggafdfglojaaaRD
namespace Go.Proofs.Ythggafdfglojaaa
open Go.RowKit
set_option maxRecDepth 100000
set_option maxHeartbeats 1500000 in
theorem same_all (a b : Hp) (A B : Option Addr) (c c' : Nat) (w : World) (hs : ObsR w A a.objs) (ht : ObsR w B b.objs) (fa : a.Fit) (fb : b.Fit) :
    Calls Try.prog 28 #[.agg #[.slice A a.objs.length c, .int .i64 a.cap, .int .i64 a.last], .agg #[.slice B b.objs.length c', .int .i64 b.cap, .int .i64 b.last]] w fun e w' => (∃ x : Bool, e = .returned (.bool x) ∧ (x = true ↔ a = b)) ∧ Below w.heap.size w w' := by
  by_cases hc : a.cap = b.cap
  · by_cases hl : a.last = b.last
    · refine (same_dec a b A B c c' w hs ht fa fb hc hl).mono fun e w' ⟨⟨x, he, hx⟩, hb⟩ => ⟨⟨x, he, ?_⟩, hb⟩
      rw [hx]
      constructor
      · intro h; cases a; cases b; simp_all
      · intro h; rw [h]
    · obtain ⟨w0, hw0⟩ : ∃ w0, w0 = (w.alloc (.cells #[Value.slice A a.objs.length c, Value.int .i64 a.cap, Value.int .i64 a.last] 24)).alloc (.cells #[Value.slice B b.objs.length c', Value.int .i64 b.cap, Value.int .i64 b.last] 24) := ⟨_, rfl⟩
      have HB : Hid (Below w.heap.size w w0) := by show Below _ _ _; rw [hw0]; exact below_alloc2 w _ _
      have hX : Lies w0 w.heap.size 24 #[Value.slice A a.objs.length c, Value.int .i64 a.cap, Value.int .i64 a.last] := by rw [hw0]; exact (Lies.new w 24 _).alloc _
      have hY : Lies w0 (w.heap.size + 1) 24 #[Value.slice B b.objs.length c', Value.int .i64 b.cap, Value.int .i64 b.last] := by
        rw [hw0]
        have := Lies.new (w.alloc (.cells #[Value.slice A a.objs.length c, Value.int .i64 a.cap, Value.int .i64 a.last] 24)) 24 #[Value.slice B b.objs.length c', Value.int .i64 b.cap, Value.int .i64 b.last]
        simpa using this
      have HN := hid (show ¬ a = b from fun e => hl (by rw [e]))
      have HC := hid hc
      have HL := hid hl
      clear hs ht fa fb hc hl
      go_enter Try.func28, Try.ntmps28
      go_upto_region 1 with fail
      rw [← hw0]
      clear hw0
      have x0 := hX.cell 0
      have x1 := hX.cell 1
      have x2 := hX.cell 2
      have y0 := hY.cell 0
      have y1 := hY.cell 1
      have y2 := hY.cell 2
      simp only [List.getElem?_toArray, List.getElem?_cons_zero, List.getElem?_cons_succ] at x0 x1 x2 y0 y1 y2
      have hc := HC.out
      have hl := HL.out
      clear hX hY
      go_wp2
      go_ret
      exact ⟨⟨false, rfl, by simpa using HN.out⟩, HB.out⟩
  · obtain ⟨w0, hw0⟩ : ∃ w0, w0 = (w.alloc (.cells #[Value.slice A a.objs.length c, Value.int .i64 a.cap, Value.int .i64 a.last] 24)).alloc (.cells #[Value.slice B b.objs.length c', Value.int .i64 b.cap, Value.int .i64 b.last] 24) := ⟨_, rfl⟩
    have HB : Hid (Below w.heap.size w w0) := by show Below _ _ _; rw [hw0]; exact below_alloc2 w _ _
    have hX : Lies w0 w.heap.size 24 #[Value.slice A a.objs.length c, Value.int .i64 a.cap, Value.int .i64 a.last] := by rw [hw0]; exact (Lies.new w 24 _).alloc _
    have hY : Lies w0 (w.heap.size + 1) 24 #[Value.slice B b.objs.length c', Value.int .i64 b.cap, Value.int .i64 b.last] := by
      rw [hw0]
      have := Lies.new (w.alloc (.cells #[Value.slice A a.objs.length c, Value.int .i64 a.cap, Value.int .i64 a.last] 24)) 24 #[Value.slice B b.objs.length c', Value.int .i64 b.cap, Value.int .i64 b.last]
      simpa using this
    have HN := hid (show ¬ a = b from fun e => hc (by rw [e]))
    have HC := hid hc
    clear hs ht fa fb hc
    go_enter Try.func28, Try.ntmps28
    go_upto_region 1 with fail
    rw [← hw0]
    clear hw0
    have x0 := hX.cell 0
    have x1 := hX.cell 1
    have x2 := hX.cell 2
    have y0 := hY.cell 0
    have y1 := hY.cell 1
    have y2 := hY.cell 2
    simp only [List.getElem?_toArray, List.getElem?_cons_zero, List.getElem?_cons_succ] at x0 x1 x2 y0 y1 y2
    have hc := HC.out
    clear hX hY
    go_wp2
    go_ret
    exact ⟨⟨false, rfl, by simpa using HN.out⟩, HB.out⟩
end Go.Proofs.Ythggafdfglojaaa
