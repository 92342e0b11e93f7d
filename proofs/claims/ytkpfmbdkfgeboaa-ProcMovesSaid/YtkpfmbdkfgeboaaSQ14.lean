/- May and Sem. -/
import Derived.Test.YtkpfmbdkfgeboaaRS14
namespace Go.Proofs.Ytkpfmbdkfgeboaa
open Go.RowKit
set_option maxRecDepth 100000
theorem pmay_any14 (h : Hp) (p : Int) (A : Option Addr) (c : Nat) (w : World) (hs : ObsR w A h.objs) (fit : h.Fit) (hm : mayB h = true) :
    Calls Try.prog 20 #[.agg #[.slice A h.objs.length c, .int .i64 h.cap, .int .i64 h.last], .int .i64 p] w fun e w' => e = .returned (.bool (pc14 h p)) ∧ Below w.heap.size w w' := by
  obtain ⟨w0, hw0⟩ : ∃ w0, w0 = w.alloc (.cells #[Value.slice A h.objs.length c, Value.int .i64 h.cap, Value.int .i64 h.last] 24) := ⟨_, rfl⟩
  have HB0 : Hid (Below w.heap.size w w0) := by show Below _ _ _; rw [hw0]; exact below_alloc _ _
  have HX0 : Hid (Lies w0 w.heap.size 24 #[Value.slice A h.objs.length c, Value.int .i64 h.cap, Value.int .i64 h.last]) := by
    show Lies _ _ _ _
    rw [hw0]; exact Lies.new _ _ _
  have HS := hid hs
  have HF := hid fit
  clear hs fit
  go_enter Try.func20, Try.ntmps20
  go_upto_region 1 with fail
  rw [← hw0]
  clear hw0
  obtain ⟨x0, x1, x2⟩ := HX0.out.c3
  go_wp2_with fail
  refine (may_any h A c w0 (HS.out.below HB0.out) HF.out).mono ?_
  rintro e w1 ⟨rfl, hb⟩
  have HB1 := hid (then_w HB0.out hb)
  have HX1 := hid (HX0.out.later hb)
  clear hb x0 x1 x2
  rw [hm]
  clear hm
  obtain ⟨x0, x1, x2⟩ := HX1.out.c3
  go_wp2_with fail
  refine (pisproc_any14 h p A c w w1 HS.out HB1.out).mono ?_
  rintro e w2 ⟨rfl, hb⟩
  have HB2 := hid (then_w HB1.out hb)
  clear hb x0 x1 x2
  go_wp2_with fail
  go_ret
  exact ⟨rfl, HB2.out⟩
theorem list2_14 {l : List Int} (h : l.length = 2) : ∃ a b, l = [a, b] := by
  match l, h with
  | [a, b], _ => exact ⟨a, b, rfl⟩
theorem psem_any14 (h : Hp) (v : Int) (A : Option Addr) (c : Nat) (w : World) (hs : ObsR w A h.objs) (fit : h.Fit) (hm : mayB h = true) :
    Calls Try.prog 21 #[.agg #[.slice A h.objs.length c, .int .i64 h.cap, .int .i64 h.last], .int .i64 v] w fun e w' => e = .returned (.bool (sm14 h v)) ∧ Below w.heap.size w w' := by
  obtain ⟨w0, hw0⟩ : ∃ w0, w0 = w.alloc (.cells #[Value.slice A h.objs.length c, Value.int .i64 h.cap, Value.int .i64 h.last] 24) := ⟨_, rfl⟩
  have HB0 : Hid (Below w.heap.size w w0) := by show Below _ _ _; rw [hw0]; exact below_alloc _ _
  have HX0 : Hid (Lies w0 w.heap.size 24 #[Value.slice A h.objs.length c, Value.int .i64 h.cap, Value.int .i64 h.last]) := by
    show Lies _ _ _ _
    rw [hw0]; exact Lies.new _ _ _
  have HS := hid hs
  have HF := hid fit
  clear hs fit
  obtain ⟨r, hr⟩ : ∃ r, r = sm14 h v := ⟨_, rfl⟩
  rw [← hr]
  have HR := hid hr
  clear hr
  go_enter Try.func21, Try.ntmps21
  go_upto_region 1 with fail
  rw [← hw0]
  clear hw0
  obtain ⟨x0, x1, x2⟩ := HX0.out.c3
  go_wp2_with fail
  refine (may_any h A c w0 (HS.out.below HB0.out) HF.out).mono ?_
  rintro e w1 ⟨rfl, hb⟩
  have HB1 := hid (then_w HB0.out hb)
  have HX1 := hid (HX0.out.later hb)
  clear hb x0 x1 x2
  rw [hm]
  clear hm
  obtain ⟨x0, x1, x2⟩ := HX1.out.c3
  go_wp2_with fail
  refine (pinst_any14 h v 8 2 A c w w1 HS.out HB1.out (by decide)).mono ?_
  rintro e w2 ⟨S, n, d, rfl, hsl, hb⟩
  have HB2 := hid (then_w HB1.out hb)
  clear hb x0 x1 x2 HB0 HX0
  cases hi : in14 h v 8 2
  · have HR2 : Hid (r = false) := by show _ = _; rw [HR.out]; unfold sm14; rw [hi]; rfl
    clear hi hsl
    go_wp2_with fail
    go_ret
    exact ⟨by rw [HR2.out]; rfl, HB2.out⟩
  · obtain ⟨i1, i2, i3⟩ := in_len14 hi
    obtain ⟨rfl, hin⟩ := hsl i1
    have hl2 : (obAt h v).slots.length = 2 := by omega
    obtain ⟨a, b, hsl⟩ := list2_14 hl2
    have HR2 : Hid (r = (wi14 a 1073741823 && atB b)) := by
      show _ = _
      rw [HR.out]; unfold sm14 sl14; rw [hi, hsl]; rfl
    rw [hsl] at hin ⊢
    obtain ⟨bs, os, rfl, hbs, hcs⟩ := hin (by simp)
    have c0 := HB2.out.cell (p := ⟨bs, os + 0, none⟩) hbs
    have c1 := HB2.out.cell (p := ⟨bs, os + 1, none⟩) hbs
    rw [hcs 0 a rfl] at c0
    rw [hcs 1 b rfl] at c1
    simp only [Nat.add_zero] at c0
    clear hcs hsl hl2 i1 i2 i3 hi HR
    cases g1 : wi14 a 1073741823
    · rw [g1] at HR2
      go_wp2_with fail
      refine (piswithin_any14 _ _ _).mono ?_
      rintro e w3 ⟨rfl, rfl⟩
      rw [g1]
      clear g1
      go_wp2_with fail
      go_ret
      exact ⟨by rw [HR2.out]; rfl, HB2.out⟩
    · rw [g1] at HR2
      go_wp2_with fail
      refine (piswithin_any14 _ _ _).mono ?_
      rintro e w3 ⟨rfl, rfl⟩
      rw [g1]
      clear g1
      go_wp2_with fail
      refine (pisref_any14 _ _).mono ?_
      rintro e w3 ⟨rfl, rfl⟩
      go_wp2_with fail
      go_ret
      exact ⟨by rw [HR2.out]; rfl, HB2.out⟩
end Go.Proofs.Ytkpfmbdkfgeboaa
