/- Whether a value is a process. -/
import Derived.Test.YtkpfmbdkfgeboaaPC14
namespace Go.Proofs.Ytkpfmbdkfgeboaa
open Go.RowKit
set_option maxRecDepth 100000
theorem list4_14 {l : List Int} (h : l.length = 4) : ∃ a b c d, l = [a, b, c, d] := by
  match l, h with
  | [a, b, c, d], _ => exact ⟨a, b, c, d, rfl⟩
theorem in_len14 {h : Hp} {v cl sz : Int} (e : in14 h v cl sz = true) : refB h.objs.length v = true ∧ (obAt h v).cls = 2 * cl ∧ ((obAt h v).slots.length : Int) = sz := by
  unfold in14 at e
  simp only [Bool.and_eq_true, decide_eq_true_eq] at e
  exact e
set_option maxHeartbeats 1000000 in
theorem pisproc_any14 (h : Hp) (v : Int) (A : Option Addr) (c : Nat) (u w : World) (hs : ObsR u A h.objs) (hu : Below u.heap.size u w) :
    Calls Try.prog 39 #[.agg #[.slice A h.objs.length c, .int .i64 h.cap, .int .i64 h.last], .int .i64 v] w fun e w' => e = .returned (.bool (pc14 h v)) ∧ Below w.heap.size w w' := by
  obtain ⟨w0, hw0⟩ : ∃ w0, w0 = w.alloc (.cells #[Value.slice A h.objs.length c, Value.int .i64 h.cap, Value.int .i64 h.last] 24) := ⟨_, rfl⟩
  have HB0 : Hid (Below w.heap.size w w0) := by show Below _ _ _; rw [hw0]; exact below_alloc _ _
  have HX0 : Hid (Lies w0 w.heap.size 24 #[Value.slice A h.objs.length c, Value.int .i64 h.cap, Value.int .i64 h.last]) := by
    show Lies _ _ _ _
    rw [hw0]; exact Lies.new _ _ _
  have HS := hid hs
  have HU0 : Hid (Below u.heap.size u w0) := hu.trans (HB0.out.mono hu.size)
  obtain ⟨r, hr⟩ : ∃ r, r = pc14 h v := ⟨_, rfl⟩
  rw [← hr]
  have HR := hid hr
  clear hs hu hr
  go_enter Try.func39, Try.ntmps39
  go_upto_region 1 with fail
  rw [← hw0]
  clear hw0
  obtain ⟨x0, x1, x2⟩ := HX0.out.c3
  go_wp2_with fail
  refine (pinst_any14 h v 7 4 A c u w0 HS.out HU0.out (by decide)).mono ?_
  rintro e w1 ⟨S, n, d, rfl, hsl, hb⟩
  have HB1 := hid (HB0.out.trans (hb.mono HB0.out.size))
  have HU1 := hid (HU0.out.trans (hb.mono HU0.out.size))
  clear hb x0 x1 x2 HB0 HX0 HU0
  cases hi : in14 h v 7 4
  · have HR2 : Hid (r = false) := by show _ = _; rw [HR.out]; unfold pc14; rw [hi]; rfl
    clear hi hsl
    go_wp2_with fail
    go_ret
    exact ⟨by rw [HR2.out]; rfl, HB1.out⟩
  · obtain ⟨i1, i2, i3⟩ := in_len14 hi
    obtain ⟨rfl, hin⟩ := hsl i1
    have hl4 : (obAt h v).slots.length = 4 := by omega
    obtain ⟨a, b, p, q, hsl⟩ := list4_14 hl4
    have HR2 : Hid (r = (wi14 p 7 && (atB a && (atB b && atB q)))) := by
      show _ = _
      rw [HR.out]; unfold pc14 sl14; rw [hi, hsl]; rfl
    rw [hsl] at hin ⊢
    obtain ⟨bs, os, rfl, hbs, hcs⟩ := hin (by simp)
    have c0 := HU1.out.cell (p := ⟨bs, os + 0, none⟩) hbs
    have c1 := HU1.out.cell (p := ⟨bs, os + 1, none⟩) hbs
    have c2 := HU1.out.cell (p := ⟨bs, os + 2, none⟩) hbs
    have c3 := HU1.out.cell (p := ⟨bs, os + 3, none⟩) hbs
    rw [hcs 0 a rfl] at c0
    rw [hcs 1 b rfl] at c1
    rw [hcs 2 p rfl] at c2
    rw [hcs 3 q rfl] at c3
    simp only [Nat.add_zero] at c0
    clear hcs hsl hl4 i1 i2 i3 hi HR
    cases g1 : wi14 p 7
    · rw [g1] at HR2
      go_wp2_with fail
      refine (piswithin_any14 _ _ _).mono ?_
      rintro e w2 ⟨rfl, rfl⟩
      rw [g1]
      clear g1
      go_wp2_with fail
      go_ret
      exact ⟨by rw [HR2.out]; rfl, HB1.out⟩
    · rw [g1] at HR2
      go_wp2_with fail
      refine (piswithin_any14 _ _ _).mono ?_
      rintro e w2 ⟨rfl, rfl⟩
      rw [g1]
      clear g1
      go_wp2_with fail
      refine (pisref_any14 _ _).mono ?_
      rintro e w2 ⟨rfl, rfl⟩
      cases g2 : atB a
      · rw [g2] at HR2
        clear g2
        go_wp2_with fail
        go_ret
        exact ⟨by rw [HR2.out]; rfl, HB1.out⟩
      · rw [g2] at HR2
        clear g2
        go_wp2_with fail
        refine (pisref_any14 _ _).mono ?_
        rintro e w2 ⟨rfl, rfl⟩
        cases g3 : atB b
        · rw [g3] at HR2
          clear g3
          go_wp2_with fail
          go_ret
          exact ⟨by rw [HR2.out]; rfl, HB1.out⟩
        · rw [g3] at HR2
          clear g3
          go_wp2_with fail
          refine (pisref_any14 _ _).mono ?_
          rintro e w2 ⟨rfl, rfl⟩
          go_wp2_with fail
          go_ret
          exact ⟨by rw [HR2.out]; rfl, HB1.out⟩
end Go.Proofs.Ytkpfmbdkfgeboaa
