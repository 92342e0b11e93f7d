/- The program's word on an object, and on what stands for none. -/
import Derived.Test.YtkpfmbdkfgeboaaGreatSC9
namespace Go.Proofs.YtkpfmbdkfgeboaaGreat
open Go.RowKit
set_option maxRecDepth 100000
/-- the object whose ref v is; of none a blank one -/
def obD9 (h : Hp) (v : Int) : Ob := if refB h.objs.length v then obAt h v else ⟨0, 0, [], ⟨#[]⟩, 0, 0⟩
theorem obD9_yes {h : Hp} {v : Int} (hr : refB h.objs.length v = true) : obD9 h v = obAt h v := by unfold obD9; rw [if_pos hr]
theorem obD9_no {h : Hp} {v : Int} (hr : refB h.objs.length v = false) : obD9 h v = ⟨0, 0, [], ⟨#[]⟩, 0, 0⟩ := by unfold obD9; rw [if_neg (by rw [hr]; decide)]
/-- an object is told, and a yes or no; its slots lie where they lay in an older memory -/
def OjP9 (u w : World) (o : Ob) (b : Bool) (e : Ending) (w' : World) : Prop :=
  ∃ S d, e = .returned (.tuple #[.agg #[.int .i64 o.cls, .int .i64 o.kind, .slice S o.slots.length d, .string o.text, .int .i64 o.bits, .int .i64 o.hash], .bool b]) ∧ IntsR u S o.slots ∧ o.slots.length ≤ d ∧ Below w.heap.size w w'
theorem isnone_any9 (v : Int) (w : World) : Calls Tryz.prog 173 #[.int .i64 v] w fun e w' => e = .returned (.bool (decide (v = 0))) ∧ w = w' := by
  cases ha : atB v
  · have e : decide (v = 0) = false := decide_eq_false (fun h => by subst h; exact absurd ha (by decide))
    rw [e]; clear e
    go_enter Tryz.func173, Tryz.ntmps173
    go_wp2_with (go_at_call 85; refine (at_any _ _).mono ?_; rintro e w' ⟨rfl, rfl⟩)
    go_ret; exact ⟨rfl, rfl⟩
  · have hv := atB_iff.1 ha
    have e : decide (v = 0) = (atV v == 0) := by
      have : atV v = v / 2 := by unfold atV; rw [if_pos ha]
      rw [this]
      by_cases h0 : v = 0
      · subst h0; decide
      · rw [decide_eq_false h0]; exact (beq_eq_false_iff_ne.2 (by omega)).symm
    rw [e]; clear e hv
    go_enter Tryz.func173, Tryz.ntmps173
    go_wp2_with (go_at_call 85; refine (at_any _ _).mono ?_; rintro e w' ⟨rfl, rfl⟩)
    go_ret; exact ⟨rfl, rfl⟩
set_option maxHeartbeats 1000000 in
theorem pobj_any9 (h : Hp) (v : Int) (A : Option Addr) (c : Nat) (u w : World) (hs : ObsR u A h.objs) (hu : Below u.heap.size u w) :
    Calls Tryz.prog 161 #[.agg #[.slice A h.objs.length c, .int .i64 h.cap, .int .i64 h.last], .int .i64 v] w (OjP9 u w (obD9 h v) (refB h.objs.length v)) := by
  obtain ⟨w0, hw0⟩ : ∃ w0, w0 = (w.alloc (.cells #[Value.slice A h.objs.length c, Value.int .i64 h.cap, Value.int .i64 h.last] 24)).alloc (.cells #[.int .i64 0, .int .i64 0, .slice none 0 0, .string ⟨#[]⟩, .int .i64 0, .int .i64 0] 41) := ⟨_, rfl⟩
  have HB0 : Hid (Below w.heap.size w w0) := by show Below _ _ _; rw [hw0]; exact below_alloc2 _ _ _
  have HX0 : Hid (Lies w0 w.heap.size 24 #[Value.slice A h.objs.length c, Value.int .i64 h.cap, Value.int .i64 h.last]) := by
    show Lies _ _ _ _
    rw [hw0]; exact (Lies.new _ _ _).alloc _
  have HK0 : Hid (Lies w0 (w.heap.size + 1) 41 #[.int .i64 0, .int .i64 0, .slice none 0 0, .string ⟨#[]⟩, .int .i64 0, .int .i64 0]) := by
    show Lies _ _ _ _
    have := Lies.new (w.alloc (.cells #[Value.slice A h.objs.length c, Value.int .i64 h.cap, Value.int .i64 h.last] 24)) 41 #[.int .i64 0, .int .i64 0, .slice none 0 0, .string ⟨#[]⟩, .int .i64 0, .int .i64 0]
    rw [hw0]; simpa using this
  have HS := hid hs
  have HU := hid hu
  have nil : ∀ W : World, IntsR W none [] := fun W hn => by simp at hn
  have NIL := hid nil
  clear hs hu nil
  go_enter Tryz.func161, Tryz.ntmps161
  go_upto_region 1 with fail
  rw [← hw0]
  clear hw0
  have x0 := HX0.out.cell 0
  have k0 := HK0.out.cell 0
  have k1 := HK0.out.cell 1
  have k2 := HK0.out.cell 2
  have k3 := HK0.out.cell 3
  have k4 := HK0.out.cell 4
  have k5 := HK0.out.cell 5
  have f0 := HK0.out.frozen 0
  have f1 := HK0.out.frozen 1
  have f2 := HK0.out.frozen 2
  have f3 := HK0.out.frozen 3
  have f4 := HK0.out.frozen 4
  have f5 := HK0.out.frozen 5
  simp only [List.getElem?_toArray, List.getElem?_cons_zero, List.getElem?_cons_succ] at x0 k0 k1 k2 k3 k4 k5
  go_wp2_with fail
  refine (at_any v _).mono ?_
  rintro e w1 ⟨rfl, rfl⟩
  have fin : ∀ (u0 u1 u2 u3 u4 u5 : Value), Below w.heap.size w ((((((w0.setCell ⟨w.heap.size + 1, 0, none⟩ u0).setCell ⟨w.heap.size + 1, 1, none⟩ u1).setCell ⟨w.heap.size + 1, 2, none⟩ u2).setCell ⟨w.heap.size + 1, 3, none⟩ u3).setCell ⟨w.heap.size + 1, 4, none⟩ u4).setCell ⟨w.heap.size + 1, 5, none⟩ u5) := fun u0 u1 u2 u3 u4 u5 => by
    have q : w.heap.size ≤ w.heap.size + 1 := by omega
    exact (((((HB0.out.setCell (p := ⟨w.heap.size + 1, 0, none⟩) q u0).setCell (p := ⟨w.heap.size + 1, 1, none⟩) q u1).setCell (p := ⟨w.heap.size + 1, 2, none⟩) q u2).setCell (p := ⟨w.heap.size + 1, 3, none⟩) q u3).setCell (p := ⟨w.heap.size + 1, 4, none⟩) q u4).setCell (p := ⟨w.heap.size + 1, 5, none⟩) q u5
  have FIN := hid fin
  clear fin
  have RES : ∀ (u0 u1 u2 u3 u4 u5 : Value), Hid (Lies ((((((w0.setCell ⟨w.heap.size + 1, 0, none⟩ u0).setCell ⟨w.heap.size + 1, 1, none⟩ u1).setCell ⟨w.heap.size + 1, 2, none⟩ u2).setCell ⟨w.heap.size + 1, 3, none⟩ u3).setCell ⟨w.heap.size + 1, 4, none⟩ u4).setCell ⟨w.heap.size + 1, 5, none⟩ u5) (w.heap.size + 1) 41 #[u0, u1, u2, u3, u4, u5]) := fun u0 u1 u2 u3 u4 u5 =>
    (((((HK0.out.set_ 0 u0).set_ 1 u1).set_ 2 u2).set_ 3 u3).set_ 4 u4).set_ 5 u5
  cases hr : refB h.objs.length v
  · have EO : Hid (obD9 h v = ⟨0, 0, [], ⟨#[]⟩, 0, 0⟩) := obD9_no hr
    have ER := hid hr
    have X1 := RES (.int .i64 0) (.int .i64 0) (.slice none 0 0) (.string ⟨#[]⟩) (.int .i64 0) (.int .i64 0)
    have r0 := X1.out.cell 0
    have r1 := X1.out.cell 1
    have r2 := X1.out.cell 2
    have r3 := X1.out.cell 3
    have r4 := X1.out.cell 4
    have r5 := X1.out.cell 5
    simp only [List.getElem?_toArray, List.getElem?_cons_zero, List.getElem?_cons_succ] at r0 r1 r2 r3 r4 r5
    have R0 := hid r0
    have R1 := hid r1
    have R2 := hid r2
    have R3 := hid r3
    have R4 := hid r4
    have R5 := hid r5
    clear r0 r1 r2 r3 r4 r5
    have done : OjP9 u w (obD9 h v) (refB h.objs.length v) (.returned (.tuple #[.agg #[.int .i64 0, .int .i64 0, .slice none 0 0, .string ⟨#[]⟩, .int .i64 0, .int .i64 0], .bool false])) ((((((w0.setCell ⟨w.heap.size + 1, 0, none⟩ (.int .i64 0)).setCell ⟨w.heap.size + 1, 1, none⟩ (.int .i64 0)).setCell ⟨w.heap.size + 1, 2, none⟩ (.slice none 0 0)).setCell ⟨w.heap.size + 1, 3, none⟩ (.string ⟨#[]⟩)).setCell ⟨w.heap.size + 1, 4, none⟩ (.int .i64 0)).setCell ⟨w.heap.size + 1, 5, none⟩ (.int .i64 0)) :=
      ⟨none, 0, by rw [EO.out, ER.out]; rfl, by rw [EO.out]; exact NIL.out _, by rw [EO.out]; exact Nat.le_refl _, FIN.out _ _ _ _ _ _⟩
    have DONE := hid done
    clear done
    cases ha : atB v
    · clear hr
      go_wp2_with fail
      refine bodyPost_ret (v := .tuple #[.agg #[.int .i64 0, .int .i64 0, .slice none 0 0, .string ⟨#[]⟩, .int .i64 0, .int .i64 0], .bool false]) (by simp [results, Tryz.results161, go_sem, R0.out, R1.out, R2.out, R3.out, R4.out, R5.out]) rfl ?_
      exact DONE.out
    · have hge : (h.objs.length : Int) ≤ atV v := by
        unfold refB at hr
        rw [ha] at hr
        have : ¬ atV v < (h.objs.length : Int) := by simpa using hr
        omega
      clear hr
      go_wp2_with fail
      refine bodyPost_ret (v := .tuple #[.agg #[.int .i64 0, .int .i64 0, .slice none 0 0, .string ⟨#[]⟩, .int .i64 0, .int .i64 0], .bool false]) (by simp [results, Tryz.results161, go_sem, R0.out, R1.out, R2.out, R3.out, R4.out, R5.out]) rfl ?_
      exact DONE.out
  · have EO : Hid (obD9 h v = obAt h v) := obD9_yes hr
    have ER := hid hr
    obtain ⟨i, b, off, S, dd, hi, hil, rfl, hc', hint, hsd⟩ := ob_read9 HS.out (Below.refl u.heap.size u) hr
    have hc := hc'.below (World.block_lt_of_cell? u _ hc'.c0) (HU.out.trans (HB0.out.mono HU.out.size))
    clear hc'
    have ha := (refB_no hr).1
    have hv : atV v = (i : Int) := by rw [← refI_nonneg hr]; exact hi
    have hlI : ¬ (h.objs.length : Int) ≤ (i : Int) := by omega
    have hlJ : (i : Int) < (h.objs.length : Int) := by omega
    have hlN : ¬ h.objs.length ≤ i := by omega
    obtain ⟨o, ho⟩ : ∃ o, o = obAt h v := ⟨_, rfl⟩
    rw [← ho] at hc hint hsd EO
    obtain ⟨c0, c1, c2, c3, c4, c5⟩ := hc
    have X1 := RES (.int .i64 o.cls) (.int .i64 o.kind) (.slice S o.slots.length dd) (.string o.text) (.int .i64 o.bits) (.int .i64 o.hash)
    have r0 := X1.out.cell 0
    have r1 := X1.out.cell 1
    have r2 := X1.out.cell 2
    have r3 := X1.out.cell 3
    have r4 := X1.out.cell 4
    have r5 := X1.out.cell 5
    simp only [List.getElem?_toArray, List.getElem?_cons_zero, List.getElem?_cons_succ] at r0 r1 r2 r3 r4 r5
    have R0 := hid r0
    have R1 := hid r1
    have R2 := hid r2
    have R3 := hid r3
    have R4 := hid r4
    have R5 := hid r5
    have HI := hid hint
    have HSD := hid hsd
    rw [hv]
    clear r0 r1 r2 r3 r4 r5 hr hi hil hint hsd ho hv
    go_wp2_with fail
    refine bodyPost_ret (v := .tuple #[.agg #[.int .i64 o.cls, .int .i64 o.kind, .slice S o.slots.length dd, .string o.text, .int .i64 o.bits, .int .i64 o.hash], .bool true]) (by simp [results, Tryz.results161, go_sem, R0.out, R1.out, R2.out, R3.out, R4.out, R5.out]) rfl ?_
    exact ⟨S, dd, by rw [EO.out, ER.out], by rw [EO.out]; exact HI.out, by rw [EO.out]; exact HSD.out, FIN.out _ _ _ _ _ _⟩
end Go.Proofs.YtkpfmbdkfgeboaaGreat
