/- The program's word on an object, and on what stands for none. The program's word on what is a dictionary. Pairs, looked through two by two; what is found where one stands. -/
import Derived.Test.YtnilempeldlieaaGreatJ11
import Derived.Test.YtnilempeldlieaaGreatJ06
import Derived.Test.YtnilempeldlieaaGreatJ01
namespace Go.Proofs.YtnilempeldlieaaGreat
open Go.RowKit
set_option maxRecDepth 100000
def obD9 (h : Hp) (v : Int) : Ob := if refB h.objs.length v then obAt h v else ⟨0, 0, [], ⟨#[]⟩, 0, 0⟩
theorem obD9_yes {h : Hp} {v : Int} (hr : refB h.objs.length v = true) : obD9 h v = obAt h v := by unfold obD9; rw [if_pos hr]
theorem obD9_no {h : Hp} {v : Int} (hr : refB h.objs.length v = false) : obD9 h v = ⟨0, 0, [], ⟨#[]⟩, 0, 0⟩ := by unfold obD9; rw [if_neg (by rw [hr]; decide)]
def OjP9 (u w : World) (o : Ob) (b : Bool) (e : Ending) (w' : World) : Prop :=
  ∃ S d, e = .returned (.tuple #[.agg #[.int .i64 o.cls, .int .i64 o.kind, .slice S o.slots.length d, .string o.text, .int .i64 o.bits, .int .i64 o.hash], .bool b]) ∧ IntsR u S o.slots ∧ o.slots.length ≤ d ∧ Below w.heap.size w w'
theorem isnone_any9 (v : Int) (w : World) : Calls Tryz.prog 247 #[.int .i64 v] w fun e w' => e = .returned (.bool (decide (v = 0))) ∧ w = w' := by
  cases ha : atB v
  next =>
   have e : decide (v = 0) = false := decide_eq_false (fun h => by subst h; exact absurd ha (by decide))
   rw [e]; clear e
   go_enter Tryz.func247, Tryz.ntmps247
   go_wp2_with (go_at_call 110; refine (at_any _ _).mono ?_; rintro e w' ⟨rfl, rfl⟩)
   go_ret; exact ⟨rfl, rfl⟩
  next =>
   have hv := atB_iff.1 ha
   have e : decide (v = 0) = (atV v == 0) := by
     have : atV v = v / 2 := by unfold atV; rw [if_pos ha]
     rw [this]
     by_cases h0 : v = 0
     next =>
      subst h0; decide
     next =>
      rw [decide_eq_false h0]; exact (beq_eq_false_iff_ne.2 (by omega)).symm
   rw [e]; clear e hv
   go_enter Tryz.func247, Tryz.ntmps247
   go_wp2_with (go_at_call 110; refine (at_any _ _).mono ?_; rintro e w' ⟨rfl, rfl⟩)
   go_ret; exact ⟨rfl, rfl⟩
set_option maxHeartbeats 1000000 in
theorem pobj_any9 (h : Hp) (v : Int) (A : Option Addr) (c : Nat) (u w : World) (hs : ObsR u A h.objs) (hu : Below u.heap.size u w) :
    Calls Tryz.prog 217 #[.agg #[.slice A h.objs.length c, .int .i64 h.cap, .int .i64 h.last], .int .i64 v] w (OjP9 u w (obD9 h v) (refB h.objs.length v)) := by
  obtain ⟨w0, hw0⟩ : ∃ w0, w0 = (w.alloc (.cells #[Value.slice A h.objs.length c, Value.int .i64 h.cap, Value.int .i64 h.last] 24)).alloc (.cells #[.int .i64 0, .int .i64 0, .slice none 0 0, .string ⟨#[]⟩, .int .i64 0, .int .i64 0] 41) := ⟨_, rfl⟩
  have HB0 : Hid (Below w.heap.size w w0) := by show Below _ _ _; rw [hw0]; exact below_alloc2 _ _ _
  have HX0 : Hid (Lies w0 w.heap.size 24 #[Value.slice A h.objs.length c, Value.int .i64 h.cap, Value.int .i64 h.last]) := by
    show Lies _ _ _ _
    rw [hw0]; exact (Lies.new _ _ _).alloc _
  have HK0 : Hid (Lies w0 (w.heap.size + 1) 41 #[.int .i64 0, .int .i64 0, .slice none 0 0, .string ⟨#[]⟩, .int .i64 0, .int .i64 0]) := by
    show Lies _ _ _ _
    have := Lies.new (w.alloc (.cells #[Value.slice A h.objs.length c, Value.int .i64 h.cap, Value.int .i64 h.last] 24)) 41 #[.int .i64 0, .int .i64 0, .slice none 0 0, .string ⟨#[]⟩, .int .i64 0, .int .i64 0]
    rw [hw0]; simpa using this
  have HS := hid hs
  have HU := hid hu
  have nil : ∀ W : World, IntsR W none [] := fun W hn => by simp at hn
  have NIL := hid nil
  clear hs hu nil
  go_enter Tryz.func217, Tryz.ntmps217
  go_upto_region 1 with fail
  rw [← hw0]
  clear hw0
  have x0 := HX0.out.cell 0
  have k0 := HK0.out.cell 0
  have k1 := HK0.out.cell 1
  have k2 := HK0.out.cell 2
  have k3 := HK0.out.cell 3
  have k4 := HK0.out.cell 4
  have k5 := HK0.out.cell 5
  have f0 := HK0.out.frozen 0
  have f1 := HK0.out.frozen 1
  have f2 := HK0.out.frozen 2
  have f3 := HK0.out.frozen 3
  have f4 := HK0.out.frozen 4
  have f5 := HK0.out.frozen 5
  simp only [List.getElem?_toArray, List.getElem?_cons_zero, List.getElem?_cons_succ] at x0 k0 k1 k2 k3 k4 k5
  go_wp2_with fail
  refine (at_any v _).mono ?_
  rintro e w1 ⟨rfl, rfl⟩
  have fin : ∀ (u0 u1 u2 u3 u4 u5 : Value), Below w.heap.size w ((((((w0.setCell ⟨w.heap.size + 1, 0, none⟩ u0).setCell ⟨w.heap.size + 1, 1, none⟩ u1).setCell ⟨w.heap.size + 1, 2, none⟩ u2).setCell ⟨w.heap.size + 1, 3, none⟩ u3).setCell ⟨w.heap.size + 1, 4, none⟩ u4).setCell ⟨w.heap.size + 1, 5, none⟩ u5) := fun u0 u1 u2 u3 u4 u5 => by
    have q : w.heap.size ≤ w.heap.size + 1 := by omega
    exact (((((HB0.out.setCell (p := ⟨w.heap.size + 1, 0, none⟩) q u0).setCell (p := ⟨w.heap.size + 1, 1, none⟩) q u1).setCell (p := ⟨w.heap.size + 1, 2, none⟩) q u2).setCell (p := ⟨w.heap.size + 1, 3, none⟩) q u3).setCell (p := ⟨w.heap.size + 1, 4, none⟩) q u4).setCell (p := ⟨w.heap.size + 1, 5, none⟩) q u5
  have FIN := hid fin
  clear fin
  have RES : ∀ (u0 u1 u2 u3 u4 u5 : Value), Hid (Lies ((((((w0.setCell ⟨w.heap.size + 1, 0, none⟩ u0).setCell ⟨w.heap.size + 1, 1, none⟩ u1).setCell ⟨w.heap.size + 1, 2, none⟩ u2).setCell ⟨w.heap.size + 1, 3, none⟩ u3).setCell ⟨w.heap.size + 1, 4, none⟩ u4).setCell ⟨w.heap.size + 1, 5, none⟩ u5) (w.heap.size + 1) 41 #[u0, u1, u2, u3, u4, u5]) := fun u0 u1 u2 u3 u4 u5 =>
    (((((HK0.out.set_ 0 u0).set_ 1 u1).set_ 2 u2).set_ 3 u3).set_ 4 u4).set_ 5 u5
  cases hr : refB h.objs.length v
  next =>
   have EO : Hid (obD9 h v = ⟨0, 0, [], ⟨#[]⟩, 0, 0⟩) := obD9_no hr
   have ER := hid hr
   have X1 := RES (.int .i64 0) (.int .i64 0) (.slice none 0 0) (.string ⟨#[]⟩) (.int .i64 0) (.int .i64 0)
   obtain ⟨r0, r1, r2, r3, r4, r5⟩ := X1.out.c6
   have R0 := hid r0
   have R1 := hid r1
   have R2 := hid r2
   have R3 := hid r3
   have R4 := hid r4
   have R5 := hid r5
   clear r0 r1 r2 r3 r4 r5
   have done : OjP9 u w (obD9 h v) (refB h.objs.length v) (.returned (.tuple #[.agg #[.int .i64 0, .int .i64 0, .slice none 0 0, .string ⟨#[]⟩, .int .i64 0, .int .i64 0], .bool false])) ((((((w0.setCell ⟨w.heap.size + 1, 0, none⟩ (.int .i64 0)).setCell ⟨w.heap.size + 1, 1, none⟩ (.int .i64 0)).setCell ⟨w.heap.size + 1, 2, none⟩ (.slice none 0 0)).setCell ⟨w.heap.size + 1, 3, none⟩ (.string ⟨#[]⟩)).setCell ⟨w.heap.size + 1, 4, none⟩ (.int .i64 0)).setCell ⟨w.heap.size + 1, 5, none⟩ (.int .i64 0)) :=
     ⟨none, 0, by rw [EO.out, ER.out]; rfl, by rw [EO.out]; exact NIL.out _, by rw [EO.out]; exact Nat.le_refl _, FIN.out _ _ _ _ _ _⟩
   have DONE := hid done
   clear done
   cases ha : atB v
   next =>
    clear hr
    go_wp2_with fail
    refine bodyPost_ret (v := .tuple #[.agg #[.int .i64 0, .int .i64 0, .slice none 0 0, .string ⟨#[]⟩, .int .i64 0, .int .i64 0], .bool false]) (by simp [results, Tryz.results217, go_sem, R0.out, R1.out, R2.out, R3.out, R4.out, R5.out]) rfl ?_
    exact DONE.out
   next =>
    have hge : (h.objs.length : Int) ≤ atV v := by
      unfold refB at hr
      rw [ha] at hr
      have : ¬ atV v < (h.objs.length : Int) := by simpa using hr
      omega
    clear hr
    go_wp2_with fail
    refine bodyPost_ret (v := .tuple #[.agg #[.int .i64 0, .int .i64 0, .slice none 0 0, .string ⟨#[]⟩, .int .i64 0, .int .i64 0], .bool false]) (by simp [results, Tryz.results217, go_sem, R0.out, R1.out, R2.out, R3.out, R4.out, R5.out]) rfl ?_
    exact DONE.out
  next =>
   have EO : Hid (obD9 h v = obAt h v) := obD9_yes hr
   have ER := hid hr
   obtain ⟨i, b, off, S, dd, hi, hil, rfl, hc', hint, hsd⟩ := ob_read9 HS.out (Below.refl u.heap.size u) hr
   have hc := hc'.below (World.block_lt_of_cell? u _ hc'.c0) (HU.out.trans (HB0.out.mono HU.out.size))
   clear hc'
   have ha := (refB_no hr).1
   have hv : atV v = (i : Int) := by rw [← refI_nonneg hr]; exact hi
   have hlI : ¬ (h.objs.length : Int) ≤ (i : Int) := by omega
   have hlJ : (i : Int) < (h.objs.length : Int) := by omega
   have hlN : ¬ h.objs.length ≤ i := by omega
   obtain ⟨o, ho⟩ : ∃ o, o = obAt h v := ⟨_, rfl⟩
   rw [← ho] at hc hint hsd EO
   obtain ⟨c0, c1, c2, c3, c4, c5⟩ := hc
   have X1 := RES (.int .i64 o.cls) (.int .i64 o.kind) (.slice S o.slots.length dd) (.string o.text) (.int .i64 o.bits) (.int .i64 o.hash)
   obtain ⟨r0, r1, r2, r3, r4, r5⟩ := X1.out.c6
   have R0 := hid r0
   have R1 := hid r1
   have R2 := hid r2
   have R3 := hid r3
   have R4 := hid r4
   have R5 := hid r5
   have HI := hid hint
   have HSD := hid hsd
   rw [hv]
   clear r0 r1 r2 r3 r4 r5 hr hi hil hint hsd ho hv
   go_wp2_with fail
   refine bodyPost_ret (v := .tuple #[.agg #[.int .i64 o.cls, .int .i64 o.kind, .slice S o.slots.length dd, .string o.text, .int .i64 o.bits, .int .i64 o.hash], .bool true]) (by simp [results, Tryz.results217, go_sem, R0.out, R1.out, R2.out, R3.out, R4.out, R5.out]) rfl ?_
   exact ⟨S, dd, by rw [EO.out, ER.out], by rw [EO.out]; exact HI.out, by rw [EO.out]; exact HSD.out, FIN.out _ _ _ _ _ _⟩
end Go.Proofs.YtnilempeldlieaaGreat
namespace Go.Proofs.YtnilempeldlieaaGreat
open Go.RowKit
set_option maxRecDepth 100000
theorem pa9_no {h : Hp} {v : Int} (hr : refB h.objs.length v = false) : paB9 h v = false := by
  have e : refI h.objs.length v = -1 := by unfold refI; rw [if_neg (by rw [hr]; decide)]
  unfold paB9
  rw [e]
  rfl
theorem pa9_zero {h : Hp} {v : Int} (hr : refB h.objs.length v = true) (h0 : v = 0) : paB9 h v = true := by
  subst h0
  unfold paB9
  rw [decide_eq_true (show refI h.objs.length 0 = 0 by rw [refI_nonneg hr]; decide +kernel)]
  rfl
theorem pa9_kind {h : Hp} {v : Int} (hr : refB h.objs.length v = true) (h0 : v ≠ 0) : paB9 h v = decide ((obAt h v).kind = 0) := by
  have hp := ref_pos9 hr h0
  unfold paB9
  rw [decide_eq_false (show ¬ refI h.objs.length v = 0 by omega), decide_eq_true (show 0 ≤ refI h.objs.length v by omega)]
  rfl
set_option maxHeartbeats 2000000 in
theorem pdict_any9 (h : Hp) (v : Int) (A : Option Addr) (d : Nat) (u w : World) (hs : ObsR u A h.objs) (hu : Below u.heap.size u w) :
    Calls Tryz.prog 243 #[.agg #[.slice A h.objs.length d, .int .i64 h.cap, .int .i64 h.last], .int .i64 v] w fun e w' => e = .returned (.bool (paB9 h v)) ∧ Below w.heap.size w w' := by
  obtain ⟨w0, hw0⟩ : ∃ w0, w0 = w.alloc (.cells #[Value.slice A h.objs.length d, Value.int .i64 h.cap, Value.int .i64 h.last] 24) := ⟨_, rfl⟩
  have HB0 : Hid (Below w.heap.size w w0) := by show Below _ _ _; rw [hw0]; exact below_alloc _ _
  have HX0 : Hid (Lies w0 w.heap.size 24 #[Value.slice A h.objs.length d, Value.int .i64 h.cap, Value.int .i64 h.last]) := by
    show Lies _ _ _ _
    rw [hw0]; exact Lies.new _ _ _
  have HU0 : Hid (Below u.heap.size u w0) := hu.trans (HB0.out.mono hu.size)
  have HC0 := pobj_any9 h v A d u w0 hs HU0.out
  clear hs hu
  go_enter Tryz.func243, Tryz.ntmps243
  go_upto_region 1 with fail
  rw [← hw0]
  clear hw0
  obtain ⟨x0, x1, x2⟩ := HX0.out.c3
  cases hr : refB h.objs.length v
  next =>
   have E := hid (pa9_no hr)
   rw [hr] at HC0
   clear hr
   go_wp2_with fail
   refine HC0.mono ?_
   rintro e w1 ⟨S, dd, rfl, -, -, hb⟩
   have HB1 := hid (HB0.out.trans (hb.mono HB0.out.size))
   clear hb x0 x1 x2
   go_wp2_with fail
   go_ret
   exact ⟨by rw [E.out]; rfl, HB1.out.alloc HB1.out.size _⟩
  next =>
   rw [hr, obD9_yes hr] at HC0
   have E0 := hid (pa9_zero (h := h) (v := v) hr)
   have E1 := hid (pa9_kind (h := h) (v := v) hr)
   obtain ⟨o, ho⟩ : ∃ o, o = obAt h v := ⟨_, rfl⟩
   rw [← ho] at HC0 E1
   clear hr ho
   go_wp2_with fail
   refine HC0.mono ?_
   rintro e w1 ⟨S, dd, rfl, -, -, hb⟩
   obtain ⟨w1_, hw1⟩ : ∃ W, W = w1.alloc (.cells #[.int .i64 o.cls, .int .i64 o.kind, .slice S o.slots.length dd, .string o.text, .int .i64 o.bits, .int .i64 o.hash] 41) := ⟨_, rfl⟩
   obtain ⟨g, hg⟩ : ∃ g, g = w1.heap.size := ⟨_, rfl⟩
   have HG : Hid (Lies w1_ g 41 #[.int .i64 o.cls, .int .i64 o.kind, .slice S o.slots.length dd, .string o.text, .int .i64 o.bits, .int .i64 o.hash]) := by
     show Lies _ _ _ _
     rw [hw1, hg]; exact Lies.new _ _ _
   have hb1 : Below w0.heap.size w0 w1_ := by rw [hw1]; exact then_w hb (below_alloc _ _)
   have HW1 := hid (HB0.out.trans (hb1.mono HB0.out.size))
   clear hb hb1 x0 x1 x2
   have y1 := HG.out.cell 1
   simp only [List.getElem?_toArray, List.getElem?_cons_zero, List.getElem?_cons_succ] at y1
   go_upto_region 2 with fail
   rw [← hw1, ← hg]
   clear hw1 hg
   by_cases hz : v = 0
   next =>
    have E := hid (E0.out hz)
    clear E0 E1
    have hN := isnone_any9 v w1_
    rw [decide_eq_true hz] at hN
    clear hz
    go_wp2_with (go_at_call 247; refine hN.mono ?_; rintro e w2 ⟨rfl, rfl⟩)
    go_ret
    exact ⟨by rw [E.out]; rfl, HW1.out⟩
   next =>
    have hN := isnone_any9 v w1_
    rw [decide_eq_false hz] at hN
    by_cases hk : o.kind = 0
    next =>
     have E : Hid (paB9 h v = true) := by show _ = _; rw [E1.out hz, decide_eq_true hk]
     have hkB : (o.kind == 0) = true := beq_iff_eq.2 hk
     clear E0 E1 hz
     go_wp2_with (go_at_call 247; refine hN.mono ?_; rintro e w2 ⟨rfl, rfl⟩)
     go_ret
     exact ⟨by rw [E.out]; rfl, HW1.out⟩
    next =>
     have E : Hid (paB9 h v = false) := by show _ = _; rw [E1.out hz, decide_eq_false hk]
     have hkB : (o.kind == 0) = false := beq_eq_false_iff_ne.2 hk
     clear E0 E1 hz
     go_wp2_with (go_at_call 247; refine hN.mono ?_; rintro e w2 ⟨rfl, rfl⟩)
     go_ret
     exact ⟨by rw [E.out]; rfl, HW1.out⟩
end Go.Proofs.YtnilempeldlieaaGreat
namespace Go.Proofs.YtnilempeldlieaaGreat
open Go.RowKit
theorem cell_far9 {w : World} {g b i o : Nat} {u v : Value} (hne : b ≠ g) (h : w.cell? ⟨b, o, none⟩ = some v) : (w.setCell ⟨g, i, none⟩ u).cell? ⟨b, o, none⟩ = some v := by
  rw [World.cell?_setCell_other _ _ _ _ (by intro e; exact hne (congrArg Addr.block e).symm)]; exact h
theorem far69 {w : World} {g b o : Nat} {v v0 v1 v2 v3 v4 v5 : Value} (hne : b ≠ g) (h : w.cell? ⟨b, o, none⟩ = some v) :
    ((((((w.setCell ⟨g, 0, none⟩ v0).setCell ⟨g, 1, none⟩ v1).setCell ⟨g, 2, none⟩ v2).setCell ⟨g, 3, none⟩ v3).setCell ⟨g, 4, none⟩ v4).setCell ⟨g, 5, none⟩ v5).cell? ⟨b, o, none⟩ = some v :=
  cell_far9 hne (cell_far9 hne (cell_far9 hne (cell_far9 hne (cell_far9 hne (cell_far9 hne h)))))
end Go.Proofs.YtnilempeldlieaaGreat
