/- The slots of an object of a class, told; whether a value is a process, and a free one; its priority. -/
import Derived.Test.YtkpfmbdkfgeboaaPB14
namespace Go.Proofs.Ytkpfmbdkfgeboaa
open Go.RowKit
set_option maxRecDepth 100000
/-- a heap's object, read -/
theorem ob_read14 {h : Hp} {v : Int} {A : Option Addr} {w w' : World} (hs : ObsR w A h.objs) (hb : Below w.heap.size w w') (hr : refB h.objs.length v = true) :
    ∃ (i : Nat) (b off : Nat) (S : Option Addr) (d : Nat), atV v = i ∧ i < h.objs.length ∧ A = some ⟨b, off, none⟩ ∧ ObC w' b (off + i * 6) S d (obAt h v) ∧ IntsR w' S (obAt h v).slots ∧ b < w.heap.size := by
  obtain ⟨i, hi, hv, ho⟩ := obAt_get hr
  obtain ⟨b, off, rfl, hlt, hc⟩ := hs (by omega)
  obtain ⟨S, d, h1, h2, -, -⟩ := hc i _ ho
  exact ⟨i, b, off, S, d, hv, hi, rfl, h1.below hlt hb, h2.below hb, hlt⟩
/-- what instance answers -/
def In14 (u w : World) (h : Hp) (v cl sz : Int) (e : Ending) (w' : World) : Prop :=
  ∃ S n d, e = .returned (.tuple #[.slice S n d, .bool (in14 h v cl sz)]) ∧ (refB h.objs.length v = true → n = (obAt h v).slots.length ∧ IntsR u S (obAt h v).slots) ∧ Below w.heap.size w w'
set_option maxHeartbeats 1000000 in
theorem pinst_any14 (h : Hp) (v cl sz : Int) (A : Option Addr) (c : Nat) (u w : World) (hs : ObsR u A h.objs) (hu : Below u.heap.size u w) (hcl : nuB cl = true) :
    Calls Try.prog 41 #[.agg #[.slice A h.objs.length c, .int .i64 h.cap, .int .i64 h.last], .int .i64 v, .int .i64 cl, .int .i64 sz] w (In14 u w h v cl sz) := by
  obtain ⟨w0, hw0⟩ : ∃ w0, w0 = w.alloc (.cells #[Value.slice A h.objs.length c, Value.int .i64 h.cap, Value.int .i64 h.last] 24) := ⟨_, rfl⟩
  have HB0 : Hid (Below w.heap.size w w0) := by show Below _ _ _; rw [hw0]; exact below_alloc _ _
  have HX0 : Hid (Lies w0 w.heap.size 24 #[Value.slice A h.objs.length c, Value.int .i64 h.cap, Value.int .i64 h.last]) := by
    show Lies _ _ _ _
    rw [hw0]; exact Lies.new _ _ _
  have HS := hid hs
  have HU := hid hu
  obtain ⟨rr, hrr⟩ : ∃ x, x = reV cl := ⟨_, rfl⟩
  have HRR : Hid (rr = 2 * cl) := by show _ = _; rw [hrr]; unfold reV; rw [if_pos hcl]
  have HRC : Hid (∀ W : World, Calls Try.prog 65 #[.int .i64 cl] W fun e w' => e = .returned (.int .i64 rr) ∧ w' = W) := by
    show ∀ W : World, _
    intro W
    rw [hrr]
    exact (pref_any14 cl W).mono fun _ _ ⟨he, hw⟩ => ⟨he, hw.symm⟩
  clear hs hu hcl hrr
  go_enter Try.func41, Try.ntmps41
  go_upto_region 1 with fail
  rw [← hw0]
  clear hw0
  obtain ⟨x0, x1, x2⟩ := HX0.out.c3
  go_wp2_with fail
  refine (at_any v _).mono ?_
  rintro e w1 ⟨rfl, rfl⟩
  cases hr : refB h.objs.length v
  · have done : In14 u w h v cl sz (.returned (.tuple #[.slice none 0 0, .bool false])) w0 := ⟨none, 0, 0, by unfold in14; rw [hr]; rfl, fun g => (by rw [hr] at g; cases g), HB0.out⟩
    have DONE := hid done
    clear done
    cases ha : atB v
    · clear hr
      go_wp2_with fail
      refine bodyPost_ret (v := .tuple #[.slice none 0 0, .bool false]) (by simp [results, Try.results41, go_sem]) rfl ?_
      exact DONE.out
    · have hge : (h.objs.length : Int) ≤ atV v := by
        unfold refB at hr
        rw [ha] at hr
        have : ¬ atV v < (h.objs.length : Int) := by simpa using hr
        omega
      clear hr
      go_wp2_with fail
      refine bodyPost_ret (v := .tuple #[.slice none 0 0, .bool false]) (by simp [results, Try.results41, go_sem]) rfl ?_
      exact DONE.out
  · have ER := hid hr
    obtain ⟨i, b, off, S, dd, hv, hil, rfl, hc', hint, hbu⟩ := ob_read14 HS.out (Below.refl u.heap.size u) hr
    have hc := hc'.below hbu (HU.out.trans (HB0.out.mono HU.out.size))
    clear hc'
    have ha := (refB_no hr).1
    have hlI : ¬ (h.objs.length : Int) ≤ (i : Int) := by omega
    have hlJ : (i : Int) < (h.objs.length : Int) := by omega
    have hlN : ¬ h.objs.length ≤ i := by omega
    obtain ⟨o, ho⟩ : ∃ o, o = obAt h v := ⟨_, rfl⟩
    have EI : Hid (in14 h v cl sz = (decide (o.cls = rr) && decide ((o.slots.length : Int) = sz))) := by show _ = _; unfold in14; rw [hr, ← ho, HRR.out]; rfl
    rw [← ho] at hc hint
    have HO := hid ho
    have HI := hid hint
    obtain ⟨c0, c1, c2, c3, c4, c5⟩ := hc
    clear hr ho hint hbu
    rw [hv]
    go_upto_region 5 with fail
    obtain ⟨w2, hw2⟩ : ∃ x, x = w0.alloc (.cells #[.int .i64 o.cls, .int .i64 o.kind, .slice S o.slots.length dd, .string o.text, .int .i64 o.bits, .int .i64 o.hash] 43) := ⟨_, rfl⟩
    obtain ⟨g, hg⟩ : ∃ x, x = w0.heap.size := ⟨_, rfl⟩
    have K2 : Lies w2 g 43 #[.int .i64 o.cls, .int .i64 o.kind, .slice S o.slots.length dd, .string o.text, .int .i64 o.bits, .int .i64 o.hash] := by rw [hw2, hg]; exact Lies.new _ _ _
    have HB2 : Hid (Below w.heap.size w w2) := by show Below _ _ _; rw [hw2]; exact then_w HB0.out (below_alloc _ _)
    rw [← hw2, ← hg]
    clear hw2 hg c0 c1 c2 c3 c4 c5 x0 x1 x2
    obtain ⟨k0, k1, k2, k3, k4, k5⟩ := K2.c6
    clear K2
    have done : ∀ (W : World), Below w2.heap.size w2 W → In14 u w h v cl sz (.returned (.tuple #[.slice S o.slots.length dd, .bool (decide (o.cls = rr) && decide ((o.slots.length : Int) = sz))])) W := fun W hW =>
      ⟨S, o.slots.length, dd, by rw [EI.out], fun _ => ⟨by rw [HO.out], by rw [← HO.out]; exact HI.out⟩, then_w HB2.out hW⟩
    have DONE := hid done
    clear done
    by_cases h1 : o.cls = rr
    · have h1b : (o.cls == rr) = true := by simpa using h1
      have h1d : decide (o.cls = rr) = true := decide_eq_true h1
      by_cases h2 : (o.slots.length : Int) = sz
      · have h2b : ((o.slots.length : Int) == sz) = true := by simpa using h2
        have h2d : decide ((o.slots.length : Int) = sz) = true := decide_eq_true h2
        rw [h1d, h2d] at DONE
        clear h1 h2
        go_quiet ((go_at_call 65; exact Calls.quiet_of_same (HRC.out _)))
        go_wp2_with fail
        refine bodyPost_ret (v := .tuple #[.slice S o.slots.length dd, .bool true]) (by simp [results, Try.results41, go_sem]) rfl ?_
        exact DONE.out _ (below_drewN _ _)
      · have h2b : ((o.slots.length : Int) == sz) = false := by simpa using h2
        have h2d : decide ((o.slots.length : Int) = sz) = false := decide_eq_false h2
        rw [h1d, h2d] at DONE
        clear h1 h2
        go_quiet ((go_at_call 65; exact Calls.quiet_of_same (HRC.out _)))
        go_wp2_with fail
        refine bodyPost_ret (v := .tuple #[.slice S o.slots.length dd, .bool false]) (by simp [results, Try.results41, go_sem]) rfl ?_
        exact DONE.out _ (below_drewN _ _)
    · have h1b : (o.cls == rr) = false := by simpa using h1
      have h1d : decide (o.cls = rr) = false := decide_eq_false h1
      rw [h1d] at DONE
      clear h1
      go_quiet ((go_at_call 65; exact Calls.quiet_of_same (HRC.out _)))
      go_wp2_with fail
      refine bodyPost_ret (v := .tuple #[.slice S o.slots.length dd, .bool false]) (by simp [results, Try.results41, go_sem]) rfl ?_
      exact DONE.out _ (below_drewN _ _)
end Go.Proofs.Ytkpfmbdkfgeboaa
