/- The document's word on classes: a dictionary's pairs, what is a class. -/
import Derived.Test.YtkpfmbdkfgeboaaGreatSB9
import Derived.Test.YtkpfmbdkfgeboaaGreatR
namespace Go.Proofs.YtkpfmbdkfgeboaaGreat
open Go.RowKit
set_option maxRecDepth 100000
/-- a heap's object, read -/
theorem ob_read9 {h : Hp} {v : Int} {A : Option Addr} {w w' : World} (hs : ObsR w A h.objs) (hb : Below w.heap.size w w') (hr : refB h.objs.length v = true) :
    ∃ (i : Nat) (b off : Nat) (S : Option Addr) (d : Nat), refI h.objs.length v = i ∧ i < h.objs.length ∧ A = some ⟨b, off, none⟩ ∧ ObC w' b (off + i * 6) S d (obAt h v) ∧ IntsR w' S (obAt h v).slots ∧ (obAt h v).slots.length ≤ d := by
  obtain ⟨i, hi, hv, ho⟩ := obAt_get hr
  obtain ⟨b, off, rfl, hlt, hc⟩ := hs (by omega)
  obtain ⟨S, d, h1, h2, h3, -⟩ := hc i _ ho
  exact ⟨i, b, off, S, d, by rw [refI_nonneg hr, hv], hi, rfl, h1.below hlt hb, h2.below hb, h3⟩
def PaP9 (w : World) (h : Hp) (v : Int) (e : Ending) (w' : World) : Prop :=
  ∃ S d, e = .returned (.tuple #[.slice S (paL9 h v).length d, .bool (paB9 h v)]) ∧ IntsR w' S (paL9 h v) ∧ Below w.heap.size w w'
set_option maxHeartbeats 1000000 in
theorem rpairs_any9 (h : Hp) (v : Int) (A : Option Addr) (c : Nat) (w : World) (hs : ObsR w A h.objs) (fit : h.Fit) :
    Calls Tryz.prog 90 #[.agg #[.slice A h.objs.length c, .int .i64 h.cap, .int .i64 h.last], .int .i64 v] w (PaP9 w h v) := by
  obtain ⟨w0, hw0⟩ : ∃ w0, w0 = w.alloc (.cells #[Value.slice A h.objs.length c, Value.int .i64 h.cap, Value.int .i64 h.last] 24) := ⟨_, rfl⟩
  have HB0 : Hid (Below w.heap.size w w0) := by show Below _ _ _; rw [hw0]; exact below_alloc _ _
  have HX0 : Hid (Lies w0 w.heap.size 24 #[Value.slice A h.objs.length c, Value.int .i64 h.cap, Value.int .i64 h.last]) := by
    show Lies _ _ _ _
    rw [hw0]; exact Lies.new _ _ _
  have HS := hid hs
  have HF := hid fit
  have nil : ∀ W : World, IntsR W none [] := fun W hn => by simp at hn
  have NIL := hid nil
  clear hs fit nil
  go_enter Tryz.func90, Tryz.ntmps90
  go_upto_region 1 with fail
  rw [← hw0]
  clear hw0
  have x0 := HX0.out.cell 0
  have x1 := HX0.out.cell 1
  have x2 := HX0.out.cell 2
  simp only [List.getElem?_toArray, List.getElem?_cons_zero, List.getElem?_cons_succ] at x0 x1 x2
  go_wp2_with fail
  refine (rref_any h v A c _).mono ?_
  rintro e w1 ⟨rfl, hb⟩
  have HB1 := hid (HB0.out.trans (hb.mono HB0.out.size))
  have HX1 := hid (HX0.out.later hb)
  clear hb x0 x1 x2
  cases hr : refB h.objs.length v
  · have E1 : refI h.objs.length v = -1 := by unfold refI; rw [if_neg (by rw [hr]; decide)]
    have EL : Hid (paL9 h v = []) := by show _ = _; unfold paL9; rw [if_pos (.inr (.inl (by omega)))]
    have EB : Hid (paB9 h v = false) := by show _ = _; unfold paB9; rw [E1]; rfl
    rw [E1]
    clear hr E1
    go_wp2_with fail
    go_ret2
    exact ⟨none, 0, by rw [EL.out, EB.out]; rfl, by rw [EL.out]; exact NIL.out _, HB1.out⟩
  · obtain ⟨i, b, off, S, d, hi, hil, rfl, hc, hint, -⟩ := ob_read9 HS.out HB1.out hr
    by_cases h0 : i = 0
    · have EL : Hid (paL9 h v = []) := by show _ = _; unfold paL9; rw [if_pos (.inl (by omega))]
      have EB : Hid (paB9 h v = true) := by show _ = _; unfold paB9; rw [hi, h0]; rfl
      subst h0
      rw [hi]
      clear hr hi hc hint
      go_wp2_with fail
      go_ret2
      exact ⟨none, 0, by rw [EL.out, EB.out]; rfl, by rw [EL.out]; exact NIL.out _, HB1.out⟩
    · have h0I : ¬ (i : Int) = 0 := by omega
      have h0B : ((i : Int) == 0) = false := beq_eq_false_iff_ne.2 h0I
      have hlI : (i : Int) < (h.objs.length : Int) := by omega
      have hng : ¬ (i : Int) < 0 := by omega
      have hngD : decide ((i : Int) < 0) = false := decide_eq_false hng
      have x0 := HX1.out.cell 0
      simp only [List.getElem?_toArray, List.getElem?_cons_zero] at x0
      have c1 := hc.c1
      have c2 := hc.c2
      rw [hi]
      by_cases hk : (obAt h v).kind = 0
      · have EL : Hid (paL9 h v = (obAt h v).slots) := by
          show _ = _
          unfold paL9
          rw [if_neg (by rw [hi]; rintro (e | e | e) <;> first | omega | exact e hk)]
        have EB : Hid (paB9 h v = true) := by
          show _ = _
          unfold paB9
          rw [hi, decide_eq_true (show (0 : Int) ≤ (i : Int) by omega), decide_eq_true hk]; simp
        have HI := hid hint
        rw [hk] at c1
        clear hr hi hc hint hk
        go_wp2_with fail
        go_ret2
        exact ⟨S, d, by rw [EL.out, EB.out]; rfl, by rw [EL.out]; exact HI.out, HB1.out⟩
      · have EL : Hid (paL9 h v = []) := by show _ = _; unfold paL9; rw [if_pos (.inr (.inr hk))]
        have EB : Hid (paB9 h v = false) := by
          show _ = _
          unfold paB9
          rw [hi, decide_eq_false h0I, decide_eq_false hk]; simp
        have hkB : ((obAt h v).kind == 0) = false := beq_eq_false_iff_ne.2 hk
        clear hr hi hc hint
        go_wp2_with fail
        go_ret2
        exact ⟨none, 0, by rw [EL.out, EB.out]; rfl, by rw [EL.out]; exact NIL.out _, HB1.out⟩
theorem sl_at9 {h : Hp} {c : Int} {k : Nat} (hk : k < (obAt h c).slots.length) : (obAt h c).slots[k]? = some (sl9 h c k) := by
  unfold sl9
  rw [List.getD_eq_getElem?_getD, List.getElem?_eq_getElem hk]; rfl
end Go.Proofs.YtkpfmbdkfgeboaaGreat
