/- The program's cache: Find. -/
import Derived.Test.YtcahdhocilmoeaaCD10
import Derived.Test.YtcahdhocilmoeaaSPF9
namespace Go.Proofs.Ytcahdhocilmoeaa
open Go.RowKit
set_option maxRecDepth 100000
def tu10 (r : Int × Int × Int) : Value := .tuple #[.int .i64 r.1, .int .i64 r.2.1, .int .i64 r.2.2]
/-- a Find of a cache in blocks p and q -/
def FoundP (w : World) (p q : Nat) (L : List En) (h : Hp) (c s n m : Int) (e : Ending) (w' : World) : Prop :=
  e = .returned (tu10 (fd10 L h c s)) ∧ Ca w' p q (cb10 L h c s) (if hit10 L c s = true then n + 1 else n) (if hit10 L c s = true then m else m + 1) ∧ Only2 p q w w'
theorem find_nil10 (h : Hp) (c s : Int) (A : Option Addr) (d : Nat) (w : World) (hs : ObsR w A h.objs) (fit : h.Fit) :
    Calls Try.prog 41 #[.pointer none, .agg #[.slice A h.objs.length d, .int .i64 h.cap, .int .i64 h.last], .int .i64 c, .int .i64 s] w fun e w' => e = .returned (tu10 (lk9 h c s)) ∧ Below w.heap.size w w' := by
  have hb := below_alloc w (.cells #[Value.slice A h.objs.length d, Value.int .i64 h.cap, Value.int .i64 h.last] 24)
  have HB := hid hb
  have X := Lies.new w 24 #[Value.slice A h.objs.length d, Value.int .i64 h.cap, Value.int .i64 h.last]
  have x0 := X.cell 0
  have x1 := X.cell 1
  have x2 := X.cell 2
  simp only [List.getElem?_toArray, List.getElem?_cons_zero, List.getElem?_cons_succ] at x0 x1 x2
  have HF := hid (lfind_any9 h c s A d (w.alloc (.cells #[Value.slice A h.objs.length d, Value.int .i64 h.cap, Value.int .i64 h.last] 24)) (hs.below hb) fit)
  clear hb X hs fit
  go_enter Try.func41, Try.ntmps41
  go_wp2_with fail
  refine (made_nil _).mono ?_
  rintro e w1 ⟨rfl, rfl⟩
  go_wp2_with fail
  refine HF.out.mono ?_
  rintro e w1 ⟨rfl, hb1⟩
  have HB1 := hid (then_w HB.out hb1)
  clear hb1 HF x0 x1 x2
  go_wp2_with fail
  go_ret3
  exact ⟨rfl, HB1.out⟩
theorem Ca.turn1 {w : World} {p q : Nat} {L : List En} {n m : Int} (h : Ca w p q L n m) (i : Nat) : Ca ((w.drewN i).setCell ⟨p, 1, none⟩ (.int .i64 (n + 1))) p q L (n + 1) m := by
  refine ⟨?_, (h.row.later (below_drewN _ _)).far (fun e => h.ne e.symm) _⟩
  have := (h.box.later (below_drewN w i)).set_ 1 (.int .i64 (n + 1))
  simpa using this
theorem Ca.turn2 {w : World} {p q : Nat} {L : List En} {n m : Int} (h : Ca w p q L n m) (i : Nat) : Ca ((w.drewN i).setCell ⟨p, 2, none⟩ (.int .i64 (m + 1))) p q L n (m + 1) := by
  refine ⟨?_, (h.row.later (below_drewN _ _)).far (fun e => h.ne e.symm) _⟩
  have := (h.box.later (below_drewN w i)).set_ 2 (.int .i64 (m + 1))
  simpa using this
set_option maxHeartbeats 1500000 in
theorem find_any10 {w : World} {p q : Nat} {L : List En} {n m : Int} (hc : Ca w p q L n m) (hl : 1 ≤ L.length) (hl2 : L.length ≤ 64) (h : Hp) (c s : Int) (A : Option Addr) (d : Nat) (hs : ∀ w', Only2 p q w w' → ObsR w' A h.objs) (fit : h.Fit)
    (hn : 0 ≤ n ∧ n ≤ 1000) (hm : 0 ≤ m ∧ m ≤ 1000) :
    Calls Try.prog 41 #[pp10 p, .agg #[.slice A h.objs.length d, .int .i64 h.cap, .int .i64 h.last], .int .i64 c, .int .i64 s] w (FoundP w p q L h c s n m) := by
  obtain ⟨w1, hw1⟩ : ∃ u, u = w.alloc (.cells #[Value.slice A h.objs.length d, Value.int .i64 h.cap, Value.int .i64 h.last] 24) := ⟨_, rfl⟩
  have HB1 : Hid (Below w.heap.size w w1) := by show Below _ _ _; rw [hw1]; exact below_alloc _ _
  have HX1 : Hid (Lies w1 w.heap.size 24 #[Value.slice A h.objs.length d, Value.int .i64 h.cap, Value.int .i64 h.last]) := by show Lies _ _ _ _; rw [hw1]; exact Lies.new _ _ _
  obtain ⟨w2, hw2⟩ : ∃ u, u = w1.alloc (.cells #[.int .i64 c, .int .i64 s] 88) := ⟨_, rfl⟩
  have HB2 : Hid (Below w.heap.size w w2) := by show Below _ _ _; rw [hw2]; exact then_w HB1.out (below_alloc _ _)
  have HX2 : Hid (Lies w2 w.heap.size 24 #[Value.slice A h.objs.length d, Value.int .i64 h.cap, Value.int .i64 h.last]) := by show Lies _ _ _ _; rw [hw2]; exact HX1.out.alloc _
  have HK2 : Hid (Lies w2 w1.heap.size 88 #[.int .i64 c, .int .i64 s]) := by show Lies _ _ _ _; rw [hw2]; exact Lies.new _ _ _
  have HC := hid hc
  have HS := hid hs
  have HF := hid fit
  have C1 := hc.later HB1.out
  have HM := hid (made_any C1 hl)
  have C2 := hc.later HB2.out
  have HP := hid (plc_any10 C2 hl hl2 c s)
  have hin := pl10_in hl c s
  obtain ⟨k, hk⟩ : ∃ k, k = (pl10 L.length c s).toNat := ⟨_, rfl⟩
  have hkl : k < L.length := by omega
  rw [← hk] at HP
  obtain ⟨x, hx⟩ : ∃ x, x = at10 L c s := ⟨_, rfl⟩
  have hxk : L.getD k em10 = x := by rw [hx]; unfold at10; rw [← hk]
  have HKK := hid hk
  clear hk
  have hpq := hid hc.ne
  have hplt := hid hc.box.lt
  obtain ⟨hn0, hn1⟩ := hn
  obtain ⟨hm0, hm1⟩ := hm
  clear hc hs fit C1 C2 hin
  go_enter Try.func41, Try.ntmps41
  go_wp2_with fail
  rw [← hw1]
  clear hw1
  refine HM.out.mono ?_
  rintro e w' ⟨rfl, rfl⟩
  clear HM
  go_upto_region 4 with fail
  rw [← hw2]
  clear hw2
  have k0 := HK2.out.cell 0
  have k1 := HK2.out.cell 1
  simp only [List.getElem?_toArray, List.getElem?_cons_zero, List.getElem?_cons_succ] at k0 k1
  go_wp2_with fail
  refine HP.out.mono ?_
  rintro e w3 ⟨rfl, hb⟩
  clear HP
  have HB3 := hid (then_w HB2.out hb)
  have HX3 := hid (HX2.out.later hb)
  have HK3 := hid (HK2.out.later hb)
  have HC3 := hid (HC.out.later HB3.out)
  clear hb HX2 HK2 k0 k1
  have k0 := HK3.out.cell 0
  have k1 := HK3.out.cell 1
  have x0 := HX3.out.cell 0
  have x1 := HX3.out.cell 1
  have x2 := HX3.out.cell 2
  have p1 := HC3.out.box.cell 1
  have p2 := HC3.out.box.cell 2
  have f1 := HC3.out.box.frozen 1
  have f2 := HC3.out.box.frozen 2
  have y : ∀ j, j < 5 → w3.cell? ⟨q, k * 5 + j, none⟩ = (en10 x)[j]? := fun j hj => by rw [HC3.out.row.cell, pc10_at L k j hj hkl, hxk]
  have y0 := y 0 (by omega)
  have y1 := y 1 (by omega)
  have y2 := y 2 (by omega)
  have y3 := y 3 (by omega)
  have y4 := y 4 (by omega)
  simp only [List.getElem?_toArray, List.getElem?_cons_zero, List.getElem?_cons_succ, en10, Nat.add_zero] at k0 k1 x0 x1 x2 p1 p2 y0 y1 y2 y3 y4
  clear y
  have HXE := hid hx
  have hHIT : Hid (hit10 L c s = (x.full && (x.c == c) && (x.s == s))) := by show _ = _; rw [hx]; rfl
  have hxk := hid hxk
  clear hx
  obtain ⟨xc, xs, xm, xk, xf⟩ := x
  simp only at y0 y1 y2 y3 y4
  go_upto_region 5 with fail
  cases xf
  · have H0 : Hid (hit10 L c s = false) := by show _ = _; rw [hHIT.out]; rfl
    go_quiet (fail)
    clear y0 y1 y2 y3 y4 hHIT k0 k1 x0 x1 x2
    go_upto_region 9 with fail
    generalize hW : (World.drewN w3 _).setCell _ _ = w4
    have O4 : Only2 p q w w4 := by
      rw [← hW]
      exact (only2_below HB3.out).trans ((only2_below (below_drewN _ _)).trans (only2_p p q _ _ _))
    have HO4 := hid O4
    have HX4 : Hid (Lies w4 w.heap.size 24 #[Value.slice A h.objs.length d, Value.int .i64 h.cap, Value.int .i64 h.last]) := by
      show Lies _ _ _ _
      rw [← hW]
      exact (HX3.out.later (below_drewN _ _)).far (by have := hplt.out; show w.heap.size ≠ p; omega) _
    have HK4 : Hid (Lies w4 w1.heap.size 88 #[.int .i64 c, .int .i64 s]) := by
      show Lies _ _ _ _
      rw [← hW]
      exact (HK3.out.later (below_drewN _ _)).far (by have := hplt.out; have := HB1.out.size; show w1.heap.size ≠ p; omega) _
    have HC4 : Hid (Ca w4 p q L n (m + 1)) := by
      show Ca _ _ _ _ _ _
      rw [← hW]
      exact HC3.out.turn2 _
    clear hW O4 p1 p2 f1 f2
    have x0 := HX4.out.cell 0
    have x1 := HX4.out.cell 1
    have x2 := HX4.out.cell 2
    simp only [List.getElem?_toArray, List.getElem?_cons_zero, List.getElem?_cons_succ] at x0 x1 x2
    go_wp2_with fail
    refine (lfind_any9 h c s A d _ (HS.out _ HO4.out) HF.out).mono ?_
    obtain ⟨v, a, en, hlk⟩ : ∃ v a e, lk9 h c s = (v, a, e) := ⟨_, _, _, rfl⟩
    rw [hlk]
    rintro e w5 ⟨rfl, hb⟩
    have HLK := hid hlk
    have HO5 := hid (HO4.out.trans (only2_below hb))
    have HK5 := hid (HK4.out.later hb)
    have HC5 := hid (HC4.out.later hb)
    clear hb x0 x1 x2 hlk HX4
    by_cases e0 : en = 0
    · subst e0
      have k0 := HK5.out.cell 0
      have k1 := HK5.out.cell 1
      simp only [List.getElem?_toArray, List.getElem?_cons_zero, List.getElem?_cons_succ] at k0 k1
      go_upto_region 11 with fail
      go_wp2_with (first | (refine wpList_store_part rfl 92 _ _ rfl q (k * 5) (en10 ⟨c, s, v, a, true⟩) rfl rfl 92 _ HC5.out.row (by kernel_rfl) (by rw [pc10_size]; show k * 5 + 5 ≤ _; omega) (by intro u hu; simp only [en10, List.mem_cons, List.not_mem_nil, or_false] at hu; rcases hu with rfl | rfl | rfl | rfl | rfl <;> rfl) ?_; rw [pc10_set L k _ hkl]) | fail)
      go_ret3
      have hcb : cb10 L h c s = L.set k ⟨c, s, v, a, true⟩ := by
        unfold cb10; rw [HLK.out, if_pos ⟨H0.out, rfl⟩, ← HKK.out]
      refine ⟨by unfold fd10; rw [if_neg (by rw [H0.out]; decide), HLK.out]; rfl, ?_, HO5.out.trans (only2_row _ _ _ _)⟩
      rw [hcb, if_neg (by rw [H0.out]; decide), if_neg (by rw [H0.out]; decide)]
      refine ⟨?_, HC5.out.row.row⟩
      rw [List.length_set]
      exact HC5.out.box.farRow hpq.out
    · have e0B : (en == 0) = false := beq_eq_false_iff_ne.2 e0
      go_wp2_with fail
      go_ret3
      have hcb : cb10 L h c s = L := by
        unfold cb10; rw [if_neg (fun z => e0 (by have := z.2; rw [HLK.out] at this; exact this))]
      refine ⟨by unfold fd10; rw [if_neg (by rw [H0.out]; decide), HLK.out]; rfl, ?_, HO5.out⟩
      rw [hcb, if_neg (by rw [H0.out]; decide), if_neg (by rw [H0.out]; decide)]
      exact HC5.out
  · by_cases e1 : xc = c
    · subst e1
      by_cases e2 : xs = s
      · subst e2
        have H0 : Hid (hit10 L xc xs = true) := by show _ = _; rw [hHIT.out]; simp
        go_quiet (fail)
        clear hHIT k0 k1 x0 x1 x2
        have y2' : (w3.drewN 1).cell? ⟨q, k * 5 + 2, none⟩ = _ := y2
        go_upto_region 7 with fail
        generalize hW : (World.drewN w3 _).setCell _ _ = w4
        have O4 : Only2 p q w w4 := by
          rw [← hW]
          exact (only2_below HB3.out).trans ((only2_below (below_drewN _ _)).trans (only2_p p q _ _ _))
        have HO4 := hid O4
        have HC4 : Hid (Ca w4 p q L (n + 1) m) := by
          show Ca _ _ _ _ _ _
          rw [← hW]
          exact HC3.out.turn1 _
        clear hW O4 p1 p2 f1 f2 y0 y1 y2 y3 y4 y2'
        have y : ∀ j, j < 5 → w4.cell? ⟨q, k * 5 + j, none⟩ = (en10 ⟨xc, xs, xm, xk, true⟩)[j]? := fun j hj => by rw [HC4.out.row.cell, pc10_at L k j hj hkl, hxk.out]
        have y3 := y 3 (by omega)
        have y4 := y 4 (by omega)
        simp only [List.getElem?_cons_zero, List.getElem?_cons_succ, en10] at y3 y4
        clear y
        go_quiet (fail)
        go_wp2_with fail
        go_ret3
        have hcb : cb10 L h xc xs = L := by
          unfold cb10; rw [if_neg (fun z => by have := z.1; rw [H0.out] at this; cases this)]
        refine ⟨by unfold fd10; rw [if_pos H0.out, ← HXE.out]; rfl, ?_, HO4.out.trans (only2_below (below_drewN _ _))⟩
        rw [hcb, if_pos H0.out, if_pos H0.out]
        exact HC4.out.later (below_drewN _ _)
      · have e2B : (xs == s) = false := beq_eq_false_iff_ne.2 e2
        have H0 : Hid (hit10 L xc s = false) := by show _ = _; rw [hHIT.out]; rw [e2B]; simp
        go_quiet (fail)
        clear y0 y1 y2 y3 y4 hHIT k0 k1 x0 x1 x2
        go_upto_region 9 with fail
        generalize hW : (World.drewN w3 _).setCell _ _ = w4
        have O4 : Only2 p q w w4 := by
          rw [← hW]
          exact (only2_below HB3.out).trans ((only2_below (below_drewN _ _)).trans (only2_p p q _ _ _))
        have HO4 := hid O4
        have HX4 : Hid (Lies w4 w.heap.size 24 #[Value.slice A h.objs.length d, Value.int .i64 h.cap, Value.int .i64 h.last]) := by
          show Lies _ _ _ _
          rw [← hW]
          exact (HX3.out.later (below_drewN _ _)).far (by have := hplt.out; show w.heap.size ≠ p; omega) _
        have HK4 : Hid (Lies w4 w1.heap.size 88 #[.int .i64 xc, .int .i64 s]) := by
          show Lies _ _ _ _
          rw [← hW]
          exact (HK3.out.later (below_drewN _ _)).far (by have := hplt.out; have := HB1.out.size; show w1.heap.size ≠ p; omega) _
        have HC4 : Hid (Ca w4 p q L n (m + 1)) := by
          show Ca _ _ _ _ _ _
          rw [← hW]
          exact HC3.out.turn2 _
        clear hW O4 p1 p2 f1 f2
        have x0 := HX4.out.cell 0
        have x1 := HX4.out.cell 1
        have x2 := HX4.out.cell 2
        simp only [List.getElem?_toArray, List.getElem?_cons_zero, List.getElem?_cons_succ] at x0 x1 x2
        go_wp2_with fail
        refine (lfind_any9 h xc s A d _ (HS.out _ HO4.out) HF.out).mono ?_
        obtain ⟨v, a, en, hlk⟩ : ∃ v a e, lk9 h xc s = (v, a, e) := ⟨_, _, _, rfl⟩
        rw [hlk]
        rintro e w5 ⟨rfl, hb⟩
        have HLK := hid hlk
        have HO5 := hid (HO4.out.trans (only2_below hb))
        have HK5 := hid (HK4.out.later hb)
        have HC5 := hid (HC4.out.later hb)
        clear hb x0 x1 x2 hlk HX4
        by_cases e0 : en = 0
        · subst e0
          have k0 := HK5.out.cell 0
          have k1 := HK5.out.cell 1
          simp only [List.getElem?_toArray, List.getElem?_cons_zero, List.getElem?_cons_succ] at k0 k1
          go_upto_region 11 with fail
          go_wp2_with (first | (refine wpList_store_part rfl 92 _ _ rfl q (k * 5) (en10 ⟨xc, s, v, a, true⟩) rfl rfl 92 _ HC5.out.row (by kernel_rfl) (by rw [pc10_size]; show k * 5 + 5 ≤ _; omega) (by intro u hu; simp only [en10, List.mem_cons, List.not_mem_nil, or_false] at hu; rcases hu with rfl | rfl | rfl | rfl | rfl <;> rfl) ?_; rw [pc10_set L k _ hkl]) | fail)
          go_ret3
          have hcb : cb10 L h xc s = L.set k ⟨xc, s, v, a, true⟩ := by
            unfold cb10; rw [HLK.out, if_pos ⟨H0.out, rfl⟩, ← HKK.out]
          refine ⟨by unfold fd10; rw [if_neg (by rw [H0.out]; decide), HLK.out]; rfl, ?_, HO5.out.trans (only2_row _ _ _ _)⟩
          rw [hcb, if_neg (by rw [H0.out]; decide), if_neg (by rw [H0.out]; decide)]
          refine ⟨?_, HC5.out.row.row⟩
          rw [List.length_set]
          exact HC5.out.box.farRow hpq.out
        · have e0B : (en == 0) = false := beq_eq_false_iff_ne.2 e0
          go_wp2_with fail
          go_ret3
          have hcb : cb10 L h xc s = L := by
            unfold cb10; rw [if_neg (fun z => e0 (by have := z.2; rw [HLK.out] at this; exact this))]
          refine ⟨by unfold fd10; rw [if_neg (by rw [H0.out]; decide), HLK.out]; rfl, ?_, HO5.out⟩
          rw [hcb, if_neg (by rw [H0.out]; decide), if_neg (by rw [H0.out]; decide)]
          exact HC5.out
    · have e1B : (xc == c) = false := beq_eq_false_iff_ne.2 e1
      have H0 : Hid (hit10 L c s = false) := by show _ = _; rw [hHIT.out]; rw [e1B]; simp
      go_quiet (fail)
      clear y0 y1 y2 y3 y4 hHIT k0 k1 x0 x1 x2
      go_upto_region 9 with fail
      generalize hW : (World.drewN w3 _).setCell _ _ = w4
      have O4 : Only2 p q w w4 := by
        rw [← hW]
        exact (only2_below HB3.out).trans ((only2_below (below_drewN _ _)).trans (only2_p p q _ _ _))
      have HO4 := hid O4
      have HX4 : Hid (Lies w4 w.heap.size 24 #[Value.slice A h.objs.length d, Value.int .i64 h.cap, Value.int .i64 h.last]) := by
        show Lies _ _ _ _
        rw [← hW]
        exact (HX3.out.later (below_drewN _ _)).far (by have := hplt.out; show w.heap.size ≠ p; omega) _
      have HK4 : Hid (Lies w4 w1.heap.size 88 #[.int .i64 c, .int .i64 s]) := by
        show Lies _ _ _ _
        rw [← hW]
        exact (HK3.out.later (below_drewN _ _)).far (by have := hplt.out; have := HB1.out.size; show w1.heap.size ≠ p; omega) _
      have HC4 : Hid (Ca w4 p q L n (m + 1)) := by
        show Ca _ _ _ _ _ _
        rw [← hW]
        exact HC3.out.turn2 _
      clear hW O4 p1 p2 f1 f2
      have x0 := HX4.out.cell 0
      have x1 := HX4.out.cell 1
      have x2 := HX4.out.cell 2
      simp only [List.getElem?_toArray, List.getElem?_cons_zero, List.getElem?_cons_succ] at x0 x1 x2
      go_wp2_with fail
      refine (lfind_any9 h c s A d _ (HS.out _ HO4.out) HF.out).mono ?_
      obtain ⟨v, a, en, hlk⟩ : ∃ v a e, lk9 h c s = (v, a, e) := ⟨_, _, _, rfl⟩
      rw [hlk]
      rintro e w5 ⟨rfl, hb⟩
      have HLK := hid hlk
      have HO5 := hid (HO4.out.trans (only2_below hb))
      have HK5 := hid (HK4.out.later hb)
      have HC5 := hid (HC4.out.later hb)
      clear hb x0 x1 x2 hlk HX4
      by_cases e0 : en = 0
      · subst e0
        have k0 := HK5.out.cell 0
        have k1 := HK5.out.cell 1
        simp only [List.getElem?_toArray, List.getElem?_cons_zero, List.getElem?_cons_succ] at k0 k1
        go_upto_region 11 with fail
        go_wp2_with (first | (refine wpList_store_part rfl 92 _ _ rfl q (k * 5) (en10 ⟨c, s, v, a, true⟩) rfl rfl 92 _ HC5.out.row (by kernel_rfl) (by rw [pc10_size]; show k * 5 + 5 ≤ _; omega) (by intro u hu; simp only [en10, List.mem_cons, List.not_mem_nil, or_false] at hu; rcases hu with rfl | rfl | rfl | rfl | rfl <;> rfl) ?_; rw [pc10_set L k _ hkl]) | fail)
        go_ret3
        have hcb : cb10 L h c s = L.set k ⟨c, s, v, a, true⟩ := by
          unfold cb10; rw [HLK.out, if_pos ⟨H0.out, rfl⟩, ← HKK.out]
        refine ⟨by unfold fd10; rw [if_neg (by rw [H0.out]; decide), HLK.out]; rfl, ?_, HO5.out.trans (only2_row _ _ _ _)⟩
        rw [hcb, if_neg (by rw [H0.out]; decide), if_neg (by rw [H0.out]; decide)]
        refine ⟨?_, HC5.out.row.row⟩
        rw [List.length_set]
        exact HC5.out.box.farRow hpq.out
      · have e0B : (en == 0) = false := beq_eq_false_iff_ne.2 e0
        go_wp2_with fail
        go_ret3
        have hcb : cb10 L h c s = L := by
          unfold cb10; rw [if_neg (fun z => e0 (by have := z.2; rw [HLK.out] at this; exact this))]
        refine ⟨by unfold fd10; rw [if_neg (by rw [H0.out]; decide), HLK.out]; rfl, ?_, HO5.out⟩
        rw [hcb, if_neg (by rw [H0.out]; decide), if_neg (by rw [H0.out]; decide)]
        exact HC5.out
end Go.Proofs.Ytcahdhocilmoeaa
