/- The document's cache: Find. -/
import Derived.Test.YtcahdhocilmoeaaCG10
import Derived.Test.YtcahdhocilmoeaaCE10
namespace Go.Proofs.Ytcahdhocilmoeaa
open Go.RowKit
set_option maxRecDepth 100000
/-- a Find of the document's cache in blocks p and q -/
def FoundR (w : World) (p q : Nat) (L : List En) (h : Hp) (c s n m : Int) (e : Ending) (w' : World) : Prop :=
  e = .returned (tu10 (fd10 L h c s)) ∧ Cr w' p q (cb10 L h c s) (if hit10 L c s = true then n + 1 else n) (if hit10 L c s = true then m else m + 1) ∧ Only2 p q w w'
theorem Cr.turn1 {w : World} {p q : Nat} {L : List En} {n m : Int} (h : Cr w p q L n m) : Cr (w.setCell ⟨p, 1, none⟩ (.int .i64 (n + 1))) p q L (n + 1) m := by
  refine ⟨?_, h.row.far (fun e => h.ne e.symm) _⟩
  have := h.box.set_ 1 (.int .i64 (n + 1))
  simpa using this
theorem Cr.turn2 {w : World} {p q : Nat} {L : List En} {n m : Int} (h : Cr w p q L n m) : Cr (w.setCell ⟨p, 2, none⟩ (.int .i64 (m + 1))) p q L n (m + 1) := by
  refine ⟨?_, h.row.far (fun e => h.ne e.symm) _⟩
  have := h.box.set_ 2 (.int .i64 (m + 1))
  simpa using this
set_option maxHeartbeats 1500000 in
theorem rfind_any10 {w : World} {p q : Nat} {L : List En} {n m : Int} (hc : Cr w p q L n m) (hl : 1 ≤ L.length) (hl2 : L.length ≤ 64) (h : Hp) (c s : Int) (A : Option Addr) (d : Nat) (hs : ∀ w', Only2 p q w w' → ObsR w' A h.objs) (fit : h.Fit)
    (hn : 0 ≤ n ∧ n ≤ 1000) (hm : 0 ≤ m ∧ m ≤ 1000) :
    Calls Try.prog 42 #[pp10 p, .agg #[.slice A h.objs.length d, .int .i64 h.cap, .int .i64 h.last], .int .i64 c, .int .i64 s] w (FoundR w p q L h c s n m) := by
  obtain ⟨w1, hw1⟩ : ∃ u, u = w.alloc (.cells #[Value.slice A h.objs.length d, Value.int .i64 h.cap, Value.int .i64 h.last] 24) := ⟨_, rfl⟩
  have HB1 : Hid (Below w.heap.size w w1) := by show Below _ _ _; rw [hw1]; exact below_alloc _ _
  have HX1 : Hid (Lies w1 w.heap.size 24 #[Value.slice A h.objs.length d, Value.int .i64 h.cap, Value.int .i64 h.last]) := by show Lies _ _ _ _; rw [hw1]; exact Lies.new _ _ _
  have HC1 := hid (hc.later HB1.out)
  have HS := hid hs
  have HF := hid fit
  have hl0 : (L.length : Int) ≠ 0 := by omega
  have hl1 : ¬ L.length = 0 := by omega
  have hl3 : (L.length : Int) ≤ 64 := by omega
  obtain ⟨r, hr⟩ : ∃ r, (wrap64 (wrap64 (31 * c) + s)).tmod (L.length : Int) = r := ⟨_, rfl⟩
  have e1 : zz10 c s = wrap64 (wrap64 (31 * c) + s) := by unfold zz10; rw [IntWalk.i64_left, IntWalk.i64_left]
  have hmid := pl10_mid hl (zz10 c s)
  have hplr : pl10 L.length c s = (r + (L.length : Int)).tmod L.length := by rw [← hr, ← e1]; rfl
  rw [e1, hr] at hmid
  have hin := pl10_in hl c s
  obtain ⟨k, hk⟩ : ∃ k : Nat, pl10 L.length c s = k := ⟨(pl10 L.length c s).toNat, by omega⟩
  have hkt : (pl10 L.length c s).toNat = k := by omega
  rw [hk] at hin hplr
  have hkl : k < L.length := by omega
  have hkI : (k : Int) < (L.length : Int) := by omega
  have hk0 : (0 : Int) ≤ (k : Int) := by omega
  have hrw : wrap64 (r + (L.length : Int)) = r + (L.length : Int) := IntWalk.wrap64_in _ (by omega)
  have hrk : (r + (L.length : Int)).tmod (L.length : Int) = (k : Int) := hplr.symm
  obtain ⟨x, hx⟩ : ∃ x, x = at10 L c s := ⟨_, rfl⟩
  have hxk : L.getD k em10 = x := by rw [hx]; unfold at10; rw [hkt]
  have HKK : Hid (k = (pl10 L.length c s).toNat) := hkt.symm
  have hpq := hid hc.ne
  have hplt := hid hc.box.lt
  have hqlt := hid hc.row.lt
  obtain ⟨hn0, hn1⟩ := hn
  obtain ⟨hm0, hm1⟩ := hm
  clear hc hs fit hin e1 hk hkt hplr hmid
  have c0 := HC1.out.box.cell 0
  simp only [List.getElem?_toArray, List.getElem?_cons_zero] at c0
  have y : ∀ j, j < 5 → w1.cell? ⟨q, k * 5 + j, none⟩ = (er10 x)[j]? := fun j hj => by rw [HC1.out.row.cell, rc10_at L k j hj hkl, hxk]
  have y0 := y 0 (by omega)
  have y1 := y 1 (by omega)
  have y2 := y 2 (by omega)
  have y3 := y 3 (by omega)
  have y4 := y 4 (by omega)
  simp only [List.getElem?_cons_zero, List.getElem?_cons_succ, er10, Nat.add_zero] at y0 y1 y2 y3 y4
  clear y
  have HXE := hid hx
  have hHIT : Hid (hit10 L c s = (x.full && (x.c == c) && (x.s == s))) := by show _ = _; rw [hx]; rfl
  clear hx hxk
  obtain ⟨xc, xs, xm, xk, xf⟩ := x
  simp only at y0 y1 y2 y3 y4
  have HX2 : Hid (Lies (w1.alloc (.cells #[.int .i64 xc, .int .i64 xs, .int .i64 xm, .int .i64 xk, .bool xf] 86)) w.heap.size 24 #[Value.slice A h.objs.length d, Value.int .i64 h.cap, Value.int .i64 h.last]) := HX1.out.alloc _
  have HC2 : Hid (Cr (w1.alloc (.cells #[.int .i64 xc, .int .i64 xs, .int .i64 xm, .int .i64 xk, .bool xf] 86)) p q L n m) := HC1.out.later (below_alloc _ _)
  have HE2 := hid (Lies.new w1 86 #[.int .i64 xc, .int .i64 xs, .int .i64 xm, .int .i64 xk, .bool xf])
  have HB2 : Hid (Below w.heap.size w (w1.alloc (.cells #[.int .i64 xc, .int .i64 xs, .int .i64 xm, .int .i64 xk, .bool xf] 86))) := then_w HB1.out (below_alloc _ _)
  go_enter Try.func42, Try.ntmps42
  go_upto_region 1 with fail
  rw [← hw1]
  clear hw1
  go_upto_region 4 with fail
  generalize hW : w1.alloc _ = w2 at HX2 HC2 HE2 HB2 ⊢
  clear hW y0 y1 y2 y3 y4 c0
  have p0 := HC2.out.box.cell 0
  have p1 := HC2.out.box.cell 1
  have p2 := HC2.out.box.cell 2
  have f1 := HC2.out.box.frozen 1
  have f2 := HC2.out.box.frozen 2
  have x0 := HX2.out.cell 0
  have x1 := HX2.out.cell 1
  have x2 := HX2.out.cell 2
  have z0 := HE2.out.cell 0
  have z1 := HE2.out.cell 1
  have z2 := HE2.out.cell 2
  have z3 := HE2.out.cell 3
  have z4 := HE2.out.cell 4
  simp only [List.getElem?_toArray, List.getElem?_cons_zero, List.getElem?_cons_succ] at p0 p1 p2 x0 x1 x2 z0 z1 z2 z3 z4
  cases xf
  · have H0 : Hid (hit10 L c s = false) := by show _ = _; rw [hHIT.out]; rfl
    go_upto_region 8 with fail
    generalize hW : World.setCell w2 _ _ = w4
    have O4 : Only2 p q w w4 := by
      rw [← hW]
      exact (only2_below HB2.out).trans (only2_p p q _ _ _)
    have HO4 := hid O4
    have HX4 : Hid (Lies w4 w.heap.size 24 #[Value.slice A h.objs.length d, Value.int .i64 h.cap, Value.int .i64 h.last]) := by
      show Lies _ _ _ _
      rw [← hW]
      exact HX2.out.far (by have := hplt.out; show w.heap.size ≠ p; omega) _
    have HC4 : Hid (Cr w4 p q L n (m + 1)) := by
      show Cr _ _ _ _ _ _
      rw [← hW]
      exact HC2.out.turn2
    clear hW O4 p0 p1 p2 f1 f2 x0 x1 x2 z0 z1 z2 z3 z4
    have x0 := HX4.out.cell 0
    have x1 := HX4.out.cell 1
    have x2 := HX4.out.cell 2
    simp only [List.getElem?_toArray, List.getElem?_cons_zero, List.getElem?_cons_succ] at x0 x1 x2
    go_wp2_with fail
    refine (rlook_any10 h c s A d _ (HS.out _ HO4.out) HF.out).mono ?_
    obtain ⟨v, a, en, hlk⟩ : ∃ v a e, lk9 h c s = (v, a, e) := ⟨_, _, _, rfl⟩
    rw [hlk]
    rintro e w5 ⟨rfl, hb⟩
    unfold tv10
    have HLK := hid hlk
    have HO5 := hid (HO4.out.trans (only2_below hb))
    have HC5 := hid (HC4.out.later hb)
    clear hb x0 x1 x2 hlk HX4
    by_cases e0 : en = 0
    · subst e0
      have p0 := HC5.out.box.cell 0
      simp only [List.getElem?_toArray, List.getElem?_cons_zero] at p0
      go_upto_region 10 with fail
      go_wp2_with (first | (refine wpList_store_part rfl 86 _ _ rfl q (k * 5) (er10 ⟨c, s, v, a, true⟩) rfl rfl 86 _ HC5.out.row (by kernel_rfl) (by rw [rc10_size]; show k * 5 + 5 ≤ _; omega) (by intro u hu; simp only [er10, List.mem_cons, List.not_mem_nil, or_false] at hu; rcases hu with rfl | rfl | rfl | rfl | rfl <;> rfl) ?_; rw [rc10_set L k _ hkl]) | fail)
      go_ret3
      have hcb : cb10 L h c s = L.set k ⟨c, s, v, a, true⟩ := by
        unfold cb10; rw [HLK.out, if_pos ⟨H0.out, rfl⟩, ← HKK.out]
      refine ⟨by unfold fd10; rw [if_neg (by rw [H0.out]; decide), HLK.out]; rfl, ?_, HO5.out.trans (only2_row _ _ _ _)⟩
      rw [hcb, if_neg (by rw [H0.out]; decide), if_neg (by rw [H0.out]; decide)]
      refine ⟨?_, HC5.out.row.row⟩
      rw [List.length_set]
      exact HC5.out.box.farRow hpq.out
    · have e0B : (en == 0) = false := beq_eq_false_iff_ne.2 e0
      go_wp2_with fail
      go_ret3
      have hcb : cb10 L h c s = L := by
        unfold cb10; rw [if_neg (fun z => e0 (by have := z.2; rw [HLK.out] at this; exact this))]
      refine ⟨by unfold fd10; rw [if_neg (by rw [H0.out]; decide), HLK.out]; rfl, ?_, HO5.out⟩
      rw [hcb, if_neg (by rw [H0.out]; decide), if_neg (by rw [H0.out]; decide)]
      exact HC5.out
  · by_cases e1 : xc = c
    · subst e1
      by_cases e2 : xs = s
      · subst e2
        have H0 : Hid (hit10 L xc xs = true) := by show _ = _; rw [hHIT.out]; simp
        go_upto_region 6 with fail
        generalize hW : World.setCell w2 _ _ = w4
        have O4 : Only2 p q w w4 := by
          rw [← hW]
          exact (only2_below HB2.out).trans (only2_p p q _ _ _)
        have HO4 := hid O4
        have HE4 : Hid (Lies w4 w1.heap.size 86 #[.int .i64 xc, .int .i64 xs, .int .i64 xm, .int .i64 xk, .bool true]) := by
          show Lies _ _ _ _
          rw [← hW]
          exact HE2.out.far (by have := hplt.out; have := HB1.out.size; show w1.heap.size ≠ p; omega) _
        have HC4 : Hid (Cr w4 p q L (n + 1) m) := by
          show Cr _ _ _ _ _ _
          rw [← hW]
          exact HC2.out.turn1
        clear hW O4 p0 p1 p2 f1 f2 x0 x1 x2 z0 z1 z2 z3 z4
        have z2 := HE4.out.cell 2
        have z3 := HE4.out.cell 3
        simp only [List.getElem?_toArray, List.getElem?_cons_zero, List.getElem?_cons_succ] at z2 z3
        go_quiet (fail)
        go_wp2_with fail
        go_ret3
        have hcb : cb10 L h xc xs = L := by
          unfold cb10; rw [if_neg (fun z => by have := z.1; rw [H0.out] at this; cases this)]
        refine ⟨by unfold fd10; rw [if_pos H0.out, ← HXE.out]; rfl, ?_, HO4.out.trans (only2_below (below_drewN _ _))⟩
        rw [hcb, if_pos H0.out, if_pos H0.out]
        exact HC4.out.later (below_drewN _ _)
      · have e2B : (xs == s) = false := beq_eq_false_iff_ne.2 e2
        have H0 : Hid (hit10 L xc s = false) := by show _ = _; rw [hHIT.out]; rw [e2B]; simp
        go_upto_region 8 with fail
        generalize hW : World.setCell w2 _ _ = w4
        have O4 : Only2 p q w w4 := by
          rw [← hW]
          exact (only2_below HB2.out).trans (only2_p p q _ _ _)
        have HO4 := hid O4
        have HX4 : Hid (Lies w4 w.heap.size 24 #[Value.slice A h.objs.length d, Value.int .i64 h.cap, Value.int .i64 h.last]) := by
          show Lies _ _ _ _
          rw [← hW]
          exact HX2.out.far (by have := hplt.out; show w.heap.size ≠ p; omega) _
        have HC4 : Hid (Cr w4 p q L n (m + 1)) := by
          show Cr _ _ _ _ _ _
          rw [← hW]
          exact HC2.out.turn2
        clear hW O4 p0 p1 p2 f1 f2 x0 x1 x2 z0 z1 z2 z3 z4
        have x0 := HX4.out.cell 0
        have x1 := HX4.out.cell 1
        have x2 := HX4.out.cell 2
        simp only [List.getElem?_toArray, List.getElem?_cons_zero, List.getElem?_cons_succ] at x0 x1 x2
        go_wp2_with fail
        refine (rlook_any10 h xc s A d _ (HS.out _ HO4.out) HF.out).mono ?_
        obtain ⟨v, a, en, hlk⟩ : ∃ v a e, lk9 h xc s = (v, a, e) := ⟨_, _, _, rfl⟩
        rw [hlk]
        rintro e w5 ⟨rfl, hb⟩
        unfold tv10
        have HLK := hid hlk
        have HO5 := hid (HO4.out.trans (only2_below hb))
        have HC5 := hid (HC4.out.later hb)
        clear hb x0 x1 x2 hlk HX4
        by_cases e0 : en = 0
        · subst e0
          have p0 := HC5.out.box.cell 0
          simp only [List.getElem?_toArray, List.getElem?_cons_zero] at p0
          go_upto_region 10 with fail
          go_wp2_with (first | (refine wpList_store_part rfl 86 _ _ rfl q (k * 5) (er10 ⟨xc, s, v, a, true⟩) rfl rfl 86 _ HC5.out.row (by kernel_rfl) (by rw [rc10_size]; show k * 5 + 5 ≤ _; omega) (by intro u hu; simp only [er10, List.mem_cons, List.not_mem_nil, or_false] at hu; rcases hu with rfl | rfl | rfl | rfl | rfl <;> rfl) ?_; rw [rc10_set L k _ hkl]) | fail)
          go_ret3
          have hcb : cb10 L h xc s = L.set k ⟨xc, s, v, a, true⟩ := by
            unfold cb10; rw [HLK.out, if_pos ⟨H0.out, rfl⟩, ← HKK.out]
          refine ⟨by unfold fd10; rw [if_neg (by rw [H0.out]; decide), HLK.out]; rfl, ?_, HO5.out.trans (only2_row _ _ _ _)⟩
          rw [hcb, if_neg (by rw [H0.out]; decide), if_neg (by rw [H0.out]; decide)]
          refine ⟨?_, HC5.out.row.row⟩
          rw [List.length_set]
          exact HC5.out.box.farRow hpq.out
        · have e0B : (en == 0) = false := beq_eq_false_iff_ne.2 e0
          go_wp2_with fail
          go_ret3
          have hcb : cb10 L h xc s = L := by
            unfold cb10; rw [if_neg (fun z => e0 (by have := z.2; rw [HLK.out] at this; exact this))]
          refine ⟨by unfold fd10; rw [if_neg (by rw [H0.out]; decide), HLK.out]; rfl, ?_, HO5.out⟩
          rw [hcb, if_neg (by rw [H0.out]; decide), if_neg (by rw [H0.out]; decide)]
          exact HC5.out
    · have e1B : (xc == c) = false := beq_eq_false_iff_ne.2 e1
      have H0 : Hid (hit10 L c s = false) := by show _ = _; rw [hHIT.out]; rw [e1B]; simp
      go_upto_region 8 with fail
      generalize hW : World.setCell w2 _ _ = w4
      have O4 : Only2 p q w w4 := by
        rw [← hW]
        exact (only2_below HB2.out).trans (only2_p p q _ _ _)
      have HO4 := hid O4
      have HX4 : Hid (Lies w4 w.heap.size 24 #[Value.slice A h.objs.length d, Value.int .i64 h.cap, Value.int .i64 h.last]) := by
        show Lies _ _ _ _
        rw [← hW]
        exact HX2.out.far (by have := hplt.out; show w.heap.size ≠ p; omega) _
      have HC4 : Hid (Cr w4 p q L n (m + 1)) := by
        show Cr _ _ _ _ _ _
        rw [← hW]
        exact HC2.out.turn2
      clear hW O4 p0 p1 p2 f1 f2 x0 x1 x2 z0 z1 z2 z3 z4
      have x0 := HX4.out.cell 0
      have x1 := HX4.out.cell 1
      have x2 := HX4.out.cell 2
      simp only [List.getElem?_toArray, List.getElem?_cons_zero, List.getElem?_cons_succ] at x0 x1 x2
      go_wp2_with fail
      refine (rlook_any10 h c s A d _ (HS.out _ HO4.out) HF.out).mono ?_
      obtain ⟨v, a, en, hlk⟩ : ∃ v a e, lk9 h c s = (v, a, e) := ⟨_, _, _, rfl⟩
      rw [hlk]
      rintro e w5 ⟨rfl, hb⟩
      unfold tv10
      have HLK := hid hlk
      have HO5 := hid (HO4.out.trans (only2_below hb))
      have HC5 := hid (HC4.out.later hb)
      clear hb x0 x1 x2 hlk HX4
      by_cases e0 : en = 0
      · subst e0
        have p0 := HC5.out.box.cell 0
        simp only [List.getElem?_toArray, List.getElem?_cons_zero] at p0
        go_upto_region 10 with fail
        go_wp2_with (first | (refine wpList_store_part rfl 86 _ _ rfl q (k * 5) (er10 ⟨c, s, v, a, true⟩) rfl rfl 86 _ HC5.out.row (by kernel_rfl) (by rw [rc10_size]; show k * 5 + 5 ≤ _; omega) (by intro u hu; simp only [er10, List.mem_cons, List.not_mem_nil, or_false] at hu; rcases hu with rfl | rfl | rfl | rfl | rfl <;> rfl) ?_; rw [rc10_set L k _ hkl]) | fail)
        go_ret3
        have hcb : cb10 L h c s = L.set k ⟨c, s, v, a, true⟩ := by
          unfold cb10; rw [HLK.out, if_pos ⟨H0.out, rfl⟩, ← HKK.out]
        refine ⟨by unfold fd10; rw [if_neg (by rw [H0.out]; decide), HLK.out]; rfl, ?_, HO5.out.trans (only2_row _ _ _ _)⟩
        rw [hcb, if_neg (by rw [H0.out]; decide), if_neg (by rw [H0.out]; decide)]
        refine ⟨?_, HC5.out.row.row⟩
        rw [List.length_set]
        exact HC5.out.box.farRow hpq.out
      · have e0B : (en == 0) = false := beq_eq_false_iff_ne.2 e0
        go_wp2_with fail
        go_ret3
        have hcb : cb10 L h c s = L := by
          unfold cb10; rw [if_neg (fun z => e0 (by have := z.2; rw [HLK.out] at this; exact this))]
        refine ⟨by unfold fd10; rw [if_neg (by rw [H0.out]; decide), HLK.out]; rfl, ?_, HO5.out⟩
        rw [hcb, if_neg (by rw [H0.out]; decide), if_neg (by rw [H0.out]; decide)]
        exact HC5.out
end Go.Proofs.Ytcahdhocilmoeaa
