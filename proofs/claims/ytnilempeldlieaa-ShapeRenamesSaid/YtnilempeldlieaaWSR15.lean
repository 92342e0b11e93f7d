/- The document on states: one whose objects have changed places. -/
import Derived.Test.YtnilempeldlieaaM07
import Derived.Test.YtnilempeldlieaaWRN
namespace Go.Proofs.Ytnilempeldlieaa
open Go.RowKit
set_option maxRecDepth 100000
theorem half15 {n : Nat} {v : Int} (h : refB n v = true) : v.tdiv 2 = ((atV v).toNat : Int) := by
  obtain ⟨a, b, c⟩ := refB_no h
  have e1 := refB_nat h
  have e2 := nat_ref h
  have e3 : v.tdiv 2 = v / 2 := Int.tdiv_eq_ediv_of_nonneg (by omega)
  omega
theorem ren15 {h k : Hp} {pm : List Int} (hk : (⟨rnK h pm h.objs.length, h.cap, h.last⟩ : Hp) = k) (A B : Option Addr) (c d : Nat) (w : World) (hs : ObsR w A h.objs) (hm : mayB h = true) (hp : IntsR w B pm) (P : PermL pm h.objs.length) :
    Calls Try.prog 26 #[.agg #[.slice A h.objs.length c, .int .i64 h.cap, .int .i64 h.last], .slice B pm.length d] w (HeapOwn w k) := by subst hk; exact renamed_any h pm A B c d w hs hm hp P
/-- a state is told -/
def StO15 (w : World) (t : St) (e : Ending) (w' : World) : Prop := ∃ A c, e = .returned (.agg #[.slice A t.hp.objs.length c, .int .i64 t.hp.cap, .int .i64 t.hp.last, .int .i64 t.proc, .int .i64 t.ready, .int .i64 t.halt, .int .i64 t.steps, .int .i64 t.used]) ∧ ObsR w' A t.hp.objs ∧ Below w.heap.size w w'
set_option maxHeartbeats 4000000 in
theorem rrenamed_any15 (s : St) (A : Option Addr) (c : Nat) (pm : List Int) (P : Option Addr) (e : Nat) (w : World) (hsX : ObsR w A s.hp.objs) (fitX : s.hp.Fit) (hp : IntsR w P pm) (C : Ck15 s) (hpm : PermL pm s.hp.objs.length) :
    Calls Try.prog 12 #[.agg #[.slice A s.hp.objs.length c, .int .i64 s.hp.cap, .int .i64 s.hp.last, .int .i64 s.proc, .int .i64 s.ready, .int .i64 s.halt, .int .i64 s.steps, .int .i64 s.used], .slice P pm.length e] w (StO15 w (rn15 s pm)) := by
  obtain ⟨w0, hw0⟩ : ∃ w0, w0 = ((w.alloc (.cells #[.slice A s.hp.objs.length c, .int .i64 s.hp.cap, .int .i64 s.hp.last, .int .i64 s.proc, .int .i64 s.ready, .int .i64 s.halt, .int .i64 s.steps, .int .i64 s.used] 27)).alloc (.cells #[.slice none 0 0, .int .i64 0, .int .i64 0, .int .i64 0, .int .i64 0, .int .i64 0, .int .i64 0, .int .i64 0] 27)) := ⟨_, rfl⟩
  have HB0 : Hid (Below w.heap.size w w0) := by show Below _ _ _; rw [hw0]; exact below_alloc2 w _ _
  have X0 : Hid (Lies w0 (w.heap.size) 27 #[.slice A s.hp.objs.length c, .int .i64 s.hp.cap, .int .i64 s.hp.last, .int .i64 s.proc, .int .i64 s.ready, .int .i64 s.halt, .int .i64 s.steps, .int .i64 s.used]) := by
    show Lies _ _ _ _
    rw [hw0]
    have := (Lies.new w 27 #[.slice A s.hp.objs.length c, .int .i64 s.hp.cap, .int .i64 s.hp.last, .int .i64 s.proc, .int .i64 s.ready, .int .i64 s.halt, .int .i64 s.steps, .int .i64 s.used]).alloc (.cells #[.slice none 0 0, .int .i64 0, .int .i64 0, .int .i64 0, .int .i64 0, .int .i64 0, .int .i64 0, .int .i64 0] 27)
    simpa [Hid] using this
  have OX0 := hid (hsX.below HB0.out)
  have HFX := hid fitX
  have hflX := fitX.1
  have K0 : Hid (Lies w0 (w.heap.size + 1) 27 #[.slice none 0 0, .int .i64 0, .int .i64 0, .int .i64 0, .int .i64 0, .int .i64 0, .int .i64 0, .int .i64 0]) := by
    show Lies _ _ _ _
    rw [hw0]
    have := Lies.new (w.alloc (.cells #[.slice A s.hp.objs.length c, .int .i64 s.hp.cap, .int .i64 s.hp.last, .int .i64 s.proc, .int .i64 s.ready, .int .i64 s.halt, .int .i64 s.steps, .int .i64 s.used] 27)) 27 #[.slice none 0 0, .int .i64 0, .int .i64 0, .int .i64 0, .int .i64 0, .int .i64 0, .int .i64 0, .int .i64 0]
    simpa [Hid] using this
  have HP0 := hid hp
  have HC := hid C
  have HPM := hid hpm
  obtain ⟨k1, hk1⟩ : ∃ k : Hp, k = ⟨rnK s.hp pm s.hp.objs.length, s.hp.cap, s.hp.last⟩ := ⟨_, rfl⟩
  obtain ⟨i, hi⟩ : ∃ i, i = (atV s.proc).toNat := ⟨_, rfl⟩
  obtain ⟨j, hj⟩ : ∃ i, i = (atV s.ready).toNat := ⟨_, rfl⟩
  obtain ⟨x1, hx1, hx2, hx3⟩ := perm_at hpm (show i < s.hp.objs.length by rw [hi]; exact (refB_nat C.proc).1)
  obtain ⟨y1, hy1, hy2, hy3⟩ := perm_at hpm (show j < s.hp.objs.length by rw [hj]; exact (refB_nat C.ready).1)
  have H256 := may_len C.may
  have HE : Hid (rn15 s pm = ⟨k1, 2 * (x1 : Int), 2 * (y1 : Int), s.halt, s.steps, s.used⟩) := by
    show _ = _
    unfold rn15 rnV
    rw [if_pos C.proc, if_pos C.ready, ← hi, ← hj, hx2, hy2, ← hk1]
  have HQ1 : Hid (s.proc.tdiv 2 = (i : Int)) := by show _ = _; rw [hi]; exact half15 C.proc
  have HQ2 : Hid (s.ready.tdiv 2 = (j : Int)) := by show _ = _; rw [hj]; exact half15 C.ready
  have hpl := hpm.1
  have hil : i < pm.length := by rw [hpl, hi]; exact (refB_nat C.proc).1
  have hjl : j < pm.length := by rw [hpl, hj]; exact (refB_nat C.ready).1
  have HX3 := hid hx3
  have HY3 := hid hy3
  have HK1 := hid hk1
  have hbx : (x1 : Int) ≤ 256 := by omega
  have hby : (y1 : Int) ≤ 256 := by omega
  obtain ⟨bp, op, rfl, hlt, hcs⟩ := hp (by omega)
  have I1 := hid (hcs i x1 hx3)
  have I2 := hid (hcs j y1 hy3)
  have HLT := hid hlt
  have hbi : (i : Int) < (pm.length : Int) := by omega
  have hbj : (j : Int) < (pm.length : Int) := by omega
  have hi0 : (i : Int) ≤ 1000 := by omega
  have hj0 : (j : Int) ≤ 1000 := by omega
  have HW1 : Hid (IntKind.i64.wrap (i : Int) = (i : Int)) := IntWalk.i64_in _ (by omega)
  have HW2 : Hid (IntKind.i64.wrap (j : Int) = (j : Int)) := IntWalk.i64_in _ (by omega)
  have hw3 : IntKind.i64.wrap (2 * (x1 : Int)) = 2 * (x1 : Int) := IntWalk.i64_in _ (by omega)
  have hw4 : IntKind.i64.wrap (2 * (y1 : Int)) = 2 * (y1 : Int) := IntWalk.i64_in _ (by omega)
  clear hi hj hx1 hx2 hx3 hy1 hy2 hy3 hpl hk1 H256 hcs hlt
  clear hsX fitX hp C hpm
  go_enter Try.func12, Try.ntmps12
  go_upto_region 1 with fail
  rw [← hw0]
  clear hw0
  have x0 := X0.out.cell 0
  have x1 := X0.out.cell 1
  have x2 := X0.out.cell 2
  have x3 := X0.out.cell 3
  have x4 := X0.out.cell 4
  have x5 := X0.out.cell 5
  have x6 := X0.out.cell 6
  have x7 := X0.out.cell 7
  simp only [List.getElem?_toArray, List.getElem?_cons_zero, List.getElem?_cons_succ] at x0 x1 x2 x3 x4 x5 x6 x7
  go_wp2_with fail
  clear x0 x1 x2 x3 x4 x5 x6 x7
  refine (ren15 HK1.out.symm A (some ⟨bp, op, none⟩) c e _ OX0.out HC.out.may (HP0.out.below HB0.out) HPM.out).mono ?_
  rintro e1 w1 ⟨A1, c1, ls, rfl, hls, hob, hb⟩
  have HLS := hid hls
  clear hls
  have HB1 := hid (then_w HB0.out hb)
  have X1 := hid (X0.out.later hb)
  have K1 := hid (K0.out.later hb)
  have OX1 := hid (OX0.out.below hb)
  have Q1 := hid hob
  clear hob hb
  clear HB0 X0 K0 OX0
  have x0 := X1.out.cell 0
  have x1 := X1.out.cell 1
  have x2 := X1.out.cell 2
  have x3 := X1.out.cell 3
  have x4 := X1.out.cell 4
  have x5 := X1.out.cell 5
  have x6 := X1.out.cell 6
  have x7 := X1.out.cell 7
  have xf0 := X1.out.frozen 0
  have xf1 := X1.out.frozen 1
  have xf2 := X1.out.frozen 2
  have xf3 := X1.out.frozen 3
  have xf4 := X1.out.frozen 4
  have xf5 := X1.out.frozen 5
  have xf6 := X1.out.frozen 6
  have xf7 := X1.out.frozen 7
  simp only [List.getElem?_toArray, List.getElem?_cons_zero, List.getElem?_cons_succ] at x0 x1 x2 x3 x4 x5 x6 x7
  go_upto_region 2 with fail
  clear xf0 xf1 xf2 xf3 xf4 xf5 xf6 xf7 x0 x1 x2 x3 x4 x5 x6 x7
  obtain ⟨w2, hw⟩ : ∃ x, x = (((w1.setCell ⟨(w.heap.size), 0, none⟩ (.slice A1 k1.objs.length c1)).setCell ⟨(w.heap.size), 1, none⟩ (.int .i64 k1.cap)).setCell ⟨(w.heap.size), 2, none⟩ (.int .i64 k1.last)) := ⟨_, rfl⟩
  rw [← hw]
  have hw2 : w2 = (sets15 w1 (w.heap.size) 0 [.slice A1 k1.objs.length c1, .int .i64 k1.cap, .int .i64 k1.last]) := hw
  clear hw
  have HB2 : Hid (Below w.heap.size w w2) := by show Below _ _ _; rw [hw2]; exact (Below.sets15 (by omega) [.slice A1 k1.objs.length c1, .int .i64 k1.cap, .int .i64 k1.last] 0 HB1.out)
  have Q2 : Hid (OwnH w2 w0.heap.size A1 c1 ls) := by show OwnH _ _ _ _ _; rw [hw2]; exact (OwnH.sets15 (by decide) (by decide) [.slice A1 k1.objs.length c1, .int .i64 k1.cap, .int .i64 k1.last] 0 Q1.out X1.out)
  have X2 : Hid (Lies w2 (w.heap.size) 27 #[.slice A1 k1.objs.length c1, .int .i64 k1.cap, .int .i64 k1.last, .int .i64 s.proc, .int .i64 s.ready, .int .i64 s.halt, .int .i64 s.steps, .int .i64 s.used]) := by show Lies _ _ _ _; rw [hw2]; exact (X1.out.s3_15 (.slice A1 k1.objs.length c1) (.int .i64 k1.cap) (.int .i64 k1.last))
  have K2 : Hid (Lies w2 (w.heap.size + 1) 27 #[.slice none 0 0, .int .i64 0, .int .i64 0, .int .i64 0, .int .i64 0, .int .i64 0, .int .i64 0, .int .i64 0]) := by show Lies _ _ _ _; rw [hw2]; exact (Lies.sets15_far (by omega) [.slice A1 k1.objs.length c1, .int .i64 k1.cap, .int .i64 k1.last] 0 K1.out)
  clear hw2
  clear HB1 X1 K1 Q1 OX1
  have hq1 := HQ1.out
  have hw1 := HW1.out
  have i1 := (HB2.out.cell (p := ⟨bp, op + i, none⟩) HLT.out).trans I1.out
  have x0 := X2.out.cell 0
  have x1 := X2.out.cell 1
  have x2 := X2.out.cell 2
  have x3 := X2.out.cell 3
  have x4 := X2.out.cell 4
  have x5 := X2.out.cell 5
  have x6 := X2.out.cell 6
  have x7 := X2.out.cell 7
  have xf0 := X2.out.frozen 0
  have xf1 := X2.out.frozen 1
  have xf2 := X2.out.frozen 2
  have xf3 := X2.out.frozen 3
  have xf4 := X2.out.frozen 4
  have xf5 := X2.out.frozen 5
  have xf6 := X2.out.frozen 6
  have xf7 := X2.out.frozen 7
  simp only [List.getElem?_toArray, List.getElem?_cons_zero, List.getElem?_cons_succ] at x0 x1 x2 x3 x4 x5 x6 x7
  go_upto_region 3 with fail
  clear xf0 xf1 xf2 xf3 xf4 xf5 xf6 xf7 x0 x1 x2 x3 x4 x5 x6 x7
  clear i1 hq1 hw1
  obtain ⟨w3, hw⟩ : ∃ x, x = (w2.setCell ⟨(w.heap.size), 3, none⟩ (.int .i64 (2 * (x1 : Int)))) := ⟨_, rfl⟩
  rw [← hw]
  have hw2 : w3 = (sets15 w2 (w.heap.size) 3 [.int .i64 (2 * (x1 : Int))]) := hw
  clear hw
  have HB3 : Hid (Below w.heap.size w w3) := by show Below _ _ _; rw [hw2]; exact (Below.sets15 (by omega) [.int .i64 (2 * (x1 : Int))] 3 HB2.out)
  have Q3 : Hid (OwnH w3 w0.heap.size A1 c1 ls) := by show OwnH _ _ _ _ _; rw [hw2]; exact (OwnH.sets15 (by decide) (by decide) [.int .i64 (2 * (x1 : Int))] 3 Q2.out X2.out)
  have X3 : Hid (Lies w3 (w.heap.size) 27 #[.slice A1 k1.objs.length c1, .int .i64 k1.cap, .int .i64 k1.last, .int .i64 (2 * (x1 : Int)), .int .i64 s.ready, .int .i64 s.halt, .int .i64 s.steps, .int .i64 s.used]) := by show Lies _ _ _ _; rw [hw2]; exact (X2.out.s1at3_15 (.int .i64 (2 * (x1 : Int))))
  have K3 : Hid (Lies w3 (w.heap.size + 1) 27 #[.slice none 0 0, .int .i64 0, .int .i64 0, .int .i64 0, .int .i64 0, .int .i64 0, .int .i64 0, .int .i64 0]) := by show Lies _ _ _ _; rw [hw2]; exact (Lies.sets15_far (by omega) [.int .i64 (2 * (x1 : Int))] 3 K2.out)
  clear hw2
  clear HB2 X2 K2 Q2
  have hq2 := HQ2.out
  have hw2 := HW2.out
  have i2 := (HB3.out.cell (p := ⟨bp, op + j, none⟩) HLT.out).trans I2.out
  have x0 := X3.out.cell 0
  have x1 := X3.out.cell 1
  have x2 := X3.out.cell 2
  have x3 := X3.out.cell 3
  have x4 := X3.out.cell 4
  have x5 := X3.out.cell 5
  have x6 := X3.out.cell 6
  have x7 := X3.out.cell 7
  have xf0 := X3.out.frozen 0
  have xf1 := X3.out.frozen 1
  have xf2 := X3.out.frozen 2
  have xf3 := X3.out.frozen 3
  have xf4 := X3.out.frozen 4
  have xf5 := X3.out.frozen 5
  have xf6 := X3.out.frozen 6
  have xf7 := X3.out.frozen 7
  simp only [List.getElem?_toArray, List.getElem?_cons_zero, List.getElem?_cons_succ] at x0 x1 x2 x3 x4 x5 x6 x7
  go_upto_region 4 with fail
  clear xf0 xf1 xf2 xf3 xf4 xf5 xf6 xf7 x0 x1 x2 x3 x4 x5 x6 x7
  clear i2 hq2 hw2
  obtain ⟨w4, hw⟩ : ∃ x, x = (w3.setCell ⟨(w.heap.size), 4, none⟩ (.int .i64 (2 * (y1 : Int)))) := ⟨_, rfl⟩
  rw [← hw]
  have hw2 : w4 = (sets15 w3 (w.heap.size) 4 [.int .i64 (2 * (y1 : Int))]) := hw
  clear hw
  have HB4 : Hid (Below w.heap.size w w4) := by show Below _ _ _; rw [hw2]; exact (Below.sets15 (by omega) [.int .i64 (2 * (y1 : Int))] 4 HB3.out)
  have Q4 : Hid (OwnH w4 w0.heap.size A1 c1 ls) := by show OwnH _ _ _ _ _; rw [hw2]; exact (OwnH.sets15 (by decide) (by decide) [.int .i64 (2 * (y1 : Int))] 4 Q3.out X3.out)
  have X4 : Hid (Lies w4 (w.heap.size) 27 #[.slice A1 k1.objs.length c1, .int .i64 k1.cap, .int .i64 k1.last, .int .i64 (2 * (x1 : Int)), .int .i64 (2 * (y1 : Int)), .int .i64 s.halt, .int .i64 s.steps, .int .i64 s.used]) := by show Lies _ _ _ _; rw [hw2]; exact (X3.out.s1at4_15 (.int .i64 (2 * (y1 : Int))))
  have K4 : Hid (Lies w4 (w.heap.size + 1) 27 #[.slice none 0 0, .int .i64 0, .int .i64 0, .int .i64 0, .int .i64 0, .int .i64 0, .int .i64 0, .int .i64 0]) := by show Lies _ _ _ _; rw [hw2]; exact (Lies.sets15_far (by omega) [.int .i64 (2 * (y1 : Int))] 4 K3.out)
  clear hw2
  clear HB3 X3 K3 Q3
  have x0 := X4.out.cell 0
  have x1 := X4.out.cell 1
  have x2 := X4.out.cell 2
  have x3 := X4.out.cell 3
  have x4 := X4.out.cell 4
  have x5 := X4.out.cell 5
  have x6 := X4.out.cell 6
  have x7 := X4.out.cell 7
  simp only [List.getElem?_toArray, List.getElem?_cons_zero, List.getElem?_cons_succ] at x0 x1 x2 x3 x4 x5 x6 x7
  have y0 := K4.out.cell 0
  have y1 := K4.out.cell 1
  have y2 := K4.out.cell 2
  have y3 := K4.out.cell 3
  have y4 := K4.out.cell 4
  have y5 := K4.out.cell 5
  have y6 := K4.out.cell 6
  have y7 := K4.out.cell 7
  have yf0 := K4.out.frozen 0
  have yf1 := K4.out.frozen 1
  have yf2 := K4.out.frozen 2
  have yf3 := K4.out.frozen 3
  have yf4 := K4.out.frozen 4
  have yf5 := K4.out.frozen 5
  have yf6 := K4.out.frozen 6
  have yf7 := K4.out.frozen 7
  simp only [List.getElem?_toArray, List.getElem?_cons_zero, List.getElem?_cons_succ] at y0 y1 y2 y3 y4 y5 y6 y7
  go_wp2_with fail
  clear x0 x1 x2 x3 x4 x5 x6 x7 yf0 yf1 yf2 yf3 yf4 yf5 yf6 yf7 y0 y1 y2 y3 y4 y5 y6 y7
  have KF : Lies (sets15 w4 (w.heap.size + 1) 0 [.slice A1 k1.objs.length c1, .int .i64 k1.cap, .int .i64 k1.last, .int .i64 (2 * (x1 : Int)), .int .i64 (2 * (y1 : Int)), .int .i64 s.halt, .int .i64 s.steps, .int .i64 s.used]) (w.heap.size + 1) 27 #[.slice A1 k1.objs.length c1, .int .i64 k1.cap, .int .i64 k1.last, .int .i64 (2 * (x1 : Int)), .int .i64 (2 * (y1 : Int)), .int .i64 s.halt, .int .i64 s.steps, .int .i64 s.used] := K4.out.s8_15 (.slice A1 k1.objs.length c1) (.int .i64 k1.cap) (.int .i64 k1.last) (.int .i64 (2 * (x1 : Int))) (.int .i64 (2 * (y1 : Int))) (.int .i64 s.halt) (.int .i64 s.steps) (.int .i64 s.used)
  have r0_ := KF.cell 0
  have r1_ := KF.cell 1
  have r2_ := KF.cell 2
  have r3_ := KF.cell 3
  have r4_ := KF.cell 4
  have r5_ := KF.cell 5
  have r6_ := KF.cell 6
  have r7_ := KF.cell 7
  simp only [sets15, Nat.zero_add, Nat.reduceAdd, List.getElem?_toArray, List.getElem?_cons_zero, List.getElem?_cons_succ] at r0_ r1_ r2_ r3_ r4_ r5_ r6_ r7_
  refine bodyPost_ret (v := .agg #[.slice A1 k1.objs.length c1, .int .i64 k1.cap, .int .i64 k1.last, .int .i64 (2 * (x1 : Int)), .int .i64 (2 * (y1 : Int)), .int .i64 s.halt, .int .i64 s.steps, .int .i64 s.used]) (by simp [results, Try.results12, go_sem, r0_, r1_, r2_, r3_, r4_, r5_, r6_, r7_]) rfl ?_
  exact ⟨A1, c1, by rw [HE.out], by rw [HE.out]; exact own_obs (OwnH.sets15 (by decide) (by decide) [.slice A1 k1.objs.length c1, .int .i64 k1.cap, .int .i64 k1.last, .int .i64 (2 * (x1 : Int)), .int .i64 (2 * (y1 : Int)), .int .i64 s.halt, .int .i64 s.steps, .int .i64 s.used] 0 Q4.out K4.out) HLS.out, Below.sets15 (by omega) [.slice A1 k1.objs.length c1, .int .i64 k1.cap, .int .i64 k1.last, .int .i64 (2 * (x1 : Int)), .int .i64 (2 * (y1 : Int)), .int .i64 s.halt, .int .i64 s.steps, .int .i64 s.used] 0 HB4.out⟩
end Go.Proofs.Ytnilempeldlieaa
