/- The program's words that read a context: Method, May, Temp, At. -/
import Derived.Test.YtalfbdigjaibkaaGreatTN12
namespace Go.Proofs.YtalfbdigjaibkaaGreat
open Go.RowKit
set_option maxRecDepth 100000
set_option maxHeartbeats 4000000 in
theorem cmeth_any12 (h : Hp) (m : Int) (A : Option Addr) (c : Nat) (w : World) (hs : ObsR w A h.objs) (fit : h.Fit) :
    Calls Tryz.prog 11 #[.agg #[.slice A h.objs.length c, .int .i64 h.cap, .int .i64 h.last], .int .i64 m] w (PmP12 w (mt12 h m).1 (mt12 h m).2) := by
  obtain ⟨w0, hw0⟩ : ∃ w0, w0 = (w.alloc (.cells #[Value.slice A h.objs.length c, Value.int .i64 h.cap, Value.int .i64 h.last] 24)).alloc (.cells #[.int .i64 0, .int .i64 0, .int .i64 0, .slice none 0 0, .slice none 0 0] 32) := ⟨_, rfl⟩
  have HB0 : Hid (Below w.heap.size w w0) := by show Below _ _ _; rw [hw0]; exact below_alloc2 w _ _
  have HX0 : Hid (Lies w0 w.heap.size 24 #[Value.slice A h.objs.length c, Value.int .i64 h.cap, Value.int .i64 h.last]) := by show Lies _ _ _ _; rw [hw0]; exact ((Lies.new w _ _).alloc _)
  have HK0 : Hid (Lies w0 (w.heap.size + 1) 32 #[.int .i64 0, .int .i64 0, .int .i64 0, .slice none 0 0, .slice none 0 0]) := by
    show Lies _ _ _ _
    have := (Lies.new (w.alloc (.cells #[Value.slice A h.objs.length c, Value.int .i64 h.cap, Value.int .i64 h.last] 24)) 32 #[.int .i64 0, .int .i64 0, .int .i64 0, .slice none 0 0, .slice none 0 0])
    rw [hw0]
    simpa [Hid] using this
  have HSZ0 : Hid (w.heap.size + 2 ≤ w0.heap.size) := by show _ ≤ _; rw [hw0]; simp
  have HS := hid hs
  have HF := hid fit
  clear hs fit
  go_enter Tryz.func11, Tryz.ntmps11
  go_upto_region 1 with fail
  rw [← hw0]
  clear hw0
  obtain ⟨x0, x1, x2⟩ := HX0.out.c3
  go_wp2_with fail
  refine (may_any h A c _ (HS.out.below HB0.out) HF.out).mono ?_
  rintro e w1 ⟨rfl, hb⟩
  have HB1 := hid (then_w HB0.out hb)
  have HX1 := hid (HX0.out.later hb)
  have HK1 := hid (HK0.out.later hb)
  clear hb x0 x1 x2 HX0 HK0 HB0
  cases hm : mayB h
  · have HRR : Hid (mt12 h m = (mt0, 120)) := mt_err12 (mb_may12 hm)
    clear hm
    obtain ⟨u0, u1, u2, u3, u4⟩ := HK1.out.c5
    obtain ⟨uf0, uf1, uf2, uf3, uf4⟩ := HK1.out.f5
    go_wp2_with fail
    have K0 := (((((HK1.out.set_ 0 (.int .i64 0)).set_ 1 (.int .i64 0)).set_ 2 (.int .i64 0)).set_ 3 (.slice none 0 0)).set_ 4 (.slice none 0 0))
    have r0 := K0.cell 0
    have r1 := K0.cell 1
    have r2 := K0.cell 2
    have r3 := K0.cell 3
    have r4 := K0.cell 4
    simp only [List.setIfInBounds_toArray, List.set_cons_zero, List.set_cons_succ, List.getElem?_toArray, List.getElem?_cons_zero, List.getElem?_cons_succ] at r0 r1 r2 r3 r4
    refine bodyPost_ret (v := .tuple #[.agg #[.int .i64 0, .int .i64 0, .int .i64 0, .slice none 0 0, .slice none 0 0], .int .i64 120]) (by simp [results, Tryz.results11, go_sem, r0, r1, r2, r3, r4]) rfl ?_
    have HBE := (((((HB1.out).setCell (p := ⟨w.heap.size + 1, 0, none⟩) (by simp) (.int .i64 0)).setCell (p := ⟨w.heap.size + 1, 1, none⟩) (by simp) (.int .i64 0)).setCell (p := ⟨w.heap.size + 1, 2, none⟩) (by simp) (.int .i64 0)).setCell (p := ⟨w.heap.size + 1, 3, none⟩) (by simp) (.slice none 0 0)).setCell (p := ⟨w.heap.size + 1, 4, none⟩) (by simp) (.slice none 0 0)
    rw [HRR.out]
    exact pm_err12 HBE
  have HM := hid hm
  clear hm
  obtain ⟨x0, x1, x2⟩ := HX1.out.c3
  obtain ⟨M, hM⟩ : ∃ M, M = (mt12 h m).1 := ⟨_, rfl⟩
  obtain ⟨em, hem⟩ : ∃ M, M = (mt12 h m).2 := ⟨_, rfl⟩
  have HMM := hid hM
  have HEM := hid hem
  clear hM hem
  go_wp2_with fail
  refine (pmeth_any12 h m A c _ (HS.out.below HB1.out) HM.out).mono ?_
  rintro e w2 ⟨CA, cc, LA, lc, rfl, hins, hint, hb, hfr, hfl⟩
  rw [← HMM.out] at hins hint
  rw [← HMM.out, ← HEM.out]
  have HB2 := hid (then_w HB1.out hb)
  have HX2 := hid (HX1.out.later hb)
  have HK2 := hid (HK1.out.later hb)
  have HINS := hid hins
  have HINT := hid hint
  have HFR := hid hfr
  have HFL := hid hfl
  have HLT := hid HK1.out.lt
  clear hb x0 x1 x2 hins hint hfr hfl
  obtain ⟨u0, u1, u2, u3, u4⟩ := HK2.out.c5
  obtain ⟨uf0, uf1, uf2, uf3, uf4⟩ := HK2.out.f5
  go_wp2_with fail
  have K0 := (((((HK2.out.set_ 0 (.int .i64 M.prim)).set_ 1 (.int .i64 M.args)).set_ 2 (.int .i64 M.temps)).set_ 3 (.slice CA M.code.length cc)).set_ 4 (.slice LA M.lits.length lc))
  have r0 := K0.cell 0
  have r1 := K0.cell 1
  have r2 := K0.cell 2
  have r3 := K0.cell 3
  have r4 := K0.cell 4
  simp only [List.setIfInBounds_toArray, List.set_cons_zero, List.set_cons_succ, List.getElem?_toArray, List.getElem?_cons_zero, List.getElem?_cons_succ] at r0 r1 r2 r3 r4
  refine bodyPost_ret (v := .tuple #[.agg #[.int .i64 M.prim, .int .i64 M.args, .int .i64 M.temps, .slice CA M.code.length cc, .slice LA M.lits.length lc], .int .i64 em]) (by simp [results, Tryz.results11, go_sem, r0, r1, r2, r3, r4]) rfl ?_
  have HBE := (((((HB2.out).setCell (p := ⟨w.heap.size + 1, 0, none⟩) (by simp) (.int .i64 M.prim)).setCell (p := ⟨w.heap.size + 1, 1, none⟩) (by simp) (.int .i64 M.args)).setCell (p := ⟨w.heap.size + 1, 2, none⟩) (by simp) (.int .i64 M.temps)).setCell (p := ⟨w.heap.size + 1, 3, none⟩) (by simp) (.slice CA M.code.length cc)).setCell (p := ⟨w.heap.size + 1, 4, none⟩) (by simp) (.slice LA M.lits.length lc)
  rw [← HMM.out, ← HEM.out]
  have hlt := HLT.out
  exact ⟨CA, cc, LA, lc, rfl, ins_five12 HINS.out (fun k o s e => by have := HFR.out k o s e; omega) (.int .i64 M.prim) (.int .i64 M.args) (.int .i64 M.temps) (.slice CA M.code.length cc) (.slice LA M.lits.length lc), ints_five12 HINT.out (fun k o s e => by have := HFL.out k o s e; omega) (.int .i64 M.prim) (.int .i64 M.args) (.int .i64 M.temps) (.slice CA M.code.length cc) (.slice LA M.lits.length lc), HBE, fun k o s e => (by have := HFR.out k o s e; omega), fun k o s e => (by have := HFL.out k o s e; omega)⟩
set_option maxHeartbeats 4000000 in
theorem cmay_any12 (h : Hp) (cx : Int) (A : Option Addr) (c : Nat) (w : World) (hs : ObsR w A h.objs) (fit : h.Fit) :
    Calls Tryz.prog 18 #[.agg #[.slice A h.objs.length c, .int .i64 h.cap, .int .i64 h.last], .int .i64 cx] w fun e w' => e = .returned (.bool (may12 h cx)) ∧ Below w.heap.size w w' := by
  obtain ⟨w0, hw0⟩ : ∃ w0, w0 = w.alloc (.cells #[Value.slice A h.objs.length c, Value.int .i64 h.cap, Value.int .i64 h.last] 24) := ⟨_, rfl⟩
  have HB0 : Hid (Below w.heap.size w w0) := by show Below _ _ _; rw [hw0]; exact below_alloc _ _
  have HX0 : Hid (Lies w0 w.heap.size 24 #[Value.slice A h.objs.length c, Value.int .i64 h.cap, Value.int .i64 h.last]) := by show Lies _ _ _ _; rw [hw0]; exact (Lies.new w _ _)
  have HSZ0 : Hid (w.heap.size + 1 ≤ w0.heap.size) := by show _ ≤ _; rw [hw0]; simp
  have HS := hid hs
  have HF := hid fit
  clear hs fit
  go_enter Tryz.func18, Tryz.ntmps18
  go_upto_region 1 with fail
  rw [← hw0]
  clear hw0
  obtain ⟨x0, x1, x2⟩ := HX0.out.c3
  go_wp2_with fail
  refine (pread_any12 h cx A c _ (HS.out.below HB0.out) HF.out).mono ?_
  rintro e w1 ⟨hb, hcase⟩
  have HBC := hid hb
  have HWZ1 : Hid (w0.heap.size ≤ w1.heap.size) := hb.size
  have HB1 := hid (then_w HB0.out hb)
  have HX1 := hid (HX0.out.later hb)
  clear hb x0 x1 x2 HX0 HB0 
  rcases hcase with ⟨hm, rfl⟩ | ⟨hm, CA, cc, LA, lc, bl, ol, ac, rfl, hins, hint, hfr⟩
  · have HMN := hid hm
    clear hm
    go_upto_region 2 with fail
    obtain ⟨w2, hw2⟩ : ∃ x, x = w1.alloc (.cells #[.int .i64 0, .int .i64 0, .int .i64 0, .slice none 0 0, .slice none 0 0, .int .i64 0, .int .i64 0, .int .i64 0, .slice none 0 0] 69) := ⟨_, rfl⟩
    obtain ⟨bx, hbx⟩ : ∃ x, x = w1.heap.size := ⟨_, rfl⟩
    have LX : Hid (Lies w2 bx 69 #[.int .i64 0, .int .i64 0, .int .i64 0, .slice none 0 0, .slice none 0 0, .int .i64 0, .int .i64 0, .int .i64 0, .slice none 0 0]) := by show Lies _ _ _ _; rw [hw2, hbx]; exact Lies.new _ _ _
    have HB12 : Hid (Below w1.heap.size w1 w2) := by show Below _ _ _; rw [hw2]; exact below_alloc _ _
    rw [← hw2, ← hbx]
    have HWZ : Hid (w0.heap.size ≤ w2.heap.size) := Nat.le_trans HWZ1.out HB12.out.size
    have HB2 := hid (then_w HB1.out HB12.out)
    have HX2 := hid (HX1.out.later HB12.out)
    clear hw2 hbx HB12 HB1 HX1 
    go_wp2_with fail
    go_ret
    exact ⟨by rw [HMN.out]; rfl, HB2.out⟩
  · have HM := hid hm
    have HINS0 := hid hins
    have HINT := hid (hint.below HBC.out)
    have HFR := hid hfr
    clear hm hins hint hfr HBC
    obtain ⟨M3, hM3⟩ : ∃ M, M = cm12 h cx := ⟨_, rfl⟩
    obtain ⟨ip, hip⟩ : ∃ k, k = (at12 h cx).1 := ⟨_, rfl⟩
    obtain ⟨n, hn⟩ : ∃ k, k = sp12 h cx := ⟨_, rfl⟩
    obtain ⟨ci, hci⟩ : ∃ k, k = atV cx := ⟨_, rfl⟩
    have HM3 := hid hM3
    have HIP := hid hip
    have HNN := hid hn
    have HCI := hid hci
    rw [← hM3] at HINS0
    rw [← hM3, ← hip, ← hn, ← hci]
    clear hM3 hip hn hci
    go_upto_region 2 with fail
    obtain ⟨w2, hw2⟩ : ∃ x, x = w1.alloc (.cells #[.int .i64 M3.prim, .int .i64 M3.args, .int .i64 M3.temps, .slice CA M3.code.length cc, .slice LA M3.lits.length lc, .int .i64 ci, .int .i64 ip, .int .i64 n, .slice (some ⟨bl, ol + 6, none⟩) 16 ac] 69) := ⟨_, rfl⟩
    obtain ⟨bx, hbx⟩ : ∃ x, x = w1.heap.size := ⟨_, rfl⟩
    have LX : Hid (Lies w2 bx 69 #[.int .i64 M3.prim, .int .i64 M3.args, .int .i64 M3.temps, .slice CA M3.code.length cc, .slice LA M3.lits.length lc, .int .i64 ci, .int .i64 ip, .int .i64 n, .slice (some ⟨bl, ol + 6, none⟩) 16 ac]) := by show Lies _ _ _ _; rw [hw2, hbx]; exact Lies.new _ _ _
    have HB12 : Hid (Below w1.heap.size w1 w2) := by show Below _ _ _; rw [hw2]; exact below_alloc _ _
    rw [← hw2, ← hbx]
    have HWZ : Hid (w0.heap.size ≤ w2.heap.size) := Nat.le_trans HWZ1.out HB12.out.size
    have HB2 := hid (then_w HB1.out HB12.out)
    have HX2 := hid (HX1.out.later HB12.out)
    have HINS2 := hid (HINS0.out.below HB12.out)
    have HINT := hid (HINT.out.below HB12.out)
    clear hw2 hbx HB12 HB1 HX1 HINS0 
    go_wp2_with fail
    go_ret
    exact ⟨by rw [HM.out]; rfl, HB2.out⟩
theorem phas_any12 (x0 x1 t k : Int) (x3 x4 x5 x6 x7 x8 : Value) (w : World) : Calls Tryz.prog 44 #[.agg #[.int .i64 x0, .int .i64 x1, .int .i64 t, x3, x4, x5, x6, x7, x8], .int .i64 k] w fun e w' => e = .returned (.bool (decide (0 ≤ k) && decide (k < t))) ∧ Below w.heap.size w w' := by
  have HB := hid (below_alloc w (.cells #[.int .i64 x0, .int .i64 x1, .int .i64 t, x3, x4, x5, x6, x7, x8] 69))
  by_cases h0 : 0 ≤ k
  · rw [decide_eq_true h0]
    go_enter Tryz.func44, Tryz.ntmps44
    go_wp2_with fail
    go_ret
    exact ⟨rfl, HB.out⟩
  · rw [decide_eq_false h0]
    go_enter Tryz.func44, Tryz.ntmps44
    go_wp2_with fail
    go_ret
    exact ⟨rfl, HB.out⟩
theorem temps_sp12 {h : Hp} {c : Int} (e : may12 h c = true) : (cm12 h c).temps ≤ sp12 h c ∧ sp12 h c ≤ 16 ∧ 0 ≤ (cm12 h c).temps := by
  obtain ⟨h1, h2, h3⟩ := temps_nn12 e
  exact ⟨h2, h3, h1⟩
theorem ctx_len12 {h : Hp} {c : Int} (e : may12 h c = true) : (sls12 h c).length = 22 := (may_parts12 e).2.1
/-- where a context is: one of its instructions -/
theorem at_ok12 {h : Hp} {c : Int} (e : may12 h c = true) : ∃ j : Nat, (at12 h c).1 = j ∧ j < (cm12 h c).code.length ∧ at12 h c = ((j : Int), (cm12 h c).code.getD j ⟨0, 0⟩, 0) := by
  have a1 := (may_parts12 e).2.2.2.2.2.2.1
  have hl : ((cm12 h c).code.length : Int) ≤ 32 := code_le12
  obtain ⟨s1, s2⟩ := sm_same12 a1 (b := 64) (by omega)
  have h0 : 0 ≤ sm12 (sl12 h c 1) 64 := by rw [s1]; exact a1
  have hat : at12 h c = (sm12 (sl12 h c 1) 64, (cm12 h c).code.getD (sm12 (sl12 h c 1) 64).toNat ⟨0, 0⟩, 0) := by
    unfold at12; rw [if_neg (by rw [e]; decide)]
  obtain ⟨j, hj⟩ : ∃ j : Nat, sm12 (sl12 h c 1) 64 = j := ⟨(sm12 (sl12 h c 1) 64).toNat, by omega⟩
  rw [hj] at hat
  refine ⟨j, by rw [hat], by omega, ?_⟩
  rw [hat]; rfl
set_option maxHeartbeats 4000000 in
theorem ctemp_any12 (h : Hp) (cx k : Int) (A : Option Addr) (c : Nat) (w : World) (hs : ObsR w A h.objs) (fit : h.Fit) :
    Calls Tryz.prog 15 #[.agg #[.slice A h.objs.length c, .int .i64 h.cap, .int .i64 h.last], .int .i64 cx, .int .i64 k] w fun e w' => e = .returned (.tuple #[.int .i64 (te12 h cx k).1, .int .i64 (te12 h cx k).2]) ∧ Below w.heap.size w w' := by
  obtain ⟨w0, hw0⟩ : ∃ w0, w0 = w.alloc (.cells #[Value.slice A h.objs.length c, Value.int .i64 h.cap, Value.int .i64 h.last] 24) := ⟨_, rfl⟩
  have HB0 : Hid (Below w.heap.size w w0) := by show Below _ _ _; rw [hw0]; exact below_alloc _ _
  have HX0 : Hid (Lies w0 w.heap.size 24 #[Value.slice A h.objs.length c, Value.int .i64 h.cap, Value.int .i64 h.last]) := by show Lies _ _ _ _; rw [hw0]; exact (Lies.new w _ _)
  have HSZ0 : Hid (w.heap.size + 1 ≤ w0.heap.size) := by show _ ≤ _; rw [hw0]; simp
  have HS := hid hs
  have HF := hid fit
  clear hs fit
  go_enter Tryz.func15, Tryz.ntmps15
  go_upto_region 1 with fail
  rw [← hw0]
  clear hw0
  obtain ⟨x0, x1, x2⟩ := HX0.out.c3
  go_wp2_with fail
  refine (pread_any12 h cx A c _ (HS.out.below HB0.out) HF.out).mono ?_
  rintro e w1 ⟨hb, hcase⟩
  have HBC := hid hb
  have HWZ1 : Hid (w0.heap.size ≤ w1.heap.size) := hb.size
  have HB1 := hid (then_w HB0.out hb)
  have HX1 := hid (HX0.out.later hb)
  clear hb x0 x1 x2 HX0 HB0 
  rcases hcase with ⟨hm, rfl⟩ | ⟨hm, CA, cc, LA, lc, bl, ol, ac, rfl, hins, hint, hfr⟩
  · have HMN := hid hm
    clear hm
    go_upto_region 2 with fail
    obtain ⟨w2, hw2⟩ : ∃ x, x = w1.alloc (.cells #[.int .i64 0, .int .i64 0, .int .i64 0, .slice none 0 0, .slice none 0 0, .int .i64 0, .int .i64 0, .int .i64 0, .slice none 0 0] 69) := ⟨_, rfl⟩
    obtain ⟨bx, hbx⟩ : ∃ x, x = w1.heap.size := ⟨_, rfl⟩
    have LX : Hid (Lies w2 bx 69 #[.int .i64 0, .int .i64 0, .int .i64 0, .slice none 0 0, .slice none 0 0, .int .i64 0, .int .i64 0, .int .i64 0, .slice none 0 0]) := by show Lies _ _ _ _; rw [hw2, hbx]; exact Lies.new _ _ _
    have HB12 : Hid (Below w1.heap.size w1 w2) := by show Below _ _ _; rw [hw2]; exact below_alloc _ _
    rw [← hw2, ← hbx]
    have HWZ : Hid (w0.heap.size ≤ w2.heap.size) := Nat.le_trans HWZ1.out HB12.out.size
    have HB2 := hid (then_w HB1.out HB12.out)
    have HX2 := hid (HX1.out.later HB12.out)
    clear hw2 hbx HB12 HB1 HX1 
    have HRR : Hid (te12 h cx k = (0, 120)) := by show _ = _; unfold te12; rw [if_pos HMN.out]
    go_wp2_with fail
    go_ret2
    exact ⟨by rw [HRR.out]; rfl, HB2.out⟩
  · have HM := hid hm
    have HINS0 := hid hins
    have HINT := hid (hint.below HBC.out)
    have HFR := hid hfr
    clear hm hins hint hfr HBC
    obtain ⟨M3, hM3⟩ : ∃ M, M = cm12 h cx := ⟨_, rfl⟩
    obtain ⟨ip, hip⟩ : ∃ k, k = (at12 h cx).1 := ⟨_, rfl⟩
    obtain ⟨n, hn⟩ : ∃ k, k = sp12 h cx := ⟨_, rfl⟩
    obtain ⟨ci, hci⟩ : ∃ k, k = atV cx := ⟨_, rfl⟩
    have HM3 := hid hM3
    have HIP := hid hip
    have HNN := hid hn
    have HCI := hid hci
    rw [← hM3] at HINS0
    rw [← hM3, ← hip, ← hn, ← hci]
    clear hM3 hip hn hci
    go_upto_region 2 with fail
    obtain ⟨w2, hw2⟩ : ∃ x, x = w1.alloc (.cells #[.int .i64 M3.prim, .int .i64 M3.args, .int .i64 M3.temps, .slice CA M3.code.length cc, .slice LA M3.lits.length lc, .int .i64 ci, .int .i64 ip, .int .i64 n, .slice (some ⟨bl, ol + 6, none⟩) 16 ac] 69) := ⟨_, rfl⟩
    obtain ⟨bx, hbx⟩ : ∃ x, x = w1.heap.size := ⟨_, rfl⟩
    have LX : Hid (Lies w2 bx 69 #[.int .i64 M3.prim, .int .i64 M3.args, .int .i64 M3.temps, .slice CA M3.code.length cc, .slice LA M3.lits.length lc, .int .i64 ci, .int .i64 ip, .int .i64 n, .slice (some ⟨bl, ol + 6, none⟩) 16 ac]) := by show Lies _ _ _ _; rw [hw2, hbx]; exact Lies.new _ _ _
    have HB12 : Hid (Below w1.heap.size w1 w2) := by show Below _ _ _; rw [hw2]; exact below_alloc _ _
    rw [← hw2, ← hbx]
    have HWZ : Hid (w0.heap.size ≤ w2.heap.size) := Nat.le_trans HWZ1.out HB12.out.size
    have HB2 := hid (then_w HB1.out HB12.out)
    have HX2 := hid (HX1.out.later HB12.out)
    have HINS2 := hid (HINS0.out.below HB12.out)
    have HINT := hid (HINT.out.below HB12.out)
    clear hw2 hbx HB12 HB1 HX1 HINS0 
    obtain ⟨y0, y1, y2, y3, y4, y5, y6, y7, y8⟩ := LX.out.c9
    go_wp2_with fail
    refine (phas_any12 M3.prim M3.args M3.temps k _ _ _ _ _ _ _).mono ?_
    rintro e w3 ⟨rfl, hb⟩
    have HB3 := hid (then_w HB2.out hb)
    have LX3 := hid (LX.out.later hb)
    have HINT3 := hid (HINT.out.below hb)
    clear hb y0 y1 y2 y3 y4 y5 y6 y7 y8
    by_cases g : 0 ≤ k ∧ k < M3.temps
    case neg =>
      have HT : Hid ((decide (0 ≤ k) && decide (k < M3.temps)) = false) := by show _ = _; rw [← Bool.decide_and]; exact decide_eq_false g
      have HRR : Hid (te12 h cx k = (0, 121)) := by show _ = _; unfold te12; rw [if_neg (by rw [HM.out]; decide), if_pos (by rw [← HM3.out]; omega)]
      rw [HT.out]
      clear g
      go_wp2_with fail
      go_ret2
      exact ⟨by rw [HRR.out]; rfl, HB3.out⟩
    have HT : Hid ((decide (0 ≤ k) && decide (k < M3.temps)) = true) := by show _ = _; rw [← Bool.decide_and]; exact decide_eq_true g
    have HRR : Hid (te12 h cx k = (sl12 h cx (6 + k).toNat, 0)) := by show _ = _; unfold te12; rw [if_neg (by rw [HM.out]; decide), if_neg (by rw [← HM3.out]; omega)]
    rw [HT.out]
    have hbd := temps_sp12 HM.out
    rw [← HM3.out] at hbd
    obtain ⟨j, rfl⟩ : ∃ j : Nat, k = j := ⟨k.toNat, by omega⟩
    have hj : j < 16 := by omega
    have hll := ctx_len12 HM.out
    obtain ⟨b', o', hbo, hbl, hcl⟩ := HINT3.out (by omega)
    injection hbo with hbo
    injection hbo with e1 e2 e3
    subst e1 e2
    have q := hcl (6 + j) _ (List.getElem?_eq_getElem (by omega))
    have hv : sl12 h cx (6 + (j : Int)).toNat = (sls12 h cx)[6 + j]'(by omega) := by
      unfold sl12
      rw [show (6 + (j : Int)).toNat = 6 + j by omega, List.getD_eq_getElem?_getD, List.getElem?_eq_getElem (by omega)]; rfl
    rw [← hv] at q
    have q2 : w3.cell? ⟨bl, ol + 6 + j, none⟩ = some (.int .i64 (sl12 h cx (6 + (j : Int)).toNat)) := by
      rw [Nat.add_assoc]
      exact q
    have hj0 : (0 : Int) ≤ (j : Int) := by omega
    have hj16 : (j : Int) < 16 := by omega
    clear g hv hcl hbl hbd hll q
    obtain ⟨y0, y1, y2, y3, y4, y5, y6, y7, y8⟩ := LX3.out.c9
    go_wp2_with fail
    go_ret2
    exact ⟨by rw [HRR.out]; rfl, HB3.out⟩
set_option maxHeartbeats 4000000 in
theorem cat_any12 (h : Hp) (cx : Int) (A : Option Addr) (c : Nat) (w : World) (hs : ObsR w A h.objs) (fit : h.Fit) :
    Calls Tryz.prog 13 #[.agg #[.slice A h.objs.length c, .int .i64 h.cap, .int .i64 h.last], .int .i64 cx] w fun e w' => e = .returned (.tuple #[.int .i64 (at12 h cx).1, .agg #[.int .i64 (at12 h cx).2.1.op, .int .i64 (at12 h cx).2.1.a], .int .i64 (at12 h cx).2.2]) ∧ Below w.heap.size w w' := by
  obtain ⟨w0, hw0⟩ : ∃ w0, w0 = (w.alloc (.cells #[Value.slice A h.objs.length c, Value.int .i64 h.cap, Value.int .i64 h.last] 24)).alloc (.cells #[.int .i64 0, .int .i64 0] 37) := ⟨_, rfl⟩
  have HB0 : Hid (Below w.heap.size w w0) := by show Below _ _ _; rw [hw0]; exact below_alloc2 w _ _
  have HX0 : Hid (Lies w0 w.heap.size 24 #[Value.slice A h.objs.length c, Value.int .i64 h.cap, Value.int .i64 h.last]) := by show Lies _ _ _ _; rw [hw0]; exact ((Lies.new w _ _).alloc _)
  have HK0 : Hid (Lies w0 (w.heap.size + 1) 37 #[.int .i64 0, .int .i64 0]) := by
    show Lies _ _ _ _
    have := (Lies.new (w.alloc (.cells #[Value.slice A h.objs.length c, Value.int .i64 h.cap, Value.int .i64 h.last] 24)) 37 #[.int .i64 0, .int .i64 0])
    rw [hw0]
    simpa [Hid] using this
  have HSZ0 : Hid (w.heap.size + 2 ≤ w0.heap.size) := by show _ ≤ _; rw [hw0]; simp
  have HS := hid hs
  have HF := hid fit
  clear hs fit
  go_enter Tryz.func13, Tryz.ntmps13
  go_upto_region 1 with fail
  rw [← hw0]
  clear hw0
  obtain ⟨x0, x1, x2⟩ := HX0.out.c3
  go_wp2_with fail
  refine (pread_any12 h cx A c _ (HS.out.below HB0.out) HF.out).mono ?_
  rintro e w1 ⟨hb, hcase⟩
  have HBC := hid hb
  have HWZ1 : Hid (w0.heap.size ≤ w1.heap.size) := hb.size
  have HB1 := hid (then_w HB0.out hb)
  have HX1 := hid (HX0.out.later hb)
  have HK1 := hid (HK0.out.later hb)
  clear hb x0 x1 x2 HX0 HB0 HK0
  rcases hcase with ⟨hm, rfl⟩ | ⟨hm, CA, cc, LA, lc, bl, ol, ac, rfl, hins, hint, hfr⟩
  · have HMN := hid hm
    clear hm
    go_upto_region 2 with fail
    obtain ⟨w2, hw2⟩ : ∃ x, x = w1.alloc (.cells #[.int .i64 0, .int .i64 0, .int .i64 0, .slice none 0 0, .slice none 0 0, .int .i64 0, .int .i64 0, .int .i64 0, .slice none 0 0] 69) := ⟨_, rfl⟩
    obtain ⟨bx, hbx⟩ : ∃ x, x = w1.heap.size := ⟨_, rfl⟩
    have LX : Hid (Lies w2 bx 69 #[.int .i64 0, .int .i64 0, .int .i64 0, .slice none 0 0, .slice none 0 0, .int .i64 0, .int .i64 0, .int .i64 0, .slice none 0 0]) := by show Lies _ _ _ _; rw [hw2, hbx]; exact Lies.new _ _ _
    have HB12 : Hid (Below w1.heap.size w1 w2) := by show Below _ _ _; rw [hw2]; exact below_alloc _ _
    rw [← hw2, ← hbx]
    have HWZ : Hid (w0.heap.size ≤ w2.heap.size) := Nat.le_trans HWZ1.out HB12.out.size
    have HB2 := hid (then_w HB1.out HB12.out)
    have HX2 := hid (HX1.out.later HB12.out)
    have HK2 := hid (HK1.out.later HB12.out)
    clear hw2 hbx HB12 HB1 HX1 HK1
    have HRR : Hid (at12 h cx = (0, ⟨0, 0⟩, 120)) := by show _ = _; unfold at12; rw [if_pos HMN.out]
    obtain ⟨u0, u1⟩ := HK2.out.c2
    obtain ⟨uf0, uf1⟩ := HK2.out.f2
    go_wp2_with fail
    have K0 := ((HK2.out.set_ 0 (.int .i64 0)).set_ 1 (.int .i64 0))
    have r0 := K0.cell 0
    have r1 := K0.cell 1
    simp only [List.setIfInBounds_toArray, List.set_cons_zero, List.set_cons_succ, List.getElem?_toArray, List.getElem?_cons_zero, List.getElem?_cons_succ] at r0 r1
    refine bodyPost_ret (v := .tuple #[.int .i64 0, .agg #[.int .i64 0, .int .i64 0], .int .i64 120]) (by simp [results, Tryz.results13, go_sem, r0, r1]) rfl ?_
    have HBE := ((HB2.out).setCell (p := ⟨w.heap.size + 1, 0, none⟩) (by simp) (.int .i64 0)).setCell (p := ⟨w.heap.size + 1, 1, none⟩) (by simp) (.int .i64 0)
    exact ⟨by rw [HRR.out], HBE⟩
  · have HM := hid hm
    have HINS0 := hid hins
    have HINT := hid (hint.below HBC.out)
    have HFR := hid hfr
    clear hm hins hint hfr HBC
    obtain ⟨M3, hM3⟩ : ∃ M, M = cm12 h cx := ⟨_, rfl⟩
    obtain ⟨ip, hip⟩ : ∃ k, k = (at12 h cx).1 := ⟨_, rfl⟩
    obtain ⟨n, hn⟩ : ∃ k, k = sp12 h cx := ⟨_, rfl⟩
    obtain ⟨ci, hci⟩ : ∃ k, k = atV cx := ⟨_, rfl⟩
    have HM3 := hid hM3
    have HIP := hid hip
    have HNN := hid hn
    have HCI := hid hci
    rw [← hM3] at HINS0
    rw [← hM3, ← hip, ← hn, ← hci]
    clear hM3 hip hn hci
    go_upto_region 2 with fail
    obtain ⟨w2, hw2⟩ : ∃ x, x = w1.alloc (.cells #[.int .i64 M3.prim, .int .i64 M3.args, .int .i64 M3.temps, .slice CA M3.code.length cc, .slice LA M3.lits.length lc, .int .i64 ci, .int .i64 ip, .int .i64 n, .slice (some ⟨bl, ol + 6, none⟩) 16 ac] 69) := ⟨_, rfl⟩
    obtain ⟨bx, hbx⟩ : ∃ x, x = w1.heap.size := ⟨_, rfl⟩
    have LX : Hid (Lies w2 bx 69 #[.int .i64 M3.prim, .int .i64 M3.args, .int .i64 M3.temps, .slice CA M3.code.length cc, .slice LA M3.lits.length lc, .int .i64 ci, .int .i64 ip, .int .i64 n, .slice (some ⟨bl, ol + 6, none⟩) 16 ac]) := by show Lies _ _ _ _; rw [hw2, hbx]; exact Lies.new _ _ _
    have HB12 : Hid (Below w1.heap.size w1 w2) := by show Below _ _ _; rw [hw2]; exact below_alloc _ _
    rw [← hw2, ← hbx]
    have HWZ : Hid (w0.heap.size ≤ w2.heap.size) := Nat.le_trans HWZ1.out HB12.out.size
    have HB2 := hid (then_w HB1.out HB12.out)
    have HX2 := hid (HX1.out.later HB12.out)
    have HK2 := hid (HK1.out.later HB12.out)
    have HINS2 := hid (HINS0.out.below HB12.out)
    have HINT := hid (HINT.out.below HB12.out)
    clear hw2 hbx HB12 HB1 HX1 HINS0 HK1
    obtain ⟨j, hj1, hj2, hj3⟩ := at_ok12 HM.out
    rw [← HIP.out] at hj1
    subst hj1
    rw [← HM3.out] at hj2 hj3
    obtain ⟨i3, hi3⟩ : ∃ i, i = M3.code[j] := ⟨_, rfl⟩
    have HRR : Hid (at12 h cx = ((j : Int), i3, 0)) := by
      show _ = _
      rw [hj3, List.getD_eq_getElem?_getD, List.getElem?_eq_getElem hj2, hi3]; rfl
    obtain ⟨bc, oc, rfl, hbc, hcc⟩ := HINS2.out (by omega)
    obtain ⟨z0, z1⟩ := hcc j i3 (by rw [hi3]; exact List.getElem?_eq_getElem hj2)
    have hjI : (j : Int) < (M3.code.length : Int) := by omega
    have hj0 : (0 : Int) ≤ (j : Int) := by omega
    have hne : bc ≠ w.heap.size + 1 := fun e => by
      have h1 := HFR.out bc oc none rfl
      have h2 := HSZ0.out
      omega
    clear hj3 hi3 hcc hbc
    obtain ⟨y0, y1, y2, y3, y4, y5, y6, y7, y8⟩ := LX.out.c9
    obtain ⟨u0, u1⟩ := HK2.out.c2
    obtain ⟨uf0, uf1⟩ := HK2.out.f2
    go_upto_region 4 with fail
    refine wp_region_held_drew (S := (fun w' => w'.cell? ⟨bx, 6, none⟩ = some (.int .i64 j) ∧ w'.cell? ⟨bx, 3, none⟩ = some (.slice (some ⟨bc, oc, none⟩) M3.code.length cc) ∧ w'.cell? ⟨bc, oc + j * 2, none⟩ = some (.int .i64 i3.op) ∧ w'.cell? ⟨bc, oc + j * 2 + 1, none⟩ = some (.int .i64 i3.a))) (by kernel_rfl) ?_ (fun hH0 => ?_)
    · exact ⟨cell_later (Below.refl w2.heap.size w2).drew y6, cell_later (Below.refl w2.heap.size w2).drew y3, cell_later (Below.refl w2.heap.size w2).drew z0, cell_later (Below.refl w2.heap.size w2).drew z1⟩
    refine tkI 0 ⟨some 19, .fieldAddr 69 (.tmp 7) 2, 0, "frame.go:157", #[], none⟩ ?v1 rfl (by kernel_rfl) (by rfl) ?y1 ?_
    case y1 => intro w hSw; (try dsimp only at hSw); go_simp; all_goals with_reducible rfl
    try simp only [apt12]
    refine tkI 1 ⟨some 20, .load 3 (.tmp 19), 3, "frame.go:157", #[⟨0, .data⟩], none⟩ ?v2 rfl (by kernel_rfl) (by rfl) ?y2 ?_
    case y2 => intro w hSw; (try dsimp only at hSw); go_simp; all_goals with_reducible rfl
    try simp only [apt12]
    refine tkI 2 ⟨some 21, .fieldAddr 69 (.tmp 7) 0, 0, "frame.go:157", #[⟨9, .gcOnly .lateStores⟩], none⟩ ?v3 rfl (by kernel_rfl) (by rfl) ?y3 ?_
    case y3 => intro w hSw; (try dsimp only at hSw); go_simp; all_goals with_reducible rfl
    try simp only [apt12]
    refine tkI 3 ⟨some 22, .fieldAddr 32 (.tmp 21) 3, 0, "frame.go:157", #[⟨2, .data⟩, ⟨9, .gcOnly .lateStores⟩], none⟩ ?v4 rfl (by kernel_rfl) (by rfl) ?y4 ?_
    case y4 => intro w hSw; (try dsimp only at hSw); go_simp; all_goals with_reducible rfl
    try simp only [apt12]
    refine tkI 4 ⟨some 23, .load 29 (.tmp 22), 29, "frame.go:157", #[⟨3, .data⟩, ⟨9, .gcOnly .lateStores⟩], none⟩ ?v5 rfl (by kernel_rfl) (by rfl) ?y5 ?_
    case y5 => intro w hSw; (try dsimp only at hSw); go_simp; all_goals with_reducible rfl
    try simp only [apt12]
    refine tkI 5 ⟨some 24, .fieldAddr 69 (.tmp 7) 2, 0, "frame.go:157", #[⟨9, .gcOnly .lateStores⟩], none⟩ ?v6 rfl (by kernel_rfl) (by rfl) ?y6 ?_
    case y6 => intro w hSw; (try dsimp only at hSw); go_simp; all_goals with_reducible rfl
    try simp only [apt12]
    refine tkI 6 ⟨some 25, .load 3 (.tmp 24), 3, "frame.go:157", #[⟨5, .data⟩, ⟨9, .gcOnly .lateStores⟩], none⟩ ?v7 rfl (by kernel_rfl) (by rfl) ?y7 ?_
    case y7 => intro w hSw; (try dsimp only at hSw); go_simp; all_goals with_reducible rfl
    try simp only [apt12]
    refine tkI 7 ⟨some 26, .indexAddr 29 (.tmp 23) (.tmp 25), 0, "frame.go:157", #[⟨4, .data⟩, ⟨6, .data⟩, ⟨9, .gcOnly .lateStores⟩], none⟩ ?v8 rfl (by kernel_rfl) (by rfl) ?y8 ?_
    case y8 => intro w hSw; (try dsimp only at hSw); go_simp; all_goals with_reducible rfl
    try simp only [apt12]
    refine tkI 8 ⟨some 27, .load 37 (.tmp 26), 37, "frame.go:157", #[⟨7, .data⟩, ⟨9, .gcOnly .lateStores⟩], none⟩ ?v9 rfl (by kernel_rfl) (by rfl) ?y9 ?_
    case y9 => intro w hSw; (try dsimp only at hSw); go_simp; all_goals with_reducible rfl
    try simp only [apt12]
    refine tkI 9 ⟨some 4, .assign (.tmp 20), 3, "frame.go:157", #[⟨1, .data⟩, ⟨0, .phase⟩, ⟨1, .phase⟩, ⟨2, .textOnly .lateStores⟩, ⟨3, .textOnly .lateStores⟩, ⟨4, .textOnly .lateStores⟩, ⟨5, .textOnly .lateStores⟩, ⟨6, .textOnly .lateStores⟩, ⟨7, .textOnly .lateStores⟩, ⟨8, .textOnly .lateStores⟩], none⟩ ?v10 rfl (by kernel_rfl) (by rfl) ?y10 ?_
    case y10 => intro w hSw; (try dsimp only at hSw); go_simp; all_goals with_reducible rfl
    try simp only [apt12]
    refine wpAnyH_ready (rs := [10]) (by kernel_rfl) (by simp) ?_
    refine AllReadyH.cons (i := 10) (o := ⟨none, .store 37 (.tmp 5) (.tmp 27), 0, "frame.go:157", #[⟨8, .data⟩, ⟨9, .chain⟩, ⟨0, .phase⟩, ⟨1, .phase⟩, ⟨2, .phase⟩, ⟨3, .phase⟩, ⟨4, .phase⟩, ⟨5, .phase⟩, ⟨6, .phase⟩, ⟨7, .phase⟩, ⟨8, .phase⟩, ⟨9, .phase⟩], none⟩) rfl (fun K hK => ?_) AllReadyH.nil
    go_simp
    refine hK.out _ _ ?_ (fun hH1 => ?_)
    · exact ⟨cell_later (Below.refl _ _).drew (cell_far (lies_ne LX.out HK2.out (by decide)) (cell_far (lies_ne LX.out HK2.out (by decide)) y6)), cell_later (Below.refl _ _).drew (cell_far (lies_ne LX.out HK2.out (by decide)) (cell_far (lies_ne LX.out HK2.out (by decide)) y3)), cell_later (Below.refl _ _).drew (cell_far (hne) (cell_far (hne) z0)), cell_later (Below.refl _ _).drew (cell_far (hne) (cell_far (hne) z1))⟩
    clear hK K
    try simp only [apt12]
    refine tkI 11 ⟨some 6, .assign (.const (Go.Value.int .i64 0)), 33, "frame.go:157", #[⟨10, .chain⟩, ⟨0, .phase⟩, ⟨1, .phase⟩, ⟨2, .phase⟩, ⟨3, .phase⟩, ⟨4, .phase⟩, ⟨5, .phase⟩, ⟨6, .phase⟩, ⟨7, .phase⟩, ⟨8, .phase⟩, ⟨9, .phase⟩, ⟨10, .phase⟩], none⟩ ?v11 rfl (by kernel_rfl) (by rfl) ?y11 ?_
    case y11 => intro w hSw; (try dsimp only at hSw); go_simp; all_goals with_reducible rfl
    try simp only [apt12]
    refine wpAnyH_done (by kernel_rfl) ?_ _
    have K1 : Lies ((w2.setCell ⟨w.heap.size + 1, 0, none⟩ (.int .i64 i3.op)).setCell ⟨w.heap.size + 1, 1, none⟩ (.int .i64 i3.a)).drew (w.heap.size + 1) 37 #[.int .i64 i3.op, .int .i64 i3.a] := ((HK2.out.set_ 0 (.int .i64 i3.op)).set_ 1 (.int .i64 i3.a)).drew
    obtain ⟨w7, hw7⟩ : ∃ x, x = ((w2.setCell ⟨w.heap.size + 1, 0, none⟩ (.int .i64 i3.op)).setCell ⟨w.heap.size + 1, 1, none⟩ (.int .i64 i3.a)).drew := ⟨_, rfl⟩
    rw [← hw7] at K1 ⊢
    have HB7 : Hid (Below w.heap.size w w7) := by show Below _ _ _; rw [hw7]; exact (((HB2.out).setCell (p := ⟨w.heap.size + 1, 0, none⟩) (by simp) (.int .i64 i3.op)).setCell (p := ⟨w.heap.size + 1, 1, none⟩) (by simp) (.int .i64 i3.a)).drew
    clear hw7
    obtain ⟨r0, r1⟩ := K1.c2
    go_wp2_with fail
    refine bodyPost_ret (v := .tuple #[.int .i64 j, .agg #[.int .i64 i3.op, .int .i64 i3.a], .int .i64 0]) (by simp [results, Tryz.results13, go_sem, r0, r1]) rfl ?_
    exact ⟨by rw [HRR.out], HB7.out⟩
end Go.Proofs.YtalfbdigjaibkaaGreat
