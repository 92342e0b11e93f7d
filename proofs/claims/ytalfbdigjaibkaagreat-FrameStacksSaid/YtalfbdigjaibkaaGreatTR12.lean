/- The program's words that write into a context: Push, SetTemp, Go, Pop. -/
import Derived.Test.YtalfbdigjaibkaaGreatTQ12
import Derived.Test.YtalfbdigjaibkaaGreatTP12
namespace Go.Proofs.YtalfbdigjaibkaaGreat
open Go.RowKit
set_option maxRecDepth 100000
/-- a heap of the call's own, a value and an error are returned -/
def HeapOV12 (w : World) (r : Hp × Int × Int) (e : Ending) (w' : World) : Prop := ∃ A c ls, e = .returned (.tuple #[.agg #[.slice A r.1.objs.length c, .int .i64 r.1.cap, .int .i64 r.1.last], .int .i64 r.2.1, .int .i64 r.2.2]) ∧ ls.map (·.o) = r.1.objs ∧ OwnH w' w.heap.size A c ls ∧ Below w.heap.size w w'
theorem chg_one12 {h : Hp} {c x : Int} {k : Nat} (e : may12 h c = true) (hx : hasB h.objs.length x = true) (hk : k < 22) : chg12 h c [(k, x)] = setR h c k x := by
  have E := set_ok12 e hx (k := k) (by omega) (by omega)
  unfold setR
  rw [if_pos E]; rfl
theorem chg_two12 {h : Hp} {c x1 x2 : Int} {k1 k2 : Nat} (e : may12 h c = true) (hx1 : hasB h.objs.length x1 = true) (hx2 : hasB h.objs.length x2 = true) (h1 : k1 < 22) (h2 : k2 < 22) (hne : k1 ≠ k2) :
    chg12 h c [(k2, x2), (k1, x1)] = setR (setR h c k1 x1) c k2 x2 := by
  have E1 := set_ok12 e hx1 (k := k1) (by omega) (by omega)
  have E2 := (set_again12 e hx1 (k := k1) (by omega) (by omega) hx2 (j := k2) (by omega) (by omega)).1
  have R1 : setR h c k1 x1 = setH h c k1 x1 := by unfold setR; rw [if_pos E1]
  rw [R1] at E2 ⊢
  unfold setR
  rw [if_pos E2]
  have hr : refB h.objs.length c = true := (placed (pl_set12 E1)).ref
  have ho : obAt (setH h c k1 x1) c = { obAt h c with slots := (obAt h c).slots.set k1 x1 } := by rw [setH_put, obAt_put hr hr, if_pos rfl]; rfl
  rw [setH_put (setH h c k1 x1), ho]
  show putO h _ _ = putO (putO h _ _) _ _
  unfold putO
  simp only [List.set_set]
  show Hp.mk (h.objs.set _ (Ob.mk _ _ (((obAt h c).slots.set k2 x2).set k1 x1) _ _ _)) _ _ = Hp.mk (h.objs.set _ (Ob.mk _ _ (((obAt h c).slots.set k1 x1).set k2 x2) _ _ _)) _ _
  rw [List.set_comm _ _ (Ne.symm hne)]
theorem ctx_ref12 {h : Hp} {c : Int} (e : may12 h c = true) : refB h.objs.length c = true ∧ (obAt h c).slots.length = 22 ∧ mayB h = true := by
  obtain ⟨hm, h22, -⟩ := may_parts12 e
  have hne : sls12 h c ≠ [] := fun z => by rw [z] at h22; cases h22
  obtain ⟨hk, hs⟩ := sls_some12 hne
  exact ⟨(kd_ref12 hk).1, by rw [← hs]; exact h22, hm⟩
theorem inV_in12 {j : Int} (h0 : 0 ≤ j) (h1 : j ≤ 1000) : inV12 j = 2 * j + 1 := by
  unfold inV12; rw [if_pos (smB_iff.2 ⟨by omega, by omega⟩)]
set_option maxHeartbeats 4000000 in
theorem cgo_any12 (h : Hp) (cx ip2 : Int) (A : Option Addr) (c : Nat) (w : World) (hs : ObsR w A h.objs) (fit : h.Fit) (hmod : Mod12 h) :
    Calls Tryz.prog 26 #[.agg #[.slice A h.objs.length c, .int .i64 h.cap, .int .i64 h.last], .int .i64 cx, .int .i64 ip2] w (HeapOE12 w (go12 h cx ip2).1 (go12 h cx ip2).2) := by
  obtain ⟨w0, hw0⟩ : ∃ w0, w0 = (w.alloc (.cells #[Value.slice A h.objs.length c, Value.int .i64 h.cap, Value.int .i64 h.last] 24)).alloc (.cells #[.slice none 0 0, .int .i64 0, .int .i64 0] 24) := ⟨_, rfl⟩
  have HB0 : Hid (Below w.heap.size w w0) := by show Below _ _ _; rw [hw0]; exact below_alloc2 w _ _
  have HX0 : Hid (Lies w0 w.heap.size 24 #[Value.slice A h.objs.length c, Value.int .i64 h.cap, Value.int .i64 h.last]) := by show Lies _ _ _ _; rw [hw0]; exact ((Lies.new w _ _).alloc _)
  have HK0 : Hid (Lies w0 (w.heap.size + 1) 24 #[.slice none 0 0, .int .i64 0, .int .i64 0]) := by
    show Lies _ _ _ _
    have := (Lies.new (w.alloc (.cells #[Value.slice A h.objs.length c, Value.int .i64 h.cap, Value.int .i64 h.last] 24)) 24 #[.slice none 0 0, .int .i64 0, .int .i64 0])
    rw [hw0]
    simpa [Hid] using this
  have HSZ0 : Hid (w.heap.size + 2 ≤ w0.heap.size) := by show _ ≤ _; rw [hw0]; simp
  have HS := hid hs
  have HF := hid fit
  have HMOD := hid hmod
  clear hs fit hmod
  go_enter Tryz.func26, Tryz.ntmps26
  go_upto_region 1 with fail
  rw [← hw0]
  clear hw0
  obtain ⟨x0, x1, x2⟩ := HX0.out.c3
  go_wp2_with fail
  refine (pread_any12 h cx A c _ (HS.out.below HB0.out) HF.out).mono ?_
  rintro e w1 ⟨hb, hcase⟩
  have HBC := hid hb
  have HWZ1 : Hid (w0.heap.size ≤ w1.heap.size) := hb.size
  have HB1 := hid (then_w HB0.out hb)
  have HX1 := hid (HX0.out.later hb)
  have HK1 := hid (HK0.out.later hb)
  clear hb x0 x1 x2 HX0 HB0 HK0
  rcases hcase with ⟨hm, rfl⟩ | ⟨hm, CA, cc, LA, lc, bl, ol, ac, rfl, hins, hint, hfr⟩
  · have HMN := hid hm
    clear hm
    go_upto_region 2 with fail
    obtain ⟨w2, hw2⟩ : ∃ x, x = w1.alloc (.cells #[.int .i64 0, .int .i64 0, .int .i64 0, .slice none 0 0, .slice none 0 0, .int .i64 0, .int .i64 0, .int .i64 0, .slice none 0 0] 69) := ⟨_, rfl⟩
    obtain ⟨bx, hbx⟩ : ∃ x, x = w1.heap.size := ⟨_, rfl⟩
    have LX : Hid (Lies w2 bx 69 #[.int .i64 0, .int .i64 0, .int .i64 0, .slice none 0 0, .slice none 0 0, .int .i64 0, .int .i64 0, .int .i64 0, .slice none 0 0]) := by show Lies _ _ _ _; rw [hw2, hbx]; exact Lies.new _ _ _
    have HB12 : Hid (Below w1.heap.size w1 w2) := by show Below _ _ _; rw [hw2]; exact below_alloc _ _
    rw [← hw2, ← hbx]
    have HWZ : Hid (w0.heap.size ≤ w2.heap.size) := Nat.le_trans HWZ1.out HB12.out.size
    have HB2 := hid (then_w HB1.out HB12.out)
    have HX2 := hid (HX1.out.later HB12.out)
    have HK2 := hid (HK1.out.later HB12.out)
    clear hw2 hbx HB12 HB1 HX1 HK1
    have HWZ2 := HWZ
    have HRR : Hid (go12 h cx ip2 = (h, 120)) := by show _ = _; unfold go12; rw [if_pos HMN.out]
    obtain ⟨x0, x1, x2⟩ := HX2.out.c3
    go_wp2_with fail
    refine (pclone_h12 h A c _ (HS.out.below HB2.out) HMOD.out).mono ?_
    rintro e w9 ⟨A9, c9, l9, rfl, hl9, ho9, hb⟩
    have HB9 := hid (then_w HB2.out hb)
    have HK9 := hid (HK2.out.later hb)
    have HO9 := hid ho9
    have HL9 := hid hl9
    have HLOW : Hid (w0.heap.size ≤ w2.heap.size) := HWZ2
    clear hb ho9 hl9 x0 x1 x2
    obtain ⟨u0, u1, u2⟩ := HK9.out.c3
    obtain ⟨uf0, uf1, uf2⟩ := HK9.out.f3
    go_wp2_with fail
    obtain ⟨r0, r1, r2⟩ := HK9.out.s3 (.slice A9 h.objs.length c9) (.int .i64 h.cap) (.int .i64 h.last)
    refine bodyPost_ret (v := .tuple #[.agg #[.slice A9 h.objs.length c9, .int .i64 h.cap, .int .i64 h.last], .int .i64 120]) (by simp [results, Tryz.results26, go_sem, r0, r1, r2]) rfl ?_
    have HBE := below_s3 (g := w.heap.size + 1) HB9.out (by simp) (.slice A9 h.objs.length c9) (.int .i64 h.cap) (.int .i64 h.last)
    have hlow : w.heap.size + 1 < w2.heap.size := by have := HSZ0.out; have := HLOW.out; omega
    rw [HRR.out]
    exact ⟨A9, c9, _, rfl, HL9.out, (((HO9.out.low (p := ⟨w.heap.size + 1, 0, none⟩) hlow _).low (p := ⟨w.heap.size + 1, 1, none⟩) hlow _).low (p := ⟨w.heap.size + 1, 2, none⟩) hlow _).lower (by omega), HBE⟩
  · have HM := hid hm
    have HINS0 := hid hins
    have HINT := hid (hint.below HBC.out)
    have HFR := hid hfr
    clear hm hins hint hfr HBC
    obtain ⟨M3, hM3⟩ : ∃ M, M = cm12 h cx := ⟨_, rfl⟩
    obtain ⟨ip, hip⟩ : ∃ k, k = (at12 h cx).1 := ⟨_, rfl⟩
    obtain ⟨n, hn⟩ : ∃ k, k = sp12 h cx := ⟨_, rfl⟩
    obtain ⟨ci, hci⟩ : ∃ k, k = atV cx := ⟨_, rfl⟩
    have HM3 := hid hM3
    have HIP := hid hip
    have HNN := hid hn
    have HCI := hid hci
    rw [← hM3] at HINS0
    rw [← hM3, ← hip, ← hn, ← hci]
    clear hM3 hip hn hci
    go_upto_region 2 with fail
    obtain ⟨w2, hw2⟩ : ∃ x, x = w1.alloc (.cells #[.int .i64 M3.prim, .int .i64 M3.args, .int .i64 M3.temps, .slice CA M3.code.length cc, .slice LA M3.lits.length lc, .int .i64 ci, .int .i64 ip, .int .i64 n, .slice (some ⟨bl, ol + 6, none⟩) 16 ac] 69) := ⟨_, rfl⟩
    obtain ⟨bx, hbx⟩ : ∃ x, x = w1.heap.size := ⟨_, rfl⟩
    have LX : Hid (Lies w2 bx 69 #[.int .i64 M3.prim, .int .i64 M3.args, .int .i64 M3.temps, .slice CA M3.code.length cc, .slice LA M3.lits.length lc, .int .i64 ci, .int .i64 ip, .int .i64 n, .slice (some ⟨bl, ol + 6, none⟩) 16 ac]) := by show Lies _ _ _ _; rw [hw2, hbx]; exact Lies.new _ _ _
    have HB12 : Hid (Below w1.heap.size w1 w2) := by show Below _ _ _; rw [hw2]; exact below_alloc _ _
    rw [← hw2, ← hbx]
    have HWZ : Hid (w0.heap.size ≤ w2.heap.size) := Nat.le_trans HWZ1.out HB12.out.size
    have HB2 := hid (then_w HB1.out HB12.out)
    have HX2 := hid (HX1.out.later HB12.out)
    have HK2 := hid (HK1.out.later HB12.out)
    have HINS2 := hid (HINS0.out.below HB12.out)
    have HINT := hid (HINT.out.below HB12.out)
    clear hw2 hbx HB12 HB1 HX1 HINS0 HK1
    have LX2 := LX
    have HWZ2 := HWZ
    have HINT2 := HINT
    obtain ⟨y0, y1, y2, y3, y4, y5, y6, y7, y8⟩ := LX.out.c9
    by_cases g0 : ip2 < 0
    case pos =>
      have HRR : Hid (go12 h cx ip2 = (h, 120)) := by show _ = _; unfold go12; rw [if_neg (by rw [HM.out]; decide), if_pos (.inl g0)]
      obtain ⟨x0, x1, x2⟩ := HX2.out.c3
      go_wp2_with fail
      refine (pclone_h12 h A c _ (HS.out.below HB2.out) HMOD.out).mono ?_
      rintro e w9 ⟨A9, c9, l9, rfl, hl9, ho9, hb⟩
      have HB9 := hid (then_w HB2.out hb)
      have HK9 := hid (HK2.out.later hb)
      have HO9 := hid ho9
      have HL9 := hid hl9
      have HLOW : Hid (w0.heap.size ≤ w2.heap.size) := HWZ2
      clear hb ho9 hl9 x0 x1 x2
      obtain ⟨u0, u1, u2⟩ := HK9.out.c3
      obtain ⟨uf0, uf1, uf2⟩ := HK9.out.f3
      go_wp2_with fail
      obtain ⟨r0, r1, r2⟩ := HK9.out.s3 (.slice A9 h.objs.length c9) (.int .i64 h.cap) (.int .i64 h.last)
      refine bodyPost_ret (v := .tuple #[.agg #[.slice A9 h.objs.length c9, .int .i64 h.cap, .int .i64 h.last], .int .i64 120]) (by simp [results, Tryz.results26, go_sem, r0, r1, r2]) rfl ?_
      have HBE := below_s3 (g := w.heap.size + 1) HB9.out (by simp) (.slice A9 h.objs.length c9) (.int .i64 h.cap) (.int .i64 h.last)
      have hlow : w.heap.size + 1 < w2.heap.size := by have := HSZ0.out; have := HLOW.out; omega
      rw [HRR.out]
      exact ⟨A9, c9, _, rfl, HL9.out, (((HO9.out.low (p := ⟨w.heap.size + 1, 0, none⟩) hlow _).low (p := ⟨w.heap.size + 1, 1, none⟩) hlow _).low (p := ⟨w.heap.size + 1, 2, none⟩) hlow _).lower (by omega), HBE⟩
    by_cases g1 : (M3.code.length : Int) ≤ ip2
    case pos =>
      have HRR : Hid (go12 h cx ip2 = (h, 120)) := by show _ = _; unfold go12; rw [if_neg (by rw [HM.out]; decide), if_pos (.inr (by rw [← HM3.out]; exact g1))]
      clear g0
      obtain ⟨x0, x1, x2⟩ := HX2.out.c3
      go_wp2_with fail
      refine (pclone_h12 h A c _ (HS.out.below HB2.out) HMOD.out).mono ?_
      rintro e w9 ⟨A9, c9, l9, rfl, hl9, ho9, hb⟩
      have HB9 := hid (then_w HB2.out hb)
      have HK9 := hid (HK2.out.later hb)
      have HO9 := hid ho9
      have HL9 := hid hl9
      have HLOW : Hid (w0.heap.size ≤ w2.heap.size) := HWZ2
      clear hb ho9 hl9 x0 x1 x2
      obtain ⟨u0, u1, u2⟩ := HK9.out.c3
      obtain ⟨uf0, uf1, uf2⟩ := HK9.out.f3
      go_wp2_with fail
      obtain ⟨r0, r1, r2⟩ := HK9.out.s3 (.slice A9 h.objs.length c9) (.int .i64 h.cap) (.int .i64 h.last)
      refine bodyPost_ret (v := .tuple #[.agg #[.slice A9 h.objs.length c9, .int .i64 h.cap, .int .i64 h.last], .int .i64 120]) (by simp [results, Tryz.results26, go_sem, r0, r1, r2]) rfl ?_
      have HBE := below_s3 (g := w.heap.size + 1) HB9.out (by simp) (.slice A9 h.objs.length c9) (.int .i64 h.cap) (.int .i64 h.last)
      have hlow : w.heap.size + 1 < w2.heap.size := by have := HSZ0.out; have := HLOW.out; omega
      rw [HRR.out]
      exact ⟨A9, c9, _, rfl, HL9.out, (((HO9.out.low (p := ⟨w.heap.size + 1, 0, none⟩) hlow _).low (p := ⟨w.heap.size + 1, 1, none⟩) hlow _).low (p := ⟨w.heap.size + 1, 2, none⟩) hlow _).lower (by omega), HBE⟩
    have HCL : Hid ((M3.code.length : Int) ≤ 32) := by show _ ≤ _; rw [HM3.out]; exact code_le12
    have HIN2 := hid (inV_in12 (j := ip2) (by omega) (by have := HCL.out; omega))
    have HLTE : Hid (∀ p ∈ [((1 : Nat), 2 * ip2 + 1)], p.1 < (obAt h cx).slots.length) := by
      show ∀ p ∈ _, _
      rw [(ctx_ref12 HM.out).2.1]
      simp
    have HHAS : Hid (hasB h.objs.length (2 * ip2 + 1) = true) := odd_has12 (by omega) (by have := HCL.out; omega)
    have HG0 : Hid (¬ (ip2 < 0 ∨ ((cm12 h cx).code.length : Int) ≤ ip2)) := by show ¬ _; rw [← HM3.out]; omega
    obtain ⟨x0, x1, x2⟩ := HX2.out.c3
    go_upto_region 6 with fail
    refine wp_region_held_drew (S := (fun w' => w'.cell? ⟨w.heap.size, 0, none⟩ = some (.slice A h.objs.length c) ∧ w'.cell? ⟨w.heap.size, 1, none⟩ = some (.int .i64 h.cap) ∧ w'.cell? ⟨w.heap.size, 2, none⟩ = some (.int .i64 h.last) ∧ w'.cell? ⟨bx, 5, none⟩ = some (.int .i64 ci))) (by kernel_rfl) ?_ (fun hH0 => ?_)
    · exact ⟨cell_later (Below.refl w2.heap.size w2).drew x0, cell_later (Below.refl w2.heap.size w2).drew x1, cell_later (Below.refl w2.heap.size w2).drew x2, cell_later (Below.refl w2.heap.size w2).drew y5⟩
    refine tkI 0 ⟨some 35, .load 24 (.tmp 3), 24, "frame.go:148", #[], none⟩ ?v1 rfl (by kernel_rfl) (by rfl) ?y1 ?_
    case y1 => intro w hSw; (try dsimp only at hSw); go_simp; all_goals with_reducible rfl
    try simp only [apt12]
    refine tkI 1 ⟨some 36, .fieldAddr 69 (.tmp 8) 1, 0, "frame.go:148", #[], none⟩ ?v2 rfl (by kernel_rfl) (by rfl) ?y2 ?_
    case y2 => intro w hSw; (try dsimp only at hSw); go_simp; all_goals with_reducible rfl
    try simp only [apt12]
    refine tkI 2 ⟨some 37, .load 3 (.tmp 36), 3, "frame.go:148", #[⟨1, .data⟩], none⟩ ?v3 rfl (by kernel_rfl) (by rfl) ?y3 ?_
    case y3 => intro w hSw; (try dsimp only at hSw); go_simp; all_goals with_reducible rfl
    try simp only [apt12]
    refine tkI 3 ⟨some 38, .move (.tmp 2), 3, "frame.go:148", #[], none⟩ ?v4 rfl (by kernel_rfl) (by rfl) ?y4 ?_
    case y4 => intro w hSw; (try dsimp only at hSw); go_simp; all_goals with_reducible rfl
    try simp only [apt12]
    refine wpAnyH_ready (rs := [4]) (by kernel_rfl) (by simp) ?_
    refine AllReadyH.cons (i := 4) (o := ⟨some 39, .call { callee := .value (.func 51), args := #[.tmp 38], argTypes := #[3] }, 3, "frame.go:148", #[⟨3, .data⟩], none⟩) rfl (fun K hK => ?_) AllReadyH.nil
    go_simp
    go_at_call 51
    refine (psmall_any12 ip2 _).mono ?_
    rintro e wr ⟨rfl, hwr⟩
    subst hwr
    rw [HIN2.out]
    refine hK.out _ _ ?_ (fun hH1 => ?_)
    · exact hH0
    clear hK K
    try simp only [apt12]
    refine tkI 5 ⟨some 40, .build 81 #[(0, .const (Go.Value.int .i64 1)), (1, .tmp 39)], 81, "frame.go:148", #[⟨4, .data⟩], none⟩ ?v5 rfl (by kernel_rfl) (by rfl) ?y5 ?_
    case y5 => intro w hSw; (try dsimp only at hSw); go_simp; all_goals with_reducible rfl
    try simp only [apt12]
    refine wpAnyH_ready (rs := [6]) (by kernel_rfl) (by simp) ?_
    refine AllReadyH.cons (i := 6) (o := ⟨some 41, .buildSlice 100 1 #[(0, .tmp 40)], 100, "frame.go:148", #[⟨5, .data⟩], none⟩) rfl (fun K hK => ?_) AllReadyH.nil
    go_simp
    obtain ⟨uB, huB⟩ : ∃ x, x = (w2.alloc (.cells #[.int .i64 1, .int .i64 (2 * ip2 + 1)] 81)).drew := ⟨_, rfl⟩
    obtain ⟨bB, hbB⟩ : ∃ x, x = w2.heap.size := ⟨_, rfl⟩
    have LB : Hid (Lies uB bB 81 (enC12 [((1 : Nat), 2 * ip2 + 1)]).toArray) := by show Lies _ _ _ _; rw [huB, hbB]; exact (Lies.new w2 81 #[.int .i64 1, .int .i64 (2 * ip2 + 1)]).drew
    have HBB : Hid (Below w2.heap.size w2 uB) := by show Below _ _ _; rw [huB]; exact (below_alloc _ _).drew
    try simp only [← hbB]
    try rw [← huB]
    clear huB hbB
    refine hK.out _ _ ?_ (fun hH2 => ?_)
    · exact ⟨cell_later HBB.out x0, cell_later HBB.out x1, cell_later HBB.out x2, cell_later HBB.out y5⟩
    clear hK K
    try simp only [apt12]
    refine wpAnyH_ready (rs := [7]) (by kernel_rfl) (by simp) ?_
    refine AllReadyH.cons (i := 7) (o := ⟨some 42, .call { callee := .value (.func 50), args := #[.tmp 35, .tmp 37, .tmp 41], argTypes := #[24, 3, 100] }, 24, "frame.go:148", #[⟨0, .data⟩, ⟨2, .data⟩, ⟨6, .data⟩, ⟨4, .chain⟩], none⟩) rfl (fun K hK => ?_) AllReadyH.nil
    go_simp
    go_at_call 50
    rw [HCI.out]
    refine (pchanged_any12 h cx [((1 : Nat), 2 * ip2 + 1)] bB 1 A c _ (HS.out.below (then_w HB2.out HBB.out)) (ctx_ref12 HM.out).2.2 (ctx_ref12 HM.out).1 HLTE.out (by rw [(ctx_ref12 HM.out).2.1]; decide) LB.out (by simp)).mono ?_
    rintro e w8 ⟨A8, c8, l8, rfl, hl8, ho8, hb⟩
    obtain ⟨g8, hg8⟩ : ∃ g, g = chg12 h cx [((1 : Nat), 2 * ip2 + 1)] := ⟨_, rfl⟩
    rw [← hg8] at hl8 ⊢
    have HG8 := hid hg8
    have HB8 := hid (then_w (then_w HB2.out HBB.out) hb)
    have HK8 := hid ((HK2.out.later HBB.out).later hb)
    have HO8 := hid ho8
    have HL8 := hid hl8
    have HBC8 := hid (HBB.out.trans (hb.mono HBB.out.size))
    have HLOW : Hid (w0.heap.size ≤ uB.heap.size) := Nat.le_trans HWZ2.out HBB.out.size
    refine hK.out _ _ ?_ (fun hH3 => ?_)
    · exact ⟨cell_later HBC8.out x0, cell_later HBC8.out x1, cell_later HBC8.out x2, cell_later HBC8.out y5⟩
    clear hK K
    try simp only [apt12]
    clear hb hl8 ho8 hg8
    refine wpAnyH_ready (rs := [8]) (by kernel_rfl) (by simp) ?_
    refine AllReadyH.cons (i := 8) (o := ⟨none, .store 24 (.tmp 6) (.tmp 42), 0, "frame.go:148", #[⟨7, .data⟩, ⟨7, .chain⟩, ⟨0, .phase⟩, ⟨1, .phase⟩, ⟨2, .phase⟩, ⟨3, .phase⟩, ⟨4, .phase⟩, ⟨5, .phase⟩, ⟨6, .phase⟩, ⟨7, .phase⟩], none⟩) rfl (fun K hK => ?_) AllReadyH.nil
    obtain ⟨u0, u1, u2⟩ := HK8.out.c3
    obtain ⟨uf0, uf1, uf2⟩ := HK8.out.f3
    go_simp
    refine hK.out _ _ ?_ (fun hH4 => ?_)
    · exact ⟨cell_far (by omega) (cell_far (by omega) (cell_far (by omega) (cell_later HBC8.out x0))), cell_far (by omega) (cell_far (by omega) (cell_far (by omega) (cell_later HBC8.out x1))), cell_far (by omega) (cell_far (by omega) (cell_far (by omega) (cell_later HBC8.out x2))), cell_far (lies_ne LX2.out HK2.out (by decide)) (cell_far (lies_ne LX2.out HK2.out (by decide)) (cell_far (lies_ne LX2.out HK2.out (by decide)) (cell_later HBC8.out y5)))⟩
    clear hK K
    try simp only [apt12]
    refine tkI 9 ⟨some 7, .assign (.const (Go.Value.int .i64 0)), 33, "frame.go:148", #[⟨8, .chain⟩, ⟨0, .phase⟩, ⟨1, .phase⟩, ⟨2, .phase⟩, ⟨3, .phase⟩, ⟨4, .phase⟩, ⟨5, .phase⟩, ⟨6, .phase⟩, ⟨7, .phase⟩, ⟨8, .phase⟩], none⟩ ?v6 rfl (by kernel_rfl) (by rfl) ?y6 ?_
    case y6 => intro w hSw; (try dsimp only at hSw); go_simp; all_goals with_reducible rfl
    try simp only [apt12]
    refine wpAnyH_done (by kernel_rfl) ?_ _
    have HRR : Hid (go12 h cx ip2 = (g8, 0)) := by show _ = _; unfold go12; rw [if_neg (by rw [HM.out]; decide), if_neg HG0.out, HG8.out, chg_one12 HM.out HHAS.out (by decide)]; rfl
    go_wp2_with fail
    obtain ⟨r0, r1, r2⟩ := HK8.out.s3 (.slice A8 g8.objs.length c8) (.int .i64 g8.cap) (.int .i64 g8.last)
    refine bodyPost_ret (v := .tuple #[.agg #[.slice A8 g8.objs.length c8, .int .i64 g8.cap, .int .i64 g8.last], .int .i64 0]) (by simp [results, Tryz.results26, go_sem, r0, r1, r2]) rfl ?_
    have HBE := below_s3 (g := w.heap.size + 1) HB8.out (by simp) (.slice A8 g8.objs.length c8) (.int .i64 g8.cap) (.int .i64 g8.last)
    have hlow : w.heap.size + 1 < uB.heap.size := by have := HSZ0.out; have := HLOW.out; omega
    rw [HRR.out]
    exact ⟨A8, c8, _, rfl, HL8.out, (((HO8.out.low (p := ⟨w.heap.size + 1, 0, none⟩) hlow _).low (p := ⟨w.heap.size + 1, 1, none⟩) hlow _).low (p := ⟨w.heap.size + 1, 2, none⟩) hlow _).lower (by omega), HBE⟩
set_option maxHeartbeats 4000000 in
theorem cset_any12 (h : Hp) (cx k v : Int) (A : Option Addr) (c : Nat) (w : World) (hs : ObsR w A h.objs) (fit : h.Fit) (hmod : Mod12 h) :
    Calls Tryz.prog 24 #[.agg #[.slice A h.objs.length c, .int .i64 h.cap, .int .i64 h.last], .int .i64 cx, .int .i64 k, .int .i64 v] w (HeapOE12 w (st12 h cx k v).1 (st12 h cx k v).2) := by
  obtain ⟨w0, hw0⟩ : ∃ w0, w0 = (w.alloc (.cells #[Value.slice A h.objs.length c, Value.int .i64 h.cap, Value.int .i64 h.last] 24)).alloc (.cells #[.slice none 0 0, .int .i64 0, .int .i64 0] 24) := ⟨_, rfl⟩
  have HB0 : Hid (Below w.heap.size w w0) := by show Below _ _ _; rw [hw0]; exact below_alloc2 w _ _
  have HX0 : Hid (Lies w0 w.heap.size 24 #[Value.slice A h.objs.length c, Value.int .i64 h.cap, Value.int .i64 h.last]) := by show Lies _ _ _ _; rw [hw0]; exact ((Lies.new w _ _).alloc _)
  have HK0 : Hid (Lies w0 (w.heap.size + 1) 24 #[.slice none 0 0, .int .i64 0, .int .i64 0]) := by
    show Lies _ _ _ _
    have := (Lies.new (w.alloc (.cells #[Value.slice A h.objs.length c, Value.int .i64 h.cap, Value.int .i64 h.last] 24)) 24 #[.slice none 0 0, .int .i64 0, .int .i64 0])
    rw [hw0]
    simpa [Hid] using this
  have HSZ0 : Hid (w.heap.size + 2 ≤ w0.heap.size) := by show _ ≤ _; rw [hw0]; simp
  have HS := hid hs
  have HF := hid fit
  have HMOD := hid hmod
  clear hs fit hmod
  go_enter Tryz.func24, Tryz.ntmps24
  go_upto_region 1 with fail
  rw [← hw0]
  clear hw0
  obtain ⟨x0, x1, x2⟩ := HX0.out.c3
  go_wp2_with fail
  refine (pread_any12 h cx A c _ (HS.out.below HB0.out) HF.out).mono ?_
  rintro e w1 ⟨hb, hcase⟩
  have HBC := hid hb
  have HWZ1 : Hid (w0.heap.size ≤ w1.heap.size) := hb.size
  have HB1 := hid (then_w HB0.out hb)
  have HX1 := hid (HX0.out.later hb)
  have HK1 := hid (HK0.out.later hb)
  clear hb x0 x1 x2 HX0 HB0 HK0
  rcases hcase with ⟨hm, rfl⟩ | ⟨hm, CA, cc, LA, lc, bl, ol, ac, rfl, hins, hint, hfr⟩
  · have HMN := hid hm
    clear hm
    go_upto_region 2 with fail
    obtain ⟨w2, hw2⟩ : ∃ x, x = w1.alloc (.cells #[.int .i64 0, .int .i64 0, .int .i64 0, .slice none 0 0, .slice none 0 0, .int .i64 0, .int .i64 0, .int .i64 0, .slice none 0 0] 69) := ⟨_, rfl⟩
    obtain ⟨bx, hbx⟩ : ∃ x, x = w1.heap.size := ⟨_, rfl⟩
    have LX : Hid (Lies w2 bx 69 #[.int .i64 0, .int .i64 0, .int .i64 0, .slice none 0 0, .slice none 0 0, .int .i64 0, .int .i64 0, .int .i64 0, .slice none 0 0]) := by show Lies _ _ _ _; rw [hw2, hbx]; exact Lies.new _ _ _
    have HB12 : Hid (Below w1.heap.size w1 w2) := by show Below _ _ _; rw [hw2]; exact below_alloc _ _
    rw [← hw2, ← hbx]
    have HWZ : Hid (w0.heap.size ≤ w2.heap.size) := Nat.le_trans HWZ1.out HB12.out.size
    have HB2 := hid (then_w HB1.out HB12.out)
    have HX2 := hid (HX1.out.later HB12.out)
    have HK2 := hid (HK1.out.later HB12.out)
    clear hw2 hbx HB12 HB1 HX1 HK1
    have HWZ2 := HWZ
    have HRR : Hid (st12 h cx k v = (h, 120)) := by show _ = _; unfold st12; rw [if_pos HMN.out]
    obtain ⟨x0, x1, x2⟩ := HX2.out.c3
    go_wp2_with fail
    refine (pclone_h12 h A c _ (HS.out.below HB2.out) HMOD.out).mono ?_
    rintro e w9 ⟨A9, c9, l9, rfl, hl9, ho9, hb⟩
    have HB9 := hid (then_w HB2.out hb)
    have HK9 := hid (HK2.out.later hb)
    have HO9 := hid ho9
    have HL9 := hid hl9
    have HLOW : Hid (w0.heap.size ≤ w2.heap.size) := HWZ2
    clear hb ho9 hl9 x0 x1 x2
    obtain ⟨u0, u1, u2⟩ := HK9.out.c3
    obtain ⟨uf0, uf1, uf2⟩ := HK9.out.f3
    go_wp2_with fail
    obtain ⟨r0, r1, r2⟩ := HK9.out.s3 (.slice A9 h.objs.length c9) (.int .i64 h.cap) (.int .i64 h.last)
    refine bodyPost_ret (v := .tuple #[.agg #[.slice A9 h.objs.length c9, .int .i64 h.cap, .int .i64 h.last], .int .i64 120]) (by simp [results, Tryz.results24, go_sem, r0, r1, r2]) rfl ?_
    have HBE := below_s3 (g := w.heap.size + 1) HB9.out (by simp) (.slice A9 h.objs.length c9) (.int .i64 h.cap) (.int .i64 h.last)
    have hlow : w.heap.size + 1 < w2.heap.size := by have := HSZ0.out; have := HLOW.out; omega
    rw [HRR.out]
    exact ⟨A9, c9, _, rfl, HL9.out, (((HO9.out.low (p := ⟨w.heap.size + 1, 0, none⟩) hlow _).low (p := ⟨w.heap.size + 1, 1, none⟩) hlow _).low (p := ⟨w.heap.size + 1, 2, none⟩) hlow _).lower (by omega), HBE⟩
  · have HM := hid hm
    have HINS0 := hid hins
    have HINT := hid (hint.below HBC.out)
    have HFR := hid hfr
    clear hm hins hint hfr HBC
    obtain ⟨M3, hM3⟩ : ∃ M, M = cm12 h cx := ⟨_, rfl⟩
    obtain ⟨ip, hip⟩ : ∃ k, k = (at12 h cx).1 := ⟨_, rfl⟩
    obtain ⟨n, hn⟩ : ∃ k, k = sp12 h cx := ⟨_, rfl⟩
    obtain ⟨ci, hci⟩ : ∃ k, k = atV cx := ⟨_, rfl⟩
    have HM3 := hid hM3
    have HIP := hid hip
    have HNN := hid hn
    have HCI := hid hci
    rw [← hM3] at HINS0
    rw [← hM3, ← hip, ← hn, ← hci]
    clear hM3 hip hn hci
    go_upto_region 2 with fail
    obtain ⟨w2, hw2⟩ : ∃ x, x = w1.alloc (.cells #[.int .i64 M3.prim, .int .i64 M3.args, .int .i64 M3.temps, .slice CA M3.code.length cc, .slice LA M3.lits.length lc, .int .i64 ci, .int .i64 ip, .int .i64 n, .slice (some ⟨bl, ol + 6, none⟩) 16 ac] 69) := ⟨_, rfl⟩
    obtain ⟨bx, hbx⟩ : ∃ x, x = w1.heap.size := ⟨_, rfl⟩
    have LX : Hid (Lies w2 bx 69 #[.int .i64 M3.prim, .int .i64 M3.args, .int .i64 M3.temps, .slice CA M3.code.length cc, .slice LA M3.lits.length lc, .int .i64 ci, .int .i64 ip, .int .i64 n, .slice (some ⟨bl, ol + 6, none⟩) 16 ac]) := by show Lies _ _ _ _; rw [hw2, hbx]; exact Lies.new _ _ _
    have HB12 : Hid (Below w1.heap.size w1 w2) := by show Below _ _ _; rw [hw2]; exact below_alloc _ _
    rw [← hw2, ← hbx]
    have HWZ : Hid (w0.heap.size ≤ w2.heap.size) := Nat.le_trans HWZ1.out HB12.out.size
    have HB2 := hid (then_w HB1.out HB12.out)
    have HX2 := hid (HX1.out.later HB12.out)
    have HK2 := hid (HK1.out.later HB12.out)
    have HINS2 := hid (HINS0.out.below HB12.out)
    have HINT := hid (HINT.out.below HB12.out)
    clear hw2 hbx HB12 HB1 HX1 HINS0 HK1
    have LX2 := LX
    have HWZ2 := HWZ
    have HINT2 := HINT
    obtain ⟨y0, y1, y2, y3, y4, y5, y6, y7, y8⟩ := LX.out.c9
    obtain ⟨x0, x1, x2⟩ := HX2.out.c3
    go_wp2_with fail
    refine (pisval_any12 h v A c _).mono ?_
    rintro e w3 ⟨rfl, hb⟩
    have HB3 := hid (then_w HB2.out hb)
    have HX3 := hid (HX2.out.later hb)
    have HK3 := hid (HK2.out.later hb)
    have LX3 := hid (LX2.out.later hb)
    have HINT3 := hid (HINT2.out.below hb)
    have HWZ3 : Hid (w0.heap.size ≤ w3.heap.size) := Nat.le_trans HWZ2.out hb.size
    clear hb x0 x1 x2 y0 y1 y2 y3 y4 y5 y6 y7 y8
    cases hv : hasB h.objs.length v
    · have HRR : Hid (st12 h cx k v = (h, 31)) := by show _ = _; unfold st12; rw [if_neg (by rw [HM.out]; decide), if_pos hv]
      clear hv
      obtain ⟨x0, x1, x2⟩ := HX3.out.c3
      go_wp2_with fail
      refine (pclone_h12 h A c _ (HS.out.below HB3.out) HMOD.out).mono ?_
      rintro e w9 ⟨A9, c9, l9, rfl, hl9, ho9, hb⟩
      have HB9 := hid (then_w HB3.out hb)
      have HK9 := hid (HK3.out.later hb)
      have HO9 := hid ho9
      have HL9 := hid hl9
      have HLOW : Hid (w0.heap.size ≤ w3.heap.size) := HWZ3
      clear hb ho9 hl9 x0 x1 x2
      obtain ⟨u0, u1, u2⟩ := HK9.out.c3
      obtain ⟨uf0, uf1, uf2⟩ := HK9.out.f3
      go_wp2_with fail
      obtain ⟨r0, r1, r2⟩ := HK9.out.s3 (.slice A9 h.objs.length c9) (.int .i64 h.cap) (.int .i64 h.last)
      refine bodyPost_ret (v := .tuple #[.agg #[.slice A9 h.objs.length c9, .int .i64 h.cap, .int .i64 h.last], .int .i64 31]) (by simp [results, Tryz.results24, go_sem, r0, r1, r2]) rfl ?_
      have HBE := below_s3 (g := w.heap.size + 1) HB9.out (by simp) (.slice A9 h.objs.length c9) (.int .i64 h.cap) (.int .i64 h.last)
      have hlow : w.heap.size + 1 < w3.heap.size := by have := HSZ0.out; have := HLOW.out; omega
      rw [HRR.out]
      exact ⟨A9, c9, _, rfl, HL9.out, (((HO9.out.low (p := ⟨w.heap.size + 1, 0, none⟩) hlow _).low (p := ⟨w.heap.size + 1, 1, none⟩) hlow _).low (p := ⟨w.heap.size + 1, 2, none⟩) hlow _).lower (by omega), HBE⟩
    have HV := hid hv
    clear hv
    obtain ⟨y0, y1, y2, y3, y4, y5, y6, y7, y8⟩ := LX3.out.c9
    go_wp2_with fail
    refine (phas_any12 M3.prim M3.args M3.temps k _ _ _ _ _ _ _).mono ?_
    rintro e w4 ⟨rfl, hb⟩
    have HB4 := hid (then_w HB3.out hb)
    have HX4 := hid (HX3.out.later hb)
    have HK4 := hid (HK3.out.later hb)
    have LX4 := hid (LX3.out.later hb)
    have HINT4 := hid (HINT3.out.below hb)
    have HWZ4 : Hid (w0.heap.size ≤ w4.heap.size) := Nat.le_trans HWZ3.out hb.size
    clear hb y0 y1 y2 y3 y4 y5 y6 y7 y8
    by_cases g : 0 ≤ k ∧ k < M3.temps
    case neg =>
      have HT : Hid ((decide (0 ≤ k) && decide (k < M3.temps)) = false) := by show _ = _; rw [← Bool.decide_and]; exact decide_eq_false g
      have HRR : Hid (st12 h cx k v = (h, 121)) := by show _ = _; unfold st12; rw [if_neg (by rw [HM.out]; decide), if_neg (by rw [HV.out]; decide), if_pos (by rw [← HM3.out]; omega)]
      rw [HT.out]
      clear g
      obtain ⟨x0, x1, x2⟩ := HX4.out.c3
      go_wp2_with fail
      refine (pclone_h12 h A c _ (HS.out.below HB4.out) HMOD.out).mono ?_
      rintro e w9 ⟨A9, c9, l9, rfl, hl9, ho9, hb⟩
      have HB9 := hid (then_w HB4.out hb)
      have HK9 := hid (HK4.out.later hb)
      have HO9 := hid ho9
      have HL9 := hid hl9
      have HLOW : Hid (w0.heap.size ≤ w4.heap.size) := HWZ4
      clear hb ho9 hl9 x0 x1 x2
      obtain ⟨u0, u1, u2⟩ := HK9.out.c3
      obtain ⟨uf0, uf1, uf2⟩ := HK9.out.f3
      go_wp2_with fail
      obtain ⟨r0, r1, r2⟩ := HK9.out.s3 (.slice A9 h.objs.length c9) (.int .i64 h.cap) (.int .i64 h.last)
      refine bodyPost_ret (v := .tuple #[.agg #[.slice A9 h.objs.length c9, .int .i64 h.cap, .int .i64 h.last], .int .i64 121]) (by simp [results, Tryz.results24, go_sem, r0, r1, r2]) rfl ?_
      have HBE := below_s3 (g := w.heap.size + 1) HB9.out (by simp) (.slice A9 h.objs.length c9) (.int .i64 h.cap) (.int .i64 h.last)
      have hlow : w.heap.size + 1 < w4.heap.size := by have := HSZ0.out; have := HLOW.out; omega
      rw [HRR.out]
      exact ⟨A9, c9, _, rfl, HL9.out, (((HO9.out.low (p := ⟨w.heap.size + 1, 0, none⟩) hlow _).low (p := ⟨w.heap.size + 1, 1, none⟩) hlow _).low (p := ⟨w.heap.size + 1, 2, none⟩) hlow _).lower (by omega), HBE⟩
    have HT : Hid ((decide (0 ≤ k) && decide (k < M3.temps)) = true) := by show _ = _; rw [← Bool.decide_and]; exact decide_eq_true g
    rw [HT.out]
    have HG0 : Hid (¬ (k < 0 ∨ (cm12 h cx).temps ≤ k)) := by show ¬ _; rw [← HM3.out]; omega
    have hbd := temps_sp12 HM.out
    rw [← HM3.out] at hbd
    obtain ⟨j, rfl⟩ : ∃ j : Nat, k = j := ⟨k.toNat, by omega⟩
    obtain ⟨k6, hk6⟩ : ∃ q : Nat, q = 6 + j := ⟨_, rfl⟩
    have hj : j < 16 := by omega
    have HK6 := hid hk6
    have hw : IntKind.i64.wrap (6 + (j : Int)) = (k6 : Int) := by rw [IntWalk.i64_in _ ⟨by omega, by omega⟩]; omega
    have HJK : Hid ((6 : Int) + (j : Int) = (k6 : Int)) := by show _ = _; omega
    have HLTE : Hid (∀ p ∈ [(k6, v)], p.1 < (obAt h cx).slots.length) := by
      show ∀ p ∈ _, _
      rw [(ctx_ref12 HM.out).2.1]
      simp; omega
    have HK22 : Hid (k6 < 22) := by show _ < _; omega
    clear g hbd hk6 hj
    obtain ⟨y0, y1, y2, y3, y4, y5, y6, y7, y8⟩ := LX4.out.c9
    obtain ⟨x0, x1, x2⟩ := HX4.out.c3
    go_wp2_with fail
    obtain ⟨uB, huB⟩ : ∃ x, x = w4.alloc (.cells #[.int .i64 k6, .int .i64 v] 81) := ⟨_, rfl⟩
    obtain ⟨bB, hbB⟩ : ∃ x, x = w4.heap.size := ⟨_, rfl⟩
    have LB : Hid (Lies uB bB 81 (enC12 [(k6, v)]).toArray) := by show Lies _ _ _ _; rw [huB, hbB]; exact Lies.new w4 81 #[.int .i64 k6, .int .i64 v]
    have HBB : Hid (Below w4.heap.size w4 uB) := by show Below _ _ _; rw [huB]; exact below_alloc _ _
    rw [← huB, ← hbB]
    clear huB hbB
    rw [HCI.out]
    refine (pchanged_any12 h cx [(k6, v)] bB 1 A c _ (HS.out.below (then_w HB4.out HBB.out)) (ctx_ref12 HM.out).2.2 (ctx_ref12 HM.out).1 HLTE.out (by rw [(ctx_ref12 HM.out).2.1]; decide) LB.out (by simp)).mono ?_
    rintro e w8 ⟨A8, c8, l8, rfl, hl8, ho8, hb⟩
    obtain ⟨g8, hg8⟩ : ∃ g, g = chg12 h cx [(k6, v)] := ⟨_, rfl⟩
    rw [← hg8] at hl8 ⊢
    have HG8 := hid hg8
    have HB8 := hid (then_w (then_w HB4.out HBB.out) hb)
    have HK8 := hid ((HK4.out.later HBB.out).later hb)
    have HO8 := hid ho8
    have HL8 := hid hl8
    have HLOW : Hid (w0.heap.size ≤ uB.heap.size) := Nat.le_trans HWZ4.out HBB.out.size
    clear hb hl8 ho8 hg8 x0 x1 x2 y0 y1 y2 y3 y4 y5 y6 y7 y8
    have HRR : Hid (st12 h cx (j : Int) v = (g8, 0)) := by show _ = _; unfold st12; rw [if_neg (by rw [HM.out]; decide), if_neg (by rw [HV.out]; decide), if_neg HG0.out, HG8.out, chg_one12 HM.out HV.out HK22.out, HJK.out]
    obtain ⟨u0, u1, u2⟩ := HK8.out.c3
    obtain ⟨uf0, uf1, uf2⟩ := HK8.out.f3
    go_wp2_with fail
    obtain ⟨r0, r1, r2⟩ := HK8.out.s3 (.slice A8 g8.objs.length c8) (.int .i64 g8.cap) (.int .i64 g8.last)
    refine bodyPost_ret (v := .tuple #[.agg #[.slice A8 g8.objs.length c8, .int .i64 g8.cap, .int .i64 g8.last], .int .i64 0]) (by simp [results, Tryz.results24, go_sem, r0, r1, r2]) rfl ?_
    have HBE := below_s3 (g := w.heap.size + 1) HB8.out (by simp) (.slice A8 g8.objs.length c8) (.int .i64 g8.cap) (.int .i64 g8.last)
    have hlow : w.heap.size + 1 < uB.heap.size := by have := HSZ0.out; have := HLOW.out; omega
    rw [HRR.out]
    exact ⟨A8, c8, _, rfl, HL8.out, (((HO8.out.low (p := ⟨w.heap.size + 1, 0, none⟩) hlow _).low (p := ⟨w.heap.size + 1, 1, none⟩) hlow _).low (p := ⟨w.heap.size + 1, 2, none⟩) hlow _).lower (by omega), HBE⟩
set_option maxHeartbeats 4000000 in
theorem cpush_any12 (h : Hp) (cx v : Int) (A : Option Addr) (c : Nat) (w : World) (hs : ObsR w A h.objs) (fit : h.Fit) (hmod : Mod12 h) :
    Calls Tryz.prog 20 #[.agg #[.slice A h.objs.length c, .int .i64 h.cap, .int .i64 h.last], .int .i64 cx, .int .i64 v] w (HeapOE12 w (pu12 h cx v).1 (pu12 h cx v).2) := by
  obtain ⟨w0, hw0⟩ : ∃ w0, w0 = (w.alloc (.cells #[Value.slice A h.objs.length c, Value.int .i64 h.cap, Value.int .i64 h.last] 24)).alloc (.cells #[.slice none 0 0, .int .i64 0, .int .i64 0] 24) := ⟨_, rfl⟩
  have HB0 : Hid (Below w.heap.size w w0) := by show Below _ _ _; rw [hw0]; exact below_alloc2 w _ _
  have HX0 : Hid (Lies w0 w.heap.size 24 #[Value.slice A h.objs.length c, Value.int .i64 h.cap, Value.int .i64 h.last]) := by show Lies _ _ _ _; rw [hw0]; exact ((Lies.new w _ _).alloc _)
  have HK0 : Hid (Lies w0 (w.heap.size + 1) 24 #[.slice none 0 0, .int .i64 0, .int .i64 0]) := by
    show Lies _ _ _ _
    have := (Lies.new (w.alloc (.cells #[Value.slice A h.objs.length c, Value.int .i64 h.cap, Value.int .i64 h.last] 24)) 24 #[.slice none 0 0, .int .i64 0, .int .i64 0])
    rw [hw0]
    simpa [Hid] using this
  have HSZ0 : Hid (w.heap.size + 2 ≤ w0.heap.size) := by show _ ≤ _; rw [hw0]; simp
  have HS := hid hs
  have HF := hid fit
  have HMOD := hid hmod
  clear hs fit hmod
  go_enter Tryz.func20, Tryz.ntmps20
  go_upto_region 1 with fail
  rw [← hw0]
  clear hw0
  obtain ⟨x0, x1, x2⟩ := HX0.out.c3
  go_wp2_with fail
  refine (pread_any12 h cx A c _ (HS.out.below HB0.out) HF.out).mono ?_
  rintro e w1 ⟨hb, hcase⟩
  have HBC := hid hb
  have HWZ1 : Hid (w0.heap.size ≤ w1.heap.size) := hb.size
  have HB1 := hid (then_w HB0.out hb)
  have HX1 := hid (HX0.out.later hb)
  have HK1 := hid (HK0.out.later hb)
  clear hb x0 x1 x2 HX0 HB0 HK0
  rcases hcase with ⟨hm, rfl⟩ | ⟨hm, CA, cc, LA, lc, bl, ol, ac, rfl, hins, hint, hfr⟩
  · have HMN := hid hm
    clear hm
    go_upto_region 2 with fail
    obtain ⟨w2, hw2⟩ : ∃ x, x = w1.alloc (.cells #[.int .i64 0, .int .i64 0, .int .i64 0, .slice none 0 0, .slice none 0 0, .int .i64 0, .int .i64 0, .int .i64 0, .slice none 0 0] 69) := ⟨_, rfl⟩
    obtain ⟨bx, hbx⟩ : ∃ x, x = w1.heap.size := ⟨_, rfl⟩
    have LX : Hid (Lies w2 bx 69 #[.int .i64 0, .int .i64 0, .int .i64 0, .slice none 0 0, .slice none 0 0, .int .i64 0, .int .i64 0, .int .i64 0, .slice none 0 0]) := by show Lies _ _ _ _; rw [hw2, hbx]; exact Lies.new _ _ _
    have HB12 : Hid (Below w1.heap.size w1 w2) := by show Below _ _ _; rw [hw2]; exact below_alloc _ _
    rw [← hw2, ← hbx]
    have HWZ : Hid (w0.heap.size ≤ w2.heap.size) := Nat.le_trans HWZ1.out HB12.out.size
    have HB2 := hid (then_w HB1.out HB12.out)
    have HX2 := hid (HX1.out.later HB12.out)
    have HK2 := hid (HK1.out.later HB12.out)
    clear hw2 hbx HB12 HB1 HX1 HK1
    have HWZ2 := HWZ
    have HRR : Hid (pu12 h cx v = (h, 120)) := by show _ = _; unfold pu12; rw [if_pos HMN.out]
    obtain ⟨x0, x1, x2⟩ := HX2.out.c3
    go_wp2_with fail
    refine (pclone_h12 h A c _ (HS.out.below HB2.out) HMOD.out).mono ?_
    rintro e w9 ⟨A9, c9, l9, rfl, hl9, ho9, hb⟩
    have HB9 := hid (then_w HB2.out hb)
    have HK9 := hid (HK2.out.later hb)
    have HO9 := hid ho9
    have HL9 := hid hl9
    have HLOW : Hid (w0.heap.size ≤ w2.heap.size) := HWZ2
    clear hb ho9 hl9 x0 x1 x2
    obtain ⟨u0, u1, u2⟩ := HK9.out.c3
    obtain ⟨uf0, uf1, uf2⟩ := HK9.out.f3
    go_wp2_with fail
    obtain ⟨r0, r1, r2⟩ := HK9.out.s3 (.slice A9 h.objs.length c9) (.int .i64 h.cap) (.int .i64 h.last)
    refine bodyPost_ret (v := .tuple #[.agg #[.slice A9 h.objs.length c9, .int .i64 h.cap, .int .i64 h.last], .int .i64 120]) (by simp [results, Tryz.results20, go_sem, r0, r1, r2]) rfl ?_
    have HBE := below_s3 (g := w.heap.size + 1) HB9.out (by simp) (.slice A9 h.objs.length c9) (.int .i64 h.cap) (.int .i64 h.last)
    have hlow : w.heap.size + 1 < w2.heap.size := by have := HSZ0.out; have := HLOW.out; omega
    rw [HRR.out]
    exact ⟨A9, c9, _, rfl, HL9.out, (((HO9.out.low (p := ⟨w.heap.size + 1, 0, none⟩) hlow _).low (p := ⟨w.heap.size + 1, 1, none⟩) hlow _).low (p := ⟨w.heap.size + 1, 2, none⟩) hlow _).lower (by omega), HBE⟩
  · have HM := hid hm
    have HINS0 := hid hins
    have HINT := hid (hint.below HBC.out)
    have HFR := hid hfr
    clear hm hins hint hfr HBC
    obtain ⟨M3, hM3⟩ : ∃ M, M = cm12 h cx := ⟨_, rfl⟩
    obtain ⟨ip, hip⟩ : ∃ k, k = (at12 h cx).1 := ⟨_, rfl⟩
    obtain ⟨n, hn⟩ : ∃ k, k = sp12 h cx := ⟨_, rfl⟩
    obtain ⟨ci, hci⟩ : ∃ k, k = atV cx := ⟨_, rfl⟩
    have HM3 := hid hM3
    have HIP := hid hip
    have HNN := hid hn
    have HCI := hid hci
    rw [← hM3] at HINS0
    rw [← hM3, ← hip, ← hn, ← hci]
    clear hM3 hip hn hci
    go_upto_region 2 with fail
    obtain ⟨w2, hw2⟩ : ∃ x, x = w1.alloc (.cells #[.int .i64 M3.prim, .int .i64 M3.args, .int .i64 M3.temps, .slice CA M3.code.length cc, .slice LA M3.lits.length lc, .int .i64 ci, .int .i64 ip, .int .i64 n, .slice (some ⟨bl, ol + 6, none⟩) 16 ac] 69) := ⟨_, rfl⟩
    obtain ⟨bx, hbx⟩ : ∃ x, x = w1.heap.size := ⟨_, rfl⟩
    have LX : Hid (Lies w2 bx 69 #[.int .i64 M3.prim, .int .i64 M3.args, .int .i64 M3.temps, .slice CA M3.code.length cc, .slice LA M3.lits.length lc, .int .i64 ci, .int .i64 ip, .int .i64 n, .slice (some ⟨bl, ol + 6, none⟩) 16 ac]) := by show Lies _ _ _ _; rw [hw2, hbx]; exact Lies.new _ _ _
    have HB12 : Hid (Below w1.heap.size w1 w2) := by show Below _ _ _; rw [hw2]; exact below_alloc _ _
    rw [← hw2, ← hbx]
    have HWZ : Hid (w0.heap.size ≤ w2.heap.size) := Nat.le_trans HWZ1.out HB12.out.size
    have HB2 := hid (then_w HB1.out HB12.out)
    have HX2 := hid (HX1.out.later HB12.out)
    have HK2 := hid (HK1.out.later HB12.out)
    have HINS2 := hid (HINS0.out.below HB12.out)
    have HINT := hid (HINT.out.below HB12.out)
    clear hw2 hbx HB12 HB1 HX1 HINS0 HK1
    have LX2 := LX
    have HWZ2 := HWZ
    have HINT2 := HINT
    obtain ⟨y0, y1, y2, y3, y4, y5, y6, y7, y8⟩ := LX.out.c9
    obtain ⟨x0, x1, x2⟩ := HX2.out.c3
    go_wp2_with fail
    refine (pisval_any12 h v A c _).mono ?_
    rintro e w3 ⟨rfl, hb⟩
    have HB3 := hid (then_w HB2.out hb)
    have HX3 := hid (HX2.out.later hb)
    have HK3 := hid (HK2.out.later hb)
    have LX3 := hid (LX2.out.later hb)
    have HINT3 := hid (HINT2.out.below hb)
    have HWZ3 : Hid (w0.heap.size ≤ w3.heap.size) := Nat.le_trans HWZ2.out hb.size
    clear hb x0 x1 x2 y0 y1 y2 y3 y4 y5 y6 y7 y8
    cases hv : hasB h.objs.length v
    · have HRR : Hid (pu12 h cx v = (h, 31)) := by show _ = _; unfold pu12; rw [if_neg (by rw [HM.out]; decide), if_pos hv]
      clear hv
      obtain ⟨x0, x1, x2⟩ := HX3.out.c3
      go_wp2_with fail
      refine (pclone_h12 h A c _ (HS.out.below HB3.out) HMOD.out).mono ?_
      rintro e w9 ⟨A9, c9, l9, rfl, hl9, ho9, hb⟩
      have HB9 := hid (then_w HB3.out hb)
      have HK9 := hid (HK3.out.later hb)
      have HO9 := hid ho9
      have HL9 := hid hl9
      have HLOW : Hid (w0.heap.size ≤ w3.heap.size) := HWZ3
      clear hb ho9 hl9 x0 x1 x2
      obtain ⟨u0, u1, u2⟩ := HK9.out.c3
      obtain ⟨uf0, uf1, uf2⟩ := HK9.out.f3
      go_wp2_with fail
      obtain ⟨r0, r1, r2⟩ := HK9.out.s3 (.slice A9 h.objs.length c9) (.int .i64 h.cap) (.int .i64 h.last)
      refine bodyPost_ret (v := .tuple #[.agg #[.slice A9 h.objs.length c9, .int .i64 h.cap, .int .i64 h.last], .int .i64 31]) (by simp [results, Tryz.results20, go_sem, r0, r1, r2]) rfl ?_
      have HBE := below_s3 (g := w.heap.size + 1) HB9.out (by simp) (.slice A9 h.objs.length c9) (.int .i64 h.cap) (.int .i64 h.last)
      have hlow : w.heap.size + 1 < w3.heap.size := by have := HSZ0.out; have := HLOW.out; omega
      rw [HRR.out]
      exact ⟨A9, c9, _, rfl, HL9.out, (((HO9.out.low (p := ⟨w.heap.size + 1, 0, none⟩) hlow _).low (p := ⟨w.heap.size + 1, 1, none⟩) hlow _).low (p := ⟨w.heap.size + 1, 2, none⟩) hlow _).lower (by omega), HBE⟩
    have HV := hid hv
    clear hv
    obtain ⟨y0, y1, y2, y3, y4, y5, y6, y7, y8⟩ := LX3.out.c9
    by_cases g : n = 16
    case pos =>
      have gB : (n == 16) = true := beq_iff_eq.2 g
      have HRR : Hid (pu12 h cx v = (h, 121)) := by show _ = _; unfold pu12; rw [if_neg (by rw [HM.out]; decide), if_neg (by rw [HV.out]; decide), if_pos (by rw [← HNN.out]; exact g)]
      clear gB
      obtain ⟨x0, x1, x2⟩ := HX3.out.c3
      go_wp2_with fail
      refine (pclone_h12 h A c _ (HS.out.below HB3.out) HMOD.out).mono ?_
      rintro e w9 ⟨A9, c9, l9, rfl, hl9, ho9, hb⟩
      have HB9 := hid (then_w HB3.out hb)
      have HK9 := hid (HK3.out.later hb)
      have HO9 := hid ho9
      have HL9 := hid hl9
      have HLOW : Hid (w0.heap.size ≤ w3.heap.size) := HWZ3
      clear hb ho9 hl9 x0 x1 x2
      obtain ⟨u0, u1, u2⟩ := HK9.out.c3
      obtain ⟨uf0, uf1, uf2⟩ := HK9.out.f3
      go_wp2_with fail
      obtain ⟨r0, r1, r2⟩ := HK9.out.s3 (.slice A9 h.objs.length c9) (.int .i64 h.cap) (.int .i64 h.last)
      refine bodyPost_ret (v := .tuple #[.agg #[.slice A9 h.objs.length c9, .int .i64 h.cap, .int .i64 h.last], .int .i64 121]) (by simp [results, Tryz.results20, go_sem, r0, r1, r2]) rfl ?_
      have HBE := below_s3 (g := w.heap.size + 1) HB9.out (by simp) (.slice A9 h.objs.length c9) (.int .i64 h.cap) (.int .i64 h.last)
      have hlow : w.heap.size + 1 < w3.heap.size := by have := HSZ0.out; have := HLOW.out; omega
      rw [HRR.out]
      exact ⟨A9, c9, _, rfl, HL9.out, (((HO9.out.low (p := ⟨w.heap.size + 1, 0, none⟩) hlow _).low (p := ⟨w.heap.size + 1, 1, none⟩) hlow _).low (p := ⟨w.heap.size + 1, 2, none⟩) hlow _).lower (by omega), HBE⟩
    have gB : (n == 16) = false := beq_eq_false_iff_ne.2 g
    have hbd := temps_sp12 HM.out
    rw [← HM3.out, ← HNN.out] at hbd
    have HG0 : Hid (¬ sp12 h cx = 16) := by show ¬ _; rw [← HNN.out]; exact g
    obtain ⟨j, hjn⟩ : ∃ j : Nat, n = j := ⟨n.toNat, by omega⟩
    subst hjn
    obtain ⟨k6, hk6⟩ : ∃ q : Nat, q = 6 + j := ⟨_, rfl⟩
    obtain ⟨y2v, hyv⟩ : ∃ q : Int, q = 2 * ((j : Int) + 1) + 1 := ⟨_, rfl⟩
    have hj : j < 16 := by omega
    have hw : IntKind.i64.wrap (6 + (j : Int)) = (k6 : Int) := by rw [IntWalk.i64_in _ ⟨by omega, by omega⟩]; omega
    have hw2 : IntKind.i64.wrap ((j : Int) + 1) = (j : Int) + 1 := IntWalk.i64_in _ ⟨by omega, by omega⟩
    have HJK : Hid ((6 : Int) + (j : Int) = (k6 : Int)) := by show _ = _; omega
    have HYV : Hid (inV12 ((j : Int) + 1) = y2v) := by show _ = _; rw [inV_in12 (by omega) (by omega), hyv]
    have HY3 : Hid (2 * (j : Int) + 3 = y2v) := by show _ = _; omega
    have HHAS : Hid (hasB h.objs.length y2v = true) := by show _ = _; rw [hyv]; exact odd_has12 (by omega) (by omega)
    have HLTE : Hid (∀ p ∈ [((2 : Nat), y2v), (k6, v)], p.1 < (obAt h cx).slots.length) := by
      show ∀ p ∈ _, _
      rw [(ctx_ref12 HM.out).2.1]
      simp; omega
    have HK22 : Hid (k6 < 22 ∧ k6 ≠ 2) := by show _ ∧ _; omega
    clear g hbd hk6 hj hyv
    obtain ⟨x0, x1, x2⟩ := HX3.out.c3
    go_upto_region 9 with fail
    refine wp_region_held_drew (S := (fun w' => w'.cell? ⟨w.heap.size, 0, none⟩ = some (.slice A h.objs.length c) ∧ w'.cell? ⟨w.heap.size, 1, none⟩ = some (.int .i64 h.cap) ∧ w'.cell? ⟨w.heap.size, 2, none⟩ = some (.int .i64 h.last) ∧ w'.cell? ⟨bx, 5, none⟩ = some (.int .i64 ci) ∧ w'.cell? ⟨bx, 7, none⟩ = some (.int .i64 j))) (by kernel_rfl) ?_ (fun hH0 => ?_)
    · exact ⟨cell_later (Below.refl w3.heap.size w3).drew x0, cell_later (Below.refl w3.heap.size w3).drew x1, cell_later (Below.refl w3.heap.size w3).drew x2, cell_later (Below.refl w3.heap.size w3).drew y5, cell_later (Below.refl w3.heap.size w3).drew y7⟩
    refine tkI 0 ⟨some 33, .load 24 (.tmp 3), 24, "frame.go:95", #[], none⟩ ?v7 rfl (by kernel_rfl) (by rfl) ?y7 ?_
    case y7 => intro w hSw; (try dsimp only at hSw); go_simp; all_goals with_reducible rfl
    try simp only [apt12]
    refine tkI 1 ⟨some 34, .fieldAddr 69 (.tmp 8) 1, 0, "frame.go:95", #[], none⟩ ?v8 rfl (by kernel_rfl) (by rfl) ?y8 ?_
    case y8 => intro w hSw; (try dsimp only at hSw); go_simp; all_goals with_reducible rfl
    try simp only [apt12]
    refine tkI 2 ⟨some 35, .load 3 (.tmp 34), 3, "frame.go:95", #[⟨1, .data⟩], none⟩ ?v9 rfl (by kernel_rfl) (by rfl) ?y9 ?_
    case y9 => intro w hSw; (try dsimp only at hSw); go_simp; all_goals with_reducible rfl
    try simp only [apt12]
    refine tkI 3 ⟨some 36, .fieldAddr 69 (.tmp 8) 3, 0, "frame.go:95", #[], none⟩ ?v10 rfl (by kernel_rfl) (by rfl) ?y10 ?_
    case y10 => intro w hSw; (try dsimp only at hSw); go_simp; all_goals with_reducible rfl
    try simp only [apt12]
    refine tkI 4 ⟨some 37, .load 3 (.tmp 36), 3, "frame.go:95", #[⟨3, .data⟩], none⟩ ?v11 rfl (by kernel_rfl) (by rfl) ?y11 ?_
    case y11 => intro w hSw; (try dsimp only at hSw); go_simp; all_goals with_reducible rfl
    try simp only [apt12]
    refine tkI 5 ⟨some 38, .binOp .add 3 (.tmp 37) (.const (Go.Value.int .i64 1)) 3, 3, "frame.go:95", #[⟨4, .data⟩], none⟩ ?v12 rfl (by kernel_rfl) (by rfl) ?y12 ?_
    case y12 => intro w hSw; (try dsimp only at hSw); go_simp; all_goals with_reducible rfl
    try simp only [apt12]
    refine tkI 8 ⟨some 41, .fieldAddr 69 (.tmp 8) 3, 0, "frame.go:95", #[], none⟩ ?v13 rfl (by kernel_rfl) (by rfl) ?y13 ?_
    case y13 => intro w hSw; (try dsimp only at hSw); go_simp; all_goals with_reducible rfl
    try simp only [apt12]
    refine tkI 9 ⟨some 42, .load 3 (.tmp 41), 3, "frame.go:95", #[⟨8, .data⟩], none⟩ ?v14 rfl (by kernel_rfl) (by rfl) ?y14 ?_
    case y14 => intro w hSw; (try dsimp only at hSw); go_simp; all_goals with_reducible rfl
    try simp only [apt12]
    refine tkI 10 ⟨some 43, .binOp .add 3 (.const (Go.Value.int .i64 6)) (.tmp 42) 3, 3, "frame.go:95", #[⟨9, .data⟩], none⟩ ?v15 rfl (by kernel_rfl) (by rfl) ?y15 ?_
    case y15 => intro w hSw; (try dsimp only at hSw); go_simp; all_goals with_reducible rfl
    try simp only [apt12]
    refine tkI 11 ⟨some 44, .move (.tmp 2), 3, "frame.go:95", #[], none⟩ ?v16 rfl (by kernel_rfl) (by rfl) ?y16 ?_
    case y16 => intro w hSw; (try dsimp only at hSw); go_simp; all_goals with_reducible rfl
    try simp only [apt12]
    refine tkI 12 ⟨some 45, .build 81 #[(0, .tmp 43), (1, .tmp 44)], 81, "frame.go:95", #[⟨10, .data⟩, ⟨11, .data⟩], none⟩ ?v17 rfl (by kernel_rfl) (by rfl) ?y17 ?_
    case y17 => intro w hSw; (try dsimp only at hSw); go_simp; all_goals with_reducible rfl
    try simp only [apt12]
    refine wpAnyH_ready (rs := [6]) (by kernel_rfl) (by simp) ?_
    refine AllReadyH.cons (i := 6) (o := ⟨some 39, .call { callee := .value (.func 51), args := #[.tmp 38], argTypes := #[3] }, 3, "frame.go:95", #[⟨5, .data⟩], none⟩) rfl (fun K hK => ?_) AllReadyH.nil
    go_simp
    go_at_call 51
    refine (psmall_any12 ((j : Int) + 1) _).mono ?_
    rintro e wr ⟨rfl, hwr⟩
    subst hwr
    rw [HYV.out]
    refine hK.out _ _ ?_ (fun hH1 => ?_)
    · exact hH0
    clear hK K
    try simp only [apt12]
    refine tkI 7 ⟨some 40, .build 81 #[(0, .const (Go.Value.int .i64 2)), (1, .tmp 39)], 81, "frame.go:95", #[⟨6, .data⟩], none⟩ ?v18 rfl (by kernel_rfl) (by rfl) ?y18 ?_
    case y18 => intro w hSw; (try dsimp only at hSw); go_simp; all_goals with_reducible rfl
    try simp only [apt12]
    refine wpAnyH_ready (rs := [13]) (by kernel_rfl) (by simp) ?_
    refine AllReadyH.cons (i := 13) (o := ⟨some 46, .buildSlice 100 2 #[(0, .tmp 40), (1, .tmp 45)], 100, "frame.go:95", #[⟨7, .data⟩, ⟨12, .data⟩], none⟩) rfl (fun K hK => ?_) AllReadyH.nil
    go_simp
    obtain ⟨uB, huB⟩ : ∃ x, x = (w3.alloc (.cells #[.int .i64 2, .int .i64 y2v, .int .i64 k6, .int .i64 v] 81)).drew := ⟨_, rfl⟩
    obtain ⟨bB, hbB⟩ : ∃ x, x = w3.heap.size := ⟨_, rfl⟩
    have LB : Hid (Lies uB bB 81 (enC12 [((2 : Nat), y2v), (k6, v)]).toArray) := by show Lies _ _ _ _; rw [huB, hbB]; exact (Lies.new w3 81 #[.int .i64 2, .int .i64 y2v, .int .i64 k6, .int .i64 v]).drew
    have HBB : Hid (Below w3.heap.size w3 uB) := by show Below _ _ _; rw [huB]; exact (below_alloc _ _).drew
    try simp only [← hbB]
    try rw [← huB]
    clear huB hbB
    refine hK.out _ _ ?_ (fun hH2 => ?_)
    · exact ⟨cell_later HBB.out x0, cell_later HBB.out x1, cell_later HBB.out x2, cell_later HBB.out y5, cell_later HBB.out y7⟩
    clear hK K
    try simp only [apt12]
    refine wpAnyH_ready (rs := [14]) (by kernel_rfl) (by simp) ?_
    refine AllReadyH.cons (i := 14) (o := ⟨some 47, .call { callee := .value (.func 50), args := #[.tmp 33, .tmp 35, .tmp 46], argTypes := #[24, 3, 100] }, 24, "frame.go:95", #[⟨0, .data⟩, ⟨2, .data⟩, ⟨13, .data⟩, ⟨6, .chain⟩], none⟩) rfl (fun K hK => ?_) AllReadyH.nil
    go_simp
    go_at_call 50
    rw [HCI.out]
    refine (pchanged_any12 h cx [((2 : Nat), y2v), (k6, v)] bB 2 A c _ (HS.out.below (then_w HB3.out HBB.out)) (ctx_ref12 HM.out).2.2 (ctx_ref12 HM.out).1 HLTE.out (by rw [(ctx_ref12 HM.out).2.1]; decide) LB.out (by simp)).mono ?_
    rintro e w8 ⟨A8, c8, l8, rfl, hl8, ho8, hb⟩
    obtain ⟨g8, hg8⟩ : ∃ g, g = chg12 h cx [((2 : Nat), y2v), (k6, v)] := ⟨_, rfl⟩
    rw [← hg8] at hl8 ⊢
    have HG8 := hid hg8
    have HB8 := hid (then_w (then_w HB3.out HBB.out) hb)
    have HK8 := hid ((HK3.out.later HBB.out).later hb)
    have HO8 := hid ho8
    have HL8 := hid hl8
    have HBC8 := hid (HBB.out.trans (hb.mono HBB.out.size))
    have HLOW : Hid (w0.heap.size ≤ uB.heap.size) := Nat.le_trans HWZ3.out HBB.out.size
    refine hK.out _ _ ?_ (fun hH3 => ?_)
    · exact ⟨cell_later HBC8.out x0, cell_later HBC8.out x1, cell_later HBC8.out x2, cell_later HBC8.out y5, cell_later HBC8.out y7⟩
    clear hK K
    try simp only [apt12]
    clear hb hl8 ho8 hg8
    refine wpAnyH_ready (rs := [15]) (by kernel_rfl) (by simp) ?_
    refine AllReadyH.cons (i := 15) (o := ⟨none, .store 24 (.tmp 6) (.tmp 47), 0, "frame.go:95", #[⟨14, .data⟩, ⟨14, .chain⟩, ⟨0, .phase⟩, ⟨1, .phase⟩, ⟨2, .phase⟩, ⟨3, .phase⟩, ⟨4, .phase⟩, ⟨5, .phase⟩, ⟨6, .phase⟩, ⟨7, .phase⟩, ⟨8, .phase⟩, ⟨9, .phase⟩, ⟨10, .phase⟩, ⟨11, .phase⟩, ⟨12, .phase⟩, ⟨13, .phase⟩, ⟨14, .phase⟩], none⟩) rfl (fun K hK => ?_) AllReadyH.nil
    obtain ⟨u0, u1, u2⟩ := HK8.out.c3
    obtain ⟨uf0, uf1, uf2⟩ := HK8.out.f3
    go_simp
    refine hK.out _ _ ?_ (fun hH4 => ?_)
    · exact ⟨cell_far (by omega) (cell_far (by omega) (cell_far (by omega) (cell_later HBC8.out x0))), cell_far (by omega) (cell_far (by omega) (cell_far (by omega) (cell_later HBC8.out x1))), cell_far (by omega) (cell_far (by omega) (cell_far (by omega) (cell_later HBC8.out x2))), cell_far (lies_ne LX3.out HK3.out (by decide)) (cell_far (lies_ne LX3.out HK3.out (by decide)) (cell_far (lies_ne LX3.out HK3.out (by decide)) (cell_later HBC8.out y5))), cell_far (lies_ne LX3.out HK3.out (by decide)) (cell_far (lies_ne LX3.out HK3.out (by decide)) (cell_far (lies_ne LX3.out HK3.out (by decide)) (cell_later HBC8.out y7)))⟩
    clear hK K
    try simp only [apt12]
    refine tkI 16 ⟨some 7, .assign (.const (Go.Value.int .i64 0)), 33, "frame.go:95", #[⟨15, .chain⟩, ⟨0, .phase⟩, ⟨1, .phase⟩, ⟨2, .phase⟩, ⟨3, .phase⟩, ⟨4, .phase⟩, ⟨5, .phase⟩, ⟨6, .phase⟩, ⟨7, .phase⟩, ⟨8, .phase⟩, ⟨9, .phase⟩, ⟨10, .phase⟩, ⟨11, .phase⟩, ⟨12, .phase⟩, ⟨13, .phase⟩, ⟨14, .phase⟩, ⟨15, .phase⟩], none⟩ ?v19 rfl (by kernel_rfl) (by rfl) ?y19 ?_
    case y19 => intro w hSw; (try dsimp only at hSw); go_simp; all_goals with_reducible rfl
    try simp only [apt12]
    refine wpAnyH_done (by kernel_rfl) ?_ _
    have HRR : Hid (pu12 h cx v = (g8, 0)) := by show _ = _; unfold pu12; rw [if_neg (by rw [HM.out]; decide), if_neg (by rw [HV.out]; decide), if_neg HG0.out, HG8.out, chg_two12 HM.out HV.out HHAS.out HK22.out.1 (by decide) HK22.out.2, ← HNN.out, HJK.out, HY3.out]; rfl
    go_wp2_with fail
    obtain ⟨r0, r1, r2⟩ := HK8.out.s3 (.slice A8 g8.objs.length c8) (.int .i64 g8.cap) (.int .i64 g8.last)
    refine bodyPost_ret (v := .tuple #[.agg #[.slice A8 g8.objs.length c8, .int .i64 g8.cap, .int .i64 g8.last], .int .i64 0]) (by simp [results, Tryz.results20, go_sem, r0, r1, r2]) rfl ?_
    have HBE := below_s3 (g := w.heap.size + 1) HB8.out (by simp) (.slice A8 g8.objs.length c8) (.int .i64 g8.cap) (.int .i64 g8.last)
    have hlow : w.heap.size + 1 < uB.heap.size := by have := HSZ0.out; have := HLOW.out; omega
    rw [HRR.out]
    exact ⟨A8, c8, _, rfl, HL8.out, (((HO8.out.low (p := ⟨w.heap.size + 1, 0, none⟩) hlow _).low (p := ⟨w.heap.size + 1, 1, none⟩) hlow _).low (p := ⟨w.heap.size + 1, 2, none⟩) hlow _).lower (by omega), HBE⟩
set_option maxHeartbeats 4000000 in
theorem cpop_any12 (h : Hp) (cx : Int) (A : Option Addr) (c : Nat) (w : World) (hs : ObsR w A h.objs) (fit : h.Fit) (hmod : Mod12 h) :
    Calls Tryz.prog 22 #[.agg #[.slice A h.objs.length c, .int .i64 h.cap, .int .i64 h.last], .int .i64 cx] w (HeapOV12 w (po12 h cx)) := by
  obtain ⟨w0, hw0⟩ : ∃ w0, w0 = (w.alloc (.cells #[Value.slice A h.objs.length c, Value.int .i64 h.cap, Value.int .i64 h.last] 24)).alloc (.cells #[.slice none 0 0, .int .i64 0, .int .i64 0] 24) := ⟨_, rfl⟩
  have HB0 : Hid (Below w.heap.size w w0) := by show Below _ _ _; rw [hw0]; exact below_alloc2 w _ _
  have HX0 : Hid (Lies w0 w.heap.size 24 #[Value.slice A h.objs.length c, Value.int .i64 h.cap, Value.int .i64 h.last]) := by show Lies _ _ _ _; rw [hw0]; exact ((Lies.new w _ _).alloc _)
  have HK0 : Hid (Lies w0 (w.heap.size + 1) 24 #[.slice none 0 0, .int .i64 0, .int .i64 0]) := by
    show Lies _ _ _ _
    have := (Lies.new (w.alloc (.cells #[Value.slice A h.objs.length c, Value.int .i64 h.cap, Value.int .i64 h.last] 24)) 24 #[.slice none 0 0, .int .i64 0, .int .i64 0])
    rw [hw0]
    simpa [Hid] using this
  have HSZ0 : Hid (w.heap.size + 2 ≤ w0.heap.size) := by show _ ≤ _; rw [hw0]; simp
  have HS := hid hs
  have HF := hid fit
  have HMOD := hid hmod
  clear hs fit hmod
  go_enter Tryz.func22, Tryz.ntmps22
  go_upto_region 1 with fail
  rw [← hw0]
  clear hw0
  obtain ⟨x0, x1, x2⟩ := HX0.out.c3
  go_wp2_with fail
  refine (pread_any12 h cx A c _ (HS.out.below HB0.out) HF.out).mono ?_
  rintro e w1 ⟨hb, hcase⟩
  have HBC := hid hb
  have HWZ1 : Hid (w0.heap.size ≤ w1.heap.size) := hb.size
  have HB1 := hid (then_w HB0.out hb)
  have HX1 := hid (HX0.out.later hb)
  have HK1 := hid (HK0.out.later hb)
  clear hb x0 x1 x2 HX0 HB0 HK0
  rcases hcase with ⟨hm, rfl⟩ | ⟨hm, CA, cc, LA, lc, bl, ol, ac, rfl, hins, hint, hfr⟩
  · have HMN := hid hm
    clear hm
    go_upto_region 2 with fail
    obtain ⟨w2, hw2⟩ : ∃ x, x = w1.alloc (.cells #[.int .i64 0, .int .i64 0, .int .i64 0, .slice none 0 0, .slice none 0 0, .int .i64 0, .int .i64 0, .int .i64 0, .slice none 0 0] 69) := ⟨_, rfl⟩
    obtain ⟨bx, hbx⟩ : ∃ x, x = w1.heap.size := ⟨_, rfl⟩
    have LX : Hid (Lies w2 bx 69 #[.int .i64 0, .int .i64 0, .int .i64 0, .slice none 0 0, .slice none 0 0, .int .i64 0, .int .i64 0, .int .i64 0, .slice none 0 0]) := by show Lies _ _ _ _; rw [hw2, hbx]; exact Lies.new _ _ _
    have HB12 : Hid (Below w1.heap.size w1 w2) := by show Below _ _ _; rw [hw2]; exact below_alloc _ _
    rw [← hw2, ← hbx]
    have HWZ : Hid (w0.heap.size ≤ w2.heap.size) := Nat.le_trans HWZ1.out HB12.out.size
    have HB2 := hid (then_w HB1.out HB12.out)
    have HX2 := hid (HX1.out.later HB12.out)
    have HK2 := hid (HK1.out.later HB12.out)
    clear hw2 hbx HB12 HB1 HX1 HK1
    have HWZ2 := HWZ
    have HRR : Hid (po12 h cx = (h, 0, 120)) := by show _ = _; unfold po12; rw [if_pos HMN.out]
    obtain ⟨x0, x1, x2⟩ := HX2.out.c3
    go_wp2_with fail
    refine (pclone_h12 h A c _ (HS.out.below HB2.out) HMOD.out).mono ?_
    rintro e w9 ⟨A9, c9, l9, rfl, hl9, ho9, hb⟩
    have HB9 := hid (then_w HB2.out hb)
    have HK9 := hid (HK2.out.later hb)
    have HO9 := hid ho9
    have HL9 := hid hl9
    have HLOW : Hid (w0.heap.size ≤ w2.heap.size) := HWZ2
    clear hb ho9 hl9 x0 x1 x2
    obtain ⟨u0, u1, u2⟩ := HK9.out.c3
    obtain ⟨uf0, uf1, uf2⟩ := HK9.out.f3
    go_wp2_with fail
    obtain ⟨r0, r1, r2⟩ := HK9.out.s3 (.slice A9 h.objs.length c9) (.int .i64 h.cap) (.int .i64 h.last)
    refine bodyPost_ret (v := .tuple #[.agg #[.slice A9 h.objs.length c9, .int .i64 h.cap, .int .i64 h.last], .int .i64 0, .int .i64 120]) (by simp [results, Tryz.results22, go_sem, r0, r1, r2]) rfl ?_
    have HBE := below_s3 (g := w.heap.size + 1) HB9.out (by simp) (.slice A9 h.objs.length c9) (.int .i64 h.cap) (.int .i64 h.last)
    have hlow : w.heap.size + 1 < w2.heap.size := by have := HSZ0.out; have := HLOW.out; omega
    rw [HRR.out]
    exact ⟨A9, c9, _, rfl, HL9.out, (((HO9.out.low (p := ⟨w.heap.size + 1, 0, none⟩) hlow _).low (p := ⟨w.heap.size + 1, 1, none⟩) hlow _).low (p := ⟨w.heap.size + 1, 2, none⟩) hlow _).lower (by omega), HBE⟩
  · have HM := hid hm
    have HINS0 := hid hins
    have HINT := hid (hint.below HBC.out)
    have HFR := hid hfr
    clear hm hins hint hfr HBC
    obtain ⟨M3, hM3⟩ : ∃ M, M = cm12 h cx := ⟨_, rfl⟩
    obtain ⟨ip, hip⟩ : ∃ k, k = (at12 h cx).1 := ⟨_, rfl⟩
    obtain ⟨n, hn⟩ : ∃ k, k = sp12 h cx := ⟨_, rfl⟩
    obtain ⟨ci, hci⟩ : ∃ k, k = atV cx := ⟨_, rfl⟩
    have HM3 := hid hM3
    have HIP := hid hip
    have HNN := hid hn
    have HCI := hid hci
    rw [← hM3] at HINS0
    rw [← hM3, ← hip, ← hn, ← hci]
    clear hM3 hip hn hci
    go_upto_region 2 with fail
    obtain ⟨w2, hw2⟩ : ∃ x, x = w1.alloc (.cells #[.int .i64 M3.prim, .int .i64 M3.args, .int .i64 M3.temps, .slice CA M3.code.length cc, .slice LA M3.lits.length lc, .int .i64 ci, .int .i64 ip, .int .i64 n, .slice (some ⟨bl, ol + 6, none⟩) 16 ac] 69) := ⟨_, rfl⟩
    obtain ⟨bx, hbx⟩ : ∃ x, x = w1.heap.size := ⟨_, rfl⟩
    have LX : Hid (Lies w2 bx 69 #[.int .i64 M3.prim, .int .i64 M3.args, .int .i64 M3.temps, .slice CA M3.code.length cc, .slice LA M3.lits.length lc, .int .i64 ci, .int .i64 ip, .int .i64 n, .slice (some ⟨bl, ol + 6, none⟩) 16 ac]) := by show Lies _ _ _ _; rw [hw2, hbx]; exact Lies.new _ _ _
    have HB12 : Hid (Below w1.heap.size w1 w2) := by show Below _ _ _; rw [hw2]; exact below_alloc _ _
    rw [← hw2, ← hbx]
    have HWZ : Hid (w0.heap.size ≤ w2.heap.size) := Nat.le_trans HWZ1.out HB12.out.size
    have HB2 := hid (then_w HB1.out HB12.out)
    have HX2 := hid (HX1.out.later HB12.out)
    have HK2 := hid (HK1.out.later HB12.out)
    have HINS2 := hid (HINS0.out.below HB12.out)
    have HINT := hid (HINT.out.below HB12.out)
    clear hw2 hbx HB12 HB1 HX1 HINS0 HK1
    have LX2 := LX
    have HWZ2 := HWZ
    have HINT2 := HINT
    obtain ⟨y0, y1, y2, y3, y4, y5, y6, y7, y8⟩ := LX.out.c9
    by_cases g : n = M3.temps
    case pos =>
      have gB : (n == M3.temps) = true := beq_iff_eq.2 g
      have HRR : Hid (po12 h cx = (h, 0, 121)) := by show _ = _; unfold po12; rw [if_neg (by rw [HM.out]; decide), if_pos (by rw [← HNN.out, ← HM3.out]; exact g)]
      obtain ⟨x0, x1, x2⟩ := HX2.out.c3
      go_wp2_with fail
      refine (pclone_h12 h A c _ (HS.out.below HB2.out) HMOD.out).mono ?_
      rintro e w9 ⟨A9, c9, l9, rfl, hl9, ho9, hb⟩
      have HB9 := hid (then_w HB2.out hb)
      have HK9 := hid (HK2.out.later hb)
      have HO9 := hid ho9
      have HL9 := hid hl9
      have HLOW : Hid (w0.heap.size ≤ w2.heap.size) := HWZ2
      clear hb ho9 hl9 x0 x1 x2
      obtain ⟨u0, u1, u2⟩ := HK9.out.c3
      obtain ⟨uf0, uf1, uf2⟩ := HK9.out.f3
      go_wp2_with fail
      obtain ⟨r0, r1, r2⟩ := HK9.out.s3 (.slice A9 h.objs.length c9) (.int .i64 h.cap) (.int .i64 h.last)
      refine bodyPost_ret (v := .tuple #[.agg #[.slice A9 h.objs.length c9, .int .i64 h.cap, .int .i64 h.last], .int .i64 0, .int .i64 121]) (by simp [results, Tryz.results22, go_sem, r0, r1, r2]) rfl ?_
      have HBE := below_s3 (g := w.heap.size + 1) HB9.out (by simp) (.slice A9 h.objs.length c9) (.int .i64 h.cap) (.int .i64 h.last)
      have hlow : w.heap.size + 1 < w2.heap.size := by have := HSZ0.out; have := HLOW.out; omega
      rw [HRR.out]
      exact ⟨A9, c9, _, rfl, HL9.out, (((HO9.out.low (p := ⟨w.heap.size + 1, 0, none⟩) hlow _).low (p := ⟨w.heap.size + 1, 1, none⟩) hlow _).low (p := ⟨w.heap.size + 1, 2, none⟩) hlow _).lower (by omega), HBE⟩
    have gB : (n == M3.temps) = false := beq_eq_false_iff_ne.2 g
    have hbd := temps_sp12 HM.out
    rw [← HM3.out, ← HNN.out] at hbd
    have HG0 : Hid (¬ sp12 h cx = (cm12 h cx).temps) := by show ¬ _; rw [← HNN.out, ← HM3.out]; exact g
    obtain ⟨j, hjn⟩ : ∃ j : Nat, n = (j : Int) + 1 := ⟨(n - 1).toNat, by omega⟩
    subst hjn
    obtain ⟨k6, hk6⟩ : ∃ q : Nat, q = 6 + j := ⟨_, rfl⟩
    obtain ⟨y2v, hyv⟩ : ∃ q : Int, q = 2 * (j : Int) + 1 := ⟨_, rfl⟩
    obtain ⟨vp, hvp⟩ : ∃ q : Int, q = sl12 h cx k6 := ⟨_, rfl⟩
    have HVP := hid hvp
    have hj : j < 16 := by omega
    have hll := ctx_len12 HM.out
    obtain ⟨b', o', hbo, hbl, hcl⟩ := HINT2.out (by omega)
    injection hbo with hbo
    injection hbo with e1 e2 e3
    subst e1 e2
    have qa : w2.cell? ⟨bl, ol + 6 + j, none⟩ = some (.int .i64 vp) := by
      have h6 : 6 + j < (sls12 h cx).length := by omega
      have q := hcl (6 + j) _ (List.getElem?_eq_getElem h6)
      have hg : (sls12 h cx).getD k6 0 = (sls12 h cx)[6 + j]'h6 := by
        subst hk6
        rw [List.getD_eq_getElem?_getD, List.getElem?_eq_getElem h6]; rfl
      rw [Nat.add_assoc, q, hvp]
      unfold sl12
      rw [hg]
    have hblne : bl ≠ w.heap.size + 1 := fun e => by
      have q := hcl 21 _ (List.getElem?_eq_getElem (by omega))
      have q2 : w2.cell? ⟨w.heap.size + 1, ol + 21, none⟩ = none := by
        rw [HK2.out.cell, List.getElem?_toArray]
        exact List.getElem?_eq_none (by simp)
      rw [e, q2] at q
      cases q
    have hw : IntKind.i64.wrap (6 + (j : Int)) = (k6 : Int) := by rw [IntWalk.i64_in _ ⟨by omega, by omega⟩]; omega
    have hw2 : IntKind.i64.wrap ((j : Int) + 1 - 1) = (j : Int) := by rw [IntWalk.i64_in _ ⟨by omega, by omega⟩]; omega
    have HJK : Hid ((5 : Int) + ((j : Int) + 1) = (k6 : Int)) := by show _ = _; omega
    have HYV : Hid (inV12 (j : Int) = y2v) := by show _ = _; rw [inV_in12 (by omega) (by omega), hyv]
    have HY3 : Hid (2 * ((j : Int) + 1) - 1 = y2v) := by show _ = _; omega
    have HHAS : Hid (hasB h.objs.length y2v = true) := by show _ = _; rw [hyv]; exact odd_has12 (by omega) (by omega)
    have HLTE : Hid (∀ p ∈ [((2 : Nat), y2v), (k6, (0 : Int))], p.1 < (obAt h cx).slots.length) := by
      show ∀ p ∈ _, _
      rw [(ctx_ref12 HM.out).2.1]
      simp; omega
    have HK22 : Hid (k6 < 22 ∧ k6 ≠ 2) := by show _ ∧ _; omega
    have hj0 : (0 : Int) ≤ (j : Int) := by omega
    have hj16 : (j : Int) < 16 := by omega
    clear g hbd hk6 hyv hvp hcl hbl hll
    obtain ⟨x0, x1, x2⟩ := HX2.out.c3
    go_upto_region 7 with fail
    refine wp_region_held_drew (S := (fun w' => w'.cell? ⟨w.heap.size, 0, none⟩ = some (.slice A h.objs.length c) ∧ w'.cell? ⟨w.heap.size, 1, none⟩ = some (.int .i64 h.cap) ∧ w'.cell? ⟨w.heap.size, 2, none⟩ = some (.int .i64 h.last) ∧ w'.cell? ⟨bx, 5, none⟩ = some (.int .i64 ci) ∧ w'.cell? ⟨bx, 8, none⟩ = some (.slice (some ⟨bl, ol + 6, none⟩) 16 ac) ∧ w'.cell? ⟨bl, ol + 6 + j, none⟩ = some (.int .i64 vp))) (by kernel_rfl) ?_ (fun hH0 => ?_)
    · exact ⟨cell_later (Below.refl w2.heap.size w2).drew x0, cell_later (Below.refl w2.heap.size w2).drew x1, cell_later (Below.refl w2.heap.size w2).drew x2, cell_later (Below.refl w2.heap.size w2).drew y5, cell_later (Below.refl w2.heap.size w2).drew y8, cell_later (Below.refl w2.heap.size w2).drew qa⟩
    refine tkI 0 ⟨some 34, .load 24 (.tmp 2), 24, "frame.go:108", #[], none⟩ ?v20 rfl (by kernel_rfl) (by rfl) ?y20 ?_
    case y20 => intro w hSw; (try dsimp only at hSw); go_simp; all_goals with_reducible rfl
    try simp only [apt12]
    refine tkI 1 ⟨some 35, .fieldAddr 69 (.tmp 7) 1, 0, "frame.go:108", #[], none⟩ ?v21 rfl (by kernel_rfl) (by rfl) ?y21 ?_
    case y21 => intro w hSw; (try dsimp only at hSw); go_simp; all_goals with_reducible rfl
    try simp only [apt12]
    refine tkI 2 ⟨some 36, .load 3 (.tmp 35), 3, "frame.go:108", #[⟨1, .data⟩], none⟩ ?v22 rfl (by kernel_rfl) (by rfl) ?y22 ?_
    case y22 => intro w hSw; (try dsimp only at hSw); go_simp; all_goals with_reducible rfl
    try simp only [apt12]
    refine tkI 3 ⟨some 37, .move (.tmp 9), 3, "frame.go:108", #[], none⟩ ?v23 rfl (by kernel_rfl) (by rfl) ?y23 ?_
    case y23 => intro w hSw; (try dsimp only at hSw); go_simp; all_goals with_reducible rfl
    try simp only [apt12]
    refine tkI 6 ⟨some 40, .move (.tmp 9), 3, "frame.go:108", #[], none⟩ ?v24 rfl (by kernel_rfl) (by rfl) ?y24 ?_
    case y24 => intro w hSw; (try dsimp only at hSw); go_simp; all_goals with_reducible rfl
    try simp only [apt12]
    refine tkI 7 ⟨some 41, .binOp .add 3 (.const (Go.Value.int .i64 6)) (.tmp 40) 3, 3, "frame.go:108", #[⟨6, .data⟩], none⟩ ?v25 rfl (by kernel_rfl) (by rfl) ?y25 ?_
    case y25 => intro w hSw; (try dsimp only at hSw); go_simp; all_goals with_reducible rfl
    try simp only [apt12]
    refine tkI 12 ⟨some 46, .fieldAddr 69 (.tmp 7) 4, 0, "frame.go:108", #[⟨17, .gcOnly .lateStores⟩], none⟩ ?v26 rfl (by kernel_rfl) (by rfl) ?y26 ?_
    case y26 => intro w hSw; (try dsimp only at hSw); go_simp; all_goals with_reducible rfl
    try simp only [apt12]
    refine tkI 13 ⟨some 47, .load 30 (.tmp 46), 30, "frame.go:108", #[⟨12, .data⟩, ⟨17, .gcOnly .lateStores⟩], none⟩ ?v27 rfl (by kernel_rfl) (by rfl) ?y27 ?_
    case y27 => intro w hSw; (try dsimp only at hSw); go_simp; all_goals with_reducible rfl
    try simp only [apt12]
    refine tkI 14 ⟨some 48, .move (.tmp 9), 3, "frame.go:108", #[⟨17, .gcOnly .lateStores⟩], none⟩ ?v28 rfl (by kernel_rfl) (by rfl) ?y28 ?_
    case y28 => intro w hSw; (try dsimp only at hSw); go_simp; all_goals with_reducible rfl
    try simp only [apt12]
    refine tkI 15 ⟨some 49, .indexAddr 30 (.tmp 47) (.tmp 48), 0, "frame.go:108", #[⟨13, .data⟩, ⟨14, .data⟩, ⟨17, .gcOnly .lateStores⟩], none⟩ ?v29 rfl (by kernel_rfl) (by rfl) ?y29 ?_
    case y29 => intro w hSw; (try dsimp only at hSw); go_simp; all_goals with_reducible rfl
    try simp only [apt12]
    refine tkI 16 ⟨some 50, .load 3 (.tmp 49), 3, "frame.go:108", #[⟨15, .data⟩, ⟨17, .gcOnly .lateStores⟩], none⟩ ?v30 rfl (by kernel_rfl) (by rfl) ?y30 ?_
    case y30 => intro w hSw; (try dsimp only at hSw); go_simp; all_goals with_reducible rfl
    try simp only [apt12]
    refine wpAnyH_ready (rs := [4]) (by kernel_rfl) (by simp) ?_
    refine AllReadyH.cons (i := 4) (o := ⟨some 38, .call { callee := .value (.func 51), args := #[.tmp 37], argTypes := #[3] }, 3, "frame.go:108", #[⟨3, .data⟩], none⟩) rfl (fun K hK => ?_) AllReadyH.nil
    go_simp
    go_at_call 51
    refine (psmall_any12 (j : Int) _).mono ?_
    rintro e wr ⟨rfl, hwr⟩
    subst hwr
    rw [HYV.out]
    refine hK.out _ _ ?_ (fun hH1 => ?_)
    · exact hH0
    clear hK K
    try simp only [apt12]
    refine tkI 5 ⟨some 39, .build 81 #[(0, .const (Go.Value.int .i64 2)), (1, .tmp 38)], 81, "frame.go:108", #[⟨4, .data⟩], none⟩ ?v31 rfl (by kernel_rfl) (by rfl) ?y31 ?_
    case y31 => intro w hSw; (try dsimp only at hSw); go_simp; all_goals with_reducible rfl
    try simp only [apt12]
    refine wpAnyH_ready (rs := [8]) (by kernel_rfl) (by simp) ?_
    refine AllReadyH.cons (i := 8) (o := ⟨some 42, .call { callee := .value (.func 54), args := #[.const (Go.Value.int .i64 0)], argTypes := #[3] }, 3, "frame.go:108", #[⟨4, .chain⟩], none⟩) rfl (fun K hK => ?_) AllReadyH.nil
    go_simp
    go_at_call 54
    refine (pref_any12 0 _).mono ?_
    rintro e wr ⟨rfl, hwr⟩
    subst hwr
    rw [show reV 0 = 0 by decide]
    refine hK.out _ _ ?_ (fun hH2 => ?_)
    · exact hH1
    clear hK K
    try simp only [apt12]
    refine tkI 9 ⟨some 43, .build 81 #[(0, .tmp 41), (1, .tmp 42)], 81, "frame.go:108", #[⟨7, .data⟩, ⟨8, .data⟩], none⟩ ?v32 rfl (by kernel_rfl) (by rfl) ?y32 ?_
    case y32 => intro w hSw; (try dsimp only at hSw); go_simp; all_goals with_reducible rfl
    try simp only [apt12]
    refine wpAnyH_ready (rs := [10]) (by kernel_rfl) (by simp) ?_
    refine AllReadyH.cons (i := 10) (o := ⟨some 44, .buildSlice 100 2 #[(0, .tmp 39), (1, .tmp 43)], 100, "frame.go:108", #[⟨5, .data⟩, ⟨9, .data⟩], none⟩) rfl (fun K hK => ?_) AllReadyH.nil
    go_simp
    obtain ⟨uB, huB⟩ : ∃ x, x = (w2.alloc (.cells #[.int .i64 2, .int .i64 y2v, .int .i64 k6, .int .i64 0] 81)).drew := ⟨_, rfl⟩
    obtain ⟨bB, hbB⟩ : ∃ x, x = w2.heap.size := ⟨_, rfl⟩
    have LB : Hid (Lies uB bB 81 (enC12 [((2 : Nat), y2v), (k6, (0 : Int))]).toArray) := by show Lies _ _ _ _; rw [huB, hbB]; exact (Lies.new w2 81 #[.int .i64 2, .int .i64 y2v, .int .i64 k6, .int .i64 0]).drew
    have HBB : Hid (Below w2.heap.size w2 uB) := by show Below _ _ _; rw [huB]; exact (below_alloc _ _).drew
    try simp only [← hbB]
    try rw [← huB]
    clear huB hbB
    refine hK.out _ _ ?_ (fun hH3 => ?_)
    · exact ⟨cell_later HBB.out x0, cell_later HBB.out x1, cell_later HBB.out x2, cell_later HBB.out y5, cell_later HBB.out y8, cell_later HBB.out qa⟩
    clear hK K
    try simp only [apt12]
    refine wpAnyH_ready (rs := [11]) (by kernel_rfl) (by simp) ?_
    refine AllReadyH.cons (i := 11) (o := ⟨some 45, .call { callee := .value (.func 50), args := #[.tmp 34, .tmp 36, .tmp 44], argTypes := #[24, 3, 100] }, 24, "frame.go:108", #[⟨0, .data⟩, ⟨2, .data⟩, ⟨10, .data⟩, ⟨8, .chain⟩], none⟩) rfl (fun K hK => ?_) AllReadyH.nil
    go_simp
    go_at_call 50
    rw [HCI.out]
    refine (pchanged_any12 h cx [((2 : Nat), y2v), (k6, (0 : Int))] bB 2 A c _ (HS.out.below (then_w HB2.out HBB.out)) (ctx_ref12 HM.out).2.2 (ctx_ref12 HM.out).1 HLTE.out (by rw [(ctx_ref12 HM.out).2.1]; decide) LB.out (by simp)).mono ?_
    rintro e w8 ⟨A8, c8, l8, rfl, hl8, ho8, hb⟩
    obtain ⟨g8, hg8⟩ : ∃ g, g = chg12 h cx [((2 : Nat), y2v), (k6, (0 : Int))] := ⟨_, rfl⟩
    rw [← hg8] at hl8 ⊢
    have HG8 := hid hg8
    have HB8 := hid (then_w (then_w HB2.out HBB.out) hb)
    have HK8 := hid ((HK2.out.later HBB.out).later hb)
    have HO8 := hid ho8
    have HL8 := hid hl8
    have HBC8 := hid (HBB.out.trans (hb.mono HBB.out.size))
    have HLOW : Hid (w0.heap.size ≤ uB.heap.size) := Nat.le_trans HWZ2.out HBB.out.size
    refine hK.out _ _ ?_ (fun hH4 => ?_)
    · exact ⟨cell_later HBC8.out x0, cell_later HBC8.out x1, cell_later HBC8.out x2, cell_later HBC8.out y5, cell_later HBC8.out y8, cell_later HBC8.out qa⟩
    clear hK K
    try simp only [apt12]
    clear hb hl8 ho8 hg8
    refine wpAnyH_ready (rs := [17]) (by kernel_rfl) (by simp) ?_
    refine AllReadyH.cons (i := 17) (o := ⟨none, .store 24 (.tmp 4) (.tmp 45), 0, "frame.go:108", #[⟨11, .data⟩, ⟨11, .chain⟩, ⟨0, .phase⟩, ⟨1, .phase⟩, ⟨2, .phase⟩, ⟨3, .phase⟩, ⟨4, .phase⟩, ⟨5, .phase⟩, ⟨6, .phase⟩, ⟨7, .phase⟩, ⟨8, .phase⟩, ⟨9, .phase⟩, ⟨10, .phase⟩, ⟨11, .phase⟩, ⟨12, .textOnly .lateStores⟩, ⟨13, .textOnly .lateStores⟩, ⟨14, .textOnly .lateStores⟩, ⟨15, .textOnly .lateStores⟩, ⟨16, .textOnly .lateStores⟩], none⟩) rfl (fun K hK => ?_) AllReadyH.nil
    obtain ⟨u0, u1, u2⟩ := HK8.out.c3
    obtain ⟨uf0, uf1, uf2⟩ := HK8.out.f3
    go_simp
    refine hK.out _ _ ?_ (fun hH5 => ?_)
    · exact ⟨cell_far (by omega) (cell_far (by omega) (cell_far (by omega) (cell_later HBC8.out x0))), cell_far (by omega) (cell_far (by omega) (cell_far (by omega) (cell_later HBC8.out x1))), cell_far (by omega) (cell_far (by omega) (cell_far (by omega) (cell_later HBC8.out x2))), cell_far (lies_ne LX2.out HK2.out (by decide)) (cell_far (lies_ne LX2.out HK2.out (by decide)) (cell_far (lies_ne LX2.out HK2.out (by decide)) (cell_later HBC8.out y5))), cell_far (lies_ne LX2.out HK2.out (by decide)) (cell_far (lies_ne LX2.out HK2.out (by decide)) (cell_far (lies_ne LX2.out HK2.out (by decide)) (cell_later HBC8.out y8))), cell_far (hblne) (cell_far (hblne) (cell_far (hblne) (cell_later HBC8.out qa)))⟩
    clear hK K
    try simp only [apt12]
    refine tkI 18 ⟨some 5, .assign (.tmp 50), 3, "frame.go:108", #[⟨16, .data⟩, ⟨17, .chain⟩, ⟨0, .phase⟩, ⟨1, .phase⟩, ⟨2, .phase⟩, ⟨3, .phase⟩, ⟨4, .phase⟩, ⟨5, .phase⟩, ⟨6, .phase⟩, ⟨7, .phase⟩, ⟨8, .phase⟩, ⟨9, .phase⟩, ⟨10, .phase⟩, ⟨11, .phase⟩, ⟨12, .phase⟩, ⟨13, .phase⟩, ⟨14, .phase⟩, ⟨15, .phase⟩, ⟨16, .phase⟩, ⟨17, .phase⟩], none⟩ ?v33 rfl (by kernel_rfl) (by rfl) ?y33 ?_
    case y33 => intro w hSw; (try dsimp only at hSw); go_simp; all_goals with_reducible rfl
    try simp only [apt12]
    refine tkI 19 ⟨some 6, .assign (.const (Go.Value.int .i64 0)), 33, "frame.go:108", #[⟨18, .chain⟩, ⟨0, .phase⟩, ⟨1, .phase⟩, ⟨2, .phase⟩, ⟨3, .phase⟩, ⟨4, .phase⟩, ⟨5, .phase⟩, ⟨6, .phase⟩, ⟨7, .phase⟩, ⟨8, .phase⟩, ⟨9, .phase⟩, ⟨10, .phase⟩, ⟨11, .phase⟩, ⟨12, .phase⟩, ⟨13, .phase⟩, ⟨14, .phase⟩, ⟨15, .phase⟩, ⟨16, .phase⟩, ⟨17, .phase⟩, ⟨18, .phase⟩], none⟩ ?v34 rfl (by kernel_rfl) (by rfl) ?y34 ?_
    case y34 => intro w hSw; (try dsimp only at hSw); go_simp; all_goals with_reducible rfl
    try simp only [apt12]
    refine wpAnyH_done (by kernel_rfl) ?_ _
    have HRR : Hid (po12 h cx = (g8, vp, 0)) := by show _ = _; unfold po12; rw [if_neg (by rw [HM.out]; decide), if_neg HG0.out, HG8.out, chg_two12 HM.out (nil_has12 HM.out) HHAS.out HK22.out.1 (by decide) HK22.out.2, ← HNN.out, HJK.out, HY3.out, HVP.out]; rfl
    go_wp2_with fail
    obtain ⟨r0, r1, r2⟩ := HK8.out.s3 (.slice A8 g8.objs.length c8) (.int .i64 g8.cap) (.int .i64 g8.last)
    refine bodyPost_ret (v := .tuple #[.agg #[.slice A8 g8.objs.length c8, .int .i64 g8.cap, .int .i64 g8.last], .int .i64 vp, .int .i64 0]) (by simp [results, Tryz.results22, go_sem, r0, r1, r2]) rfl ?_
    have HBE := below_s3 (g := w.heap.size + 1) HB8.out (by simp) (.slice A8 g8.objs.length c8) (.int .i64 g8.cap) (.int .i64 g8.last)
    have hlow : w.heap.size + 1 < uB.heap.size := by have := HSZ0.out; have := HLOW.out; omega
    rw [HRR.out]
    exact ⟨A8, c8, _, rfl, HL8.out, (((HO8.out.low (p := ⟨w.heap.size + 1, 0, none⟩) hlow _).low (p := ⟨w.heap.size + 1, 1, none⟩) hlow _).low (p := ⟨w.heap.size + 1, 2, none⟩) hlow _).lower (by omega), HBE⟩
end Go.Proofs.YtalfbdigjaibkaaGreat
