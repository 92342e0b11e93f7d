/- The program's New. -/
import Derived.Test.YtalfbdigjaibkaaGreatTV12
namespace Go.Proofs.YtalfbdigjaibkaaGreat
open Go.RowKit
set_option maxRecDepth 100000
set_option maxHeartbeats 4000000 in
theorem cnew_any12 (h : Hp) (sd m rc hm : Int) (args : List Int) (SA : Option Addr) (da : Nat) (A : Option Addr) (c : Nat) (w : World) (hs : ObsR w A h.objs) (fit : h.Fit) (hmod : Mod12 h) (hsa : IntsR w SA args) (hna : args.length ≤ 1000) :
    Calls Tryz.prog 29 #[.agg #[.slice A h.objs.length c, .int .i64 h.cap, .int .i64 h.last], .int .i64 sd, .int .i64 m, .int .i64 rc, .int .i64 hm, .slice SA args.length da] w (HeapOV12 w (nn12 h sd m rc hm args)) := by
  obtain ⟨w0, hw0⟩ : ∃ w0, w0 = (w.alloc (.cells #[Value.slice A h.objs.length c, Value.int .i64 h.cap, Value.int .i64 h.last] 24)).alloc (.cells #[.slice none 0 0, .int .i64 0, .int .i64 0] 24) := ⟨_, rfl⟩
  have HB0 : Hid (Below w.heap.size w w0) := by show Below _ _ _; rw [hw0]; exact below_alloc2 w _ _
  have HX0 : Hid (Lies w0 w.heap.size 24 #[Value.slice A h.objs.length c, Value.int .i64 h.cap, Value.int .i64 h.last]) := by show Lies _ _ _ _; rw [hw0]; exact ((Lies.new w _ _).alloc _)
  have HK0 : Hid (Lies w0 (w.heap.size + 1) 24 #[.slice none 0 0, .int .i64 0, .int .i64 0]) := by
    show Lies _ _ _ _
    have := (Lies.new (w.alloc (.cells #[Value.slice A h.objs.length c, Value.int .i64 h.cap, Value.int .i64 h.last] 24)) 24 #[.slice none 0 0, .int .i64 0, .int .i64 0])
    rw [hw0]
    simpa [Hid] using this
  have HSZ0 : Hid (w.heap.size + 2 ≤ w0.heap.size) := by show _ ≤ _; rw [hw0]; simp
  have HS := hid hs
  have HF := hid fit
  have HMOD := hid hmod
  have HSA := hid hsa
  have HNA := hid hna
  clear hs fit hmod hsa hna
  go_enter Tryz.func29, Tryz.ntmps29
  go_upto_region 1 with fail
  rw [← hw0]
  clear hw0
  obtain ⟨x0, x1, x2⟩ := HX0.out.c3
  obtain ⟨M, hM⟩ : ∃ M, M = (mt12 h m).1 := ⟨_, rfl⟩
  obtain ⟨em, hem⟩ : ∃ e, e = (mt12 h m).2 := ⟨_, rfl⟩
  have HMM := hid hM
  have HEM := hid hem
  clear hM hem
  go_wp2_with fail
  refine (cmeth_any12 h m A c _ (HS.out.below HB0.out) HF.out).mono ?_
  rintro e w1 ⟨CA, cc, LA, lc, rfl, -, -, hb, -, -⟩
  rw [← HMM.out, ← HEM.out]
  have HB1 := hid (then_w HB0.out hb)
  have HX1 := hid (HX0.out.later hb)
  have HK1 := hid (HK0.out.later hb)
  have HWZ1 : Hid (w0.heap.size ≤ w1.heap.size) := hb.size
  clear hb x0 x1 x2 HX0 HB0 HK0
  go_upto_region 2 with fail
  obtain ⟨w2, hw2⟩ : ∃ x, x = w1.alloc (.cells #[.int .i64 M.prim, .int .i64 M.args, .int .i64 M.temps, .slice CA M.code.length cc, .slice LA M.lits.length lc] 32) := ⟨_, rfl⟩
  obtain ⟨bm, hbm⟩ : ∃ x, x = w1.heap.size := ⟨_, rfl⟩
  have LM2 : Hid (Lies w2 bm 32 #[.int .i64 M.prim, .int .i64 M.args, .int .i64 M.temps, .slice CA M.code.length cc, .slice LA M.lits.length lc]) := by show Lies _ _ _ _; rw [hw2, hbm]; exact Lies.new _ _ _
  have HB12 : Hid (Below w1.heap.size w1 w2) := by show Below _ _ _; rw [hw2]; exact below_alloc _ _
  rw [← hw2, ← hbm]
  have HWZ2 : Hid (w0.heap.size ≤ w2.heap.size) := Nat.le_trans HWZ1.out HB12.out.size
  have HB2 := hid (then_w HB1.out HB12.out)
  have HX2 := hid (HX1.out.later HB12.out)
  have HK2 := hid (HK1.out.later HB12.out)
  clear hw2 hbm HB12 HB1 HX1 HK1
  by_cases he : em = 0
  case neg =>
    have he2 : em = 120 := by
      have h1 := HEM.out
      rw [h1, mt_no12 (by rw [← h1]; exact he)]
    have HE0 : Hid ((mt12 h m).2 ≠ 0) := by show _ ≠ _; rw [← HEM.out]; exact he
    subst he2
    have HRR : Hid (nn12 h sd m rc hm args = (h, 0, 120)) := by show _ = _; unfold nn12; rw [if_pos (.inl HE0.out)]
    clear he
    obtain ⟨x0, x1, x2⟩ := HX2.out.c3
    go_wp2_with fail
    refine (pclone_h12 h A c _ (HS.out.below HB2.out) HMOD.out).mono ?_
    rintro e w9 ⟨A9, c9, l9, rfl, hl9, ho9, hb⟩
    have HB9 := hid (then_w HB2.out hb)
    have HK9 := hid (HK2.out.later hb)
    have HO9 := hid ho9
    have HL9 := hid hl9
    have HLOW : Hid (w0.heap.size ≤ w2.heap.size) := HWZ2
    clear hb ho9 hl9 x0 x1 x2
    obtain ⟨u0, u1, u2⟩ := HK9.out.c3
    obtain ⟨uf0, uf1, uf2⟩ := HK9.out.f3
    go_wp2_with fail
    obtain ⟨r0, r1, r2⟩ := HK9.out.s3 (.slice A9 h.objs.length c9) (.int .i64 h.cap) (.int .i64 h.last)
    refine bodyPost_ret (v := .tuple #[.agg #[.slice A9 h.objs.length c9, .int .i64 h.cap, .int .i64 h.last], .int .i64 0, .int .i64 120]) (by simp [results, Tryz.results29, go_sem, r0, r1, r2]) rfl ?_
    have HBE := below_s3 (g := w.heap.size + 1) HB9.out (by simp) (.slice A9 h.objs.length c9) (.int .i64 h.cap) (.int .i64 h.last)
    have hlow : w.heap.size + 1 < w2.heap.size := by have := HSZ0.out; have := HLOW.out; omega
    rw [HRR.out]
    exact ⟨A9, c9, _, rfl, HL9.out, (((HO9.out.low (p := ⟨w.heap.size + 1, 0, none⟩) hlow _).low (p := ⟨w.heap.size + 1, 1, none⟩) hlow _).low (p := ⟨w.heap.size + 1, 2, none⟩) hlow _).lower (by omega), HBE⟩
  subst he
  obtain ⟨m0, m1, m2, m3, m4⟩ := LM2.out.c5
  by_cases hla : (args.length : Int) = M.args
  case neg =>
    have hlaB : ((args.length : Int) != M.args) = true := bne_iff_ne.2 hla
    have HRR : Hid (nn12 h sd m rc hm args = (h, 0, 120)) := by show _ = _; unfold nn12; rw [if_pos (.inr (by rw [← HMM.out]; exact hla))]
    obtain ⟨x0, x1, x2⟩ := HX2.out.c3
    go_wp2_with fail
    refine (pclone_h12 h A c _ (HS.out.below HB2.out) HMOD.out).mono ?_
    rintro e w9 ⟨A9, c9, l9, rfl, hl9, ho9, hb⟩
    have HB9 := hid (then_w HB2.out hb)
    have HK9 := hid (HK2.out.later hb)
    have HO9 := hid ho9
    have HL9 := hid hl9
    have HLOW : Hid (w0.heap.size ≤ w2.heap.size) := HWZ2
    clear hb ho9 hl9 x0 x1 x2
    obtain ⟨u0, u1, u2⟩ := HK9.out.c3
    obtain ⟨uf0, uf1, uf2⟩ := HK9.out.f3
    go_wp2_with fail
    obtain ⟨r0, r1, r2⟩ := HK9.out.s3 (.slice A9 h.objs.length c9) (.int .i64 h.cap) (.int .i64 h.last)
    refine bodyPost_ret (v := .tuple #[.agg #[.slice A9 h.objs.length c9, .int .i64 h.cap, .int .i64 h.last], .int .i64 0, .int .i64 120]) (by simp [results, Tryz.results29, go_sem, r0, r1, r2]) rfl ?_
    have HBE := below_s3 (g := w.heap.size + 1) HB9.out (by simp) (.slice A9 h.objs.length c9) (.int .i64 h.cap) (.int .i64 h.last)
    have hlow : w.heap.size + 1 < w2.heap.size := by have := HSZ0.out; have := HLOW.out; omega
    rw [HRR.out]
    exact ⟨A9, c9, _, rfl, HL9.out, (((HO9.out.low (p := ⟨w.heap.size + 1, 0, none⟩) hlow _).low (p := ⟨w.heap.size + 1, 1, none⟩) hlow _).low (p := ⟨w.heap.size + 1, 2, none⟩) hlow _).lower (by omega), HBE⟩
  have hlaB : ((args.length : Int) != M.args) = false := by rw [hla]; simp
  have HC1 : Hid (¬ ((mt12 h m).2 ≠ 0 ∨ (args.length : Int) ≠ (mt12 h m).1.args)) := by show ¬ _; rw [← HEM.out, ← HMM.out, hla]; simp
  have HLA := hid hla
  obtain ⟨x0, x1, x2⟩ := HX2.out.c3
  obtain ⟨rs, hrs⟩ : ∃ r, r = refB h.objs.length sd := ⟨_, rfl⟩
  have RS := hid hrs
  clear hrs
  obtain ⟨rh, hrh⟩ : ∃ r, r = refB h.objs.length hm := ⟨_, rfl⟩
  have RH := hid hrh
  clear hrh
  obtain ⟨rv, hrv⟩ : ∃ r, r = hasB h.objs.length rc := ⟨_, rfl⟩
  have RV := hid hrv
  clear hrv
  obtain ⟨ra, hra⟩ : ∃ r, r = args.all (hasB h.objs.length) := ⟨_, rfl⟩
  have RA := hid hra
  clear hra
  go_wp2_with fail
  refine (pisref_any12 h sd A c _).mono ?_
  rintro e w3 ⟨rfl, hb⟩
  rw [← RS.out]
  have HB3 := hid (then_w HB2.out hb)
  have HX3 := hid (HX2.out.later hb)
  have HK3 := hid (HK2.out.later hb)
  have LM3 := hid (LM2.out.later hb)
  have HWZ3 : Hid (w0.heap.size ≤ w3.heap.size) := Nat.le_trans HWZ2.out hb.size
  clear hb x0 x1 x2 m0 m1 m2 m3 m4
  cases rs
  next =>
   have HRR : Hid (nn12 h sd m rc hm args = (h, 0, 31)) := by show _ = _; unfold nn12; rw [if_neg HC1.out, if_pos (.inl RS.out.symm)]
   obtain ⟨x0, x1, x2⟩ := HX3.out.c3
   go_wp2_with fail
   refine (pclone_h12 h A c _ (HS.out.below HB3.out) HMOD.out).mono ?_
   rintro e w9 ⟨A9, c9, l9, rfl, hl9, ho9, hb⟩
   have HB9 := hid (then_w HB3.out hb)
   have HK9 := hid (HK3.out.later hb)
   have HO9 := hid ho9
   have HL9 := hid hl9
   have HLOW : Hid (w0.heap.size ≤ w3.heap.size) := HWZ3
   clear hb ho9 hl9 x0 x1 x2
   obtain ⟨u0, u1, u2⟩ := HK9.out.c3
   obtain ⟨uf0, uf1, uf2⟩ := HK9.out.f3
   go_wp2_with fail
   obtain ⟨r0, r1, r2⟩ := HK9.out.s3 (.slice A9 h.objs.length c9) (.int .i64 h.cap) (.int .i64 h.last)
   refine bodyPost_ret (v := .tuple #[.agg #[.slice A9 h.objs.length c9, .int .i64 h.cap, .int .i64 h.last], .int .i64 0, .int .i64 31]) (by simp [results, Tryz.results29, go_sem, r0, r1, r2]) rfl ?_
   have HBE := below_s3 (g := w.heap.size + 1) HB9.out (by simp) (.slice A9 h.objs.length c9) (.int .i64 h.cap) (.int .i64 h.last)
   have hlow : w.heap.size + 1 < w3.heap.size := by have := HSZ0.out; have := HLOW.out; omega
   rw [HRR.out]
   exact ⟨A9, c9, _, rfl, HL9.out, (((HO9.out.low (p := ⟨w.heap.size + 1, 0, none⟩) hlow _).low (p := ⟨w.heap.size + 1, 1, none⟩) hlow _).low (p := ⟨w.heap.size + 1, 2, none⟩) hlow _).lower (by omega), HBE⟩
  obtain ⟨x0, x1, x2⟩ := HX3.out.c3
  go_wp2_with fail
  refine (pisref_any12 h hm A c _).mono ?_
  rintro e w4 ⟨rfl, hb⟩
  rw [← RH.out]
  have HB4 := hid (then_w HB3.out hb)
  have HX4 := hid (HX3.out.later hb)
  have HK4 := hid (HK3.out.later hb)
  have LM4 := hid (LM3.out.later hb)
  have HWZ4 : Hid (w0.heap.size ≤ w4.heap.size) := Nat.le_trans HWZ3.out hb.size
  clear hb x0 x1 x2
  cases rh
  next =>
   have HRR : Hid (nn12 h sd m rc hm args = (h, 0, 31)) := by show _ = _; unfold nn12; rw [if_neg HC1.out, if_pos (.inr (.inl RH.out.symm))]
   obtain ⟨x0, x1, x2⟩ := HX4.out.c3
   go_wp2_with fail
   refine (pclone_h12 h A c _ (HS.out.below HB4.out) HMOD.out).mono ?_
   rintro e w9 ⟨A9, c9, l9, rfl, hl9, ho9, hb⟩
   have HB9 := hid (then_w HB4.out hb)
   have HK9 := hid (HK4.out.later hb)
   have HO9 := hid ho9
   have HL9 := hid hl9
   have HLOW : Hid (w0.heap.size ≤ w4.heap.size) := HWZ4
   clear hb ho9 hl9 x0 x1 x2
   obtain ⟨u0, u1, u2⟩ := HK9.out.c3
   obtain ⟨uf0, uf1, uf2⟩ := HK9.out.f3
   go_wp2_with fail
   obtain ⟨r0, r1, r2⟩ := HK9.out.s3 (.slice A9 h.objs.length c9) (.int .i64 h.cap) (.int .i64 h.last)
   refine bodyPost_ret (v := .tuple #[.agg #[.slice A9 h.objs.length c9, .int .i64 h.cap, .int .i64 h.last], .int .i64 0, .int .i64 31]) (by simp [results, Tryz.results29, go_sem, r0, r1, r2]) rfl ?_
   have HBE := below_s3 (g := w.heap.size + 1) HB9.out (by simp) (.slice A9 h.objs.length c9) (.int .i64 h.cap) (.int .i64 h.last)
   have hlow : w.heap.size + 1 < w4.heap.size := by have := HSZ0.out; have := HLOW.out; omega
   rw [HRR.out]
   exact ⟨A9, c9, _, rfl, HL9.out, (((HO9.out.low (p := ⟨w.heap.size + 1, 0, none⟩) hlow _).low (p := ⟨w.heap.size + 1, 1, none⟩) hlow _).low (p := ⟨w.heap.size + 1, 2, none⟩) hlow _).lower (by omega), HBE⟩
  have BX4 : Hid (BoxH w4 w.heap.size h A c) := by have z := HX4.out; exact ⟨z.cell 0, z.cell 1, z.cell 2⟩
  go_wp2_with fail
  refine (pno_any12 h rc A c w.heap.size _ BX4.out).mono ?_
  rintro e w5 ⟨rfl, hb⟩
  rw [← RV.out]
  have HB5 := hid (then_w HB4.out hb)
  have HX5 := hid (HX4.out.later hb)
  have HK5 := hid (HK4.out.later hb)
  have LM5 := hid (LM4.out.later hb)
  have HWZ5 : Hid (w0.heap.size ≤ w5.heap.size) := Nat.le_trans HWZ4.out hb.size
  clear hb
  cases rv
  next =>
   have HRR : Hid (nn12 h sd m rc hm args = (h, 0, 31)) := by show _ = _; unfold nn12; rw [if_neg HC1.out, if_pos (.inr (.inr (.inl RV.out.symm)))]
   obtain ⟨x0, x1, x2⟩ := HX5.out.c3
   go_wp2_with fail
   refine (pclone_h12 h A c _ (HS.out.below HB5.out) HMOD.out).mono ?_
   rintro e w9 ⟨A9, c9, l9, rfl, hl9, ho9, hb⟩
   have HB9 := hid (then_w HB5.out hb)
   have HK9 := hid (HK5.out.later hb)
   have HO9 := hid ho9
   have HL9 := hid hl9
   have HLOW : Hid (w0.heap.size ≤ w5.heap.size) := HWZ5
   clear hb ho9 hl9 x0 x1 x2
   obtain ⟨u0, u1, u2⟩ := HK9.out.c3
   obtain ⟨uf0, uf1, uf2⟩ := HK9.out.f3
   go_wp2_with fail
   obtain ⟨r0, r1, r2⟩ := HK9.out.s3 (.slice A9 h.objs.length c9) (.int .i64 h.cap) (.int .i64 h.last)
   refine bodyPost_ret (v := .tuple #[.agg #[.slice A9 h.objs.length c9, .int .i64 h.cap, .int .i64 h.last], .int .i64 0, .int .i64 31]) (by simp [results, Tryz.results29, go_sem, r0, r1, r2]) rfl ?_
   have HBE := below_s3 (g := w.heap.size + 1) HB9.out (by simp) (.slice A9 h.objs.length c9) (.int .i64 h.cap) (.int .i64 h.last)
   have hlow : w.heap.size + 1 < w5.heap.size := by have := HSZ0.out; have := HLOW.out; omega
   rw [HRR.out]
   exact ⟨A9, c9, _, rfl, HL9.out, (((HO9.out.low (p := ⟨w.heap.size + 1, 0, none⟩) hlow _).low (p := ⟨w.heap.size + 1, 1, none⟩) hlow _).low (p := ⟨w.heap.size + 1, 2, none⟩) hlow _).lower (by omega), HBE⟩
  have BX5 : Hid (BoxH w5 w.heap.size h A c) := by have z := HX5.out; exact ⟨z.cell 0, z.cell 1, z.cell 2⟩
  go_wp2_with fail
  refine (pcon_any12 h A c w.heap.size SA args da _ BX5.out HX5.out.lt (HSA.out.below HB5.out) (by have := HNA.out; omega)).mono ?_
  rintro e w6 ⟨rfl, hb⟩
  rw [← RA.out]
  have HB6 := hid (then_w HB5.out hb)
  have HX6 := hid (HX5.out.later hb)
  have HK6 := hid (HK5.out.later hb)
  have LM6 := hid (LM5.out.later hb)
  have HWZ6 : Hid (w0.heap.size ≤ w6.heap.size) := Nat.le_trans HWZ5.out hb.size
  clear hb
  cases ra
  next =>
   have HRR : Hid (nn12 h sd m rc hm args = (h, 0, 31)) := by show _ = _; unfold nn12; rw [if_neg HC1.out, if_pos (.inr (.inr (.inr RA.out.symm)))]
   obtain ⟨x0, x1, x2⟩ := HX6.out.c3
   go_wp2_with fail
   refine (pclone_h12 h A c _ (HS.out.below HB6.out) HMOD.out).mono ?_
   rintro e w9 ⟨A9, c9, l9, rfl, hl9, ho9, hb⟩
   have HB9 := hid (then_w HB6.out hb)
   have HK9 := hid (HK6.out.later hb)
   have HO9 := hid ho9
   have HL9 := hid hl9
   have HLOW : Hid (w0.heap.size ≤ w6.heap.size) := HWZ6
   clear hb ho9 hl9 x0 x1 x2
   obtain ⟨u0, u1, u2⟩ := HK9.out.c3
   obtain ⟨uf0, uf1, uf2⟩ := HK9.out.f3
   go_wp2_with fail
   obtain ⟨r0, r1, r2⟩ := HK9.out.s3 (.slice A9 h.objs.length c9) (.int .i64 h.cap) (.int .i64 h.last)
   refine bodyPost_ret (v := .tuple #[.agg #[.slice A9 h.objs.length c9, .int .i64 h.cap, .int .i64 h.last], .int .i64 0, .int .i64 31]) (by simp [results, Tryz.results29, go_sem, r0, r1, r2]) rfl ?_
   have HBE := below_s3 (g := w.heap.size + 1) HB9.out (by simp) (.slice A9 h.objs.length c9) (.int .i64 h.cap) (.int .i64 h.last)
   have hlow : w.heap.size + 1 < w6.heap.size := by have := HSZ0.out; have := HLOW.out; omega
   rw [HRR.out]
   exact ⟨A9, c9, _, rfl, HL9.out, (((HO9.out.low (p := ⟨w.heap.size + 1, 0, none⟩) hlow _).low (p := ⟨w.heap.size + 1, 1, none⟩) hlow _).low (p := ⟨w.heap.size + 1, 2, none⟩) hlow _).lower (by omega), HBE⟩
  have HC2 : Hid (¬ (refB h.objs.length sd = false ∨ refB h.objs.length hm = false ∨ hasB h.objs.length rc = false ∨ args.all (hasB h.objs.length) = false)) := by
    show ¬ _
    rw [← RS.out, ← RH.out, ← RV.out, ← RA.out]; simp
  obtain ⟨gA, hgA⟩ : ∃ g, g = alR h 12 0 22 := ⟨_, rfl⟩
  obtain ⟨vA, hvA⟩ : ∃ g, g = alV h 12 0 22 := ⟨_, rfl⟩
  obtain ⟨eA, heA⟩ : ∃ g, g = roE h 12 0 22 := ⟨_, rfl⟩
  have HGA := hid hgA
  have HVA := hid hvA
  have HEA := hid heA
  clear hgA hvA heA HB2 HB3 HB4 HB5 HX2 HX3 HX4 HX5 HK2 HK3 HK4 HK5 LM2 LM3 LM4 LM5 BX4 BX5
  obtain ⟨x0, x1, x2⟩ := HX6.out.c3
  go_upto_region 10 with fail
  go_cut [16, 18, 19] from 63 to 69 (fun y p z wx => ∃ bx Ag cg lg, y = .int .i64 eA ∧ p = .pointer (some ⟨bx, 0, none⟩) ∧ z = .int .i64 vA ∧ Hid (Lies wx bx 24 #[.slice Ag gA.objs.length cg, .int .i64 gA.cap, .int .i64 gA.last]) ∧ Hid (Below w6.heap.size w6 wx) ∧ Hid (OwnH wx w6.heap.size Ag cg lg) ∧ Hid (lg.map (·.o) = gA.objs))
  case first =>
    have BB0 := hid ((Below.refl w6.heap.size w6).drew)
    have z0 := cell_later BB0.out x0
    have z1 := cell_later BB0.out x1
    have z2 := cell_later BB0.out x2
    refine wp_region_held_drew (S := (fun w' => w'.cell? ⟨w.heap.size, 0, none⟩ = some (.slice A h.objs.length c) ∧ w'.cell? ⟨w.heap.size, 1, none⟩ = some (.int .i64 h.cap) ∧ w'.cell? ⟨w.heap.size, 2, none⟩ = some (.int .i64 h.last))) (by kernel_rfl) ?_ (fun hH0 => ?_)
    next =>
     exact ⟨cell_later BB0.out x0, cell_later BB0.out x1, cell_later BB0.out x2⟩
    refine tkI 0 ⟨some 64, .load 24 (.tmp 6), 24, "frame.go:62", #[], none⟩ ?v35 rfl (by kernel_rfl) (by rfl) ?y35 ?_
    case y35 => intro w hSw; (try dsimp only at hSw); go_simp; all_goals with_reducible rfl
    try simp only [apt12]
    refine wpAnyH_ready (rs := [1, 7]) (by kernel_rfl) (by simp) ?_
    refine AllReadyH.cons (i := 1) (o := ⟨some 65, .call { callee := .value (.func 54), args := #[.const (Go.Value.int .i64 6)], argTypes := #[3] }, 3, "frame.go:62", #[], none⟩) rfl (fun K hK => ?_) (AllReadyH.cons (i := 7) (o := ⟨some 18, .alloc 24, 0, "frame.go:62", #[], none⟩) rfl (fun K hK => ?_) AllReadyH.nil)
    next =>
     go_simp
     go_at_call 54
     refine (pref_any12 6 _).mono ?_
     rintro e wr ⟨rfl, hwr⟩
     subst hwr
     rw [show reV 6 = 12 by decide]
     refine hK.out _ _ ?_ (fun hH1 => ?_)
     next =>
      exact hH0
     clear hK K
     try simp only [apt12]
     refine wpAnyH_ready (rs := [2, 7]) (by kernel_rfl) (by simp) ?_
     refine AllReadyH.cons (i := 2) (o := ⟨some 66, .call { callee := .value (.func 58), args := #[.tmp 64, .tmp 65, .const (Go.Value.int .i64 0), .const (Go.Value.int .i64 22)], argTypes := #[24, 3, 3, 3] }, 47, "frame.go:62", #[⟨0, .data⟩, ⟨1, .data⟩, ⟨1, .chain⟩], none⟩) rfl (fun K hK => ?_) (AllReadyH.cons (i := 7) (o := ⟨some 18, .alloc 24, 0, "frame.go:62", #[], none⟩) rfl (fun K hK => ?_) AllReadyH.nil)
     next =>
      go_simp
      go_at_call 58
      refine (alloc_any h 12 0 22 A c _ (HS.out.below (then_w HB6.out BB0.out)) HF.out).mono ?_
      rintro e u2 ⟨Ag, cg, lg, rfl, hlg, hog, hb⟩
      rw [← HGA.out] at hlg
      rw [← HGA.out, ← HVA.out, ← HEA.out]
      have BB2 := hid (then_w BB0.out hb)
      have HLG := hid hlg
      have OG2 := hid (hog.lower BB0.out.size)
      refine hK.out _ _ ?_ (fun hH2 => ?_)
      next =>
       exact ⟨cell_later BB2.out x0, cell_later BB2.out x1, cell_later BB2.out x2⟩
      clear hK K
      try simp only [apt12]
      clear hb hlg hog
      refine tkI 3 ⟨some 63, .move (.tmp 66), 47, "frame.go:62", #[⟨2, .data⟩], none⟩ ?v36 rfl (by kernel_rfl) (by rfl) ?y36 ?_
      case y36 => intro w hSw; (try dsimp only at hSw); go_simp; all_goals with_reducible rfl
      try simp only [apt12]
      refine tkI 4 ⟨some 67, .extract (.tmp 63) 0, 24, "frame.go:62", #[⟨3, .data⟩], none⟩ ?v37 rfl (by kernel_rfl) (by rfl) ?y37 ?_
      case y37 => intro w hSw; (try dsimp only at hSw); go_simp; all_goals with_reducible rfl
      try simp only [apt12]
      refine tkI 5 ⟨some 68, .extract (.tmp 63) 1, 3, "frame.go:62", #[⟨3, .data⟩, ⟨8, .gcOnly .lateStores⟩], none⟩ ?v38 rfl (by kernel_rfl) (by rfl) ?y38 ?_
      case y38 => intro w hSw; (try dsimp only at hSw); go_simp; all_goals with_reducible rfl
      try simp only [apt12]
      refine tkI 6 ⟨some 69, .extract (.tmp 63) 2, 33, "frame.go:62", #[⟨3, .data⟩, ⟨9, .gcOnly .lateStores⟩], none⟩ ?v39 rfl (by kernel_rfl) (by rfl) ?y39 ?_
      case y39 => intro w hSw; (try dsimp only at hSw); go_simp; all_goals with_reducible rfl
      try simp only [apt12]
      refine wpAnyH_ready (rs := [7]) (by kernel_rfl) (by simp) ?_
      refine AllReadyH.cons (i := 7) (o := ⟨some 18, .alloc 24, 0, "frame.go:62", #[], none⟩) rfl (fun K hK => ?_) AllReadyH.nil
      go_simp
      obtain ⟨u3, hu⟩ : ∃ x, x = u2.alloc (.cells #[.slice none 0 0, .int .i64 0, .int .i64 0] 24) := ⟨_, rfl⟩
      obtain ⟨bx, hg⟩ : ∃ x, x = u2.heap.size := ⟨_, rfl⟩
      have hb : Below u2.heap.size u2 u3 := by rw [hu]; exact below_alloc u2 _
      have HX9 : Hid (w6.heap.size ≤ bx) := by show _ ≤ _; rw [hg]; exact BB2.out.size
      have LB3 := hid (show Lies u3 bx 24 #[.slice none 0 0, .int .i64 0, .int .i64 0] by rw [hu, hg]; exact Lies.new u2 _ _)
      have BB3 := hid (then_w BB2.out hb)
      have OG3 := hid (OG2.out.later hb)
      try simp only [← hg]
      try rw [← hu]
      refine hK.out _ _ ?_ (fun hH3 => ?_)
      next =>
       exact ⟨cell_later BB3.out x0, cell_later BB3.out x1, cell_later BB3.out x2⟩
      clear hK K
      try simp only [apt12]
      clear hb hu hg
      refine wpAnyH_ready (rs := [8]) (by kernel_rfl) (by simp) ?_
      refine AllReadyH.cons (i := 8) (o := ⟨none, .store 24 (.tmp 18) (.tmp 67), 0, "frame.go:62", #[⟨7, .data⟩, ⟨4, .data⟩, ⟨2, .chain⟩, ⟨0, .phase⟩, ⟨1, .phase⟩, ⟨2, .phase⟩, ⟨3, .phase⟩, ⟨4, .phase⟩, ⟨5, .textOnly .lateStores⟩, ⟨6, .textOnly .lateStores⟩, ⟨7, .phase⟩], none⟩) rfl (fun K hK => ?_) AllReadyH.nil
      obtain ⟨r0, r1, r2⟩ := LB3.out.c3
      obtain ⟨rf0, rf1, rf2⟩ := LB3.out.f3
      have BB4 := hid ((((BB3.out).setCell (p := ⟨bx, 0, none⟩) HX9.out (.slice Ag gA.objs.length cg)).setCell (p := ⟨bx, 1, none⟩) HX9.out (.int .i64 gA.cap)).setCell (p := ⟨bx, 2, none⟩) HX9.out (.int .i64 gA.last))
      have LF : Hid (Lies (((u3.setCell ⟨bx, 0, none⟩ (.slice Ag gA.objs.length cg)).setCell ⟨bx, 1, none⟩ (.int .i64 gA.cap)).setCell ⟨bx, 2, none⟩ (.int .i64 gA.last)) bx 24 #[.slice Ag gA.objs.length cg, .int .i64 gA.cap, .int .i64 gA.last]) := by
        show Lies _ _ _ _
        exact (((LB3.out.set_ 0 (.slice Ag gA.objs.length cg)).set_ 1 (.int .i64 gA.cap)).set_ 2 (.int .i64 gA.last))
      have OF : Hid (OwnH (((u3.setCell ⟨bx, 0, none⟩ (.slice Ag gA.objs.length cg)).setCell ⟨bx, 1, none⟩ (.int .i64 gA.cap)).setCell ⟨bx, 2, none⟩ (.int .i64 gA.last)) w6.heap.size Ag cg lg) := by
        show OwnH _ _ _ _ _
        exact (((OG3.out.off LB3.out 0 (.slice Ag gA.objs.length cg)).off (LB3.out.set_ 0 (.slice Ag gA.objs.length cg)) 1 (.int .i64 gA.cap)).off ((LB3.out.set_ 0 (.slice Ag gA.objs.length cg)).set_ 1 (.int .i64 gA.cap)) 2 (.int .i64 gA.last))
      go_simp
      refine hK.out _ _ ?_ (fun hH4 => ?_)
      next =>
       exact ⟨cell_later BB4.out x0, cell_later BB4.out x1, cell_later BB4.out x2⟩
      clear hK K
      try simp only [apt12]
      clear r0 r1 r2 rf0 rf1 rf2
      refine tkI 9 ⟨some 19, .assign (.tmp 68), 3, "frame.go:62", #[⟨5, .data⟩, ⟨8, .chain⟩, ⟨0, .phase⟩, ⟨1, .phase⟩, ⟨2, .phase⟩, ⟨3, .phase⟩, ⟨4, .phase⟩, ⟨5, .phase⟩, ⟨6, .textOnly .lateStores⟩, ⟨7, .phase⟩, ⟨8, .phase⟩], none⟩ ?v40 rfl (by kernel_rfl) (by rfl) ?y40 ?_
      case y40 => intro w hSw; (try dsimp only at hSw); go_simp; all_goals with_reducible rfl
      try simp only [apt12]
      refine tkI 10 ⟨some 16, .assign (.tmp 69), 33, "frame.go:62", #[⟨6, .data⟩, ⟨9, .chain⟩, ⟨0, .phase⟩, ⟨1, .phase⟩, ⟨2, .phase⟩, ⟨3, .phase⟩, ⟨4, .phase⟩, ⟨5, .phase⟩, ⟨6, .phase⟩, ⟨7, .phase⟩, ⟨8, .phase⟩, ⟨9, .phase⟩], none⟩ ?v41 rfl (by kernel_rfl) (by rfl) ?y41 ?_
      case y41 => intro w hSw; (try dsimp only at hSw); go_simp; all_goals with_reducible rfl
      try simp only [apt12]
      refine wpAnyH_done (by kernel_rfl) ?_ _
      go_wp2_with fail
      go_meet
      exact ⟨bx, Ag, cg, lg, rfl, rfl, rfl, LF, BB4, OF, HLG⟩
     next =>
      go_simp
      obtain ⟨u2, hu⟩ : ∃ x, x = (w6.alloc (.cells #[.slice none 0 0, .int .i64 0, .int .i64 0] 24)).drew := ⟨_, rfl⟩
      obtain ⟨bx, hg⟩ : ∃ x, x = w6.heap.size := ⟨_, rfl⟩
      have hb : Below w6.drew.heap.size w6.drew u2 := by rw [hu]; exact below_alloc w6.drew _
      have HX9 : Hid (w6.heap.size ≤ bx) := by show _ ≤ _; rw [hg]; exact BB0.out.size
      have LB2 := hid (show Lies u2 bx 24 #[.slice none 0 0, .int .i64 0, .int .i64 0] by rw [hu, hg]; exact Lies.new w6.drew _ _)
      have BB2 := hid (then_w BB0.out hb)
      try simp only [← hg]
      try rw [← hu]
      refine hK.out _ _ ?_ (fun hH2 => ?_)
      next =>
       exact ⟨cell_later BB2.out x0, cell_later BB2.out x1, cell_later BB2.out x2⟩
      clear hK K
      try simp only [apt12]
      clear hb hu hg
      refine wpAnyH_ready (rs := [2]) (by kernel_rfl) (by simp) ?_
      refine AllReadyH.cons (i := 2) (o := ⟨some 66, .call { callee := .value (.func 58), args := #[.tmp 64, .tmp 65, .const (Go.Value.int .i64 0), .const (Go.Value.int .i64 22)], argTypes := #[24, 3, 3, 3] }, 47, "frame.go:62", #[⟨0, .data⟩, ⟨1, .data⟩, ⟨1, .chain⟩], none⟩) rfl (fun K hK => ?_) AllReadyH.nil
      go_simp
      go_at_call 58
      refine (alloc_any h 12 0 22 A c _ (HS.out.below (then_w HB6.out BB2.out)) HF.out).mono ?_
      rintro e u3 ⟨Ag, cg, lg, rfl, hlg, hog, hb⟩
      rw [← HGA.out] at hlg
      rw [← HGA.out, ← HVA.out, ← HEA.out]
      have BB3 := hid (then_w BB2.out hb)
      have HLG := hid hlg
      have OG3 := hid (hog.lower BB2.out.size)
      have LB3 := hid (LB2.out.later hb)
      refine hK.out _ _ ?_ (fun hH3 => ?_)
      next =>
       exact ⟨cell_later BB3.out x0, cell_later BB3.out x1, cell_later BB3.out x2⟩
      clear hK K
      try simp only [apt12]
      clear hb hlg hog
      refine tkI 3 ⟨some 63, .move (.tmp 66), 47, "frame.go:62", #[⟨2, .data⟩], none⟩ ?v42 rfl (by kernel_rfl) (by rfl) ?y42 ?_
      case y42 => intro w hSw; (try dsimp only at hSw); go_simp; all_goals with_reducible rfl
      try simp only [apt12]
      refine tkI 4 ⟨some 67, .extract (.tmp 63) 0, 24, "frame.go:62", #[⟨3, .data⟩], none⟩ ?v43 rfl (by kernel_rfl) (by rfl) ?y43 ?_
      case y43 => intro w hSw; (try dsimp only at hSw); go_simp; all_goals with_reducible rfl
      try simp only [apt12]
      refine tkI 5 ⟨some 68, .extract (.tmp 63) 1, 3, "frame.go:62", #[⟨3, .data⟩, ⟨8, .gcOnly .lateStores⟩], none⟩ ?v44 rfl (by kernel_rfl) (by rfl) ?y44 ?_
      case y44 => intro w hSw; (try dsimp only at hSw); go_simp; all_goals with_reducible rfl
      try simp only [apt12]
      refine tkI 6 ⟨some 69, .extract (.tmp 63) 2, 33, "frame.go:62", #[⟨3, .data⟩, ⟨9, .gcOnly .lateStores⟩], none⟩ ?v45 rfl (by kernel_rfl) (by rfl) ?y45 ?_
      case y45 => intro w hSw; (try dsimp only at hSw); go_simp; all_goals with_reducible rfl
      try simp only [apt12]
      refine wpAnyH_ready (rs := [8]) (by kernel_rfl) (by simp) ?_
      refine AllReadyH.cons (i := 8) (o := ⟨none, .store 24 (.tmp 18) (.tmp 67), 0, "frame.go:62", #[⟨7, .data⟩, ⟨4, .data⟩, ⟨2, .chain⟩, ⟨0, .phase⟩, ⟨1, .phase⟩, ⟨2, .phase⟩, ⟨3, .phase⟩, ⟨4, .phase⟩, ⟨5, .textOnly .lateStores⟩, ⟨6, .textOnly .lateStores⟩, ⟨7, .phase⟩], none⟩) rfl (fun K hK => ?_) AllReadyH.nil
      obtain ⟨r0, r1, r2⟩ := LB3.out.c3
      obtain ⟨rf0, rf1, rf2⟩ := LB3.out.f3
      have BB4 := hid ((((BB3.out).setCell (p := ⟨bx, 0, none⟩) HX9.out (.slice Ag gA.objs.length cg)).setCell (p := ⟨bx, 1, none⟩) HX9.out (.int .i64 gA.cap)).setCell (p := ⟨bx, 2, none⟩) HX9.out (.int .i64 gA.last))
      have LF : Hid (Lies (((u3.setCell ⟨bx, 0, none⟩ (.slice Ag gA.objs.length cg)).setCell ⟨bx, 1, none⟩ (.int .i64 gA.cap)).setCell ⟨bx, 2, none⟩ (.int .i64 gA.last)) bx 24 #[.slice Ag gA.objs.length cg, .int .i64 gA.cap, .int .i64 gA.last]) := by
        show Lies _ _ _ _
        exact (((LB3.out.set_ 0 (.slice Ag gA.objs.length cg)).set_ 1 (.int .i64 gA.cap)).set_ 2 (.int .i64 gA.last))
      have OF : Hid (OwnH (((u3.setCell ⟨bx, 0, none⟩ (.slice Ag gA.objs.length cg)).setCell ⟨bx, 1, none⟩ (.int .i64 gA.cap)).setCell ⟨bx, 2, none⟩ (.int .i64 gA.last)) w6.heap.size Ag cg lg) := by
        show OwnH _ _ _ _ _
        exact (((OG3.out.off LB3.out 0 (.slice Ag gA.objs.length cg)).off (LB3.out.set_ 0 (.slice Ag gA.objs.length cg)) 1 (.int .i64 gA.cap)).off ((LB3.out.set_ 0 (.slice Ag gA.objs.length cg)).set_ 1 (.int .i64 gA.cap)) 2 (.int .i64 gA.last))
      go_simp
      refine hK.out _ _ ?_ (fun hH4 => ?_)
      next =>
       exact ⟨cell_later BB4.out x0, cell_later BB4.out x1, cell_later BB4.out x2⟩
      clear hK K
      try simp only [apt12]
      clear r0 r1 r2 rf0 rf1 rf2
      refine tkI 9 ⟨some 19, .assign (.tmp 68), 3, "frame.go:62", #[⟨5, .data⟩, ⟨8, .chain⟩, ⟨0, .phase⟩, ⟨1, .phase⟩, ⟨2, .phase⟩, ⟨3, .phase⟩, ⟨4, .phase⟩, ⟨5, .phase⟩, ⟨6, .textOnly .lateStores⟩, ⟨7, .phase⟩, ⟨8, .phase⟩], none⟩ ?v46 rfl (by kernel_rfl) (by rfl) ?y46 ?_
      case y46 => intro w hSw; (try dsimp only at hSw); go_simp; all_goals with_reducible rfl
      try simp only [apt12]
      refine tkI 10 ⟨some 16, .assign (.tmp 69), 33, "frame.go:62", #[⟨6, .data⟩, ⟨9, .chain⟩, ⟨0, .phase⟩, ⟨1, .phase⟩, ⟨2, .phase⟩, ⟨3, .phase⟩, ⟨4, .phase⟩, ⟨5, .phase⟩, ⟨6, .phase⟩, ⟨7, .phase⟩, ⟨8, .phase⟩, ⟨9, .phase⟩], none⟩ ?v47 rfl (by kernel_rfl) (by rfl) ?y47 ?_
      case y47 => intro w hSw; (try dsimp only at hSw); go_simp; all_goals with_reducible rfl
      try simp only [apt12]
      refine wpAnyH_done (by kernel_rfl) ?_ _
      go_wp2_with fail
      go_meet
      exact ⟨bx, Ag, cg, lg, rfl, rfl, rfl, LF, BB4, OF, HLG⟩
    next =>
     go_simp
     obtain ⟨u1, hu⟩ : ∃ x, x = (w6.alloc (.cells #[.slice none 0 0, .int .i64 0, .int .i64 0] 24)).drew := ⟨_, rfl⟩
     obtain ⟨bx, hg⟩ : ∃ x, x = w6.heap.size := ⟨_, rfl⟩
     have hb : Below w6.drew.heap.size w6.drew u1 := by rw [hu]; exact below_alloc w6.drew _
     have HX9 : Hid (w6.heap.size ≤ bx) := by show _ ≤ _; rw [hg]; exact BB0.out.size
     have LB1 := hid (show Lies u1 bx 24 #[.slice none 0 0, .int .i64 0, .int .i64 0] by rw [hu, hg]; exact Lies.new w6.drew _ _)
     have BB1 := hid (then_w BB0.out hb)
     try simp only [← hg]
     try rw [← hu]
     refine hK.out _ _ ?_ (fun hH1 => ?_)
     next =>
      exact ⟨cell_later BB1.out x0, cell_later BB1.out x1, cell_later BB1.out x2⟩
     clear hK K
     try simp only [apt12]
     clear hb hu hg
     refine wpAnyH_ready (rs := [1]) (by kernel_rfl) (by simp) ?_
     refine AllReadyH.cons (i := 1) (o := ⟨some 65, .call { callee := .value (.func 54), args := #[.const (Go.Value.int .i64 6)], argTypes := #[3] }, 3, "frame.go:62", #[], none⟩) rfl (fun K hK => ?_) AllReadyH.nil
     go_simp
     go_at_call 54
     refine (pref_any12 6 _).mono ?_
     rintro e wr ⟨rfl, hwr⟩
     subst hwr
     rw [show reV 6 = 12 by decide]
     refine hK.out _ _ ?_ (fun hH2 => ?_)
     next =>
      exact hH1
     clear hK K
     try simp only [apt12]
     refine wpAnyH_ready (rs := [2]) (by kernel_rfl) (by simp) ?_
     refine AllReadyH.cons (i := 2) (o := ⟨some 66, .call { callee := .value (.func 58), args := #[.tmp 64, .tmp 65, .const (Go.Value.int .i64 0), .const (Go.Value.int .i64 22)], argTypes := #[24, 3, 3, 3] }, 47, "frame.go:62", #[⟨0, .data⟩, ⟨1, .data⟩, ⟨1, .chain⟩], none⟩) rfl (fun K hK => ?_) AllReadyH.nil
     go_simp
     go_at_call 58
     refine (alloc_any h 12 0 22 A c _ (HS.out.below (then_w HB6.out BB1.out)) HF.out).mono ?_
     rintro e u3 ⟨Ag, cg, lg, rfl, hlg, hog, hb⟩
     rw [← HGA.out] at hlg
     rw [← HGA.out, ← HVA.out, ← HEA.out]
     have BB3 := hid (then_w BB1.out hb)
     have HLG := hid hlg
     have OG3 := hid (hog.lower BB1.out.size)
     have LB3 := hid (LB1.out.later hb)
     refine hK.out _ _ ?_ (fun hH3 => ?_)
     next =>
      exact ⟨cell_later BB3.out x0, cell_later BB3.out x1, cell_later BB3.out x2⟩
     clear hK K
     try simp only [apt12]
     clear hb hlg hog
     refine tkI 3 ⟨some 63, .move (.tmp 66), 47, "frame.go:62", #[⟨2, .data⟩], none⟩ ?v48 rfl (by kernel_rfl) (by rfl) ?y48 ?_
     case y48 => intro w hSw; (try dsimp only at hSw); go_simp; all_goals with_reducible rfl
     try simp only [apt12]
     refine tkI 4 ⟨some 67, .extract (.tmp 63) 0, 24, "frame.go:62", #[⟨3, .data⟩], none⟩ ?v49 rfl (by kernel_rfl) (by rfl) ?y49 ?_
     case y49 => intro w hSw; (try dsimp only at hSw); go_simp; all_goals with_reducible rfl
     try simp only [apt12]
     refine tkI 5 ⟨some 68, .extract (.tmp 63) 1, 3, "frame.go:62", #[⟨3, .data⟩, ⟨8, .gcOnly .lateStores⟩], none⟩ ?v50 rfl (by kernel_rfl) (by rfl) ?y50 ?_
     case y50 => intro w hSw; (try dsimp only at hSw); go_simp; all_goals with_reducible rfl
     try simp only [apt12]
     refine tkI 6 ⟨some 69, .extract (.tmp 63) 2, 33, "frame.go:62", #[⟨3, .data⟩, ⟨9, .gcOnly .lateStores⟩], none⟩ ?v51 rfl (by kernel_rfl) (by rfl) ?y51 ?_
     case y51 => intro w hSw; (try dsimp only at hSw); go_simp; all_goals with_reducible rfl
     try simp only [apt12]
     refine wpAnyH_ready (rs := [8]) (by kernel_rfl) (by simp) ?_
     refine AllReadyH.cons (i := 8) (o := ⟨none, .store 24 (.tmp 18) (.tmp 67), 0, "frame.go:62", #[⟨7, .data⟩, ⟨4, .data⟩, ⟨2, .chain⟩, ⟨0, .phase⟩, ⟨1, .phase⟩, ⟨2, .phase⟩, ⟨3, .phase⟩, ⟨4, .phase⟩, ⟨5, .textOnly .lateStores⟩, ⟨6, .textOnly .lateStores⟩, ⟨7, .phase⟩], none⟩) rfl (fun K hK => ?_) AllReadyH.nil
     obtain ⟨r0, r1, r2⟩ := LB3.out.c3
     obtain ⟨rf0, rf1, rf2⟩ := LB3.out.f3
     have BB4 := hid ((((BB3.out).setCell (p := ⟨bx, 0, none⟩) HX9.out (.slice Ag gA.objs.length cg)).setCell (p := ⟨bx, 1, none⟩) HX9.out (.int .i64 gA.cap)).setCell (p := ⟨bx, 2, none⟩) HX9.out (.int .i64 gA.last))
     have LF : Hid (Lies (((u3.setCell ⟨bx, 0, none⟩ (.slice Ag gA.objs.length cg)).setCell ⟨bx, 1, none⟩ (.int .i64 gA.cap)).setCell ⟨bx, 2, none⟩ (.int .i64 gA.last)) bx 24 #[.slice Ag gA.objs.length cg, .int .i64 gA.cap, .int .i64 gA.last]) := by
       show Lies _ _ _ _
       exact (((LB3.out.set_ 0 (.slice Ag gA.objs.length cg)).set_ 1 (.int .i64 gA.cap)).set_ 2 (.int .i64 gA.last))
     have OF : Hid (OwnH (((u3.setCell ⟨bx, 0, none⟩ (.slice Ag gA.objs.length cg)).setCell ⟨bx, 1, none⟩ (.int .i64 gA.cap)).setCell ⟨bx, 2, none⟩ (.int .i64 gA.last)) w6.heap.size Ag cg lg) := by
       show OwnH _ _ _ _ _
       exact (((OG3.out.off LB3.out 0 (.slice Ag gA.objs.length cg)).off (LB3.out.set_ 0 (.slice Ag gA.objs.length cg)) 1 (.int .i64 gA.cap)).off ((LB3.out.set_ 0 (.slice Ag gA.objs.length cg)).set_ 1 (.int .i64 gA.cap)) 2 (.int .i64 gA.last))
     go_simp
     refine hK.out _ _ ?_ (fun hH4 => ?_)
     next =>
      exact ⟨cell_later BB4.out x0, cell_later BB4.out x1, cell_later BB4.out x2⟩
     clear hK K
     try simp only [apt12]
     clear r0 r1 r2 rf0 rf1 rf2
     refine tkI 9 ⟨some 19, .assign (.tmp 68), 3, "frame.go:62", #[⟨5, .data⟩, ⟨8, .chain⟩, ⟨0, .phase⟩, ⟨1, .phase⟩, ⟨2, .phase⟩, ⟨3, .phase⟩, ⟨4, .phase⟩, ⟨5, .phase⟩, ⟨6, .textOnly .lateStores⟩, ⟨7, .phase⟩, ⟨8, .phase⟩], none⟩ ?v52 rfl (by kernel_rfl) (by rfl) ?y52 ?_
     case y52 => intro w hSw; (try dsimp only at hSw); go_simp; all_goals with_reducible rfl
     try simp only [apt12]
     refine tkI 10 ⟨some 16, .assign (.tmp 69), 33, "frame.go:62", #[⟨6, .data⟩, ⟨9, .chain⟩, ⟨0, .phase⟩, ⟨1, .phase⟩, ⟨2, .phase⟩, ⟨3, .phase⟩, ⟨4, .phase⟩, ⟨5, .phase⟩, ⟨6, .phase⟩, ⟨7, .phase⟩, ⟨8, .phase⟩, ⟨9, .phase⟩], none⟩ ?v53 rfl (by kernel_rfl) (by rfl) ?y53 ?_
     case y53 => intro w hSw; (try dsimp only at hSw); go_simp; all_goals with_reducible rfl
     try simp only [apt12]
     refine wpAnyH_done (by kernel_rfl) ?_ _
     go_wp2_with fail
     go_meet
     exact ⟨bx, Ag, cg, lg, rfl, rfl, rfl, LF, BB4, OF, HLG⟩
  case rest =>
    rename World => w7
    obtain ⟨bx, Ag, cg, lg, rfl, rfl, rfl, LF, BF, OF, HLG⟩ := hcut
    have HB7 := hid (then_w HB6.out BF.out)
    have HX7 := hid (HX6.out.below BF.out HX6.out.lt)
    have HK7 := hid (HK6.out.below BF.out HK6.out.lt)
    have LM7 := hid (LM6.out.below BF.out LM6.out.lt)
    have HWZ7 : Hid (w0.heap.size ≤ w7.heap.size) := Nat.le_trans HWZ6.out BF.out.size
    have HLT6 : Hid (w.heap.size + 1 < w6.heap.size ∧ bm < w6.heap.size) := ⟨by have := HSZ0.out; have := HWZ6.out; omega, LM6.out.lt⟩
    clear x0 x1 x2 BF HB6 HX6 HK6 LM6
    by_cases hea : eA = 0
    case neg =>
      have heB : (eA != 0) = true := bne_iff_ne.2 hea
      have HRR : Hid (nn12 h sd m rc hm args = (h, 0, eA)) := by show _ = _; unfold nn12; rw [if_neg HC1.out, if_neg HC2.out, if_pos (by rw [← HEA.out]; exact hea), ← HEA.out]
      obtain ⟨x0, x1, x2⟩ := HX7.out.c3
      go_wp2_with fail
      refine (pclone_h12 h A c _ (HS.out.below HB7.out) HMOD.out).mono ?_
      rintro e w9 ⟨A9, c9, l9, rfl, hl9, ho9, hb⟩
      have HB9 := hid (then_w HB7.out hb)
      have HK9 := hid (HK7.out.later hb)
      have HO9 := hid ho9
      have HL9 := hid hl9
      have HLOW : Hid (w0.heap.size ≤ w7.heap.size) := HWZ7
      clear hb ho9 hl9 x0 x1 x2
      obtain ⟨u0, u1, u2⟩ := HK9.out.c3
      obtain ⟨uf0, uf1, uf2⟩ := HK9.out.f3
      go_wp2_with fail
      obtain ⟨r0, r1, r2⟩ := HK9.out.s3 (.slice A9 h.objs.length c9) (.int .i64 h.cap) (.int .i64 h.last)
      refine bodyPost_ret (v := .tuple #[.agg #[.slice A9 h.objs.length c9, .int .i64 h.cap, .int .i64 h.last], .int .i64 0, .int .i64 eA]) (by simp [results, Tryz.results29, go_sem, r0, r1, r2]) rfl ?_
      have HBE := below_s3 (g := w.heap.size + 1) HB9.out (by simp) (.slice A9 h.objs.length c9) (.int .i64 h.cap) (.int .i64 h.last)
      have hlow : w.heap.size + 1 < w7.heap.size := by have := HSZ0.out; have := HLOW.out; omega
      rw [HRR.out]
      exact ⟨A9, c9, _, rfl, HL9.out, (((HO9.out.low (p := ⟨w.heap.size + 1, 0, none⟩) hlow _).low (p := ⟨w.heap.size + 1, 1, none⟩) hlow _).low (p := ⟨w.heap.size + 1, 2, none⟩) hlow _).lower (by omega), HBE⟩
    subst hea
    have HRO : Hid (roE h 12 0 22 = 0) := HEA.out.symm
    have HG1 : Hid (gA = alH h 12 0 22) := by show _ = _; rw [HGA.out]; unfold alR; rw [if_pos HRO.out]
    have HV1 : Hid (vA = 2 * (h.objs.length : Int)) := by show _ = _; rw [HVA.out]; unfold alV; rw [if_pos HRO.out]
    have HGL : Hid (gA.objs.length = h.objs.length + 1) := by show _ = _; rw [HG1.out]; simp [alH]
    have HLEN : Hid (lg.length = h.objs.length + 1) := by
      show _ = _
      have := congrArg List.length HLG.out
      rw [HGL.out] at this
      simpa using this
    have hin : h.objs.length < lg.length := by rw [HLEN.out]; omega
    have hli : lg[h.objs.length]? = some lg[h.objs.length] := List.getElem?_eq_getElem hin
    obtain ⟨l, hl⟩ : ∃ l, l = lg[h.objs.length] := ⟨_, rfl⟩
    rw [← hl] at hli
    have hlo : l.o = newO h 12 0 22 := by
      have := congrArg (fun t => t[h.objs.length]?) HLG.out
      rw [HG1.out] at this
      simp only [List.getElem?_map, hli, Option.map_some, alH] at this
      rw [List.getElem?_append_right (Nat.le_refl _), Nat.sub_self] at this
      exact Option.some.inj this
    have hsl : l.o.slots = List.replicate 22 0 := by rw [hlo]; rfl
    have hsl22 : l.o.slots.length = 22 := by rw [hsl]; simp
    obtain ⟨gr, cr, hvv, hg0, hg1⟩ := OF.out.row.form (by omega)
    simp only [Value.slice.injEq, true_and] at hvv
    obtain ⟨hag, hcg⟩ := hvv
    subst hag hcg
    obtain ⟨gs, cs, hvs, hs0, hs1⟩ := (OF.out.ints _ _ hli).form (by rw [hsl22]; decide)
    simp only [Value.slice.injEq, true_and] at hvs
    obtain ⟨hS, hC⟩ := hvs
    have q2 := (OF.out.row.cellAt (h.objs.length * 6 + 2) (by omega)).trans (rowOf_get lg h.objs.length 2 _ hli (by omega))
    simp only [LO.cells, List.getElem?_cons_zero, List.getElem?_cons_succ] at q2
    rw [hS, hsl22] at q2
    have hI := OF.out.ints _ _ hli
    rw [hS] at hI
    have hcap := own_cap hI
    rw [hsl22] at hcap
    have HCAP := hid hcap
    have HSS := hid hS
    have HLI := hid hli
    have HLO := hid hlo
    have HSL := hid hsl
    have HS22 := hid hsl22
    have HS01 : Hid (w6.heap.size ≤ gs ∧ gs < w7.heap.size) := ⟨hs0, hs1⟩
    have hiI : (h.objs.length : Int) < (gA.objs.length : Int) := by rw [HGL.out]; omega
    have hi0 : (0 : Int) ≤ (h.objs.length : Int) := by omega
    have hiN : h.objs.length < gA.objs.length := by rw [HGL.out]; omega
    clear hI hcap hS hC hli hl hlo hsl hsl22 hs0 hs1 hg0 hg1 hin
    have bne7 : gs ≠ bx := fun e => by
      have h1 := OF.out.ints _ _ HLI.out
      rw [HSS.out] at h1
      obtain ⟨cur, hcur, -⟩ := own_blk h1
      exact lies_ne hcur LF.out (by decide) e
    obtain ⟨x0, x1, x2⟩ := HX7.out.c3
    go_wp2_with fail
    refine (pref_any12 0 _).mono ?_
    rintro e wr ⟨rfl, hwr⟩
    subst hwr
    rw [show reV 0 = 0 by decide]
    clear x0 x1 x2
    by_cases hh : hm = 0
    case pos =>
      subst hh
      have HHV : Hid ((if (0 : Int) = 0 then vA else 0) = vA) := if_pos rfl
      obtain ⟨x0, x1, x2⟩ := HX7.out.c3
      obtain ⟨l0, l1, l2⟩ := LF.out.c3
      obtain ⟨m0, m1, m2, m3, m4⟩ := LM7.out.c5
      obtain ⟨t1, ht1⟩ : ∃ x, x = M.temps := ⟨_, rfl⟩
      have HT1 := hid ht1
      rw [← ht1] at m2
      have htb : 0 ≤ t1 ∧ t1 ≤ 16 := by
        rw [ht1, HMM.out]
        obtain ⟨z1, z2⟩ := mt_ok12 HEM.out.symm
        refine ⟨mt_temps12, ?_⟩
        rw [z2]
        have := sm_bd12 (v := sl12 h m 2) (most := 8)
        show sm12 (sl12 h m 2) 8 ≤ 16
        omega
      obtain ⟨y1v, hyv⟩ : ∃ x, x = 2 * t1 + 1 := ⟨_, rfl⟩
      have HYV : Hid (inV12 t1 = y1v) := by show _ = _; rw [inV_in12 htb.1 (by omega), hyv]
      have HY1 := hid hyv
      clear ht1 htb hyv
      go_upto_region 16 with fail
      refine wp_region_held_drew (S := (fun w' => w'.cell? ⟨bm, 2, none⟩ = some (.int .i64 t1) ∧ w'.cell? ⟨bx, 0, none⟩ = some (.slice (some ⟨gr, 0, none⟩) gA.objs.length cg))) (by kernel_rfl) ?_ (fun hH0 => ?_)
      next =>
       exact ⟨cell_later (Below.refl w7.heap.size w7).drew m2, cell_later (Below.refl w7.heap.size w7).drew l0⟩
      refine tkI 0 ⟨some 87, .move (.tmp 20), 30, "frame.go:70", #[], none⟩ ?v54 rfl (by kernel_rfl) (by rfl) ?y54 ?_
      case y54 => intro w hSw; (try dsimp only at hSw); go_simp; all_goals with_reducible rfl
      try simp only [apt12]
      refine tkI 1 ⟨some 88, .move (.tmp 1), 3, "frame.go:70", #[], none⟩ ?v55 rfl (by kernel_rfl) (by rfl) ?y55 ?_
      case y55 => intro w hSw; (try dsimp only at hSw); go_simp; all_goals with_reducible rfl
      try simp only [apt12]
      refine tkI 2 ⟨some 89, .build 81 #[(0, .const (Go.Value.int .i64 0)), (1, .tmp 88)], 81, "frame.go:70", #[⟨1, .data⟩], none⟩ ?v56 rfl (by kernel_rfl) (by rfl) ?y56 ?_
      case y56 => intro w hSw; (try dsimp only at hSw); go_simp; all_goals with_reducible rfl
      try simp only [apt12]
      refine tkI 5 ⟨some 92, .fieldAddr 32 (.tmp 15) 2, 0, "frame.go:70", #[], none⟩ ?v57 rfl (by kernel_rfl) (by rfl) ?y57 ?_
      case y57 => intro w hSw; (try dsimp only at hSw); go_simp; all_goals with_reducible rfl
      try simp only [apt12]
      refine tkI 6 ⟨some 93, .load 3 (.tmp 92), 3, "frame.go:70", #[⟨5, .data⟩], none⟩ ?v58 rfl (by kernel_rfl) (by rfl) ?y58 ?_
      case y58 => intro w hSw; (try dsimp only at hSw); go_simp; all_goals with_reducible rfl
      try simp only [apt12]
      refine tkI 9 ⟨some 96, .move (.tmp 2), 3, "frame.go:70", #[], none⟩ ?v59 rfl (by kernel_rfl) (by rfl) ?y59 ?_
      case y59 => intro w hSw; (try dsimp only at hSw); go_simp; all_goals with_reducible rfl
      try simp only [apt12]
      refine tkI 10 ⟨some 97, .build 81 #[(0, .const (Go.Value.int .i64 3)), (1, .tmp 96)], 81, "frame.go:70", #[⟨9, .data⟩], none⟩ ?v60 rfl (by kernel_rfl) (by rfl) ?y60 ?_
      case y60 => intro w hSw; (try dsimp only at hSw); go_simp; all_goals with_reducible rfl
      try simp only [apt12]
      refine tkI 11 ⟨some 98, .move (.tmp 3), 3, "frame.go:70", #[], none⟩ ?v61 rfl (by kernel_rfl) (by rfl) ?y61 ?_
      case y61 => intro w hSw; (try dsimp only at hSw); go_simp; all_goals with_reducible rfl
      try simp only [apt12]
      refine tkI 12 ⟨some 99, .build 81 #[(0, .const (Go.Value.int .i64 4)), (1, .tmp 98)], 81, "frame.go:70", #[⟨11, .data⟩], none⟩ ?v62 rfl (by kernel_rfl) (by rfl) ?y62 ?_
      case y62 => intro w hSw; (try dsimp only at hSw); go_simp; all_goals with_reducible rfl
      try simp only [apt12]
      refine tkI 13 ⟨some 100, .move (.tmp 4), 3, "frame.go:70", #[], none⟩ ?v63 rfl (by kernel_rfl) (by rfl) ?y63 ?_
      case y63 => intro w hSw; (try dsimp only at hSw); go_simp; all_goals with_reducible rfl
      try simp only [apt12]
      refine tkI 14 ⟨some 101, .build 81 #[(0, .const (Go.Value.int .i64 5)), (1, .tmp 100)], 81, "frame.go:70", #[⟨13, .data⟩], none⟩ ?v64 rfl (by kernel_rfl) (by rfl) ?y64 ?_
      case y64 => intro w hSw; (try dsimp only at hSw); go_simp; all_goals with_reducible rfl
      try simp only [apt12]
      refine wpAnyH_ready (rs := [3]) (by kernel_rfl) (by simp) ?_
      refine AllReadyH.cons (i := 3) (o := ⟨some 90, .call { callee := .value (.func 51), args := #[.const (Go.Value.int .i64 0)], argTypes := #[3] }, 3, "frame.go:72", #[], none⟩) rfl (fun K hK => ?_) AllReadyH.nil
      go_simp
      go_at_call 51
      refine (psmall_any12 0 _).mono ?_
      rintro e wr ⟨rfl, hwr⟩
      subst hwr
      rw [show inV12 0 = 1 by decide]
      refine hK.out _ _ ?_ (fun hH1 => ?_)
      next =>
       exact hH0
      clear hK K
      try simp only [apt12]
      refine tkI 4 ⟨some 91, .build 81 #[(0, .const (Go.Value.int .i64 1)), (1, .tmp 90)], 81, "frame.go:70", #[⟨3, .data⟩], none⟩ ?v65 rfl (by kernel_rfl) (by rfl) ?y65 ?_
      case y65 => intro w hSw; (try dsimp only at hSw); go_simp; all_goals with_reducible rfl
      try simp only [apt12]
      refine wpAnyH_ready (rs := [7]) (by kernel_rfl) (by simp) ?_
      refine AllReadyH.cons (i := 7) (o := ⟨some 94, .call { callee := .value (.func 51), args := #[.tmp 93], argTypes := #[3] }, 3, "frame.go:73", #[⟨6, .data⟩, ⟨3, .chain⟩], none⟩) rfl (fun K hK => ?_) AllReadyH.nil
      go_simp
      go_at_call 51
      refine (psmall_any12 t1 _).mono ?_
      rintro e wr ⟨rfl, hwr⟩
      subst hwr
      rw [HYV.out]
      refine hK.out _ _ ?_ (fun hH2 => ?_)
      next =>
       exact hH1
      clear hK K
      try simp only [apt12]
      refine tkI 8 ⟨some 95, .build 81 #[(0, .const (Go.Value.int .i64 2)), (1, .tmp 94)], 81, "frame.go:70", #[⟨7, .data⟩], none⟩ ?v66 rfl (by kernel_rfl) (by rfl) ?y66 ?_
      case y66 => intro w hSw; (try dsimp only at hSw); go_simp; all_goals with_reducible rfl
      try simp only [apt12]
      refine wpAnyH_ready (rs := [15]) (by kernel_rfl) (by simp) ?_
      refine AllReadyH.cons (i := 15) (o := ⟨some 102, .buildSlice 100 6 #[(0, .tmp 89), (1, .tmp 91), (2, .tmp 95), (3, .tmp 97), (4, .tmp 99), (5, .tmp 101)], 100, "frame.go:70", #[⟨2, .data⟩, ⟨4, .data⟩, ⟨8, .data⟩, ⟨10, .data⟩, ⟨12, .data⟩, ⟨14, .data⟩], none⟩) rfl (fun K hK => ?_) AllReadyH.nil
      go_simp
      obtain ⟨uB, huB⟩ : ∃ x, x = (w7.alloc (.cells #[.int .i64 0, .int .i64 sd, .int .i64 1, .int .i64 1, .int .i64 2, .int .i64 y1v, .int .i64 3, .int .i64 m, .int .i64 4, .int .i64 rc, .int .i64 5, .int .i64 vA] 81)).drew := ⟨_, rfl⟩
      obtain ⟨bB, hbB⟩ : ∃ x, x = w7.heap.size := ⟨_, rfl⟩
      have LB : Hid (Lies uB bB 81 (enC12 [((0 : Nat), sd), (1, 1), (2, y1v), (3, m), (4, rc), (5, vA)]).toArray) := by show Lies _ _ _ _; rw [huB, hbB]; exact (Lies.new w7 81 #[.int .i64 0, .int .i64 sd, .int .i64 1, .int .i64 1, .int .i64 2, .int .i64 y1v, .int .i64 3, .int .i64 m, .int .i64 4, .int .i64 rc, .int .i64 5, .int .i64 vA]).drew
      have HBB : Hid (Below w7.heap.size w7 uB) := by show Below _ _ _; rw [huB]; exact (below_alloc _ _).drew
      try simp only [← hbB]
      try rw [← huB]
      clear huB hbB
      refine hK.out _ _ ?_ (fun hH3 => ?_)
      next =>
       exact ⟨cell_later HBB.out m2, cell_later HBB.out l0⟩
      clear hK K
      try simp only [apt12]
      refine wpAnyH_ready (rs := [16]) (by kernel_rfl) (by simp) ?_
      refine AllReadyH.cons (i := 16) (o := ⟨some 103, .call { callee := .value (.func 59), args := #[.tmp 87, .tmp 102], argTypes := #[30, 100] }, 0, "frame.go:70", #[⟨0, .data⟩, ⟨15, .data⟩, ⟨7, .chain⟩], none⟩) rfl (fun K hK => ?_) AllReadyH.nil
      go_simp
      go_at_call 59
      refine (pwrite_any12 _ w6.heap.size _ _ lg h.objs.length l gs [((0 : Nat), sd), (1, 1), (2, y1v), (3, m), (4, rc), (5, vA)] bB 6 22 (OF.out.later HBB.out) HLI.out HSS.out LB.out (by rw [HS22.out]; simp) HS22.out.symm (by simp)).mono ?_
      rintro e w8 ⟨rfl, hown8, hgr⟩
      have HO8 := hid hown8
      have HGR : Hid (uB.grownBy w8 (some gs)) := hgr
      have HB8 : Hid (Below w.heap.size w w8) := (then_w HB7.out HBB.out).grown hgr (then_w HB7.out HBB.out).size (fun k e => by injection e with e; have := HS01.out.1; have := HLT6.out.1; omega)
      have LF8 := hid ((LF.out.later HBB.out).grown hgr (by intro e; injection e with e; exact bne7 e.symm))
      have HK8 := hid ((HK7.out.later HBB.out).grown hgr (by intro e; injection e with e; have := HS01.out.1; have := HLT6.out.1; omega))
      refine hK.out _ _ ?_ (fun hH4 => ?_)
      next =>
       exact ⟨(HGR.out.cell_far _ (Nat.lt_of_lt_of_le LM7.out.lt HBB.out.size) (by intro e; injection e with e; have e : bm = gs := e; have := HS01.out.1; have := HLT6.out.2; omega)).trans (cell_later HBB.out m2), (HGR.out.cell_far _ (Nat.lt_of_lt_of_le LF.out.lt HBB.out.size) (by intro e; injection e with e; exact bne7 (show bx = gs from e).symm)).trans (cell_later HBB.out l0)⟩
      clear hK K
      try simp only [apt12]
      clear hown8 hgr
      refine wpAnyH_done (by kernel_rfl) ?_ _
      clear m0 m1 m2 m3 m4 l0 l1 l2 x0 x1 x2 q2
      have hd6 : ¬ l.c = 6 := by have := HCAP.out; omega
      have hget8 := upd_get12 HLI.out (wr12 [((0 : Nat), sd), (1, 1), (2, y1v), (3, m), (4, rc), (5, vA)] l.o.slots)
      have hI8 := HO8.out.ints _ _ hget8
      rw [HSS.out] at hI8
      have hlen8 : (wr12 [((0 : Nat), sd), (1, 1), (2, y1v), (3, m), (4, rc), (5, vA)] l.o.slots).length = 22 := by rw [wr_len12, HS22.out]
      rcases hI8.2 with ⟨hz, -⟩ | ⟨gq, capq, cur, hz, -, hcur, hq1, -, hq2, -⟩
      next =>
       cases hz
      injection hz with hz1 hz2 hz3
      injection hz1 with hz1
      injection hz1 with hz1
      subst hz1
      have hcs : 22 ≤ cur.size := by rw [hq2, ← hlen8]; simpa using hq1
      have HCUR := hid hcur
      have HCS := hid hcs
      clear hI8 hget8 hlen8 hcur hcs hq1 hq2 hz2 hz3
      have HSA8 := hid (HSA.out.below HB8.out)
      have HAL : Hid (args.length ≤ 4) := by
        show _ ≤ _
        obtain ⟨z1, z2⟩ := mt_ok12 HEM.out.symm
        have h1 := HLA.out
        rw [HMM.out, z2] at h1
        have := sm_bd12 (v := sl12 h m 1) (most := 4)
        have h2 : (args.length : Int) = sm12 (sl12 h m 1) 4 := h1
        omega
      have hcopy := run_copy12 (w := w8) gs 6 (l.c - 6) SA da args (by have := HAL.out; omega) cur HCUR.out HSA8.out HCS.out
      go_upto_region 18 with fail
      clear hcopy
      obtain ⟨hown9, hgr9⟩ := own_sets12 HLI.out HSS.out args 6 _ _ HO8.out
      obtain ⟨w9, hw9⟩ : ∃ x, x = setsC12 w8 gs 6 (args.map (.int .i64)) := ⟨_, rfl⟩
      rw [← hw9] at hown9 hgr9 ⊢
      have HO9 := hid hown9
      have HB9 : Hid (Below w.heap.size w w9) := HB8.out.grown hgr9 HB8.out.size (fun k e => by injection e with e; have := HS01.out.1; have := HLT6.out.1; omega)
      have LF9 := hid (LF8.out.grown hgr9 (by intro e; injection e with e; exact bne7 e.symm))
      have HK9 := hid (HK8.out.grown hgr9 (by intro e; injection e with e; have := HS01.out.1; have := HLT6.out.1; omega))
      clear hw9 hown9 hgr9
      obtain ⟨g9, hg9⟩ : ∃ x, x = nh12 h (setsL12 6 args (wr12 [((0 : Nat), sd), (1, 1), (2, y1v), (3, m), (4, rc), (5, vA)] l.o.slots)) := ⟨_, rfl⟩
      have HG9 := hid hg9
      have HL9 : Hid ((upd12 lg h.objs.length l (setsL12 6 args (wr12 [((0 : Nat), sd), (1, 1), (2, y1v), (3, m), (4, rc), (5, vA)] l.o.slots))).map (·.o) = g9.objs) := by
        show List.map _ _ = _
        rw [hg9]
        unfold upd12 nh12
        rw [List.map_set, HLG.out, HG1.out]
        show (h.objs ++ [newO h 12 0 22]).set h.objs.length { l.o with slots := _ } = _
        rw [HLO.out, List.set_append, if_neg (Nat.lt_irrefl _), Nat.sub_self]
        rfl
      have hc0 : gA.cap = g9.cap := by rw [hg9, HG1.out]; rfl
      have hc1 : gA.last = g9.last := by rw [hg9, HG1.out]; rfl
      have hc2 : gA.objs.length = g9.objs.length := by rw [hg9, HGL.out]; unfold nh12; simp
      have HLOW : Hid (w0.heap.size ≤ w6.heap.size) := HWZ6
      rw [hc0, hc1, hc2] at LF9
      clear hg9 hc0 hc1 hc2
      have HRR : Hid (nn12 h sd m rc 0 args = (g9, vA, 0)) := by
        show _ = _
        unfold nn12
        rw [if_neg HC1.out, if_neg HC2.out, if_neg (by rw [HRO.out]; decide), HG9.out, HSL.out, ← HMM.out, ← HT1.out, ← HV1.out]
        have e1 : wr12 [((0 : Nat), sd), (1, 1), (2, y1v), (3, m), (4, rc), (5, vA)] (List.replicate 22 0) = [sd, 1, y1v, m, rc, vA] ++ List.replicate 16 0 := rfl
        have e2 := setsL_is12 args [sd, 1, y1v, m, rc, vA] (List.replicate 16 0) (by have := HAL.out; simp; omega)
        rw [e1, show (6 : Nat) = [sd, 1, y1v, m, rc, vA].length from rfl, e2, List.drop_replicate, HY1.out, if_pos (rfl : (0 : Int) = 0)]
        rfl
      obtain ⟨l0, l1, l2⟩ := LF9.out.c3
      obtain ⟨u0, u1, u2⟩ := HK9.out.c3
      obtain ⟨uf0, uf1, uf2⟩ := HK9.out.f3
      go_wp2_with fail
      obtain ⟨r0, r1, r2⟩ := HK9.out.s3 (.slice (some ⟨gr, 0, none⟩) g9.objs.length cg) (.int .i64 g9.cap) (.int .i64 g9.last)
      refine bodyPost_ret (v := .tuple #[.agg #[.slice (some ⟨gr, 0, none⟩) g9.objs.length cg, .int .i64 g9.cap, .int .i64 g9.last], .int .i64 vA, .int .i64 0]) (by simp [results, Tryz.results29, go_sem, r0, r1, r2]) rfl ?_
      have HBE := below_s3 (g := w.heap.size + 1) HB9.out (by simp) (.slice (some ⟨gr, 0, none⟩) g9.objs.length cg) (.int .i64 g9.cap) (.int .i64 g9.last)
      have hlow : w.heap.size + 1 < w6.heap.size := by have := HSZ0.out; have := HLOW.out; omega
      rw [HRR.out]
      exact ⟨(some ⟨gr, 0, none⟩), cg, _, rfl, HL9.out, (((HO9.out.low (p := ⟨w.heap.size + 1, 0, none⟩) hlow _).low (p := ⟨w.heap.size + 1, 1, none⟩) hlow _).low (p := ⟨w.heap.size + 1, 2, none⟩) hlow _).lower (by omega), HBE⟩
    have hhB : (hm == 0) = false := beq_eq_false_iff_ne.2 hh
    have HHV : Hid ((if hm = 0 then vA else hm) = hm) := if_neg hh
    obtain ⟨x0, x1, x2⟩ := HX7.out.c3
    obtain ⟨l0, l1, l2⟩ := LF.out.c3
    obtain ⟨m0, m1, m2, m3, m4⟩ := LM7.out.c5
    obtain ⟨t1, ht1⟩ : ∃ x, x = M.temps := ⟨_, rfl⟩
    have HT1 := hid ht1
    rw [← ht1] at m2
    have htb : 0 ≤ t1 ∧ t1 ≤ 16 := by
      rw [ht1, HMM.out]
      obtain ⟨z1, z2⟩ := mt_ok12 HEM.out.symm
      refine ⟨mt_temps12, ?_⟩
      rw [z2]
      have := sm_bd12 (v := sl12 h m 2) (most := 8)
      show sm12 (sl12 h m 2) 8 ≤ 16
      omega
    obtain ⟨y1v, hyv⟩ : ∃ x, x = 2 * t1 + 1 := ⟨_, rfl⟩
    have HYV : Hid (inV12 t1 = y1v) := by show _ = _; rw [inV_in12 htb.1 (by omega), hyv]
    have HY1 := hid hyv
    clear ht1 htb hyv
    go_upto_region 16 with fail
    refine wp_region_held_drew (S := (fun w' => w'.cell? ⟨bm, 2, none⟩ = some (.int .i64 t1) ∧ w'.cell? ⟨bx, 0, none⟩ = some (.slice (some ⟨gr, 0, none⟩) gA.objs.length cg))) (by kernel_rfl) ?_ (fun hH0 => ?_)
    next =>
     exact ⟨cell_later (Below.refl w7.heap.size w7).drew m2, cell_later (Below.refl w7.heap.size w7).drew l0⟩
    refine tkI 0 ⟨some 87, .move (.tmp 20), 30, "frame.go:70", #[], none⟩ ?v67 rfl (by kernel_rfl) (by rfl) ?y67 ?_
    case y67 => intro w hSw; (try dsimp only at hSw); go_simp; all_goals with_reducible rfl
    try simp only [apt12]
    refine tkI 1 ⟨some 88, .move (.tmp 1), 3, "frame.go:70", #[], none⟩ ?v68 rfl (by kernel_rfl) (by rfl) ?y68 ?_
    case y68 => intro w hSw; (try dsimp only at hSw); go_simp; all_goals with_reducible rfl
    try simp only [apt12]
    refine tkI 2 ⟨some 89, .build 81 #[(0, .const (Go.Value.int .i64 0)), (1, .tmp 88)], 81, "frame.go:70", #[⟨1, .data⟩], none⟩ ?v69 rfl (by kernel_rfl) (by rfl) ?y69 ?_
    case y69 => intro w hSw; (try dsimp only at hSw); go_simp; all_goals with_reducible rfl
    try simp only [apt12]
    refine tkI 5 ⟨some 92, .fieldAddr 32 (.tmp 15) 2, 0, "frame.go:70", #[], none⟩ ?v70 rfl (by kernel_rfl) (by rfl) ?y70 ?_
    case y70 => intro w hSw; (try dsimp only at hSw); go_simp; all_goals with_reducible rfl
    try simp only [apt12]
    refine tkI 6 ⟨some 93, .load 3 (.tmp 92), 3, "frame.go:70", #[⟨5, .data⟩], none⟩ ?v71 rfl (by kernel_rfl) (by rfl) ?y71 ?_
    case y71 => intro w hSw; (try dsimp only at hSw); go_simp; all_goals with_reducible rfl
    try simp only [apt12]
    refine tkI 9 ⟨some 96, .move (.tmp 2), 3, "frame.go:70", #[], none⟩ ?v72 rfl (by kernel_rfl) (by rfl) ?y72 ?_
    case y72 => intro w hSw; (try dsimp only at hSw); go_simp; all_goals with_reducible rfl
    try simp only [apt12]
    refine tkI 10 ⟨some 97, .build 81 #[(0, .const (Go.Value.int .i64 3)), (1, .tmp 96)], 81, "frame.go:70", #[⟨9, .data⟩], none⟩ ?v73 rfl (by kernel_rfl) (by rfl) ?y73 ?_
    case y73 => intro w hSw; (try dsimp only at hSw); go_simp; all_goals with_reducible rfl
    try simp only [apt12]
    refine tkI 11 ⟨some 98, .move (.tmp 3), 3, "frame.go:70", #[], none⟩ ?v74 rfl (by kernel_rfl) (by rfl) ?y74 ?_
    case y74 => intro w hSw; (try dsimp only at hSw); go_simp; all_goals with_reducible rfl
    try simp only [apt12]
    refine tkI 12 ⟨some 99, .build 81 #[(0, .const (Go.Value.int .i64 4)), (1, .tmp 98)], 81, "frame.go:70", #[⟨11, .data⟩], none⟩ ?v75 rfl (by kernel_rfl) (by rfl) ?y75 ?_
    case y75 => intro w hSw; (try dsimp only at hSw); go_simp; all_goals with_reducible rfl
    try simp only [apt12]
    refine tkI 13 ⟨some 100, .move (.tmp 4), 3, "frame.go:70", #[], none⟩ ?v76 rfl (by kernel_rfl) (by rfl) ?y76 ?_
    case y76 => intro w hSw; (try dsimp only at hSw); go_simp; all_goals with_reducible rfl
    try simp only [apt12]
    refine tkI 14 ⟨some 101, .build 81 #[(0, .const (Go.Value.int .i64 5)), (1, .tmp 100)], 81, "frame.go:70", #[⟨13, .data⟩], none⟩ ?v77 rfl (by kernel_rfl) (by rfl) ?y77 ?_
    case y77 => intro w hSw; (try dsimp only at hSw); go_simp; all_goals with_reducible rfl
    try simp only [apt12]
    refine wpAnyH_ready (rs := [3]) (by kernel_rfl) (by simp) ?_
    refine AllReadyH.cons (i := 3) (o := ⟨some 90, .call { callee := .value (.func 51), args := #[.const (Go.Value.int .i64 0)], argTypes := #[3] }, 3, "frame.go:72", #[], none⟩) rfl (fun K hK => ?_) AllReadyH.nil
    go_simp
    go_at_call 51
    refine (psmall_any12 0 _).mono ?_
    rintro e wr ⟨rfl, hwr⟩
    subst hwr
    rw [show inV12 0 = 1 by decide]
    refine hK.out _ _ ?_ (fun hH1 => ?_)
    next =>
     exact hH0
    clear hK K
    try simp only [apt12]
    refine tkI 4 ⟨some 91, .build 81 #[(0, .const (Go.Value.int .i64 1)), (1, .tmp 90)], 81, "frame.go:70", #[⟨3, .data⟩], none⟩ ?v78 rfl (by kernel_rfl) (by rfl) ?y78 ?_
    case y78 => intro w hSw; (try dsimp only at hSw); go_simp; all_goals with_reducible rfl
    try simp only [apt12]
    refine wpAnyH_ready (rs := [7]) (by kernel_rfl) (by simp) ?_
    refine AllReadyH.cons (i := 7) (o := ⟨some 94, .call { callee := .value (.func 51), args := #[.tmp 93], argTypes := #[3] }, 3, "frame.go:73", #[⟨6, .data⟩, ⟨3, .chain⟩], none⟩) rfl (fun K hK => ?_) AllReadyH.nil
    go_simp
    go_at_call 51
    refine (psmall_any12 t1 _).mono ?_
    rintro e wr ⟨rfl, hwr⟩
    subst hwr
    rw [HYV.out]
    refine hK.out _ _ ?_ (fun hH2 => ?_)
    next =>
     exact hH1
    clear hK K
    try simp only [apt12]
    refine tkI 8 ⟨some 95, .build 81 #[(0, .const (Go.Value.int .i64 2)), (1, .tmp 94)], 81, "frame.go:70", #[⟨7, .data⟩], none⟩ ?v79 rfl (by kernel_rfl) (by rfl) ?y79 ?_
    case y79 => intro w hSw; (try dsimp only at hSw); go_simp; all_goals with_reducible rfl
    try simp only [apt12]
    refine wpAnyH_ready (rs := [15]) (by kernel_rfl) (by simp) ?_
    refine AllReadyH.cons (i := 15) (o := ⟨some 102, .buildSlice 100 6 #[(0, .tmp 89), (1, .tmp 91), (2, .tmp 95), (3, .tmp 97), (4, .tmp 99), (5, .tmp 101)], 100, "frame.go:70", #[⟨2, .data⟩, ⟨4, .data⟩, ⟨8, .data⟩, ⟨10, .data⟩, ⟨12, .data⟩, ⟨14, .data⟩], none⟩) rfl (fun K hK => ?_) AllReadyH.nil
    go_simp
    obtain ⟨uB, huB⟩ : ∃ x, x = (w7.alloc (.cells #[.int .i64 0, .int .i64 sd, .int .i64 1, .int .i64 1, .int .i64 2, .int .i64 y1v, .int .i64 3, .int .i64 m, .int .i64 4, .int .i64 rc, .int .i64 5, .int .i64 hm] 81)).drew := ⟨_, rfl⟩
    obtain ⟨bB, hbB⟩ : ∃ x, x = w7.heap.size := ⟨_, rfl⟩
    have LB : Hid (Lies uB bB 81 (enC12 [((0 : Nat), sd), (1, 1), (2, y1v), (3, m), (4, rc), (5, hm)]).toArray) := by show Lies _ _ _ _; rw [huB, hbB]; exact (Lies.new w7 81 #[.int .i64 0, .int .i64 sd, .int .i64 1, .int .i64 1, .int .i64 2, .int .i64 y1v, .int .i64 3, .int .i64 m, .int .i64 4, .int .i64 rc, .int .i64 5, .int .i64 hm]).drew
    have HBB : Hid (Below w7.heap.size w7 uB) := by show Below _ _ _; rw [huB]; exact (below_alloc _ _).drew
    try simp only [← hbB]
    try rw [← huB]
    clear huB hbB
    refine hK.out _ _ ?_ (fun hH3 => ?_)
    next =>
     exact ⟨cell_later HBB.out m2, cell_later HBB.out l0⟩
    clear hK K
    try simp only [apt12]
    refine wpAnyH_ready (rs := [16]) (by kernel_rfl) (by simp) ?_
    refine AllReadyH.cons (i := 16) (o := ⟨some 103, .call { callee := .value (.func 59), args := #[.tmp 87, .tmp 102], argTypes := #[30, 100] }, 0, "frame.go:70", #[⟨0, .data⟩, ⟨15, .data⟩, ⟨7, .chain⟩], none⟩) rfl (fun K hK => ?_) AllReadyH.nil
    go_simp
    go_at_call 59
    refine (pwrite_any12 _ w6.heap.size _ _ lg h.objs.length l gs [((0 : Nat), sd), (1, 1), (2, y1v), (3, m), (4, rc), (5, hm)] bB 6 22 (OF.out.later HBB.out) HLI.out HSS.out LB.out (by rw [HS22.out]; simp) HS22.out.symm (by simp)).mono ?_
    rintro e w8 ⟨rfl, hown8, hgr⟩
    have HO8 := hid hown8
    have HGR : Hid (uB.grownBy w8 (some gs)) := hgr
    have HB8 : Hid (Below w.heap.size w w8) := (then_w HB7.out HBB.out).grown hgr (then_w HB7.out HBB.out).size (fun k e => by injection e with e; have := HS01.out.1; have := HLT6.out.1; omega)
    have LF8 := hid ((LF.out.later HBB.out).grown hgr (by intro e; injection e with e; exact bne7 e.symm))
    have HK8 := hid ((HK7.out.later HBB.out).grown hgr (by intro e; injection e with e; have := HS01.out.1; have := HLT6.out.1; omega))
    refine hK.out _ _ ?_ (fun hH4 => ?_)
    next =>
     exact ⟨(HGR.out.cell_far _ (Nat.lt_of_lt_of_le LM7.out.lt HBB.out.size) (by intro e; injection e with e; have e : bm = gs := e; have := HS01.out.1; have := HLT6.out.2; omega)).trans (cell_later HBB.out m2), (HGR.out.cell_far _ (Nat.lt_of_lt_of_le LF.out.lt HBB.out.size) (by intro e; injection e with e; exact bne7 (show bx = gs from e).symm)).trans (cell_later HBB.out l0)⟩
    clear hK K
    try simp only [apt12]
    clear hown8 hgr
    refine wpAnyH_done (by kernel_rfl) ?_ _
    clear m0 m1 m2 m3 m4 l0 l1 l2 x0 x1 x2 q2
    have hd6 : ¬ l.c = 6 := by have := HCAP.out; omega
    have hget8 := upd_get12 HLI.out (wr12 [((0 : Nat), sd), (1, 1), (2, y1v), (3, m), (4, rc), (5, hm)] l.o.slots)
    have hI8 := HO8.out.ints _ _ hget8
    rw [HSS.out] at hI8
    have hlen8 : (wr12 [((0 : Nat), sd), (1, 1), (2, y1v), (3, m), (4, rc), (5, hm)] l.o.slots).length = 22 := by rw [wr_len12, HS22.out]
    rcases hI8.2 with ⟨hz, -⟩ | ⟨gq, capq, cur, hz, -, hcur, hq1, -, hq2, -⟩
    next =>
     cases hz
    injection hz with hz1 hz2 hz3
    injection hz1 with hz1
    injection hz1 with hz1
    subst hz1
    have hcs : 22 ≤ cur.size := by rw [hq2, ← hlen8]; simpa using hq1
    have HCUR := hid hcur
    have HCS := hid hcs
    clear hI8 hget8 hlen8 hcur hcs hq1 hq2 hz2 hz3
    have HSA8 := hid (HSA.out.below HB8.out)
    have HAL : Hid (args.length ≤ 4) := by
      show _ ≤ _
      obtain ⟨z1, z2⟩ := mt_ok12 HEM.out.symm
      have h1 := HLA.out
      rw [HMM.out, z2] at h1
      have := sm_bd12 (v := sl12 h m 1) (most := 4)
      have h2 : (args.length : Int) = sm12 (sl12 h m 1) 4 := h1
      omega
    have hcopy := run_copy12 (w := w8) gs 6 (l.c - 6) SA da args (by have := HAL.out; omega) cur HCUR.out HSA8.out HCS.out
    go_upto_region 18 with fail
    clear hcopy
    obtain ⟨hown9, hgr9⟩ := own_sets12 HLI.out HSS.out args 6 _ _ HO8.out
    obtain ⟨w9, hw9⟩ : ∃ x, x = setsC12 w8 gs 6 (args.map (.int .i64)) := ⟨_, rfl⟩
    rw [← hw9] at hown9 hgr9 ⊢
    have HO9 := hid hown9
    have HB9 : Hid (Below w.heap.size w w9) := HB8.out.grown hgr9 HB8.out.size (fun k e => by injection e with e; have := HS01.out.1; have := HLT6.out.1; omega)
    have LF9 := hid (LF8.out.grown hgr9 (by intro e; injection e with e; exact bne7 e.symm))
    have HK9 := hid (HK8.out.grown hgr9 (by intro e; injection e with e; have := HS01.out.1; have := HLT6.out.1; omega))
    clear hw9 hown9 hgr9
    obtain ⟨g9, hg9⟩ : ∃ x, x = nh12 h (setsL12 6 args (wr12 [((0 : Nat), sd), (1, 1), (2, y1v), (3, m), (4, rc), (5, hm)] l.o.slots)) := ⟨_, rfl⟩
    have HG9 := hid hg9
    have HL9 : Hid ((upd12 lg h.objs.length l (setsL12 6 args (wr12 [((0 : Nat), sd), (1, 1), (2, y1v), (3, m), (4, rc), (5, hm)] l.o.slots))).map (·.o) = g9.objs) := by
      show List.map _ _ = _
      rw [hg9]
      unfold upd12 nh12
      rw [List.map_set, HLG.out, HG1.out]
      show (h.objs ++ [newO h 12 0 22]).set h.objs.length { l.o with slots := _ } = _
      rw [HLO.out, List.set_append, if_neg (Nat.lt_irrefl _), Nat.sub_self]
      rfl
    have hc0 : gA.cap = g9.cap := by rw [hg9, HG1.out]; rfl
    have hc1 : gA.last = g9.last := by rw [hg9, HG1.out]; rfl
    have hc2 : gA.objs.length = g9.objs.length := by rw [hg9, HGL.out]; unfold nh12; simp
    have HLOW : Hid (w0.heap.size ≤ w6.heap.size) := HWZ6
    rw [hc0, hc1, hc2] at LF9
    clear hg9 hc0 hc1 hc2
    have HRR : Hid (nn12 h sd m rc hm args = (g9, vA, 0)) := by
      show _ = _
      unfold nn12
      rw [if_neg HC1.out, if_neg HC2.out, if_neg (by rw [HRO.out]; decide), HG9.out, HSL.out, ← HMM.out, ← HT1.out, ← HV1.out]
      have e1 : wr12 [((0 : Nat), sd), (1, 1), (2, y1v), (3, m), (4, rc), (5, hm)] (List.replicate 22 0) = [sd, 1, y1v, m, rc, hm] ++ List.replicate 16 0 := rfl
      have e2 := setsL_is12 args [sd, 1, y1v, m, rc, hm] (List.replicate 16 0) (by have := HAL.out; simp; omega)
      rw [e1, show (6 : Nat) = [sd, 1, y1v, m, rc, hm].length from rfl, e2, List.drop_replicate, HY1.out, HHV.out]
      rfl
    obtain ⟨l0, l1, l2⟩ := LF9.out.c3
    obtain ⟨u0, u1, u2⟩ := HK9.out.c3
    obtain ⟨uf0, uf1, uf2⟩ := HK9.out.f3
    go_wp2_with fail
    obtain ⟨r0, r1, r2⟩ := HK9.out.s3 (.slice (some ⟨gr, 0, none⟩) g9.objs.length cg) (.int .i64 g9.cap) (.int .i64 g9.last)
    refine bodyPost_ret (v := .tuple #[.agg #[.slice (some ⟨gr, 0, none⟩) g9.objs.length cg, .int .i64 g9.cap, .int .i64 g9.last], .int .i64 vA, .int .i64 0]) (by simp [results, Tryz.results29, go_sem, r0, r1, r2]) rfl ?_
    have HBE := below_s3 (g := w.heap.size + 1) HB9.out (by simp) (.slice (some ⟨gr, 0, none⟩) g9.objs.length cg) (.int .i64 g9.cap) (.int .i64 g9.last)
    have hlow : w.heap.size + 1 < w6.heap.size := by have := HSZ0.out; have := HLOW.out; omega
    rw [HRR.out]
    exact ⟨(some ⟨gr, 0, none⟩), cg, _, rfl, HL9.out, (((HO9.out.low (p := ⟨w.heap.size + 1, 0, none⟩) hlow _).low (p := ⟨w.heap.size + 1, 1, none⟩) hlow _).low (p := ⟨w.heap.size + 1, 2, none⟩) hlow _).lower (by omega), HBE⟩
end Go.Proofs.YtalfbdigjaibkaaGreat
