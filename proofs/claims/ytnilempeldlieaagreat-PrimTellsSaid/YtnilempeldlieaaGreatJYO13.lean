/- The document on primitives: floats. -/
import Derived.Test.YtnilempeldlieaaGreatJ04
import Derived.Test.YtnilempeldlieaaGreatJYN13
import Derived.Test.YtnilempeldlieaaGreatJ16
import Derived.Test.YtnilempeldlieaaGreatJKP13
namespace Go.Proofs.YtnilempeldlieaaGreat
open Go.RowKit Flt
set_option maxRecDepth 100000
set_option maxHeartbeats 2000000 in
theorem rfloats_any13 (h : Hp) (num s : Int) (al : List Int) (SA : Option Addr) (da : Nat) (A : Option Addr) (c : Nat) (w : World) (hs : ObsR w A h.objs) (fit : h.Fit) (hm : mayB h = true) (wd : ∀ o ∈ h.objs, Flt.In64 o.bits) (hv : hasB h.objs.length s = true) (hsa : IntsR w SA al) (ha : ∀ x ∈ al, hasB h.objs.length x = true) (hnum : 17 ≤ num ∧ num ≤ 24) (har : ar13 num = some al.length) :
    Calls Tryz.prog 46 #[.agg #[.slice A h.objs.length c, .int .i64 h.cap, .int .i64 h.last], .int .i64 num, .int .i64 s, .slice SA al.length da] w (RsQ13 w.heap.size w h A c (ff13 h num s (al.getD 0 0))) := by
  have HS := hid hs
  have HF := hid fit
  have HM := hid hm
  have HWD := hid wd
  have HV := hid hv
  have HSA := hid hsa
  have HA := hid ha
  have HAR := hid har
  have HNUM := hid hnum
  clear hs fit hsa hm wd hv ha har hnum
  obtain ⟨r, hr⟩ : ∃ r, r = ff13 h num s (al.getD 0 0) := ⟨_, rfl⟩
  rw [← hr]
  have HRR := hid hr
  clear hr
  obtain ⟨w0, hw0⟩ : ∃ u, u = (w.alloc (.cells #[Value.slice A h.objs.length c, Value.int .i64 h.cap, Value.int .i64 h.last] 24)).alloc (.cells #[.slice none 0 0, .int .i64 0, .int .i64 0] 24) := ⟨_, rfl⟩
  obtain ⟨bR, hbR⟩ : ∃ x, x = w.heap.size + 1 := ⟨_, rfl⟩
  have HB0 : Hid (Below w.heap.size w w0) := by show Below _ _ _; rw [hw0]; exact below_alloc2 w _ _
  have HX0 : Hid (Lies w0 w.heap.size 24 #[Value.slice A h.objs.length c, Value.int .i64 h.cap, Value.int .i64 h.last]) := by
    show Lies _ _ _ _
    rw [hw0]; exact (Lies.new _ _ _).alloc _
  have HR0 : Hid (Lies w0 bR 24 #[.slice none 0 0, .int .i64 0, .int .i64 0]) := by
    show Lies _ _ _ _
    have := Lies.new (w.alloc (.cells #[Value.slice A h.objs.length c, Value.int .i64 h.cap, Value.int .i64 h.last] 24)) 24 #[.slice none 0 0, .int .i64 0, .int .i64 0]
    rw [hw0, hbR]; simpa using this
  have HRW : Hid (w.heap.size ≤ bR) := by show _ ≤ _; omega
  have HNE : Hid (w.heap.size ≠ bR) := by show _ ≠ _; omega
  go_enter Tryz.func46, Tryz.ntmps46
  go_upto_region 1 with fail
  rw [← hw0, ← hbR]
  clear hw0 hbR
  have HFS := hid (fv_fl13 h s)
  obtain ⟨x, hx⟩ : ∃ x, x = (fv13 h s).1 := ⟨_, rfl⟩
  obtain ⟨bs, hbs⟩ : ∃ x, x = (fv13 h s).2 := ⟨_, rfl⟩
  have HFL := hid (rfloated_any13 h s A c w0 (HS.out.below HB0.out) HV.out)
  rw [← hx, ← hbs] at HFL HFS
  clear hx hbs
  obtain ⟨x0, x1, x2⟩ := HX0.out.c3
  go_wp2_with fail
  refine HFL.out.mono ?_
  rintro e w1 ⟨rfl, hb⟩
  have HB1 := hid (then_w HB0.out hb)
  have HX1 := hid (HX0.out.later hb)
  have HR1 := hid (HR0.out.later hb)
  clear hb
  clear x0 x1 x2 HFL
  cases bs
  next =>
   have HFN : Hid (fl13 h s = none) := HFS.out
   have HE : Hid (r = fa13 h) := by show _ = _; rw [HRR.out]; unfold ff13; rw [HFN.out]
   obtain ⟨ra, hra⟩ : ∃ x, x = fa13 h := ⟨_, rfl⟩
   rw [← hra] at HE
   have HC9 := hid (show Calls Tryz.prog 41 #[.agg #[.slice A h.objs.length c, .int .i64 h.cap, .int .i64 h.last]] w1 (RsQ13 w.heap.size w1 h A c ra) from by rw [hra]; exact (rfail_any13 h A c w1).mono fun _ _ p => p.q rfl)
   clear hra
   obtain ⟨x0, x1, x2⟩ := HX1.out.c3
   go_wp2_with fail
   refine (HC9.out).mono ?_
   rintro e w2 ⟨A9, c9, rfl, hor, hb⟩
   have HOR := hid hor
   clear hor
   have HB2 := hid (then_w HB1.out hb)
   have HX2 := hid (HX1.out.later hb)
   have HR2 := hid (HR1.out.later hb)
   clear hb
   clear x0 x1 x2
   obtain ⟨k0, k1, k2⟩ := HR2.out.c3
   obtain ⟨f0, f1, f2⟩ := HR2.out.f3
   go_wp2_with fail
   have HK := HR2.out.s3 (.slice A9 ra.1.objs.length c9) (.int .i64 ra.1.cap) (.int .i64 ra.1.last)
   obtain ⟨r0, r1, r2⟩ := HK
   have HBE := below_s3 HB2.out HRW.out (.slice A9 ra.1.objs.length c9) (.int .i64 ra.1.cap) (.int .i64 ra.1.last)
   refine bodyPost_ret (v := .tuple #[.agg #[.slice A9 ra.1.objs.length c9, .int .i64 ra.1.cap, .int .i64 ra.1.last], .int .i64 ra.2.1, .int .i64 ra.2.2]) (by simp [results, Tryz.results46, go_sem, r0, r1, r2]) rfl ?_
   rw [HE.out]
   refine ⟨A9, c9, rfl, ?_, HBE⟩
   rcases HOR.out with h1 | ⟨ls, h1, h2⟩
   next =>
    exact .inl h1
   next =>
    exact .inr ⟨ls, h1, h2.s3_13 HR2.out _ _ _⟩
  next =>
   have HFN : Hid (fl13 h s = some x) := HFS.out
   have HXI := hid (fl_in13 HWD.out HV.out HFN.out)
   have HXC := hid (fl_canon13 HM.out HV.out HFN.out)
   clear HFS
   by_cases h23 : num = 23
   next =>
    subst h23
    have HR3 : Hid (r = if Flt.tb x then in13 h (Flt.fTr x) else fa13 h) := by show _ = _; rw [HRR.out]; unfold ff13; rw [HFN.out]; rfl
    have HTC := hid (rtrunc_any HXI.out w1)
    obtain ⟨tx, htx⟩ : ∃ x', x' = Flt.tb x := ⟨_, rfl⟩
    obtain ⟨fx, hfx⟩ : ∃ x', x' = Flt.fTr x := ⟨_, rfl⟩
    rw [← htx, ← hfx] at HTC HR3
    clear htx hfx
    obtain ⟨x0, x1, x2⟩ := HX1.out.c3
    go_wp2_with fail
    refine HTC.out.mono ?_
    rintro e wt ⟨rfl, hw⟩
    rw [← hw]
    clear hw x0 x1 x2 HTC
    cases tx
    next =>
     have HE : Hid (r = fa13 h) := by show _ = _; exact HR3.out
     obtain ⟨ra, hra⟩ : ∃ x, x = fa13 h := ⟨_, rfl⟩
     rw [← hra] at HE
     have HC9 := hid (show Calls Tryz.prog 41 #[.agg #[.slice A h.objs.length c, .int .i64 h.cap, .int .i64 h.last]] w1 (RsQ13 w.heap.size w1 h A c ra) from by rw [hra]; exact (rfail_any13 h A c w1).mono fun _ _ p => p.q rfl)
     clear hra
     obtain ⟨x0, x1, x2⟩ := HX1.out.c3
     go_wp2_with fail
     refine (HC9.out).mono ?_
     rintro e w2 ⟨A9, c9, rfl, hor, hb⟩
     have HOR := hid hor
     clear hor
     have HB2 := hid (then_w HB1.out hb)
     have HX2 := hid (HX1.out.later hb)
     have HR2 := hid (HR1.out.later hb)
     clear hb
     clear x0 x1 x2
     obtain ⟨k0, k1, k2⟩ := HR2.out.c3
     obtain ⟨f0, f1, f2⟩ := HR2.out.f3
     go_wp2_with fail
     have HK := HR2.out.s3 (.slice A9 ra.1.objs.length c9) (.int .i64 ra.1.cap) (.int .i64 ra.1.last)
     obtain ⟨r0, r1, r2⟩ := HK
     have HBE := below_s3 HB2.out HRW.out (.slice A9 ra.1.objs.length c9) (.int .i64 ra.1.cap) (.int .i64 ra.1.last)
     refine bodyPost_ret (v := .tuple #[.agg #[.slice A9 ra.1.objs.length c9, .int .i64 ra.1.cap, .int .i64 ra.1.last], .int .i64 ra.2.1, .int .i64 ra.2.2]) (by simp [results, Tryz.results46, go_sem, r0, r1, r2]) rfl ?_
     rw [HE.out]
     refine ⟨A9, c9, rfl, ?_, HBE⟩
     rcases HOR.out with h1 | ⟨ls, h1, h2⟩
     next =>
      exact .inl h1
     next =>
      exact .inr ⟨ls, h1, h2.s3_13 HR2.out _ _ _⟩
    next =>
     have HE0 : Hid (r = in13 h fx) := HR3.out
     obtain ⟨ra, hra⟩ : ∃ x : Rs, x = in13 h fx := ⟨_, rfl⟩
     have HE : Hid (r = ra) := by show _ = _; rw [HE0.out, hra]
     have HC9 := hid (show Calls Tryz.prog 75 #[.agg #[.slice A h.objs.length c, .int .i64 h.cap, .int .i64 h.last], .int .i64 fx] w1 (RsQ13 w.heap.size w1 h A c ra) from by rw [hra]; exact (rinteger_any13 h fx A c w1).mono fun _ _ p => p.q (in_h13' _ _))
     clear hra
     obtain ⟨x0, x1, x2⟩ := HX1.out.c3
     go_wp2_with fail
     refine (HC9.out).mono ?_
     rintro e w2 ⟨A9, c9, rfl, hor, hb⟩
     have HOR := hid hor
     clear hor
     have HB2 := hid (then_w HB1.out hb)
     have HX2 := hid (HX1.out.later hb)
     have HR2 := hid (HR1.out.later hb)
     clear hb
     clear x0 x1 x2
     obtain ⟨k0, k1, k2⟩ := HR2.out.c3
     obtain ⟨f0, f1, f2⟩ := HR2.out.f3
     go_wp2_with fail
     have HK := HR2.out.s3 (.slice A9 ra.1.objs.length c9) (.int .i64 ra.1.cap) (.int .i64 ra.1.last)
     obtain ⟨r0, r1, r2⟩ := HK
     have HBE := below_s3 HB2.out HRW.out (.slice A9 ra.1.objs.length c9) (.int .i64 ra.1.cap) (.int .i64 ra.1.last)
     refine bodyPost_ret (v := .tuple #[.agg #[.slice A9 ra.1.objs.length c9, .int .i64 ra.1.cap, .int .i64 ra.1.last], .int .i64 ra.2.1, .int .i64 ra.2.2]) (by simp [results, Tryz.results46, go_sem, r0, r1, r2]) rfl ?_
     rw [HE.out]
     refine ⟨A9, c9, rfl, ?_, HBE⟩
     rcases HOR.out with h1 | ⟨ls, h1, h2⟩
     next =>
      exact .inl h1
     next =>
      exact .inr ⟨ls, h1, h2.s3_13 HR2.out _ _ _⟩
   next =>
    have b23 : (num == 23) = false := by simpa using h23
    by_cases h24 : num = 24
    next =>
     subst h24
     obtain ⟨ra, hra⟩ : ∃ y : Rs, y = nf13 h x := ⟨_, rfl⟩
     have HE : Hid (r = ra) := by show _ = _; rw [HRR.out, hra]; unfold ff13; rw [HFN.out]; rfl
     have HC9 := hid (show Calls Tryz.prog 91 #[.agg #[.slice A h.objs.length c, .int .i64 h.cap, .int .i64 h.last], .int .i64 x] w1 (RsQ13 w.heap.size w1 h A c ra) from by
       have := rfloat_any13 h x A c w1 (HS.out.below HB1.out) HF.out
       rw [HXC.out, ← hra] at this
       exact this.mono fun _ _ p => p.q HB1.out.size)
     clear hra
     obtain ⟨x0, x1, x2⟩ := HX1.out.c3
     go_wp2_with fail
     refine (HC9.out).mono ?_
     rintro e w2 ⟨A9, c9, rfl, hor, hb⟩
     have HOR := hid hor
     clear hor
     have HB2 := hid (then_w HB1.out hb)
     have HX2 := hid (HX1.out.later hb)
     have HR2 := hid (HR1.out.later hb)
     clear hb
     clear x0 x1 x2
     obtain ⟨k0, k1, k2⟩ := HR2.out.c3
     obtain ⟨f0, f1, f2⟩ := HR2.out.f3
     go_wp2_with fail
     have HK := HR2.out.s3 (.slice A9 ra.1.objs.length c9) (.int .i64 ra.1.cap) (.int .i64 ra.1.last)
     obtain ⟨r0, r1, r2⟩ := HK
     have HBE := below_s3 HB2.out HRW.out (.slice A9 ra.1.objs.length c9) (.int .i64 ra.1.cap) (.int .i64 ra.1.last)
     refine bodyPost_ret (v := .tuple #[.agg #[.slice A9 ra.1.objs.length c9, .int .i64 ra.1.cap, .int .i64 ra.1.last], .int .i64 ra.2.1, .int .i64 ra.2.2]) (by simp [results, Tryz.results46, go_sem, r0, r1, r2]) rfl ?_
     rw [HE.out]
     refine ⟨A9, c9, rfl, ?_, HBE⟩
     rcases HOR.out with h1 | ⟨ls, h1, h2⟩
     next =>
      exact .inl h1
     next =>
      exact .inr ⟨ls, h1, h2.s3_13 HR2.out _ _ _⟩
    next =>
     have b24 : (num == 24) = false := by simpa using h24
     have hl : al.length = 1 := by
       have h1 := HAR.out
       have h2 := HNUM.out
       unfold ar13 at h1
       rw [if_neg (by omega), if_neg (by omega), if_neg (by omega)] at h1
       exact (Option.some.inj h1).symm
     obtain ⟨ba, oa, rfl, hba, hca⟩ := HSA.out (by omega)
     obtain ⟨a, ha⟩ : ∃ a, a = al.getD 0 0 := ⟨_, rfl⟩
     have ha0 : al[0]? = some a := by rw [ha, List.getD_eq_getElem?_getD, List.getElem?_eq_getElem (by omega)]; rfl
     have HZ0 := hid (hca 0 a ha0)
     have HBA := hid hba
     have HHA := hid (HA.out a (List.mem_of_getElem? ha0))
     have HRR2 : Hid (r = match fl13 h a with | none => fa13 h | some y => if num = 21 then tr13 h (Flt.fLess x y) else if num = 22 then tr13 h (Flt.fEqual x y) else nf13 h (fOp (num - 17) x y)) := by
       show _ = _
       rw [HRR.out, ha]; unfold ff13; rw [HFN.out]
       show (if num = 23 then _ else _) = _
       rw [if_neg h23, if_neg h24]
       cases fl13 h (al.getD 0 0) <;> rfl
     rw [hl]
     clear hl hba hca ha ha0 HRR HSA HA
     have HFT := hid (fv_fl13 h a)
     obtain ⟨y, hy⟩ : ∃ x, x = (fv13 h a).1 := ⟨_, rfl⟩
     obtain ⟨bt, hbt⟩ : ∃ x, x = (fv13 h a).2 := ⟨_, rfl⟩
     have HFG : Hid (∀ W : World, ObsR W A h.objs → Calls Tryz.prog 89 #[.agg #[.slice A h.objs.length c, .int .i64 h.cap, .int .i64 h.last], .int .i64 a] W fun e w' => e = .returned (.tuple #[.int .i64 y, .bool bt]) ∧ Below W.heap.size W w') := by
       show ∀ W : World, _
       intro W hW
       rw [hy, hbt]; exact rfloated_any13 h a A c W hW HHA.out
     rw [← hy, ← hbt] at HFT
     clear hy hbt
     have y0 : w1.cell? ⟨ba, oa, none⟩ = some (.int .i64 a) := at0_13 HB1.out HBA.out HZ0.out
     obtain ⟨x0, x1, x2⟩ := HX1.out.c3
     go_upto_region 11 with fail
     refine wp_region_held_drew (S := (fun w' => w'.cell? ⟨w.heap.size, 0, none⟩ = some (.slice A h.objs.length c) ∧ w'.cell? ⟨w.heap.size, 1, none⟩ = some (.int .i64 h.cap) ∧ w'.cell? ⟨w.heap.size, 2, none⟩ = some (.int .i64 h.last) ∧ w'.cell? ⟨ba, oa, none⟩ = some (.int .i64 a))) (by kernel_rfl) ?_ (fun hH0 => ?_)
     next =>
      exact ⟨dcJ x0, dcJ x1, dcJ x2, dcJ y0⟩
     refine tkJ 0 ⟨some 59, .load 24 (.tmp 4), 24, "ref.go:179", #[], none⟩ ?_
     refine tkJ 1 ⟨some 60, .move (.tmp 3), 34, "ref.go:179", #[], none⟩ ?_
     refine tkJ 2 ⟨some 61, .indexAddr 34 (.tmp 60) (.const (Go.Value.int .i64 0)), 0, "ref.go:179", #[⟨1, .data⟩], none⟩ ?_
     refine tkJ 3 ⟨some 62, .load 3 (.tmp 61), 3, "ref.go:179", #[⟨2, .data⟩], none⟩ ?_
     refine rdJ 4 ⟨some 63, .call { callee := .value (.func 89), args := #[.tmp 59, .tmp 62], argTypes := #[24, 3] }, 46, "ref.go:179", #[⟨0, .data⟩, ⟨3, .data⟩], none⟩ fun K hK => ?_
     go_simp
     go_at_call 89
     refine (HFG.out _ (HS.out.below (then_w HB1.out (Below.refl _ w1).drew))).mono ?_
     rintro e w2 ⟨rfl, hb2⟩
     have hb := then_w (Below.refl _ w1).drew hb2
     have HB2 := hid (then_w HB1.out hb)
     have HX2 := hid (HX1.out.later hb)
     have HR2 := hid (HR1.out.later hb)
     clear hb
     refine hK.out _ _ ?_ (fun hH1 => ?_)
     next =>
      exact ⟨cell_later hb2 hH0.1, cell_later hb2 hH0.2.1, cell_later hb2 hH0.2.2.1, cell_later hb2 hH0.2.2.2⟩
     clear hK K
     try simp only [apt12]
     clear hb2
     refine tkJ 5 ⟨some 58, .move (.tmp 63), 46, "ref.go:179", #[⟨4, .data⟩], none⟩ ?_
     refine tkJ 6 ⟨some 64, .extract (.tmp 58) 0, 3, "ref.go:179", #[⟨5, .data⟩], none⟩ ?_
     refine tkJ 7 ⟨some 65, .extract (.tmp 58) 1, 4, "ref.go:179", #[⟨5, .data⟩, ⟨8, .gcOnly .lateStores⟩], none⟩ ?_
     refine tkJ 8 ⟨some 15, .assign (.tmp 64), 3, "ref.go:179", #[⟨6, .data⟩, ⟨4, .chain⟩, ⟨0, .phase⟩, ⟨1, .phase⟩, ⟨2, .phase⟩, ⟨3, .phase⟩, ⟨4, .phase⟩, ⟨5, .phase⟩, ⟨6, .phase⟩, ⟨7, .textOnly .lateStores⟩], none⟩ ?_
     refine tkJ 9 ⟨some 16, .assign (.tmp 65), 4, "ref.go:179", #[⟨7, .data⟩, ⟨8, .chain⟩, ⟨0, .phase⟩, ⟨1, .phase⟩, ⟨2, .phase⟩, ⟨3, .phase⟩, ⟨4, .phase⟩, ⟨5, .phase⟩, ⟨6, .phase⟩, ⟨7, .phase⟩, ⟨8, .phase⟩], none⟩ ?_
     refine wpAnyH_done (by kernel_rfl) ?_ _
     clear x0 x1 x2 y0 HFG
     cases bt
     next =>
      have HGN : Hid (fl13 h a = none) := HFT.out
      have HBAD : Hid (r = fa13 h) := by show _ = _; rw [HRR2.out, HGN.out]
      have HE : Hid (r = fa13 h) := by show _ = _; exact HBAD.out
      obtain ⟨ra, hra⟩ : ∃ x, x = fa13 h := ⟨_, rfl⟩
      rw [← hra] at HE
      have HC9 := hid (show Calls Tryz.prog 41 #[.agg #[.slice A h.objs.length c, .int .i64 h.cap, .int .i64 h.last]] w2 (RsQ13 w.heap.size w2 h A c ra) from by rw [hra]; exact (rfail_any13 h A c w2).mono fun _ _ p => p.q rfl)
      clear hra
      obtain ⟨x0, x1, x2⟩ := HX2.out.c3
      go_wp2_with fail
      refine (HC9.out).mono ?_
      rintro e w3 ⟨A9, c9, rfl, hor, hb⟩
      have HOR := hid hor
      clear hor
      have HB3 := hid (then_w HB2.out hb)
      have HX3 := hid (HX2.out.later hb)
      have HR3 := hid (HR2.out.later hb)
      clear hb
      clear x0 x1 x2
      obtain ⟨k0, k1, k2⟩ := HR3.out.c3
      obtain ⟨f0, f1, f2⟩ := HR3.out.f3
      go_wp2_with fail
      have HK := HR3.out.s3 (.slice A9 ra.1.objs.length c9) (.int .i64 ra.1.cap) (.int .i64 ra.1.last)
      obtain ⟨r0, r1, r2⟩ := HK
      have HBE := below_s3 HB3.out HRW.out (.slice A9 ra.1.objs.length c9) (.int .i64 ra.1.cap) (.int .i64 ra.1.last)
      refine bodyPost_ret (v := .tuple #[.agg #[.slice A9 ra.1.objs.length c9, .int .i64 ra.1.cap, .int .i64 ra.1.last], .int .i64 ra.2.1, .int .i64 ra.2.2]) (by simp [results, Tryz.results46, go_sem, r0, r1, r2]) rfl ?_
      rw [HE.out]
      refine ⟨A9, c9, rfl, ?_, HBE⟩
      rcases HOR.out with h1 | ⟨ls, h1, h2⟩
      next =>
       exact .inl h1
      next =>
       exact .inr ⟨ls, h1, h2.s3_13 HR3.out _ _ _⟩
     next =>
      have HGN : Hid (fl13 h a = some y) := HFT.out
      have HYI := hid (fl_in13 HWD.out HHA.out HGN.out)
      have HR4 : Hid (r = if num = 21 then tr13 h (Flt.fLess x y) else if num = 22 then tr13 h (Flt.fEqual x y) else nf13 h (fOp (num - 17) x y)) := by show _ = _; rw [HRR2.out, HGN.out]
      clear HFT HRR2
      by_cases h21 : num = 21
      next =>
       subst h21
       obtain ⟨bb, hbb⟩ : ∃ z, z = Flt.fLess x y := ⟨_, rfl⟩
       obtain ⟨ra, hra⟩ : ∃ z : Rs, z = tr13 h bb := ⟨_, rfl⟩
       have HE : Hid (r = ra) := by show _ = _; rw [HR4.out, hra, hbb]; rfl
       have HLE : Hid (∀ W, Calls Tryz.prog 92 #[.int .i64 x, .int .i64 y] W fun e w' => e = .returned (.bool bb) ∧ W = w') := by
         show ∀ W, _
         intro W
         rw [hbb]; exact rless_any HXI.out HYI.out W
       have HRA := hid hra
       have HTR : Hid (∀ W, Calls Tryz.prog 77 #[.agg #[.slice A h.objs.length c, .int .i64 h.cap, .int .i64 h.last], .bool bb] W (RsQ13 w.heap.size W h A c ra)) := by
         show ∀ W, _
         intro W
         rw [HRA.out]
         exact (rtruth_any13 h bb A c W).mono fun _ _ p => p.q rfl
       clear hbb hra
       obtain ⟨x0, x1, x2⟩ := HX2.out.c3
       go_upto_region 15 with fail
       refine wp_region_held_drew (S := (fun w' => w'.cell? ⟨w.heap.size, 0, none⟩ = some (.slice A h.objs.length c) ∧ w'.cell? ⟨w.heap.size, 1, none⟩ = some (.int .i64 h.cap) ∧ w'.cell? ⟨w.heap.size, 2, none⟩ = some (.int .i64 h.last))) (by kernel_rfl) ?_ (fun hH0 => ?_)
       next =>
        exact ⟨dcJ x0, dcJ x1, dcJ x2⟩
       refine tkJ 0 ⟨some 75, .load 24 (.tmp 4), 24, "ref.go:184", #[], none⟩ ?_
       refine tkJ 1 ⟨some 76, .move (.tmp 11), 3, "ref.go:184", #[], none⟩ ?_
       refine tkJ 2 ⟨some 77, .move (.tmp 15), 3, "ref.go:184", #[], none⟩ ?_
       refine rdJ 3 ⟨some 78, .call { callee := .value (.func 92), args := #[.tmp 76, .tmp 77], argTypes := #[3, 3] }, 4, "ref.go:184", #[⟨1, .data⟩, ⟨2, .data⟩], none⟩ fun K hK => ?_
       go_simp
       go_at_call 92
       refine (HLE.out _).mono ?_
       rintro e wl ⟨rfl, rfl⟩
       refine hK.out _ _ ?_ (fun hH1 => ?_)
       next =>
        exact hH0
       clear hK K
       try simp only [apt12]
       refine rdJ 4 ⟨some 79, .call { callee := .value (.func 77), args := #[.tmp 75, .tmp 78], argTypes := #[24, 4] }, 44, "ref.go:184", #[⟨0, .data⟩, ⟨3, .data⟩, ⟨3, .chain⟩], none⟩ fun K hK => ?_
       go_simp
       go_at_call 77
       obtain ⟨wd, hd⟩ : ∃ x, x = w2.drew := ⟨_, rfl⟩
       rw [← hd]
       have hbd : Below w2.heap.size w2 wd := by rw [hd]; exact (Below.refl _ _).drew
       have HBz := hid (then_w HB2.out hbd)
       refine (HTR.out wd).mono ?_
       rintro e ut ⟨A9, c9, rfl, hor, hb2⟩
       have hb := then_w hbd hb2
       have HBT := hid (then_w HB2.out hb)
       have HXT := hid (HX2.out.later hb)
       have HRT := hid (HR2.out.later hb)
       have HOR := hid hor
       clear hd hbd hb hb2 hor
       obtain ⟨v0, v1, v2⟩ := HXT.out.c3
       refine hK.out _ _ ?_ (fun hH2 => ?_)
       next =>
        exact ⟨v0, v1, v2⟩
       clear hK K
       try simp only [apt12]
       clear v0 v1 v2
       refine tkJ 5 ⟨some 80, .extract (.tmp 79) 0, 24, "ref.go:184", #[⟨4, .data⟩], none⟩ ?_
       refine tkJ 6 ⟨some 81, .extract (.tmp 79) 1, 3, "ref.go:184", #[⟨4, .data⟩], none⟩ ?_
       refine tkJ 7 ⟨some 82, .extract (.tmp 79) 2, 25, "ref.go:184", #[⟨4, .data⟩], none⟩ ?_
       refine rdJ 8 ⟨none, .store 24 (.tmp 8) (.tmp 80), 0, "ref.go:184", #[⟨5, .data⟩, ⟨4, .chain⟩, ⟨0, .phase⟩, ⟨1, .phase⟩, ⟨2, .phase⟩, ⟨3, .phase⟩, ⟨4, .phase⟩, ⟨5, .phase⟩, ⟨6, .phase⟩, ⟨7, .phase⟩], none⟩ fun K hK => ?_
       obtain ⟨k0, k1, k2⟩ := HRT.out.c3
       obtain ⟨f0, f1, f2⟩ := HRT.out.f3
       go_simp
       clear k0 k1 k2 f0 f1 f2
       have HBE := below_s3 HBT.out HRW.out (.slice A9 ra.1.objs.length c9) (.int .i64 ra.1.cap) (.int .i64 ra.1.last)
       have HX9 := ((HXT.out.far (p := ⟨bR, 0, none⟩) HNE.out (.slice A9 ra.1.objs.length c9)).far (p := ⟨bR, 1, none⟩) HNE.out (.int .i64 ra.1.cap)).far (p := ⟨bR, 2, none⟩) HNE.out (.int .i64 ra.1.last)
       obtain ⟨v0, v1, v2⟩ := HX9.c3
       refine hK.out _ _ ?_ (fun hH3 => ?_)
       next =>
        exact ⟨v0, v1, v2⟩
       clear hK K
       try simp only [apt12]
       clear v0 v1 v2
       clear HX9
       refine tkJ 9 ⟨some 9, .assign (.tmp 81), 3, "ref.go:184", #[⟨6, .data⟩, ⟨8, .chain⟩, ⟨0, .phase⟩, ⟨1, .phase⟩, ⟨2, .phase⟩, ⟨3, .phase⟩, ⟨4, .phase⟩, ⟨5, .phase⟩, ⟨6, .phase⟩, ⟨7, .phase⟩, ⟨8, .phase⟩], none⟩ ?_
       refine tkJ 10 ⟨some 10, .assign (.tmp 82), 25, "ref.go:184", #[⟨7, .data⟩, ⟨9, .chain⟩, ⟨0, .phase⟩, ⟨1, .phase⟩, ⟨2, .phase⟩, ⟨3, .phase⟩, ⟨4, .phase⟩, ⟨5, .phase⟩, ⟨6, .phase⟩, ⟨7, .phase⟩, ⟨8, .phase⟩, ⟨9, .phase⟩], none⟩ ?_
       refine wpAnyH_done (by kernel_rfl) ?_ _
       have HK := HRT.out.s3 (.slice A9 ra.1.objs.length c9) (.int .i64 ra.1.cap) (.int .i64 ra.1.last)
       obtain ⟨r0, r1, r2⟩ := HK
       go_wp2_with fail
       refine bodyPost_ret (v := .tuple #[.agg #[.slice A9 ra.1.objs.length c9, .int .i64 ra.1.cap, .int .i64 ra.1.last], .int .i64 ra.2.1, .int .i64 ra.2.2]) (by simp [results, Tryz.results46, go_sem, r0, r1, r2]) rfl ?_
       rw [HE.out]
       refine ⟨A9, c9, rfl, ?_, HBE⟩
       rcases HOR.out with h1 | ⟨ls, h1, h2⟩
       next =>
        exact .inl h1
       next =>
        exact .inr ⟨ls, h1, h2.s3_13 HRT.out _ _ _⟩
      next =>
       have b21 : (num == 21) = false := by simpa using h21
       by_cases h22 : num = 22
       next =>
        subst h22
        obtain ⟨bb, hbb⟩ : ∃ z, z = Flt.fEqual x y := ⟨_, rfl⟩
        obtain ⟨ra, hra⟩ : ∃ z : Rs, z = tr13 h bb := ⟨_, rfl⟩
        have HE : Hid (r = ra) := by show _ = _; rw [HR4.out, hra, hbb]; rfl
        have HLE : Hid (∀ W, Calls Tryz.prog 93 #[.int .i64 x, .int .i64 y] W fun e w' => e = .returned (.bool bb) ∧ W = w') := by
          show ∀ W, _
          intro W
          rw [hbb]; exact requal_any HXI.out HYI.out W
        have HRA := hid hra
        have HTR : Hid (∀ W, Calls Tryz.prog 77 #[.agg #[.slice A h.objs.length c, .int .i64 h.cap, .int .i64 h.last], .bool bb] W (RsQ13 w.heap.size W h A c ra)) := by
          show ∀ W, _
          intro W
          rw [HRA.out]
          exact (rtruth_any13 h bb A c W).mono fun _ _ p => p.q rfl
        clear hbb hra
        obtain ⟨x0, x1, x2⟩ := HX2.out.c3
        go_upto_region 17 with fail
        refine wp_region_held_drew (S := (fun w' => w'.cell? ⟨w.heap.size, 0, none⟩ = some (.slice A h.objs.length c) ∧ w'.cell? ⟨w.heap.size, 1, none⟩ = some (.int .i64 h.cap) ∧ w'.cell? ⟨w.heap.size, 2, none⟩ = some (.int .i64 h.last))) (by kernel_rfl) ?_ (fun hH0 => ?_)
        next =>
         exact ⟨dcJ x0, dcJ x1, dcJ x2⟩
        refine tkJ 0 ⟨some 85, .load 24 (.tmp 4), 24, "ref.go:187", #[], none⟩ ?_
        refine tkJ 1 ⟨some 86, .move (.tmp 11), 3, "ref.go:187", #[], none⟩ ?_
        refine tkJ 2 ⟨some 87, .move (.tmp 15), 3, "ref.go:187", #[], none⟩ ?_
        refine rdJ 3 ⟨some 88, .call { callee := .value (.func 93), args := #[.tmp 86, .tmp 87], argTypes := #[3, 3] }, 4, "ref.go:187", #[⟨1, .data⟩, ⟨2, .data⟩], none⟩ fun K hK => ?_
        go_simp
        go_at_call 93
        refine (HLE.out _).mono ?_
        rintro e wl ⟨rfl, rfl⟩
        refine hK.out _ _ ?_ (fun hH1 => ?_)
        next =>
         exact hH0
        clear hK K
        try simp only [apt12]
        refine rdJ 4 ⟨some 89, .call { callee := .value (.func 77), args := #[.tmp 85, .tmp 88], argTypes := #[24, 4] }, 44, "ref.go:187", #[⟨0, .data⟩, ⟨3, .data⟩, ⟨3, .chain⟩], none⟩ fun K hK => ?_
        go_simp
        go_at_call 77
        obtain ⟨wd, hd⟩ : ∃ x, x = w2.drew := ⟨_, rfl⟩
        rw [← hd]
        have hbd : Below w2.heap.size w2 wd := by rw [hd]; exact (Below.refl _ _).drew
        have HBz := hid (then_w HB2.out hbd)
        refine (HTR.out wd).mono ?_
        rintro e ut ⟨A9, c9, rfl, hor, hb2⟩
        have hb := then_w hbd hb2
        have HBT := hid (then_w HB2.out hb)
        have HXT := hid (HX2.out.later hb)
        have HRT := hid (HR2.out.later hb)
        have HOR := hid hor
        clear hd hbd hb hb2 hor
        obtain ⟨v0, v1, v2⟩ := HXT.out.c3
        refine hK.out _ _ ?_ (fun hH2 => ?_)
        next =>
         exact ⟨v0, v1, v2⟩
        clear hK K
        try simp only [apt12]
        clear v0 v1 v2
        refine tkJ 5 ⟨some 90, .extract (.tmp 89) 0, 24, "ref.go:187", #[⟨4, .data⟩], none⟩ ?_
        refine tkJ 6 ⟨some 91, .extract (.tmp 89) 1, 3, "ref.go:187", #[⟨4, .data⟩], none⟩ ?_
        refine tkJ 7 ⟨some 92, .extract (.tmp 89) 2, 25, "ref.go:187", #[⟨4, .data⟩], none⟩ ?_
        refine rdJ 8 ⟨none, .store 24 (.tmp 8) (.tmp 90), 0, "ref.go:187", #[⟨5, .data⟩, ⟨4, .chain⟩, ⟨0, .phase⟩, ⟨1, .phase⟩, ⟨2, .phase⟩, ⟨3, .phase⟩, ⟨4, .phase⟩, ⟨5, .phase⟩, ⟨6, .phase⟩, ⟨7, .phase⟩], none⟩ fun K hK => ?_
        obtain ⟨k0, k1, k2⟩ := HRT.out.c3
        obtain ⟨f0, f1, f2⟩ := HRT.out.f3
        go_simp
        clear k0 k1 k2 f0 f1 f2
        have HBE := below_s3 HBT.out HRW.out (.slice A9 ra.1.objs.length c9) (.int .i64 ra.1.cap) (.int .i64 ra.1.last)
        have HX9 := ((HXT.out.far (p := ⟨bR, 0, none⟩) HNE.out (.slice A9 ra.1.objs.length c9)).far (p := ⟨bR, 1, none⟩) HNE.out (.int .i64 ra.1.cap)).far (p := ⟨bR, 2, none⟩) HNE.out (.int .i64 ra.1.last)
        obtain ⟨v0, v1, v2⟩ := HX9.c3
        refine hK.out _ _ ?_ (fun hH3 => ?_)
        next =>
         exact ⟨v0, v1, v2⟩
        clear hK K
        try simp only [apt12]
        clear v0 v1 v2
        clear HX9
        refine tkJ 9 ⟨some 9, .assign (.tmp 91), 3, "ref.go:187", #[⟨6, .data⟩, ⟨8, .chain⟩, ⟨0, .phase⟩, ⟨1, .phase⟩, ⟨2, .phase⟩, ⟨3, .phase⟩, ⟨4, .phase⟩, ⟨5, .phase⟩, ⟨6, .phase⟩, ⟨7, .phase⟩, ⟨8, .phase⟩], none⟩ ?_
        refine tkJ 10 ⟨some 10, .assign (.tmp 92), 25, "ref.go:187", #[⟨7, .data⟩, ⟨9, .chain⟩, ⟨0, .phase⟩, ⟨1, .phase⟩, ⟨2, .phase⟩, ⟨3, .phase⟩, ⟨4, .phase⟩, ⟨5, .phase⟩, ⟨6, .phase⟩, ⟨7, .phase⟩, ⟨8, .phase⟩, ⟨9, .phase⟩], none⟩ ?_
        refine wpAnyH_done (by kernel_rfl) ?_ _
        have HK := HRT.out.s3 (.slice A9 ra.1.objs.length c9) (.int .i64 ra.1.cap) (.int .i64 ra.1.last)
        obtain ⟨r0, r1, r2⟩ := HK
        go_wp2_with fail
        refine bodyPost_ret (v := .tuple #[.agg #[.slice A9 ra.1.objs.length c9, .int .i64 ra.1.cap, .int .i64 ra.1.last], .int .i64 ra.2.1, .int .i64 ra.2.2]) (by simp [results, Tryz.results46, go_sem, r0, r1, r2]) rfl ?_
        rw [HE.out]
        refine ⟨A9, c9, rfl, ?_, HBE⟩
        rcases HOR.out with h1 | ⟨ls, h1, h2⟩
        next =>
         exact .inl h1
        next =>
         exact .inr ⟨ls, h1, h2.s3_13 HRT.out _ _ _⟩
       next =>
        have b22 : (num == 22) = false := by simpa using h22
        obtain ⟨z, hz⟩ : ∃ z, z = fOp (num - 17) x y := ⟨_, rfl⟩
        obtain ⟨ra, hra⟩ : ∃ z' : Rs, z' = nf13 h z := ⟨_, rfl⟩
        have HE : Hid (r = ra) := by show _ = _; rw [HR4.out, hra, hz, if_neg h21, if_neg h22]
        have hw17 : IntKind.i64.wrap (num - 17) = num - 17 := IntWalk.i64_in _ (by have := HNUM.out; omega)
        have HOP : Hid (∀ W, On w2.heap.size w2 W → Calls Tryz.prog 94 #[.int .i64 (num - 17), .int .i64 x, .int .i64 y] W fun e w' => e = .returned (.int .i64 z) ∧ On w2.heap.size w2 w') := by
          show ∀ W, _
          intro W hW
          rw [hz]; exact rop_any HXI.out HYI.out hW
        have HZC : Hid (canon z = z) := by show _ = _; rw [hz]; exact canon_fOp HXI.out HYI.out _
        have HRA := hid hra
        have HFO : Hid (∀ W, ObsR W A h.objs → w.heap.size ≤ W.heap.size → Calls Tryz.prog 91 #[.agg #[.slice A h.objs.length c, .int .i64 h.cap, .int .i64 h.last], .int .i64 z] W (RsQ13 w.heap.size W h A c ra)) := by
          show ∀ W, _
          intro W hW hsz
          have := rfloat_any13 h z A c W hW HF.out
          rw [HZC.out, ← HRA.out] at this
          exact this.mono fun _ _ p => p.q hsz
        clear hz hra
        obtain ⟨x0, x1, x2⟩ := HX2.out.c3
        go_upto_region 18 with fail
        refine wp_region_held_drew (S := (fun w' => w'.cell? ⟨w.heap.size, 0, none⟩ = some (.slice A h.objs.length c) ∧ w'.cell? ⟨w.heap.size, 1, none⟩ = some (.int .i64 h.cap) ∧ w'.cell? ⟨w.heap.size, 2, none⟩ = some (.int .i64 h.last))) (by kernel_rfl) ?_ (fun hH0 => ?_)
        next =>
         exact ⟨dcJ x0, dcJ x1, dcJ x2⟩
        refine tkJ 0 ⟨some 93, .load 24 (.tmp 4), 24, "ref.go:189", #[], none⟩ ?_
        refine tkJ 1 ⟨some 94, .move (.tmp 1), 3, "ref.go:189", #[], none⟩ ?_
        refine tkJ 2 ⟨some 95, .binOp .sub 3 (.tmp 94) (.const (Go.Value.int .i64 17)) 3, 3, "ref.go:189", #[⟨1, .data⟩], none⟩ ?_
        refine tkJ 3 ⟨some 96, .move (.tmp 11), 3, "ref.go:189", #[], none⟩ ?_
        refine tkJ 4 ⟨some 97, .move (.tmp 15), 3, "ref.go:189", #[], none⟩ ?_
        refine rdJ 5 ⟨some 98, .call { callee := .value (.func 94), args := #[.tmp 95, .tmp 96, .tmp 97], argTypes := #[3, 3, 3] }, 3, "ref.go:189", #[⟨2, .data⟩, ⟨3, .data⟩, ⟨4, .data⟩], none⟩ fun K hK => ?_
        go_simp
        go_at_call 94
        refine (HOP.out _ ⟨(Below.refl _ w2).drew, Nat.le_refl _⟩).mono ?_
        rintro e wd ⟨rfl, hon⟩
        have hbd := hon.1
        have HBz := hid (then_w HB2.out hbd)
        have HXz := hid (HX2.out.later hbd)
        have HBD := hid hbd
        clear hon hbd
        obtain ⟨v0, v1, v2⟩ := HXz.out.c3
        refine hK.out _ _ ?_ (fun hH1 => ?_)
        next =>
         exact ⟨v0, v1, v2⟩
        clear hK K
        try simp only [apt12]
        clear v0 v1 v2
        refine rdJ 6 ⟨some 99, .call { callee := .value (.func 91), args := #[.tmp 93, .tmp 98], argTypes := #[24, 3] }, 44, "ref.go:189", #[⟨0, .data⟩, ⟨5, .data⟩, ⟨5, .chain⟩], none⟩ fun K hK => ?_
        go_simp
        go_at_call 91
        have hbd := HBD.out
        have hd := True.intro
        refine (HFO.out wd (HS.out.below HBz.out) HBz.out.size).mono ?_
        rintro e ut ⟨A9, c9, rfl, hor, hb2⟩
        have hb := then_w hbd hb2
        have HBT := hid (then_w HB2.out hb)
        have HXT := hid (HX2.out.later hb)
        have HRT := hid (HR2.out.later hb)
        have HOR := hid hor
        clear hd hbd hb hb2 hor
        obtain ⟨v0, v1, v2⟩ := HXT.out.c3
        refine hK.out _ _ ?_ (fun hH2 => ?_)
        next =>
         exact ⟨v0, v1, v2⟩
        clear hK K
        try simp only [apt12]
        clear v0 v1 v2
        refine tkJ 7 ⟨some 100, .extract (.tmp 99) 0, 24, "ref.go:189", #[⟨6, .data⟩], none⟩ ?_
        refine tkJ 8 ⟨some 101, .extract (.tmp 99) 1, 3, "ref.go:189", #[⟨6, .data⟩], none⟩ ?_
        refine tkJ 9 ⟨some 102, .extract (.tmp 99) 2, 25, "ref.go:189", #[⟨6, .data⟩], none⟩ ?_
        refine rdJ 10 ⟨none, .store 24 (.tmp 8) (.tmp 100), 0, "ref.go:189", #[⟨7, .data⟩, ⟨6, .chain⟩, ⟨0, .phase⟩, ⟨1, .phase⟩, ⟨2, .phase⟩, ⟨3, .phase⟩, ⟨4, .phase⟩, ⟨5, .phase⟩, ⟨6, .phase⟩, ⟨7, .phase⟩, ⟨8, .phase⟩, ⟨9, .phase⟩], none⟩ fun K hK => ?_
        obtain ⟨k0, k1, k2⟩ := HRT.out.c3
        obtain ⟨f0, f1, f2⟩ := HRT.out.f3
        go_simp
        clear k0 k1 k2 f0 f1 f2
        have HBE := below_s3 HBT.out HRW.out (.slice A9 ra.1.objs.length c9) (.int .i64 ra.1.cap) (.int .i64 ra.1.last)
        have HX9 := ((HXT.out.far (p := ⟨bR, 0, none⟩) HNE.out (.slice A9 ra.1.objs.length c9)).far (p := ⟨bR, 1, none⟩) HNE.out (.int .i64 ra.1.cap)).far (p := ⟨bR, 2, none⟩) HNE.out (.int .i64 ra.1.last)
        obtain ⟨v0, v1, v2⟩ := HX9.c3
        refine hK.out _ _ ?_ (fun hH3 => ?_)
        next =>
         exact ⟨v0, v1, v2⟩
        clear hK K
        try simp only [apt12]
        clear v0 v1 v2
        clear HX9
        refine tkJ 11 ⟨some 9, .assign (.tmp 101), 3, "ref.go:189", #[⟨8, .data⟩, ⟨10, .chain⟩, ⟨0, .phase⟩, ⟨1, .phase⟩, ⟨2, .phase⟩, ⟨3, .phase⟩, ⟨4, .phase⟩, ⟨5, .phase⟩, ⟨6, .phase⟩, ⟨7, .phase⟩, ⟨8, .phase⟩, ⟨9, .phase⟩, ⟨10, .phase⟩], none⟩ ?_
        refine tkJ 12 ⟨some 10, .assign (.tmp 102), 25, "ref.go:189", #[⟨9, .data⟩, ⟨11, .chain⟩, ⟨0, .phase⟩, ⟨1, .phase⟩, ⟨2, .phase⟩, ⟨3, .phase⟩, ⟨4, .phase⟩, ⟨5, .phase⟩, ⟨6, .phase⟩, ⟨7, .phase⟩, ⟨8, .phase⟩, ⟨9, .phase⟩, ⟨10, .phase⟩, ⟨11, .phase⟩], none⟩ ?_
        refine wpAnyH_done (by kernel_rfl) ?_ _
        have HK := HRT.out.s3 (.slice A9 ra.1.objs.length c9) (.int .i64 ra.1.cap) (.int .i64 ra.1.last)
        obtain ⟨r0, r1, r2⟩ := HK
        go_wp2_with fail
        refine bodyPost_ret (v := .tuple #[.agg #[.slice A9 ra.1.objs.length c9, .int .i64 ra.1.cap, .int .i64 ra.1.last], .int .i64 ra.2.1, .int .i64 ra.2.2]) (by simp [results, Tryz.results46, go_sem, r0, r1, r2]) rfl ?_
        rw [HE.out]
        refine ⟨A9, c9, rfl, ?_, HBE⟩
        rcases HOR.out with h1 | ⟨ls, h1, h2⟩
        next =>
         exact .inl h1
        next =>
         exact .inr ⟨ls, h1, h2.s3_13 HRT.out _ _ _⟩
end Go.Proofs.YtnilempeldlieaaGreat
