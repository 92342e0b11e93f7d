/- The document on primitives: a new object. The document on primitives: a quotient, rounded down. -/
import Derived.Test.YtnilempeldlieaaGreatJYD13
import Derived.Test.YtnilempeldlieaaGreatJ14
import Derived.Test.YtnilempeldlieaaGreatJ13
import Derived.Test.YtnilempeldlieaaGreatJ10
import Derived.Test.YtnilempeldlieaaGreatJPM13
namespace Go.Proofs.YtnilempeldlieaaGreat
open Go.RowKit Flt
set_option maxRecDepth 100000
theorem al_out13 (h : Hp) {cl k n : Int} (hk : k = 0 ∨ k = 1) (hn : n < 0 ∨ 64 < n) : al13 h cl k n = fa13 h := by
  have hm : mostI k = 64 := by rcases hk with rfl | rfl <;> rfl
  have : roE h cl k n = 1 ∨ roE h cl k n = 31 ∨ roE h cl k n = 33 ∨ roE h cl k n = 32 := by
    unfold roE
    rw [hm]
    repeat' split
    all_goals first | omega | simp
  unfold al13
  rw [if_neg (by omega), if_neg (by omega)]
theorem cl_parts13 {h : Hp} {s : Int} (e : clB9 h s = true) : refB h.objs.length s = true ∧ (obAt h s).kind = 0 ∧ 3 ≤ (obAt h s).slots.length ∧ nB (sl9 h s 2) = true ∧ 0 ≤ nV (sl9 h s 2) ∧ nV (sl9 h s 2) ≤ 64 := by
  unfold clB9 at e
  simp only [Bool.and_eq_true, decide_eq_true_eq] at e
  exact ⟨e.2.1, e.2.2.1, e.2.2.2.1, e.2.2.2.2.2.2.1, e.2.2.2.2.2.2.2.1, e.2.2.2.2.2.2.2.2⟩
set_option maxHeartbeats 1000000 in
theorem rfresh_any13 (h : Hp) (num s : Int) (al : List Int) (SA : Option Addr) (da : Nat) (A : Option Addr) (c : Nat) (w : World) (hs : ObsR w A h.objs) (fit : h.Fit) (hsa : IntsR w SA al) (hal : num ≠ 11 → 0 < al.length) :
    Calls Tryz.prog 44 #[.agg #[.slice A h.objs.length c, .int .i64 h.cap, .int .i64 h.last], .int .i64 num, .int .i64 s, .slice SA al.length da] w (RsP13 w h A c (fr13 h num s (al.getD 0 0))) := by
  have HS := hid hs
  have HF := hid fit
  have HSA := hid hsa
  have HAL := hid hal
  clear hs fit hsa hal
  obtain ⟨r, hr⟩ : ∃ r, r = fr13 h num s (al.getD 0 0) := ⟨_, rfl⟩
  rw [← hr]
  have HRR := hid hr
  clear hr
  obtain ⟨w0, hw0⟩ : ∃ u, u = (w.alloc (.cells #[Value.slice A h.objs.length c, Value.int .i64 h.cap, Value.int .i64 h.last] 24)).alloc (.cells #[.slice none 0 0, .int .i64 0, .int .i64 0] 24) := ⟨_, rfl⟩
  obtain ⟨bR, hbR⟩ : ∃ x, x = w.heap.size + 1 := ⟨_, rfl⟩
  have HB0 : Hid (Below w.heap.size w w0) := by show Below _ _ _; rw [hw0]; exact below_alloc2 w _ _
  have HX0 : Hid (Lies w0 w.heap.size 24 #[Value.slice A h.objs.length c, Value.int .i64 h.cap, Value.int .i64 h.last]) := by
    show Lies _ _ _ _
    rw [hw0]; exact (Lies.new _ _ _).alloc _
  have HR0 : Hid (Lies w0 bR 24 #[.slice none 0 0, .int .i64 0, .int .i64 0]) := by
    show Lies _ _ _ _
    have := Lies.new (w.alloc (.cells #[Value.slice A h.objs.length c, Value.int .i64 h.cap, Value.int .i64 h.last] 24)) 24 #[.slice none 0 0, .int .i64 0, .int .i64 0]
    rw [hw0, hbR]; simpa using this
  have HRW : Hid (w.heap.size ≤ bR) := by show _ ≤ _; omega
  have HNE : Hid (w.heap.size ≠ bR) := by show _ ≠ _; omega
  go_enter Tryz.func44, Tryz.ntmps44
  go_upto_region 1 with fail
  rw [← hw0, ← hbR]
  clear hw0 hbR
  obtain ⟨x0, x1, x2⟩ := HX0.out.c3
  go_wp2_with fail
  refine (rclass_any9 h s A c w0 (HS.out.below HB0.out) HF.out).mono ?_
  rintro e w1 ⟨rfl, hb⟩
  have HB1 := hid (then_w HB0.out hb)
  have HX1 := hid (HX0.out.later hb)
  have HR1 := hid (HR0.out.later hb)
  clear hb x0 x1 x2
  cases hc : clB9 h s
  next =>
   have HE : Hid (r = fa13 h) := by show _ = _; rw [HRR.out]; unfold fr13; rw [if_pos hc]
   clear hc
   obtain ⟨x0, x1, x2⟩ := HX1.out.c3
   go_wp2_with fail
   refine (rfail_any13 h A c w1).mono ?_
   rintro e w2 ⟨rfl, hb⟩
   have HB2 := hid (then_w HB1.out hb)
   have HX2 := hid (HX1.out.later hb)
   have HR2 := hid (HR1.out.later hb)
   clear hb x0 x1 x2
   obtain ⟨x0, x1, x2⟩ := HX2.out.c3
   obtain ⟨k0, k1, k2⟩ := HR2.out.c3
   obtain ⟨f0, f1, f2⟩ := HR2.out.f3
   go_wp2_with fail
   have HK := HR2.out.s3 (.slice A h.objs.length c) (.int .i64 h.cap) (.int .i64 h.last)
   obtain ⟨r0, r1, r2⟩ := HK
   have HBE := below_s3 HB2.out HRW.out (.slice A h.objs.length c) (.int .i64 h.cap) (.int .i64 h.last)
   refine bodyPost_ret (v := .tuple #[.agg #[.slice A h.objs.length c, .int .i64 h.cap, .int .i64 h.last], .int .i64 (fa13 h).2.1, .int .i64 (fa13 h).2.2]) (by simp [results, Tryz.results44, go_sem, r0, r1, r2]) rfl ?_
   rw [HE.out]
   exact ⟨HBE, .inl ⟨rfl, rfl⟩⟩
  next =>
   obtain ⟨c1, c2, c3, c4, c5, c6⟩ := cl_parts13 hc
   have HRC : Hid (r = if num = 11 then al13 h s 0 (nV (sl9 h s 2)) else if nB (al.getD 0 0) = false then fa13 h else al13 h s (if num = 27 then 1 else 0) (nV (al.getD 0 0))) := by
     show _ = _
     rw [HRR.out]; unfold fr13
     rw [if_neg (by rw [hc]; decide)]
   obtain ⟨L, hL⟩ : ∃ L, L = sls12 h s := ⟨_, rfl⟩
   have hLs : L = (obAt h s).slots := by
     rw [hL]; unfold sls12 kd12
     rw [c1, c2]; rfl
   obtain ⟨q, hq⟩ : ∃ q, q = sl9 h s 2 := ⟨_, rfl⟩
   have hL2 : L[2]? = some q := by
     rw [hLs, hq]; unfold sl9
     rw [List.getD_eq_getElem?_getD, List.getElem?_eq_getElem (by omega)]; rfl
   have hLl : (2 : Int) < (L.length : Int) := by rw [hLs]; omega
   obtain ⟨n0, hn0⟩ : ∃ n, n = nV q := ⟨_, rfl⟩
   have HSM : Hid (sm12 q 64 = n0) := by
     show _ = _
     unfold sm12
     rw [← hq] at c4 c5 c6
     rw [if_pos ⟨c4, c5, c6⟩, hn0]
   have hn0p : (0 : Int) ≤ n0 := by rw [hn0, hq]; exact c5
   rw [← hq, ← hn0] at HRC
   have HL := hid hL
   have HL2 := hid hL2
   clear hc c1 c2 c3 c4 c5 c6 HRR hL hLs hL2 hq hn0
   obtain ⟨x0, x1, x2⟩ := HX1.out.c3
   go_wp2_with fail
   refine (rslots_any12 h s A c w1 (HS.out.below HB1.out)).mono ?_
   rintro e w2 ⟨S2, d2, rfl, hin, -, hb⟩
   rw [← HL.out] at hin ⊢
   obtain ⟨bs, os, rfl, hbs, hcs⟩ := hin (by omega)
   have y2 := hcs 2 q HL2.out
   have HB2 := hid (then_w HB1.out hb)
   have HX2 := hid (HX1.out.later hb)
   have HR2 := hid (HR1.out.later hb)
   clear hin hbs hcs hb x0 x1 x2
   go_wp2_with fail
   refine (rsmall_any12 q 64 w2).mono ?_
   rintro e wx ⟨rfl, hw⟩
   rw [← hw, HSM.out]
   clear hw y2
   have hn0n : ¬ n0 < 0 := by omega
   by_cases h11 : num = 11
   next =>
    subst h11
    obtain ⟨ra, hra⟩ : ∃ x, x = al13 h s 0 n0 := ⟨_, rfl⟩
    have HE : Hid (r = ra) := by show _ = _; rw [HRC.out, hra]; rfl
    have HRA := hid (show Calls Tryz.prog 86 #[.agg #[.slice A h.objs.length c, .int .i64 h.cap, .int .i64 h.last], .int .i64 s, .int .i64 0, .int .i64 n0] w2 (RsP13 w2 h A c ra) from by rw [hra]; exact ralloc_any13 h s 0 n0 A c w2 (HS.out.below HB2.out) HF.out)
    clear hra
    obtain ⟨x0, x1, x2⟩ := HX2.out.c3
    go_wp2_with fail
    refine (HRA.out).mono ?_
    rintro e w3 ⟨hb, hor⟩
    have HB3 := hid (then_w HB2.out hb)
    have HX3 := hid (HX2.out.later hb)
    have HR3 := hid (HR2.out.later hb)
    clear hb x0 x1 x2
    rcases hor with ⟨hr1, rfl⟩ | ⟨A9, c9, ls, rfl, hm, ho⟩
    next =>
     have HR1_ := hid hr1
     clear hr1
     obtain ⟨x0, x1, x2⟩ := HX3.out.c3
     obtain ⟨k0, k1, k2⟩ := HR3.out.c3
     obtain ⟨f0, f1, f2⟩ := HR3.out.f3
     go_wp2_with fail
     have HK := HR3.out.s3 (.slice A h.objs.length c) (.int .i64 h.cap) (.int .i64 h.last)
     obtain ⟨r0, r1, r2⟩ := HK
     have HBE := below_s3 HB3.out HRW.out (.slice A h.objs.length c) (.int .i64 h.cap) (.int .i64 h.last)
     refine bodyPost_ret (v := .tuple #[.agg #[.slice A h.objs.length c, .int .i64 h.cap, .int .i64 h.last], .int .i64 ra.2.1, .int .i64 ra.2.2]) (by simp [results, Tryz.results44, go_sem, r0, r1, r2]) rfl ?_
     rw [HE.out]
     exact ⟨HBE, .inl ⟨HR1_.out, rfl⟩⟩
    next =>
     have HM_ := hid hm
     have HO_ := hid ho
     clear hm ho
     obtain ⟨x0, x1, x2⟩ := HX3.out.c3
     obtain ⟨k0, k1, k2⟩ := HR3.out.c3
     obtain ⟨f0, f1, f2⟩ := HR3.out.f3
     go_wp2_with fail
     have HK := HR3.out.s3 (.slice A9 ra.1.objs.length c9) (.int .i64 ra.1.cap) (.int .i64 ra.1.last)
     obtain ⟨r0, r1, r2⟩ := HK
     have HBE := below_s3 HB3.out HRW.out (.slice A9 ra.1.objs.length c9) (.int .i64 ra.1.cap) (.int .i64 ra.1.last)
     refine bodyPost_ret (v := .tuple #[.agg #[.slice A9 ra.1.objs.length c9, .int .i64 ra.1.cap, .int .i64 ra.1.last], .int .i64 ra.2.1, .int .i64 ra.2.2]) (by simp [results, Tryz.results44, go_sem, r0, r1, r2]) rfl ?_
     rw [HE.out]
     exact ⟨HBE, .inr ⟨A9, c9, ls, rfl, HM_.out, (HO_.out.lower HB2.out.size).s3_13 HR3.out _ _ _⟩⟩
   next =>
    have b11 : (num != 11) = true := by simpa using h11
    obtain ⟨a, ha⟩ : ∃ a, a = al.getD 0 0 := ⟨_, rfl⟩
    rw [← ha] at HRC
    have h0 := HAL.out h11
    obtain ⟨ba, oa, rfl, hba, hca⟩ := HSA.out h0
    have y0 : w2.cell? ⟨ba, oa, none⟩ = some (.int .i64 a) := by
      have := (HB2.out.cell (p := ⟨ba, oa + 0, none⟩) hba).trans (hca 0 a (by rw [ha, List.getD_eq_getElem?_getD, List.getElem?_eq_getElem h0]; rfl))
      simpa using this
    have h0I : (0 : Int) < (al.length : Int) := by omega
    rw [if_neg h11] at HRC
    clear hba hca ha h0
    go_wp2_with fail
    refine (rsmall_any12 a 64 w2).mono ?_
    rintro e wy ⟨rfl, hw⟩
    rw [← hw]
    clear hw y0
    by_cases hg : nB a = true ∧ 0 ≤ nV a ∧ nV a ≤ 64
    next =>
     obtain ⟨n, hn⟩ : ∃ n, n = nV a := ⟨_, rfl⟩
     have hs1 : sm12 a 64 = n := by unfold sm12; rw [if_pos hg, hn]
     rw [hs1]
     have hnn : ¬ n < 0 := by rw [hn]; have := hg.2.1; omega
     have HRD : Hid (r = al13 h s (if num = 27 then 1 else 0) n) := by show _ = _; rw [HRC.out, if_neg (by rw [hg.1]; decide), hn]
     clear hg hn hs1
     by_cases h27 : num = 27
     next =>
      subst h27
      obtain ⟨ra, hra⟩ : ∃ x, x = al13 h s 1 n := ⟨_, rfl⟩
      have HE : Hid (r = ra) := by show _ = _; rw [HRD.out, hra]; rfl
      have HRA := hid (show Calls Tryz.prog 86 #[.agg #[.slice A h.objs.length c, .int .i64 h.cap, .int .i64 h.last], .int .i64 s, .int .i64 1, .int .i64 n] w2 (RsP13 w2 h A c ra) from by rw [hra]; exact ralloc_any13 h s 1 n A c w2 (HS.out.below HB2.out) HF.out)
      clear hra
      obtain ⟨x0, x1, x2⟩ := HX2.out.c3
      go_wp2_with fail
      refine (HRA.out).mono ?_
      rintro e w3 ⟨hb, hor⟩
      have HB3 := hid (then_w HB2.out hb)
      have HX3 := hid (HX2.out.later hb)
      have HR3 := hid (HR2.out.later hb)
      clear hb x0 x1 x2
      rcases hor with ⟨hr1, rfl⟩ | ⟨A9, c9, ls, rfl, hm, ho⟩
      next =>
       have HR1_ := hid hr1
       clear hr1
       obtain ⟨x0, x1, x2⟩ := HX3.out.c3
       obtain ⟨k0, k1, k2⟩ := HR3.out.c3
       obtain ⟨f0, f1, f2⟩ := HR3.out.f3
       go_wp2_with fail
       have HK := HR3.out.s3 (.slice A h.objs.length c) (.int .i64 h.cap) (.int .i64 h.last)
       obtain ⟨r0, r1, r2⟩ := HK
       have HBE := below_s3 HB3.out HRW.out (.slice A h.objs.length c) (.int .i64 h.cap) (.int .i64 h.last)
       refine bodyPost_ret (v := .tuple #[.agg #[.slice A h.objs.length c, .int .i64 h.cap, .int .i64 h.last], .int .i64 ra.2.1, .int .i64 ra.2.2]) (by simp [results, Tryz.results44, go_sem, r0, r1, r2]) rfl ?_
       rw [HE.out]
       exact ⟨HBE, .inl ⟨HR1_.out, rfl⟩⟩
      next =>
       have HM_ := hid hm
       have HO_ := hid ho
       clear hm ho
       obtain ⟨x0, x1, x2⟩ := HX3.out.c3
       obtain ⟨k0, k1, k2⟩ := HR3.out.c3
       obtain ⟨f0, f1, f2⟩ := HR3.out.f3
       go_wp2_with fail
       have HK := HR3.out.s3 (.slice A9 ra.1.objs.length c9) (.int .i64 ra.1.cap) (.int .i64 ra.1.last)
       obtain ⟨r0, r1, r2⟩ := HK
       have HBE := below_s3 HB3.out HRW.out (.slice A9 ra.1.objs.length c9) (.int .i64 ra.1.cap) (.int .i64 ra.1.last)
       refine bodyPost_ret (v := .tuple #[.agg #[.slice A9 ra.1.objs.length c9, .int .i64 ra.1.cap, .int .i64 ra.1.last], .int .i64 ra.2.1, .int .i64 ra.2.2]) (by simp [results, Tryz.results44, go_sem, r0, r1, r2]) rfl ?_
       rw [HE.out]
       exact ⟨HBE, .inr ⟨A9, c9, ls, rfl, HM_.out, (HO_.out.lower HB2.out.size).s3_13 HR3.out _ _ _⟩⟩
     next =>
      have b27 : (num == 27) = false := by simpa using h27
      obtain ⟨ra, hra⟩ : ∃ x, x = al13 h s 0 n := ⟨_, rfl⟩
      have HE : Hid (r = ra) := by show _ = _; rw [HRD.out, hra]; rw [if_neg h27]
      have HRA := hid (show Calls Tryz.prog 86 #[.agg #[.slice A h.objs.length c, .int .i64 h.cap, .int .i64 h.last], .int .i64 s, .int .i64 0, .int .i64 n] w2 (RsP13 w2 h A c ra) from by rw [hra]; exact ralloc_any13 h s 0 n A c w2 (HS.out.below HB2.out) HF.out)
      clear hra
      obtain ⟨x0, x1, x2⟩ := HX2.out.c3
      go_wp2_with fail
      refine (HRA.out).mono ?_
      rintro e w3 ⟨hb, hor⟩
      have HB3 := hid (then_w HB2.out hb)
      have HX3 := hid (HX2.out.later hb)
      have HR3 := hid (HR2.out.later hb)
      clear hb x0 x1 x2
      rcases hor with ⟨hr1, rfl⟩ | ⟨A9, c9, ls, rfl, hm, ho⟩
      next =>
       have HR1_ := hid hr1
       clear hr1
       obtain ⟨x0, x1, x2⟩ := HX3.out.c3
       obtain ⟨k0, k1, k2⟩ := HR3.out.c3
       obtain ⟨f0, f1, f2⟩ := HR3.out.f3
       go_wp2_with fail
       have HK := HR3.out.s3 (.slice A h.objs.length c) (.int .i64 h.cap) (.int .i64 h.last)
       obtain ⟨r0, r1, r2⟩ := HK
       have HBE := below_s3 HB3.out HRW.out (.slice A h.objs.length c) (.int .i64 h.cap) (.int .i64 h.last)
       refine bodyPost_ret (v := .tuple #[.agg #[.slice A h.objs.length c, .int .i64 h.cap, .int .i64 h.last], .int .i64 ra.2.1, .int .i64 ra.2.2]) (by simp [results, Tryz.results44, go_sem, r0, r1, r2]) rfl ?_
       rw [HE.out]
       exact ⟨HBE, .inl ⟨HR1_.out, rfl⟩⟩
      next =>
       have HM_ := hid hm
       have HO_ := hid ho
       clear hm ho
       obtain ⟨x0, x1, x2⟩ := HX3.out.c3
       obtain ⟨k0, k1, k2⟩ := HR3.out.c3
       obtain ⟨f0, f1, f2⟩ := HR3.out.f3
       go_wp2_with fail
       have HK := HR3.out.s3 (.slice A9 ra.1.objs.length c9) (.int .i64 ra.1.cap) (.int .i64 ra.1.last)
       obtain ⟨r0, r1, r2⟩ := HK
       have HBE := below_s3 HB3.out HRW.out (.slice A9 ra.1.objs.length c9) (.int .i64 ra.1.cap) (.int .i64 ra.1.last)
       refine bodyPost_ret (v := .tuple #[.agg #[.slice A9 ra.1.objs.length c9, .int .i64 ra.1.cap, .int .i64 ra.1.last], .int .i64 ra.2.1, .int .i64 ra.2.2]) (by simp [results, Tryz.results44, go_sem, r0, r1, r2]) rfl ?_
       rw [HE.out]
       exact ⟨HBE, .inr ⟨A9, c9, ls, rfl, HM_.out, (HO_.out.lower HB2.out.size).s3_13 HR3.out _ _ _⟩⟩
    next =>
     have hs1 : sm12 a 64 = -1 := by unfold sm12; rw [if_neg hg]
     rw [hs1]
     have HE : Hid (r = fa13 h) := by
       show _ = _
       rw [HRC.out]
       cases hn : nB a
       next =>
        rfl
       next =>
        rw [if_neg (by decide)]
        refine al_out13 h (by split <;> simp) ?_
        by_cases g : nV a < 0
        next =>
         exact .inl g
        next =>
         refine .inr ?_
         have : ¬ nV a ≤ 64 := fun k => hg ⟨hn, by omega, k⟩
         omega
     clear hg hs1
     obtain ⟨x0, x1, x2⟩ := HX2.out.c3
     go_wp2_with fail
     refine (rfail_any13 h A c w2).mono ?_
     rintro e w3 ⟨rfl, hb⟩
     have HB3 := hid (then_w HB2.out hb)
     have HX3 := hid (HX2.out.later hb)
     have HR3 := hid (HR2.out.later hb)
     clear hb x0 x1 x2
     obtain ⟨x0, x1, x2⟩ := HX3.out.c3
     obtain ⟨k0, k1, k2⟩ := HR3.out.c3
     obtain ⟨f0, f1, f2⟩ := HR3.out.f3
     go_wp2_with fail
     have HK := HR3.out.s3 (.slice A h.objs.length c) (.int .i64 h.cap) (.int .i64 h.last)
     obtain ⟨r0, r1, r2⟩ := HK
     have HBE := below_s3 HB3.out HRW.out (.slice A h.objs.length c) (.int .i64 h.cap) (.int .i64 h.last)
     refine bodyPost_ret (v := .tuple #[.agg #[.slice A h.objs.length c, .int .i64 h.cap, .int .i64 h.last], .int .i64 (fa13 h).2.1, .int .i64 (fa13 h).2.2]) (by simp [results, Tryz.results44, go_sem, r0, r1, r2]) rfl ?_
     rw [HE.out]
     exact ⟨HBE, .inl ⟨rfl, rfl⟩⟩
end Go.Proofs.YtnilempeldlieaaGreat
namespace Go.Proofs.YtnilempeldlieaaGreat
open Go.RowKit Flt
set_option maxRecDepth 100000
theorem mulY13 {q n : Int} (hq : -1073741825 ≤ q ∧ q ≤ 1073741824) (hn : -1073741824 ≤ n ∧ n ≤ 1073741823) : -1152921505680588800 ≤ q * n ∧ q * n ≤ 1152921505680588800 := by
  have h : (q * n).natAbs ≤ 1073741825 * 1073741824 := by
    rw [Int.natAbs_mul]
    exact Nat.mul_le_mul (by omega) (by omega)
  omega
theorem restY13 {m n : Int} (_h0 : n ≠ 0) : m.fdiv n * n + (m - n * m.fdiv n) = m ∧ (0 < n → 0 ≤ m - n * m.fdiv n ∧ m - n * m.fdiv n < n) ∧ (n < 0 → n < m - n * m.fdiv n ∧ m - n * m.fdiv n ≤ 0) := by
  have e := Int.mul_fdiv_add_fmod m n
  have e2 : m - n * m.fdiv n = m.fmod n := by omega
  rw [e2]
  refine ⟨by rw [Int.mul_comm]; exact e, fun hp => ⟨Int.fmod_nonneg_of_pos m hp, Int.fmod_lt_of_pos m hp⟩, fun hp => ?_⟩
  have g : m.fmod n = -((-m).fmod (-n)) := by rw [Int.neg_fmod_neg]; omega
  have g1 := Int.fmod_nonneg_of_pos (-m) (show 0 < -n by omega)
  have g2 := Int.fmod_lt_of_pos (-m) (show 0 < -n by omega)
  omega
theorem near13 {m n : Int} (h0 : n ≠ 0) : (m.fdiv n * n = m ∨ (0 < n ∧ m.fdiv n * n < m) ∨ (n < 0 ∧ m < m.fdiv n * n)) ∧ (m.tdiv n = m.fdiv n ∨ (m.tdiv n = m.fdiv n + 1 ∧ ((0 < n ∧ m < m.tdiv n * n) ∨ (n < 0 ∧ m.tdiv n * n < m)))) := by
  have hc : m.fdiv n * n = n * m.fdiv n := Int.mul_comm _ _
  have hd : m.tdiv n * n = n * m.tdiv n := Int.mul_comm _ _
  have hq := fdiv_q13 (s := m) h0
  rw [hc, hd]
  have hs : n * (m.fdiv n + 1) = n * m.fdiv n + n := by rw [Int.mul_add, Int.mul_one]
  have hk : m.tdiv n = m.fdiv n ∨ m.tdiv n = m.fdiv n + 1 ∧ m.tmod n ≠ 0 := by
    split at hq
    · rename_i g; exact .inr ⟨by omega, g.1⟩
    · exact .inl hq.symm
  have h2 := Int.mul_tdiv_add_tmod m n
  obtain ⟨-, p1, p2⟩ := restY13 (m := m) h0
  rcases Int.lt_or_gt_of_ne h0 with hn | hn
  · have f1 := p2 hn
    refine ⟨by omega, ?_⟩
    rcases hk with g | ⟨g, g2⟩
    · exact .inl g
    · refine .inr ⟨g, ?_⟩
      rw [g, hs] at h2
      rw [g, hs]
      omega
  · have f1 := p1 hn
    refine ⟨by omega, ?_⟩
    rcases hk with g | ⟨g, g2⟩
    · exact .inl g
    · refine .inr ⟨g, ?_⟩
      rw [g, hs] at h2
      rw [g, hs]
      omega
set_option maxHeartbeats 1000000 in
theorem rover_any13 {m n : Int} (hm : -1073741824 ≤ m ∧ m ≤ 1073741823) (hn : -1073741824 ≤ n ∧ n ≤ 1073741823) (h0 : n ≠ 0) (w : World) : Calls Tryz.prog 76 #[.int .i64 m, .int .i64 n] w fun e w' => e = .returned (.int .i64 (m.fdiv n)) ∧ Below w.heap.size w w' := by
  have hb := tdiv_bd13 (n := n) hm
  have hbf := fdiv_bd13 hm h0
  have hw : IntKind.i64.wrap (m.tdiv n) = m.tdiv n := IntWalk.i64_in _ (by omega)
  have hz : (n == 0) = false := by simpa using h0
  obtain ⟨N1, N2⟩ := near13 (m := m) h0
  have hpf := mulY13 (q := m.fdiv n) (n := n) (by omega) (by omega)
  have hpt := mulY13 (q := m.tdiv n) (n := n) (by omega) (by omega)
  obtain ⟨r, hr⟩ : ∃ r, r = m.fdiv n := ⟨_, rfl⟩
  obtain ⟨t, ht⟩ : ∃ r, r = m.tdiv n := ⟨_, rfl⟩
  rw [← hr] at N1 N2 hpf hbf ⊢
  rw [← ht] at N2 hpt hb
  have HT := hid ht
  have H1 := hid N1
  have H2 := hid N2
  have HPF : Hid (IntKind.i64.wrap (r * n) = r * n) := IntWalk.i64_in _ (by omega)
  have HPT : Hid (IntKind.i64.wrap (t * n) = t * n) := IntWalk.i64_in _ (by omega)
  have hw1 : IntKind.i64.wrap (t - 1) = t - 1 := IntWalk.i64_in _ (by omega)
  clear hr N1 N2 hpf hpt hb hbf
  go_enter Tryz.func76, Tryz.ntmps76
  go_wp2_with fail
  rw [← HT.out]
  clear ht hw
  go_loopw [5] (fun q wr => ∃ x : Int, q = .int .i64 x ∧ (x = r ∨ (x = t ∧ x ≠ r)) ∧ wr = w) (fun q _ => if intOf q = r then 0 else 1)
  case atStart =>
    by_cases g : t = r
    · exact ⟨t, rfl, .inl g, rfl⟩
    · exact ⟨t, rfl, .inr ⟨rfl, g⟩, rfl⟩
  case round =>
    obtain ⟨x, rfl, hx, rfl⟩ := hrel
    rcases hx with rfl | ⟨rfl, hne⟩
    · obtain ⟨d, hd⟩ : ∃ d, d = x * n := ⟨_, rfl⟩
      have hwp : IntKind.i64.wrap (x * n) = d := by rw [hd]; exact HPF.out
      have h1 := H1.out
      rw [← hd] at h1
      clear hd
      rcases h1 with h1 | ⟨h1, h2⟩ | ⟨h1, h2⟩
      · have e1 : (d != m) = false := by simpa using h1
        go_wp2_with fail
        go_ret
        exact ⟨rfl, Below.refl _ _⟩
      · have e1 : (d != m) = true := by simp; omega
        have e2 : ¬ m < d := by omega
        go_wp2_with fail
        go_ret
        exact ⟨rfl, Below.refl _ _⟩
      · have e1 : (d != m) = true := by simp; omega
        have e2 : ¬ 0 < n := by omega
        go_wp2_with fail
        go_ret
        exact ⟨rfl, Below.refl _ _⟩
    · have h2 := H2.out
      rcases h2 with h2 | ⟨h2, h3⟩
      · exact absurd h2 hne
      obtain ⟨d, hd⟩ : ∃ d, d = x * n := ⟨_, rfl⟩
      have hwp : IntKind.i64.wrap (x * n) = d := by rw [hd]; exact HPT.out
      rw [← hd] at h3
      clear hd
      have HX1 : Hid (x - 1 = r) := by show _ = _; omega
      clear h2
      rcases h3 with ⟨h3, h4⟩ | ⟨h3, h4⟩
      · have e1 : (d != m) = true := by simp; omega
        go_wp2_with fail
        go_roundw
        case rel => exact ⟨x - 1, rfl, .inl HX1.out, trivial⟩
        case measure => simp [intOf, HX1.out, hne]
      · have e1 : (d != m) = true := by simp; omega
        have e2 : ¬ m < d := by omega
        have e3 : ¬ 0 < n := by omega
        go_wp2_with fail
        go_roundw
        case rel => exact ⟨x - 1, rfl, .inl HX1.out, trivial⟩
        case measure => simp [intOf, HX1.out, hne]
end Go.Proofs.YtnilempeldlieaaGreat
