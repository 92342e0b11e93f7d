/- The document on primitives: whole numbers. The document on primitives: how many arguments one takes. -/
import Derived.Test.YtnilempeldlieaaGreatJ04
import Derived.Test.YtnilempeldlieaaGreatJ17
import Derived.Test.YtnilempeldlieaaGreatJ10
namespace Go.Proofs.YtnilempeldlieaaGreat
open Go.RowKit Flt
set_option maxRecDepth 100000
theorem wh_h13 (h : Hp) (num s a : Int) : (wh13 h num s a).1 = h := by
  unfold wh13 in13 fa13 tr13
  repeat' split
  all_goals rfl
set_option maxHeartbeats 800000 in
theorem rwhole_any13 (h : Hp) (num s a : Int) (A : Option Addr) (c : Nat) (w : World) : Calls Tryz.prog 42 #[.agg #[.slice A h.objs.length c, .int .i64 h.cap, .int .i64 h.last], .int .i64 num, .int .i64 s, .int .i64 a] w (RsH13 w h A c (wh13 h num s a)) := by
  obtain ⟨r, hr⟩ : ∃ r, r = wh13 h num s a := ⟨_, rfl⟩
  rw [← hr]
  obtain ⟨m, hm⟩ : ∃ m, m = nV s := ⟨_, rfl⟩
  obtain ⟨n, hn⟩ : ∃ n, n = nV a := ⟨_, rfl⟩
  have HRR : Hid (r = if nB s = false ∨ nB a = false then fa13 h
    else if num = 1 then in13 h (m + n)
    else if num = 2 then in13 h (m - n)
    else if num = 3 then in13 h (m * n)
    else if num = 4 then (if n = 0 then fa13 h else in13 h (m.fdiv n))
    else if num = 5 then (if n = 0 then fa13 h else in13 h (m - n * m.fdiv n))
    else if num = 6 then tr13 h (decide (m < n))
    else tr13 h (decide (m = n))) := by show _ = _; rw [hr, hm, hn]; rfl
  have HMV := hid hm
  have HNV := hid hn
  clear hr hm hn
  obtain ⟨w0, hw0⟩ : ∃ u, u = (w.alloc (.cells #[Value.slice A h.objs.length c, Value.int .i64 h.cap, Value.int .i64 h.last] 24)).alloc (.cells #[.slice none 0 0, .int .i64 0, .int .i64 0] 24) := ⟨_, rfl⟩
  obtain ⟨bR, hbR⟩ : ∃ x, x = w.heap.size + 1 := ⟨_, rfl⟩
  have HB0 : Hid (Below w.heap.size w w0) := by show Below _ _ _; rw [hw0]; exact below_alloc2 w _ _
  have HX0 : Hid (Lies w0 w.heap.size 24 #[Value.slice A h.objs.length c, Value.int .i64 h.cap, Value.int .i64 h.last]) := by
    show Lies _ _ _ _
    rw [hw0]; exact (Lies.new _ _ _).alloc _
  have HR0 : Hid (Lies w0 bR 24 #[.slice none 0 0, .int .i64 0, .int .i64 0]) := by
    show Lies _ _ _ _
    have := Lies.new (w.alloc (.cells #[Value.slice A h.objs.length c, Value.int .i64 h.cap, Value.int .i64 h.last] 24)) 24 #[.slice none 0 0, .int .i64 0, .int .i64 0]
    rw [hw0, hbR]; simpa using this
  have HRW : Hid (w.heap.size ≤ bR) := by show _ ≤ _; omega
  have HNE : Hid (w.heap.size ≠ bR) := by show _ ≠ _; omega
  go_enter Tryz.func42, Tryz.ntmps42
  go_upto_region 1 with fail
  rw [← hw0, ← hbR]
  clear hw0 hbR
  go_wp2_with fail
  refine (rn_any s w0).mono ?_
  rintro e wa ⟨rfl, hw⟩
  rw [← hw, ← HMV.out]
  clear hw
  go_wp2_with fail
  refine (rn_any a w0).mono ?_
  rintro e wb ⟨rfl, hw⟩
  rw [← hw, ← HNV.out]
  clear hw
  cases hs : nB s
  next =>
   clear HMV HNV
   have HE : Hid (r = fa13 h) := by show _ = _; rw [HRR.out, if_pos (.inl hs)]
   obtain ⟨x0, x1, x2⟩ := HX0.out.c3
   clear hs
   go_wp2_with fail
   refine (rfail_any13 h A c w0).mono ?_
   rintro e w1 ⟨rfl, hb⟩
   have HB1 := hid (then_w HB0.out hb)
   have HX1 := hid (HX0.out.later hb)
   have HR1 := hid (HR0.out.later hb)
   clear hb x0 x1 x2
   obtain ⟨x0, x1, x2⟩ := HX1.out.c3
   obtain ⟨k0, k1, k2⟩ := HR1.out.c3
   obtain ⟨f0, f1, f2⟩ := HR1.out.f3
   go_wp2_with fail
   have HK := HR1.out.s3 (.slice A h.objs.length c) (.int .i64 h.cap) (.int .i64 h.last)
   obtain ⟨r0, r1, r2⟩ := HK
   have HBE := below_s3 HB1.out HRW.out (.slice A h.objs.length c) (.int .i64 h.cap) (.int .i64 h.last)
   refine bodyPost_ret (v := .tuple #[.agg #[.slice A h.objs.length c, .int .i64 h.cap, .int .i64 h.last], .int .i64 (fa13 h).2.1, .int .i64 (fa13 h).2.2]) (by simp [results, Tryz.results42, go_sem, r0, r1, r2]) rfl ?_
   exact ⟨by rw [HE.out], HBE⟩
  next =>
   cases ha : nB a
   next =>
    have HE : Hid (r = fa13 h) := by show _ = _; rw [HRR.out, if_pos (.inr ha)]
    obtain ⟨x0, x1, x2⟩ := HX0.out.c3
    clear hs ha
    go_wp2_with fail
    refine (rfail_any13 h A c w0).mono ?_
    rintro e w1 ⟨rfl, hb⟩
    have HB1 := hid (then_w HB0.out hb)
    have HX1 := hid (HX0.out.later hb)
    have HR1 := hid (HR0.out.later hb)
    clear hb x0 x1 x2
    obtain ⟨x0, x1, x2⟩ := HX1.out.c3
    obtain ⟨k0, k1, k2⟩ := HR1.out.c3
    obtain ⟨f0, f1, f2⟩ := HR1.out.f3
    go_wp2_with fail
    have HK := HR1.out.s3 (.slice A h.objs.length c) (.int .i64 h.cap) (.int .i64 h.last)
    obtain ⟨r0, r1, r2⟩ := HK
    have HBE := below_s3 HB1.out HRW.out (.slice A h.objs.length c) (.int .i64 h.cap) (.int .i64 h.last)
    refine bodyPost_ret (v := .tuple #[.agg #[.slice A h.objs.length c, .int .i64 h.cap, .int .i64 h.last], .int .i64 (fa13 h).2.1, .int .i64 (fa13 h).2.2]) (by simp [results, Tryz.results42, go_sem, r0, r1, r2]) rfl ?_
    exact ⟨by rw [HE.out], HBE⟩
   next =>
    have HR2 : Hid (r = if num = 1 then in13 h (m + n)
        else if num = 2 then in13 h (m - n)
        else if num = 3 then in13 h (m * n)
        else if num = 4 then (if n = 0 then fa13 h else in13 h (m.fdiv n))
        else if num = 5 then (if n = 0 then fa13 h else in13 h (m - n * m.fdiv n))
        else if num = 6 then tr13 h (decide (m < n))
        else tr13 h (decide (m = n))) := by show _ = _; rw [HRR.out, if_neg (by simp [hs, ha])]
    have HM : Hid (-1073741824 ≤ m ∧ m ≤ 1073741823) := by show _ ∧ _; rw [HMV.out]; exact n_bd13 hs
    have HN : Hid (-1073741824 ≤ n ∧ n ≤ 1073741823) := by show _ ∧ _; rw [HNV.out]; exact n_bd13 ha
    clear HRR HMV HNV hs ha
    by_cases h0 : n = 0
    next =>
     have hnb : (n == 0) = true := by simpa using h0
     have HZ := hid h0
     clear h0
     by_cases h1 : num = 1
     next =>
      subst h1
      have HE : Hid (r = in13 h (m + n)) := by show _ = _; rw [HR2.out]; simp
      have hwa : IntKind.i64.wrap (m + n) = m + n := IntWalk.i64_in _ (by have := HM.out; have := HN.out; omega)
      obtain ⟨x0, x1, x2⟩ := HX0.out.c3
      go_wp2_with fail
      refine (rinteger_any13 h (m + n) A c w0).mono ?_
      rintro e w1 ⟨rfl, hb⟩
      have HB1 := hid (then_w HB0.out hb)
      have HX1 := hid (HX0.out.later hb)
      have HR1 := hid (HR0.out.later hb)
      clear hb x0 x1 x2
      obtain ⟨x0, x1, x2⟩ := HX1.out.c3
      obtain ⟨k0, k1, k2⟩ := HR1.out.c3
      obtain ⟨f0, f1, f2⟩ := HR1.out.f3
      go_wp2_with fail
      have HK := HR1.out.s3 (.slice A h.objs.length c) (.int .i64 h.cap) (.int .i64 h.last)
      obtain ⟨r0, r1, r2⟩ := HK
      have HBE := below_s3 HB1.out HRW.out (.slice A h.objs.length c) (.int .i64 h.cap) (.int .i64 h.last)
      refine bodyPost_ret (v := .tuple #[.agg #[.slice A h.objs.length c, .int .i64 h.cap, .int .i64 h.last], .int .i64 (in13 h (m + n)).2.1, .int .i64 (in13 h (m + n)).2.2]) (by simp [results, Tryz.results42, go_sem, r0, r1, r2]) rfl ?_
      exact ⟨by rw [HE.out], HBE⟩
     by_cases h2 : num = 2
     next =>
      subst h2
      have HE : Hid (r = in13 h (m - n)) := by show _ = _; rw [HR2.out]; simp
      have hwa : IntKind.i64.wrap (m - n) = m - n := IntWalk.i64_in _ (by have := HM.out; have := HN.out; omega)
      obtain ⟨x0, x1, x2⟩ := HX0.out.c3
      go_wp2_with fail
      refine (rinteger_any13 h (m - n) A c w0).mono ?_
      rintro e w1 ⟨rfl, hb⟩
      have HB1 := hid (then_w HB0.out hb)
      have HX1 := hid (HX0.out.later hb)
      have HR1 := hid (HR0.out.later hb)
      clear hb x0 x1 x2
      obtain ⟨x0, x1, x2⟩ := HX1.out.c3
      obtain ⟨k0, k1, k2⟩ := HR1.out.c3
      obtain ⟨f0, f1, f2⟩ := HR1.out.f3
      go_wp2_with fail
      have HK := HR1.out.s3 (.slice A h.objs.length c) (.int .i64 h.cap) (.int .i64 h.last)
      obtain ⟨r0, r1, r2⟩ := HK
      have HBE := below_s3 HB1.out HRW.out (.slice A h.objs.length c) (.int .i64 h.cap) (.int .i64 h.last)
      refine bodyPost_ret (v := .tuple #[.agg #[.slice A h.objs.length c, .int .i64 h.cap, .int .i64 h.last], .int .i64 (in13 h (m - n)).2.1, .int .i64 (in13 h (m - n)).2.2]) (by simp [results, Tryz.results42, go_sem, r0, r1, r2]) rfl ?_
      exact ⟨by rw [HE.out], HBE⟩
     by_cases h3 : num = 3
     next =>
      subst h3
      have HE : Hid (r = in13 h (m * n)) := by show _ = _; rw [HR2.out]; simp
      have hwa : IntKind.i64.wrap (m * n) = m * n := IntWalk.i64_in _ (by have := HM.out; have := HN.out; have := mulY13 (q := m) (n := n) (by omega) (by omega); omega)
      obtain ⟨x0, x1, x2⟩ := HX0.out.c3
      go_wp2_with fail
      refine (rinteger_any13 h (m * n) A c w0).mono ?_
      rintro e w1 ⟨rfl, hb⟩
      have HB1 := hid (then_w HB0.out hb)
      have HX1 := hid (HX0.out.later hb)
      have HR1 := hid (HR0.out.later hb)
      clear hb x0 x1 x2
      obtain ⟨x0, x1, x2⟩ := HX1.out.c3
      obtain ⟨k0, k1, k2⟩ := HR1.out.c3
      obtain ⟨f0, f1, f2⟩ := HR1.out.f3
      go_wp2_with fail
      have HK := HR1.out.s3 (.slice A h.objs.length c) (.int .i64 h.cap) (.int .i64 h.last)
      obtain ⟨r0, r1, r2⟩ := HK
      have HBE := below_s3 HB1.out HRW.out (.slice A h.objs.length c) (.int .i64 h.cap) (.int .i64 h.last)
      refine bodyPost_ret (v := .tuple #[.agg #[.slice A h.objs.length c, .int .i64 h.cap, .int .i64 h.last], .int .i64 (in13 h (m * n)).2.1, .int .i64 (in13 h (m * n)).2.2]) (by simp [results, Tryz.results42, go_sem, r0, r1, r2]) rfl ?_
      exact ⟨by rw [HE.out], HBE⟩
     by_cases h4 : num = 4
     next =>
      subst h4
      have HE : Hid (r = fa13 h) := by show _ = _; rw [HR2.out]; simp [HZ.out]
      obtain ⟨x0, x1, x2⟩ := HX0.out.c3
      go_wp2_with fail
      refine (rfail_any13 h A c w0).mono ?_
      rintro e w1 ⟨rfl, hb⟩
      have HB1 := hid (then_w HB0.out hb)
      have HX1 := hid (HX0.out.later hb)
      have HR1 := hid (HR0.out.later hb)
      clear hb x0 x1 x2
      obtain ⟨x0, x1, x2⟩ := HX1.out.c3
      obtain ⟨k0, k1, k2⟩ := HR1.out.c3
      obtain ⟨f0, f1, f2⟩ := HR1.out.f3
      go_wp2_with fail
      have HK := HR1.out.s3 (.slice A h.objs.length c) (.int .i64 h.cap) (.int .i64 h.last)
      obtain ⟨r0, r1, r2⟩ := HK
      have HBE := below_s3 HB1.out HRW.out (.slice A h.objs.length c) (.int .i64 h.cap) (.int .i64 h.last)
      refine bodyPost_ret (v := .tuple #[.agg #[.slice A h.objs.length c, .int .i64 h.cap, .int .i64 h.last], .int .i64 (fa13 h).2.1, .int .i64 (fa13 h).2.2]) (by simp [results, Tryz.results42, go_sem, r0, r1, r2]) rfl ?_
      exact ⟨by rw [HE.out], HBE⟩
     by_cases h5 : num = 5
     next =>
      subst h5
      have HE : Hid (r = fa13 h) := by show _ = _; rw [HR2.out]; simp [HZ.out]
      obtain ⟨x0, x1, x2⟩ := HX0.out.c3
      go_wp2_with fail
      refine (rfail_any13 h A c w0).mono ?_
      rintro e w1 ⟨rfl, hb⟩
      have HB1 := hid (then_w HB0.out hb)
      have HX1 := hid (HX0.out.later hb)
      have HR1 := hid (HR0.out.later hb)
      clear hb x0 x1 x2
      obtain ⟨x0, x1, x2⟩ := HX1.out.c3
      obtain ⟨k0, k1, k2⟩ := HR1.out.c3
      obtain ⟨f0, f1, f2⟩ := HR1.out.f3
      go_wp2_with fail
      have HK := HR1.out.s3 (.slice A h.objs.length c) (.int .i64 h.cap) (.int .i64 h.last)
      obtain ⟨r0, r1, r2⟩ := HK
      have HBE := below_s3 HB1.out HRW.out (.slice A h.objs.length c) (.int .i64 h.cap) (.int .i64 h.last)
      refine bodyPost_ret (v := .tuple #[.agg #[.slice A h.objs.length c, .int .i64 h.cap, .int .i64 h.last], .int .i64 (fa13 h).2.1, .int .i64 (fa13 h).2.2]) (by simp [results, Tryz.results42, go_sem, r0, r1, r2]) rfl ?_
      exact ⟨by rw [HE.out], HBE⟩
     have b1 : (num == 1) = false := by simpa using h1
     have b2 : (num == 2) = false := by simpa using h2
     have b3 : (num == 3) = false := by simpa using h3
     have b4 : (num == 4) = false := by simpa using h4
     have b5 : (num == 5) = false := by simpa using h5
     by_cases h6 : num = 6
     next =>
      subst h6
      have HE : Hid (r = tr13 h (decide (m < n))) := by show _ = _; rw [HR2.out]; simp
      obtain ⟨x0, x1, x2⟩ := HX0.out.c3
      go_wp2_with fail
      refine (rtruth_any13 h (decide (m < n)) A c w0).mono ?_
      rintro e w1 ⟨rfl, hb⟩
      have HB1 := hid (then_w HB0.out hb)
      have HX1 := hid (HX0.out.later hb)
      have HR1 := hid (HR0.out.later hb)
      clear hb x0 x1 x2
      obtain ⟨x0, x1, x2⟩ := HX1.out.c3
      obtain ⟨k0, k1, k2⟩ := HR1.out.c3
      obtain ⟨f0, f1, f2⟩ := HR1.out.f3
      go_wp2_with fail
      have HK := HR1.out.s3 (.slice A h.objs.length c) (.int .i64 h.cap) (.int .i64 h.last)
      obtain ⟨r0, r1, r2⟩ := HK
      have HBE := below_s3 HB1.out HRW.out (.slice A h.objs.length c) (.int .i64 h.cap) (.int .i64 h.last)
      refine bodyPost_ret (v := .tuple #[.agg #[.slice A h.objs.length c, .int .i64 h.cap, .int .i64 h.last], .int .i64 (tr13 h (decide (m < n))).2.1, .int .i64 (tr13 h (decide (m < n))).2.2]) (by simp [results, Tryz.results42, go_sem, r0, r1, r2]) rfl ?_
      exact ⟨by rw [HE.out], HBE⟩
     have b6 : (num == 6) = false := by simpa using h6
     have HE : Hid (r = tr13 h (decide (m = n))) := by show _ = _; rw [HR2.out, if_neg h1, if_neg h2, if_neg h3, if_neg h4, if_neg h5, if_neg h6]
     have hmn : (m == n) = decide (m = n) := rfl
     obtain ⟨x0, x1, x2⟩ := HX0.out.c3
     go_wp2_with fail
     refine (rtruth_any13 h (decide (m = n)) A c w0).mono ?_
     rintro e w1 ⟨rfl, hb⟩
     have HB1 := hid (then_w HB0.out hb)
     have HX1 := hid (HX0.out.later hb)
     have HR1 := hid (HR0.out.later hb)
     clear hb x0 x1 x2
     obtain ⟨x0, x1, x2⟩ := HX1.out.c3
     obtain ⟨k0, k1, k2⟩ := HR1.out.c3
     obtain ⟨f0, f1, f2⟩ := HR1.out.f3
     go_wp2_with fail
     have HK := HR1.out.s3 (.slice A h.objs.length c) (.int .i64 h.cap) (.int .i64 h.last)
     obtain ⟨r0, r1, r2⟩ := HK
     have HBE := below_s3 HB1.out HRW.out (.slice A h.objs.length c) (.int .i64 h.cap) (.int .i64 h.last)
     refine bodyPost_ret (v := .tuple #[.agg #[.slice A h.objs.length c, .int .i64 h.cap, .int .i64 h.last], .int .i64 (tr13 h (decide (m = n))).2.1, .int .i64 (tr13 h (decide (m = n))).2.2]) (by simp [results, Tryz.results42, go_sem, r0, r1, r2]) rfl ?_
     exact ⟨by rw [HE.out], HBE⟩
    next =>
     have hnb : (n == 0) = false := by simpa using h0
     have HZ := hid h0
     clear h0
     by_cases h1 : num = 1
     next =>
      subst h1
      have HE : Hid (r = in13 h (m + n)) := by show _ = _; rw [HR2.out]; simp
      have hwa : IntKind.i64.wrap (m + n) = m + n := IntWalk.i64_in _ (by have := HM.out; have := HN.out; omega)
      obtain ⟨x0, x1, x2⟩ := HX0.out.c3
      go_wp2_with fail
      refine (rinteger_any13 h (m + n) A c w0).mono ?_
      rintro e w1 ⟨rfl, hb⟩
      have HB1 := hid (then_w HB0.out hb)
      have HX1 := hid (HX0.out.later hb)
      have HR1 := hid (HR0.out.later hb)
      clear hb x0 x1 x2
      obtain ⟨x0, x1, x2⟩ := HX1.out.c3
      obtain ⟨k0, k1, k2⟩ := HR1.out.c3
      obtain ⟨f0, f1, f2⟩ := HR1.out.f3
      go_wp2_with fail
      have HK := HR1.out.s3 (.slice A h.objs.length c) (.int .i64 h.cap) (.int .i64 h.last)
      obtain ⟨r0, r1, r2⟩ := HK
      have HBE := below_s3 HB1.out HRW.out (.slice A h.objs.length c) (.int .i64 h.cap) (.int .i64 h.last)
      refine bodyPost_ret (v := .tuple #[.agg #[.slice A h.objs.length c, .int .i64 h.cap, .int .i64 h.last], .int .i64 (in13 h (m + n)).2.1, .int .i64 (in13 h (m + n)).2.2]) (by simp [results, Tryz.results42, go_sem, r0, r1, r2]) rfl ?_
      exact ⟨by rw [HE.out], HBE⟩
     by_cases h2 : num = 2
     next =>
      subst h2
      have HE : Hid (r = in13 h (m - n)) := by show _ = _; rw [HR2.out]; simp
      have hwa : IntKind.i64.wrap (m - n) = m - n := IntWalk.i64_in _ (by have := HM.out; have := HN.out; omega)
      obtain ⟨x0, x1, x2⟩ := HX0.out.c3
      go_wp2_with fail
      refine (rinteger_any13 h (m - n) A c w0).mono ?_
      rintro e w1 ⟨rfl, hb⟩
      have HB1 := hid (then_w HB0.out hb)
      have HX1 := hid (HX0.out.later hb)
      have HR1 := hid (HR0.out.later hb)
      clear hb x0 x1 x2
      obtain ⟨x0, x1, x2⟩ := HX1.out.c3
      obtain ⟨k0, k1, k2⟩ := HR1.out.c3
      obtain ⟨f0, f1, f2⟩ := HR1.out.f3
      go_wp2_with fail
      have HK := HR1.out.s3 (.slice A h.objs.length c) (.int .i64 h.cap) (.int .i64 h.last)
      obtain ⟨r0, r1, r2⟩ := HK
      have HBE := below_s3 HB1.out HRW.out (.slice A h.objs.length c) (.int .i64 h.cap) (.int .i64 h.last)
      refine bodyPost_ret (v := .tuple #[.agg #[.slice A h.objs.length c, .int .i64 h.cap, .int .i64 h.last], .int .i64 (in13 h (m - n)).2.1, .int .i64 (in13 h (m - n)).2.2]) (by simp [results, Tryz.results42, go_sem, r0, r1, r2]) rfl ?_
      exact ⟨by rw [HE.out], HBE⟩
     by_cases h3 : num = 3
     next =>
      subst h3
      have HE : Hid (r = in13 h (m * n)) := by show _ = _; rw [HR2.out]; simp
      have hwa : IntKind.i64.wrap (m * n) = m * n := IntWalk.i64_in _ (by have := HM.out; have := HN.out; have := mulY13 (q := m) (n := n) (by omega) (by omega); omega)
      obtain ⟨x0, x1, x2⟩ := HX0.out.c3
      go_wp2_with fail
      refine (rinteger_any13 h (m * n) A c w0).mono ?_
      rintro e w1 ⟨rfl, hb⟩
      have HB1 := hid (then_w HB0.out hb)
      have HX1 := hid (HX0.out.later hb)
      have HR1 := hid (HR0.out.later hb)
      clear hb x0 x1 x2
      obtain ⟨x0, x1, x2⟩ := HX1.out.c3
      obtain ⟨k0, k1, k2⟩ := HR1.out.c3
      obtain ⟨f0, f1, f2⟩ := HR1.out.f3
      go_wp2_with fail
      have HK := HR1.out.s3 (.slice A h.objs.length c) (.int .i64 h.cap) (.int .i64 h.last)
      obtain ⟨r0, r1, r2⟩ := HK
      have HBE := below_s3 HB1.out HRW.out (.slice A h.objs.length c) (.int .i64 h.cap) (.int .i64 h.last)
      refine bodyPost_ret (v := .tuple #[.agg #[.slice A h.objs.length c, .int .i64 h.cap, .int .i64 h.last], .int .i64 (in13 h (m * n)).2.1, .int .i64 (in13 h (m * n)).2.2]) (by simp [results, Tryz.results42, go_sem, r0, r1, r2]) rfl ?_
      exact ⟨by rw [HE.out], HBE⟩
     by_cases h4 : num = 4
     next =>
      subst h4
      have HE : Hid (r = in13 h (m.fdiv n)) := by show _ = _; rw [HR2.out]; simp [HZ.out]
      obtain ⟨x0, x1, x2⟩ := HX0.out.c3
      go_upto_region 13 with fail
      refine wp_region_held_drew (S := (fun w' => w'.cell? ⟨w.heap.size, 0, none⟩ = some (.slice A h.objs.length c) ∧ w'.cell? ⟨w.heap.size, 1, none⟩ = some (.int .i64 h.cap) ∧ w'.cell? ⟨w.heap.size, 2, none⟩ = some (.int .i64 h.last))) (by kernel_rfl) ?_ (fun hH0 => ?_)
      next =>
       exact ⟨dcJ x0, dcJ x1, dcJ x2⟩
      refine tkJ 0 ⟨some 81, .load 24 (.tmp 4), 24, "ref.go:65", #[], none⟩ ?_
      refine tkJ 1 ⟨some 82, .move (.tmp 11), 3, "ref.go:65", #[], none⟩ ?_
      refine tkJ 2 ⟨some 83, .move (.tmp 13), 3, "ref.go:65", #[], none⟩ ?_
      refine rdJ 3 ⟨some 84, .call { callee := .value (.func 76), args := #[.tmp 82, .tmp 83], argTypes := #[3, 3] }, 3, "ref.go:65", #[⟨1, .data⟩, ⟨2, .data⟩], none⟩ fun K hK => ?_
      go_simp
      go_at_call 76
      obtain ⟨wd, hd⟩ : ∃ x, x = w0.drew := ⟨_, rfl⟩
      rw [← hd]
      have hbd : Below w0.heap.size w0 wd := by rw [hd]; exact (Below.refl _ _).drew
      have HBd0 := hid (then_w HB0.out hbd)
      have HXd0 := hid (HX0.out.later hbd)
      have HRd0 := hid (HR0.out.later hbd)
      clear hd hbd
      refine (rover_any13 HM.out HN.out HZ.out wd).mono ?_
      rintro e w1 ⟨rfl, hb⟩
      have HBd1 := hid (then_w HBd0.out hb)
      have HXd1 := hid (HXd0.out.later hb)
      have HRd1 := hid (HRd0.out.later hb)
      clear hb
      obtain ⟨y0, y1, y2⟩ := HXd1.out.c3
      refine hK.out _ _ ?_ (fun hH1 => ?_)
      next =>
       exact ⟨y0, y1, y2⟩
      clear hK K
      try simp only [apt12]
      clear y0 y1 y2
      refine rdJ 4 ⟨some 85, .call { callee := .value (.func 75), args := #[.tmp 81, .tmp 84], argTypes := #[24, 3] }, 44, "ref.go:65", #[⟨0, .data⟩, ⟨3, .data⟩, ⟨3, .chain⟩], none⟩ fun K hK => ?_
      go_simp
      go_at_call 75
      refine (rinteger_any13 h (m.fdiv n) A c w1).mono ?_
      rintro e w2 ⟨rfl, hb⟩
      have HBd2 := hid (then_w HBd1.out hb)
      have HXd2 := hid (HXd1.out.later hb)
      have HRd2 := hid (HRd1.out.later hb)
      clear hb
      obtain ⟨y0, y1, y2⟩ := HXd2.out.c3
      refine hK.out _ _ ?_ (fun hH2 => ?_)
      next =>
       exact ⟨y0, y1, y2⟩
      clear hK K
      try simp only [apt12]
      clear y0 y1 y2
      refine tkJ 5 ⟨some 86, .extract (.tmp 85) 0, 24, "ref.go:65", #[⟨4, .data⟩], none⟩ ?_
      refine tkJ 6 ⟨some 87, .extract (.tmp 85) 1, 3, "ref.go:65", #[⟨4, .data⟩], none⟩ ?_
      refine tkJ 7 ⟨some 88, .extract (.tmp 85) 2, 25, "ref.go:65", #[⟨4, .data⟩], none⟩ ?_
      refine rdJ 8 ⟨none, .store 24 (.tmp 8) (.tmp 86), 0, "ref.go:65", #[⟨5, .data⟩, ⟨4, .chain⟩, ⟨0, .phase⟩, ⟨1, .phase⟩, ⟨2, .phase⟩, ⟨3, .phase⟩, ⟨4, .phase⟩, ⟨5, .phase⟩, ⟨6, .phase⟩, ⟨7, .phase⟩], none⟩ fun K hK => ?_
      obtain ⟨k0, k1, k2⟩ := HRd2.out.c3
      obtain ⟨f0, f1, f2⟩ := HRd2.out.f3
      go_simp
      clear k0 k1 k2 f0 f1 f2
      have HXV := ((HXd2.out.far (p := ⟨bR, 0, none⟩) HNE.out (.slice A h.objs.length c)).far (p := ⟨bR, 1, none⟩) HNE.out (.int .i64 h.cap)).far (p := ⟨bR, 2, none⟩) HNE.out (.int .i64 h.last)
      obtain ⟨y0, y1, y2⟩ := HXV.c3
      refine hK.out _ _ ?_ (fun hH3 => ?_)
      next =>
       exact ⟨y0, y1, y2⟩
      clear hK K
      try simp only [apt12]
      clear y0 y1 y2
      refine tkJ 9 ⟨some 9, .assign (.tmp 87), 3, "ref.go:65", #[⟨6, .data⟩, ⟨8, .chain⟩, ⟨0, .phase⟩, ⟨1, .phase⟩, ⟨2, .phase⟩, ⟨3, .phase⟩, ⟨4, .phase⟩, ⟨5, .phase⟩, ⟨6, .phase⟩, ⟨7, .phase⟩, ⟨8, .phase⟩], none⟩ ?_
      refine tkJ 10 ⟨some 10, .assign (.tmp 88), 25, "ref.go:65", #[⟨7, .data⟩, ⟨9, .chain⟩, ⟨0, .phase⟩, ⟨1, .phase⟩, ⟨2, .phase⟩, ⟨3, .phase⟩, ⟨4, .phase⟩, ⟨5, .phase⟩, ⟨6, .phase⟩, ⟨7, .phase⟩, ⟨8, .phase⟩, ⟨9, .phase⟩], none⟩ ?_
      refine wpAnyH_done (by kernel_rfl) ?_ _
      have HK := HRd2.out.s3 (.slice A h.objs.length c) (.int .i64 h.cap) (.int .i64 h.last)
      obtain ⟨r0, r1, r2⟩ := HK
      have HBE := below_s3 HBd2.out HRW.out (.slice A h.objs.length c) (.int .i64 h.cap) (.int .i64 h.last)
      go_wp2_with fail
      refine bodyPost_ret (v := .tuple #[.agg #[.slice A h.objs.length c, .int .i64 h.cap, .int .i64 h.last], .int .i64 (in13 h (m.fdiv n)).2.1, .int .i64 (in13 h (m.fdiv n)).2.2]) (by simp [results, Tryz.results42, go_sem, r0, r1, r2]) rfl ?_
      exact ⟨by rw [HE.out], HBE⟩
     by_cases h5 : num = 5
     next =>
      subst h5
      have HE : Hid (r = in13 h (m - n * m.fdiv n)) := by show _ = _; rw [HR2.out]; simp [HZ.out]
      have hm1 : IntKind.i64.wrap (n * m.fdiv n) = n * m.fdiv n := IntWalk.i64_in _ (by have := rest_bd13 HM.out HN.out HZ.out; omega)
      have hm2 : IntKind.i64.wrap (m - n * m.fdiv n) = m - n * m.fdiv n := IntWalk.i64_in _ (by have := rest_bd13 HM.out HN.out HZ.out; have := HM.out; omega)
      obtain ⟨x0, x1, x2⟩ := HX0.out.c3
      go_upto_region 15 with fail
      refine wp_region_held_drew (S := (fun w' => w'.cell? ⟨w.heap.size, 0, none⟩ = some (.slice A h.objs.length c) ∧ w'.cell? ⟨w.heap.size, 1, none⟩ = some (.int .i64 h.cap) ∧ w'.cell? ⟨w.heap.size, 2, none⟩ = some (.int .i64 h.last))) (by kernel_rfl) ?_ (fun hH0 => ?_)
      next =>
       exact ⟨dcJ x0, dcJ x1, dcJ x2⟩
      refine tkJ 0 ⟨some 91, .load 24 (.tmp 4), 24, "ref.go:67", #[], none⟩ ?_
      refine tkJ 1 ⟨some 92, .move (.tmp 11), 3, "ref.go:67", #[], none⟩ ?_
      refine tkJ 2 ⟨some 93, .move (.tmp 13), 3, "ref.go:67", #[], none⟩ ?_
      refine tkJ 3 ⟨some 94, .move (.tmp 11), 3, "ref.go:67", #[], none⟩ ?_
      refine tkJ 4 ⟨some 95, .move (.tmp 13), 3, "ref.go:67", #[], none⟩ ?_
      refine rdJ 5 ⟨some 96, .call { callee := .value (.func 76), args := #[.tmp 94, .tmp 95], argTypes := #[3, 3] }, 3, "ref.go:67", #[⟨3, .data⟩, ⟨4, .data⟩], none⟩ fun K hK => ?_
      go_simp
      go_at_call 76
      obtain ⟨wd, hd⟩ : ∃ x, x = w0.drew := ⟨_, rfl⟩
      rw [← hd]
      have hbd : Below w0.heap.size w0 wd := by rw [hd]; exact (Below.refl _ _).drew
      have HBd0 := hid (then_w HB0.out hbd)
      have HXd0 := hid (HX0.out.later hbd)
      have HRd0 := hid (HR0.out.later hbd)
      clear hd hbd
      refine (rover_any13 HM.out HN.out HZ.out wd).mono ?_
      rintro e w1 ⟨rfl, hb⟩
      have HBd1 := hid (then_w HBd0.out hb)
      have HXd1 := hid (HXd0.out.later hb)
      have HRd1 := hid (HRd0.out.later hb)
      clear hb
      obtain ⟨y0, y1, y2⟩ := HXd1.out.c3
      refine hK.out _ _ ?_ (fun hH1 => ?_)
      next =>
       exact ⟨y0, y1, y2⟩
      clear hK K
      try simp only [apt12]
      clear y0 y1 y2
      refine tkJ 6 ⟨some 97, .binOp .mul 3 (.tmp 93) (.tmp 96) 3, 3, "ref.go:67", #[⟨2, .data⟩, ⟨5, .data⟩], none⟩ ?_
      refine tkJ 7 ⟨some 98, .binOp .sub 3 (.tmp 92) (.tmp 97) 3, 3, "ref.go:67", #[⟨1, .data⟩, ⟨6, .data⟩], none⟩ ?_
      refine rdJ 8 ⟨some 99, .call { callee := .value (.func 75), args := #[.tmp 91, .tmp 98], argTypes := #[24, 3] }, 44, "ref.go:67", #[⟨0, .data⟩, ⟨7, .data⟩, ⟨5, .chain⟩], none⟩ fun K hK => ?_
      go_simp
      go_at_call 75
      refine (rinteger_any13 h (m - n * m.fdiv n) A c w1).mono ?_
      rintro e w2 ⟨rfl, hb⟩
      have HBd2 := hid (then_w HBd1.out hb)
      have HXd2 := hid (HXd1.out.later hb)
      have HRd2 := hid (HRd1.out.later hb)
      clear hb
      obtain ⟨y0, y1, y2⟩ := HXd2.out.c3
      refine hK.out _ _ ?_ (fun hH2 => ?_)
      next =>
       exact ⟨y0, y1, y2⟩
      clear hK K
      try simp only [apt12]
      clear y0 y1 y2
      refine tkJ 9 ⟨some 100, .extract (.tmp 99) 0, 24, "ref.go:67", #[⟨8, .data⟩], none⟩ ?_
      refine tkJ 10 ⟨some 101, .extract (.tmp 99) 1, 3, "ref.go:67", #[⟨8, .data⟩], none⟩ ?_
      refine tkJ 11 ⟨some 102, .extract (.tmp 99) 2, 25, "ref.go:67", #[⟨8, .data⟩], none⟩ ?_
      refine rdJ 12 ⟨none, .store 24 (.tmp 8) (.tmp 100), 0, "ref.go:67", #[⟨9, .data⟩, ⟨8, .chain⟩, ⟨0, .phase⟩, ⟨1, .phase⟩, ⟨2, .phase⟩, ⟨3, .phase⟩, ⟨4, .phase⟩, ⟨5, .phase⟩, ⟨6, .phase⟩, ⟨7, .phase⟩, ⟨8, .phase⟩, ⟨9, .phase⟩, ⟨10, .phase⟩, ⟨11, .phase⟩], none⟩ fun K hK => ?_
      obtain ⟨k0, k1, k2⟩ := HRd2.out.c3
      obtain ⟨f0, f1, f2⟩ := HRd2.out.f3
      go_simp
      clear k0 k1 k2 f0 f1 f2
      have HXV := ((HXd2.out.far (p := ⟨bR, 0, none⟩) HNE.out (.slice A h.objs.length c)).far (p := ⟨bR, 1, none⟩) HNE.out (.int .i64 h.cap)).far (p := ⟨bR, 2, none⟩) HNE.out (.int .i64 h.last)
      obtain ⟨y0, y1, y2⟩ := HXV.c3
      refine hK.out _ _ ?_ (fun hH3 => ?_)
      next =>
       exact ⟨y0, y1, y2⟩
      clear hK K
      try simp only [apt12]
      clear y0 y1 y2
      refine tkJ 13 ⟨some 9, .assign (.tmp 101), 3, "ref.go:67", #[⟨10, .data⟩, ⟨12, .chain⟩, ⟨0, .phase⟩, ⟨1, .phase⟩, ⟨2, .phase⟩, ⟨3, .phase⟩, ⟨4, .phase⟩, ⟨5, .phase⟩, ⟨6, .phase⟩, ⟨7, .phase⟩, ⟨8, .phase⟩, ⟨9, .phase⟩, ⟨10, .phase⟩, ⟨11, .phase⟩, ⟨12, .phase⟩], none⟩ ?_
      refine tkJ 14 ⟨some 10, .assign (.tmp 102), 25, "ref.go:67", #[⟨11, .data⟩, ⟨13, .chain⟩, ⟨0, .phase⟩, ⟨1, .phase⟩, ⟨2, .phase⟩, ⟨3, .phase⟩, ⟨4, .phase⟩, ⟨5, .phase⟩, ⟨6, .phase⟩, ⟨7, .phase⟩, ⟨8, .phase⟩, ⟨9, .phase⟩, ⟨10, .phase⟩, ⟨11, .phase⟩, ⟨12, .phase⟩, ⟨13, .phase⟩], none⟩ ?_
      refine wpAnyH_done (by kernel_rfl) ?_ _
      have HK := HRd2.out.s3 (.slice A h.objs.length c) (.int .i64 h.cap) (.int .i64 h.last)
      obtain ⟨r0, r1, r2⟩ := HK
      have HBE := below_s3 HBd2.out HRW.out (.slice A h.objs.length c) (.int .i64 h.cap) (.int .i64 h.last)
      go_wp2_with fail
      refine bodyPost_ret (v := .tuple #[.agg #[.slice A h.objs.length c, .int .i64 h.cap, .int .i64 h.last], .int .i64 (in13 h (m - n * m.fdiv n)).2.1, .int .i64 (in13 h (m - n * m.fdiv n)).2.2]) (by simp [results, Tryz.results42, go_sem, r0, r1, r2]) rfl ?_
      exact ⟨by rw [HE.out], HBE⟩
     have b1 : (num == 1) = false := by simpa using h1
     have b2 : (num == 2) = false := by simpa using h2
     have b3 : (num == 3) = false := by simpa using h3
     have b4 : (num == 4) = false := by simpa using h4
     have b5 : (num == 5) = false := by simpa using h5
     by_cases h6 : num = 6
     next =>
      subst h6
      have HE : Hid (r = tr13 h (decide (m < n))) := by show _ = _; rw [HR2.out]; simp
      obtain ⟨x0, x1, x2⟩ := HX0.out.c3
      go_wp2_with fail
      refine (rtruth_any13 h (decide (m < n)) A c w0).mono ?_
      rintro e w1 ⟨rfl, hb⟩
      have HB1 := hid (then_w HB0.out hb)
      have HX1 := hid (HX0.out.later hb)
      have HR1 := hid (HR0.out.later hb)
      clear hb x0 x1 x2
      obtain ⟨x0, x1, x2⟩ := HX1.out.c3
      obtain ⟨k0, k1, k2⟩ := HR1.out.c3
      obtain ⟨f0, f1, f2⟩ := HR1.out.f3
      go_wp2_with fail
      have HK := HR1.out.s3 (.slice A h.objs.length c) (.int .i64 h.cap) (.int .i64 h.last)
      obtain ⟨r0, r1, r2⟩ := HK
      have HBE := below_s3 HB1.out HRW.out (.slice A h.objs.length c) (.int .i64 h.cap) (.int .i64 h.last)
      refine bodyPost_ret (v := .tuple #[.agg #[.slice A h.objs.length c, .int .i64 h.cap, .int .i64 h.last], .int .i64 (tr13 h (decide (m < n))).2.1, .int .i64 (tr13 h (decide (m < n))).2.2]) (by simp [results, Tryz.results42, go_sem, r0, r1, r2]) rfl ?_
      exact ⟨by rw [HE.out], HBE⟩
     have b6 : (num == 6) = false := by simpa using h6
     have HE : Hid (r = tr13 h (decide (m = n))) := by show _ = _; rw [HR2.out, if_neg h1, if_neg h2, if_neg h3, if_neg h4, if_neg h5, if_neg h6]
     have hmn : (m == n) = decide (m = n) := rfl
     obtain ⟨x0, x1, x2⟩ := HX0.out.c3
     go_wp2_with fail
     refine (rtruth_any13 h (decide (m = n)) A c w0).mono ?_
     rintro e w1 ⟨rfl, hb⟩
     have HB1 := hid (then_w HB0.out hb)
     have HX1 := hid (HX0.out.later hb)
     have HR1 := hid (HR0.out.later hb)
     clear hb x0 x1 x2
     obtain ⟨x0, x1, x2⟩ := HX1.out.c3
     obtain ⟨k0, k1, k2⟩ := HR1.out.c3
     obtain ⟨f0, f1, f2⟩ := HR1.out.f3
     go_wp2_with fail
     have HK := HR1.out.s3 (.slice A h.objs.length c) (.int .i64 h.cap) (.int .i64 h.last)
     obtain ⟨r0, r1, r2⟩ := HK
     have HBE := below_s3 HB1.out HRW.out (.slice A h.objs.length c) (.int .i64 h.cap) (.int .i64 h.last)
     refine bodyPost_ret (v := .tuple #[.agg #[.slice A h.objs.length c, .int .i64 h.cap, .int .i64 h.last], .int .i64 (tr13 h (decide (m = n))).2.1, .int .i64 (tr13 h (decide (m = n))).2.2]) (by simp [results, Tryz.results42, go_sem, r0, r1, r2]) rfl ?_
     exact ⟨by rw [HE.out], HBE⟩
end Go.Proofs.YtnilempeldlieaaGreat
namespace Go.Proofs.YtnilempeldlieaaGreat
open Go.RowKit Flt
set_option maxRecDepth 100000
theorem ar_at13 {k : Nat} (hk : k < 27) : (#[.int .i64 1, .int .i64 1, .int .i64 1, .int .i64 1, .int .i64 1, .int .i64 1, .int .i64 1, .int .i64 1, .int .i64 2, .int .i64 0, .int .i64 0, .int .i64 1, .int .i64 0, .int .i64 1, .int .i64 0, .int .i64 1, .int .i64 1, .int .i64 1, .int .i64 1, .int .i64 1, .int .i64 1, .int .i64 1, .int .i64 0, .int .i64 0, .int .i64 1, .int .i64 2, .int .i64 1] : Array Value)[k]? = some (.int .i64 (((ar13 ((k : Int) + 1)).getD 0 : Nat) : Int)) ∧ (ar13 ((k : Int) + 1)).isSome = true := by
  rcases (show k = 0 ∨ k = 1 ∨ k = 2 ∨ k = 3 ∨ k = 4 ∨ k = 5 ∨ k = 6 ∨ k = 7 ∨ k = 8 ∨ k = 9 ∨ k = 10 ∨ k = 11 ∨ k = 12 ∨ k = 13 ∨ k = 14 ∨ k = 15 ∨ k = 16 ∨ k = 17 ∨ k = 18 ∨ k = 19 ∨ k = 20 ∨ k = 21 ∨ k = 22 ∨ k = 23 ∨ k = 24 ∨ k = 25 ∨ k = 26 by omega) with rfl | rfl | rfl | rfl | rfl | rfl | rfl | rfl | rfl | rfl | rfl | rfl | rfl | rfl | rfl | rfl | rfl | rfl | rfl | rfl | rfl | rfl | rfl | rfl | rfl | rfl | rfl <;> exact ⟨rfl, rfl⟩
theorem rargs_any13 (num : Int) (w : World) : Calls Tryz.prog 23 #[.int .i64 num] w fun e w' => e = .returned (.tuple #[.int .i64 (((ar13 num).getD 0 : Nat) : Int), .bool (ar13 num).isSome]) ∧ Below w.heap.size w w' := by
  by_cases h1 : num < 1
  next =>
   have HE : Hid (ar13 num = none) := by show _ = _; unfold ar13; rw [if_pos (.inl h1)]
   rw [HE.out]
   go_enter Tryz.func23, Tryz.ntmps23
   go_wp2_with fail
   go_ret2
   exact ⟨rfl, Below.refl _ _⟩
  next =>
   by_cases h2 : 27 < num
   next =>
    have HE : Hid (ar13 num = none) := by show _ = _; unfold ar13; rw [if_pos (.inr h2)]
    rw [HE.out]
    go_enter Tryz.func23, Tryz.ntmps23
    go_wp2_with fail
    go_ret2
    exact ⟨rfl, Below.refl _ _⟩
   next =>
    obtain ⟨k, rfl⟩ : ∃ k : Nat, num = (k : Int) + 1 := ⟨(num - 1).toNat, by omega⟩
    have hk : k < 27 := by omega
    obtain ⟨e1, e2⟩ := ar_at13 hk
    obtain ⟨n, hn⟩ : ∃ n : Int, n = (((ar13 ((k : Int) + 1)).getD 0 : Nat) : Int) := ⟨_, rfl⟩
    rw [← hn] at e1 ⊢
    rw [e2]
    clear hn e2
    have hc : (w.alloc (.cells #[.int .i64 1, .int .i64 1, .int .i64 1, .int .i64 1, .int .i64 1, .int .i64 1, .int .i64 1, .int .i64 1, .int .i64 2, .int .i64 0, .int .i64 0, .int .i64 1, .int .i64 0, .int .i64 1, .int .i64 0, .int .i64 1, .int .i64 1, .int .i64 1, .int .i64 1, .int .i64 1, .int .i64 1, .int .i64 1, .int .i64 0, .int .i64 0, .int .i64 1, .int .i64 2, .int .i64 1] 3)).cell? ⟨w.heap.size, k, none⟩ = some (.int .i64 n) := by
      rw [(Lies.new w 3 #[.int .i64 1, .int .i64 1, .int .i64 1, .int .i64 1, .int .i64 1, .int .i64 1, .int .i64 1, .int .i64 1, .int .i64 2, .int .i64 0, .int .i64 0, .int .i64 1, .int .i64 0, .int .i64 1, .int .i64 0, .int .i64 1, .int .i64 1, .int .i64 1, .int .i64 1, .int .i64 1, .int .i64 1, .int .i64 1, .int .i64 0, .int .i64 0, .int .i64 1, .int .i64 2, .int .i64 1]).cell k]; exact e1
    have hw : IntKind.i64.wrap ((k : Int) + 1 - 1) = (k : Int) := by rw [show (k : Int) + 1 - 1 = (k : Int) by omega]; exact IntWalk.i64_in _ (by omega)
    have hk2 : (k : Int) < 27 := by omega
    have hk0 : (0 : Int) ≤ (k : Int) := by omega
    have HBA := hid (below_alloc w (.cells #[.int .i64 1, .int .i64 1, .int .i64 1, .int .i64 1, .int .i64 1, .int .i64 1, .int .i64 1, .int .i64 1, .int .i64 2, .int .i64 0, .int .i64 0, .int .i64 1, .int .i64 0, .int .i64 1, .int .i64 0, .int .i64 1, .int .i64 1, .int .i64 1, .int .i64 1, .int .i64 1, .int .i64 1, .int .i64 1, .int .i64 0, .int .i64 0, .int .i64 1, .int .i64 2, .int .i64 1] 3))
    clear e1
    go_enter Tryz.func23, Tryz.ntmps23
    go_wp2_with fail
    go_ret2
    exact ⟨rfl, HBA.out⟩
end Go.Proofs.YtnilempeldlieaaGreat
