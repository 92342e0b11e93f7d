/- The document's New. -/
import Derived.Test.YtalfbdigjaibkaaGreatS3
import Derived.Test.YtalfbdigjaibkaaGreatTU12
import Derived.Test.YtalfbdigjaibkaaGreatUN12
import Derived.Test.YtalfbdigjaibkaaGreatSD12
import Derived.Test.YtalfbdigjaibkaaGreatRSO12
import Derived.Test.YtalfbdigjaibkaaGreatRA
namespace Go.Proofs.YtalfbdigjaibkaaGreat
open Go.RowKit
set_option maxRecDepth 100000
def gk12 (h : Hp) (L : List Int) (k : Nat) : Hp := nh12 h (setsL12 0 (L.take k) (List.replicate 22 0))
theorem gk_ok12 {h : Hp} {L : List Int} (e : roE h 12 0 22 = 0) (hl : L.length ≤ 22) (ha : ∀ x ∈ L, hasB (h.objs.length + 1) x = true) : ∀ k, k ≤ L.length → mayB (gk12 h L k) = true
  | 0, _ => nh_may12 e
  | k + 1, hk => by
    have i := gk_ok12 e hl ha k (by omega)
    have hX : (setsL12 0 (L.take k) (List.replicate 22 0)).length = 22 := by rw [setsL_len12]; simp
    have := (nh_set12 i hX (i := k) (by omega) (ha L[k] (List.getElem_mem (by omega)))).2.2
    unfold gk12
    rw [setsL_step12 L _ k (by omega)]
    exact this
theorem gk_step12 {h : Hp} {L : List Int} (e : roE h 12 0 22 = 0) (hl : L.length ≤ 22) (ha : ∀ x ∈ L, hasB (h.objs.length + 1) x = true) {k : Nat} (hk : k < L.length) :
    setE (gk12 h L k) (2 * (h.objs.length : Int)) k L[k] = 0 ∧ setR (gk12 h L k) (2 * (h.objs.length : Int)) k L[k] = gk12 h L (k + 1) := by
  have i := gk_ok12 e hl ha k (by omega)
  have hX : (setsL12 0 (L.take k) (List.replicate 22 0)).length = 22 := by rw [setsL_len12]; simp
  obtain ⟨a, b, -⟩ := nh_set12 i hX (i := k) (by omega) (ha L[k] (List.getElem_mem (by omega)))
  refine ⟨a, ?_⟩
  unfold gk12
  rw [setsL_step12 L _ k (by omega)]
  exact b
theorem gk_end12 {h : Hp} {L : List Int} (hl : L.length ≤ 22) : gk12 h L L.length = nh12 h (L ++ List.replicate (22 - L.length) 0) := by
  unfold gk12
  rw [List.take_length]
  have := setsL_is12 L [] (List.replicate 22 0) (by simp; omega)
  rw [List.length_nil, List.nil_append, List.nil_append] at this
  rw [this, List.drop_replicate]
theorem gk_fit12 {h : Hp} {L : List Int} (f : h.Fit) {k : Nat} (hm : mayB (gk12 h L k) = true) : (gk12 h L k).Fit := nh_fit12 f hm (by rw [setsL_len12]; simp)
theorem refI_neg {n : Nat} {v : Int} (e : refB n v = false) : refI n v < 0 := by unfold refI; rw [e]; show (-1 : Int) < 0; decide
theorem refI_pos {n : Nat} {v : Int} (e : refB n v = true) : ¬ refI n v < 0 := by obtain ⟨-, a, -⟩ := refB_no e; rw [refI_nonneg e]; omega
theorem ro_few12 {h : Hp} (hm : mayB h = true) (hl : h.objs.length < 7) : roE h 12 0 22 = 31 := by
  have a : refB h.objs.length 12 = false := by
    unfold refB
    rw [show atV 12 = 6 by decide, show atB 12 = true by decide, Bool.true_and]
    exact decide_eq_false (by omega)
  unfold roE
  rw [if_neg (by rw [hm]; decide), if_pos a]
theorem ro_cap12 {h : Hp} (e : roE h 12 0 22 = 0) : h.objs.length < 256 := by
  obtain ⟨hm, -, -, -, -, -, hc⟩ := ro_ok e
  unfold mayB at hm
  simp only [Bool.and_eq_true, decide_eq_true_eq] at hm
  omega
theorem mt_has12 {h : Hp} {m : Int} (e : mb12 h m = true) : hasB h.objs.length m = true := by
  obtain ⟨-, h5, -⟩ := mb_parts12 e
  obtain ⟨hk, -⟩ := sls_some12 (h := h) (v := m) (fun z => by rw [z] at h5; cases h5)
  unfold hasB
  rw [(kd_ref12 hk).1, Bool.or_true]
set_option maxHeartbeats 4000000 in
theorem rnew_any12 (h : Hp) (sd m rc hm : Int) (args : List Int) (SA : Option Addr) (da : Nat) (A : Option Addr) (c : Nat) (w : World) (hs : ObsR w A h.objs) (fit : h.Fit) (hsa : IntsR w SA args) (hna : args.length ≤ 1000) (hsn : SA = none → da = 0) :
    Calls Tryz.prog 30 #[.agg #[.slice A h.objs.length c, .int .i64 h.cap, .int .i64 h.last], .int .i64 sd, .int .i64 m, .int .i64 rc, .int .i64 hm, .slice SA args.length da] w (HeapThree w (nn12 h sd m rc hm args).1 (nn12 h sd m rc hm args).2.1 (nn12 h sd m rc hm args).2.2) := by
  obtain ⟨w0, hw0⟩ : ∃ w0, w0 = (w.alloc (.cells #[Value.slice A h.objs.length c, Value.int .i64 h.cap, Value.int .i64 h.last] 24)).alloc (.cells #[.slice none 0 0, .int .i64 0, .int .i64 0] 24) := ⟨_, rfl⟩
  have HB0 : Hid (Below w.heap.size w w0) := by show Below _ _ _; rw [hw0]; exact below_alloc2 w _ _
  have HX0 : Hid (Lies w0 w.heap.size 24 #[Value.slice A h.objs.length c, Value.int .i64 h.cap, Value.int .i64 h.last]) := by show Lies _ _ _ _; rw [hw0]; exact ((Lies.new w _ _).alloc _)
  have HK0 : Hid (Lies w0 (w.heap.size + 1) 24 #[.slice none 0 0, .int .i64 0, .int .i64 0]) := by
    show Lies _ _ _ _
    have := (Lies.new (w.alloc (.cells #[Value.slice A h.objs.length c, Value.int .i64 h.cap, Value.int .i64 h.last] 24)) 24 #[.slice none 0 0, .int .i64 0, .int .i64 0])
    rw [hw0]
    simpa [Hid] using this
  have HS := hid hs
  have HF := hid fit
  have HSA := hid hsa
  have HNA := hid hna
  have HSN := hid hsn
  clear hs fit hsa hna hsn
  go_enter Tryz.func30, Tryz.ntmps30
  go_upto_region 1 with fail
  rw [← hw0]
  clear hw0
  obtain ⟨x0, x1, x2⟩ := HX0.out.c3
  obtain ⟨M, hM⟩ : ∃ M, M = (mt12 h m).1 := ⟨_, rfl⟩
  obtain ⟨em, hem⟩ : ∃ e, e = (mt12 h m).2 := ⟨_, rfl⟩
  have HMM := hid hM
  have HEM := hid hem
  clear hM hem
  go_wp2_with fail
  refine (rmethod_any12 h m A c _ (HS.out.below HB0.out) HF.out).mono ?_
  rintro e w1 ⟨CA, cc, LA, lc, rfl, -, -, hb, -⟩
  rw [← HMM.out, ← HEM.out]
  have HB1 := hid (then_w HB0.out hb)
  have HX1 := hid (HX0.out.later hb)
  have HK1 := hid (HK0.out.later hb)
  clear hb x0 x1 x2 HX0 HB0 HK0
  go_upto_region 2 with fail
  obtain ⟨w2, hw2⟩ : ∃ x, x = w1.alloc (.cells #[.int .i64 M.prim, .int .i64 M.args, .int .i64 M.temps, .slice CA M.code.length cc, .slice LA M.lits.length lc] 32) := ⟨_, rfl⟩
  obtain ⟨bm, hbm⟩ : ∃ x, x = w1.heap.size := ⟨_, rfl⟩
  have LM2 : Hid (Lies w2 bm 32 #[.int .i64 M.prim, .int .i64 M.args, .int .i64 M.temps, .slice CA M.code.length cc, .slice LA M.lits.length lc]) := by show Lies _ _ _ _; rw [hw2, hbm]; exact Lies.new _ _ _
  have hb : Below w1.heap.size w1 w2 := by rw [hw2]; exact below_alloc _ _
  rw [← hw2, ← hbm]
  have HB2 := hid (then_w HB1.out hb)
  have HX2 := hid (HX1.out.later hb)
  have HK2 := hid (HK1.out.later hb)
  clear hw2 hbm hb HB1 HX1 HK1
  by_cases he : em = 0
  case neg =>
    have he2 : em = 120 := by
      have h1 := HEM.out
      rw [h1, mt_no12 (by rw [← h1]; exact he)]
    have HE0 : Hid ((mt12 h m).2 ≠ 0) := by show _ ≠ _; rw [← HEM.out]; exact he
    subst he2
    have HRR : Hid (nn12 h sd m rc hm args = (h, 0, 120)) := by show _ = _; unfold nn12; rw [if_pos (.inl HE0.out)]
    clear he
    obtain ⟨x0, x1, x2⟩ := HX2.out.c3
    obtain ⟨u0, u1, u2⟩ := HK2.out.c3
    obtain ⟨uf0, uf1, uf2⟩ := HK2.out.f3
    go_wp2_with fail
    obtain ⟨r0, r1, r2⟩ := HK2.out.s3 (.slice A h.objs.length c) (.int .i64 h.cap) (.int .i64 h.last)
    refine bodyPost_ret (v := .tuple #[.agg #[.slice A h.objs.length c, .int .i64 h.cap, .int .i64 h.last], .int .i64 0, .int .i64 120]) (by simp [results, Tryz.results30, go_sem, r0, r1, r2]) rfl ?_
    rw [HRR.out]
    have HBE := below_s3 (g := w.heap.size + 1) HB2.out (by simp) (.slice A h.objs.length c) (.int .i64 h.cap) (.int .i64 h.last)
    exact ⟨A, c, rfl, HS.out.below HBE, HBE⟩
  subst he
  obtain ⟨m0, m1, m2, m3, m4⟩ := LM2.out.c5
  by_cases hla : (args.length : Int) = M.args
  case neg =>
    have hlaB : ((args.length : Int) != M.args) = true := bne_iff_ne.2 hla
    have HRR : Hid (nn12 h sd m rc hm args = (h, 0, 120)) := by show _ = _; unfold nn12; rw [if_pos (.inr (by rw [← HMM.out]; exact hla))]
    obtain ⟨x0, x1, x2⟩ := HX2.out.c3
    obtain ⟨u0, u1, u2⟩ := HK2.out.c3
    obtain ⟨uf0, uf1, uf2⟩ := HK2.out.f3
    go_wp2_with fail
    obtain ⟨r0, r1, r2⟩ := HK2.out.s3 (.slice A h.objs.length c) (.int .i64 h.cap) (.int .i64 h.last)
    refine bodyPost_ret (v := .tuple #[.agg #[.slice A h.objs.length c, .int .i64 h.cap, .int .i64 h.last], .int .i64 0, .int .i64 120]) (by simp [results, Tryz.results30, go_sem, r0, r1, r2]) rfl ?_
    rw [HRR.out]
    have HBE := below_s3 (g := w.heap.size + 1) HB2.out (by simp) (.slice A h.objs.length c) (.int .i64 h.cap) (.int .i64 h.last)
    exact ⟨A, c, rfl, HS.out.below HBE, HBE⟩
  have hlaB : ((args.length : Int) != M.args) = false := by rw [hla]; simp
  have HC1 : Hid (¬ ((mt12 h m).2 ≠ 0 ∨ (args.length : Int) ≠ (mt12 h m).1.args)) := by show ¬ _; rw [← HEM.out, ← HMM.out, hla]; simp
  have HLA := hid hla
  obtain ⟨x0, x1, x2⟩ := HX2.out.c3
  obtain ⟨qs, hqs⟩ : ∃ q, q = refI h.objs.length sd := ⟨_, rfl⟩
  obtain ⟨qh, hqh⟩ : ∃ q, q = refI h.objs.length hm := ⟨_, rfl⟩
  have HQS := hid hqs
  have HQH := hid hqh
  clear hqs hqh
  go_wp2_with fail
  refine (rref_any h sd A c _).mono ?_
  rintro e w3 ⟨rfl, hb⟩
  rw [← HQS.out]
  have HB3 := hid (then_w HB2.out hb)
  have HX3 := hid (HX2.out.later hb)
  have HK3 := hid (HK2.out.later hb)
  have LM3 := hid (LM2.out.later hb)
  clear hb x0 x1 x2 m0 m1 m2 m3 m4 hlaB
  cases RS : refB h.objs.length sd
  · have hq : decide (qs < 0) = true := decide_eq_true (by rw [HQS.out]; exact refI_neg RS)
    have HRR : Hid (nn12 h sd m rc hm args = (h, 0, 31)) := by show _ = _; unfold nn12; rw [if_neg HC1.out, if_pos (.inl RS)]
    obtain ⟨x0, x1, x2⟩ := HX3.out.c3
    obtain ⟨u0, u1, u2⟩ := HK3.out.c3
    obtain ⟨uf0, uf1, uf2⟩ := HK3.out.f3
    go_wp2_with fail
    obtain ⟨r0, r1, r2⟩ := HK3.out.s3 (.slice A h.objs.length c) (.int .i64 h.cap) (.int .i64 h.last)
    refine bodyPost_ret (v := .tuple #[.agg #[.slice A h.objs.length c, .int .i64 h.cap, .int .i64 h.last], .int .i64 0, .int .i64 31]) (by simp [results, Tryz.results30, go_sem, r0, r1, r2]) rfl ?_
    rw [HRR.out]
    have HBE := below_s3 (g := w.heap.size + 1) HB3.out (by simp) (.slice A h.objs.length c) (.int .i64 h.cap) (.int .i64 h.last)
    exact ⟨A, c, rfl, HS.out.below HBE, HBE⟩
  have hqS : decide (qs < 0) = false := decide_eq_false (by rw [HQS.out]; exact refI_pos RS)
  have HRS := hid RS
  clear RS
  obtain ⟨x0, x1, x2⟩ := HX3.out.c3
  go_wp2_with fail
  refine (rref_any h hm A c _).mono ?_
  rintro e w4 ⟨rfl, hb⟩
  rw [← HQH.out]
  have HB4 := hid (then_w HB3.out hb)
  have HX4 := hid (HX3.out.later hb)
  have HK4 := hid (HK3.out.later hb)
  have LM4 := hid (LM3.out.later hb)
  clear hb x0 x1 x2
  cases RH : refB h.objs.length hm
  · have hq : decide (qh < 0) = true := decide_eq_true (by rw [HQH.out]; exact refI_neg RH)
    have HRR : Hid (nn12 h sd m rc hm args = (h, 0, 31)) := by show _ = _; unfold nn12; rw [if_neg HC1.out, if_pos (.inr (.inl RH))]
    obtain ⟨x0, x1, x2⟩ := HX4.out.c3
    obtain ⟨u0, u1, u2⟩ := HK4.out.c3
    obtain ⟨uf0, uf1, uf2⟩ := HK4.out.f3
    go_wp2_with fail
    obtain ⟨r0, r1, r2⟩ := HK4.out.s3 (.slice A h.objs.length c) (.int .i64 h.cap) (.int .i64 h.last)
    refine bodyPost_ret (v := .tuple #[.agg #[.slice A h.objs.length c, .int .i64 h.cap, .int .i64 h.last], .int .i64 0, .int .i64 31]) (by simp [results, Tryz.results30, go_sem, r0, r1, r2]) rfl ?_
    rw [HRR.out]
    have HBE := below_s3 (g := w.heap.size + 1) HB4.out (by simp) (.slice A h.objs.length c) (.int .i64 h.cap) (.int .i64 h.last)
    exact ⟨A, c, rfl, HS.out.below HBE, HBE⟩
  have hqH : decide (qh < 0) = false := decide_eq_false (by rw [HQH.out]; exact refI_pos RH)
  have HRH := hid RH
  clear RH
  obtain ⟨x0, x1, x2⟩ := HX4.out.c3
  go_wp2_with fail
  refine (rhas_any h rc A c _).mono ?_
  rintro e w5 ⟨rfl, hb⟩
  have HB5 := hid (then_w HB4.out hb)
  have HX5 := hid (HX4.out.later hb)
  have HK5 := hid (HK4.out.later hb)
  have LM5 := hid (LM4.out.later hb)
  clear hb x0 x1 x2
  cases RV : hasB h.objs.length rc
  · have HRR : Hid (nn12 h sd m rc hm args = (h, 0, 31)) := by show _ = _; unfold nn12; rw [if_neg HC1.out, if_pos (.inr (.inr (.inl RV)))]
    obtain ⟨x0, x1, x2⟩ := HX5.out.c3
    obtain ⟨u0, u1, u2⟩ := HK5.out.c3
    obtain ⟨uf0, uf1, uf2⟩ := HK5.out.f3
    go_wp2_with fail
    obtain ⟨r0, r1, r2⟩ := HK5.out.s3 (.slice A h.objs.length c) (.int .i64 h.cap) (.int .i64 h.last)
    refine bodyPost_ret (v := .tuple #[.agg #[.slice A h.objs.length c, .int .i64 h.cap, .int .i64 h.last], .int .i64 0, .int .i64 31]) (by simp [results, Tryz.results30, go_sem, r0, r1, r2]) rfl ?_
    rw [HRR.out]
    have HBE := below_s3 (g := w.heap.size + 1) HB5.out (by simp) (.slice A h.objs.length c) (.int .i64 h.cap) (.int .i64 h.last)
    exact ⟨A, c, rfl, HS.out.below HBE, HBE⟩
  have HRV := hid RV
  clear RV
  obtain ⟨x0, x1, x2⟩ := HX5.out.c3
  go_wp2_with fail
  refine (rvals_any12 h SA args da A c _ (HSA.out.below HB5.out) (by have := HNA.out; omega)).mono ?_
  rintro e w6 ⟨rfl, hb⟩
  have HB6 := hid (then_w HB5.out hb)
  have HX6 := hid (HX5.out.later hb)
  have HK6 := hid (HK5.out.later hb)
  have LM6 := hid (LM5.out.later hb)
  clear hb x0 x1 x2
  cases RA : args.all (hasB h.objs.length)
  · have HRR : Hid (nn12 h sd m rc hm args = (h, 0, 31)) := by show _ = _; unfold nn12; rw [if_neg HC1.out, if_pos (.inr (.inr (.inr RA)))]
    obtain ⟨x0, x1, x2⟩ := HX6.out.c3
    obtain ⟨u0, u1, u2⟩ := HK6.out.c3
    obtain ⟨uf0, uf1, uf2⟩ := HK6.out.f3
    go_wp2_with fail
    obtain ⟨r0, r1, r2⟩ := HK6.out.s3 (.slice A h.objs.length c) (.int .i64 h.cap) (.int .i64 h.last)
    refine bodyPost_ret (v := .tuple #[.agg #[.slice A h.objs.length c, .int .i64 h.cap, .int .i64 h.last], .int .i64 0, .int .i64 31]) (by simp [results, Tryz.results30, go_sem, r0, r1, r2]) rfl ?_
    rw [HRR.out]
    have HBE := below_s3 (g := w.heap.size + 1) HB6.out (by simp) (.slice A h.objs.length c) (.int .i64 h.cap) (.int .i64 h.last)
    exact ⟨A, c, rfl, HS.out.below HBE, HBE⟩
  have HRA := hid RA
  clear RA
  have HMB : Hid (mayB h = true) := by
    show _ = _
    obtain ⟨z1, z2⟩ := mt_ok12 HEM.out.symm
    exact (mb_parts12 z1).1
  have HC2 : Hid (¬ (refB h.objs.length sd = false ∨ refB h.objs.length hm = false ∨ hasB h.objs.length rc = false ∨ args.all (hasB h.objs.length) = false)) := by
    show ¬ _
    rw [HRS.out, HRH.out, HRV.out, HRA.out]; simp
  clear HB2 HB3 HB4 HB5 HX2 HX3 HX4 HX5 HK2 HK3 HK4 HK5 LM2 LM3 LM4 LM5
  by_cases h7 : h.objs.length < 7
  case pos =>
    have hI7 : (h.objs.length : Int) < 7 := by omega
    have HRR : Hid (nn12 h sd m rc hm args = (h, 0, 31)) := by show _ = _; unfold nn12; rw [if_neg HC1.out, if_neg HC2.out, ro_few12 HMB.out h7, if_pos (by decide)]
    obtain ⟨x0, x1, x2⟩ := HX6.out.c3
    obtain ⟨u0, u1, u2⟩ := HK6.out.c3
    obtain ⟨uf0, uf1, uf2⟩ := HK6.out.f3
    go_wp2_with fail
    obtain ⟨r0, r1, r2⟩ := HK6.out.s3 (.slice A h.objs.length c) (.int .i64 h.cap) (.int .i64 h.last)
    refine bodyPost_ret (v := .tuple #[.agg #[.slice A h.objs.length c, .int .i64 h.cap, .int .i64 h.last], .int .i64 0, .int .i64 31]) (by simp [results, Tryz.results30, go_sem, r0, r1, r2]) rfl ?_
    rw [HRR.out]
    have HBE := below_s3 (g := w.heap.size + 1) HB6.out (by simp) (.slice A h.objs.length c) (.int .i64 h.cap) (.int .i64 h.last)
    exact ⟨A, c, rfl, HS.out.below HBE, HBE⟩
  have hI7 : ¬ (h.objs.length : Int) < 7 := by omega
  obtain ⟨gA, hgA⟩ : ∃ g, g = alR h 12 0 22 := ⟨_, rfl⟩
  obtain ⟨vA, hvA⟩ : ∃ g, g = alV h 12 0 22 := ⟨_, rfl⟩
  obtain ⟨eA, heA⟩ : ∃ g, g = roE h 12 0 22 := ⟨_, rfl⟩
  have HGA := hid hgA
  have HVA := hid hvA
  have HEA := hid heA
  clear hgA hvA heA
  obtain ⟨x0, x1, x2⟩ := HX6.out.c3
  go_wp2_with fail
  refine (ralloc_any h 12 0 22 A c _ (HS.out.below HB6.out) HF.out).mono ?_
  rintro e w7 ⟨Ag, cg, rfl, hog, hb⟩
  rw [← HGA.out] at hog
  rw [← HGA.out, ← HVA.out, ← HEA.out]
  have OG7 := hid hog
  have HB7 := hid (then_w HB6.out hb)
  have HX7 := hid (HX6.out.later hb)
  have HK7 := hid (HK6.out.later hb)
  have LM7 := hid (LM6.out.later hb)
  clear hb hog x0 x1 x2 hI7 hqS hqH HB6 HX6 HK6 LM6
  go_upto_region 7 with fail
  obtain ⟨w8, hw8⟩ : ∃ x, x = w7.alloc (.cells #[.slice Ag gA.objs.length cg, .int .i64 gA.cap, .int .i64 gA.last] 24) := ⟨_, rfl⟩
  obtain ⟨bg, hbg⟩ : ∃ x, x = w7.heap.size := ⟨_, rfl⟩
  have LG8 : Hid (Lies w8 bg 24 #[.slice Ag gA.objs.length cg, .int .i64 gA.cap, .int .i64 gA.last]) := by show Lies _ _ _ _; rw [hw8, hbg]; exact Lies.new _ _ _
  have hb : Below w7.heap.size w7 w8 := by rw [hw8]; exact below_alloc _ _
  rw [← hw8, ← hbg]
  have OG8 := hid (OG7.out.below hb)
  have HLB : Hid (w.heap.size + 1 < bg) := by show _ < _; rw [hbg]; exact HK7.out.lt
  have HB8 := hid (then_w HB7.out hb)
  have HX8 := hid (HX7.out.later hb)
  have HK8 := hid (HK7.out.later hb)
  have LM8 := hid (LM7.out.later hb)
  clear hw8 hbg hb HB7 HX7 HK7 LM7 OG7
  by_cases hea : eA = 0
  case neg =>
    have heB : (eA != 0) = true := bne_iff_ne.2 hea
    have HRR : Hid (nn12 h sd m rc hm args = (h, 0, eA)) := by show _ = _; unfold nn12; rw [if_neg HC1.out, if_neg HC2.out, if_pos (by rw [← HEA.out]; exact hea), ← HEA.out]
    obtain ⟨x0, x1, x2⟩ := HX8.out.c3
    obtain ⟨u0, u1, u2⟩ := HK8.out.c3
    obtain ⟨uf0, uf1, uf2⟩ := HK8.out.f3
    go_wp2_with fail
    obtain ⟨r0, r1, r2⟩ := HK8.out.s3 (.slice A h.objs.length c) (.int .i64 h.cap) (.int .i64 h.last)
    refine bodyPost_ret (v := .tuple #[.agg #[.slice A h.objs.length c, .int .i64 h.cap, .int .i64 h.last], .int .i64 0, .int .i64 eA]) (by simp [results, Tryz.results30, go_sem, r0, r1, r2]) rfl ?_
    rw [HRR.out]
    have HBE := below_s3 (g := w.heap.size + 1) HB8.out (by simp) (.slice A h.objs.length c) (.int .i64 h.cap) (.int .i64 h.last)
    exact ⟨A, c, rfl, HS.out.below HBE, HBE⟩
  subst hea
  have HRO : Hid (roE h 12 0 22 = 0) := HEA.out.symm
  have HG1 : Hid (gA = alH h 12 0 22) := by show _ = _; rw [HGA.out]; unfold alR; rw [if_pos HRO.out]
  have HV1 : Hid (vA = 2 * (h.objs.length : Int)) := by show _ = _; rw [HVA.out]; unfold alV; rw [if_pos HRO.out]
  obtain ⟨t1, ht1⟩ : ∃ x, x = M.temps := ⟨_, rfl⟩
  have HT1 := hid ht1
  have HTB : Hid (0 ≤ t1 ∧ t1 ≤ 16) := by
    show _ ∧ _
    rw [ht1, HMM.out]
    obtain ⟨z1, z2⟩ := mt_ok12 HEM.out.symm
    obtain ⟨-, -, -, -, -, -, y1, y2, -⟩ := mb_parts12 z1
    rw [z2]
    have := sm_bd12 (v := sl12 h m 2) (most := 8)
    have e8 : (mx12 h m).temps = sm12 (sl12 h m 2) 8 := rfl
    omega
  have HAL : Hid (args.length ≤ 4) := by
    show _ ≤ _
    obtain ⟨z1, z2⟩ := mt_ok12 HEM.out.symm
    have h1 := HLA.out
    rw [HMM.out, z2] at h1
    have := sm_bd12 (v := sl12 h m 1) (most := 4)
    have h2 : (args.length : Int) = sm12 (sl12 h m 1) 4 := h1
    omega
  have HHM : Hid (hasB (h.objs.length + 1) m = true) := by
    show _ = _
    obtain ⟨z1, z2⟩ := mt_ok12 HEM.out.symm
    exact has_mono12 (mt_has12 z1) (Nat.le_succ _)
  clear ht1
  by_cases hh : hm = 0
  case pos =>
    subst hh
    obtain ⟨m0, m1, m2, m3, m4⟩ := LM8.out.c5
    rw [← HT1.out] at m2
    obtain ⟨y1v, hyv⟩ : ∃ x, x = 2 * t1 + 1 := ⟨_, rfl⟩
    have HY1 := hid hyv
    have htb := HTB.out
    have hw2 : IntKind.i64.wrap (2 * t1) = 2 * t1 := IntWalk.i64_in _ ⟨by omega, by omega⟩
    have hw3 : IntKind.i64.wrap (2 * t1 + 1) = y1v := by rw [hyv]; exact IntWalk.i64_in _ ⟨by omega, by omega⟩
    clear hyv htb
    go_upto_region 12 with fail
    obtain ⟨w9, hw9⟩ : ∃ x, x = w8.alloc (.cells #[.int .i64 sd, .int .i64 1, .int .i64 y1v, .int .i64 m, .int .i64 rc, .int .i64 vA] 3) := ⟨_, rfl⟩
    obtain ⟨bl, hbl⟩ : ∃ x, x = w8.heap.size := ⟨_, rfl⟩
    have hown : w9.ownsRow w8.heap.size 3 1 (.slice (some ⟨bl, 0, none⟩) 6 6) 6 (([sd, 1, y1v, m, rc, vA] : List Int).map (Value.int .i64)) := by
      rw [hw9, hbl]
      exact ⟨rfl, .inr ⟨w8.heap.size, 6, #[.int .i64 sd, .int .i64 1, .int .i64 y1v, .int .i64 m, .int .i64 rc, .int .i64 vA], rfl, Nat.le_refl _, by show (w8.heap.push _)[w8.heap.size]? = _; simp, Nat.le_refl _, by unfold maxLen; omega, rfl, rfl⟩⟩
    have hb : Below w8.heap.size w8 w9 := by rw [hw9]; exact below_alloc _ _
    rw [← hw9, ← hbl]
    have HB9 := hid (then_w HB8.out hb)
    have HK9 := hid (HK8.out.later hb)
    have LG9 := hid (LG8.out.later hb)
    have OG9 := hid (OG8.out.below hb)
    have HBL : Hid (w8.heap.size ≤ bl) := by show _ ≤ _; rw [hbl]; exact Nat.le_refl _
    obtain ⟨va, w10, hrun, hown2, hgr⟩ := run_app_ints12 w9 w8.heap.size _ 6 [sd, 1, y1v, m, rc, vA] hown SA da args (HSA.out.below HB9.out) HSN.out (by have := HAL.out; omega) hb.size
    obtain ⟨L, hL⟩ : ∃ L, L = [sd, 1, y1v, m, rc, vA] ++ args := ⟨_, rfl⟩
    have HL := hid hL
    have hLn : 6 + args.length = L.length := by rw [hL]; simp; omega
    rw [← hL] at hown2
    rw [hLn] at hown2
    obtain ⟨SL, cL, rfl⟩ := own_form hown2
    have hgb' : Below w8.heap.size w8 w10 := hb.grown hgr hb.size (fun k e => by have e2 : bl = k := Option.some.inj e; have := HBL.out; omega)
    clear m0 m1 m2 m3 m4 hw2 hw3
    have HB10 := hid (then_w HB8.out hgb')
    have HK10 := hid (HK8.out.later hgb')
    have LG10 := hid (LG8.out.later hgb')
    have OG10 := hid (OG8.out.below hgb')
    have IL10 := hid hown2
    have HBW8 : Hid (bg < w8.heap.size) := LG8.out.lt
    have HLN := hid hLn
    have HLL : Hid (L.length ≤ 22) := by show _ ≤ _; have := HAL.out; omega
    have HLH : Hid (∀ x ∈ L, hasB (h.objs.length + 1) x = true) := by
      intro x hx
      rw [hL] at hx
      rcases List.mem_append.1 hx with g | g
      · simp only [List.mem_cons, List.not_mem_nil, or_false] at g
        rcases g with rfl | rfl | rfl | rfl | rfl | rfl
        · unfold hasB; rw [ref_mono12 HRS.out (Nat.le_succ _), Bool.or_true]
        · unfold hasB; rw [show nB 1 = true by decide]; rfl
        · rw [HY1.out]; exact odd_has12 HTB.out.1 (by have := HTB.out.2; omega)
        · exact HHM.out
        · exact has_mono12 HRV.out (Nat.le_succ _)
        · rw [HV1.out]; exact by unfold hasB; rw [(ref_new12 (ro_cap12 HRO.out)).1, Bool.or_true]
      · exact has_mono12 (List.all_eq_true.1 HRA.out x g) (Nat.le_succ _)
    have HEND : Hid (nn12 h sd m rc 0 args = (gk12 h L L.length, vA, 0)) := by
      show _ = _
      unfold nn12
      rw [if_neg HC1.out, if_neg HC2.out, if_neg (by rw [HRO.out]; decide), gk_end12 HLL.out, HV1.out, hL, if_pos rfl, ← HV1.out]
      unfold nl12
      rw [← HMM.out, ← HT1.out, ← HY1.out]
      simp only [List.length_append, List.append_assoc]
      rw [show 22 - (([sd, 1, y1v, m, rc, vA] : List Int).length + args.length) = 16 - args.length by simp; omega]
    clear hL hLn hw9 hbl hown hown2 hgb' hgr hb HB9 HK9 LG9 OG9 HB8 HX8 HK8 LG8 OG8 LM8
    have HG0 : Hid (gA = gk12 h L 0) := by show _ = _; rw [HG1.out]; rfl
    go_wp2_with (at_builtin; refine wpList_append_run12 rfl (.tmp 89) (.tmp 90) 30 rfl _ w10 hrun ?_)
    clear hrun
    go_loopw [21] (fun i wr => ∃ (k : Nat) (Ak : Option Addr) (ck : Nat), k ≤ L.length ∧ i = .int .i64 k ∧ Hid (Below w.heap.size w wr) ∧ Hid (Lies wr (w.heap.size + 1) 24 #[.slice none 0 0, .int .i64 0, .int .i64 0]) ∧ Hid (Lies wr bg 24 #[.slice Ak (gk12 h L k).objs.length ck, .int .i64 (gk12 h L k).cap, .int .i64 (gk12 h L k).last]) ∧ Hid (ObsR wr Ak (gk12 h L k).objs) ∧ Hid (0 < k → ∃ ls, ls.map (·.o) = (gk12 h L k).objs ∧ OwnH wr (w.heap.size + 2) Ak ck ls) ∧ Hid (wr.ownsRow w8.heap.size 3 1 (.slice SL L.length cL) L.length (L.map (Value.int .i64)))) (fun i _ => L.length - (intOf i).toNat)
    case atStart => exact ⟨0, Ag, cg, Nat.zero_le _, rfl, HB10, HK10, by rw [← HG0.out]; exact LG10, by rw [← HG0.out]; exact OG10, fun z => absurd z (by omega), IL10⟩
    case round =>
      obtain ⟨k, Ak, ck, hk, rfl, HBR, HKR, LGR, OGR, HOC, ILR⟩ := hrel
      clear HB10 HK10 LG10 OG10 IL10
      obtain ⟨g, hg⟩ : ∃ g, g = gk12 h L k := ⟨_, rfl⟩
      rw [← hg] at LGR OGR HOC
      by_cases hlt : k < L.length
      · obtain ⟨s1, s2⟩ := gk_step12 HRO.out HLL.out HLH.out hlt
        have s3 := gk_ok12 HRO.out HLL.out HLH.out k hk
        have s4 := gk_fit12 HF.out s3
        rw [← hg] at s1 s2 s3 s4
        have HGK := hid hg
        rw [← HV1.out] at s1 s2
        have HS1 := hid s1
        have HS2 := hid s2
        have HS4 := hid s4
        obtain ⟨bs, os, rfl, hbs, hcs⟩ := own_ints ILR.out (by omega)
        have hcell : wr.cell? ⟨bs, os + k, none⟩ = some (.int .i64 L[k]) := hcs k _ (List.getElem?_eq_getElem hlt)
        obtain ⟨x, hx⟩ : ∃ x, x = L[k] := ⟨_, rfl⟩
        rw [← hx] at HS1 HS2 hcell
        clear s1 s2 s3 s4 hcs hx hbs hg
        have HNB : Hid (bs ≠ bg) := by have h1 := (ILR.out.lt bs rfl).1; have h2 := HBW8.out; show bs ≠ bg; omega
        have hL22 : L.length ≤ 22 := HLL.out
        obtain ⟨l0, l1, l2⟩ := LGR.out.c3
        go_upto_region 16 with fail
        refine wp_region_held_drew (S := (fun w' => w'.cell? ⟨bs, os + k, none⟩ = some (.int .i64 x))) (by kernel_rfl) ?_ (fun hH0 => ?_)
        · exact cell_later (Below.refl wr.heap.size wr).drew hcell
        refine tkI 1 ⟨some 100, .move (.tmp 18), 3, "ref.go:90", #[], none⟩ ?v1 rfl (by kernel_rfl) (by rfl) ?y1 ?_
        case y1 => intro w hSw; (try dsimp only at hSw); go_simp; all_goals with_reducible rfl
        try simp only [apt12]
        refine tkI 2 ⟨some 101, .move (.tmp 21), 3, "ref.go:90", #[], none⟩ ?v2 rfl (by kernel_rfl) (by rfl) ?y2 ?_
        case y2 => intro w hSw; (try dsimp only at hSw); go_simp; all_goals with_reducible rfl
        try simp only [apt12]
        refine tkI 3 ⟨some 102, .move (.tmp 20), 30, "ref.go:90", #[], none⟩ ?v3 rfl (by kernel_rfl) (by rfl) ?y3 ?_
        case y3 => intro w hSw; (try dsimp only at hSw); go_simp; all_goals with_reducible rfl
        try simp only [apt12]
        refine tkI 4 ⟨some 103, .move (.tmp 21), 3, "ref.go:90", #[], none⟩ ?v4 rfl (by kernel_rfl) (by rfl) ?y4 ?_
        case y4 => intro w hSw; (try dsimp only at hSw); go_simp; all_goals with_reducible rfl
        try simp only [apt12]
        refine tkI 5 ⟨some 104, .indexAddr 30 (.tmp 102) (.tmp 103), 0, "ref.go:90", #[⟨3, .data⟩, ⟨4, .data⟩], none⟩ ?v5 rfl (by kernel_rfl) (by rfl) ?y5 ?_
        case y5 => intro w hSw; (try dsimp only at hSw); go_simp; all_goals with_reducible rfl
        try simp only [apt12]
        refine tkI 6 ⟨some 105, .load 3 (.tmp 104), 3, "ref.go:90", #[⟨5, .data⟩], none⟩ ?v6 rfl (by kernel_rfl) (by rfl) ?y6 ?_
        case y6 => intro w hSw; (try dsimp only at hSw); go_simp; all_goals with_reducible rfl
        try simp only [apt12]
        refine wpAnyH_ready (rs := [0]) (by kernel_rfl) (by simp) ?_
        refine AllReadyH.cons (i := 0) (o := ⟨some 99, .load 24 (.tmp 17), 24, "ref.go:90", #[], none⟩) rfl (fun K hK => ?_) AllReadyH.nil
        go_simp
        refine hK.out _ _ ?_ (fun hH1 => ?_)
        · exact hH0
        clear hK K
        try simp only [apt12]
        clear l0 l1 l2
        refine wpAnyH_ready (rs := [7]) (by kernel_rfl) (by simp) ?_
        refine AllReadyH.cons (i := 7) (o := ⟨some 106, .call { callee := .value (.func 53), args := #[.tmp 99, .tmp 100, .tmp 101, .tmp 105], argTypes := #[24, 3, 3, 3] }, 45, "ref.go:90", #[⟨0, .data⟩, ⟨1, .data⟩, ⟨2, .data⟩, ⟨6, .data⟩], none⟩) rfl (fun K hK => ?_) AllReadyH.nil
        go_simp
        go_at_call 53
        refine (rset_own12 g vA k x Ak ck _ (OGR.out.below (Below.refl wr.heap.size wr).drew) HS4.out HS1.out).mono ?_
        rintro e u1 ⟨A1, c1, ls1, rfl, hm, ho, hb⟩
        obtain ⟨g1, hg1⟩ : ∃ y, y = setR g vA k x := ⟨_, rfl⟩
        rw [← hg1] at hm ⊢
        have HG1R : Hid (g1 = gk12 h L (k + 1)) := by show _ = _; rw [hg1, HS2.out]
        have BU : Hid (Below wr.heap.size wr u1) := (Below.refl wr.heap.size wr).drew.trans hb
        have HM1 := hid hm
        have HO1 := hid ho
        have hcU := cell_later BU.out hcell
        refine hK.out _ _ ?_ (fun hH2 => ?_)
        · exact hcU
        clear hK K
        try simp only [apt12]
        clear hb hm ho hg1
        refine tkI 8 ⟨some 98, .move (.tmp 106), 45, "ref.go:90", #[⟨7, .data⟩], none⟩ ?v7 rfl (by kernel_rfl) (by rfl) ?y7 ?_
        case y7 => intro w hSw; (try dsimp only at hSw); go_simp; all_goals with_reducible rfl
        try simp only [apt12]
        refine tkI 9 ⟨some 107, .extract (.tmp 98) 0, 24, "ref.go:90", #[⟨8, .data⟩], none⟩ ?v8 rfl (by kernel_rfl) (by rfl) ?y8 ?_
        case y8 => intro w hSw; (try dsimp only at hSw); go_simp; all_goals with_reducible rfl
        try simp only [apt12]
        refine tkI 10 ⟨some 108, .extract (.tmp 98) 1, 33, "ref.go:90", #[⟨8, .data⟩, ⟨11, .gcOnly .lateStores⟩], none⟩ ?v9 rfl (by kernel_rfl) (by rfl) ?y9 ?_
        case y9 => intro w hSw; (try dsimp only at hSw); go_simp; all_goals with_reducible rfl
        try simp only [apt12]
        refine wpAnyH_ready (rs := [11]) (by kernel_rfl) (by simp) ?_
        refine AllReadyH.cons (i := 11) (o := ⟨none, .store 24 (.tmp 17) (.tmp 107), 0, "ref.go:90", #[⟨9, .data⟩, ⟨7, .chain⟩, ⟨0, .phase⟩, ⟨1, .phase⟩, ⟨2, .phase⟩, ⟨3, .phase⟩, ⟨4, .phase⟩, ⟨5, .phase⟩, ⟨6, .phase⟩, ⟨7, .phase⟩, ⟨8, .phase⟩, ⟨9, .phase⟩, ⟨10, .textOnly .lateStores⟩], none⟩) rfl (fun K hK => ?_) AllReadyH.nil
        have LU := hid (LGR.out.later BU.out)
        have BW := hid (then_w HBR.out BU.out)
        have HLB2 : Hid (w.heap.size ≤ bg) := by have := HLB.out; show _ ≤ _; omega
        have HW2 : Hid (w.heap.size + 2 ≤ wr.heap.size) := HKR.out.lt
        obtain ⟨r0, r1, r2⟩ := LU.out.c3
        obtain ⟨rf0, rf1, rf2⟩ := LU.out.f3
        have LF : Hid (Lies (((u1.setCell ⟨bg, 0, none⟩ (.slice A1 g1.objs.length c1)).setCell ⟨bg, 1, none⟩ (.int .i64 g1.cap)).setCell ⟨bg, 2, none⟩ (.int .i64 g1.last)) bg 24 #[.slice A1 g1.objs.length c1, .int .i64 g1.cap, .int .i64 g1.last]) := by
          show Lies _ _ _ _
          exact (((LU.out.set_ 0 (.slice A1 g1.objs.length c1)).set_ 1 (.int .i64 g1.cap)).set_ 2 (.int .i64 g1.last))
        have OF : Hid (OwnH (((u1.setCell ⟨bg, 0, none⟩ (.slice A1 g1.objs.length c1)).setCell ⟨bg, 1, none⟩ (.int .i64 g1.cap)).setCell ⟨bg, 2, none⟩ (.int .i64 g1.last)) wr.drew.heap.size A1 c1 ls1) := by
          show OwnH _ _ _ _ _
          exact (((HO1.out.off LU.out 0 (.slice A1 g1.objs.length c1)).off (LU.out.set_ 0 (.slice A1 g1.objs.length c1)) 1 (.int .i64 g1.cap)).off ((LU.out.set_ 0 (.slice A1 g1.objs.length c1)).set_ 1 (.int .i64 g1.cap)) 2 (.int .i64 g1.last))
        have BF : Hid (Below w.heap.size w (((u1.setCell ⟨bg, 0, none⟩ (.slice A1 g1.objs.length c1)).setCell ⟨bg, 1, none⟩ (.int .i64 g1.cap)).setCell ⟨bg, 2, none⟩ (.int .i64 g1.last))) := by
          show Below _ _ _
          exact (((BW.out).setCell (p := ⟨bg, 0, none⟩) HLB2.out (.slice A1 g1.objs.length c1)).setCell (p := ⟨bg, 1, none⟩) HLB2.out (.int .i64 g1.cap)).setCell (p := ⟨bg, 2, none⟩) HLB2.out (.int .i64 g1.last)
        have KF : Hid (Lies (((u1.setCell ⟨bg, 0, none⟩ (.slice A1 g1.objs.length c1)).setCell ⟨bg, 1, none⟩ (.int .i64 g1.cap)).setCell ⟨bg, 2, none⟩ (.int .i64 g1.last)) (w.heap.size + 1) 24 #[.slice none 0 0, .int .i64 0, .int .i64 0]) := by
          show Lies _ _ _ _
          exact ((((HKR.out.later BU.out).far (p := ⟨bg, 0, none⟩) (by have := HLB.out; show w.heap.size + 1 ≠ bg; omega) (.slice A1 g1.objs.length c1)).far (p := ⟨bg, 1, none⟩) (by have := HLB.out; show w.heap.size + 1 ≠ bg; omega) (.int .i64 g1.cap)).far (p := ⟨bg, 2, none⟩) (by have := HLB.out; show w.heap.size + 1 ≠ bg; omega) (.int .i64 g1.last))
        have IF : Hid ((((u1.setCell ⟨bg, 0, none⟩ (.slice A1 g1.objs.length c1)).setCell ⟨bg, 1, none⟩ (.int .i64 g1.cap)).setCell ⟨bg, 2, none⟩ (.int .i64 g1.last)).ownsRow w8.heap.size 3 1 (.slice (some ⟨bs, os, none⟩) L.length cL) L.length (L.map (Value.int .i64))) := by
          show World.ownsRow _ _ _ _ _ _ _
          exact ownsRow_setCell_below (ownsRow_setCell_below (ownsRow_setCell_below (own_later ILR.out BU.out) (a := ⟨bg, 0, none⟩) HBW8.out _) (a := ⟨bg, 1, none⟩) HBW8.out _) (a := ⟨bg, 2, none⟩) HBW8.out _
        go_simp
        refine hK.out _ _ ?_ (fun hH3 => ?_)
        · exact cell_far HNB.out (cell_far HNB.out (cell_far HNB.out hcU))
        clear hK K
        try simp only [apt12]
        clear r0 r1 r2 rf0 rf1 rf2
        refine wpAnyH_done (by kernel_rfl) ?_ _
        try simp only [apt12]
        go_wp2_with fail
        go_roundw
        case rel => exact ⟨k + 1, A1, c1, by omega, by go_num, BF, KF, by rw [← HG1R.out]; exact LF, by rw [← HG1R.out]; exact own_obs OF.out HM1.out, fun _ => ⟨ls1, by rw [← HG1R.out]; exact HM1.out, OF.out.lower HW2.out⟩, IF⟩
        case measure => simp [intOf]; omega
      · have hkl : k = L.length := by omega
        subst hkl
        have HRR : Hid (nn12 h sd m rc 0 args = (g, vA, 0)) := by show _ = _; rw [HEND.out, hg]
        clear hg
        obtain ⟨l0, l1, l2⟩ := LGR.out.c3
        obtain ⟨u0, u1, u2⟩ := HKR.out.c3
        obtain ⟨uf0, uf1, uf2⟩ := HKR.out.f3
        go_wp2_with fail
        obtain ⟨r0, r1, r2⟩ := HKR.out.s3 (.slice Ak g.objs.length ck) (.int .i64 g.cap) (.int .i64 g.last)
        refine bodyPost_ret (v := .tuple #[.agg #[.slice Ak g.objs.length ck, .int .i64 g.cap, .int .i64 g.last], .int .i64 vA, .int .i64 0]) (by simp [results, Tryz.results30, go_sem, r0, r1, r2]) rfl ?_
        rw [HRR.out]
        have HBE := below_s3 (g := w.heap.size + 1) HBR.out (by simp) (.slice Ak g.objs.length ck) (.int .i64 g.cap) (.int .i64 g.last)
        obtain ⟨lsE, hE1, hE2⟩ := HOC.out (by have := HLN.out; omega)
        exact ⟨Ak, ck, rfl, own_obs (((hE2.low (p := ⟨w.heap.size + 1, 0, none⟩) (Nat.lt_succ_self _) _).low (p := ⟨w.heap.size + 1, 1, none⟩) (Nat.lt_succ_self _) _).low (p := ⟨w.heap.size + 1, 2, none⟩) (Nat.lt_succ_self _) _) hE1, HBE⟩
  obtain ⟨m0, m1, m2, m3, m4⟩ := LM8.out.c5
  rw [← HT1.out] at m2
  obtain ⟨y1v, hyv⟩ : ∃ x, x = 2 * t1 + 1 := ⟨_, rfl⟩
  have HY1 := hid hyv
  have htb := HTB.out
  have hw2 : IntKind.i64.wrap (2 * t1) = 2 * t1 := IntWalk.i64_in _ ⟨by omega, by omega⟩
  have hw3 : IntKind.i64.wrap (2 * t1 + 1) = y1v := by rw [hyv]; exact IntWalk.i64_in _ ⟨by omega, by omega⟩
  clear hyv htb
  go_upto_region 12 with fail
  obtain ⟨w9, hw9⟩ : ∃ x, x = w8.alloc (.cells #[.int .i64 sd, .int .i64 1, .int .i64 y1v, .int .i64 m, .int .i64 rc, .int .i64 hm] 3) := ⟨_, rfl⟩
  obtain ⟨bl, hbl⟩ : ∃ x, x = w8.heap.size := ⟨_, rfl⟩
  have hown : w9.ownsRow w8.heap.size 3 1 (.slice (some ⟨bl, 0, none⟩) 6 6) 6 (([sd, 1, y1v, m, rc, hm] : List Int).map (Value.int .i64)) := by
    rw [hw9, hbl]
    exact ⟨rfl, .inr ⟨w8.heap.size, 6, #[.int .i64 sd, .int .i64 1, .int .i64 y1v, .int .i64 m, .int .i64 rc, .int .i64 hm], rfl, Nat.le_refl _, by show (w8.heap.push _)[w8.heap.size]? = _; simp, Nat.le_refl _, by unfold maxLen; omega, rfl, rfl⟩⟩
  have hb : Below w8.heap.size w8 w9 := by rw [hw9]; exact below_alloc _ _
  rw [← hw9, ← hbl]
  have HB9 := hid (then_w HB8.out hb)
  have HK9 := hid (HK8.out.later hb)
  have LG9 := hid (LG8.out.later hb)
  have OG9 := hid (OG8.out.below hb)
  have HBL : Hid (w8.heap.size ≤ bl) := by show _ ≤ _; rw [hbl]; exact Nat.le_refl _
  obtain ⟨va, w10, hrun, hown2, hgr⟩ := run_app_ints12 w9 w8.heap.size _ 6 [sd, 1, y1v, m, rc, hm] hown SA da args (HSA.out.below HB9.out) HSN.out (by have := HAL.out; omega) hb.size
  obtain ⟨L, hL⟩ : ∃ L, L = [sd, 1, y1v, m, rc, hm] ++ args := ⟨_, rfl⟩
  have HL := hid hL
  have hLn : 6 + args.length = L.length := by rw [hL]; simp; omega
  rw [← hL] at hown2
  rw [hLn] at hown2
  obtain ⟨SL, cL, rfl⟩ := own_form hown2
  have hgb' : Below w8.heap.size w8 w10 := hb.grown hgr hb.size (fun k e => by have e2 : bl = k := Option.some.inj e; have := HBL.out; omega)
  clear m0 m1 m2 m3 m4 hw2 hw3
  have HB10 := hid (then_w HB8.out hgb')
  have HK10 := hid (HK8.out.later hgb')
  have LG10 := hid (LG8.out.later hgb')
  have OG10 := hid (OG8.out.below hgb')
  have IL10 := hid hown2
  have HBW8 : Hid (bg < w8.heap.size) := LG8.out.lt
  have HLN := hid hLn
  have HLL : Hid (L.length ≤ 22) := by show _ ≤ _; have := HAL.out; omega
  have HLH : Hid (∀ x ∈ L, hasB (h.objs.length + 1) x = true) := by
    intro x hx
    rw [hL] at hx
    rcases List.mem_append.1 hx with g | g
    · simp only [List.mem_cons, List.not_mem_nil, or_false] at g
      rcases g with rfl | rfl | rfl | rfl | rfl | rfl
      · unfold hasB; rw [ref_mono12 HRS.out (Nat.le_succ _), Bool.or_true]
      · unfold hasB; rw [show nB 1 = true by decide]; rfl
      · rw [HY1.out]; exact odd_has12 HTB.out.1 (by have := HTB.out.2; omega)
      · exact HHM.out
      · exact has_mono12 HRV.out (Nat.le_succ _)
      · unfold hasB; rw [ref_mono12 HRH.out (Nat.le_succ _), Bool.or_true]
    · exact has_mono12 (List.all_eq_true.1 HRA.out x g) (Nat.le_succ _)
  have HEND : Hid (nn12 h sd m rc hm args = (gk12 h L L.length, vA, 0)) := by
    show _ = _
    unfold nn12
    rw [if_neg HC1.out, if_neg HC2.out, if_neg (by rw [HRO.out]; decide), gk_end12 HLL.out, HV1.out, hL, if_neg hh]
    unfold nl12
    rw [← HMM.out, ← HT1.out, ← HY1.out]
    simp only [List.length_append, List.append_assoc]
    rw [show 22 - (([sd, 1, y1v, m, rc, hm] : List Int).length + args.length) = 16 - args.length by simp; omega]
  clear hL hLn hw9 hbl hown hown2 hgb' hgr hb HB9 HK9 LG9 OG9 HB8 HX8 HK8 LG8 OG8 LM8
  have HG0 : Hid (gA = gk12 h L 0) := by show _ = _; rw [HG1.out]; rfl
  go_wp2_with (at_builtin; refine wpList_append_run12 rfl (.tmp 89) (.tmp 90) 30 rfl _ w10 hrun ?_)
  clear hrun
  go_loopw [21] (fun i wr => ∃ (k : Nat) (Ak : Option Addr) (ck : Nat), k ≤ L.length ∧ i = .int .i64 k ∧ Hid (Below w.heap.size w wr) ∧ Hid (Lies wr (w.heap.size + 1) 24 #[.slice none 0 0, .int .i64 0, .int .i64 0]) ∧ Hid (Lies wr bg 24 #[.slice Ak (gk12 h L k).objs.length ck, .int .i64 (gk12 h L k).cap, .int .i64 (gk12 h L k).last]) ∧ Hid (ObsR wr Ak (gk12 h L k).objs) ∧ Hid (0 < k → ∃ ls, ls.map (·.o) = (gk12 h L k).objs ∧ OwnH wr (w.heap.size + 2) Ak ck ls) ∧ Hid (wr.ownsRow w8.heap.size 3 1 (.slice SL L.length cL) L.length (L.map (Value.int .i64)))) (fun i _ => L.length - (intOf i).toNat)
  case atStart => exact ⟨0, Ag, cg, Nat.zero_le _, rfl, HB10, HK10, by rw [← HG0.out]; exact LG10, by rw [← HG0.out]; exact OG10, fun z => absurd z (by omega), IL10⟩
  case round =>
    obtain ⟨k, Ak, ck, hk, rfl, HBR, HKR, LGR, OGR, HOC, ILR⟩ := hrel
    clear HB10 HK10 LG10 OG10 IL10
    obtain ⟨g, hg⟩ : ∃ g, g = gk12 h L k := ⟨_, rfl⟩
    rw [← hg] at LGR OGR HOC
    by_cases hlt : k < L.length
    · obtain ⟨s1, s2⟩ := gk_step12 HRO.out HLL.out HLH.out hlt
      have s3 := gk_ok12 HRO.out HLL.out HLH.out k hk
      have s4 := gk_fit12 HF.out s3
      rw [← hg] at s1 s2 s3 s4
      have HGK := hid hg
      rw [← HV1.out] at s1 s2
      have HS1 := hid s1
      have HS2 := hid s2
      have HS4 := hid s4
      obtain ⟨bs, os, rfl, hbs, hcs⟩ := own_ints ILR.out (by omega)
      have hcell : wr.cell? ⟨bs, os + k, none⟩ = some (.int .i64 L[k]) := hcs k _ (List.getElem?_eq_getElem hlt)
      obtain ⟨x, hx⟩ : ∃ x, x = L[k] := ⟨_, rfl⟩
      rw [← hx] at HS1 HS2 hcell
      clear s1 s2 s3 s4 hcs hx hbs hg
      have HNB : Hid (bs ≠ bg) := by have h1 := (ILR.out.lt bs rfl).1; have h2 := HBW8.out; show bs ≠ bg; omega
      have hL22 : L.length ≤ 22 := HLL.out
      obtain ⟨l0, l1, l2⟩ := LGR.out.c3
      go_upto_region 16 with fail
      refine wp_region_held_drew (S := (fun w' => w'.cell? ⟨bs, os + k, none⟩ = some (.int .i64 x))) (by kernel_rfl) ?_ (fun hH0 => ?_)
      · exact cell_later (Below.refl wr.heap.size wr).drew hcell
      refine tkI 1 ⟨some 100, .move (.tmp 18), 3, "ref.go:90", #[], none⟩ ?v10 rfl (by kernel_rfl) (by rfl) ?y10 ?_
      case y10 => intro w hSw; (try dsimp only at hSw); go_simp; all_goals with_reducible rfl
      try simp only [apt12]
      refine tkI 2 ⟨some 101, .move (.tmp 21), 3, "ref.go:90", #[], none⟩ ?v11 rfl (by kernel_rfl) (by rfl) ?y11 ?_
      case y11 => intro w hSw; (try dsimp only at hSw); go_simp; all_goals with_reducible rfl
      try simp only [apt12]
      refine tkI 3 ⟨some 102, .move (.tmp 20), 30, "ref.go:90", #[], none⟩ ?v12 rfl (by kernel_rfl) (by rfl) ?y12 ?_
      case y12 => intro w hSw; (try dsimp only at hSw); go_simp; all_goals with_reducible rfl
      try simp only [apt12]
      refine tkI 4 ⟨some 103, .move (.tmp 21), 3, "ref.go:90", #[], none⟩ ?v13 rfl (by kernel_rfl) (by rfl) ?y13 ?_
      case y13 => intro w hSw; (try dsimp only at hSw); go_simp; all_goals with_reducible rfl
      try simp only [apt12]
      refine tkI 5 ⟨some 104, .indexAddr 30 (.tmp 102) (.tmp 103), 0, "ref.go:90", #[⟨3, .data⟩, ⟨4, .data⟩], none⟩ ?v14 rfl (by kernel_rfl) (by rfl) ?y14 ?_
      case y14 => intro w hSw; (try dsimp only at hSw); go_simp; all_goals with_reducible rfl
      try simp only [apt12]
      refine tkI 6 ⟨some 105, .load 3 (.tmp 104), 3, "ref.go:90", #[⟨5, .data⟩], none⟩ ?v15 rfl (by kernel_rfl) (by rfl) ?y15 ?_
      case y15 => intro w hSw; (try dsimp only at hSw); go_simp; all_goals with_reducible rfl
      try simp only [apt12]
      refine wpAnyH_ready (rs := [0]) (by kernel_rfl) (by simp) ?_
      refine AllReadyH.cons (i := 0) (o := ⟨some 99, .load 24 (.tmp 17), 24, "ref.go:90", #[], none⟩) rfl (fun K hK => ?_) AllReadyH.nil
      go_simp
      refine hK.out _ _ ?_ (fun hH1 => ?_)
      · exact hH0
      clear hK K
      try simp only [apt12]
      clear l0 l1 l2
      refine wpAnyH_ready (rs := [7]) (by kernel_rfl) (by simp) ?_
      refine AllReadyH.cons (i := 7) (o := ⟨some 106, .call { callee := .value (.func 53), args := #[.tmp 99, .tmp 100, .tmp 101, .tmp 105], argTypes := #[24, 3, 3, 3] }, 45, "ref.go:90", #[⟨0, .data⟩, ⟨1, .data⟩, ⟨2, .data⟩, ⟨6, .data⟩], none⟩) rfl (fun K hK => ?_) AllReadyH.nil
      go_simp
      go_at_call 53
      refine (rset_own12 g vA k x Ak ck _ (OGR.out.below (Below.refl wr.heap.size wr).drew) HS4.out HS1.out).mono ?_
      rintro e u1 ⟨A1, c1, ls1, rfl, hm, ho, hb⟩
      obtain ⟨g1, hg1⟩ : ∃ y, y = setR g vA k x := ⟨_, rfl⟩
      rw [← hg1] at hm ⊢
      have HG1R : Hid (g1 = gk12 h L (k + 1)) := by show _ = _; rw [hg1, HS2.out]
      have BU : Hid (Below wr.heap.size wr u1) := (Below.refl wr.heap.size wr).drew.trans hb
      have HM1 := hid hm
      have HO1 := hid ho
      have hcU := cell_later BU.out hcell
      refine hK.out _ _ ?_ (fun hH2 => ?_)
      · exact hcU
      clear hK K
      try simp only [apt12]
      clear hb hm ho hg1
      refine tkI 8 ⟨some 98, .move (.tmp 106), 45, "ref.go:90", #[⟨7, .data⟩], none⟩ ?v16 rfl (by kernel_rfl) (by rfl) ?y16 ?_
      case y16 => intro w hSw; (try dsimp only at hSw); go_simp; all_goals with_reducible rfl
      try simp only [apt12]
      refine tkI 9 ⟨some 107, .extract (.tmp 98) 0, 24, "ref.go:90", #[⟨8, .data⟩], none⟩ ?v17 rfl (by kernel_rfl) (by rfl) ?y17 ?_
      case y17 => intro w hSw; (try dsimp only at hSw); go_simp; all_goals with_reducible rfl
      try simp only [apt12]
      refine tkI 10 ⟨some 108, .extract (.tmp 98) 1, 33, "ref.go:90", #[⟨8, .data⟩, ⟨11, .gcOnly .lateStores⟩], none⟩ ?v18 rfl (by kernel_rfl) (by rfl) ?y18 ?_
      case y18 => intro w hSw; (try dsimp only at hSw); go_simp; all_goals with_reducible rfl
      try simp only [apt12]
      refine wpAnyH_ready (rs := [11]) (by kernel_rfl) (by simp) ?_
      refine AllReadyH.cons (i := 11) (o := ⟨none, .store 24 (.tmp 17) (.tmp 107), 0, "ref.go:90", #[⟨9, .data⟩, ⟨7, .chain⟩, ⟨0, .phase⟩, ⟨1, .phase⟩, ⟨2, .phase⟩, ⟨3, .phase⟩, ⟨4, .phase⟩, ⟨5, .phase⟩, ⟨6, .phase⟩, ⟨7, .phase⟩, ⟨8, .phase⟩, ⟨9, .phase⟩, ⟨10, .textOnly .lateStores⟩], none⟩) rfl (fun K hK => ?_) AllReadyH.nil
      have LU := hid (LGR.out.later BU.out)
      have BW := hid (then_w HBR.out BU.out)
      have HLB2 : Hid (w.heap.size ≤ bg) := by have := HLB.out; show _ ≤ _; omega
      have HW2 : Hid (w.heap.size + 2 ≤ wr.heap.size) := HKR.out.lt
      obtain ⟨r0, r1, r2⟩ := LU.out.c3
      obtain ⟨rf0, rf1, rf2⟩ := LU.out.f3
      have LF : Hid (Lies (((u1.setCell ⟨bg, 0, none⟩ (.slice A1 g1.objs.length c1)).setCell ⟨bg, 1, none⟩ (.int .i64 g1.cap)).setCell ⟨bg, 2, none⟩ (.int .i64 g1.last)) bg 24 #[.slice A1 g1.objs.length c1, .int .i64 g1.cap, .int .i64 g1.last]) := by
        show Lies _ _ _ _
        exact (((LU.out.set_ 0 (.slice A1 g1.objs.length c1)).set_ 1 (.int .i64 g1.cap)).set_ 2 (.int .i64 g1.last))
      have OF : Hid (OwnH (((u1.setCell ⟨bg, 0, none⟩ (.slice A1 g1.objs.length c1)).setCell ⟨bg, 1, none⟩ (.int .i64 g1.cap)).setCell ⟨bg, 2, none⟩ (.int .i64 g1.last)) wr.drew.heap.size A1 c1 ls1) := by
        show OwnH _ _ _ _ _
        exact (((HO1.out.off LU.out 0 (.slice A1 g1.objs.length c1)).off (LU.out.set_ 0 (.slice A1 g1.objs.length c1)) 1 (.int .i64 g1.cap)).off ((LU.out.set_ 0 (.slice A1 g1.objs.length c1)).set_ 1 (.int .i64 g1.cap)) 2 (.int .i64 g1.last))
      have BF : Hid (Below w.heap.size w (((u1.setCell ⟨bg, 0, none⟩ (.slice A1 g1.objs.length c1)).setCell ⟨bg, 1, none⟩ (.int .i64 g1.cap)).setCell ⟨bg, 2, none⟩ (.int .i64 g1.last))) := by
        show Below _ _ _
        exact (((BW.out).setCell (p := ⟨bg, 0, none⟩) HLB2.out (.slice A1 g1.objs.length c1)).setCell (p := ⟨bg, 1, none⟩) HLB2.out (.int .i64 g1.cap)).setCell (p := ⟨bg, 2, none⟩) HLB2.out (.int .i64 g1.last)
      have KF : Hid (Lies (((u1.setCell ⟨bg, 0, none⟩ (.slice A1 g1.objs.length c1)).setCell ⟨bg, 1, none⟩ (.int .i64 g1.cap)).setCell ⟨bg, 2, none⟩ (.int .i64 g1.last)) (w.heap.size + 1) 24 #[.slice none 0 0, .int .i64 0, .int .i64 0]) := by
        show Lies _ _ _ _
        exact ((((HKR.out.later BU.out).far (p := ⟨bg, 0, none⟩) (by have := HLB.out; show w.heap.size + 1 ≠ bg; omega) (.slice A1 g1.objs.length c1)).far (p := ⟨bg, 1, none⟩) (by have := HLB.out; show w.heap.size + 1 ≠ bg; omega) (.int .i64 g1.cap)).far (p := ⟨bg, 2, none⟩) (by have := HLB.out; show w.heap.size + 1 ≠ bg; omega) (.int .i64 g1.last))
      have IF : Hid ((((u1.setCell ⟨bg, 0, none⟩ (.slice A1 g1.objs.length c1)).setCell ⟨bg, 1, none⟩ (.int .i64 g1.cap)).setCell ⟨bg, 2, none⟩ (.int .i64 g1.last)).ownsRow w8.heap.size 3 1 (.slice (some ⟨bs, os, none⟩) L.length cL) L.length (L.map (Value.int .i64))) := by
        show World.ownsRow _ _ _ _ _ _ _
        exact ownsRow_setCell_below (ownsRow_setCell_below (ownsRow_setCell_below (own_later ILR.out BU.out) (a := ⟨bg, 0, none⟩) HBW8.out _) (a := ⟨bg, 1, none⟩) HBW8.out _) (a := ⟨bg, 2, none⟩) HBW8.out _
      go_simp
      refine hK.out _ _ ?_ (fun hH3 => ?_)
      · exact cell_far HNB.out (cell_far HNB.out (cell_far HNB.out hcU))
      clear hK K
      try simp only [apt12]
      clear r0 r1 r2 rf0 rf1 rf2
      refine wpAnyH_done (by kernel_rfl) ?_ _
      try simp only [apt12]
      go_wp2_with fail
      go_roundw
      case rel => exact ⟨k + 1, A1, c1, by omega, by go_num, BF, KF, by rw [← HG1R.out]; exact LF, by rw [← HG1R.out]; exact own_obs OF.out HM1.out, fun _ => ⟨ls1, by rw [← HG1R.out]; exact HM1.out, OF.out.lower HW2.out⟩, IF⟩
      case measure => simp [intOf]; omega
    · have hkl : k = L.length := by omega
      subst hkl
      have HRR : Hid (nn12 h sd m rc hm args = (g, vA, 0)) := by show _ = _; rw [HEND.out, hg]
      clear hg
      obtain ⟨l0, l1, l2⟩ := LGR.out.c3
      obtain ⟨u0, u1, u2⟩ := HKR.out.c3
      obtain ⟨uf0, uf1, uf2⟩ := HKR.out.f3
      go_wp2_with fail
      obtain ⟨r0, r1, r2⟩ := HKR.out.s3 (.slice Ak g.objs.length ck) (.int .i64 g.cap) (.int .i64 g.last)
      refine bodyPost_ret (v := .tuple #[.agg #[.slice Ak g.objs.length ck, .int .i64 g.cap, .int .i64 g.last], .int .i64 vA, .int .i64 0]) (by simp [results, Tryz.results30, go_sem, r0, r1, r2]) rfl ?_
      rw [HRR.out]
      have HBE := below_s3 (g := w.heap.size + 1) HBR.out (by simp) (.slice Ak g.objs.length ck) (.int .i64 g.cap) (.int .i64 g.last)
      obtain ⟨lsE, hE1, hE2⟩ := HOC.out (by have := HLN.out; omega)
      exact ⟨Ak, ck, rfl, own_obs (((hE2.low (p := ⟨w.heap.size + 1, 0, none⟩) (Nat.lt_succ_self _) _).low (p := ⟨w.heap.size + 1, 1, none⟩) (Nat.lt_succ_self _) _).low (p := ⟨w.heap.size + 1, 2, none⟩) (Nat.lt_succ_self _) _) hE1, HBE⟩
end Go.Proofs.YtalfbdigjaibkaaGreat
