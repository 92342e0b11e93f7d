/- FrameWrites. -/
import Derived.Test.YtgocodnehppniaaGreatUB12
import Derived.Test.YtgocodnehppniaaGreatUF12
import Derived.Test.YtgocodnehppniaaGreatSL12
namespace Go.Proofs.YtgocodnehppniaaGreat
open Go.RowKit
set_option maxRecDepth 100000
theorem hp_fit12 {h g : Hp} (f : h.Fit) (e : g = h ∨ mayB g = true) : g.Fit := by
  rcases e with rfl | e
  · exact f
  · exact may_fit e
theorem set_may12 {h : Hp} {c k x : Int} (e : setE h c k x = 0) (hx : hasB h.objs.length x = true) : mayB (setR h c k x) = true := by
  unfold setR; rw [if_pos e]; exact (set_may (placed (pl_set12 e)) hx)
theorem pu_fit12 {h : Hp} {c v : Int} (f : h.Fit) : (pu12 h c v).1.Fit := by
  unfold pu12
  by_cases h1 : may12 h c = false
  · rw [if_pos h1]; exact f
  rw [if_neg h1]
  by_cases h2 : hasB h.objs.length v = false
  · rw [if_pos h2]; exact f
  rw [if_neg h2]
  by_cases h3 : sp12 h c = 16
  · rw [if_pos h3]; exact f
  rw [if_neg h3]
  have e : may12 h c = true := by simpa using h1
  have hv : hasB h.objs.length v = true := by simpa using h2
  obtain ⟨t1, t2, t3⟩ := temps_sp12 e
  have hx : hasB h.objs.length (2 * (sp12 h c + 1) + 1) = true := odd_has12 (by omega) (by omega)
  have hx2 : 2 * (sp12 h c + 1) + 1 = 2 * sp12 h c + 3 := by omega
  rw [hx2] at hx
  obtain ⟨s1, s2⟩ := set_again12 e hv (k := 6 + sp12 h c) (by omega) (by omega) hx (j := 2) (by omega) (by omega)
  have hl : (setR h c (6 + sp12 h c) v).objs.length = h.objs.length := by unfold setR; rw [if_pos (set_ok12 e hv (by omega) (by omega))]; exact setH_len ..
  exact may_fit (set_may12 s1 (by rw [hl]; exact hx))
theorem po_fit12 {h : Hp} {c : Int} (f : h.Fit) : (po12 h c).1.Fit := by
  unfold po12
  by_cases h1 : may12 h c = false
  · rw [if_pos h1]; exact f
  rw [if_neg h1]
  by_cases h3 : sp12 h c = (cm12 h c).temps
  · rw [if_pos h3]; exact f
  rw [if_neg h3]
  have e : may12 h c = true := by simpa using h1
  obtain ⟨t1, t2, t3⟩ := temps_sp12 e
  have hv := nil_has12 e
  have hx : hasB h.objs.length (2 * (sp12 h c - 1) + 1) = true := odd_has12 (by omega) (by omega)
  have hx2 : 2 * (sp12 h c - 1) + 1 = 2 * sp12 h c - 1 := by omega
  rw [hx2] at hx
  obtain ⟨s1, s2⟩ := set_again12 e hv (k := 5 + sp12 h c) (by omega) (by omega) hx (j := 2) (by omega) (by omega)
  have hl : (setR h c (5 + sp12 h c) 0).objs.length = h.objs.length := by unfold setR; rw [if_pos (set_ok12 e hv (by omega) (by omega))]; exact setH_len ..
  exact may_fit (set_may12 s1 (by rw [hl]; exact hx))
theorem st_fit12 {h : Hp} {c k v : Int} (f : h.Fit) : (st12 h c k v).1.Fit := by
  unfold st12
  by_cases h1 : may12 h c = false
  · rw [if_pos h1]; exact f
  rw [if_neg h1]
  by_cases h2 : hasB h.objs.length v = false
  · rw [if_pos h2]; exact f
  rw [if_neg h2]
  by_cases h3 : k < 0 ∨ (cm12 h c).temps ≤ k
  · rw [if_pos h3]; exact f
  rw [if_neg h3]
  have e : may12 h c = true := by simpa using h1
  have hv : hasB h.objs.length v = true := by simpa using h2
  obtain ⟨t1, t2, t3⟩ := temps_sp12 e
  exact may_fit (set_may12 (set_ok12 e hv (by omega) (by omega)) hv)
theorem go_fit12 {h : Hp} {c ip : Int} (f : h.Fit) : (go12 h c ip).1.Fit := by
  unfold go12
  by_cases h1 : may12 h c = false
  · rw [if_pos h1]; exact f
  rw [if_neg h1]
  by_cases h3 : ip < 0 ∨ ((cm12 h c).code.length : Int) ≤ ip
  · rw [if_pos h3]; exact f
  rw [if_neg h3]
  have e : may12 h c = true := by simpa using h1
  have hc32 : ((cm12 h c).code.length : Int) ≤ 32 := code_le12
  have hv : hasB h.objs.length (2 * ip + 1) = true := odd_has12 (by omega) (by omega)
  exact may_fit (set_may12 (set_ok12 e hv (by omega) (by omega)) hv)
set_option maxHeartbeats 4000000 in
theorem framewrites_any12 (h : Hp) (C K V : Int) (A : Option Addr) (c : Nat) (w : World) (hs : ObsR w A h.objs) (fit : h.Fit) (mem : h.Mem) :
    Calls Tryz.prog 4 #[.agg #[.slice A h.objs.length c, .int .i64 h.cap, .int .i64 h.last], .agg #[.int .i64 C, .int .i64 K, .int .i64 V]] w fun e w' => e = .returned (.bool true) ∧ Below w.heap.size w w' := by
  obtain ⟨w0, hw0⟩ : ∃ w0, w0 = (w.alloc (.cells #[Value.slice A h.objs.length c, Value.int .i64 h.cap, Value.int .i64 h.last] 24)).alloc (.cells #[.int .i64 C, .int .i64 K, .int .i64 V] 26) := ⟨_, rfl⟩
  have HB0 : Hid (Below w.heap.size w w0) := by show Below _ _ _; rw [hw0]; exact below_alloc2 w _ _
  have HX0 : Hid (Lies w0 w.heap.size 24 #[Value.slice A h.objs.length c, Value.int .i64 h.cap, Value.int .i64 h.last]) := by show Lies _ _ _ _; rw [hw0]; exact ((Lies.new w _ _).alloc _)
  have HK0 : Hid (Lies w0 (w.heap.size + 1) 26 #[.int .i64 C, .int .i64 K, .int .i64 V]) := by
    show Lies _ _ _ _
    have := (Lies.new (w.alloc (.cells #[Value.slice A h.objs.length c, Value.int .i64 h.cap, Value.int .i64 h.last] 24)) 26 #[.int .i64 C, .int .i64 K, .int .i64 V])
    rw [hw0]
    simpa [Hid] using this
  have HS := hid hs
  have HF := hid fit
  have HMEM := hid mem
  clear hs fit mem
  go_enter Tryz.func4, Tryz.ntmps4
  go_upto_region 1 with fail
  rw [← hw0]
  clear hw0
  obtain ⟨x0, x1, x2⟩ := HX0.out.c3
  go_wp2_with fail
  refine (small_mod12 h A c _ (HS.out.below HB0.out) HF.out HMEM.out).mono ?_
  rintro e w1 ⟨sb, rfl, hsb, hb⟩
  clear x0 x1 x2
  have HB1 := hid (then_w HB0.out hb)
  have HX1 := hid (HX0.out.later hb)
  have HK1 := hid (HK0.out.later hb)
  clear hb
  clear HB0 HX0 HK0
  have HSB := hid hsb
  clear hsb
  cases sb
  · obtain ⟨x0, x1, x2⟩ := HX1.out.c3
    go_wp2_with fail
    refine (fixed12_any _).mono ?_
    rintro e w2 ⟨rfl, hb⟩
    clear x0 x1 x2
    have HB2 := hid (then_w HB1.out hb)
    have HX2 := hid (HX1.out.later hb)
    have HK2 := hid (HK1.out.later hb)
    clear hb
    clear HB1 HX1 HK1
    go_wp2_with fail
    go_ret
    exact ⟨rfl, HB2.out⟩
  by_cases h60 : h.objs.length ≤ 60
  case neg =>
    have hI60 : (60 : Int) < (h.objs.length : Int) := by omega
    obtain ⟨x0, x1, x2⟩ := HX1.out.c3
    go_wp2_with fail
    refine (fixed12_any _).mono ?_
    rintro e w2 ⟨rfl, hb⟩
    clear x0 x1 x2
    have HB2 := hid (then_w HB1.out hb)
    have HX2 := hid (HX1.out.later hb)
    have HK2 := hid (HK1.out.later hb)
    clear hb
    clear HB1 HX1 HK1
    go_wp2_with fail
    go_ret
    exact ⟨rfl, HB2.out⟩
  have hI60 : ¬ (60 : Int) < (h.objs.length : Int) := by omega
  have HMOD : Hid (Mod12 h) := ⟨by omega, fun o ho => Nat.le_trans (HSB.out rfl o ho) (by decide)⟩
  clear hI60
  obtain ⟨g0, hg0⟩ : ∃ g, g = (pu12 h C V).1 := ⟨_, rfl⟩
  have HG0 := hid hg0
  clear hg0
  obtain ⟨e0, he0⟩ : ∃ g, g = (pu12 h C V).2 := ⟨_, rfl⟩
  have HE0 := hid he0
  clear he0
  obtain ⟨x0, x1, x2⟩ := HX1.out.c3
  obtain ⟨a0, a1, a2⟩ := HK1.out.c3
  go_wp2_with fail
  refine (cpush_any12 h C V A c _ (HS.out.below HB1.out) HF.out HMOD.out).mono ?_
  rintro e w2 ⟨A0, c0, l0, rfl, hm0, ho0, hb⟩
  clear x0 x1 x2 a0 a1 a2
  rw [← HG0.out] at hm0
  rw [← HG0.out, ← HE0.out]
  have QM0 := hid hm0
  clear hm0
  have HB2 := hid (then_w HB1.out hb)
  have HX2 := hid (HX1.out.later hb)
  have HK2 := hid (HK1.out.later hb)
  clear hb
  clear HB1 HX1 HK1
  have P02 := hid ho0
  clear ho0
  go_upto_region 4 with fail
  obtain ⟨w3, hw⟩ : ∃ x, x = w2.alloc (.cells #[.slice A0 g0.objs.length c0, .int .i64 g0.cap, .int .i64 g0.last] 24) := ⟨_, rfl⟩
  obtain ⟨bg0, hbx⟩ : ∃ x, x = w2.heap.size := ⟨_, rfl⟩
  have G03 : Hid (Lies w3 bg0 24 #[.slice A0 g0.objs.length c0, .int .i64 g0.cap, .int .i64 g0.last]) := by show Lies _ _ _ _; rw [hw, hbx]; exact Lies.new _ _ _
  have hb : Below w2.heap.size w2 w3 := by rw [hw]; exact below_alloc _ _
  rw [← hw, ← hbx]
  have ne_HX_G0 : Hid (w.heap.size ≠ bg0) := by show _ ≠ _; rw [hbx]; exact Nat.ne_of_lt HX2.out.lt
  have ne_HK_G0 : Hid ((w.heap.size + 1) ≠ bg0) := by show _ ≠ _; rw [hbx]; exact Nat.ne_of_lt HK2.out.lt
  have at_G0 : Hid (bg0 = w2.heap.size) := hbx
  have le_HB_G0 : Hid (w.heap.size ≤ bg0) := by show _ ≤ _; rw [hbx]; exact HB2.out.size
  clear hbx hw
  have HB3 := hid (then_w HB2.out hb)
  have HX3 := hid (HX2.out.later hb)
  have HK3 := hid (HK2.out.later hb)
  have P03 := hid (P02.out.later hb)
  clear hb
  clear HB2 HX2 HK2 P02
  obtain ⟨x0, x1, x2⟩ := HX3.out.c3
  obtain ⟨a0, a1, a2⟩ := HK3.out.c3
  go_wp2_with fail
  refine (rpush_any12 h C V A c _ (HS.out.below HB3.out) HF.out).mono ?_
  rintro e w4 ⟨B0, d0, rfl, ob0, hb⟩
  clear x0 x1 x2 a0 a1 a2
  rw [← HG0.out] at ob0
  rw [← HG0.out, ← HE0.out]
  have HB4 := hid (then_w HB3.out hb)
  have HX4 := hid (HX3.out.later hb)
  have HK4 := hid (HK3.out.later hb)
  have G04 := hid (G03.out.later hb)
  have P04 := hid (P03.out.later hb)
  clear hb
  clear HB3 HX3 HK3 G03 P03
  have R04 := hid ob0
  clear ob0
  go_upto_region 5 with fail
  obtain ⟨w5, hw⟩ : ∃ x, x = w4.alloc (.cells #[.slice B0 g0.objs.length d0, .int .i64 g0.cap, .int .i64 g0.last] 24) := ⟨_, rfl⟩
  obtain ⟨bh0, hbx⟩ : ∃ x, x = w4.heap.size := ⟨_, rfl⟩
  have H05 : Hid (Lies w5 bh0 24 #[.slice B0 g0.objs.length d0, .int .i64 g0.cap, .int .i64 g0.last]) := by show Lies _ _ _ _; rw [hw, hbx]; exact Lies.new _ _ _
  have hb : Below w4.heap.size w4 w5 := by rw [hw]; exact below_alloc _ _
  rw [← hw, ← hbx]
  have ne_HX_H0 : Hid (w.heap.size ≠ bh0) := by show _ ≠ _; rw [hbx]; exact Nat.ne_of_lt HX4.out.lt
  have ne_HK_H0 : Hid ((w.heap.size + 1) ≠ bh0) := by show _ ≠ _; rw [hbx]; exact Nat.ne_of_lt HK4.out.lt
  have ne_G0_H0 : Hid (bg0 ≠ bh0) := by show _ ≠ _; rw [hbx]; exact Nat.ne_of_lt G04.out.lt
  have at_H0 : Hid (bh0 = w4.heap.size) := hbx
  have le_HB_H0 : Hid (w.heap.size ≤ bh0) := by show _ ≤ _; rw [hbx]; exact HB4.out.size
  clear hbx hw
  have HB5 := hid (then_w HB4.out hb)
  have HX5 := hid (HX4.out.later hb)
  have HK5 := hid (HK4.out.later hb)
  have G05 := hid (G04.out.later hb)
  have P05 := hid (P04.out.later hb)
  have R05 := hid (R04.out.below hb)
  clear hb
  clear HB4 HX4 HK4 G04 P04 R04
  obtain ⟨g1, hg1⟩ : ∃ g, g = (po12 h C).1 := ⟨_, rfl⟩
  have HG1 := hid hg1
  clear hg1
  obtain ⟨v1, hv1⟩ : ∃ g, g = (po12 h C).2.1 := ⟨_, rfl⟩
  have HV1 := hid hv1
  clear hv1
  obtain ⟨e1, he1⟩ : ∃ g, g = (po12 h C).2.2 := ⟨_, rfl⟩
  have HE1 := hid he1
  clear he1
  obtain ⟨x0, x1, x2⟩ := HX5.out.c3
  obtain ⟨a0, a1, a2⟩ := HK5.out.c3
  go_wp2_with fail
  refine (cpop_any12 h C A c _ (HS.out.below HB5.out) HF.out HMOD.out).mono ?_
  rintro e w6 ⟨A1, c1, l1, rfl, hm1, ho1, hb⟩
  clear x0 x1 x2 a0 a1 a2
  rw [← HG1.out] at hm1
  rw [← HG1.out, ← HV1.out, ← HE1.out]
  have QM1 := hid hm1
  clear hm1
  have HB6 := hid (then_w HB5.out hb)
  have HX6 := hid (HX5.out.later hb)
  have HK6 := hid (HK5.out.later hb)
  have G06 := hid (G05.out.later hb)
  have H06 := hid (H05.out.later hb)
  have P06 := hid (P05.out.later hb)
  have R06 := hid (R05.out.below hb)
  clear hb
  clear HB5 HX5 HK5 G05 H05 P05 R05
  have P16 := hid ho1
  clear ho1
  go_upto_region 6 with fail
  obtain ⟨w7, hw⟩ : ∃ x, x = w6.alloc (.cells #[.slice A1 g1.objs.length c1, .int .i64 g1.cap, .int .i64 g1.last] 24) := ⟨_, rfl⟩
  obtain ⟨bg1, hbx⟩ : ∃ x, x = w6.heap.size := ⟨_, rfl⟩
  have G17 : Hid (Lies w7 bg1 24 #[.slice A1 g1.objs.length c1, .int .i64 g1.cap, .int .i64 g1.last]) := by show Lies _ _ _ _; rw [hw, hbx]; exact Lies.new _ _ _
  have hb : Below w6.heap.size w6 w7 := by rw [hw]; exact below_alloc _ _
  rw [← hw, ← hbx]
  have ne_HX_G1 : Hid (w.heap.size ≠ bg1) := by show _ ≠ _; rw [hbx]; exact Nat.ne_of_lt HX6.out.lt
  have ne_HK_G1 : Hid ((w.heap.size + 1) ≠ bg1) := by show _ ≠ _; rw [hbx]; exact Nat.ne_of_lt HK6.out.lt
  have ne_G0_G1 : Hid (bg0 ≠ bg1) := by show _ ≠ _; rw [hbx]; exact Nat.ne_of_lt G06.out.lt
  have ne_H0_G1 : Hid (bh0 ≠ bg1) := by show _ ≠ _; rw [hbx]; exact Nat.ne_of_lt H06.out.lt
  have at_G1 : Hid (bg1 = w6.heap.size) := hbx
  have le_HB_G1 : Hid (w.heap.size ≤ bg1) := by show _ ≤ _; rw [hbx]; exact HB6.out.size
  clear hbx hw
  have HB7 := hid (then_w HB6.out hb)
  have HX7 := hid (HX6.out.later hb)
  have HK7 := hid (HK6.out.later hb)
  have G07 := hid (G06.out.later hb)
  have H07 := hid (H06.out.later hb)
  have P07 := hid (P06.out.later hb)
  have P17 := hid (P16.out.later hb)
  have R07 := hid (R06.out.below hb)
  clear hb
  clear HB6 HX6 HK6 G06 H06 P06 P16 R06
  obtain ⟨x0, x1, x2⟩ := HX7.out.c3
  obtain ⟨a0, a1, a2⟩ := HK7.out.c3
  go_wp2_with fail
  refine (rpop_any12 h C A c _ (HS.out.below HB7.out) HF.out).mono ?_
  rintro e w8 ⟨B1, d1, rfl, ob1, hb⟩
  clear x0 x1 x2 a0 a1 a2
  rw [← HG1.out] at ob1
  rw [← HG1.out, ← HV1.out, ← HE1.out]
  have HB8 := hid (then_w HB7.out hb)
  have HX8 := hid (HX7.out.later hb)
  have HK8 := hid (HK7.out.later hb)
  have G08 := hid (G07.out.later hb)
  have H08 := hid (H07.out.later hb)
  have G18 := hid (G17.out.later hb)
  have P08 := hid (P07.out.later hb)
  have P18 := hid (P17.out.later hb)
  have R08 := hid (R07.out.below hb)
  clear hb
  clear HB7 HX7 HK7 G07 H07 G17 P07 P17 R07
  have R18 := hid ob1
  clear ob1
  go_upto_region 7 with fail
  obtain ⟨w9, hw⟩ : ∃ x, x = w8.alloc (.cells #[.slice B1 g1.objs.length d1, .int .i64 g1.cap, .int .i64 g1.last] 24) := ⟨_, rfl⟩
  obtain ⟨bh1, hbx⟩ : ∃ x, x = w8.heap.size := ⟨_, rfl⟩
  have H19 : Hid (Lies w9 bh1 24 #[.slice B1 g1.objs.length d1, .int .i64 g1.cap, .int .i64 g1.last]) := by show Lies _ _ _ _; rw [hw, hbx]; exact Lies.new _ _ _
  have hb : Below w8.heap.size w8 w9 := by rw [hw]; exact below_alloc _ _
  rw [← hw, ← hbx]
  have ne_HX_H1 : Hid (w.heap.size ≠ bh1) := by show _ ≠ _; rw [hbx]; exact Nat.ne_of_lt HX8.out.lt
  have ne_HK_H1 : Hid ((w.heap.size + 1) ≠ bh1) := by show _ ≠ _; rw [hbx]; exact Nat.ne_of_lt HK8.out.lt
  have ne_G0_H1 : Hid (bg0 ≠ bh1) := by show _ ≠ _; rw [hbx]; exact Nat.ne_of_lt G08.out.lt
  have ne_H0_H1 : Hid (bh0 ≠ bh1) := by show _ ≠ _; rw [hbx]; exact Nat.ne_of_lt H08.out.lt
  have ne_G1_H1 : Hid (bg1 ≠ bh1) := by show _ ≠ _; rw [hbx]; exact Nat.ne_of_lt G18.out.lt
  have at_H1 : Hid (bh1 = w8.heap.size) := hbx
  have le_HB_H1 : Hid (w.heap.size ≤ bh1) := by show _ ≤ _; rw [hbx]; exact HB8.out.size
  clear hbx hw
  have HB9 := hid (then_w HB8.out hb)
  have HX9 := hid (HX8.out.later hb)
  have HK9 := hid (HK8.out.later hb)
  have G09 := hid (G08.out.later hb)
  have H09 := hid (H08.out.later hb)
  have G19 := hid (G18.out.later hb)
  have P09 := hid (P08.out.later hb)
  have P19 := hid (P18.out.later hb)
  have R09 := hid (R08.out.below hb)
  have R19 := hid (R18.out.below hb)
  clear hb
  clear HB8 HX8 HK8 G08 H08 G18 P08 P18 R08 R18
  obtain ⟨g2, hg2⟩ : ∃ g, g = (st12 h C K V).1 := ⟨_, rfl⟩
  have HG2 := hid hg2
  clear hg2
  obtain ⟨e2, he2⟩ : ∃ g, g = (st12 h C K V).2 := ⟨_, rfl⟩
  have HE2 := hid he2
  clear he2
  obtain ⟨x0, x1, x2⟩ := HX9.out.c3
  obtain ⟨a0, a1, a2⟩ := HK9.out.c3
  go_wp2_with fail
  refine (cset_any12 h C K V A c _ (HS.out.below HB9.out) HF.out HMOD.out).mono ?_
  rintro e w10 ⟨A2, c2, l2, rfl, hm2, ho2, hb⟩
  clear x0 x1 x2 a0 a1 a2
  rw [← HG2.out] at hm2
  rw [← HG2.out, ← HE2.out]
  have QM2 := hid hm2
  clear hm2
  have HB10 := hid (then_w HB9.out hb)
  have HX10 := hid (HX9.out.later hb)
  have HK10 := hid (HK9.out.later hb)
  have G010 := hid (G09.out.later hb)
  have H010 := hid (H09.out.later hb)
  have G110 := hid (G19.out.later hb)
  have H110 := hid (H19.out.later hb)
  have P010 := hid (P09.out.later hb)
  have P110 := hid (P19.out.later hb)
  have R010 := hid (R09.out.below hb)
  have R110 := hid (R19.out.below hb)
  clear hb
  clear HB9 HX9 HK9 G09 H09 G19 H19 P09 P19 R09 R19
  have P210 := hid ho2
  clear ho2
  go_upto_region 8 with fail
  obtain ⟨w11, hw⟩ : ∃ x, x = w10.alloc (.cells #[.slice A2 g2.objs.length c2, .int .i64 g2.cap, .int .i64 g2.last] 24) := ⟨_, rfl⟩
  obtain ⟨bg2, hbx⟩ : ∃ x, x = w10.heap.size := ⟨_, rfl⟩
  have G211 : Hid (Lies w11 bg2 24 #[.slice A2 g2.objs.length c2, .int .i64 g2.cap, .int .i64 g2.last]) := by show Lies _ _ _ _; rw [hw, hbx]; exact Lies.new _ _ _
  have hb : Below w10.heap.size w10 w11 := by rw [hw]; exact below_alloc _ _
  rw [← hw, ← hbx]
  have ne_HX_G2 : Hid (w.heap.size ≠ bg2) := by show _ ≠ _; rw [hbx]; exact Nat.ne_of_lt HX10.out.lt
  have ne_HK_G2 : Hid ((w.heap.size + 1) ≠ bg2) := by show _ ≠ _; rw [hbx]; exact Nat.ne_of_lt HK10.out.lt
  have ne_G0_G2 : Hid (bg0 ≠ bg2) := by show _ ≠ _; rw [hbx]; exact Nat.ne_of_lt G010.out.lt
  have ne_H0_G2 : Hid (bh0 ≠ bg2) := by show _ ≠ _; rw [hbx]; exact Nat.ne_of_lt H010.out.lt
  have ne_G1_G2 : Hid (bg1 ≠ bg2) := by show _ ≠ _; rw [hbx]; exact Nat.ne_of_lt G110.out.lt
  have ne_H1_G2 : Hid (bh1 ≠ bg2) := by show _ ≠ _; rw [hbx]; exact Nat.ne_of_lt H110.out.lt
  have at_G2 : Hid (bg2 = w10.heap.size) := hbx
  have le_HB_G2 : Hid (w.heap.size ≤ bg2) := by show _ ≤ _; rw [hbx]; exact HB10.out.size
  clear hbx hw
  have HB11 := hid (then_w HB10.out hb)
  have HX11 := hid (HX10.out.later hb)
  have HK11 := hid (HK10.out.later hb)
  have G011 := hid (G010.out.later hb)
  have H011 := hid (H010.out.later hb)
  have G111 := hid (G110.out.later hb)
  have H111 := hid (H110.out.later hb)
  have P011 := hid (P010.out.later hb)
  have P111 := hid (P110.out.later hb)
  have P211 := hid (P210.out.later hb)
  have R011 := hid (R010.out.below hb)
  have R111 := hid (R110.out.below hb)
  clear hb
  clear HB10 HX10 HK10 G010 H010 G110 H110 P010 P110 P210 R010 R110
  obtain ⟨x0, x1, x2⟩ := HX11.out.c3
  obtain ⟨a0, a1, a2⟩ := HK11.out.c3
  go_wp2_with fail
  refine (rsettemp_any12 h C K V A c _ (HS.out.below HB11.out) HF.out).mono ?_
  rintro e w12 ⟨B2, d2, rfl, ob2, hb⟩
  clear x0 x1 x2 a0 a1 a2
  rw [← HG2.out] at ob2
  rw [← HG2.out, ← HE2.out]
  have HB12 := hid (then_w HB11.out hb)
  have HX12 := hid (HX11.out.later hb)
  have HK12 := hid (HK11.out.later hb)
  have G012 := hid (G011.out.later hb)
  have H012 := hid (H011.out.later hb)
  have G112 := hid (G111.out.later hb)
  have H112 := hid (H111.out.later hb)
  have G212 := hid (G211.out.later hb)
  have P012 := hid (P011.out.later hb)
  have P112 := hid (P111.out.later hb)
  have P212 := hid (P211.out.later hb)
  have R012 := hid (R011.out.below hb)
  have R112 := hid (R111.out.below hb)
  clear hb
  clear HB11 HX11 HK11 G011 H011 G111 H111 G211 P011 P111 P211 R011 R111
  have R212 := hid ob2
  clear ob2
  go_upto_region 9 with fail
  obtain ⟨w13, hw⟩ : ∃ x, x = w12.alloc (.cells #[.slice B2 g2.objs.length d2, .int .i64 g2.cap, .int .i64 g2.last] 24) := ⟨_, rfl⟩
  obtain ⟨bh2, hbx⟩ : ∃ x, x = w12.heap.size := ⟨_, rfl⟩
  have H213 : Hid (Lies w13 bh2 24 #[.slice B2 g2.objs.length d2, .int .i64 g2.cap, .int .i64 g2.last]) := by show Lies _ _ _ _; rw [hw, hbx]; exact Lies.new _ _ _
  have hb : Below w12.heap.size w12 w13 := by rw [hw]; exact below_alloc _ _
  rw [← hw, ← hbx]
  have ne_HX_H2 : Hid (w.heap.size ≠ bh2) := by show _ ≠ _; rw [hbx]; exact Nat.ne_of_lt HX12.out.lt
  have ne_HK_H2 : Hid ((w.heap.size + 1) ≠ bh2) := by show _ ≠ _; rw [hbx]; exact Nat.ne_of_lt HK12.out.lt
  have ne_G0_H2 : Hid (bg0 ≠ bh2) := by show _ ≠ _; rw [hbx]; exact Nat.ne_of_lt G012.out.lt
  have ne_H0_H2 : Hid (bh0 ≠ bh2) := by show _ ≠ _; rw [hbx]; exact Nat.ne_of_lt H012.out.lt
  have ne_G1_H2 : Hid (bg1 ≠ bh2) := by show _ ≠ _; rw [hbx]; exact Nat.ne_of_lt G112.out.lt
  have ne_H1_H2 : Hid (bh1 ≠ bh2) := by show _ ≠ _; rw [hbx]; exact Nat.ne_of_lt H112.out.lt
  have ne_G2_H2 : Hid (bg2 ≠ bh2) := by show _ ≠ _; rw [hbx]; exact Nat.ne_of_lt G212.out.lt
  have at_H2 : Hid (bh2 = w12.heap.size) := hbx
  have le_HB_H2 : Hid (w.heap.size ≤ bh2) := by show _ ≤ _; rw [hbx]; exact HB12.out.size
  clear hbx hw
  have HB13 := hid (then_w HB12.out hb)
  have HX13 := hid (HX12.out.later hb)
  have HK13 := hid (HK12.out.later hb)
  have G013 := hid (G012.out.later hb)
  have H013 := hid (H012.out.later hb)
  have G113 := hid (G112.out.later hb)
  have H113 := hid (H112.out.later hb)
  have G213 := hid (G212.out.later hb)
  have P013 := hid (P012.out.later hb)
  have P113 := hid (P112.out.later hb)
  have P213 := hid (P212.out.later hb)
  have R013 := hid (R012.out.below hb)
  have R113 := hid (R112.out.below hb)
  have R213 := hid (R212.out.below hb)
  clear hb
  clear HB12 HX12 HK12 G012 H012 G112 H112 G212 P012 P112 P212 R012 R112 R212
  obtain ⟨g3, hg3⟩ : ∃ g, g = (go12 h C K).1 := ⟨_, rfl⟩
  have HG3 := hid hg3
  clear hg3
  obtain ⟨e3, he3⟩ : ∃ g, g = (go12 h C K).2 := ⟨_, rfl⟩
  have HE3 := hid he3
  clear he3
  obtain ⟨x0, x1, x2⟩ := HX13.out.c3
  obtain ⟨a0, a1, a2⟩ := HK13.out.c3
  go_wp2_with fail
  refine (cgo_any12 h C K A c _ (HS.out.below HB13.out) HF.out HMOD.out).mono ?_
  rintro e w14 ⟨A3, c3, l3, rfl, hm3, ho3, hb⟩
  clear x0 x1 x2 a0 a1 a2
  rw [← HG3.out] at hm3
  rw [← HG3.out, ← HE3.out]
  have QM3 := hid hm3
  clear hm3
  have HB14 := hid (then_w HB13.out hb)
  have HX14 := hid (HX13.out.later hb)
  have HK14 := hid (HK13.out.later hb)
  have G014 := hid (G013.out.later hb)
  have H014 := hid (H013.out.later hb)
  have G114 := hid (G113.out.later hb)
  have H114 := hid (H113.out.later hb)
  have G214 := hid (G213.out.later hb)
  have H214 := hid (H213.out.later hb)
  have P014 := hid (P013.out.later hb)
  have P114 := hid (P113.out.later hb)
  have P214 := hid (P213.out.later hb)
  have R014 := hid (R013.out.below hb)
  have R114 := hid (R113.out.below hb)
  have R214 := hid (R213.out.below hb)
  clear hb
  clear HB13 HX13 HK13 G013 H013 G113 H113 G213 H213 P013 P113 P213 R013 R113 R213
  have P314 := hid ho3
  clear ho3
  go_upto_region 10 with fail
  obtain ⟨w15, hw⟩ : ∃ x, x = w14.alloc (.cells #[.slice A3 g3.objs.length c3, .int .i64 g3.cap, .int .i64 g3.last] 24) := ⟨_, rfl⟩
  obtain ⟨bg3, hbx⟩ : ∃ x, x = w14.heap.size := ⟨_, rfl⟩
  have G315 : Hid (Lies w15 bg3 24 #[.slice A3 g3.objs.length c3, .int .i64 g3.cap, .int .i64 g3.last]) := by show Lies _ _ _ _; rw [hw, hbx]; exact Lies.new _ _ _
  have hb : Below w14.heap.size w14 w15 := by rw [hw]; exact below_alloc _ _
  rw [← hw, ← hbx]
  have ne_HX_G3 : Hid (w.heap.size ≠ bg3) := by show _ ≠ _; rw [hbx]; exact Nat.ne_of_lt HX14.out.lt
  have ne_HK_G3 : Hid ((w.heap.size + 1) ≠ bg3) := by show _ ≠ _; rw [hbx]; exact Nat.ne_of_lt HK14.out.lt
  have ne_G0_G3 : Hid (bg0 ≠ bg3) := by show _ ≠ _; rw [hbx]; exact Nat.ne_of_lt G014.out.lt
  have ne_H0_G3 : Hid (bh0 ≠ bg3) := by show _ ≠ _; rw [hbx]; exact Nat.ne_of_lt H014.out.lt
  have ne_G1_G3 : Hid (bg1 ≠ bg3) := by show _ ≠ _; rw [hbx]; exact Nat.ne_of_lt G114.out.lt
  have ne_H1_G3 : Hid (bh1 ≠ bg3) := by show _ ≠ _; rw [hbx]; exact Nat.ne_of_lt H114.out.lt
  have ne_G2_G3 : Hid (bg2 ≠ bg3) := by show _ ≠ _; rw [hbx]; exact Nat.ne_of_lt G214.out.lt
  have ne_H2_G3 : Hid (bh2 ≠ bg3) := by show _ ≠ _; rw [hbx]; exact Nat.ne_of_lt H214.out.lt
  have at_G3 : Hid (bg3 = w14.heap.size) := hbx
  have le_HB_G3 : Hid (w.heap.size ≤ bg3) := by show _ ≤ _; rw [hbx]; exact HB14.out.size
  clear hbx hw
  have HB15 := hid (then_w HB14.out hb)
  have HX15 := hid (HX14.out.later hb)
  have HK15 := hid (HK14.out.later hb)
  have G015 := hid (G014.out.later hb)
  have H015 := hid (H014.out.later hb)
  have G115 := hid (G114.out.later hb)
  have H115 := hid (H114.out.later hb)
  have G215 := hid (G214.out.later hb)
  have H215 := hid (H214.out.later hb)
  have P015 := hid (P014.out.later hb)
  have P115 := hid (P114.out.later hb)
  have P215 := hid (P214.out.later hb)
  have P315 := hid (P314.out.later hb)
  have R015 := hid (R014.out.below hb)
  have R115 := hid (R114.out.below hb)
  have R215 := hid (R214.out.below hb)
  clear hb
  clear HB14 HX14 HK14 G014 H014 G114 H114 G214 H214 P014 P114 P214 P314 R014 R114 R214
  obtain ⟨x0, x1, x2⟩ := HX15.out.c3
  obtain ⟨a0, a1, a2⟩ := HK15.out.c3
  go_wp2_with fail
  refine (rgo_any12 h C K A c _ (HS.out.below HB15.out) HF.out).mono ?_
  rintro e w16 ⟨B3, d3, rfl, ob3, hb⟩
  clear x0 x1 x2 a0 a1 a2
  rw [← HG3.out] at ob3
  rw [← HG3.out, ← HE3.out]
  have HB16 := hid (then_w HB15.out hb)
  have HX16 := hid (HX15.out.later hb)
  have HK16 := hid (HK15.out.later hb)
  have G016 := hid (G015.out.later hb)
  have H016 := hid (H015.out.later hb)
  have G116 := hid (G115.out.later hb)
  have H116 := hid (H115.out.later hb)
  have G216 := hid (G215.out.later hb)
  have H216 := hid (H215.out.later hb)
  have G316 := hid (G315.out.later hb)
  have P016 := hid (P015.out.later hb)
  have P116 := hid (P115.out.later hb)
  have P216 := hid (P215.out.later hb)
  have P316 := hid (P315.out.later hb)
  have R016 := hid (R015.out.below hb)
  have R116 := hid (R115.out.below hb)
  have R216 := hid (R215.out.below hb)
  clear hb
  clear HB15 HX15 HK15 G015 H015 G115 H115 G215 H215 G315 P015 P115 P215 P315 R015 R115 R215
  have R316 := hid ob3
  clear ob3
  go_upto_region 11 with fail
  obtain ⟨w17, hw⟩ : ∃ x, x = w16.alloc (.cells #[.slice B3 g3.objs.length d3, .int .i64 g3.cap, .int .i64 g3.last] 24) := ⟨_, rfl⟩
  obtain ⟨bh3, hbx⟩ : ∃ x, x = w16.heap.size := ⟨_, rfl⟩
  have H317 : Hid (Lies w17 bh3 24 #[.slice B3 g3.objs.length d3, .int .i64 g3.cap, .int .i64 g3.last]) := by show Lies _ _ _ _; rw [hw, hbx]; exact Lies.new _ _ _
  have hb : Below w16.heap.size w16 w17 := by rw [hw]; exact below_alloc _ _
  rw [← hw, ← hbx]
  have ne_HX_H3 : Hid (w.heap.size ≠ bh3) := by show _ ≠ _; rw [hbx]; exact Nat.ne_of_lt HX16.out.lt
  have ne_HK_H3 : Hid ((w.heap.size + 1) ≠ bh3) := by show _ ≠ _; rw [hbx]; exact Nat.ne_of_lt HK16.out.lt
  have ne_G0_H3 : Hid (bg0 ≠ bh3) := by show _ ≠ _; rw [hbx]; exact Nat.ne_of_lt G016.out.lt
  have ne_H0_H3 : Hid (bh0 ≠ bh3) := by show _ ≠ _; rw [hbx]; exact Nat.ne_of_lt H016.out.lt
  have ne_G1_H3 : Hid (bg1 ≠ bh3) := by show _ ≠ _; rw [hbx]; exact Nat.ne_of_lt G116.out.lt
  have ne_H1_H3 : Hid (bh1 ≠ bh3) := by show _ ≠ _; rw [hbx]; exact Nat.ne_of_lt H116.out.lt
  have ne_G2_H3 : Hid (bg2 ≠ bh3) := by show _ ≠ _; rw [hbx]; exact Nat.ne_of_lt G216.out.lt
  have ne_H2_H3 : Hid (bh2 ≠ bh3) := by show _ ≠ _; rw [hbx]; exact Nat.ne_of_lt H216.out.lt
  have ne_G3_H3 : Hid (bg3 ≠ bh3) := by show _ ≠ _; rw [hbx]; exact Nat.ne_of_lt G316.out.lt
  have at_H3 : Hid (bh3 = w16.heap.size) := hbx
  have le_HB_H3 : Hid (w.heap.size ≤ bh3) := by show _ ≤ _; rw [hbx]; exact HB16.out.size
  clear hbx hw
  have HB17 := hid (then_w HB16.out hb)
  have HX17 := hid (HX16.out.later hb)
  have HK17 := hid (HK16.out.later hb)
  have G017 := hid (G016.out.later hb)
  have H017 := hid (H016.out.later hb)
  have G117 := hid (G116.out.later hb)
  have H117 := hid (H116.out.later hb)
  have G217 := hid (G216.out.later hb)
  have H217 := hid (H216.out.later hb)
  have G317 := hid (G316.out.later hb)
  have P017 := hid (P016.out.later hb)
  have P117 := hid (P116.out.later hb)
  have P217 := hid (P216.out.later hb)
  have P317 := hid (P316.out.later hb)
  have R017 := hid (R016.out.below hb)
  have R117 := hid (R116.out.below hb)
  have R217 := hid (R216.out.below hb)
  have R317 := hid (R316.out.below hb)
  clear hb
  clear HB16 HX16 HK16 G016 H016 G116 H116 G216 H216 G316 P016 P116 P216 P316 R016 R116 R216 R316
  go_wp2_with fail
  refine (fixed12_any _).mono ?_
  rintro e w18 ⟨rfl, hb⟩
  have HB18 := hid (then_w HB17.out hb)
  have HX18 := hid (HX17.out.later hb)
  have HK18 := hid (HK17.out.later hb)
  have G018 := hid (G017.out.later hb)
  have H018 := hid (H017.out.later hb)
  have G118 := hid (G117.out.later hb)
  have H118 := hid (H117.out.later hb)
  have G218 := hid (G217.out.later hb)
  have H218 := hid (H217.out.later hb)
  have G318 := hid (G317.out.later hb)
  have H318 := hid (H317.out.later hb)
  have P018 := hid (P017.out.later hb)
  have P118 := hid (P117.out.later hb)
  have P218 := hid (P217.out.later hb)
  have P318 := hid (P317.out.later hb)
  have R018 := hid (R017.out.below hb)
  have R118 := hid (R117.out.below hb)
  have R218 := hid (R217.out.below hb)
  have R318 := hid (R317.out.below hb)
  clear hb
  clear HB17 HX17 HK17 G017 H017 G117 H117 G217 H217 G317 H317 P017 P117 P217 P317 R017 R117 R217 R317
  obtain ⟨g0_0, g0_1, g0_2⟩ := G018.out.c3
  obtain ⟨h0_0, h0_1, h0_2⟩ := H018.out.c3
  go_wp2_with fail
  refine (same_any g0 A0 B0 c0 d0 _ (own_obs P018.out QM0.out) R018.out (by rw [HG0.out]; exact pu_fit12 HF.out)).mono ?_
  rintro e w19 ⟨rfl, hb⟩
  clear g0_0 g0_1 g0_2 h0_0 h0_1 h0_2
  have HB19 := hid (then_w HB18.out hb)
  have HX19 := hid (HX18.out.later hb)
  have HK19 := hid (HK18.out.later hb)
  have G019 := hid (G018.out.later hb)
  have H019 := hid (H018.out.later hb)
  have G119 := hid (G118.out.later hb)
  have H119 := hid (H118.out.later hb)
  have G219 := hid (G218.out.later hb)
  have H219 := hid (H218.out.later hb)
  have G319 := hid (G318.out.later hb)
  have H319 := hid (H318.out.later hb)
  have P019 := hid (P018.out.later hb)
  have P119 := hid (P118.out.later hb)
  have P219 := hid (P218.out.later hb)
  have P319 := hid (P318.out.later hb)
  have R019 := hid (R018.out.below hb)
  have R119 := hid (R118.out.below hb)
  have R219 := hid (R218.out.below hb)
  have R319 := hid (R318.out.below hb)
  clear hb
  clear HB18 HX18 HK18 G018 H018 G118 H118 G218 H218 G318 H318 P018 P118 P218 P318 R018 R118 R218 R318
  obtain ⟨g1_0, g1_1, g1_2⟩ := G119.out.c3
  obtain ⟨h1_0, h1_1, h1_2⟩ := H119.out.c3
  go_wp2_with fail
  refine (same_any g1 A1 B1 c1 d1 _ (own_obs P119.out QM1.out) R119.out (by rw [HG1.out]; exact po_fit12 HF.out)).mono ?_
  rintro e w20 ⟨rfl, hb⟩
  clear g1_0 g1_1 g1_2 h1_0 h1_1 h1_2
  have HB20 := hid (then_w HB19.out hb)
  have HX20 := hid (HX19.out.later hb)
  have HK20 := hid (HK19.out.later hb)
  have G020 := hid (G019.out.later hb)
  have H020 := hid (H019.out.later hb)
  have G120 := hid (G119.out.later hb)
  have H120 := hid (H119.out.later hb)
  have G220 := hid (G219.out.later hb)
  have H220 := hid (H219.out.later hb)
  have G320 := hid (G319.out.later hb)
  have H320 := hid (H319.out.later hb)
  have P020 := hid (P019.out.later hb)
  have P120 := hid (P119.out.later hb)
  have P220 := hid (P219.out.later hb)
  have P320 := hid (P319.out.later hb)
  have R020 := hid (R019.out.below hb)
  have R120 := hid (R119.out.below hb)
  have R220 := hid (R219.out.below hb)
  have R320 := hid (R319.out.below hb)
  clear hb
  clear HB19 HX19 HK19 G019 H019 G119 H119 G219 H219 G319 H319 P019 P119 P219 P319 R019 R119 R219 R319
  obtain ⟨g2_0, g2_1, g2_2⟩ := G220.out.c3
  obtain ⟨h2_0, h2_1, h2_2⟩ := H220.out.c3
  go_wp2_with fail
  refine (same_any g2 A2 B2 c2 d2 _ (own_obs P220.out QM2.out) R220.out (by rw [HG2.out]; exact st_fit12 HF.out)).mono ?_
  rintro e w21 ⟨rfl, hb⟩
  clear g2_0 g2_1 g2_2 h2_0 h2_1 h2_2
  have HB21 := hid (then_w HB20.out hb)
  have HX21 := hid (HX20.out.later hb)
  have HK21 := hid (HK20.out.later hb)
  have G021 := hid (G020.out.later hb)
  have H021 := hid (H020.out.later hb)
  have G121 := hid (G120.out.later hb)
  have H121 := hid (H120.out.later hb)
  have G221 := hid (G220.out.later hb)
  have H221 := hid (H220.out.later hb)
  have G321 := hid (G320.out.later hb)
  have H321 := hid (H320.out.later hb)
  have P021 := hid (P020.out.later hb)
  have P121 := hid (P120.out.later hb)
  have P221 := hid (P220.out.later hb)
  have P321 := hid (P320.out.later hb)
  have R021 := hid (R020.out.below hb)
  have R121 := hid (R120.out.below hb)
  have R221 := hid (R220.out.below hb)
  have R321 := hid (R320.out.below hb)
  clear hb
  clear HB20 HX20 HK20 G020 H020 G120 H120 G220 H220 G320 H320 P020 P120 P220 P320 R020 R120 R220 R320
  obtain ⟨g3_0, g3_1, g3_2⟩ := G321.out.c3
  obtain ⟨h3_0, h3_1, h3_2⟩ := H321.out.c3
  go_wp2_with fail
  refine (same_any g3 A3 B3 c3 d3 _ (own_obs P321.out QM3.out) R321.out (by rw [HG3.out]; exact go_fit12 HF.out)).mono ?_
  rintro e w22 ⟨rfl, hb⟩
  clear g3_0 g3_1 g3_2 h3_0 h3_1 h3_2
  have HB22 := hid (then_w HB21.out hb)
  have HX22 := hid (HX21.out.later hb)
  have HK22 := hid (HK21.out.later hb)
  have G022 := hid (G021.out.later hb)
  have H022 := hid (H021.out.later hb)
  have G122 := hid (G121.out.later hb)
  have H122 := hid (H121.out.later hb)
  have G222 := hid (G221.out.later hb)
  have H222 := hid (H221.out.later hb)
  have G322 := hid (G321.out.later hb)
  have H322 := hid (H321.out.later hb)
  have P022 := hid (P021.out.later hb)
  have P122 := hid (P121.out.later hb)
  have P222 := hid (P221.out.later hb)
  have P322 := hid (P321.out.later hb)
  have R022 := hid (R021.out.below hb)
  have R122 := hid (R121.out.below hb)
  have R222 := hid (R221.out.below hb)
  have R322 := hid (R321.out.below hb)
  clear hb
  clear HB21 HX21 HK21 G021 H021 G121 H121 G221 H221 G321 H321 P021 P121 P221 P321 R021 R121 R221 R321
  go_wp2_with fail
  go_ret
  exact ⟨rfl, HB22.out⟩
end Go.Proofs.YtgocodnehppniaaGreat
