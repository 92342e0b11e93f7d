/- FrameFresh. -/
import Derived.Test.YtalfbdigjaibkaaGreatUB12
import Derived.Test.YtalfbdigjaibkaaGreatUR12
import Derived.Test.YtalfbdigjaibkaaGreatSD12
namespace Go.Proofs.YtalfbdigjaibkaaGreat
open Go.RowKit
set_option maxRecDepth 100000
set_option maxHeartbeats 4000000 in
theorem framefresh_any12 (h : Hp) (sd mt rc ho : Int) (args : List Int) (SA : Option Addr) (da : Nat) (A : Option Addr) (c : Nat) (w : World) (hs : ObsR w A h.objs) (fit : h.Fit) (hsa : IntsR w SA args) :
    Calls Tryz.prog 7 #[.agg #[.slice A h.objs.length c, .int .i64 h.cap, .int .i64 h.last], .agg #[.int .i64 sd, .int .i64 mt, .int .i64 rc, .int .i64 ho, .slice SA args.length da]] w fun e w' => e = .returned (.bool true) ∧ Below w.heap.size w w' := by
  obtain ⟨w0, hw0⟩ : ∃ w0, w0 = (w.alloc (.cells #[Value.slice A h.objs.length c, Value.int .i64 h.cap, Value.int .i64 h.last] 24)).alloc (.cells #[.int .i64 sd, .int .i64 mt, .int .i64 rc, .int .i64 ho, .slice SA args.length da] 52) := ⟨_, rfl⟩
  have HB0 : Hid (Below w.heap.size w w0) := by show Below _ _ _; rw [hw0]; exact below_alloc2 w _ _
  have HX0 : Hid (Lies w0 w.heap.size 24 #[Value.slice A h.objs.length c, Value.int .i64 h.cap, Value.int .i64 h.last]) := by show Lies _ _ _ _; rw [hw0]; exact ((Lies.new w _ _).alloc _)
  have HK0 : Hid (Lies w0 (w.heap.size + 1) 52 #[.int .i64 sd, .int .i64 mt, .int .i64 rc, .int .i64 ho, .slice SA args.length da]) := by
    show Lies _ _ _ _
    have := (Lies.new (w.alloc (.cells #[Value.slice A h.objs.length c, Value.int .i64 h.cap, Value.int .i64 h.last] 24)) 52 #[.int .i64 sd, .int .i64 mt, .int .i64 rc, .int .i64 ho, .slice SA args.length da])
    rw [hw0]
    simpa [Hid] using this
  have HS := hid hs
  have HF := hid fit
  have IA0 := hid (hsa.below HB0.out)
  clear hs fit hsa
  go_enter Tryz.func7, Tryz.ntmps7
  go_upto_region 1 with fail
  rw [← hw0]
  clear hw0
  go_wp2_with fail
  refine (fixed12_any _).mono ?_
  rintro e w1 ⟨rfl, hb⟩
  have HB1 := hid (then_w HB0.out hb)
  have HX1 := hid (HX0.out.later hb)
  have HK1 := hid (HK0.out.later hb)
  have IA1 := hid (IA0.out.below hb)
  clear hb
  clear HB0 HX0 HK0 IA0
  obtain ⟨x0, x1, x2⟩ := HX1.out.c3
  go_wp2_with fail
  refine (small_ok h A c _ (HS.out.below HB1.out) HF.out).mono ?_
  rintro e w2 ⟨sb, rfl, hb⟩
  clear x0 x1 x2
  have HB2 := hid (then_w HB1.out hb)
  have HX2 := hid (HX1.out.later hb)
  have HK2 := hid (HK1.out.later hb)
  have IA2 := hid (IA1.out.below hb)
  clear hb
  clear HB1 HX1 HK1 IA1
  cases sb
  next =>
   obtain ⟨x0, x1, x2⟩ := HX2.out.c3
   obtain ⟨a0, a1, a2, a3, a4⟩ := HK2.out.c5
   go_wp2_with fail
   refine (fixed12_any _).mono ?_
   rintro e w3 ⟨rfl, hb⟩
   clear x0 x1 x2 a0 a1 a2 a3 a4
   have HB3 := hid (then_w HB2.out hb)
   have HX3 := hid (HX2.out.later hb)
   have HK3 := hid (HK2.out.later hb)
   have IA3 := hid (IA2.out.below hb)
   clear hb
   clear HB2 HX2 HK2 IA2
   go_wp2_with fail
   go_ret
   exact ⟨rfl, HB3.out⟩
  by_cases h60 : h.objs.length ≤ 60
  case neg =>
    have hI60 : (60 : Int) < (h.objs.length : Int) := by omega
    obtain ⟨x0, x1, x2⟩ := HX2.out.c3
    obtain ⟨a0, a1, a2, a3, a4⟩ := HK2.out.c5
    go_wp2_with fail
    refine (fixed12_any _).mono ?_
    rintro e w3 ⟨rfl, hb⟩
    clear x0 x1 x2 a0 a1 a2 a3 a4
    have HB3 := hid (then_w HB2.out hb)
    have HX3 := hid (HX2.out.later hb)
    have HK3 := hid (HK2.out.later hb)
    have IA3 := hid (IA2.out.below hb)
    clear hb
    clear HB2 HX2 HK2 IA2
    go_wp2_with fail
    go_ret
    exact ⟨rfl, HB3.out⟩
  have hI60 : ¬ (60 : Int) < (h.objs.length : Int) := by omega
  by_cases h20 : args.length ≤ 20
  case neg =>
    have hI20 : (20 : Int) < (args.length : Int) := by omega
    obtain ⟨x0, x1, x2⟩ := HX2.out.c3
    obtain ⟨a0, a1, a2, a3, a4⟩ := HK2.out.c5
    go_wp2_with fail
    refine (fixed12_any _).mono ?_
    rintro e w3 ⟨rfl, hb⟩
    clear x0 x1 x2 a0 a1 a2 a3 a4
    have HB3 := hid (then_w HB2.out hb)
    have HX3 := hid (HX2.out.later hb)
    have HK3 := hid (HK2.out.later hb)
    have IA3 := hid (IA2.out.below hb)
    clear hb
    clear HB2 HX2 HK2 IA2
    go_wp2_with fail
    go_ret
    exact ⟨rfl, HB3.out⟩
  have hI20 : ¬ (20 : Int) < (args.length : Int) := by omega
  obtain ⟨x0, x1, x2⟩ := HX2.out.c3
  obtain ⟨a0, a1, a2, a3, a4⟩ := HK2.out.c5
  go_wp2_with fail
  refine (rmay_any h A c _ (HS.out.below HB2.out) HF.out).mono ?_
  rintro e w3 ⟨rfl, hb⟩
  clear x0 x1 x2 a0 a1 a2 a3 a4
  have HB3 := hid (then_w HB2.out hb)
  have HX3 := hid (HX2.out.later hb)
  have HK3 := hid (HK2.out.later hb)
  have IA3 := hid (IA2.out.below hb)
  clear hb
  clear HB2 HX2 HK2 IA2
  cases hm : mayB h
  next =>
   clear hm
   obtain ⟨x0, x1, x2⟩ := HX3.out.c3
   obtain ⟨a0, a1, a2, a3, a4⟩ := HK3.out.c5
   go_wp2_with fail
   refine (fixed12_any _).mono ?_
   rintro e w4 ⟨rfl, hb⟩
   clear x0 x1 x2 a0 a1 a2 a3 a4
   have HB4 := hid (then_w HB3.out hb)
   have HX4 := hid (HX3.out.later hb)
   have HK4 := hid (HK3.out.later hb)
   have IA4 := hid (IA3.out.below hb)
   clear hb
   clear HB3 HX3 HK3 IA3
   go_wp2_with fail
   go_ret
   exact ⟨rfl, HB4.out⟩
  have HM := hid hm
  clear hm
  have HA20 : Hid (args.length ≤ 20) := h20
  have H60 : Hid (h.objs.length ≤ 60) := h60
  obtain ⟨g, hg⟩ : ∃ g, g = (nn12 h sd mt rc ho args).1 := ⟨_, rfl⟩
  have HG := hid hg
  clear hg
  obtain ⟨v, hv⟩ : ∃ g, g = (nn12 h sd mt rc ho args).2.1 := ⟨_, rfl⟩
  have HV := hid hv
  clear hv
  obtain ⟨er, he⟩ : ∃ g, g = (nn12 h sd mt rc ho args).2.2 := ⟨_, rfl⟩
  have HE := hid he
  clear he
  obtain ⟨x0, x1, x2⟩ := HX3.out.c3
  obtain ⟨a0, a1, a2, a3, a4⟩ := HK3.out.c5
  go_wp2_with fail
  refine (cnew_any12 h sd mt rc ho args SA da A c _ (HS.out.below HB3.out) HF.out (may_mod12 HM.out) IA3.out (Nat.le_trans HA20.out (by decide))).mono ?_
  rintro e w4 ⟨A1, c1, l1, rfl, hm1, ho1, hb⟩
  clear x0 x1 x2 a0 a1 a2 a3 a4
  rw [← HG.out] at hm1
  rw [← HG.out, ← HV.out, ← HE.out]
  have QM := hid hm1
  clear hm1
  have HB4 := hid (then_w HB3.out hb)
  have HX4 := hid (HX3.out.later hb)
  have HK4 := hid (HK3.out.later hb)
  have IA4 := hid (IA3.out.below hb)
  clear hb
  clear HB3 HX3 HK3 IA3
  clear hI60 hI20 h60 h20
  have P4 := hid ho1
  clear ho1
  go_upto_region 4 with fail
  obtain ⟨w5, hw⟩ : ∃ x, x = w4.alloc (.cells #[.slice A1 g.objs.length c1, .int .i64 g.cap, .int .i64 g.last] 24) := ⟨_, rfl⟩
  obtain ⟨bg, hbx⟩ : ∃ x, x = w4.heap.size := ⟨_, rfl⟩
  have G5 : Hid (Lies w5 bg 24 #[.slice A1 g.objs.length c1, .int .i64 g.cap, .int .i64 g.last]) := by show Lies _ _ _ _; rw [hw, hbx]; exact Lies.new _ _ _
  have hb : Below w4.heap.size w4 w5 := by rw [hw]; exact below_alloc _ _
  rw [← hw, ← hbx]
  have ne_HX_G : Hid (w.heap.size ≠ bg) := by show _ ≠ _; rw [hbx]; exact Nat.ne_of_lt HX4.out.lt
  have ne_HK_G : Hid ((w.heap.size + 1) ≠ bg) := by show _ ≠ _; rw [hbx]; exact Nat.ne_of_lt HK4.out.lt
  have at_G : Hid (bg = w4.heap.size) := hbx
  have le_HB_G : Hid (w.heap.size ≤ bg) := by show _ ≤ _; rw [hbx]; exact HB4.out.size
  clear hbx hw
  have HB5 := hid (then_w HB4.out hb)
  have HX5 := hid (HX4.out.later hb)
  have HK5 := hid (HK4.out.later hb)
  have P5 := hid (P4.out.later hb)
  have IA5 := hid (IA4.out.below hb)
  clear hb
  clear HB4 HX4 HK4 P4 IA4
  by_cases he : er = 0
  case neg =>
    obtain ⟨e1, e2⟩ := nn_no12 (h := h) (sd := sd) (m := mt) (rc := rc) (ho := ho) (args := args) (by rw [← HE.out]; exact he)
    rw [← HG.out] at e1
    rw [← HV.out] at e2
    subst e1 e2
    obtain ⟨y0, y1, y2⟩ := G5.out.c3
    obtain ⟨x0, x1, x2⟩ := HX5.out.c3
    go_wp2_with fail
    refine (same_any g A1 A c1 c _ (own_obs P5.out QM.out) (HS.out.below HB5.out) HF.out).mono ?_
    rintro e w6 ⟨rfl, hb⟩
    clear y0 y1 y2 x0 x1 x2
    have HB6 := hid (then_w HB5.out hb)
    have HX6 := hid (HX5.out.later hb)
    have HK6 := hid (HK5.out.later hb)
    have G6 := hid (G5.out.later hb)
    have P6 := hid (P5.out.later hb)
    have IA6 := hid (IA5.out.below hb)
    clear hb
    clear HB5 HX5 HK5 G5 P5 IA5
    go_wp2_with fail
    go_ret
    exact ⟨rfl, HB6.out⟩
  subst he
  obtain ⟨f1, f2, f3, f4, f5⟩ := fresh12 HE.out.symm
  obtain ⟨m0, ha, rs, rh, hc, hall, hr, e1, e2⟩ := nn_ok12 HE.out.symm
  rw [← HG.out] at f1 f2 f3 e1
  rw [← HV.out] at e2
  subst e2
  have F1 := hid f1
  have F2 := hid f2
  have F3 := hid f3
  have M0 := hid m0
  have E1 := hid e1
  clear rs rh hc hall hr f1 f2 f3 m0 e1
  obtain ⟨M, hM⟩ : ∃ M, M = (mt12 h mt).1 := ⟨_, rfl⟩
  rw [← hM] at ha f4 f5
  have HMM := hid hM
  have HA := hid ha
  have F4 := hid f4
  have F5 := hid f5
  clear hM ha f4 f5
  obtain ⟨x0, x1, x2⟩ := HX5.out.c3
  obtain ⟨a0, a1, a2, a3, a4⟩ := HK5.out.c5
  go_wp2_with fail
  refine (rmethod_any12 h mt A c _ (HS.out.below HB5.out) HF.out).mono ?_
  rintro e w6 ⟨CA, ca, LA, la, rfl, hi, hj, hb, -⟩
  rw [← HMM.out] at hi
  rw [← HMM.out, M0.out]
  clear hj
  clear x0 x1 x2 a0 a1 a2 a3 a4
  have HB6 := hid (then_w HB5.out hb)
  have HX6 := hid (HX5.out.later hb)
  have HK6 := hid (HK5.out.later hb)
  have G6 := hid (G5.out.later hb)
  have P6 := hid (P5.out.later hb)
  have IA6 := hid (IA5.out.below hb)
  clear hb
  clear HB5 HX5 HK5 G5 P5 IA5
  have I6 := hid hi
  clear hi
  go_upto_region 7 with fail
  obtain ⟨w7, hw⟩ : ∃ x, x = w6.alloc (.cells #[.int .i64 M.prim, .int .i64 M.args, .int .i64 M.temps, .slice CA M.code.length ca, .slice LA M.lits.length la] 32) := ⟨_, rfl⟩
  obtain ⟨bm, hbx⟩ : ∃ x, x = w6.heap.size := ⟨_, rfl⟩
  have M7 : Hid (Lies w7 bm 32 #[.int .i64 M.prim, .int .i64 M.args, .int .i64 M.temps, .slice CA M.code.length ca, .slice LA M.lits.length la]) := by show Lies _ _ _ _; rw [hw, hbx]; exact Lies.new _ _ _
  have hb : Below w6.heap.size w6 w7 := by rw [hw]; exact below_alloc _ _
  rw [← hw, ← hbx]
  have ne_HX_M : Hid (w.heap.size ≠ bm) := by show _ ≠ _; rw [hbx]; exact Nat.ne_of_lt HX6.out.lt
  have ne_HK_M : Hid ((w.heap.size + 1) ≠ bm) := by show _ ≠ _; rw [hbx]; exact Nat.ne_of_lt HK6.out.lt
  have ne_G_M : Hid (bg ≠ bm) := by show _ ≠ _; rw [hbx]; exact Nat.ne_of_lt G6.out.lt
  have at_M : Hid (bm = w6.heap.size) := hbx
  have le_HB_M : Hid (w.heap.size ≤ bm) := by show _ ≤ _; rw [hbx]; exact HB6.out.size
  clear hbx hw
  have HB7 := hid (then_w HB6.out hb)
  have HX7 := hid (HX6.out.later hb)
  have HK7 := hid (HK6.out.later hb)
  have G7 := hid (G6.out.later hb)
  have P7 := hid (P6.out.later hb)
  have IA7 := hid (IA6.out.below hb)
  have I7 := hid (I6.out.below hb)
  clear hb
  clear HB6 HX6 HK6 G6 P6 IA6 I6
  obtain ⟨i0, hi0⟩ : ∃ i, i = M.code.getD 0 ⟨0, 0⟩ := ⟨_, rfl⟩
  have F2b : Hid (at12 g (2 * (h.objs.length : Int)) = ((0 : Int), i0, 0)) := by show _ = _; rw [F2.out, ← HMM.out, ← hi0]
  have HI0 := hid hi0
  clear hi0 F2
  obtain ⟨y0, y1, y2⟩ := G7.out.c3
  go_wp2_with fail
  refine (cat_any12 g (2 * (h.objs.length : Int)) A1 c1 _ (own_obs P7.out QM.out) (may_fit (may_parts12 F1.out).1)).mono ?_
  rintro e w8 ⟨rfl, hb⟩
  clear y0 y1 y2
  rw [F2b.out]
  have HB8 := hid (then_w HB7.out hb)
  have HX8 := hid (HX7.out.later hb)
  have HK8 := hid (HK7.out.later hb)
  have G8 := hid (G7.out.later hb)
  have M8 := hid (M7.out.later hb)
  have P8 := hid (P7.out.later hb)
  have IA8 := hid (IA7.out.below hb)
  have I8 := hid (I7.out.below hb)
  clear hb
  clear HB7 HX7 HK7 G7 M7 P7 IA7 I7
  go_upto_region 8 with fail
  obtain ⟨w9, hw⟩ : ∃ x, x = w8.alloc (.cells #[.int .i64 i0.op, .int .i64 i0.a] 37) := ⟨_, rfl⟩
  obtain ⟨bs, hbx⟩ : ∃ x, x = w8.heap.size := ⟨_, rfl⟩
  have S9 : Hid (Lies w9 bs 37 #[.int .i64 i0.op, .int .i64 i0.a]) := by show Lies _ _ _ _; rw [hw, hbx]; exact Lies.new _ _ _
  have hb : Below w8.heap.size w8 w9 := by rw [hw]; exact below_alloc _ _
  rw [← hw, ← hbx]
  have ne_HX_S : Hid (w.heap.size ≠ bs) := by show _ ≠ _; rw [hbx]; exact Nat.ne_of_lt HX8.out.lt
  have ne_HK_S : Hid ((w.heap.size + 1) ≠ bs) := by show _ ≠ _; rw [hbx]; exact Nat.ne_of_lt HK8.out.lt
  have ne_G_S : Hid (bg ≠ bs) := by show _ ≠ _; rw [hbx]; exact Nat.ne_of_lt G8.out.lt
  have ne_M_S : Hid (bm ≠ bs) := by show _ ≠ _; rw [hbx]; exact Nat.ne_of_lt M8.out.lt
  have at_S : Hid (bs = w8.heap.size) := hbx
  have le_HB_S : Hid (w.heap.size ≤ bs) := by show _ ≤ _; rw [hbx]; exact HB8.out.size
  clear hbx hw
  have HB9 := hid (then_w HB8.out hb)
  have HX9 := hid (HX8.out.later hb)
  have HK9 := hid (HK8.out.later hb)
  have G9 := hid (G8.out.later hb)
  have M9 := hid (M8.out.later hb)
  have P9 := hid (P8.out.later hb)
  have IA9 := hid (IA8.out.below hb)
  have I9 := hid (I8.out.below hb)
  clear hb
  clear HB8 HX8 HK8 G8 M8 P8 IA8 I8
  obtain ⟨bc, oc, hca, hbc, hcc⟩ := I9.out F4.out
  obtain ⟨z0, z1⟩ := hcc 0 i0 (by rw [HI0.out, List.getD_eq_getElem?_getD, List.getElem?_eq_getElem F4.out]; rfl)
  subst hca
  have hz0 : 0 < M.code.length := F4.out
  simp only [Nat.zero_mul, Nat.add_zero] at z0 z1
  have hz1 : IntKind.i64.wrap (2 * (h.objs.length : Int)) = 2 * (h.objs.length : Int) := IntWalk.i64_in _ (by have := H60.out; omega)
  clear hcc hbc
  obtain ⟨x0, x1, x2⟩ := HX9.out.c3
  obtain ⟨y0, y1, y2⟩ := G9.out.c3
  obtain ⟨m0, m1, m2, m3, m4⟩ := M9.out.c5
  obtain ⟨s0, s1⟩ := S9.out.c2
  go_upto_region 8 with fail
  refine wp_region_held_drew (S := (fun w' => w'.cell? ⟨w.heap.size, 0, none⟩ = some (.slice A h.objs.length c) ∧ w'.cell? ⟨w.heap.size, 1, none⟩ = some (.int .i64 h.cap) ∧ w'.cell? ⟨w.heap.size, 2, none⟩ = some (.int .i64 h.last) ∧ w'.cell? ⟨bg, 0, none⟩ = some (.slice A1 g.objs.length c1) ∧ w'.cell? ⟨bg, 1, none⟩ = some (.int .i64 g.cap) ∧ w'.cell? ⟨bg, 2, none⟩ = some (.int .i64 g.last) ∧ w'.cell? ⟨bm, 0, none⟩ = some (.int .i64 M.prim) ∧ w'.cell? ⟨bm, 1, none⟩ = some (.int .i64 M.args) ∧ w'.cell? ⟨bm, 2, none⟩ = some (.int .i64 M.temps) ∧ w'.cell? ⟨bm, 3, none⟩ = some (.slice (some ⟨bc, oc, none⟩) M.code.length ca) ∧ w'.cell? ⟨bm, 4, none⟩ = some (.slice LA M.lits.length la) ∧ w'.cell? ⟨bs, 0, none⟩ = some (.int .i64 i0.op) ∧ w'.cell? ⟨bs, 1, none⟩ = some (.int .i64 i0.a) ∧ w'.cell? ⟨bc, oc, none⟩ = some (.int .i64 i0.op) ∧ w'.cell? ⟨bc, oc + 1, none⟩ = some (.int .i64 i0.a) ∧ Below w9.heap.size w9 w')) (by kernel_rfl) ?_ (fun hH0 => ?_)
  next =>
   exact ⟨cell_later (Below.refl w9.heap.size w9).drew x0, cell_later (Below.refl w9.heap.size w9).drew x1, cell_later (Below.refl w9.heap.size w9).drew x2, cell_later (Below.refl w9.heap.size w9).drew y0, cell_later (Below.refl w9.heap.size w9).drew y1, cell_later (Below.refl w9.heap.size w9).drew y2, cell_later (Below.refl w9.heap.size w9).drew m0, cell_later (Below.refl w9.heap.size w9).drew m1, cell_later (Below.refl w9.heap.size w9).drew m2, cell_later (Below.refl w9.heap.size w9).drew m3, cell_later (Below.refl w9.heap.size w9).drew m4, cell_later (Below.refl w9.heap.size w9).drew s0, cell_later (Below.refl w9.heap.size w9).drew s1, cell_later (Below.refl w9.heap.size w9).drew z0, cell_later (Below.refl w9.heap.size w9).drew z1, (Below.refl _ _).drew⟩
  refine tkI 0 ⟨some 81, .move (.tmp 6), 3, "law.go:149", #[], none⟩ ?v1 rfl (by kernel_rfl) (by rfl) ?y1 ?_
  case y1 => intro w hSw; (try dsimp only at hSw); go_simp; all_goals with_reducible rfl
  try simp only [apt12]
  refine tkI 1 ⟨some 82, .fieldAddr 24 (.tmp 2) 0, 0, "law.go:149", #[], none⟩ ?v2 rfl (by kernel_rfl) (by rfl) ?y2 ?_
  case y2 => intro w hSw; (try dsimp only at hSw); go_simp; all_goals with_reducible rfl
  try simp only [apt12]
  refine tkI 2 ⟨some 83, .load 22 (.tmp 82), 22, "law.go:149", #[⟨1, .data⟩], none⟩ ?v3 rfl (by kernel_rfl) (by rfl) ?y3 ?_
  case y3 => intro w hSw; (try dsimp only at hSw); go_simp; all_goals with_reducible rfl
  try simp only [apt12]
  refine tkI 3 ⟨some 84, .call { callee := .builtin .len, args := #[.tmp 83], argTypes := #[22] }, 3, "law.go:149", #[⟨2, .data⟩], none⟩ ?v4 rfl (by kernel_rfl) (by rfl) ?y4 ?_
  case y4 => intro w hSw; (try dsimp only at hSw); go_simp; all_goals with_reducible rfl
  try simp only [apt12]
  refine tkI 4 ⟨some 85, .binOp .mul 3 (.const (Go.Value.int .i64 2)) (.tmp 84) 3, 3, "law.go:149", #[⟨3, .data⟩], none⟩ ?v5 rfl (by kernel_rfl) (by rfl) ?y5 ?_
  case y5 => intro w hSw; (try dsimp only at hSw); go_simp; all_goals with_reducible rfl
  try simp only [apt12]
  refine tkI 5 ⟨some 86, .binOp .neq 3 (.tmp 81) (.tmp 85) 3, 4, "law.go:149", #[⟨0, .data⟩, ⟨4, .data⟩], none⟩ ?v6 rfl (by kernel_rfl) (by rfl) ?y6 ?_
  case y6 => intro w hSw; (try dsimp only at hSw); go_simp; all_goals with_reducible rfl
  try simp only [apt12]
  refine tkI 6 ⟨some 87, .move (.tmp 86), 4, "law.go:149", #[⟨5, .data⟩], none⟩ ?v7 rfl (by kernel_rfl) (by rfl) ?y7 ?_
  case y7 => intro w hSw; (try dsimp only at hSw); go_simp; all_goals with_reducible rfl
  try simp only [apt12]
  refine tkI 7 ⟨some 88, .load 24 (.tmp 5), 24, "law.go:149", #[⟨6, .guard⟩], some (6, false)⟩ ?v8 rfl (by kernel_rfl) (by rfl) ?y8 ?_
  case y8 => intro w hSw; (try dsimp only at hSw); go_simp; all_goals with_reducible rfl
  try simp only [apt12]
  refine tkI 8 ⟨some 89, .move (.tmp 6), 3, "law.go:149", #[⟨6, .guard⟩], some (6, false)⟩ ?v9 rfl (by kernel_rfl) (by rfl) ?y9 ?_
  case y9 => intro w hSw; (try dsimp only at hSw); go_simp; all_goals with_reducible rfl
  try simp only [apt12]
  refine wpAnyH_ready (rs := [9]) (by kernel_rfl) (by simp) ?_
  refine AllReadyH.cons (i := 9) (o := ⟨some 90, .call { callee := .value (.func 18), args := #[.tmp 88, .tmp 89], argTypes := #[24, 3] }, 4, "law.go:149", #[⟨7, .data⟩, ⟨8, .data⟩, ⟨6, .chain⟩, ⟨6, .guard⟩], some (6, false)⟩) rfl (fun K hK => ?_) AllReadyH.nil
  go_simp
  go_at_call 18
  have BB0 : Hid (Below w9.heap.size w9 _) := (Below.refl _ _).drew
  refine (cmay_any12 g (2 * (h.objs.length : Int)) A1 c1 _ ((own_obs P9.out QM.out).below BB0.out) (may_fit (may_parts12 F1.out).1)).mono ?_
  rintro e u1 ⟨rfl, hb⟩
  rw [F1.out]
  refine hK.out _ _ ?_ (fun hH1 => ?_)
  next =>
   exact ⟨cell_later hb hH0.1, cell_later hb hH0.2.1, cell_later hb hH0.2.2.1, cell_later hb hH0.2.2.2.1, cell_later hb hH0.2.2.2.2.1, cell_later hb hH0.2.2.2.2.2.1, cell_later hb hH0.2.2.2.2.2.2.1, cell_later hb hH0.2.2.2.2.2.2.2.1, cell_later hb hH0.2.2.2.2.2.2.2.2.1, cell_later hb hH0.2.2.2.2.2.2.2.2.2.1, cell_later hb hH0.2.2.2.2.2.2.2.2.2.2.1, cell_later hb hH0.2.2.2.2.2.2.2.2.2.2.2.1, cell_later hb hH0.2.2.2.2.2.2.2.2.2.2.2.2.1, cell_later hb hH0.2.2.2.2.2.2.2.2.2.2.2.2.2.1, cell_later hb hH0.2.2.2.2.2.2.2.2.2.2.2.2.2.2.1, then_w hH0.2.2.2.2.2.2.2.2.2.2.2.2.2.2.2 hb⟩
  clear hK K
  try simp only [apt12]
  clear hb
  refine tkI 10 ⟨some 91, .unOp .not 4 (.tmp 90), 4, "law.go:149", #[⟨9, .data⟩, ⟨6, .guard⟩], some (6, false)⟩ ?v10 rfl (by kernel_rfl) (by rfl) ?y10 ?_
  case y10 => intro w hSw; (try dsimp only at hSw); go_simp; all_goals with_reducible rfl
  try simp only [apt12]
  refine tkI 11 ⟨some 92, .pick (.tmp 87) (.const (Go.Value.bool true)) (.tmp 91), 4, "law.go:149", #[⟨6, .data⟩, ⟨10, .data⟩], none⟩ ?v11 rfl (by kernel_rfl) (by rfl) ?y11 ?_
  case y11 => intro w hSw; (try dsimp only at hSw); go_simp; all_goals with_reducible rfl
  try simp only [apt12]
  refine tkI 12 ⟨some 93, .move (.tmp 92), 4, "law.go:149", #[⟨11, .data⟩, ⟨9, .chain⟩], none⟩ ?v12 rfl (by kernel_rfl) (by rfl) ?y12 ?_
  case y12 => intro w hSw; (try dsimp only at hSw); go_simp; all_goals with_reducible rfl
  try simp only [apt12]
  refine tkI 13 ⟨some 94, .move (.tmp 10), 3, "law.go:149", #[⟨12, .guard⟩], some (12, false)⟩ ?v13 rfl (by kernel_rfl) (by rfl) ?y13 ?_
  case y13 => intro w hSw; (try dsimp only at hSw); go_simp; all_goals with_reducible rfl
  try simp only [apt12]
  refine tkI 14 ⟨some 95, .binOp .neq 3 (.tmp 94) (.const (Go.Value.int .i64 0)) 3, 4, "law.go:149", #[⟨13, .data⟩, ⟨12, .guard⟩], some (12, false)⟩ ?v14 rfl (by kernel_rfl) (by rfl) ?y14 ?_
  case y14 => intro w hSw; (try dsimp only at hSw); go_simp; all_goals with_reducible rfl
  try simp only [apt12]
  refine tkI 15 ⟨some 96, .pick (.tmp 93) (.const (Go.Value.bool true)) (.tmp 95), 4, "law.go:149", #[⟨12, .data⟩, ⟨14, .data⟩], none⟩ ?v15 rfl (by kernel_rfl) (by rfl) ?y15 ?_
  case y15 => intro w hSw; (try dsimp only at hSw); go_simp; all_goals with_reducible rfl
  try simp only [apt12]
  refine tkI 16 ⟨some 97, .move (.tmp 96), 4, "law.go:149", #[⟨15, .data⟩, ⟨12, .chain⟩], none⟩ ?v16 rfl (by kernel_rfl) (by rfl) ?y16 ?_
  case y16 => intro w hSw; (try dsimp only at hSw); go_simp; all_goals with_reducible rfl
  try simp only [apt12]
  refine tkI 17 ⟨some 98, .load 37 (.tmp 11), 37, "law.go:149", #[⟨16, .guard⟩], some (16, false)⟩ ?v17 rfl (by kernel_rfl) (by rfl) ?y17 ?_
  case y17 => intro w hSw; (try dsimp only at hSw); go_simp; all_goals with_reducible rfl
  try simp only [apt12]
  refine tkI 18 ⟨some 99, .fieldAddr 32 (.tmp 8) 3, 0, "law.go:149", #[⟨16, .guard⟩], some (16, false)⟩ ?v18 rfl (by kernel_rfl) (by rfl) ?y18 ?_
  case y18 => intro w hSw; (try dsimp only at hSw); go_simp; all_goals with_reducible rfl
  try simp only [apt12]
  refine tkI 19 ⟨some 100, .load 29 (.tmp 99), 29, "law.go:149", #[⟨18, .data⟩, ⟨16, .guard⟩], some (16, false)⟩ ?v19 rfl (by kernel_rfl) (by rfl) ?y19 ?_
  case y19 => intro w hSw; (try dsimp only at hSw); go_simp; all_goals with_reducible rfl
  try simp only [apt12]
  refine tkI 20 ⟨some 101, .indexAddr 29 (.tmp 100) (.const (Go.Value.int .i64 0)), 0, "law.go:149", #[⟨19, .data⟩, ⟨16, .guard⟩], some (16, false)⟩ ?v20 rfl (by kernel_rfl) (by rfl) ?y20 ?_
  case y20 => intro w hSw; (try dsimp only at hSw); go_simp; all_goals with_reducible rfl
  try simp only [apt12]
  refine tkI 21 ⟨some 102, .load 37 (.tmp 101), 37, "law.go:149", #[⟨20, .data⟩, ⟨16, .guard⟩], some (16, false)⟩ ?v21 rfl (by kernel_rfl) (by rfl) ?y21 ?_
  case y21 => intro w hSw; (try dsimp only at hSw); go_simp; all_goals with_reducible rfl
  try simp only [apt12]
  refine tkI 22 ⟨some 103, .binOp .neq 37 (.tmp 98) (.tmp 102) 37, 4, "law.go:149", #[⟨17, .data⟩, ⟨21, .data⟩, ⟨16, .guard⟩], some (16, false)⟩ ?v22 rfl (by kernel_rfl) (by rfl) ?y22 ?_
  case y22 => intro w hSw; (try dsimp only at hSw); go_simp; all_goals with_reducible rfl
  try simp only [apt12]
  refine tkI 23 ⟨some 104, .pick (.tmp 97) (.const (Go.Value.bool true)) (.tmp 103), 4, "law.go:149", #[⟨16, .data⟩, ⟨22, .data⟩], none⟩ ?v23 rfl (by kernel_rfl) (by rfl) ?y23 ?_
  case y23 => intro w hSw; (try dsimp only at hSw); go_simp; all_goals with_reducible rfl
  try simp only [apt12]
  refine tkI 24 ⟨some 105, .move (.tmp 104), 4, "law.go:149", #[⟨23, .data⟩, ⟨16, .chain⟩], none⟩ ?v24 rfl (by kernel_rfl) (by rfl) ?y24 ?_
  case y24 => intro w hSw; (try dsimp only at hSw); go_simp; all_goals with_reducible rfl
  try simp only [apt12]
  refine tkI 25 ⟨some 106, .move (.tmp 12), 33, "law.go:149", #[⟨24, .guard⟩], some (24, false)⟩ ?v25 rfl (by kernel_rfl) (by rfl) ?y25 ?_
  case y25 => intro w hSw; (try dsimp only at hSw); go_simp; all_goals with_reducible rfl
  try simp only [apt12]
  refine tkI 26 ⟨some 107, .binOp .neq 33 (.tmp 106) (.const (Go.Value.int .i64 0)) 33, 4, "law.go:149", #[⟨25, .data⟩, ⟨24, .guard⟩], some (24, false)⟩ ?v26 rfl (by kernel_rfl) (by rfl) ?y26 ?_
  case y26 => intro w hSw; (try dsimp only at hSw); go_simp; all_goals with_reducible rfl
  try simp only [apt12]
  refine tkI 27 ⟨some 108, .pick (.tmp 105) (.const (Go.Value.bool true)) (.tmp 107), 4, "law.go:149", #[⟨24, .data⟩, ⟨26, .data⟩], none⟩ ?v27 rfl (by kernel_rfl) (by rfl) ?y27 ?_
  case y27 => intro w hSw; (try dsimp only at hSw); go_simp; all_goals with_reducible rfl
  try simp only [apt12]
  refine wpAnyH_done (by kernel_rfl) ?_ _
  have hb : Below w9.heap.size w9 u1 := hH1.2.2.2.2.2.2.2.2.2.2.2.2.2.2.2
  clear z0 z1 hz0 hz1
  clear x0 x1 x2 y0 y1 y2 m0 m1 m2 m3 m4 s0 s1
  have HB10 := hid (then_w HB9.out hb)
  have HX10 := hid (HX9.out.later hb)
  have HK10 := hid (HK9.out.later hb)
  have G10 := hid (G9.out.later hb)
  have M10 := hid (M9.out.later hb)
  have S10 := hid (S9.out.later hb)
  have P10 := hid (P9.out.later hb)
  have IA10 := hid (IA9.out.below hb)
  have I10 := hid (I9.out.below hb)
  clear hb hH1
  clear HB9 HX9 HK9 G9 M9 S9 P9 IA9 I9
  have HTM : Hid (0 ≤ M.temps) := by
    show _ ≤ _
    obtain ⟨hb, hx⟩ := mt_ok12 M0.out
    obtain ⟨-, -, -, -, -, -, p7, p8, -⟩ := mb_parts12 hb
    rw [HMM.out, hx]
    omega
  obtain ⟨x0, x1, x2⟩ := HX10.out.c3
  obtain ⟨a0, a1, a2, a3, a4⟩ := HK10.out.c5
  obtain ⟨y0, y1, y2⟩ := G10.out.c3
  obtain ⟨m0, m1, m2, m3, m4⟩ := M10.out.c5
  go_upto_region 11 with fail
  have BL10 : Hid (Below u1.heap.size u1 u1) := hid (Below.refl _ _)
  go_loopw [13] (fun i wr => ∃ k : Nat, (k : Int) ≤ M.temps ∧ i = .int .i64 k ∧ Below u1.heap.size u1 wr) (fun i _ => M.temps.toNat - (intOf i).toNat)
  case atStart => exact ⟨0, by have := HTM.out; omega, rfl, Below.refl _ _⟩
  case round =>
    obtain ⟨k, hk, rfl, hb⟩ := hrel
    rename World => v0
    clear x0 x1 x2 a0 a1 a2 a3 a4 y0 y1 y2 m0 m1 m2 m3 m4
    have HB11 := hid (then_w HB10.out hb)
    have BL11 := hid (then_w BL10.out hb)
    have HX11 := hid (HX10.out.later hb)
    have HK11 := hid (HK10.out.later hb)
    have G11 := hid (G10.out.later hb)
    have M11 := hid (M10.out.later hb)
    have S11 := hid (S10.out.later hb)
    have P11 := hid (P10.out.later hb)
    have IA11 := hid (IA10.out.below hb)
    have I11 := hid (I10.out.below hb)
    clear hb
    by_cases hlt : (k : Int) < M.temps
    case pos =>
      have TE := hid (F3.out k (by rw [← HMM.out]; exact hlt))
      have hk8 : k < 8 := by have := F5.out; omega
      obtain ⟨t0, ht0⟩ : ∃ t, t = args.getD k 0 := ⟨_, rfl⟩
      rw [← ht0] at TE
      have HT0 := hid ht0
      clear ht0
      obtain ⟨y0, y1, y2⟩ := G11.out.c3
      obtain ⟨m0, m1, m2, m3, m4⟩ := M11.out.c5
      go_wp2_with fail
      refine (ctemp_any12 g (2 * (h.objs.length : Int)) k A1 c1 _ (own_obs P11.out QM.out) (may_fit (may_parts12 F1.out).1)).mono ?_
      rintro e w12 ⟨rfl, hb⟩
      clear y0 y1 y2 m0 m1 m2 m3 m4
      rw [TE.out]
      have HB12 := hid (then_w HB11.out hb)
      have BL12 := hid (then_w BL11.out hb)
      have HX12 := hid (HX11.out.later hb)
      have HK12 := hid (HK11.out.later hb)
      have G12 := hid (G11.out.later hb)
      have M12 := hid (M11.out.later hb)
      have S12 := hid (S11.out.later hb)
      have P12 := hid (P11.out.later hb)
      have IA12 := hid (IA11.out.below hb)
      have I12 := hid (I11.out.below hb)
      clear hb
      clear HB11 BL11 HX11 HK11 G11 M11 S11 P11 IA11 I11
      by_cases hka : k < args.length
      case pos =>
        obtain ⟨bi, oi, hia, hbi, hci⟩ := IA12.out (by omega)
        have hi := hci k t0 (by rw [HT0.out, List.getD_eq_getElem?_getD, List.getElem?_eq_getElem hka]; rfl)
        subst hia
        have hkI : (k : Int) < (args.length : Int) := by omega
        have hkN : ¬ (args.length : Int) ≤ (k : Int) := by omega
        clear hci hbi
        obtain ⟨a0, a1, a2, a3, a4⟩ := HK12.out.c5
        obtain ⟨m0, m1, m2, m3, m4⟩ := M12.out.c5
        go_wp2_with fail
        go_roundw
        case rel => exact ⟨k + 1, by omega, by go_num, BL12.out⟩
        case measure => simp [intOf]; omega
      case neg =>
        have e0 : t0 = 0 := by rw [HT0.out, List.getD_eq_getElem?_getD, List.getElem?_eq_none (by omega)]; rfl
        subst e0
        have hkI : ¬ (k : Int) < (args.length : Int) := by omega
        have hkN : (args.length : Int) ≤ (k : Int) := by omega
        obtain ⟨a0, a1, a2, a3, a4⟩ := HK12.out.c5
        obtain ⟨m0, m1, m2, m3, m4⟩ := M12.out.c5
        go_wp2_with fail
        go_roundw
        case rel => exact ⟨k + 1, by omega, by go_num, BL12.out⟩
        case measure => simp [intOf]; omega
    case neg =>
      obtain ⟨x0, x1, x2⟩ := HX11.out.c3
      obtain ⟨y0, y1, y2⟩ := G11.out.c3
      obtain ⟨m0, m1, m2, m3, m4⟩ := M11.out.c5
      have HOG : Hid (∀ k : Nat, k < h.objs.length → g.objs[k]? = h.objs[k]?) := by
        show ∀ k : Nat, _ → _
        intro k hk
        rw [E1.out]
        exact List.getElem?_append_left hk
      go_upto_region 17 with fail
      have BK11 : Hid (Below v0.heap.size v0 v0) := hid (Below.refl _ _)
      go_loopw [16] (fun i wr => ∃ k : Nat, k ≤ h.objs.length ∧ i = .int .i64 k ∧ Below v0.heap.size v0 wr) (fun i _ => h.objs.length - (intOf i).toNat)
      case atStart => exact ⟨0, Nat.zero_le _, rfl, Below.refl _ _⟩
      case round =>
        obtain ⟨k2, hk2, rfl, hb⟩ := hrel
        rename World => v1
        clear x0 x1 x2 y0 y1 y2 m0 m1 m2 m3 m4
        have HB12 := hid (then_w HB11.out hb)
        have BL12 := hid (then_w BL11.out hb)
        have BK12 := hid (then_w BK11.out hb)
        have HX12 := hid (HX11.out.later hb)
        have HK12 := hid (HK11.out.later hb)
        have G12 := hid (G11.out.later hb)
        have M12 := hid (M11.out.later hb)
        have S12 := hid (S11.out.later hb)
        have P12 := hid (P11.out.later hb)
        have IA12 := hid (IA11.out.below hb)
        have I12 := hid (I11.out.below hb)
        clear hb
        by_cases hl2 : k2 < h.objs.length
        case pos =>
          obtain ⟨ba, oa, rfl, hba, hca⟩ := (HS.out.below HB12.out) (by omega)
          have hoa := List.getElem?_eq_getElem hl2
          obtain ⟨Sa, da2, ⟨m0, m1, m2, m3, m4, m5⟩, hia, -, -⟩ := hca k2 _ hoa
          have hg0 : k2 < g.objs.length := by
            have := HOG.out k2 hl2
            rw [hoa] at this
            exact (List.getElem?_eq_some_iff.1 this).1
          obtain ⟨bb, ob, rfl, hbb, hcb⟩ := (own_obs P12.out QM.out) (by omega)
          obtain ⟨Sb, db, ⟨n0, n1, n2, n3, n4, n5⟩, hib, -, -⟩ := hcb k2 _ (by rw [HOG.out k2 hl2]; exact hoa)
          have hol := (may_fit HM.out).slots (List.getElem_mem hl2)
          obtain ⟨p, hp⟩ : ∃ p, p = h.objs[k2] := ⟨_, rfl⟩
          rw [← hp] at m0 m1 m2 m3 m4 m5 n0 n1 n2 n3 n4 n5 hia hib hol
          have HIA := hid hia
          have HIB := hid hib
          have hkI : (k2 : Int) < (h.objs.length : Int) := by omega
          clear hca hcb hoa hp hia hib
          obtain ⟨x0, x1, x2⟩ := HX12.out.c3
          obtain ⟨y0, y1, y2⟩ := G12.out.c3
          go_upto_region 19 with fail
          refine wp_region_held_drew (S := (fun w' => w'.cell? ⟨bg, 0, none⟩ = some (.slice (some ⟨bb, ob, none⟩) g.objs.length c1) ∧ w'.cell? ⟨bg, 1, none⟩ = some (.int .i64 g.cap) ∧ w'.cell? ⟨bg, 2, none⟩ = some (.int .i64 g.last) ∧ w'.cell? ⟨w.heap.size, 0, none⟩ = some (.slice (some ⟨ba, oa, none⟩) h.objs.length c) ∧ w'.cell? ⟨w.heap.size, 1, none⟩ = some (.int .i64 h.cap) ∧ w'.cell? ⟨w.heap.size, 2, none⟩ = some (.int .i64 h.last) ∧ w'.cell? ⟨ba, oa + k2 * 6, none⟩ = some (.int .i64 p.cls) ∧ w'.cell? ⟨ba, oa + k2 * 6 + 1, none⟩ = some (.int .i64 p.kind) ∧ w'.cell? ⟨ba, oa + k2 * 6 + 2, none⟩ = some (.slice Sa p.slots.length da2) ∧ w'.cell? ⟨ba, oa + k2 * 6 + 3, none⟩ = some (.string p.text) ∧ w'.cell? ⟨ba, oa + k2 * 6 + 4, none⟩ = some (.int .i64 p.bits) ∧ w'.cell? ⟨ba, oa + k2 * 6 + 5, none⟩ = some (.int .i64 p.hash) ∧ w'.cell? ⟨bb, ob + k2 * 6, none⟩ = some (.int .i64 p.cls) ∧ w'.cell? ⟨bb, ob + k2 * 6 + 1, none⟩ = some (.int .i64 p.kind) ∧ w'.cell? ⟨bb, ob + k2 * 6 + 2, none⟩ = some (.slice Sb p.slots.length db) ∧ w'.cell? ⟨bb, ob + k2 * 6 + 3, none⟩ = some (.string p.text) ∧ w'.cell? ⟨bb, ob + k2 * 6 + 4, none⟩ = some (.int .i64 p.bits) ∧ w'.cell? ⟨bb, ob + k2 * 6 + 5, none⟩ = some (.int .i64 p.hash) ∧ Below v1.heap.size v1 w')) (by kernel_rfl) ?_ (fun hHeld => ?_)
          next =>
           exact ⟨y0, y1, y2, x0, x1, x2, m0, m1, m2, m3, m4, m5, n0, n1, n2, n3, n4, n5, (Below.refl _ _).drew⟩
          refine tkI 0 ⟨some 158, .fieldAddr 24 (.tmp 5) 0, 0, "law.go:159", #[], none⟩ ?v28 rfl (by kernel_rfl) (by rfl) ?y28 ?_
          case y28 => intro w hSw; (try dsimp only at hSw); go_simp; all_goals with_reducible rfl
          try simp only [apt12]
          refine tkI 1 ⟨some 159, .load 22 (.tmp 158), 22, "law.go:159", #[⟨0, .data⟩], none⟩ ?v29 rfl (by kernel_rfl) (by rfl) ?y29 ?_
          case y29 => intro w hSw; (try dsimp only at hSw); go_simp; all_goals with_reducible rfl
          try simp only [apt12]
          refine tkI 2 ⟨some 160, .move (.tmp 16), 3, "law.go:159", #[], none⟩ ?v30 rfl (by kernel_rfl) (by rfl) ?y30 ?_
          case y30 => intro w hSw; (try dsimp only at hSw); go_simp; all_goals with_reducible rfl
          try simp only [apt12]
          refine tkI 3 ⟨some 161, .indexAddr 22 (.tmp 159) (.tmp 160), 0, "law.go:159", #[⟨1, .data⟩, ⟨2, .data⟩], none⟩ ?v31 rfl (by kernel_rfl) (by rfl) ?y31 ?_
          case y31 => intro w hSw; (try dsimp only at hSw); go_simp; all_goals with_reducible rfl
          try simp only [apt12]
          refine tkI 4 ⟨some 162, .load 60 (.tmp 161), 60, "law.go:159", #[⟨3, .data⟩], none⟩ ?v32 rfl (by kernel_rfl) (by rfl) ?y32 ?_
          case y32 => intro w hSw; (try dsimp only at hSw); go_simp; all_goals with_reducible rfl
          try simp only [apt12]
          refine tkI 5 ⟨some 163, .fieldAddr 24 (.tmp 2) 0, 0, "law.go:159", #[], none⟩ ?v33 rfl (by kernel_rfl) (by rfl) ?y33 ?_
          case y33 => intro w hSw; (try dsimp only at hSw); go_simp; all_goals with_reducible rfl
          try simp only [apt12]
          refine tkI 6 ⟨some 164, .load 22 (.tmp 163), 22, "law.go:159", #[⟨5, .data⟩], none⟩ ?v34 rfl (by kernel_rfl) (by rfl) ?y34 ?_
          case y34 => intro w hSw; (try dsimp only at hSw); go_simp; all_goals with_reducible rfl
          try simp only [apt12]
          refine tkI 7 ⟨some 165, .move (.tmp 16), 3, "law.go:159", #[], none⟩ ?v35 rfl (by kernel_rfl) (by rfl) ?y35 ?_
          case y35 => intro w hSw; (try dsimp only at hSw); go_simp; all_goals with_reducible rfl
          try simp only [apt12]
          refine tkI 8 ⟨some 166, .indexAddr 22 (.tmp 164) (.tmp 165), 0, "law.go:159", #[⟨6, .data⟩, ⟨7, .data⟩], none⟩ ?v36 rfl (by kernel_rfl) (by rfl) ?y36 ?_
          case y36 => intro w hSw; (try dsimp only at hSw); go_simp; all_goals with_reducible rfl
          try simp only [apt12]
          refine tkI 9 ⟨some 167, .load 60 (.tmp 166), 60, "law.go:159", #[⟨8, .data⟩], none⟩ ?v37 rfl (by kernel_rfl) (by rfl) ?y37 ?_
          case y37 => intro w hSw; (try dsimp only at hSw); go_simp; all_goals with_reducible rfl
          try simp only [apt12]
          refine wpAnyH_ready (rs := [10]) (by kernel_rfl) (by simp) ?_
          refine AllReadyH.cons (i := 10) (o := ⟨some 168, .call { callee := .value (.func 34), args := #[.tmp 162, .tmp 167], argTypes := #[60, 60] }, 4, "law.go:159", #[⟨4, .data⟩, ⟨9, .data⟩], none⟩) rfl (fun K hK => ?_) AllReadyH.nil
          go_simp
          go_at_call 34
          refine (one_same p Sb Sa db da2 _ (HIB.out.below (((Below.refl _ _).drew))) (HIA.out.below (((Below.refl _ _).drew))) hol).mono ?_
          rintro e w' ⟨rfl, hb⟩
          refine hK.out _ _ ?_ (fun hHeld => ?_)
          next =>
           exact ⟨cell_later hb y0, cell_later hb y1, cell_later hb y2, cell_later hb x0, cell_later hb x1, cell_later hb x2, cell_later hb m0, cell_later hb m1, cell_later hb m2, cell_later hb m3, cell_later hb m4, cell_later hb m5, cell_later hb n0, cell_later hb n1, cell_later hb n2, cell_later hb n3, cell_later hb n4, cell_later hb n5, then_w (Below.refl _ _).drew hb⟩
          clear hK K
          try simp only [apt12]
          have hH1 := hHeld
          clear hHeld hb
          have hHeld := hH1
          refine tkI 11 ⟨some 169, .unOp .not 4 (.tmp 168), 4, "law.go:159", #[⟨10, .data⟩], none⟩ ?v38 rfl (by kernel_rfl) (by rfl) ?y38 ?_
          case y38 => intro w hSw; (try dsimp only at hSw); go_simp; all_goals with_reducible rfl
          try simp only [apt12]
          refine wpAnyH_done (by kernel_rfl) ?_ _
          have HBq := hHeld.2.2.2.2.2.2.2.2.2.2.2.2.2.2.2.2.2.2
          go_wp2_with fail
          go_roundw
          case rel => exact ⟨k2 + 1, by omega, by go_num, then_w BK12.out HBq⟩
          case measure => simp [intOf]; omega
        case neg =>
          have hkI : ¬ (k2 : Int) < (h.objs.length : Int) := by omega
          obtain ⟨x0, x1, x2⟩ := HX12.out.c3
          go_wp2_with fail
          go_ret
          exact ⟨rfl, HB12.out⟩
end Go.Proofs.YtalfbdigjaibkaaGreat
