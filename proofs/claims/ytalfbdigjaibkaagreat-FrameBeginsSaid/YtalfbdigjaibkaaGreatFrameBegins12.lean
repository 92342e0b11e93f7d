/- FrameBegins returns true: for every heap and every Begin that the row lets in, on every machine; no further condition. -/
import Derived.Test.YtalfbdigjaibkaaGreatUB12
import Derived.Test.YtalfbdigjaibkaaGreatOPM12
import Derived.Test.YtalfbdigjaibkaaGreatSN12
import Derived.Test.YtalfbdigjaibkaaGreatRows
import Derived.Test.YtalfbdigjaibkaaGreatOP0
import Derived.Test.YtalfbdigjaibkaaGreatOB12
import Derived.Test.YtalfbdigjaibkaaGreatLP
import Derived.ProofKit
import Derived.OpenShut
namespace Go.Proofs.YtalfbdigjaibkaaGreat
open Go.RowKit
set_option maxRecDepth 100000
theorem nn_fit12 {h : Hp} {sd m rc ho : Int} {args : List Int} (f : h.Fit) (ha : args.length ≤ 20) : (nn12 h sd m rc ho args).1.Fit := by
  unfold nn12
  split
  next =>
   exact f
  split
  next =>
   exact f
  split
  next =>
   exact f
  rename_i _ _ h3
  refine ⟨?_, fun o hm => ?_⟩
  next =>
   have := may_cap12 (nh_may12 (h := h) (by omega))
   rw [nh_len12] at this ⊢
   omega
  rcases List.mem_append.1 hm with g | g
  next =>
   exact f.2 o g
  next =>
   rw [List.mem_singleton.1 g]
   show (nl12 _ _ _ _ _ _).length ≤ _
   unfold nl12
   simp
   omega
set_option maxHeartbeats 4000000 in
theorem framebegins_any12 (h : Hp) (sd mt rc ho : Int) (args : List Int) (SA : Option Addr) (da : Nat) (A : Option Addr) (c : Nat) (w : World) (hs : ObsR w A h.objs) (fit : h.Fit) (mem : h.Mem) (hsa : IntsR w SA args) (hsn : SA = none → da = 0) :
    Calls Tryz.prog 5 #[.agg #[.slice A h.objs.length c, .int .i64 h.cap, .int .i64 h.last], .agg #[.int .i64 sd, .int .i64 mt, .int .i64 rc, .int .i64 ho, .slice SA args.length da]] w fun e w' => e = .returned (.bool true) ∧ Below w.heap.size w w' := by
  obtain ⟨w0, hw0⟩ : ∃ w0, w0 = (w.alloc (.cells #[Value.slice A h.objs.length c, Value.int .i64 h.cap, Value.int .i64 h.last] 24)).alloc (.cells #[.int .i64 sd, .int .i64 mt, .int .i64 rc, .int .i64 ho, .slice SA args.length da] 52) := ⟨_, rfl⟩
  have HB0 : Hid (Below w.heap.size w w0) := by show Below _ _ _; rw [hw0]; exact below_alloc2 w _ _
  have HX0 : Hid (Lies w0 w.heap.size 24 #[Value.slice A h.objs.length c, Value.int .i64 h.cap, Value.int .i64 h.last]) := by show Lies _ _ _ _; rw [hw0]; exact ((Lies.new w _ _).alloc _)
  have HK0 : Hid (Lies w0 (w.heap.size + 1) 52 #[.int .i64 sd, .int .i64 mt, .int .i64 rc, .int .i64 ho, .slice SA args.length da]) := by
    show Lies _ _ _ _
    have := (Lies.new (w.alloc (.cells #[Value.slice A h.objs.length c, Value.int .i64 h.cap, Value.int .i64 h.last] 24)) 52 #[.int .i64 sd, .int .i64 mt, .int .i64 rc, .int .i64 ho, .slice SA args.length da])
    rw [hw0]
    simpa [Hid] using this
  have HS := hid hs
  have HF := hid fit
  have HMEM := hid mem
  have HSN := hid hsn
  have IA0 := hid (hsa.below HB0.out)
  clear hs fit hsn hsa mem
  go_enter Tryz.func5, Tryz.ntmps5
  go_upto_region 1 with fail
  rw [← hw0]
  clear hw0
  obtain ⟨x0, x1, x2⟩ := HX0.out.c3
  go_wp2_with fail
  refine (small_mod12 h A c _ (HS.out.below HB0.out) HF.out HMEM.out).mono ?_
  rintro e w1 ⟨sb, rfl, hsb, hb⟩
  clear x0 x1 x2
  have HB1 := hid (then_w HB0.out hb)
  have HX1 := hid (HX0.out.later hb)
  have HK1 := hid (HK0.out.later hb)
  have IA1 := hid (IA0.out.below hb)
  clear hb
  clear HB0 HX0 HK0 IA0
  have HSB := hid hsb
  clear hsb
  cases sb
  next =>
   obtain ⟨x0, x1, x2⟩ := HX1.out.c3
   go_wp2_with fail
   refine (fixed12_any _).mono ?_
   rintro e w2 ⟨rfl, hb⟩
   clear x0 x1 x2
   have HB2 := hid (then_w HB1.out hb)
   have HX2 := hid (HX1.out.later hb)
   have HK2 := hid (HK1.out.later hb)
   have IA2 := hid (IA1.out.below hb)
   clear hb
   clear HB1 HX1 HK1 IA1
   go_wp2_with fail
   go_ret
   exact ⟨rfl, HB2.out⟩
  by_cases h60 : h.objs.length ≤ 60
  case neg =>
    have hI60 : (60 : Int) < (h.objs.length : Int) := by omega
    obtain ⟨x0, x1, x2⟩ := HX1.out.c3
    go_wp2_with fail
    refine (fixed12_any _).mono ?_
    rintro e w2 ⟨rfl, hb⟩
    clear x0 x1 x2
    have HB2 := hid (then_w HB1.out hb)
    have HX2 := hid (HX1.out.later hb)
    have HK2 := hid (HK1.out.later hb)
    have IA2 := hid (IA1.out.below hb)
    clear hb
    clear HB1 HX1 HK1 IA1
    go_wp2_with fail
    go_ret
    exact ⟨rfl, HB2.out⟩
  have hI60 : ¬ (60 : Int) < (h.objs.length : Int) := by omega
  by_cases h20 : args.length ≤ 20
  case neg =>
    have hI20 : (20 : Int) < (args.length : Int) := by omega
    obtain ⟨x0, x1, x2⟩ := HX1.out.c3
    obtain ⟨a0, a1, a2, a3, a4⟩ := HK1.out.c5
    go_wp2_with fail
    refine (fixed12_any _).mono ?_
    rintro e w2 ⟨rfl, hb⟩
    clear x0 x1 x2 a0 a1 a2 a3 a4
    have HB2 := hid (then_w HB1.out hb)
    have HX2 := hid (HX1.out.later hb)
    have HK2 := hid (HK1.out.later hb)
    have IA2 := hid (IA1.out.below hb)
    clear hb
    clear HB1 HX1 HK1 IA1
    go_wp2_with fail
    go_ret
    exact ⟨rfl, HB2.out⟩
  have hI20 : ¬ (20 : Int) < (args.length : Int) := by omega
  have HA20 : Hid (args.length ≤ 20) := h20
  have HMOD : Hid (Mod12 h) := ⟨by omega, fun o ho => Nat.le_trans (HSB.out rfl o ho) (by decide)⟩
  clear hI60 hI20
  obtain ⟨g, hg⟩ : ∃ g, g = (nn12 h sd mt rc ho args).1 := ⟨_, rfl⟩
  have HG := hid hg
  clear hg
  obtain ⟨v, hv⟩ : ∃ g, g = (nn12 h sd mt rc ho args).2.1 := ⟨_, rfl⟩
  have HV := hid hv
  clear hv
  obtain ⟨er, he⟩ : ∃ g, g = (nn12 h sd mt rc ho args).2.2 := ⟨_, rfl⟩
  have HE := hid he
  clear he
  obtain ⟨x0, x1, x2⟩ := HX1.out.c3
  obtain ⟨a0, a1, a2, a3, a4⟩ := HK1.out.c5
  go_wp2_with fail
  refine (cnew_any12 h sd mt rc ho args SA da A c _ (HS.out.below HB1.out) HF.out HMOD.out IA1.out (Nat.le_trans HA20.out (by decide))).mono ?_
  rintro e w2 ⟨A1, c1, l1, rfl, hm1, ho1, hb⟩
  clear x0 x1 x2 a0 a1 a2 a3 a4
  rw [← HG.out] at hm1
  rw [← HG.out, ← HV.out, ← HE.out]
  have QM := hid hm1
  clear hm1
  have HB2 := hid (then_w HB1.out hb)
  have HX2 := hid (HX1.out.later hb)
  have HK2 := hid (HK1.out.later hb)
  have IA2 := hid (IA1.out.below hb)
  clear hb
  clear HB1 HX1 HK1 IA1
  have P2 := hid ho1
  clear ho1
  go_upto_region 4 with fail
  obtain ⟨w3, hw⟩ : ∃ x, x = w2.alloc (.cells #[.slice A1 g.objs.length c1, .int .i64 g.cap, .int .i64 g.last] 24) := ⟨_, rfl⟩
  obtain ⟨bg, hbx⟩ : ∃ x, x = w2.heap.size := ⟨_, rfl⟩
  have G3 : Hid (Lies w3 bg 24 #[.slice A1 g.objs.length c1, .int .i64 g.cap, .int .i64 g.last]) := by show Lies _ _ _ _; rw [hw, hbx]; exact Lies.new _ _ _
  have hb : Below w2.heap.size w2 w3 := by rw [hw]; exact below_alloc _ _
  rw [← hw, ← hbx]
  have ne_HX_G : Hid (w.heap.size ≠ bg) := by show _ ≠ _; rw [hbx]; exact Nat.ne_of_lt HX2.out.lt
  have ne_HK_G : Hid ((w.heap.size + 1) ≠ bg) := by show _ ≠ _; rw [hbx]; exact Nat.ne_of_lt HK2.out.lt
  have at_G : Hid (bg = w2.heap.size) := hbx
  have le_HB_G : Hid (w.heap.size ≤ bg) := by show _ ≤ _; rw [hbx]; exact HB2.out.size
  clear hbx hw
  have HB3 := hid (then_w HB2.out hb)
  have HX3 := hid (HX2.out.later hb)
  have HK3 := hid (HK2.out.later hb)
  have P3 := hid (P2.out.later hb)
  have IA3 := hid (IA2.out.below hb)
  clear hb
  clear HB2 HX2 HK2 P2 IA2
  obtain ⟨x0, x1, x2⟩ := HX3.out.c3
  obtain ⟨a0, a1, a2, a3, a4⟩ := HK3.out.c5
  go_wp2_with fail
  refine (rnew_any12 h sd mt rc ho args SA da A c _ (HS.out.below HB3.out) HF.out IA3.out (Nat.le_trans HA20.out (by decide)) HSN.out).mono ?_
  rintro e w4 ⟨B1, d1, rfl, ob1, hb⟩
  clear x0 x1 x2 a0 a1 a2 a3 a4
  rw [← HG.out] at ob1
  rw [← HG.out, ← HV.out, ← HE.out]
  have HB4 := hid (then_w HB3.out hb)
  have HX4 := hid (HX3.out.later hb)
  have HK4 := hid (HK3.out.later hb)
  have G4 := hid (G3.out.later hb)
  have P4 := hid (P3.out.later hb)
  have IA4 := hid (IA3.out.below hb)
  clear hb
  clear HB3 HX3 HK3 G3 P3 IA3
  have R4 := hid ob1
  clear ob1
  go_upto_region 5 with fail
  obtain ⟨w5, hw⟩ : ∃ x, x = w4.alloc (.cells #[.slice B1 g.objs.length d1, .int .i64 g.cap, .int .i64 g.last] 24) := ⟨_, rfl⟩
  obtain ⟨bh, hbx⟩ : ∃ x, x = w4.heap.size := ⟨_, rfl⟩
  have H5 : Hid (Lies w5 bh 24 #[.slice B1 g.objs.length d1, .int .i64 g.cap, .int .i64 g.last]) := by show Lies _ _ _ _; rw [hw, hbx]; exact Lies.new _ _ _
  have hb : Below w4.heap.size w4 w5 := by rw [hw]; exact below_alloc _ _
  rw [← hw, ← hbx]
  have ne_HX_H : Hid (w.heap.size ≠ bh) := by show _ ≠ _; rw [hbx]; exact Nat.ne_of_lt HX4.out.lt
  have ne_HK_H : Hid ((w.heap.size + 1) ≠ bh) := by show _ ≠ _; rw [hbx]; exact Nat.ne_of_lt HK4.out.lt
  have ne_G_H : Hid (bg ≠ bh) := by show _ ≠ _; rw [hbx]; exact Nat.ne_of_lt G4.out.lt
  have at_H : Hid (bh = w4.heap.size) := hbx
  have le_HB_H : Hid (w.heap.size ≤ bh) := by show _ ≤ _; rw [hbx]; exact HB4.out.size
  clear hbx hw
  have HB5 := hid (then_w HB4.out hb)
  have HX5 := hid (HX4.out.later hb)
  have HK5 := hid (HK4.out.later hb)
  have G5 := hid (G4.out.later hb)
  have P5 := hid (P4.out.later hb)
  have IA5 := hid (IA4.out.below hb)
  have R5 := hid (R4.out.below hb)
  clear hb
  clear HB4 HX4 HK4 G4 P4 IA4 R4
  go_wp2_with fail
  refine (fixed12_any _).mono ?_
  rintro e w6 ⟨rfl, hb⟩
  have HB6 := hid (then_w HB5.out hb)
  have HX6 := hid (HX5.out.later hb)
  have HK6 := hid (HK5.out.later hb)
  have G6 := hid (G5.out.later hb)
  have H6 := hid (H5.out.later hb)
  have P6 := hid (P5.out.later hb)
  have IA6 := hid (IA5.out.below hb)
  have R6 := hid (R5.out.below hb)
  clear hb
  clear HB5 HX5 HK5 G5 H5 P5 IA5 R5
  obtain ⟨g_0, g_1, g_2⟩ := G6.out.c3
  obtain ⟨h_0, h_1, h_2⟩ := H6.out.c3
  go_wp2_with fail
  refine (same_any g A1 B1 c1 d1 _ (own_obs P6.out QM.out) R6.out (by rw [HG.out]; exact nn_fit12 HF.out HA20.out)).mono ?_
  rintro e w7 ⟨rfl, hb⟩
  clear g_0 g_1 g_2 h_0 h_1 h_2
  have HB7 := hid (then_w HB6.out hb)
  have HX7 := hid (HX6.out.later hb)
  have HK7 := hid (HK6.out.later hb)
  have G7 := hid (G6.out.later hb)
  have H7 := hid (H6.out.later hb)
  have P7 := hid (P6.out.later hb)
  have IA7 := hid (IA6.out.below hb)
  have R7 := hid (R6.out.below hb)
  clear hb
  clear HB6 HX6 HK6 G6 H6 P6 IA6 R6
  go_wp2_with fail
  go_ret
  exact ⟨rfl, HB7.out⟩
end Go.Proofs.YtalfbdigjaibkaaGreat
namespace Go.Proofs.YtalfbdigjaibkaaGreat
open Go.ChangeShapes Go.WideShapes Go.ChangeAt Go.RowKit
set_option maxRecDepth 100000
namespace fnFrameBegins
theorem own : ownKnob Tryz.prog.godebug = none := by kernel_rfl
theorem laidOut : laidOutB Tryz.prog = true := by kernel_rfl
theorem lifted (os : Os) (started : os.Started) (H : Type) (enc : TypeId × Value → H) :
    ReturnsInHanded {} Tryz.checked os 5 .any (Rows.frameBeginsSpec.pre6 enc Tryz.prog Tryz.f5 Rows.frameBeginsRow.domain false) (Rows.frameBeginsSpec.post enc Tryz.prog Tryz.f5 false true false false) := by
  refine returnsInHanded_of_change_sized (C := Tryz.checked) own started (by kernel_rfl) Tryz.func5
    (ChangeSpec.witness6 (enc := enc) (C := Tryz.checked) false ⟨#[], #[.agg #[.slice none 0 0, .int .i64 0, .int .i64 0], .agg #[.int .i64 0, .int .i64 0, .int .i64 0, .int .i64 0, .slice none 0 0]], []⟩ 8 (by kernel_rfl) (by kernel_rfl) (by kernel_rfl) (by kernel_rfl)) ?_
  intro W base args ds gs before hval0 hW hcnd hsz _
  have hval : ∀ (j : Nat) t v, Tryz.f5.params[j]? = some t → args[j]? = some v → Value.okWide Tryz.prog W .any base t v := hval0
  have hW' := hW
  obtain ⟨p, q, hA0, hV, rfl, hfz, hnd⟩ := hW
  have hA : DataW.TrodAll enc Tryz.prog W 0 (fun _ => true) true Tryz.f5.params.toList args.toList ds p := hA0
  rw [Tryz.params5] at hA hval
  obtain ⟨v0, v1, d0, d1, p0, p1, rfl, rfl, rfl, h0, h1⟩ := trodAll_two hA
  obtain ⟨rfl, rfl⟩ := trodVars_none hV
  obtain ⟨hp0, A0, c0, rfl, ob0, ft0, mm0⟩ := open_heap_m (hval 0 24 v0 rfl rfl) h0
  obtain ⟨sd, mt, rc, ho, xs, SA, da, rfl, ia, sn⟩ := open_begin12 (hval 1 52 v1 rfl rfl) h1
  have mem0 : hp0.Mem := mm0 fun n hn => of_decide_eq_true (List.all_eq_true.1 hsz n (DataW.weights_mem_each (j := 0) (t := 24) (by kernel_rfl) rfl n hn))
  clear hA0 hval0 mm0 hsz
  simp only [List.append_nil] at hW'
  refine (framebegins_any12 hp0 sd mt rc ho xs SA da A0 c0 W ob0 ft0 mem0 ia sn).mono fun e W' ⟨he, hb⟩ => ?_
  subst he
  exact ⟨_, rfl, law_post laidOut (by kernel_rfl) rfl (by kernel_rfl) Tryz.underlying4 hW' rfl hb⟩
end fnFrameBegins
theorem frameBegins_holds : Rows.FrameBeginsSaid :=
  OpenClaim.holds_of_wide 5 Tryz.f5 rfl rfl rfl rfl rfl rfl rfl ⟨rfl, rfl, rfl, rfl, rfl⟩ rfl rfl rfl rfl rfl (by kernel_rfl) Tryz.func5 (by kernel_rfl)
    (of_decide_eq_true (by kernel_rfl)) (by unfold Func.isWrapper; first | (rw [if_pos (by decide +kernel)]; kernel_rfl) | (rw [if_neg (by decide +kernel)]; exact ⟨rfl, rfl⟩))
    (fun os started H enc _ => fnFrameBegins.lifted os started H enc)
end Go.Proofs.YtalfbdigjaibkaaGreat
