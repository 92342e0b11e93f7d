/- PrimTells walked: whatever heap and call, it answers true. A heap as an argument, opened: each object's bits are a machine's. -/
import Derived.Test.YtnilempeldlieaaGreatJYP13
import Derived.Test.YtnilempeldlieaaGreatJPX13
import Derived.Test.YtnilempeldlieaaGreatJ05
import Derived.Test.YtnilempeldlieaaGreatJ06
import Derived.Test.YtnilempeldlieaaGreatJFLU
namespace Go.Proofs.YtnilempeldlieaaGreat
open Go.RowKit Flt
set_option maxRecDepth 100000
theorem do_fit13 {h : Hp} (fit : h.Fit) (wd : ∀ o ∈ h.objs, Flt.In64 o.bits) (num s : Int) (args : List Int) : (do13 h num s args).1.Fit := by
  have zf : ((⟨[], 0, 0⟩ : Hp)).Fit := ⟨by decide, fun o ho => by cases ho⟩
  by_cases g : mayB h = true ∧ 12 ≤ h.objs.length
  next =>
   rcases keeps13 (num := num) (s := s) (args := args) g.1 g.2 wd with e | G
   next =>
    rw [e]; exact zf
   next =>
    by_cases e : (do13 h num s args).2.2 = 0
    next =>
     exact may_fit (G.may e)
    next =>
     rcases G.bad e with k | ⟨k, -⟩ <;> rw [k] <;> exact fit
  next =>
   have : do13 h num s args = (⟨[], 0, 0⟩, 0, 1) := by
     unfold do13
     rw [if_pos ?_]
     cases hm : mayB h
     next =>
      exact .inl rfl
     next =>
      exact .inr (.inl (Nat.lt_of_not_le fun k => g ⟨hm, k⟩))
   rw [this]; exact zf
set_option maxHeartbeats 4000000 in
theorem primtells_any13 (h : Hp) (num s : Int) (args : List Int) (SA : Option Addr) (da : Nat) (A : Option Addr) (c : Nat) (w : World) (hs : ObsR w A h.objs) (fit : h.Fit) (wd : ∀ o ∈ h.objs, Flt.In64 o.bits) (hsa : IntsR w SA args) (hal : args.length ≤ 9223372036854775807) :
    Calls Tryz.prog 5 #[.agg #[.slice A h.objs.length c, .int .i64 h.cap, .int .i64 h.last], .agg #[.int .i64 num, .int .i64 s, .slice SA args.length da]] w fun e w' => e = .returned (.bool true) ∧ Below w.heap.size w w' := by
  obtain ⟨w0, hw0⟩ : ∃ w0, w0 = (w.alloc (.cells #[.slice A h.objs.length c, .int .i64 h.cap, .int .i64 h.last] 24)).alloc (.cells #[.int .i64 num, .int .i64 s, .slice SA args.length da] 43) := ⟨_, rfl⟩
  have HB0 : Hid (Below w.heap.size w w0) := by show Below _ _ _; rw [hw0]; exact below_alloc2 w _ _
  have X0 : Hid (Lies w0 (w.heap.size) 24 #[.slice A h.objs.length c, .int .i64 h.cap, .int .i64 h.last]) := by show Lies _ _ _ _; rw [hw0]; exact ((Lies.new w _ _).alloc _)
  have K0 : Hid (Lies w0 (w.heap.size + 1) 43 #[.int .i64 num, .int .i64 s, .slice SA args.length da]) := by
    show Lies _ _ _ _
    have := Lies.new (w.alloc (.cells #[.slice A h.objs.length c, .int .i64 h.cap, .int .i64 h.last] 24)) 43 #[.int .i64 num, .int .i64 s, .slice SA args.length da]
    rw [hw0]
    simpa [Hid] using this
  have OX0 := hid (hs.below HB0.out)
  have OS0 := hid (hsa.below HB0.out)
  have HF := hid fit
  have HWD := hid wd
  obtain ⟨D, hD⟩ : ∃ D, D = do13 h num s args := ⟨_, rfl⟩
  have HFD : Hid D.1.Fit := by show D.1.Fit; rw [hD]; exact do_fit13 fit wd num s args
  have HD := hid hD
  clear hs fit wd hsa hD
  go_enter Tryz.func5, Tryz.ntmps5
  go_upto_region 1 with fail
  rw [← hw0]
  clear hw0
  obtain ⟨x0, x1, x2⟩ := X0.out.c3
  obtain ⟨k0, k1, k2⟩ := K0.out.c3
  go_wp2_with fail
  refine (small_ok h A c _ OX0.out HF.out).mono ?_
  rintro e w1 ⟨sm, rfl, hb⟩
  clear x0 x1 x2 k0 k1 k2
  have HB1 := hid (then_w HB0.out hb)
  have X1 := hid (X0.out.later hb)
  have K1 := hid (K0.out.later hb)
  have OX1 := hid (OX0.out.below hb)
  have OS1 := hid (OS0.out.below hb)
  clear hb
  clear HB0 X0 K0 OX0 OS0
  cases sm
  next =>
   obtain ⟨x0, x1, x2⟩ := X1.out.c3
   obtain ⟨k0, k1, k2⟩ := K1.out.c3
   go_wp2_with fail
   refine (fixed13_any _).mono ?_
   rintro e w2 ⟨rfl, hb⟩
   clear x0 x1 x2 k0 k1 k2
   have HB2 := hid (then_w HB1.out hb)
   have X2 := hid (X1.out.later hb)
   have K2 := hid (K1.out.later hb)
   have OX2 := hid (OX1.out.below hb)
   have OS2 := hid (OS1.out.below hb)
   clear hb
   clear HB1 X1 K1 OX1 OS1
   go_wp2_with fail
   go_ret
   exact ⟨rfl, HB2.out⟩
  next =>
   by_cases q1 : 60 < h.objs.length
   next =>
    have q1' : (60 : Int) < (h.objs.length : Int) := by omega
    obtain ⟨x0, x1, x2⟩ := X1.out.c3
    obtain ⟨k0, k1, k2⟩ := K1.out.c3
    go_wp2_with fail
    refine (fixed13_any _).mono ?_
    rintro e w2 ⟨rfl, hb⟩
    clear x0 x1 x2 k0 k1 k2
    have HB2 := hid (then_w HB1.out hb)
    have X2 := hid (X1.out.later hb)
    have K2 := hid (K1.out.later hb)
    have OX2 := hid (OX1.out.below hb)
    have OS2 := hid (OS1.out.below hb)
    clear hb
    clear HB1 X1 K1 OX1 OS1
    go_wp2_with fail
    go_ret
    exact ⟨rfl, HB2.out⟩
   next =>
    have q1' : ¬ (60 : Int) < (h.objs.length : Int) := by omega
    by_cases q2 : 10 < args.length
    next =>
     have q2' : (10 : Int) < (args.length : Int) := by omega
     obtain ⟨x0, x1, x2⟩ := X1.out.c3
     obtain ⟨k0, k1, k2⟩ := K1.out.c3
     go_wp2_with fail
     refine (fixed13_any _).mono ?_
     rintro e w2 ⟨rfl, hb⟩
     clear x0 x1 x2 k0 k1 k2
     have HB2 := hid (then_w HB1.out hb)
     have X2 := hid (X1.out.later hb)
     have K2 := hid (K1.out.later hb)
     have OX2 := hid (OX1.out.below hb)
     have OS2 := hid (OS1.out.below hb)
     clear hb
     clear HB1 X1 K1 OX1 OS1
     go_wp2_with fail
     go_ret
     exact ⟨rfl, HB2.out⟩
    next =>
     have q2' : ¬ (10 : Int) < (args.length : Int) := by omega
     have HPD : Hid (∀ W, ObsR W A h.objs → IntsR W SA args → Calls Tryz.prog 20 #[.agg #[.slice A h.objs.length c, .int .i64 h.cap, .int .i64 h.last], .int .i64 num, .int .i64 s, .slice SA args.length da] W fun e w' => ∃ A2 c2, e = .returned (.tuple #[.agg #[.slice A2 D.1.objs.length c2, .int .i64 D.1.cap, .int .i64 D.1.last], .int .i64 D.2.1, .int .i64 D.2.2]) ∧ ObsR w' A2 D.1.objs ∧ Below W.heap.size W w') := by
       show ∀ W, _
       intro W h1 h2
       rw [HD.out]
       exact (cdo_any13 h num s args SA da A c W h1 HF.out h2 hal HWD.out).mono fun e w' ⟨A2, c2, k1, ⟨l, k2, k3⟩, k4⟩ => ⟨A2, c2, k1, own_obs k2 k3, k4⟩
     have HRD : Hid (∀ W, ObsR W A h.objs → IntsR W SA args → Calls Tryz.prog 21 #[.agg #[.slice A h.objs.length c, .int .i64 h.cap, .int .i64 h.last], .int .i64 num, .int .i64 s, .slice SA args.length da] W fun e w' => ∃ A2 c2, e = .returned (.tuple #[.agg #[.slice A2 D.1.objs.length c2, .int .i64 D.1.cap, .int .i64 D.1.last], .int .i64 D.2.1, .int .i64 D.2.2]) ∧ ObsR w' A2 D.1.objs ∧ Below W.heap.size W w') := by
       show ∀ W, _
       intro W h1 h2
       rw [HD.out]
       exact (rdo_any13 h num s args SA da A c W h1 HF.out HWD.out h2 (by omega)).mono fun e w' ⟨A2, c2, k1, k2, k4⟩ => ⟨A2, c2, k1, by
         rcases k2 with ⟨g1, rfl, rfl⟩ | ⟨ls, g1, g2⟩
         next =>
          rw [g1]; exact h1.below k4
         next =>
          exact own_obs g2 g1, k4⟩
     obtain ⟨na, hna⟩ : ∃ n, n = (((ar13 num).getD 0 : Nat) : Int) := ⟨_, rfl⟩
     obtain ⟨is, his⟩ : ∃ b, b = (ar13 num).isSome := ⟨_, rfl⟩
     have HCA : Hid (∀ W, Calls Tryz.prog 22 #[.int .i64 num] W fun e w' => e = .returned (.tuple #[.int .i64 na, .bool is]) ∧ Below W.heap.size W w') := by
       show ∀ W, _
       intro W
       rw [hna, his]; exact cargs_any13 num W
     have HRA : Hid (∀ W, Calls Tryz.prog 23 #[.int .i64 num] W fun e w' => e = .returned (.tuple #[.int .i64 na, .bool is]) ∧ Below W.heap.size W w') := by
       show ∀ W, _
       intro W
       rw [hna, his]; exact rargs_any13 num W
     obtain ⟨v, hv⟩ : ∃ v, v = D.2.1 := ⟨_, rfl⟩
     obtain ⟨en, hen⟩ : ∃ v, v = D.2.2 := ⟨_, rfl⟩
     obtain ⟨g, hg⟩ : ∃ v, v = D.1 := ⟨_, rfl⟩
     rw [← hv, ← hen, ← hg] at HPD HRD
     rw [← hg] at HFD
     clear hna his hv hen hg HD
     obtain ⟨x0, x1, x2⟩ := X1.out.c3
     obtain ⟨k0, k1, k2⟩ := K1.out.c3
     go_wp2_with fail
     refine (HPD.out _ OX1.out OS1.out).mono ?_
     rintro e w2 ⟨A2, c2, rfl, ob2, hb⟩
     clear x0 x1 x2 k0 k1 k2
     have HB2 := hid (then_w HB1.out hb)
     have X2 := hid (X1.out.later hb)
     have K2 := hid (K1.out.later hb)
     have OX2 := hid (OX1.out.below hb)
     have OS2 := hid (OS1.out.below hb)
     clear hb
     clear HB1 X1 K1 OX1 OS1
     have OA2 := hid ob2
     clear ob2
     go_upto_region 4 with fail
     obtain ⟨w3, hw⟩ : ∃ x, x = w2.alloc (.cells #[.slice A2 g.objs.length c2, .int .i64 g.cap, .int .i64 g.last] 24) := ⟨_, rfl⟩
     obtain ⟨bp, hbx⟩ : ∃ x, x = w2.heap.size := ⟨_, rfl⟩
     have P3 : Hid (Lies w3 bp 24 #[.slice A2 g.objs.length c2, .int .i64 g.cap, .int .i64 g.last]) := by show Lies _ _ _ _; rw [hw, hbx]; exact Lies.new _ _ _
     have hb : Below w2.heap.size w2 w3 := by rw [hw]; exact below_alloc _ _
     rw [← hw, ← hbx]
     have ne_X_P : Hid ((w.heap.size) ≠ bp) := by show _ ≠ _; rw [hbx]; exact Nat.ne_of_lt X2.out.lt
     have ne_K_P : Hid ((w.heap.size + 1) ≠ bp) := by show _ ≠ _; rw [hbx]; exact Nat.ne_of_lt K2.out.lt
     have at_P : Hid (bp = w2.heap.size) := hbx
     have le_HB_P : Hid (w.heap.size ≤ bp) := by show _ ≤ _; rw [hbx]; exact HB2.out.size
     clear hbx hw
     have HALP := hid hb
     have HB3 := hid (then_w HB2.out hb)
     have X3 := hid (X2.out.later hb)
     have K3 := hid (K2.out.later hb)
     have OX3 := hid (OX2.out.below hb)
     have OS3 := hid (OS2.out.below hb)
     have OA3 := hid (OA2.out.below hb)
     clear hb
     clear HB2 X2 K2 OX2 OS2 OA2
     obtain ⟨x0, x1, x2⟩ := X3.out.c3
     obtain ⟨k0, k1, k2⟩ := K3.out.c3
     go_wp2_with fail
     refine (HRD.out _ OX3.out OS3.out).mono ?_
     rintro e w4 ⟨A3, c3, rfl, ob3, hb⟩
     clear x0 x1 x2 k0 k1 k2
     have HB4 := hid (then_w HB3.out hb)
     have X4 := hid (X3.out.later hb)
     have K4 := hid (K3.out.later hb)
     have P4 := hid (P3.out.later hb)
     have OX4 := hid (OX3.out.below hb)
     have OS4 := hid (OS3.out.below hb)
     have OA4 := hid (OA3.out.below hb)
     clear hb
     clear HB3 X3 K3 P3 OX3 OS3 OA3
     have OB4 := hid ob3
     clear ob3
     go_upto_region 5 with fail
     obtain ⟨w5, hw⟩ : ∃ x, x = w4.alloc (.cells #[.slice A3 g.objs.length c3, .int .i64 g.cap, .int .i64 g.last] 24) := ⟨_, rfl⟩
     obtain ⟨br, hbx⟩ : ∃ x, x = w4.heap.size := ⟨_, rfl⟩
     have R5 : Hid (Lies w5 br 24 #[.slice A3 g.objs.length c3, .int .i64 g.cap, .int .i64 g.last]) := by show Lies _ _ _ _; rw [hw, hbx]; exact Lies.new _ _ _
     have hb : Below w4.heap.size w4 w5 := by rw [hw]; exact below_alloc _ _
     rw [← hw, ← hbx]
     have ne_X_R : Hid ((w.heap.size) ≠ br) := by show _ ≠ _; rw [hbx]; exact Nat.ne_of_lt X4.out.lt
     have ne_K_R : Hid ((w.heap.size + 1) ≠ br) := by show _ ≠ _; rw [hbx]; exact Nat.ne_of_lt K4.out.lt
     have ne_P_R : Hid (bp ≠ br) := by show _ ≠ _; rw [hbx]; exact Nat.ne_of_lt P4.out.lt
     have at_R : Hid (br = w4.heap.size) := hbx
     have le_HB_R : Hid (w.heap.size ≤ br) := by show _ ≤ _; rw [hbx]; exact HB4.out.size
     clear hbx hw
     have HALR := hid hb
     have HB5 := hid (then_w HB4.out hb)
     have X5 := hid (X4.out.later hb)
     have K5 := hid (K4.out.later hb)
     have P5 := hid (P4.out.later hb)
     have OX5 := hid (OX4.out.below hb)
     have OS5 := hid (OS4.out.below hb)
     have OA5 := hid (OA4.out.below hb)
     have OB5 := hid (OB4.out.below hb)
     clear hb
     clear HB4 X4 K4 P4 OX4 OS4 OA4 OB4
     obtain ⟨k0, k1, k2⟩ := K5.out.c3
     go_wp2_with fail
     refine (HCA.out _).mono ?_
     rintro e w6 ⟨rfl, hb⟩
     clear k0 k1 k2
     have HB6 := hid (then_w HB5.out hb)
     have X6 := hid (X5.out.later hb)
     have K6 := hid (K5.out.later hb)
     have P6 := hid (P5.out.later hb)
     have R6 := hid (R5.out.later hb)
     have OX6 := hid (OX5.out.below hb)
     have OS6 := hid (OS5.out.below hb)
     have OA6 := hid (OA5.out.below hb)
     have OB6 := hid (OB5.out.below hb)
     clear hb
     clear HB5 X5 K5 P5 R5 OX5 OS5 OA5 OB5
     obtain ⟨k0, k1, k2⟩ := K6.out.c3
     go_wp2_with fail
     refine (HRA.out _).mono ?_
     rintro e w7 ⟨rfl, hb⟩
     clear k0 k1 k2
     have HB7 := hid (then_w HB6.out hb)
     have X7 := hid (X6.out.later hb)
     have K7 := hid (K6.out.later hb)
     have P7 := hid (P6.out.later hb)
     have R7 := hid (R6.out.later hb)
     have OX7 := hid (OX6.out.below hb)
     have OS7 := hid (OS6.out.below hb)
     have OA7 := hid (OA6.out.below hb)
     have OB7 := hid (OB6.out.below hb)
     clear hb
     clear HB6 X6 K6 P6 R6 OX6 OS6 OA6 OB6
     go_wp2_with fail
     refine (fixed13_any _).mono ?_
     rintro e w8 ⟨rfl, hb⟩
     have HB8 := hid (then_w HB7.out hb)
     have X8 := hid (X7.out.later hb)
     have K8 := hid (K7.out.later hb)
     have P8 := hid (P7.out.later hb)
     have R8 := hid (R7.out.later hb)
     have OX8 := hid (OX7.out.below hb)
     have OS8 := hid (OS7.out.below hb)
     have OA8 := hid (OA7.out.below hb)
     have OB8 := hid (OB7.out.below hb)
     clear hb
     clear HB7 X7 K7 P7 R7 OX7 OS7 OA7 OB7
     obtain ⟨p_0, p_1, p_2⟩ := P8.out.c3
     obtain ⟨r_0, r_1, r_2⟩ := R8.out.c3
     go_wp2_with fail
     refine (same_any g A2 A3 c2 c3 _ OA8.out OB8.out HFD.out).mono ?_
     rintro e w9 ⟨rfl, hb⟩
     clear p_0 p_1 p_2 r_0 r_1 r_2
     have HB9 := hid (then_w HB8.out hb)
     have X9 := hid (X8.out.later hb)
     have K9 := hid (K8.out.later hb)
     have P9 := hid (P8.out.later hb)
     have R9 := hid (R8.out.later hb)
     have OX9 := hid (OX8.out.below hb)
     have OS9 := hid (OS8.out.below hb)
     have OA9 := hid (OA8.out.below hb)
     have OB9 := hid (OB8.out.below hb)
     clear hb
     clear HB8 X8 K8 P8 R8 OX8 OS8 OA8 OB8
     go_wp2_with fail
     go_ret
     exact ⟨rfl, HB9.out⟩
end Go.Proofs.YtnilempeldlieaaGreat
namespace Go.Proofs.YtnilempeldlieaaGreat
open Go.ChangeShapes Go.WideShapes Go.RowKit Go.Deep Go.Joins
set_option maxRecDepth 100000
theorem wd_of13 {n : Int} (h : (Lit.int .i64 n).wf = true) : Flt.In64 n := by
  simp [Lit.wf, IntKind.min, IntKind.max, IntKind.signed, IntKind.bits] at h
  unfold Flt.In64; omega
section
variable {H : Type} {enc : TypeId × Value → H} {w : World} {base : Nat} {spare : Nat → Bool} {held : Bool}
theorem open_obj13 {fuel : Nat} {cs : List Value} {x : DataW H × List MemPlace} (h : DataW.trod enc Tryz.prog w base spare held fuel 41 cs = some x) :
    ∃ (o : Ob) (S : Option Addr) (d : Nat), cs = [.int .i64 o.cls, .int .i64 o.kind, .slice S o.slots.length d, .string o.text, .int .i64 o.bits, .int .i64 o.hash] ∧ IntsR w S o.slots ∧ o.slots.length ≤ d ∧ (S = none → d = 0) ∧ o.slots.length ≤ 9223372036854775807 ∧ Flt.In64 o.bits := by
  obtain ⟨xs, n, _, _, hl, hxl, hf⟩ := DataW.trod_struct Tryz.underlying41 h
  rw [cells46] at hl
  match cs, hl with
  | [v0, v1, v2, v3, v4, v5], _ =>
    have h0 : DataW.trod enc Tryz.prog w base spare held n 3 (([v0, v1, v2, v3, v4, v5].drop 0).take (Tryz.prog.cellsOf 3)) = xs[0]? := hf 0 _ rfl
    have h1 : DataW.trod enc Tryz.prog w base spare held n 3 (([v0, v1, v2, v3, v4, v5].drop 1).take (Tryz.prog.cellsOf 3)) = xs[1]? := hf 1 _ rfl
    have h2 : DataW.trod enc Tryz.prog w base spare held n 34 (([v0, v1, v2, v3, v4, v5].drop 2).take (Tryz.prog.cellsOf 34)) = xs[2]? := hf 2 _ rfl
    have h3 : DataW.trod enc Tryz.prog w base spare held n 9 (([v0, v1, v2, v3, v4, v5].drop 3).take (Tryz.prog.cellsOf 9)) = xs[3]? := hf 3 _ rfl
    have h4 : DataW.trod enc Tryz.prog w base spare held n 3 (([v0, v1, v2, v3, v4, v5].drop 4).take (Tryz.prog.cellsOf 3)) = xs[4]? := hf 4 _ rfl
    have h5 : DataW.trod enc Tryz.prog w base spare held n 3 (([v0, v1, v2, v3, v4, v5].drop 5).take (Tryz.prog.cellsOf 3)) = xs[5]? := hf 5 _ rfl
    have c44 : Tryz.prog.cellsOf 34 = 1 := by kernel_rfl
    have c9 : Tryz.prog.cellsOf 9 = 1 := by kernel_rfl
    have hi : ∀ i (hi : i < 6), xs[i]? = some (xs[i]'(by rw [hxl]; exact hi)) := fun i hi => List.getElem?_eq_getElem _
    simp only [cells3, c44, c9, List.drop_zero, List.drop_succ_cons, List.take_succ_cons, List.take_zero] at h0 h1 h2 h3 h4 h5
    rw [hi 0 (by omega)] at h0
    rw [hi 1 (by omega)] at h1
    rw [hi 2 (by omega)] at h2
    rw [hi 3 (by omega)] at h3
    rw [hi 4 (by omega)] at h4
    rw [hi 5 (by omega)] at h5
    obtain ⟨a0, e0, _⟩ := DataW.trod_int Tryz.underlying3 h0
    obtain ⟨a1, e1, _⟩ := DataW.trod_int Tryz.underlying3 h1
    obtain ⟨S, d, zs, e2, k1, k2, k3, k4⟩ := open_ints_r h2
    obtain ⟨t, e3, _⟩ := DataW.trod_string Tryz.underlying9 h3
    obtain ⟨a4, e4, _, wf4⟩ := DataW.trod_int Tryz.underlying3 h4
    obtain ⟨a5, e5, _⟩ := DataW.trod_int Tryz.underlying3 h5
    simp only [List.cons.injEq, and_true] at e0 e1 e3 e4 e5
    subst e0 e1 e2 e3 e4 e5
    exact ⟨⟨a0, a1, zs, t, a4, a5⟩, S, d, rfl, k1, k2, k3, k4, wd_of13 wf4⟩
theorem open_objs13 {fuel : Nat} {v : Value} {x : DataW H × List MemPlace} (h : DataW.trod enc Tryz.prog w base spare held fuel 22 [v] = some x) :
    ∃ (A : Option Addr) (c : Nat) (os : List Ob), v = .slice A os.length c ∧ ObsR w A os ∧ os.length ≤ 9223372036854775807 ∧ ∀ o ∈ os, o.slots.length ≤ 9223372036854775807 ∧ Flt.In64 o.bits := by
  rcases open_slice Tryz.underlying22 h with ⟨e, _⟩ | ⟨a, len, cap, m, n, D, Pl, e, _, hl, hm, hmm, _, hx⟩
  next =>
   exact ⟨none, 0, [], by simpa using e, fun hn => by simp at hn, by simp, fun o ho => by simp at ho⟩
  next =>
   have hlm : len ≤ m := by rw [hmm]; split <;> omega
   rw [cells46] at hx
   have each : ∀ i, i < len → ∃ q : Ob × Option Addr × Nat, (∀ j u, ([.int .i64 q.1.cls, .int .i64 q.1.kind, .slice q.2.1 q.1.slots.length q.2.2, .string q.1.text, .int .i64 q.1.bits, .int .i64 q.1.hash] : List Value)[j]? = some u → w.cell? ((a.add (i * 6)).add j) = some u) ∧
       IntsR w q.2.1 q.1.slots ∧ q.1.slots.length ≤ q.2.2 ∧ (q.2.1 = none → q.2.2 = 0) ∧ q.1.slots.length ≤ 9223372036854775807 ∧ Flt.In64 q.1.bits := by
     intro i hi
     obtain ⟨cs', h1, h2⟩ := hx i (by omega)
     obtain ⟨o, S, d, rfl, k1, k2, k3, k4, k5⟩ := open_obj13 h2
     obtain ⟨_, _, hcell⟩ := World.cells?_some h1
     refine ⟨(o, S, d), fun j u hu => ?_, k1, k2, k3, k4, k5⟩
     have hj : j < 6 := (List.getElem?_eq_some_iff.1 hu).1
     rw [hcell j hj]; exact hu
   obtain ⟨q, hq⟩ := choose_lt each
   have hll : ((List.range len).map fun i => (q i).1).length = len := by simp
   refine ⟨some a, cap, (List.range len).map fun i => (q i).1, by rw [hll]; simpa using e, fun hn => ?_, by rw [hll]; unfold maxLen at hm; omega, fun o ho => ?_⟩
   next =>
    rw [hll] at hn
    have c0 := (hq 0 hn).1 0 _ rfl
    have c0' : w.cell? a = some (.int .i64 (q 0).1.cls) := by simpa [Addr.add] using c0
    have ha := spot_none c0'
    refine ⟨a.block, a.off, by rw [← ha], World.block_lt_of_cell? w _ c0', fun i o ho => ?_⟩
    have hi : i < len := by have := (List.getElem?_eq_some_iff.1 ho).1; simpa using this
    obtain rfl : (q i).1 = o := by
      rw [List.getElem?_map, List.getElem?_range hi] at ho
      exact Option.some.inj ho
    obtain ⟨k0, k1, k2, k3, k4, -⟩ := hq i hi
    rw [ha] at k0
    simp only [add_off] at k0
    exact ⟨(q i).2.1, (q i).2.2, ⟨k0 0 _ rfl, k0 1 _ rfl, k0 2 _ rfl, k0 3 _ rfl, k0 4 _ rfl, k0 5 _ rfl⟩, k1, k2, k3⟩
   next =>
    obtain ⟨i, hi, rfl⟩ := List.mem_map.1 ho
    exact (hq i (List.mem_range.1 hi)).2.2.2.2
theorem open_heap13 {r : Go.Reach} {b0 : Nat} {v : Value} {d : DataW H} {p : List MemPlace} (hv : Value.okWide Tryz.prog w r b0 24 v) (h : DataW.Trod enc Tryz.prog w base spare held 24 v d p) :
    ∃ (hp : Hp) (A : Option Addr) (c : Nat), v = .agg #[.slice A hp.objs.length c, .int .i64 hp.cap, .int .i64 hp.last] ∧ ObsR w A hp.objs ∧ hp.Fit ∧ ∀ o ∈ hp.objs, Flt.In64 o.bits := by
  obtain ⟨v0, v1, v2, y0, y1, y2, n, rfl, _, _, h0, h1, h2⟩ := open_agg3 Tryz.underlying24 (by kernel_rfl) cells24 hv h
  obtain ⟨A, c, os, rfl, k1, k2, k3⟩ := open_objs13 h0
  obtain ⟨a1, e1, _⟩ := DataW.trod_int Tryz.underlying3 h1
  obtain ⟨a2, e2, _⟩ := DataW.trod_int Tryz.underlying3 h2
  simp only [List.cons.injEq, and_true] at e1 e2
  subst e1 e2
  exact ⟨⟨os, a1, a2⟩, A, c, rfl, k1, ⟨k2, fun o ho => (k3 o ho).1⟩, fun o ho => (k3 o ho).2⟩
end
end Go.Proofs.YtnilempeldlieaaGreat
