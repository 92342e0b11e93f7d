/- The document on primitives: any one, done. -/
import Derived.Test.YtnilempeldlieaaGreatJ04
import Derived.Deep.CutRange
import Derived.Test.YtnilempeldlieaaGreatJ15
import Derived.Test.YtnilempeldlieaaGreatJYN13
import Derived.Test.YtnilempeldlieaaGreatJYO13
import Derived.Test.YtnilempeldlieaaGreatJ17
import Derived.Test.YtnilempeldlieaaGreatJ18
namespace Go.Proofs.YtnilempeldlieaaGreat
open Go.RowKit Flt
set_option maxRecDepth 100000
theorem rsq_low13 {w w' : World} {h : Hp} {A : Option Addr} {c a b : Nat} {r : Rs} {e : Ending} (p : RsQ13 a w h A c r e w') (hb : b ≤ a) : RsQ13 b w h A c r e w' := by
  obtain ⟨A9, c9, h1, h2, h3⟩ := p
  exact ⟨A9, c9, h1, h2.imp id fun ⟨ls, g1, g2⟩ => ⟨ls, g1, g2.lower hb⟩, h3⟩
theorem fresh_arg13 {num : Int} {n : Nat} (h : ar13 num = some n) (hn : num = 11 ∨ num = 12 ∨ num = 27) : num ≠ 11 → 0 < n := by
  intro g
  unfold ar13 at h
  rw [if_neg (by omega), if_neg (by omega), if_neg (by omega)] at h
  have := Option.some.inj h; omega
set_option maxHeartbeats 4000000 in
theorem rdo_any13 (h : Hp) (num s : Int) (al : List Int) (SA : Option Addr) (da : Nat) (A : Option Addr) (c : Nat) (w : World) (hs : ObsR w A h.objs) (fit : h.Fit) (wd : ∀ o ∈ h.objs, Flt.In64 o.bits) (hsa : IntsR w SA al) (hal : al.length ≤ 1000000) :
    Calls Tryz.prog 21 #[.agg #[.slice A h.objs.length c, .int .i64 h.cap, .int .i64 h.last], .int .i64 num, .int .i64 s, .slice SA al.length da] w (RsQ13 w.heap.size w h A c (do13 h num s al)) := by
  have HS := hid hs
  have HF := hid fit
  have HWD := hid wd
  have HSA := hid hsa
  have hfl := fit.1
  clear hs fit hsa wd
  obtain ⟨ok, hok⟩ : ∃ b, b = (mayB h && (decide (12 ≤ h.objs.length) && hasB h.objs.length s)) := ⟨_, rfl⟩
  have HOK := hid hok
  clear hok
  obtain ⟨r, hr⟩ : ∃ r, r = do13 h num s al := ⟨_, rfl⟩
  rw [← hr]
  have HRR := hid hr
  clear hr
  obtain ⟨w0, hw0⟩ : ∃ u, u = (w.alloc (.cells #[Value.slice A h.objs.length c, Value.int .i64 h.cap, Value.int .i64 h.last] 24)).alloc (.cells #[.slice none 0 0, .int .i64 0, .int .i64 0] 24) := ⟨_, rfl⟩
  obtain ⟨bR, hbR⟩ : ∃ x, x = w.heap.size + 1 := ⟨_, rfl⟩
  have HB0 : Hid (Below w.heap.size w w0) := by show Below _ _ _; rw [hw0]; exact below_alloc2 w _ _
  have HX0 : Hid (Lies w0 w.heap.size 24 #[Value.slice A h.objs.length c, Value.int .i64 h.cap, Value.int .i64 h.last]) := by
    show Lies _ _ _ _
    rw [hw0]; exact (Lies.new _ _ _).alloc _
  have HR0 : Hid (Lies w0 bR 24 #[.slice none 0 0, .int .i64 0, .int .i64 0]) := by
    show Lies _ _ _ _
    have := Lies.new (w.alloc (.cells #[Value.slice A h.objs.length c, Value.int .i64 h.cap, Value.int .i64 h.last] 24)) 24 #[.slice none 0 0, .int .i64 0, .int .i64 0]
    rw [hw0, hbR]; simpa using this
  have HRW : Hid (w.heap.size ≤ bR) := by show _ ≤ _; omega
  have HNE : Hid (w.heap.size ≠ bR) := by show _ ≠ _; omega
  go_enter Tryz.func21, Tryz.ntmps21
  go_upto_region 1 with fail
  rw [← hw0, ← hbR]
  clear hw0 hbR
  go_cut [11] from 15 to 27 (fun o wx => o = .bool ok ∧ Below w0.heap.size w0 wx)
  case first =>
    obtain ⟨x0, x1, x2⟩ := HX0.out.c3
    go_wp2_with fail
    refine (rmay_any h A c w0 (HS.out.below HB0.out) HF.out).mono ?_
    rintro e w1 ⟨rfl, hb⟩
    have HBF := hid hb
    have HB1 := hid (then_w HB0.out hb)
    have HX1 := hid (HX0.out.later hb)
    have HR1 := hid (HR0.out.later hb)
    clear hb
    clear x0 x1 x2
    cases hm : mayB h
    next =>
     have HO : Hid (ok = false) := by show _ = _; rw [HOK.out, hm]; rfl
     obtain ⟨x0, x1, x2⟩ := HX1.out.c3
     go_wp2_with fail
     go_meet
     exact ⟨by rw [HO.out], HBF.out⟩
    next =>
     by_cases hl : h.objs.length < 12
     next =>
      have HO : Hid (ok = false) := by show _ = _; rw [HOK.out, decide_eq_false (by omega : ¬ 12 ≤ h.objs.length), Bool.false_and, Bool.and_false]
      have hlI : ¬ (12 : Int) ≤ (h.objs.length : Int) := by omega
      obtain ⟨x0, x1, x2⟩ := HX1.out.c3
      go_wp2_with fail
      go_meet
      exact ⟨by rw [HO.out], HBF.out⟩
     next =>
      have HO : Hid (ok = hasB h.objs.length s) := by show _ = _; rw [HOK.out, hm, decide_eq_true (by omega : 12 ≤ h.objs.length)]; rfl
      have hlI : (12 : Int) ≤ (h.objs.length : Int) := by omega
      obtain ⟨x0, x1, x2⟩ := HX1.out.c3
      go_wp2_with fail
      refine (rhas_any h s A c w1).mono ?_
      rintro e w2 ⟨rfl, hb⟩
      rw [← HO.out]
      have HBG := hid (then_w HBF.out hb)
      clear hb x0 x1 x2
      go_wp2_with fail
      go_meet
      exact ⟨rfl, HBG.out⟩
  case rest =>
    rename World => w1
    obtain ⟨rfl, hb⟩ := hcut
    have HB1 := hid (then_w HB0.out hb)
    have HX1 := hid (HX0.out.later hb)
    have HR1 := hid (HR0.out.later hb)
    clear hb
    go_wp2_with fail
    go_loopw [11, 12] (fun o i wr => ∃ (k : Nat) (b : Bool), k ≤ al.length ∧ i = .int .i64 k ∧ o = .bool b ∧ Hid (b = (ok && (al.take k).all (hasB h.objs.length))) ∧ Below w1.heap.size w1 wr) (fun _ i _ => al.length - (intOf i).toNat)
    case atStart => exact ⟨0, ok, Nat.zero_le _, rfl, rfl, by show _ = _; simp, Below.refl _ _⟩
    case round =>
      rename World => w2
      obtain ⟨k, b, hk, rfl, rfl, HBK, hb⟩ := hrel
      have HBW := hid hb
      have HB2 := hid (then_w HB1.out hb)
      have HX2 := hid (HX1.out.later hb)
      have HR2 := hid (HR1.out.later hb)
      clear hb
      by_cases hlt : k < al.length
      next =>
       have hltI : (k : Int) < (al.length : Int) := by omega
       have HSTEP : Hid ((ok && (al.take (k + 1)).all (hasB h.objs.length)) = (b && hasB h.objs.length al[k])) := by
         show _ = _
         rw [HBK.out, List.take_succ_eq_append_getElem hlt, List.all_append]
         simp [Bool.and_assoc]
       cases b
       next =>
        obtain ⟨x0, x1, x2⟩ := HX2.out.c3
        go_upto_region 5 with fail
        go_quiet (fail)
        clear x0 x1 x2
        go_wp2_with fail
        go_roundw
        case rel => exact ⟨k + 1, false, by omega, by go_num, rfl, by show _ = _; rw [HSTEP.out]; rfl, _root_.Go.below_drewN HBW.out _⟩
        case measure => simp [intOf]; omega
       next =>
        obtain ⟨ba, oa, rfl, hba, hca⟩ := HSA.out (by omega)
        obtain ⟨x, hx⟩ : ∃ x, x = al[k] := ⟨_, rfl⟩
        rw [← hx] at HSTEP
        have y0 := (HB2.out.cell (p := ⟨ba, oa + k, none⟩) hba).trans (hca k x (by rw [hx]; exact List.getElem?_eq_getElem hlt))
        obtain ⟨bx, hbx⟩ : ∃ y, y = hasB h.objs.length x := ⟨_, rfl⟩
        have HHS : Hid (∀ W, Calls Tryz.prog 35 #[.agg #[.slice A h.objs.length c, .int .i64 h.cap, .int .i64 h.last], .int .i64 x] W fun e w' => e = .returned (.bool bx) ∧ Below W.heap.size W w') := by
          show ∀ W, _
          intro W
          rw [hbx]; exact rhas_any h x A c W
        rw [← hbx] at HSTEP
        clear hba hca hx hbx
        obtain ⟨x0, x1, x2⟩ := HX2.out.c3
        go_upto_region 5 with fail
        refine wp_region_held_drew (S := (fun w' => w'.cell? ⟨w.heap.size, 0, none⟩ = some (.slice A h.objs.length c) ∧ w'.cell? ⟨w.heap.size, 1, none⟩ = some (.int .i64 h.cap) ∧ w'.cell? ⟨w.heap.size, 2, none⟩ = some (.int .i64 h.last) ∧ w'.cell? ⟨ba, oa + k, none⟩ = some (.int .i64 x))) (by kernel_rfl) ?_ (fun hH0 => ?_)
        next =>
         exact ⟨dcJ x0, dcJ x1, dcJ x2, dcJ y0⟩
        refine tkJ 0 ⟨some 34, .move (.tmp 11), 4, "ref.go:218", #[], none⟩ ?_
        refine tkJ 1 ⟨some 35, .move (.tmp 34), 4, "ref.go:218", #[⟨0, .data⟩], none⟩ ?_
        refine tkJ 2 ⟨some 36, .load 24 (.tmp 4), 24, "ref.go:218", #[⟨1, .guard⟩], some (1, true)⟩ ?_
        refine tkJ 3 ⟨some 37, .move (.tmp 3), 34, "ref.go:218", #[⟨1, .guard⟩], some (1, true)⟩ ?_
        refine tkJ 4 ⟨some 38, .move (.tmp 12), 3, "ref.go:218", #[⟨1, .guard⟩], some (1, true)⟩ ?_
        refine tkJ 5 ⟨some 39, .indexAddr 34 (.tmp 37) (.tmp 38), 0, "ref.go:218", #[⟨3, .data⟩, ⟨4, .data⟩, ⟨1, .guard⟩], some (1, true)⟩ ?_
        refine tkJ 6 ⟨some 40, .load 3 (.tmp 39), 3, "ref.go:218", #[⟨5, .data⟩, ⟨1, .guard⟩], some (1, true)⟩ ?_
        refine rdJ 7 ⟨some 41, .call { callee := .value (.func 35), args := #[.tmp 36, .tmp 40], argTypes := #[24, 3] }, 4, "ref.go:218", #[⟨2, .data⟩, ⟨6, .data⟩, ⟨1, .chain⟩, ⟨1, .guard⟩], some (1, true)⟩ fun K hK => ?_
        go_simp
        go_at_call 35
        refine (HHS.out _).mono ?_
        rintro e w3 ⟨rfl, hb2⟩
        have HB3_ := hid (then_w HBW.out (then_w (Below.refl _ w2).drew hb2))
        refine hK.out _ _ ?_ (fun hH1 => ?_)
        next =>
         exact ⟨cell_later hb2 hH0.1, cell_later hb2 hH0.2.1, cell_later hb2 hH0.2.2.1, cell_later hb2 hH0.2.2.2⟩
        clear hK K
        try simp only [apt12]
        clear hb2
        refine tkJ 8 ⟨some 42, .pick (.tmp 35) (.tmp 41) (.const (Go.Value.bool false)), 4, "ref.go:218", #[⟨1, .data⟩, ⟨7, .data⟩], none⟩ ?_
        refine tkJ 9 ⟨some 11, .assign (.tmp 42), 4, "ref.go:218", #[⟨8, .data⟩, ⟨7, .chain⟩, ⟨0, .phase⟩, ⟨1, .phase⟩, ⟨2, .phase⟩, ⟨3, .phase⟩, ⟨4, .phase⟩, ⟨5, .phase⟩, ⟨6, .phase⟩, ⟨7, .phase⟩, ⟨8, .phase⟩], none⟩ ?_
        refine wpAnyH_done (by kernel_rfl) ?_ _
        go_wp2_with fail
        go_roundw
        case rel => exact ⟨k + 1, bx, by omega, by go_num, rfl, by show _ = _; rw [HSTEP.out]; rfl, HB3_.out⟩
        case measure => simp [intOf]; omega
      next =>
       obtain rfl : k = al.length := by omega
       have HBA_ : Hid (b = (ok && al.all (hasB h.objs.length))) := by show _ = _; rw [HBK.out, List.take_length]
       clear hk hlt HBK HBW
       cases b
       next =>
        have HRZ : Hid (r = (⟨[], 0, 0⟩, 0, 1)) := by
          show _ = _
          rw [HRR.out]; unfold do13
          rw [if_pos ?_]
          have h1 := HBA_.out
          rw [HOK.out] at h1
          by_cases g : mayB h = false
          next =>
           exact .inl g
          by_cases g2 : h.objs.length < 12
          next =>
           exact .inr (.inl g2)
          by_cases g3 : hasB h.objs.length s = false
          next =>
           exact .inr (.inr (.inl g3))
          next =>
           refine .inr (.inr (.inr ?_))
           rw [Bool.not_eq_false] at g g3
           rw [g, g3, decide_eq_true (by omega : 12 ≤ h.objs.length)] at h1
           simpa using h1.symm
        obtain ⟨x0, x1, x2⟩ := HX2.out.c3
        obtain ⟨k0, k1, k2⟩ := HR2.out.c3
        obtain ⟨f0, f1, f2⟩ := HR2.out.f3
        go_wp2_with fail
        have HK := HR2.out.s3 (.slice none 0 0) (.int .i64 0) (.int .i64 0)
        obtain ⟨r0, r1, r2⟩ := HK
        have HBE := below_s3 HB2.out HRW.out (.slice none 0 0) (.int .i64 0) (.int .i64 0)
        refine bodyPost_ret (v := .tuple #[.agg #[.slice none 0 0, .int .i64 0, .int .i64 0], .int .i64 0, .int .i64 1]) (by simp [results, Tryz.results21, go_sem, r0, r1, r2]) rfl ?_
        rw [HRZ.out]
        exact ⟨none, 0, rfl, .inr ⟨[], rfl, OwnH.nil _ _⟩, HBE⟩
       next =>
        have HALL : Hid (mayB h = true ∧ 12 ≤ h.objs.length ∧ hasB h.objs.length s = true ∧ al.all (hasB h.objs.length) = true) := by
          have h1 := HBA_.out
          rw [HOK.out] at h1
          have h2 := h1.symm
          simp only [Bool.and_eq_true, decide_eq_true_eq] at h2
          exact ⟨h2.1.1, h2.1.2.1, h2.1.2.2, h2.2⟩
        have HRD : Hid (r = if ar13 num ≠ some al.length then fa13 h else pr13 h num s (al.getD 0 0) (al.getD 1 0)) := by
          show _ = _
          obtain ⟨a1, a2, a3, a4⟩ := HALL.out
          rw [HRR.out]; unfold do13
          rw [if_neg ?_]
          rintro (g | g | g | g)
          next =>
           rw [a1] at g; cases g
          next =>
           omega
          next =>
           rw [a3] at g; cases g
          next =>
           rw [a4] at g; cases g
        clear HBA_ HOK HRR
        have HAG := hid (rargs_any13 num w2)
        obtain ⟨na, hna⟩ : ∃ n, n = (ar13 num).getD 0 := ⟨_, rfl⟩
        obtain ⟨is, his⟩ : ∃ b, b = (ar13 num).isSome := ⟨_, rfl⟩
        rw [← hna, ← his] at HAG
        have HNA := hid hna
        have HIS := hid his
        clear hna his
        go_wp2_with fail
        refine HAG.out.mono ?_
        rintro e w3 ⟨rfl, hb⟩
        have HB3 := hid (then_w HB2.out hb)
        have HX3 := hid (HX2.out.later hb)
        have HR3 := hid (HR2.out.later hb)
        clear hb
        clear HAG
        cases is
        next =>
         have HBAD : Hid (r = fa13 h) := by
           show _ = _
           rw [HRD.out, if_pos]
           intro g
           have := HIS.out
           rw [g] at this; cases this
         have HE : Hid (r = fa13 h) := by show _ = _; exact HBAD.out
         obtain ⟨ra, hra⟩ : ∃ x, x = fa13 h := ⟨_, rfl⟩
         rw [← hra] at HE
         have HC9 := hid (show Calls Tryz.prog 41 #[.agg #[.slice A h.objs.length c, .int .i64 h.cap, .int .i64 h.last]] w3 (RsQ13 w.heap.size w3 h A c ra) from by rw [hra]; exact (rfail_any13 h A c w3).mono fun _ _ p => p.q rfl)
         clear hra
         obtain ⟨x0, x1, x2⟩ := HX3.out.c3
         go_wp2_with fail
         refine (HC9.out).mono ?_
         rintro e w4 ⟨A9, c9, rfl, hor, hb⟩
         have HOR := hid hor
         clear hor
         have HB4 := hid (then_w HB3.out hb)
         have HX4 := hid (HX3.out.later hb)
         have HR4 := hid (HR3.out.later hb)
         clear hb
         clear x0 x1 x2
         obtain ⟨k0, k1, k2⟩ := HR4.out.c3
         obtain ⟨f0, f1, f2⟩ := HR4.out.f3
         go_wp2_with fail
         have HK := HR4.out.s3 (.slice A9 ra.1.objs.length c9) (.int .i64 ra.1.cap) (.int .i64 ra.1.last)
         obtain ⟨r0, r1, r2⟩ := HK
         have HBE := below_s3 HB4.out HRW.out (.slice A9 ra.1.objs.length c9) (.int .i64 ra.1.cap) (.int .i64 ra.1.last)
         refine bodyPost_ret (v := .tuple #[.agg #[.slice A9 ra.1.objs.length c9, .int .i64 ra.1.cap, .int .i64 ra.1.last], .int .i64 ra.2.1, .int .i64 ra.2.2]) (by simp [results, Tryz.results21, go_sem, r0, r1, r2]) rfl ?_
         rw [HE.out]
         refine ⟨A9, c9, rfl, ?_, HBE⟩
         rcases HOR.out with h1 | ⟨ls, h1, h2⟩
         next =>
          exact .inl h1
         next =>
          exact .inr ⟨ls, h1, h2.s3_13 HR4.out _ _ _⟩
        next =>
         by_cases hn : na = al.length
         next =>
          have HAR : Hid (ar13 num = some al.length) := by
            show _ = _
            have h1 := HIS.out
            have h2 := HNA.out
            cases g : ar13 num with
            | none => rw [g] at h1; cases h1
            | some q => rw [g] at h2; rw [← hn, h2]; rfl
          have HRP : Hid (r = pr13 h num s (al.getD 0 0) (al.getD 1 0)) := by show _ = _; rw [HRD.out, if_neg (fun g => g HAR.out)]
          have hnb : ((na : Int) != (al.length : Int)) = false := by simp [hn]
          have HM := hid HALL.out.1
          have HV := hid HALL.out.2.2.1
          have HA := hid (fun x hx => List.all_eq_true.1 HALL.out.2.2.2 x hx)
          have hrange : 1 ≤ num ∧ num ≤ 27 := by
            have h1 := HAR.out
            unfold ar13 at h1
            split at h1
            next =>
             cases h1
            next =>
             omega
          have HRG := hid hrange
          have HNN : Hid ((na : Int) = (al.length : Int)) := by show _ = _; rw [hn]
          clear hn hrange HRD HIS HNA HALL
          by_cases h7 : num ≤ 7
          next =>
           have hl : al.length = 1 := by
             have h1 := HAR.out
             have h2 := HRG.out
             unfold ar13 at h1
             rw [if_neg (by omega), if_neg (by omega), if_neg (by omega)] at h1
             exact (Option.some.inj h1).symm
           obtain ⟨ba, oa, rfl, hba, hca⟩ := HSA.out (by omega)
           obtain ⟨a, ha⟩ : ∃ a, a = al.getD 0 0 := ⟨_, rfl⟩
           have ha0 : al[0]? = some a := by rw [ha, List.getD_eq_getElem?_getD, List.getElem?_eq_getElem (by omega)]; rfl
           have HZ0 := hid (hca 0 a ha0)
           have HBA := hid hba
           obtain ⟨ra, hra⟩ : ∃ z : Rs, z = wh13 h num s a := ⟨_, rfl⟩
           have HE : Hid (r = ra) := by show _ = _; rw [HRP.out, hra, ha]; unfold pr13; rw [if_pos h7]
           have HRA := hid hra
           have HWH : Hid (∀ W, Calls Tryz.prog 42 #[.agg #[.slice A h.objs.length c, .int .i64 h.cap, .int .i64 h.last], .int .i64 num, .int .i64 s, .int .i64 a] W (RsQ13 w.heap.size W h A c ra)) := by
             show ∀ W, _
             intro W
             rw [HRA.out]
             exact (rwhole_any13 h num s a A c W).mono fun _ _ p => p.q (wh_h13 _ _ _ _)
           have hn1 : ((na : Int) != (1 : Int)) = false := by rw [HNN.out, hl]; rfl
           have y0 : w3.cell? ⟨ba, oa, none⟩ = some (.int .i64 a) := at0_13 HB3.out HBA.out HZ0.out
           rw [hl]
           clear hl hba hca ha ha0 hra hnb
           obtain ⟨x0, x1, x2⟩ := HX3.out.c3
           go_upto_region 12 with fail
           refine wp_region_held_drew (S := (fun w' => w'.cell? ⟨w.heap.size, 0, none⟩ = some (.slice A h.objs.length c) ∧ w'.cell? ⟨w.heap.size, 1, none⟩ = some (.int .i64 h.cap) ∧ w'.cell? ⟨w.heap.size, 2, none⟩ = some (.int .i64 h.last) ∧ w'.cell? ⟨ba, oa, none⟩ = some (.int .i64 a))) (by kernel_rfl) ?_ (fun hH0 => ?_)
           next =>
            exact ⟨dcJ x0, dcJ x1, dcJ x2, dcJ y0⟩
           refine tkJ 0 ⟨some 66, .load 24 (.tmp 4), 24, "ref.go:228", #[], none⟩ ?_
           refine tkJ 1 ⟨some 67, .move (.tmp 1), 3, "ref.go:228", #[], none⟩ ?_
           refine tkJ 2 ⟨some 68, .move (.tmp 2), 3, "ref.go:228", #[], none⟩ ?_
           refine tkJ 3 ⟨some 69, .move (.tmp 3), 34, "ref.go:228", #[], none⟩ ?_
           refine tkJ 4 ⟨some 70, .indexAddr 34 (.tmp 69) (.const (Go.Value.int .i64 0)), 0, "ref.go:228", #[⟨3, .data⟩], none⟩ ?_
           refine tkJ 5 ⟨some 71, .load 3 (.tmp 70), 3, "ref.go:228", #[⟨4, .data⟩], none⟩ ?_
           refine rdJ 6 ⟨some 72, .call { callee := .value (.func 42), args := #[.tmp 66, .tmp 67, .tmp 68, .tmp 71], argTypes := #[24, 3, 3, 3] }, 44, "ref.go:228", #[⟨0, .data⟩, ⟨1, .data⟩, ⟨2, .data⟩, ⟨5, .data⟩], none⟩ fun K hK => ?_
           go_simp
           go_at_call 42
           obtain ⟨wd, hd⟩ : ∃ x, x = w3.drew := ⟨_, rfl⟩
           rw [← hd]
           have hbd : Below w3.heap.size w3 wd := by rw [hd]; exact (Below.refl _ _).drew
           have HBz := hid (then_w HB3.out hbd)
           refine (HWH.out wd).mono ?_
           rintro e ut ⟨A9, c9, rfl, hor, hb2⟩
           have hb := then_w hbd hb2
           have HBT := hid (then_w HB3.out hb)
           have HXT := hid (HX3.out.later hb)
           have HRT := hid (HR3.out.later hb)
           have HOR := hid hor
           clear hd hbd hb hb2 hor
           obtain ⟨v0, v1, v2⟩ := HXT.out.c3
           have v3 := at0_13 HBT.out HBA.out HZ0.out
           refine hK.out _ _ ?_ (fun hH1 => ?_)
           next =>
            exact ⟨v0, v1, v2, v3⟩
           clear hK K
           try simp only [apt12]
           clear v0 v1 v2 v3
           refine tkJ 7 ⟨some 73, .extract (.tmp 72) 0, 24, "ref.go:228", #[⟨6, .data⟩], none⟩ ?_
           refine tkJ 8 ⟨some 74, .extract (.tmp 72) 1, 3, "ref.go:228", #[⟨6, .data⟩], none⟩ ?_
           refine tkJ 9 ⟨some 75, .extract (.tmp 72) 2, 25, "ref.go:228", #[⟨6, .data⟩], none⟩ ?_
           refine rdJ 10 ⟨none, .store 24 (.tmp 8) (.tmp 73), 0, "ref.go:228", #[⟨7, .data⟩, ⟨6, .chain⟩, ⟨0, .phase⟩, ⟨1, .phase⟩, ⟨2, .phase⟩, ⟨3, .phase⟩, ⟨4, .phase⟩, ⟨5, .phase⟩, ⟨6, .phase⟩, ⟨7, .phase⟩, ⟨8, .phase⟩, ⟨9, .phase⟩], none⟩ fun K hK => ?_
           obtain ⟨k0, k1, k2⟩ := HRT.out.c3
           obtain ⟨f0, f1, f2⟩ := HRT.out.f3
           go_simp
           clear k0 k1 k2 f0 f1 f2
           have HBE := below_s3 HBT.out HRW.out (.slice A9 ra.1.objs.length c9) (.int .i64 ra.1.cap) (.int .i64 ra.1.last)
           have HX9 := ((HXT.out.far (p := ⟨bR, 0, none⟩) HNE.out (.slice A9 ra.1.objs.length c9)).far (p := ⟨bR, 1, none⟩) HNE.out (.int .i64 ra.1.cap)).far (p := ⟨bR, 2, none⟩) HNE.out (.int .i64 ra.1.last)
           obtain ⟨v0, v1, v2⟩ := HX9.c3
           have v3 := at0_13 HBE HBA.out HZ0.out
           refine hK.out _ _ ?_ (fun hH2 => ?_)
           next =>
            exact ⟨v0, v1, v2, v3⟩
           clear hK K
           try simp only [apt12]
           clear v0 v1 v2 v3
           clear HX9
           refine tkJ 11 ⟨some 9, .assign (.tmp 74), 3, "ref.go:228", #[⟨8, .data⟩, ⟨10, .chain⟩, ⟨0, .phase⟩, ⟨1, .phase⟩, ⟨2, .phase⟩, ⟨3, .phase⟩, ⟨4, .phase⟩, ⟨5, .phase⟩, ⟨6, .phase⟩, ⟨7, .phase⟩, ⟨8, .phase⟩, ⟨9, .phase⟩, ⟨10, .phase⟩], none⟩ ?_
           refine tkJ 12 ⟨some 10, .assign (.tmp 75), 25, "ref.go:228", #[⟨9, .data⟩, ⟨11, .chain⟩, ⟨0, .phase⟩, ⟨1, .phase⟩, ⟨2, .phase⟩, ⟨3, .phase⟩, ⟨4, .phase⟩, ⟨5, .phase⟩, ⟨6, .phase⟩, ⟨7, .phase⟩, ⟨8, .phase⟩, ⟨9, .phase⟩, ⟨10, .phase⟩, ⟨11, .phase⟩], none⟩ ?_
           refine wpAnyH_done (by kernel_rfl) ?_ _
           have HK := HRT.out.s3 (.slice A9 ra.1.objs.length c9) (.int .i64 ra.1.cap) (.int .i64 ra.1.last)
           obtain ⟨r0, r1, r2⟩ := HK
           go_wp2_with fail
           refine bodyPost_ret (v := .tuple #[.agg #[.slice A9 ra.1.objs.length c9, .int .i64 ra.1.cap, .int .i64 ra.1.last], .int .i64 ra.2.1, .int .i64 ra.2.2]) (by simp [results, Tryz.results21, go_sem, r0, r1, r2]) rfl ?_
           rw [HE.out]
           refine ⟨A9, c9, rfl, ?_, HBE⟩
           rcases HOR.out with h1 | ⟨ls, h1, h2⟩
           next =>
            exact .inl h1
           next =>
            exact .inr ⟨ls, h1, h2.s3_13 HRT.out _ _ _⟩
          next =>
           have h7b : ¬ num ≤ 7 := h7
           by_cases h10 : num ≤ 10
           next =>
            obtain ⟨ra, hra⟩ : ∃ z : Rs, z = pa13 h num s (al.getD 0 0) (al.getD 1 0) := ⟨_, rfl⟩
            have HE : Hid (r = ra) := by show _ = _; rw [HRP.out, hra]; unfold pr13; rw [if_neg h7, if_pos (.inl h10)]
            have HC9 := hid (show Calls Tryz.prog 43 #[.agg #[.slice A h.objs.length c, .int .i64 h.cap, .int .i64 h.last], .int .i64 num, .int .i64 s, .slice SA al.length da] w3 (RsQ13 w.heap.size w3 h A c ra) from by rw [hra]; exact by have p := rparts_any13 h num s al SA da A c w3 (HS.out.below HB3.out) HF.out HM.out (HSA.out.below HB3.out) (by omega) HAR.out; exact p.mono fun _ _ q => rsq_low13 q HB3.out.size)
            clear hra
            obtain ⟨x0, x1, x2⟩ := HX3.out.c3
            go_wp2_with fail
            refine (HC9.out).mono ?_
            rintro e w4 ⟨A9, c9, rfl, hor, hb⟩
            have HOR := hid hor
            clear hor
            have HB4 := hid (then_w HB3.out hb)
            have HX4 := hid (HX3.out.later hb)
            have HR4 := hid (HR3.out.later hb)
            clear hb
            clear x0 x1 x2
            obtain ⟨k0, k1, k2⟩ := HR4.out.c3
            obtain ⟨f0, f1, f2⟩ := HR4.out.f3
            go_wp2_with fail
            have HK := HR4.out.s3 (.slice A9 ra.1.objs.length c9) (.int .i64 ra.1.cap) (.int .i64 ra.1.last)
            obtain ⟨r0, r1, r2⟩ := HK
            have HBE := below_s3 HB4.out HRW.out (.slice A9 ra.1.objs.length c9) (.int .i64 ra.1.cap) (.int .i64 ra.1.last)
            refine bodyPost_ret (v := .tuple #[.agg #[.slice A9 ra.1.objs.length c9, .int .i64 ra.1.cap, .int .i64 ra.1.last], .int .i64 ra.2.1, .int .i64 ra.2.2]) (by simp [results, Tryz.results21, go_sem, r0, r1, r2]) rfl ?_
            rw [HE.out]
            refine ⟨A9, c9, rfl, ?_, HBE⟩
            rcases HOR.out with h1 | ⟨ls, h1, h2⟩
            next =>
             exact .inl h1
            next =>
             exact .inr ⟨ls, h1, h2.s3_13 HR4.out _ _ _⟩
           next =>
            by_cases h25 : num = 25
            next =>
             subst h25
             obtain ⟨ra, hra⟩ : ∃ z : Rs, z = pa13 h 25 s (al.getD 0 0) (al.getD 1 0) := ⟨_, rfl⟩
             have HE : Hid (r = ra) := by show _ = _; rw [HRP.out, hra]; unfold pr13; rw [if_neg h7, if_pos (.inr (.inl rfl))]
             have HC9 := hid (show Calls Tryz.prog 43 #[.agg #[.slice A h.objs.length c, .int .i64 h.cap, .int .i64 h.last], .int .i64 25, .int .i64 s, .slice SA al.length da] w3 (RsQ13 w.heap.size w3 h A c ra) from by rw [hra]; exact by have p := rparts_any13 h 25 s al SA da A c w3 (HS.out.below HB3.out) HF.out HM.out (HSA.out.below HB3.out) (by simp) HAR.out; exact p.mono fun _ _ q => rsq_low13 q HB3.out.size)
             clear hra
             obtain ⟨x0, x1, x2⟩ := HX3.out.c3
             go_wp2_with fail
             refine (HC9.out).mono ?_
             rintro e w4 ⟨A9, c9, rfl, hor, hb⟩
             have HOR := hid hor
             clear hor
             have HB4 := hid (then_w HB3.out hb)
             have HX4 := hid (HX3.out.later hb)
             have HR4 := hid (HR3.out.later hb)
             clear hb
             clear x0 x1 x2
             obtain ⟨k0, k1, k2⟩ := HR4.out.c3
             obtain ⟨f0, f1, f2⟩ := HR4.out.f3
             go_wp2_with fail
             have HK := HR4.out.s3 (.slice A9 ra.1.objs.length c9) (.int .i64 ra.1.cap) (.int .i64 ra.1.last)
             obtain ⟨r0, r1, r2⟩ := HK
             have HBE := below_s3 HB4.out HRW.out (.slice A9 ra.1.objs.length c9) (.int .i64 ra.1.cap) (.int .i64 ra.1.last)
             refine bodyPost_ret (v := .tuple #[.agg #[.slice A9 ra.1.objs.length c9, .int .i64 ra.1.cap, .int .i64 ra.1.last], .int .i64 ra.2.1, .int .i64 ra.2.2]) (by simp [results, Tryz.results21, go_sem, r0, r1, r2]) rfl ?_
             rw [HE.out]
             refine ⟨A9, c9, rfl, ?_, HBE⟩
             rcases HOR.out with h1 | ⟨ls, h1, h2⟩
             next =>
              exact .inl h1
             next =>
              exact .inr ⟨ls, h1, h2.s3_13 HR4.out _ _ _⟩
            next =>
             have b25 : (num == 25) = false := by simpa using h25
             by_cases h26 : num = 26
             next =>
              subst h26
              obtain ⟨ra, hra⟩ : ∃ z : Rs, z = pa13 h 26 s (al.getD 0 0) (al.getD 1 0) := ⟨_, rfl⟩
              have HE : Hid (r = ra) := by show _ = _; rw [HRP.out, hra]; unfold pr13; rw [if_neg h7, if_pos (.inr (.inr rfl))]
              have HC9 := hid (show Calls Tryz.prog 43 #[.agg #[.slice A h.objs.length c, .int .i64 h.cap, .int .i64 h.last], .int .i64 26, .int .i64 s, .slice SA al.length da] w3 (RsQ13 w.heap.size w3 h A c ra) from by rw [hra]; exact by have p := rparts_any13 h 26 s al SA da A c w3 (HS.out.below HB3.out) HF.out HM.out (HSA.out.below HB3.out) (by simp) HAR.out; exact p.mono fun _ _ q => rsq_low13 q HB3.out.size)
              clear hra
              obtain ⟨x0, x1, x2⟩ := HX3.out.c3
              go_wp2_with fail
              refine (HC9.out).mono ?_
              rintro e w4 ⟨A9, c9, rfl, hor, hb⟩
              have HOR := hid hor
              clear hor
              have HB4 := hid (then_w HB3.out hb)
              have HX4 := hid (HX3.out.later hb)
              have HR4 := hid (HR3.out.later hb)
              clear hb
              clear x0 x1 x2
              obtain ⟨k0, k1, k2⟩ := HR4.out.c3
              obtain ⟨f0, f1, f2⟩ := HR4.out.f3
              go_wp2_with fail
              have HK := HR4.out.s3 (.slice A9 ra.1.objs.length c9) (.int .i64 ra.1.cap) (.int .i64 ra.1.last)
              obtain ⟨r0, r1, r2⟩ := HK
              have HBE := below_s3 HB4.out HRW.out (.slice A9 ra.1.objs.length c9) (.int .i64 ra.1.cap) (.int .i64 ra.1.last)
              refine bodyPost_ret (v := .tuple #[.agg #[.slice A9 ra.1.objs.length c9, .int .i64 ra.1.cap, .int .i64 ra.1.last], .int .i64 ra.2.1, .int .i64 ra.2.2]) (by simp [results, Tryz.results21, go_sem, r0, r1, r2]) rfl ?_
              rw [HE.out]
              refine ⟨A9, c9, rfl, ?_, HBE⟩
              rcases HOR.out with h1 | ⟨ls, h1, h2⟩
              next =>
               exact .inl h1
              next =>
               exact .inr ⟨ls, h1, h2.s3_13 HR4.out _ _ _⟩
             next =>
              have b26 : (num == 26) = false := by simpa using h26
              have hno : ¬ (num ≤ 10 ∨ num = 25 ∨ num = 26) := by omega
              by_cases h12 : num ≤ 12
              next =>
               obtain ⟨ra, hra⟩ : ∃ z : Rs, z = fr13 h num s (al.getD 0 0) := ⟨_, rfl⟩
               have HE : Hid (r = ra) := by show _ = _; rw [HRP.out, hra]; unfold pr13; rw [if_neg h7, if_neg hno, if_pos (.inl h12)]
               have HC9 := hid (show Calls Tryz.prog 44 #[.agg #[.slice A h.objs.length c, .int .i64 h.cap, .int .i64 h.last], .int .i64 num, .int .i64 s, .slice SA al.length da] w3 (RsQ13 w.heap.size w3 h A c ra) from by rw [hra]; exact (by have p := rfresh_any13 h num s al SA da A c w3 (HS.out.below HB3.out) HF.out (HSA.out.below HB3.out) (fresh_arg13 HAR.out (by omega)); exact p.mono fun _ _ q => q.q HB3.out.size))
               clear hra
               obtain ⟨x0, x1, x2⟩ := HX3.out.c3
               go_wp2_with fail
               refine (HC9.out).mono ?_
               rintro e w4 ⟨A9, c9, rfl, hor, hb⟩
               have HOR := hid hor
               clear hor
               have HB4 := hid (then_w HB3.out hb)
               have HX4 := hid (HX3.out.later hb)
               have HR4 := hid (HR3.out.later hb)
               clear hb
               clear x0 x1 x2
               obtain ⟨k0, k1, k2⟩ := HR4.out.c3
               obtain ⟨f0, f1, f2⟩ := HR4.out.f3
               go_wp2_with fail
               have HK := HR4.out.s3 (.slice A9 ra.1.objs.length c9) (.int .i64 ra.1.cap) (.int .i64 ra.1.last)
               obtain ⟨r0, r1, r2⟩ := HK
               have HBE := below_s3 HB4.out HRW.out (.slice A9 ra.1.objs.length c9) (.int .i64 ra.1.cap) (.int .i64 ra.1.last)
               refine bodyPost_ret (v := .tuple #[.agg #[.slice A9 ra.1.objs.length c9, .int .i64 ra.1.cap, .int .i64 ra.1.last], .int .i64 ra.2.1, .int .i64 ra.2.2]) (by simp [results, Tryz.results21, go_sem, r0, r1, r2]) rfl ?_
               rw [HE.out]
               refine ⟨A9, c9, rfl, ?_, HBE⟩
               rcases HOR.out with h1 | ⟨ls, h1, h2⟩
               next =>
                exact .inl h1
               next =>
                exact .inr ⟨ls, h1, h2.s3_13 HR4.out _ _ _⟩
              next =>
               by_cases h27 : num = 27
               next =>
                subst h27
                obtain ⟨ra, hra⟩ : ∃ z : Rs, z = fr13 h 27 s (al.getD 0 0) := ⟨_, rfl⟩
                have HE : Hid (r = ra) := by show _ = _; rw [HRP.out, hra]; unfold pr13; rw [if_neg h7, if_neg hno, if_pos (.inr rfl)]
                have HC9 := hid (show Calls Tryz.prog 44 #[.agg #[.slice A h.objs.length c, .int .i64 h.cap, .int .i64 h.last], .int .i64 27, .int .i64 s, .slice SA al.length da] w3 (RsQ13 w.heap.size w3 h A c ra) from by rw [hra]; exact (by have p := rfresh_any13 h 27 s al SA da A c w3 (HS.out.below HB3.out) HF.out (HSA.out.below HB3.out) (fresh_arg13 HAR.out (by omega)); exact p.mono fun _ _ q => q.q HB3.out.size))
                clear hra
                obtain ⟨x0, x1, x2⟩ := HX3.out.c3
                go_wp2_with fail
                refine (HC9.out).mono ?_
                rintro e w4 ⟨A9, c9, rfl, hor, hb⟩
                have HOR := hid hor
                clear hor
                have HB4 := hid (then_w HB3.out hb)
                have HX4 := hid (HX3.out.later hb)
                have HR4 := hid (HR3.out.later hb)
                clear hb
                clear x0 x1 x2
                obtain ⟨k0, k1, k2⟩ := HR4.out.c3
                obtain ⟨f0, f1, f2⟩ := HR4.out.f3
                go_wp2_with fail
                have HK := HR4.out.s3 (.slice A9 ra.1.objs.length c9) (.int .i64 ra.1.cap) (.int .i64 ra.1.last)
                obtain ⟨r0, r1, r2⟩ := HK
                have HBE := below_s3 HB4.out HRW.out (.slice A9 ra.1.objs.length c9) (.int .i64 ra.1.cap) (.int .i64 ra.1.last)
                refine bodyPost_ret (v := .tuple #[.agg #[.slice A9 ra.1.objs.length c9, .int .i64 ra.1.cap, .int .i64 ra.1.last], .int .i64 ra.2.1, .int .i64 ra.2.2]) (by simp [results, Tryz.results21, go_sem, r0, r1, r2]) rfl ?_
                rw [HE.out]
                refine ⟨A9, c9, rfl, ?_, HBE⟩
                rcases HOR.out with h1 | ⟨ls, h1, h2⟩
                next =>
                 exact .inl h1
                next =>
                 exact .inr ⟨ls, h1, h2.s3_13 HR4.out _ _ _⟩
               next =>
                have b27 : (num == 27) = false := by simpa using h27
                have hnp : ¬ (num ≤ 12 ∨ num = 27) := by omega
                have hlow := HRG.out
                by_cases h16 : num ≤ 16
                next =>
                 obtain ⟨ra, hra⟩ : ∃ z : Rs, z = id13 h num s (al.getD 0 0) := ⟨_, rfl⟩
                 have HE : Hid (r = ra) := by show _ = _; rw [HRP.out, hra]; unfold pr13; rw [if_neg h7, if_neg hno, if_neg hnp, if_pos h16]
                 have HC9 := hid (show Calls Tryz.prog 45 #[.agg #[.slice A h.objs.length c, .int .i64 h.cap, .int .i64 h.last], .int .i64 num, .int .i64 s, .slice SA al.length da] w3 (RsQ13 w.heap.size w3 h A c ra) from by rw [hra]; exact (by have p := ridentity_any13 h num s al SA da A c w3 (HS.out.below HB3.out) HF.out HM.out HV.out (HSA.out.below HB3.out) HA.out (by omega) HAR.out; exact p.mono fun _ _ q => rsq_low13 q HB3.out.size))
                 clear hra
                 obtain ⟨x0, x1, x2⟩ := HX3.out.c3
                 go_wp2_with fail
                 refine (HC9.out).mono ?_
                 rintro e w4 ⟨A9, c9, rfl, hor, hb⟩
                 have HOR := hid hor
                 clear hor
                 have HB4 := hid (then_w HB3.out hb)
                 have HX4 := hid (HX3.out.later hb)
                 have HR4 := hid (HR3.out.later hb)
                 clear hb
                 clear x0 x1 x2
                 obtain ⟨k0, k1, k2⟩ := HR4.out.c3
                 obtain ⟨f0, f1, f2⟩ := HR4.out.f3
                 go_wp2_with fail
                 have HK := HR4.out.s3 (.slice A9 ra.1.objs.length c9) (.int .i64 ra.1.cap) (.int .i64 ra.1.last)
                 obtain ⟨r0, r1, r2⟩ := HK
                 have HBE := below_s3 HB4.out HRW.out (.slice A9 ra.1.objs.length c9) (.int .i64 ra.1.cap) (.int .i64 ra.1.last)
                 refine bodyPost_ret (v := .tuple #[.agg #[.slice A9 ra.1.objs.length c9, .int .i64 ra.1.cap, .int .i64 ra.1.last], .int .i64 ra.2.1, .int .i64 ra.2.2]) (by simp [results, Tryz.results21, go_sem, r0, r1, r2]) rfl ?_
                 rw [HE.out]
                 refine ⟨A9, c9, rfl, ?_, HBE⟩
                 rcases HOR.out with h1 | ⟨ls, h1, h2⟩
                 next =>
                  exact .inl h1
                 next =>
                  exact .inr ⟨ls, h1, h2.s3_13 HR4.out _ _ _⟩
                next =>
                 obtain ⟨ra, hra⟩ : ∃ z : Rs, z = ff13 h num s (al.getD 0 0) := ⟨_, rfl⟩
                 have HE : Hid (r = ra) := by show _ = _; rw [HRP.out, hra]; unfold pr13; rw [if_neg h7, if_neg hno, if_neg hnp, if_neg h16]
                 have HC9 := hid (show Calls Tryz.prog 46 #[.agg #[.slice A h.objs.length c, .int .i64 h.cap, .int .i64 h.last], .int .i64 num, .int .i64 s, .slice SA al.length da] w3 (RsQ13 w.heap.size w3 h A c ra) from by rw [hra]; exact (by have p := rfloats_any13 h num s al SA da A c w3 (HS.out.below HB3.out) HF.out HM.out HWD.out HV.out (HSA.out.below HB3.out) HA.out (by omega) HAR.out; exact p.mono fun _ _ q => rsq_low13 q HB3.out.size))
                 clear hra
                 obtain ⟨x0, x1, x2⟩ := HX3.out.c3
                 go_wp2_with fail
                 refine (HC9.out).mono ?_
                 rintro e w4 ⟨A9, c9, rfl, hor, hb⟩
                 have HOR := hid hor
                 clear hor
                 have HB4 := hid (then_w HB3.out hb)
                 have HX4 := hid (HX3.out.later hb)
                 have HR4 := hid (HR3.out.later hb)
                 clear hb
                 clear x0 x1 x2
                 obtain ⟨k0, k1, k2⟩ := HR4.out.c3
                 obtain ⟨f0, f1, f2⟩ := HR4.out.f3
                 go_wp2_with fail
                 have HK := HR4.out.s3 (.slice A9 ra.1.objs.length c9) (.int .i64 ra.1.cap) (.int .i64 ra.1.last)
                 obtain ⟨r0, r1, r2⟩ := HK
                 have HBE := below_s3 HB4.out HRW.out (.slice A9 ra.1.objs.length c9) (.int .i64 ra.1.cap) (.int .i64 ra.1.last)
                 refine bodyPost_ret (v := .tuple #[.agg #[.slice A9 ra.1.objs.length c9, .int .i64 ra.1.cap, .int .i64 ra.1.last], .int .i64 ra.2.1, .int .i64 ra.2.2]) (by simp [results, Tryz.results21, go_sem, r0, r1, r2]) rfl ?_
                 rw [HE.out]
                 refine ⟨A9, c9, rfl, ?_, HBE⟩
                 rcases HOR.out with h1 | ⟨ls, h1, h2⟩
                 next =>
                  exact .inl h1
                 next =>
                  exact .inr ⟨ls, h1, h2.s3_13 HR4.out _ _ _⟩
         next =>
          have hnb : ((na : Int) != (al.length : Int)) = true := by simp; omega
          have HBAD : Hid (r = fa13 h) := by
            show _ = _
            rw [HRD.out, if_pos]
            intro g
            have := HNA.out
            rw [g] at this
            exact hn this
          clear HRD HIS HNA HALL
          have HE : Hid (r = fa13 h) := by show _ = _; exact HBAD.out
          obtain ⟨ra, hra⟩ : ∃ x, x = fa13 h := ⟨_, rfl⟩
          rw [← hra] at HE
          have HC9 := hid (show Calls Tryz.prog 41 #[.agg #[.slice A h.objs.length c, .int .i64 h.cap, .int .i64 h.last]] w3 (RsQ13 w.heap.size w3 h A c ra) from by rw [hra]; exact (rfail_any13 h A c w3).mono fun _ _ p => p.q rfl)
          clear hra
          obtain ⟨x0, x1, x2⟩ := HX3.out.c3
          go_wp2_with fail
          refine (HC9.out).mono ?_
          rintro e w4 ⟨A9, c9, rfl, hor, hb⟩
          have HOR := hid hor
          clear hor
          have HB4 := hid (then_w HB3.out hb)
          have HX4 := hid (HX3.out.later hb)
          have HR4 := hid (HR3.out.later hb)
          clear hb
          clear x0 x1 x2
          obtain ⟨k0, k1, k2⟩ := HR4.out.c3
          obtain ⟨f0, f1, f2⟩ := HR4.out.f3
          go_wp2_with fail
          have HK := HR4.out.s3 (.slice A9 ra.1.objs.length c9) (.int .i64 ra.1.cap) (.int .i64 ra.1.last)
          obtain ⟨r0, r1, r2⟩ := HK
          have HBE := below_s3 HB4.out HRW.out (.slice A9 ra.1.objs.length c9) (.int .i64 ra.1.cap) (.int .i64 ra.1.last)
          refine bodyPost_ret (v := .tuple #[.agg #[.slice A9 ra.1.objs.length c9, .int .i64 ra.1.cap, .int .i64 ra.1.last], .int .i64 ra.2.1, .int .i64 ra.2.2]) (by simp [results, Tryz.results21, go_sem, r0, r1, r2]) rfl ?_
          rw [HE.out]
          refine ⟨A9, c9, rfl, ?_, HBE⟩
          rcases HOR.out with h1 | ⟨ls, h1, h2⟩
          next =>
           exact .inl h1
          next =>
           exact .inr ⟨ls, h1, h2.s3_13 HR4.out _ _ _⟩
end Go.Proofs.YtnilempeldlieaaGreat
