/- Is a value a context: the document's word. -/
import Derived.Test.YtalfbdigjaibkaaGreatSF12
namespace Go.Proofs.YtalfbdigjaibkaaGreat
open Go.RowKit
set_option maxRecDepth 100000
theorem may_no12 {h : Hp} {c : Int} (e : mayB h = false) : may12 h c = false := by unfold may12; rw [e]; rfl
theorem may_len12 {h : Hp} {c : Int} (e : (sls12 h c).length ≠ 22) : may12 h c = false := by unfold may12; rw [decide_eq_false e]; simp
set_option maxHeartbeats 8000000 in
theorem rmay_any12 (h : Hp) (cx : Int) (A : Option Addr) (c : Nat) (w : World) (hs : ObsR w A h.objs) (fit : h.Fit) :
    Calls Tryz.prog 19 #[.agg #[.slice A h.objs.length c, .int .i64 h.cap, .int .i64 h.last], .int .i64 cx] w fun e w' => e = .returned (.bool (may12 h cx)) ∧ Below w.heap.size w w' := by
  obtain ⟨w0, hw0⟩ : ∃ w0, w0 = w.alloc (.cells #[Value.slice A h.objs.length c, Value.int .i64 h.cap, Value.int .i64 h.last] 24) := ⟨_, rfl⟩
  have HB0 : Hid (Below w.heap.size w w0) := by show Below _ _ _; rw [hw0]; exact below_alloc _ _
  have HX0 : Hid (Lies w0 w.heap.size 24 #[Value.slice A h.objs.length c, Value.int .i64 h.cap, Value.int .i64 h.last]) := by show Lies _ _ _ _; rw [hw0]; exact Lies.new _ _ _
  have HS := hid hs
  have HF := hid fit
  obtain ⟨l, hl⟩ : ∃ l, l = sls12 h cx := ⟨_, rfl⟩
  obtain ⟨r, hr⟩ : ∃ r, r = may12 h cx := ⟨_, rfl⟩
  have HL := hid hl
  have HR := hid hr
  rw [← hr]
  clear hs fit hr
  go_enter Tryz.func19, Tryz.ntmps19
  go_upto_region 1 with fail
  rw [← hw0]
  clear hw0
  obtain ⟨x0, x1, x2⟩ := HX0.out.c3
  go_wp2_with fail
  refine (rslots_any12 h cx A c _ (HS.out.below HB0.out)).mono ?_
  rintro e w1 ⟨S, d, rfl, hin, -, hb⟩
  rw [← hl] at hin ⊢
  have HB1 := hid (then_w HB0.out hb)
  have HX1 := hid (HX0.out.later hb)
  have IN1 := hid hin
  clear hb hin hl x0 x1 x2
  obtain ⟨x0, x1, x2⟩ := HX1.out.c3
  go_wp2_with fail
  refine (rmay_any h A c _ (HS.out.below HB1.out) HF.out).mono ?_
  rintro e w2 ⟨rfl, hb⟩
  have HB := hid (then_w HB1.out hb)
  have HX2 := hid (HX1.out.later hb)
  have IN2 := hid (IN1.out.below hb)
  clear hb x0 x1 x2
  cases hm : mayB h
  next =>
   have HRR : Hid (r = false) := HR.out.trans (may_no12 hm)
   clear hm
   go_wp2_with fail
   go_ret
   exact ⟨by rw [HRR.out]; rfl, HB.out⟩
  have HMAY := hid hm
  clear hm
  by_cases h22 : l.length = 22
  case neg =>
    have HRR : Hid (r = false) := HR.out.trans (may_len12 (by rw [← HL.out]; exact h22))
    have hI : ¬ (l.length : Int) = 22 := by omega
    have hB : ((l.length : Int) == 22) = false := beq_eq_false_iff_ne.2 hI
    have hC : ((l.length : Int) != 22) = true := bne_iff_ne.2 hI
    go_wp2_with fail
    go_ret
    exact ⟨by rw [HRR.out]; first | rfl | simp [hI], HB.out⟩
  have hne : sls12 h cx ≠ [] := fun e => by rw [← HL.out] at e; rw [e] at h22; cases h22
  obtain ⟨hkc, -⟩ := sls_some12 hne
  obtain ⟨hrc, -⟩ := kd_ref12 hkc
  obtain ⟨bl, ol, rfl, hbl, hcl⟩ := IN2.out (by omega)
  have hp : ∀ k, k < 22 → w2.cell? ⟨bl, ol + k, none⟩ = some (.int .i64 (sl12 h cx k)) := fun k hk => hcl k _ (by
    unfold sl12
    rw [← HL.out, List.getElem?_eq_getElem (by omega), List.getD_eq_getElem?_getD, List.getElem?_eq_getElem (by omega)]; rfl)
  obtain ⟨v0, hv0⟩ : ∃ v, v = sl12 h cx 0 := ⟨_, rfl⟩
  have q0 := hp 0 (by decide)
  rw [← hv0] at q0
  have V0 := hid hv0
  have Q0 := hid q0
  obtain ⟨v1, hv1⟩ : ∃ v, v = sl12 h cx 1 := ⟨_, rfl⟩
  have q1 := hp 1 (by decide)
  rw [← hv1] at q1
  have V1 := hid hv1
  have Q1 := hid q1
  obtain ⟨v2, hv2⟩ : ∃ v, v = sl12 h cx 2 := ⟨_, rfl⟩
  have q2 := hp 2 (by decide)
  rw [← hv2] at q2
  have V2 := hid hv2
  have Q2 := hid q2
  obtain ⟨v3, hv3⟩ : ∃ v, v = sl12 h cx 3 := ⟨_, rfl⟩
  have q3 := hp 3 (by decide)
  rw [← hv3] at q3
  have V3 := hid hv3
  have Q3 := hid q3
  obtain ⟨v5, hv5⟩ : ∃ v, v = sl12 h cx 5 := ⟨_, rfl⟩
  have q5 := hp 5 (by decide)
  rw [← hv5] at q5
  have V5 := hid hv5
  have Q5 := hid q5
  obtain ⟨i, b, off, S3, d3, hi, hil, rfl, hc, -, -, hblt⟩ := ob_read12 HS.out HB.out hrc
  have hilI : (i : Int) < (h.objs.length : Int) := by omega
  have hi0 : (0 : Int) ≤ (i : Int) := by omega
  obtain ⟨cl, hcl2⟩ : ∃ k, k = (obAt h cx).cls := ⟨_, rfl⟩
  have y0 := hc.c0
  rw [← hcl2] at y0
  have Y0 := hid y0
  obtain ⟨M3, hM3⟩ : ∃ M, M = (mt12 h v3).1 := ⟨_, rfl⟩
  obtain ⟨e3, he3⟩ : ∃ e, e = (mt12 h v3).2 := ⟨_, rfl⟩
  obtain ⟨n0, hn0⟩ : ∃ n, n = refI h.objs.length v0 := ⟨_, rfl⟩
  obtain ⟨n5, hn5⟩ : ∃ n, n = refI h.objs.length v5 := ⟨_, rfl⟩
  obtain ⟨s1, hs1⟩ : ∃ n, n = sm12 v1 (M3.code.length - 1) := ⟨_, rfl⟩
  obtain ⟨s2, hs2⟩ : ∃ n, n = sm12 v2 16 := ⟨_, rfl⟩
  have HRB : Hid (r = (decide (e3 = 0) && (decide (cl = 12) && (decide (0 ≤ n0) && (decide (0 ≤ n5) && (decide (0 ≤ s1) && decide (M3.temps ≤ s2))))))) := by
    show _ = _
    rw [HR.out]
    unfold may12 cm12
    rw [HMAY.out, decide_eq_true (show (sls12 h cx).length = 22 by rw [← HL.out]; exact h22), ← V0.out, ← V1.out, ← V2.out, ← V3.out, ← V5.out, ← hcl2, ← hM3, ← he3, ← hn0, ← hn5, ← hs1, ← hs2]
    rfl
  have HCL : Hid ((M3.code.length : Int) ≤ 1000) := by
    show _ ≤ _
    by_cases z : (mt12 h v3).2 = 0
    next =>
     obtain ⟨z1, z2⟩ := mt_ok12 z
     have z3 : M3.code = (cd12 h v3).1 := by rw [hM3, z2]; rfl
     have z4 := up_len12 (obAt h (sl12 h v3 3)).text.data.toList
     have z5 : M3.code.length ≤ 32 := by rw [z3]; exact z4
     omega
    next =>
     rw [hM3, mt_no12 z]; decide
  have HM3 := hid hM3
  have HE3 := hid he3
  have N0 := hid hn0
  have N5 := hid hn5
  have S1 := hid hs1
  have S2 := hid hs2
  have HI := hid hi
  rw [h22]
  clear hne hkc hrc hbl hcl hp hv0 hv1 hv2 hv3 hv5 hM3 he3 hn0 hn5 hs1 hs2 h22 hi hil hc hblt q0 q1 q2 q5 y0 hcl2 HR
  obtain ⟨x0, x1, x2⟩ := HX2.out.c3
  go_upto_region 4 with fail
  go_cut [6, 7] from 19 to 26 (fun p z wx => ∃ bx CA cc LA lc, p = .pointer (some ⟨bx, 0, none⟩) ∧ z = .int .i64 e3 ∧ Hid (Lies wx bx 32 #[.int .i64 M3.prim, .int .i64 M3.args, .int .i64 M3.temps, .slice CA M3.code.length cc, .slice LA M3.lits.length lc]) ∧ Hid (Below w2.heap.size w2 wx))
  case first =>
    have BB0 := hid ((Below.refl w2.heap.size w2).drew)
    have z0 := cell_later BB0.out x0
    have z1 := cell_later BB0.out x1
    have z2 := cell_later BB0.out x2
    have z3 := cell_later BB0.out q3
    refine wp_region_held_drew (S := (fun w' => w'.cell? ⟨w.heap.size, 0, none⟩ = some (.slice (some ⟨b, off, none⟩) h.objs.length c) ∧ w'.cell? ⟨w.heap.size, 1, none⟩ = some (.int .i64 h.cap) ∧ w'.cell? ⟨w.heap.size, 2, none⟩ = some (.int .i64 h.last) ∧ w'.cell? ⟨bl, ol + 3, none⟩ = some (.int .i64 v3))) (by kernel_rfl) ?_ (fun hH0 => ?_)
    next =>
     exact ⟨cell_later BB0.out x0, cell_later BB0.out x1, cell_later BB0.out x2, cell_later BB0.out q3⟩
    refine tkI 0 ⟨some 20, .load 24 (.tmp 2), 24, "ref.go:57", #[], none⟩ ?v28 rfl (by kernel_rfl) (by rfl) ?y28 ?_
    case y28 => intro w hSw; (try dsimp only at hSw); go_simp; all_goals with_reducible rfl
    try simp only [apt12]
    refine tkI 1 ⟨some 21, .move (.tmp 5), 30, "ref.go:57", #[], none⟩ ?v29 rfl (by kernel_rfl) (by rfl) ?y29 ?_
    case y29 => intro w hSw; (try dsimp only at hSw); go_simp; all_goals with_reducible rfl
    try simp only [apt12]
    refine tkI 2 ⟨some 22, .indexAddr 30 (.tmp 21) (.const (Go.Value.int .i64 3)), 0, "ref.go:57", #[⟨1, .data⟩], none⟩ ?v30 rfl (by kernel_rfl) (by rfl) ?y30 ?_
    case y30 => intro w hSw; (try dsimp only at hSw); go_simp; all_goals with_reducible rfl
    try simp only [apt12]
    refine tkI 3 ⟨some 23, .load 3 (.tmp 22), 3, "ref.go:57", #[⟨2, .data⟩], none⟩ ?v31 rfl (by kernel_rfl) (by rfl) ?y31 ?_
    case y31 => intro w hSw; (try dsimp only at hSw); go_simp; all_goals with_reducible rfl
    try simp only [apt12]
    refine wpAnyH_ready (rs := [4, 8]) (by kernel_rfl) (by simp) ?_
    refine AllReadyH.cons (i := 4) (o := ⟨some 24, .call { callee := .value (.func 12), args := #[.tmp 20, .tmp 23], argTypes := #[24, 3] }, 34, "ref.go:57", #[⟨0, .data⟩, ⟨3, .data⟩], none⟩) rfl (fun K hK => ?_) (AllReadyH.cons (i := 8) (o := ⟨some 6, .alloc 32, 0, "ref.go:57", #[], none⟩) rfl (fun K hK => ?_) AllReadyH.nil)
    next =>
     go_simp
     go_at_call 12
     refine (rmethod_any12 h v3 _ c _ (HS.out.below (then_w HB.out BB0.out)) HF.out).mono ?_
     rintro e u1 ⟨CA, cc, LA, lc, rfl, hins, -, hb, hfr⟩
     rw [← HM3.out] at hins
     rw [← HM3.out, ← HE3.out]
     have BB1 := hid (then_w BB0.out hb)
     have IC1 := hid hins
     refine hK.out _ _ ?_ (fun hH1 => ?_)
     next =>
      exact ⟨cell_later BB1.out x0, cell_later BB1.out x1, cell_later BB1.out x2, cell_later BB1.out q3⟩
     clear hK K
     try simp only [apt12]
     clear hb hins hfr
     refine tkI 5 ⟨some 19, .move (.tmp 24), 34, "ref.go:57", #[⟨4, .data⟩], none⟩ ?v32 rfl (by kernel_rfl) (by rfl) ?y32 ?_
     case y32 => intro w hSw; (try dsimp only at hSw); go_simp; all_goals with_reducible rfl
     try simp only [apt12]
     refine tkI 6 ⟨some 25, .extract (.tmp 19) 0, 32, "ref.go:57", #[⟨5, .data⟩], none⟩ ?v33 rfl (by kernel_rfl) (by rfl) ?y33 ?_
     case y33 => intro w hSw; (try dsimp only at hSw); go_simp; all_goals with_reducible rfl
     try simp only [apt12]
     refine tkI 7 ⟨some 26, .extract (.tmp 19) 1, 33, "ref.go:57", #[⟨5, .data⟩, ⟨9, .gcOnly .lateStores⟩], none⟩ ?v34 rfl (by kernel_rfl) (by rfl) ?y34 ?_
     case y34 => intro w hSw; (try dsimp only at hSw); go_simp; all_goals with_reducible rfl
     try simp only [apt12]
     refine wpAnyH_ready (rs := [8]) (by kernel_rfl) (by simp) ?_
     refine AllReadyH.cons (i := 8) (o := ⟨some 6, .alloc 32, 0, "ref.go:57", #[], none⟩) rfl (fun K hK => ?_) AllReadyH.nil
     go_simp
     obtain ⟨u2, hu⟩ : ∃ x, x = u1.alloc (.cells #[.int .i64 0, .int .i64 0, .int .i64 0, .slice none 0 0, .slice none 0 0] 32) := ⟨_, rfl⟩
     obtain ⟨bx, hg⟩ : ∃ x, x = u1.heap.size := ⟨_, rfl⟩
     have hb : Below u1.heap.size u1 u2 := by rw [hu]; exact below_alloc u1 _
     have HX9 : Hid (w2.heap.size ≤ bx) := by show _ ≤ _; rw [hg]; exact BB1.out.size
     have LB2 := hid (show Lies u2 bx 32 #[.int .i64 0, .int .i64 0, .int .i64 0, .slice none 0 0, .slice none 0 0] by rw [hu, hg]; exact Lies.new u1 _ _)
     have BB2 := hid (then_w BB1.out hb)
     have IC2 := hid (IC1.out.below hb)
     try simp only [← hg]
     try rw [← hu]
     refine hK.out _ _ ?_ (fun hH2 => ?_)
     next =>
      exact ⟨cell_later BB2.out x0, cell_later BB2.out x1, cell_later BB2.out x2, cell_later BB2.out q3⟩
     clear hK K
     try simp only [apt12]
     clear hb hu hg
     refine wpAnyH_ready (rs := [9]) (by kernel_rfl) (by simp) ?_
     refine AllReadyH.cons (i := 9) (o := ⟨none, .store 32 (.tmp 6) (.tmp 25), 0, "ref.go:57", #[⟨8, .data⟩, ⟨6, .data⟩, ⟨4, .chain⟩, ⟨0, .phase⟩, ⟨1, .phase⟩, ⟨2, .phase⟩, ⟨3, .phase⟩, ⟨4, .phase⟩, ⟨5, .phase⟩, ⟨6, .phase⟩, ⟨7, .textOnly .lateStores⟩, ⟨8, .phase⟩], none⟩) rfl (fun K hK => ?_) AllReadyH.nil
     obtain ⟨r0, r1, r2, r3, r4⟩ := LB2.out.c5
     obtain ⟨f0, f1, f2, f3, f4⟩ := LB2.out.f5
     have BB3 := hid (below_five12 BB2.out HX9.out (.int .i64 M3.prim) (.int .i64 M3.args) (.int .i64 M3.temps) (.slice CA M3.code.length cc) (.slice LA M3.lits.length lc))
     have LF : Hid (Lies (((((u2.setCell ⟨bx, 0, none⟩ (.int .i64 M3.prim)).setCell ⟨bx, 1, none⟩ (.int .i64 M3.args)).setCell ⟨bx, 2, none⟩ (.int .i64 M3.temps)).setCell ⟨bx, 3, none⟩ (.slice CA M3.code.length cc)).setCell ⟨bx, 4, none⟩ (.slice LA M3.lits.length lc)) bx 32 #[.int .i64 M3.prim, .int .i64 M3.args, .int .i64 M3.temps, .slice CA M3.code.length cc, .slice LA M3.lits.length lc]) := by
       show Lies _ _ _ _
       exact (((((LB2.out.set_ 0 (.int .i64 M3.prim)).set_ 1 (.int .i64 M3.args)).set_ 2 (.int .i64 M3.temps)).set_ 3 (.slice CA M3.code.length cc)).set_ 4 (.slice LA M3.lits.length lc))
     go_simp
     refine hK.out _ _ ?_ (fun hH3 => ?_)
     next =>
      exact ⟨cell_later BB3.out x0, cell_later BB3.out x1, cell_later BB3.out x2, cell_later BB3.out q3⟩
     clear hK K
     try simp only [apt12]
     clear r0 r1 r2 r3 r4 f0 f1 f2 f3 f4
     refine tkI 10 ⟨some 7, .assign (.tmp 26), 33, "ref.go:57", #[⟨7, .data⟩, ⟨9, .chain⟩, ⟨0, .phase⟩, ⟨1, .phase⟩, ⟨2, .phase⟩, ⟨3, .phase⟩, ⟨4, .phase⟩, ⟨5, .phase⟩, ⟨6, .phase⟩, ⟨7, .phase⟩, ⟨8, .phase⟩, ⟨9, .phase⟩], none⟩ ?v35 rfl (by kernel_rfl) (by rfl) ?y35 ?_
     case y35 => intro w hSw; (try dsimp only at hSw); go_simp; all_goals with_reducible rfl
     try simp only [apt12]
     refine wpAnyH_done (by kernel_rfl) ?_ _
     go_wp2_with fail
     go_meet
     exact ⟨bx, CA, cc, LA, lc, rfl, rfl, LF, BB3⟩
    next =>
     go_simp
     obtain ⟨u1, hu⟩ : ∃ x, x = (w2.alloc (.cells #[.int .i64 0, .int .i64 0, .int .i64 0, .slice none 0 0, .slice none 0 0] 32)).drew := ⟨_, rfl⟩
     obtain ⟨bx, hg⟩ : ∃ x, x = w2.heap.size := ⟨_, rfl⟩
     have hb : Below w2.drew.heap.size w2.drew u1 := by rw [hu]; exact below_alloc w2.drew _
     have HX9 : Hid (w2.heap.size ≤ bx) := by show _ ≤ _; rw [hg]; exact BB0.out.size
     have LB1 := hid (show Lies u1 bx 32 #[.int .i64 0, .int .i64 0, .int .i64 0, .slice none 0 0, .slice none 0 0] by rw [hu, hg]; exact Lies.new w2.drew _ _)
     have BB1 := hid (then_w BB0.out hb)
     try simp only [← hg]
     try rw [← hu]
     refine hK.out _ _ ?_ (fun hH1 => ?_)
     next =>
      exact ⟨cell_later BB1.out x0, cell_later BB1.out x1, cell_later BB1.out x2, cell_later BB1.out q3⟩
     clear hK K
     try simp only [apt12]
     clear hb hu hg
     refine wpAnyH_ready (rs := [4]) (by kernel_rfl) (by simp) ?_
     refine AllReadyH.cons (i := 4) (o := ⟨some 24, .call { callee := .value (.func 12), args := #[.tmp 20, .tmp 23], argTypes := #[24, 3] }, 34, "ref.go:57", #[⟨0, .data⟩, ⟨3, .data⟩], none⟩) rfl (fun K hK => ?_) AllReadyH.nil
     go_simp
     go_at_call 12
     refine (rmethod_any12 h v3 _ c _ (HS.out.below (then_w HB.out BB1.out)) HF.out).mono ?_
     rintro e u2 ⟨CA, cc, LA, lc, rfl, hins, -, hb, hfr⟩
     rw [← HM3.out] at hins
     rw [← HM3.out, ← HE3.out]
     have BB2 := hid (then_w BB1.out hb)
     have IC2 := hid hins
     have LB2 := hid (LB1.out.later hb)
     refine hK.out _ _ ?_ (fun hH2 => ?_)
     next =>
      exact ⟨cell_later BB2.out x0, cell_later BB2.out x1, cell_later BB2.out x2, cell_later BB2.out q3⟩
     clear hK K
     try simp only [apt12]
     clear hb hins hfr
     refine tkI 5 ⟨some 19, .move (.tmp 24), 34, "ref.go:57", #[⟨4, .data⟩], none⟩ ?v36 rfl (by kernel_rfl) (by rfl) ?y36 ?_
     case y36 => intro w hSw; (try dsimp only at hSw); go_simp; all_goals with_reducible rfl
     try simp only [apt12]
     refine tkI 6 ⟨some 25, .extract (.tmp 19) 0, 32, "ref.go:57", #[⟨5, .data⟩], none⟩ ?v37 rfl (by kernel_rfl) (by rfl) ?y37 ?_
     case y37 => intro w hSw; (try dsimp only at hSw); go_simp; all_goals with_reducible rfl
     try simp only [apt12]
     refine tkI 7 ⟨some 26, .extract (.tmp 19) 1, 33, "ref.go:57", #[⟨5, .data⟩, ⟨9, .gcOnly .lateStores⟩], none⟩ ?v38 rfl (by kernel_rfl) (by rfl) ?y38 ?_
     case y38 => intro w hSw; (try dsimp only at hSw); go_simp; all_goals with_reducible rfl
     try simp only [apt12]
     refine wpAnyH_ready (rs := [9]) (by kernel_rfl) (by simp) ?_
     refine AllReadyH.cons (i := 9) (o := ⟨none, .store 32 (.tmp 6) (.tmp 25), 0, "ref.go:57", #[⟨8, .data⟩, ⟨6, .data⟩, ⟨4, .chain⟩, ⟨0, .phase⟩, ⟨1, .phase⟩, ⟨2, .phase⟩, ⟨3, .phase⟩, ⟨4, .phase⟩, ⟨5, .phase⟩, ⟨6, .phase⟩, ⟨7, .textOnly .lateStores⟩, ⟨8, .phase⟩], none⟩) rfl (fun K hK => ?_) AllReadyH.nil
     obtain ⟨r0, r1, r2, r3, r4⟩ := LB2.out.c5
     obtain ⟨f0, f1, f2, f3, f4⟩ := LB2.out.f5
     have BB3 := hid (below_five12 BB2.out HX9.out (.int .i64 M3.prim) (.int .i64 M3.args) (.int .i64 M3.temps) (.slice CA M3.code.length cc) (.slice LA M3.lits.length lc))
     have LF : Hid (Lies (((((u2.setCell ⟨bx, 0, none⟩ (.int .i64 M3.prim)).setCell ⟨bx, 1, none⟩ (.int .i64 M3.args)).setCell ⟨bx, 2, none⟩ (.int .i64 M3.temps)).setCell ⟨bx, 3, none⟩ (.slice CA M3.code.length cc)).setCell ⟨bx, 4, none⟩ (.slice LA M3.lits.length lc)) bx 32 #[.int .i64 M3.prim, .int .i64 M3.args, .int .i64 M3.temps, .slice CA M3.code.length cc, .slice LA M3.lits.length lc]) := by
       show Lies _ _ _ _
       exact (((((LB2.out.set_ 0 (.int .i64 M3.prim)).set_ 1 (.int .i64 M3.args)).set_ 2 (.int .i64 M3.temps)).set_ 3 (.slice CA M3.code.length cc)).set_ 4 (.slice LA M3.lits.length lc))
     go_simp
     refine hK.out _ _ ?_ (fun hH3 => ?_)
     next =>
      exact ⟨cell_later BB3.out x0, cell_later BB3.out x1, cell_later BB3.out x2, cell_later BB3.out q3⟩
     clear hK K
     try simp only [apt12]
     clear r0 r1 r2 r3 r4 f0 f1 f2 f3 f4
     refine tkI 10 ⟨some 7, .assign (.tmp 26), 33, "ref.go:57", #[⟨7, .data⟩, ⟨9, .chain⟩, ⟨0, .phase⟩, ⟨1, .phase⟩, ⟨2, .phase⟩, ⟨3, .phase⟩, ⟨4, .phase⟩, ⟨5, .phase⟩, ⟨6, .phase⟩, ⟨7, .phase⟩, ⟨8, .phase⟩, ⟨9, .phase⟩], none⟩ ?v39 rfl (by kernel_rfl) (by rfl) ?y39 ?_
     case y39 => intro w hSw; (try dsimp only at hSw); go_simp; all_goals with_reducible rfl
     try simp only [apt12]
     refine wpAnyH_done (by kernel_rfl) ?_ _
     go_wp2_with fail
     go_meet
     exact ⟨bx, CA, cc, LA, lc, rfl, rfl, LF, BB3⟩
  case rest =>
    rename World => w3
    obtain ⟨bx, CA, cc, LA, lc, rfl, rfl, LF, BF⟩ := hcut
    have HB3 := hid (then_w HB.out BF.out)
    have HX3 := hid (HX2.out.later BF.out)
    have m2 := LF.out.cell 2
    have m3 := LF.out.cell 3
    simp only [List.getElem?_toArray, List.getElem?_cons_zero, List.getElem?_cons_succ] at m2 m3
    have q0 := cell_later BF.out Q0.out
    have q1 := cell_later BF.out Q1.out
    have q2 := cell_later BF.out Q2.out
    have q5 := cell_later BF.out Q5.out
    have y0 := cell_later BF.out Y0.out
    have hlw : IntKind.i64.wrap ((M3.code.length : Int) - 1) = (M3.code.length : Int) - 1 := IntWalk.i64_in _ ⟨by omega, by have := HCL.out; omega⟩
    clear x0 x1 x2 q3
    obtain ⟨x0, x1, x2⟩ := HX3.out.c3
    by_cases g0 : e3 = 0
    next =>
     have g0B : (e3 == 0) = true := beq_iff_eq.2 g0
     by_cases g1 : cl = 12
     next =>
      have g1B : (cl == 12) = true := beq_iff_eq.2 g1
      by_cases g2 : 0 ≤ n0
      next =>
       by_cases g3 : 0 ≤ n5
       next =>
        by_cases g4 : 0 ≤ s1
        next =>
         by_cases g5 : M3.temps ≤ s2
         next =>
          have HV : Hid (r = true) := by
            show _ = _
            rw [HRB.out]
            rw [decide_eq_true g0, decide_eq_true g1, decide_eq_true g2, decide_eq_true g3, decide_eq_true g4, decide_eq_true g5]; rfl
          go_upto_region 5 with fail
          refine wp_region_held_drew (S := (fun w' => w'.cell? ⟨w.heap.size, 0, none⟩ = some (.slice (some ⟨b, off, none⟩) h.objs.length c) ∧ w'.cell? ⟨w.heap.size, 1, none⟩ = some (.int .i64 h.cap) ∧ w'.cell? ⟨w.heap.size, 2, none⟩ = some (.int .i64 h.last) ∧ w'.cell? ⟨bl, ol, none⟩ = some (.int .i64 v0) ∧ w'.cell? ⟨bl, ol + 1, none⟩ = some (.int .i64 v1) ∧ w'.cell? ⟨bl, ol + 2, none⟩ = some (.int .i64 v2) ∧ w'.cell? ⟨bl, ol + 5, none⟩ = some (.int .i64 v5) ∧ w'.cell? ⟨b, off + i * 6, none⟩ = some (.int .i64 cl) ∧ w'.cell? ⟨bx, 2, none⟩ = some (.int .i64 M3.temps) ∧ w'.cell? ⟨bx, 3, none⟩ = some (.slice CA M3.code.length cc) ∧ Below w3.heap.size w3 w')) (by kernel_rfl) ?_ (fun hH0 => ?_)
          next =>
           exact ⟨cell_later (Below.refl w3.heap.size w3).drew x0, cell_later (Below.refl w3.heap.size w3).drew x1, cell_later (Below.refl w3.heap.size w3).drew x2, cell_later (Below.refl w3.heap.size w3).drew q0, cell_later (Below.refl w3.heap.size w3).drew q1, cell_later (Below.refl w3.heap.size w3).drew q2, cell_later (Below.refl w3.heap.size w3).drew q5, cell_later (Below.refl w3.heap.size w3).drew y0, cell_later (Below.refl w3.heap.size w3).drew m2, cell_later (Below.refl w3.heap.size w3).drew m3, (Below.refl _ _).drew⟩
          refine tkI 0 ⟨some 27, .move (.tmp 7), 33, "ref.go:58", #[], none⟩ ?v325 rfl (by kernel_rfl) (by rfl) ?y325 ?_
          case y325 => intro w hSw; (try dsimp only at hSw); go_simp; all_goals with_reducible rfl
          try simp only [apt12]
          refine tkI 1 ⟨some 28, .binOp .eql 33 (.tmp 27) (.const (Go.Value.int .i64 0)) 33, 4, "ref.go:58", #[⟨0, .data⟩], none⟩ ?v326 rfl (by kernel_rfl) (by rfl) ?y326 ?_
          case y326 => intro w hSw; (try dsimp only at hSw); go_simp; all_goals with_reducible rfl
          try simp only [apt12]
          refine tkI 2 ⟨some 29, .move (.tmp 28), 4, "ref.go:58", #[⟨1, .data⟩], none⟩ ?v327 rfl (by kernel_rfl) (by rfl) ?y327 ?_
          case y327 => intro w hSw; (try dsimp only at hSw); go_simp; all_goals with_reducible rfl
          try simp only [apt12]
          refine tkI 3 ⟨some 30, .fieldAddr 24 (.tmp 2) 0, 0, "ref.go:58", #[⟨2, .guard⟩], some (2, true)⟩ ?v328 rfl (by kernel_rfl) (by rfl) ?y328 ?_
          case y328 => intro w hSw; (try dsimp only at hSw); go_simp; all_goals with_reducible rfl
          try simp only [apt12]
          refine tkI 4 ⟨some 31, .load 22 (.tmp 30), 22, "ref.go:58", #[⟨3, .data⟩, ⟨2, .guard⟩], some (2, true)⟩ ?v329 rfl (by kernel_rfl) (by rfl) ?y329 ?_
          case y329 => intro w hSw; (try dsimp only at hSw); go_simp; all_goals with_reducible rfl
          try simp only [apt12]
          refine tkI 5 ⟨some 32, .load 24 (.tmp 2), 24, "ref.go:58", #[⟨2, .guard⟩], some (2, true)⟩ ?v330 rfl (by kernel_rfl) (by rfl) ?y330 ?_
          case y330 => intro w hSw; (try dsimp only at hSw); go_simp; all_goals with_reducible rfl
          try simp only [apt12]
          refine tkI 6 ⟨some 33, .move (.tmp 1), 3, "ref.go:58", #[⟨2, .guard⟩], some (2, true)⟩ ?v331 rfl (by kernel_rfl) (by rfl) ?y331 ?_
          case y331 => intro w hSw; (try dsimp only at hSw); go_simp; all_goals with_reducible rfl
          try simp only [apt12]
          refine wpAnyH_ready (rs := [7]) (by kernel_rfl) (by simp) ?_
          refine AllReadyH.cons (i := 7) (o := ⟨some 34, .call { callee := .value (.func 40), args := #[.tmp 32, .tmp 33], argTypes := #[24, 3] }, 3, "ref.go:58", #[⟨5, .data⟩, ⟨6, .data⟩, ⟨2, .chain⟩, ⟨2, .guard⟩], some (2, true)⟩) rfl (fun K hK => ?_) AllReadyH.nil
          go_simp
          go_at_call 40
          refine (rref_any h cx _ c _).mono ?_
          rintro e u1 ⟨rfl, hb⟩
          rw [HI.out]
          refine hK.out _ _ ?_ (fun hH1 => ?_)
          next =>
           exact ⟨cell_later hb hH0.1, cell_later hb hH0.2.1, cell_later hb hH0.2.2.1, cell_later hb hH0.2.2.2.1, cell_later hb hH0.2.2.2.2.1, cell_later hb hH0.2.2.2.2.2.1, cell_later hb hH0.2.2.2.2.2.2.1, cell_later hb hH0.2.2.2.2.2.2.2.1, cell_later hb hH0.2.2.2.2.2.2.2.2.1, cell_later hb hH0.2.2.2.2.2.2.2.2.2.1, then_w hH0.2.2.2.2.2.2.2.2.2.2 hb⟩
          clear hK K
          try simp only [apt12]
          clear hb
          refine tkI 8 ⟨some 35, .indexAddr 22 (.tmp 31) (.tmp 34), 0, "ref.go:58", #[⟨4, .data⟩, ⟨7, .data⟩, ⟨2, .guard⟩], some (2, true)⟩ ?v332 rfl (by kernel_rfl) (by rfl) ?y332 ?_
          case y332 => intro w hSw; (try dsimp only at hSw); go_simp; all_goals with_reducible rfl
          try simp only [apt12]
          refine tkI 9 ⟨some 36, .fieldAddr 60 (.tmp 35) 0, 0, "ref.go:58", #[⟨8, .data⟩, ⟨2, .guard⟩], some (2, true)⟩ ?v333 rfl (by kernel_rfl) (by rfl) ?y333 ?_
          case y333 => intro w hSw; (try dsimp only at hSw); go_simp; all_goals with_reducible rfl
          try simp only [apt12]
          refine tkI 10 ⟨some 37, .load 3 (.tmp 36), 3, "ref.go:58", #[⟨9, .data⟩, ⟨2, .guard⟩], some (2, true)⟩ ?v334 rfl (by kernel_rfl) (by rfl) ?y334 ?_
          case y334 => intro w hSw; (try dsimp only at hSw); go_simp; all_goals with_reducible rfl
          try simp only [apt12]
          refine tkI 11 ⟨some 38, .binOp .eql 3 (.tmp 37) (.const (Go.Value.int .i64 12)) 3, 4, "ref.go:58", #[⟨10, .data⟩, ⟨2, .guard⟩], some (2, true)⟩ ?v335 rfl (by kernel_rfl) (by rfl) ?y335 ?_
          case y335 => intro w hSw; (try dsimp only at hSw); go_simp; all_goals with_reducible rfl
          try simp only [apt12]
          refine tkI 12 ⟨some 39, .pick (.tmp 29) (.tmp 38) (.const (Go.Value.bool false)), 4, "ref.go:58", #[⟨2, .data⟩, ⟨11, .data⟩], none⟩ ?v336 rfl (by kernel_rfl) (by rfl) ?y336 ?_
          case y336 => intro w hSw; (try dsimp only at hSw); go_simp; all_goals with_reducible rfl
          try simp only [apt12]
          refine tkI 13 ⟨some 40, .move (.tmp 39), 4, "ref.go:58", #[⟨12, .data⟩, ⟨7, .chain⟩], none⟩ ?v337 rfl (by kernel_rfl) (by rfl) ?y337 ?_
          case y337 => intro w hSw; (try dsimp only at hSw); go_simp; all_goals with_reducible rfl
          try simp only [apt12]
          refine tkI 14 ⟨some 41, .load 24 (.tmp 2), 24, "ref.go:58", #[⟨13, .guard⟩], some (13, true)⟩ ?v338 rfl (by kernel_rfl) (by rfl) ?y338 ?_
          case y338 => intro w hSw; (try dsimp only at hSw); go_simp; all_goals with_reducible rfl
          try simp only [apt12]
          refine tkI 15 ⟨some 42, .move (.tmp 5), 30, "ref.go:58", #[⟨13, .guard⟩], some (13, true)⟩ ?v339 rfl (by kernel_rfl) (by rfl) ?y339 ?_
          case y339 => intro w hSw; (try dsimp only at hSw); go_simp; all_goals with_reducible rfl
          try simp only [apt12]
          refine tkI 16 ⟨some 43, .indexAddr 30 (.tmp 42) (.const (Go.Value.int .i64 0)), 0, "ref.go:58", #[⟨15, .data⟩, ⟨13, .guard⟩], some (13, true)⟩ ?v340 rfl (by kernel_rfl) (by rfl) ?y340 ?_
          case y340 => intro w hSw; (try dsimp only at hSw); go_simp; all_goals with_reducible rfl
          try simp only [apt12]
          refine tkI 17 ⟨some 44, .load 3 (.tmp 43), 3, "ref.go:58", #[⟨16, .data⟩, ⟨13, .guard⟩], some (13, true)⟩ ?v341 rfl (by kernel_rfl) (by rfl) ?y341 ?_
          case y341 => intro w hSw; (try dsimp only at hSw); go_simp; all_goals with_reducible rfl
          try simp only [apt12]
          refine wpAnyH_ready (rs := [18]) (by kernel_rfl) (by simp) ?_
          refine AllReadyH.cons (i := 18) (o := ⟨some 45, .call { callee := .value (.func 40), args := #[.tmp 41, .tmp 44], argTypes := #[24, 3] }, 3, "ref.go:58", #[⟨14, .data⟩, ⟨17, .data⟩, ⟨13, .chain⟩, ⟨13, .guard⟩], some (13, true)⟩) rfl (fun K hK => ?_) AllReadyH.nil
          go_simp
          go_at_call 40
          refine (rref_any h v0 _ c _).mono ?_
          rintro e u2 ⟨rfl, hb⟩
          rw [← N0.out]
          refine hK.out _ _ ?_ (fun hH2 => ?_)
          next =>
           exact ⟨cell_later hb hH1.1, cell_later hb hH1.2.1, cell_later hb hH1.2.2.1, cell_later hb hH1.2.2.2.1, cell_later hb hH1.2.2.2.2.1, cell_later hb hH1.2.2.2.2.2.1, cell_later hb hH1.2.2.2.2.2.2.1, cell_later hb hH1.2.2.2.2.2.2.2.1, cell_later hb hH1.2.2.2.2.2.2.2.2.1, cell_later hb hH1.2.2.2.2.2.2.2.2.2.1, then_w hH1.2.2.2.2.2.2.2.2.2.2 hb⟩
          clear hK K
          try simp only [apt12]
          clear hb
          refine tkI 19 ⟨some 46, .binOp .geq 3 (.tmp 45) (.const (Go.Value.int .i64 0)) 3, 4, "ref.go:58", #[⟨18, .data⟩, ⟨13, .guard⟩], some (13, true)⟩ ?v342 rfl (by kernel_rfl) (by rfl) ?y342 ?_
          case y342 => intro w hSw; (try dsimp only at hSw); go_simp; all_goals with_reducible rfl
          try simp only [apt12]
          refine tkI 20 ⟨some 47, .pick (.tmp 40) (.tmp 46) (.const (Go.Value.bool false)), 4, "ref.go:58", #[⟨13, .data⟩, ⟨19, .data⟩], none⟩ ?v343 rfl (by kernel_rfl) (by rfl) ?y343 ?_
          case y343 => intro w hSw; (try dsimp only at hSw); go_simp; all_goals with_reducible rfl
          try simp only [apt12]
          refine tkI 21 ⟨some 48, .move (.tmp 47), 4, "ref.go:58", #[⟨20, .data⟩, ⟨18, .chain⟩], none⟩ ?v344 rfl (by kernel_rfl) (by rfl) ?y344 ?_
          case y344 => intro w hSw; (try dsimp only at hSw); go_simp; all_goals with_reducible rfl
          try simp only [apt12]
          refine tkI 22 ⟨some 49, .load 24 (.tmp 2), 24, "ref.go:58", #[⟨21, .guard⟩], some (21, true)⟩ ?v345 rfl (by kernel_rfl) (by rfl) ?y345 ?_
          case y345 => intro w hSw; (try dsimp only at hSw); go_simp; all_goals with_reducible rfl
          try simp only [apt12]
          refine tkI 23 ⟨some 50, .move (.tmp 5), 30, "ref.go:58", #[⟨21, .guard⟩], some (21, true)⟩ ?v346 rfl (by kernel_rfl) (by rfl) ?y346 ?_
          case y346 => intro w hSw; (try dsimp only at hSw); go_simp; all_goals with_reducible rfl
          try simp only [apt12]
          refine tkI 24 ⟨some 51, .indexAddr 30 (.tmp 50) (.const (Go.Value.int .i64 5)), 0, "ref.go:58", #[⟨23, .data⟩, ⟨21, .guard⟩], some (21, true)⟩ ?v347 rfl (by kernel_rfl) (by rfl) ?y347 ?_
          case y347 => intro w hSw; (try dsimp only at hSw); go_simp; all_goals with_reducible rfl
          try simp only [apt12]
          refine tkI 25 ⟨some 52, .load 3 (.tmp 51), 3, "ref.go:58", #[⟨24, .data⟩, ⟨21, .guard⟩], some (21, true)⟩ ?v348 rfl (by kernel_rfl) (by rfl) ?y348 ?_
          case y348 => intro w hSw; (try dsimp only at hSw); go_simp; all_goals with_reducible rfl
          try simp only [apt12]
          refine wpAnyH_ready (rs := [26]) (by kernel_rfl) (by simp) ?_
          refine AllReadyH.cons (i := 26) (o := ⟨some 53, .call { callee := .value (.func 40), args := #[.tmp 49, .tmp 52], argTypes := #[24, 3] }, 3, "ref.go:58", #[⟨22, .data⟩, ⟨25, .data⟩, ⟨21, .chain⟩, ⟨21, .guard⟩], some (21, true)⟩) rfl (fun K hK => ?_) AllReadyH.nil
          go_simp
          go_at_call 40
          refine (rref_any h v5 _ c _).mono ?_
          rintro e u3 ⟨rfl, hb⟩
          rw [← N5.out]
          refine hK.out _ _ ?_ (fun hH3 => ?_)
          next =>
           exact ⟨cell_later hb hH2.1, cell_later hb hH2.2.1, cell_later hb hH2.2.2.1, cell_later hb hH2.2.2.2.1, cell_later hb hH2.2.2.2.2.1, cell_later hb hH2.2.2.2.2.2.1, cell_later hb hH2.2.2.2.2.2.2.1, cell_later hb hH2.2.2.2.2.2.2.2.1, cell_later hb hH2.2.2.2.2.2.2.2.2.1, cell_later hb hH2.2.2.2.2.2.2.2.2.2.1, then_w hH2.2.2.2.2.2.2.2.2.2.2 hb⟩
          clear hK K
          try simp only [apt12]
          clear hb
          refine tkI 27 ⟨some 54, .binOp .geq 3 (.tmp 53) (.const (Go.Value.int .i64 0)) 3, 4, "ref.go:58", #[⟨26, .data⟩, ⟨21, .guard⟩], some (21, true)⟩ ?v349 rfl (by kernel_rfl) (by rfl) ?y349 ?_
          case y349 => intro w hSw; (try dsimp only at hSw); go_simp; all_goals with_reducible rfl
          try simp only [apt12]
          refine tkI 28 ⟨some 55, .pick (.tmp 48) (.tmp 54) (.const (Go.Value.bool false)), 4, "ref.go:58", #[⟨21, .data⟩, ⟨27, .data⟩], none⟩ ?v350 rfl (by kernel_rfl) (by rfl) ?y350 ?_
          case y350 => intro w hSw; (try dsimp only at hSw); go_simp; all_goals with_reducible rfl
          try simp only [apt12]
          refine tkI 29 ⟨some 56, .move (.tmp 55), 4, "ref.go:58", #[⟨28, .data⟩, ⟨26, .chain⟩], none⟩ ?v351 rfl (by kernel_rfl) (by rfl) ?y351 ?_
          case y351 => intro w hSw; (try dsimp only at hSw); go_simp; all_goals with_reducible rfl
          try simp only [apt12]
          refine tkI 30 ⟨some 57, .move (.tmp 5), 30, "ref.go:58", #[⟨29, .guard⟩], some (29, true)⟩ ?v352 rfl (by kernel_rfl) (by rfl) ?y352 ?_
          case y352 => intro w hSw; (try dsimp only at hSw); go_simp; all_goals with_reducible rfl
          try simp only [apt12]
          refine tkI 31 ⟨some 58, .indexAddr 30 (.tmp 57) (.const (Go.Value.int .i64 1)), 0, "ref.go:58", #[⟨30, .data⟩, ⟨29, .guard⟩], some (29, true)⟩ ?v353 rfl (by kernel_rfl) (by rfl) ?y353 ?_
          case y353 => intro w hSw; (try dsimp only at hSw); go_simp; all_goals with_reducible rfl
          try simp only [apt12]
          refine tkI 32 ⟨some 59, .load 3 (.tmp 58), 3, "ref.go:58", #[⟨31, .data⟩, ⟨29, .guard⟩], some (29, true)⟩ ?v354 rfl (by kernel_rfl) (by rfl) ?y354 ?_
          case y354 => intro w hSw; (try dsimp only at hSw); go_simp; all_goals with_reducible rfl
          try simp only [apt12]
          refine tkI 33 ⟨some 60, .fieldAddr 32 (.tmp 6) 3, 0, "ref.go:58", #[⟨29, .guard⟩], some (29, true)⟩ ?v355 rfl (by kernel_rfl) (by rfl) ?y355 ?_
          case y355 => intro w hSw; (try dsimp only at hSw); go_simp; all_goals with_reducible rfl
          try simp only [apt12]
          refine tkI 34 ⟨some 61, .load 29 (.tmp 60), 29, "ref.go:58", #[⟨33, .data⟩, ⟨29, .guard⟩], some (29, true)⟩ ?v356 rfl (by kernel_rfl) (by rfl) ?y356 ?_
          case y356 => intro w hSw; (try dsimp only at hSw); go_simp; all_goals with_reducible rfl
          try simp only [apt12]
          refine tkI 35 ⟨some 62, .call { callee := .builtin .len, args := #[.tmp 61], argTypes := #[29] }, 3, "ref.go:58", #[⟨34, .data⟩, ⟨29, .guard⟩], some (29, true)⟩ ?v357 rfl (by kernel_rfl) (by rfl) ?y357 ?_
          case y357 => intro w hSw; (try dsimp only at hSw); go_simp; all_goals with_reducible rfl
          try simp only [apt12]
          refine tkI 36 ⟨some 63, .binOp .sub 3 (.tmp 62) (.const (Go.Value.int .i64 1)) 3, 3, "ref.go:58", #[⟨35, .data⟩, ⟨29, .guard⟩], some (29, true)⟩ ?v358 rfl (by kernel_rfl) (by rfl) ?y358 ?_
          case y358 => intro w hSw; (try dsimp only at hSw); go_simp; all_goals with_reducible rfl
          try simp only [apt12]
          refine wpAnyH_ready (rs := [37]) (by kernel_rfl) (by simp) ?_
          refine AllReadyH.cons (i := 37) (o := ⟨some 64, .call { callee := .value (.func 41), args := #[.tmp 59, .tmp 63], argTypes := #[3, 3] }, 3, "ref.go:58", #[⟨32, .data⟩, ⟨36, .data⟩, ⟨29, .chain⟩, ⟨29, .guard⟩], some (29, true)⟩) rfl (fun K hK => ?_) AllReadyH.nil
          go_simp
          go_at_call 41
          refine (rsmall_any12 v1 (M3.code.length - 1) _).mono ?_
          rintro e u4 ⟨rfl, hu⟩
          subst hu
          rw [← S1.out]
          refine hK.out _ _ ?_ (fun hH4 => ?_)
          next =>
           exact hH3
          clear hK K
          try simp only [apt12]
          refine tkI 38 ⟨some 65, .binOp .geq 3 (.tmp 64) (.const (Go.Value.int .i64 0)) 3, 4, "ref.go:58", #[⟨37, .data⟩, ⟨29, .guard⟩], some (29, true)⟩ ?v359 rfl (by kernel_rfl) (by rfl) ?y359 ?_
          case y359 => intro w hSw; (try dsimp only at hSw); go_simp; all_goals with_reducible rfl
          try simp only [apt12]
          refine tkI 39 ⟨some 66, .pick (.tmp 56) (.tmp 65) (.const (Go.Value.bool false)), 4, "ref.go:58", #[⟨29, .data⟩, ⟨38, .data⟩], none⟩ ?v360 rfl (by kernel_rfl) (by rfl) ?y360 ?_
          case y360 => intro w hSw; (try dsimp only at hSw); go_simp; all_goals with_reducible rfl
          try simp only [apt12]
          refine tkI 40 ⟨some 67, .move (.tmp 66), 4, "ref.go:58", #[⟨39, .data⟩, ⟨37, .chain⟩], none⟩ ?v361 rfl (by kernel_rfl) (by rfl) ?y361 ?_
          case y361 => intro w hSw; (try dsimp only at hSw); go_simp; all_goals with_reducible rfl
          try simp only [apt12]
          refine tkI 41 ⟨some 68, .move (.tmp 5), 30, "ref.go:58", #[⟨40, .guard⟩], some (40, true)⟩ ?v362 rfl (by kernel_rfl) (by rfl) ?y362 ?_
          case y362 => intro w hSw; (try dsimp only at hSw); go_simp; all_goals with_reducible rfl
          try simp only [apt12]
          refine tkI 42 ⟨some 69, .indexAddr 30 (.tmp 68) (.const (Go.Value.int .i64 2)), 0, "ref.go:58", #[⟨41, .data⟩, ⟨40, .guard⟩], some (40, true)⟩ ?v363 rfl (by kernel_rfl) (by rfl) ?y363 ?_
          case y363 => intro w hSw; (try dsimp only at hSw); go_simp; all_goals with_reducible rfl
          try simp only [apt12]
          refine tkI 43 ⟨some 70, .load 3 (.tmp 69), 3, "ref.go:58", #[⟨42, .data⟩, ⟨40, .guard⟩], some (40, true)⟩ ?v364 rfl (by kernel_rfl) (by rfl) ?y364 ?_
          case y364 => intro w hSw; (try dsimp only at hSw); go_simp; all_goals with_reducible rfl
          try simp only [apt12]
          refine tkI 45 ⟨some 72, .fieldAddr 32 (.tmp 6) 2, 0, "ref.go:58", #[⟨40, .guard⟩], some (40, true)⟩ ?v365 rfl (by kernel_rfl) (by rfl) ?y365 ?_
          case y365 => intro w hSw; (try dsimp only at hSw); go_simp; all_goals with_reducible rfl
          try simp only [apt12]
          refine tkI 46 ⟨some 73, .load 3 (.tmp 72), 3, "ref.go:58", #[⟨45, .data⟩, ⟨40, .guard⟩], some (40, true)⟩ ?v366 rfl (by kernel_rfl) (by rfl) ?y366 ?_
          case y366 => intro w hSw; (try dsimp only at hSw); go_simp; all_goals with_reducible rfl
          try simp only [apt12]
          refine wpAnyH_ready (rs := [44]) (by kernel_rfl) (by simp) ?_
          refine AllReadyH.cons (i := 44) (o := ⟨some 71, .call { callee := .value (.func 41), args := #[.tmp 70, .const (Go.Value.int .i64 16)], argTypes := #[3, 3] }, 3, "ref.go:58", #[⟨43, .data⟩, ⟨40, .chain⟩, ⟨40, .guard⟩], some (40, true)⟩) rfl (fun K hK => ?_) AllReadyH.nil
          go_simp
          go_at_call 41
          refine (rsmall_any12 v2 16 _).mono ?_
          rintro e u5 ⟨rfl, hu⟩
          subst hu
          rw [← S2.out]
          refine hK.out _ _ ?_ (fun hH5 => ?_)
          next =>
           exact hH4
          clear hK K
          try simp only [apt12]
          refine tkI 47 ⟨some 74, .binOp .geq 3 (.tmp 71) (.tmp 73) 3, 4, "ref.go:58", #[⟨44, .data⟩, ⟨46, .data⟩, ⟨40, .guard⟩], some (40, true)⟩ ?v367 rfl (by kernel_rfl) (by rfl) ?y367 ?_
          case y367 => intro w hSw; (try dsimp only at hSw); go_simp; all_goals with_reducible rfl
          try simp only [apt12]
          refine tkI 48 ⟨some 75, .pick (.tmp 67) (.tmp 74) (.const (Go.Value.bool false)), 4, "ref.go:58", #[⟨40, .data⟩, ⟨47, .data⟩], none⟩ ?v368 rfl (by kernel_rfl) (by rfl) ?y368 ?_
          case y368 => intro w hSw; (try dsimp only at hSw); go_simp; all_goals with_reducible rfl
          try simp only [apt12]
          refine tkI 49 ⟨some 4, .assign (.tmp 75), 4, "ref.go:58", #[⟨48, .data⟩, ⟨44, .chain⟩, ⟨0, .phase⟩, ⟨1, .phase⟩, ⟨2, .phase⟩, ⟨3, .phase⟩, ⟨4, .phase⟩, ⟨5, .phase⟩, ⟨6, .phase⟩, ⟨7, .phase⟩, ⟨8, .phase⟩, ⟨9, .phase⟩, ⟨10, .phase⟩, ⟨11, .phase⟩, ⟨12, .phase⟩, ⟨13, .phase⟩, ⟨14, .phase⟩, ⟨15, .phase⟩, ⟨16, .phase⟩, ⟨17, .phase⟩, ⟨18, .phase⟩, ⟨19, .phase⟩, ⟨20, .phase⟩, ⟨21, .phase⟩, ⟨22, .phase⟩, ⟨23, .phase⟩, ⟨24, .phase⟩, ⟨25, .phase⟩, ⟨26, .phase⟩, ⟨27, .phase⟩, ⟨28, .phase⟩, ⟨29, .phase⟩, ⟨30, .phase⟩, ⟨31, .phase⟩, ⟨32, .phase⟩, ⟨33, .phase⟩, ⟨34, .phase⟩, ⟨35, .phase⟩, ⟨36, .phase⟩, ⟨37, .phase⟩, ⟨38, .phase⟩, ⟨39, .phase⟩, ⟨40, .phase⟩, ⟨41, .phase⟩, ⟨42, .phase⟩, ⟨43, .phase⟩, ⟨44, .phase⟩, ⟨45, .phase⟩, ⟨46, .phase⟩, ⟨47, .phase⟩, ⟨48, .phase⟩], none⟩ ?v369 rfl (by kernel_rfl) (by rfl) ?y369 ?_
          case y369 => intro w hSw; (try dsimp only at hSw); go_simp; all_goals with_reducible rfl
          try simp only [apt12]
          refine wpAnyH_done (by kernel_rfl) ?_ _
          go_wp2_with fail
          go_ret
          exact ⟨by rw [HV.out]; first | rfl | simp_all, then_w HB3.out (hH5.2.2.2.2.2.2.2.2.2.2)⟩
         next =>
          have HV : Hid (r = false) := by
            show _ = _
            rw [HRB.out]
            rw [decide_eq_true g0, decide_eq_true g1, decide_eq_true g2, decide_eq_true g3, decide_eq_true g4, decide_eq_false g5]; simp
          go_upto_region 5 with fail
          refine wp_region_held_drew (S := (fun w' => w'.cell? ⟨w.heap.size, 0, none⟩ = some (.slice (some ⟨b, off, none⟩) h.objs.length c) ∧ w'.cell? ⟨w.heap.size, 1, none⟩ = some (.int .i64 h.cap) ∧ w'.cell? ⟨w.heap.size, 2, none⟩ = some (.int .i64 h.last) ∧ w'.cell? ⟨bl, ol, none⟩ = some (.int .i64 v0) ∧ w'.cell? ⟨bl, ol + 1, none⟩ = some (.int .i64 v1) ∧ w'.cell? ⟨bl, ol + 2, none⟩ = some (.int .i64 v2) ∧ w'.cell? ⟨bl, ol + 5, none⟩ = some (.int .i64 v5) ∧ w'.cell? ⟨b, off + i * 6, none⟩ = some (.int .i64 cl) ∧ w'.cell? ⟨bx, 2, none⟩ = some (.int .i64 M3.temps) ∧ w'.cell? ⟨bx, 3, none⟩ = some (.slice CA M3.code.length cc) ∧ Below w3.heap.size w3 w')) (by kernel_rfl) ?_ (fun hH0 => ?_)
          next =>
           exact ⟨cell_later (Below.refl w3.heap.size w3).drew x0, cell_later (Below.refl w3.heap.size w3).drew x1, cell_later (Below.refl w3.heap.size w3).drew x2, cell_later (Below.refl w3.heap.size w3).drew q0, cell_later (Below.refl w3.heap.size w3).drew q1, cell_later (Below.refl w3.heap.size w3).drew q2, cell_later (Below.refl w3.heap.size w3).drew q5, cell_later (Below.refl w3.heap.size w3).drew y0, cell_later (Below.refl w3.heap.size w3).drew m2, cell_later (Below.refl w3.heap.size w3).drew m3, (Below.refl _ _).drew⟩
          refine tkI 0 ⟨some 27, .move (.tmp 7), 33, "ref.go:58", #[], none⟩ ?v280 rfl (by kernel_rfl) (by rfl) ?y280 ?_
          case y280 => intro w hSw; (try dsimp only at hSw); go_simp; all_goals with_reducible rfl
          try simp only [apt12]
          refine tkI 1 ⟨some 28, .binOp .eql 33 (.tmp 27) (.const (Go.Value.int .i64 0)) 33, 4, "ref.go:58", #[⟨0, .data⟩], none⟩ ?v281 rfl (by kernel_rfl) (by rfl) ?y281 ?_
          case y281 => intro w hSw; (try dsimp only at hSw); go_simp; all_goals with_reducible rfl
          try simp only [apt12]
          refine tkI 2 ⟨some 29, .move (.tmp 28), 4, "ref.go:58", #[⟨1, .data⟩], none⟩ ?v282 rfl (by kernel_rfl) (by rfl) ?y282 ?_
          case y282 => intro w hSw; (try dsimp only at hSw); go_simp; all_goals with_reducible rfl
          try simp only [apt12]
          refine tkI 3 ⟨some 30, .fieldAddr 24 (.tmp 2) 0, 0, "ref.go:58", #[⟨2, .guard⟩], some (2, true)⟩ ?v283 rfl (by kernel_rfl) (by rfl) ?y283 ?_
          case y283 => intro w hSw; (try dsimp only at hSw); go_simp; all_goals with_reducible rfl
          try simp only [apt12]
          refine tkI 4 ⟨some 31, .load 22 (.tmp 30), 22, "ref.go:58", #[⟨3, .data⟩, ⟨2, .guard⟩], some (2, true)⟩ ?v284 rfl (by kernel_rfl) (by rfl) ?y284 ?_
          case y284 => intro w hSw; (try dsimp only at hSw); go_simp; all_goals with_reducible rfl
          try simp only [apt12]
          refine tkI 5 ⟨some 32, .load 24 (.tmp 2), 24, "ref.go:58", #[⟨2, .guard⟩], some (2, true)⟩ ?v285 rfl (by kernel_rfl) (by rfl) ?y285 ?_
          case y285 => intro w hSw; (try dsimp only at hSw); go_simp; all_goals with_reducible rfl
          try simp only [apt12]
          refine tkI 6 ⟨some 33, .move (.tmp 1), 3, "ref.go:58", #[⟨2, .guard⟩], some (2, true)⟩ ?v286 rfl (by kernel_rfl) (by rfl) ?y286 ?_
          case y286 => intro w hSw; (try dsimp only at hSw); go_simp; all_goals with_reducible rfl
          try simp only [apt12]
          refine wpAnyH_ready (rs := [7]) (by kernel_rfl) (by simp) ?_
          refine AllReadyH.cons (i := 7) (o := ⟨some 34, .call { callee := .value (.func 40), args := #[.tmp 32, .tmp 33], argTypes := #[24, 3] }, 3, "ref.go:58", #[⟨5, .data⟩, ⟨6, .data⟩, ⟨2, .chain⟩, ⟨2, .guard⟩], some (2, true)⟩) rfl (fun K hK => ?_) AllReadyH.nil
          go_simp
          go_at_call 40
          refine (rref_any h cx _ c _).mono ?_
          rintro e u1 ⟨rfl, hb⟩
          rw [HI.out]
          refine hK.out _ _ ?_ (fun hH1 => ?_)
          next =>
           exact ⟨cell_later hb hH0.1, cell_later hb hH0.2.1, cell_later hb hH0.2.2.1, cell_later hb hH0.2.2.2.1, cell_later hb hH0.2.2.2.2.1, cell_later hb hH0.2.2.2.2.2.1, cell_later hb hH0.2.2.2.2.2.2.1, cell_later hb hH0.2.2.2.2.2.2.2.1, cell_later hb hH0.2.2.2.2.2.2.2.2.1, cell_later hb hH0.2.2.2.2.2.2.2.2.2.1, then_w hH0.2.2.2.2.2.2.2.2.2.2 hb⟩
          clear hK K
          try simp only [apt12]
          clear hb
          refine tkI 8 ⟨some 35, .indexAddr 22 (.tmp 31) (.tmp 34), 0, "ref.go:58", #[⟨4, .data⟩, ⟨7, .data⟩, ⟨2, .guard⟩], some (2, true)⟩ ?v287 rfl (by kernel_rfl) (by rfl) ?y287 ?_
          case y287 => intro w hSw; (try dsimp only at hSw); go_simp; all_goals with_reducible rfl
          try simp only [apt12]
          refine tkI 9 ⟨some 36, .fieldAddr 60 (.tmp 35) 0, 0, "ref.go:58", #[⟨8, .data⟩, ⟨2, .guard⟩], some (2, true)⟩ ?v288 rfl (by kernel_rfl) (by rfl) ?y288 ?_
          case y288 => intro w hSw; (try dsimp only at hSw); go_simp; all_goals with_reducible rfl
          try simp only [apt12]
          refine tkI 10 ⟨some 37, .load 3 (.tmp 36), 3, "ref.go:58", #[⟨9, .data⟩, ⟨2, .guard⟩], some (2, true)⟩ ?v289 rfl (by kernel_rfl) (by rfl) ?y289 ?_
          case y289 => intro w hSw; (try dsimp only at hSw); go_simp; all_goals with_reducible rfl
          try simp only [apt12]
          refine tkI 11 ⟨some 38, .binOp .eql 3 (.tmp 37) (.const (Go.Value.int .i64 12)) 3, 4, "ref.go:58", #[⟨10, .data⟩, ⟨2, .guard⟩], some (2, true)⟩ ?v290 rfl (by kernel_rfl) (by rfl) ?y290 ?_
          case y290 => intro w hSw; (try dsimp only at hSw); go_simp; all_goals with_reducible rfl
          try simp only [apt12]
          refine tkI 12 ⟨some 39, .pick (.tmp 29) (.tmp 38) (.const (Go.Value.bool false)), 4, "ref.go:58", #[⟨2, .data⟩, ⟨11, .data⟩], none⟩ ?v291 rfl (by kernel_rfl) (by rfl) ?y291 ?_
          case y291 => intro w hSw; (try dsimp only at hSw); go_simp; all_goals with_reducible rfl
          try simp only [apt12]
          refine tkI 13 ⟨some 40, .move (.tmp 39), 4, "ref.go:58", #[⟨12, .data⟩, ⟨7, .chain⟩], none⟩ ?v292 rfl (by kernel_rfl) (by rfl) ?y292 ?_
          case y292 => intro w hSw; (try dsimp only at hSw); go_simp; all_goals with_reducible rfl
          try simp only [apt12]
          refine tkI 14 ⟨some 41, .load 24 (.tmp 2), 24, "ref.go:58", #[⟨13, .guard⟩], some (13, true)⟩ ?v293 rfl (by kernel_rfl) (by rfl) ?y293 ?_
          case y293 => intro w hSw; (try dsimp only at hSw); go_simp; all_goals with_reducible rfl
          try simp only [apt12]
          refine tkI 15 ⟨some 42, .move (.tmp 5), 30, "ref.go:58", #[⟨13, .guard⟩], some (13, true)⟩ ?v294 rfl (by kernel_rfl) (by rfl) ?y294 ?_
          case y294 => intro w hSw; (try dsimp only at hSw); go_simp; all_goals with_reducible rfl
          try simp only [apt12]
          refine tkI 16 ⟨some 43, .indexAddr 30 (.tmp 42) (.const (Go.Value.int .i64 0)), 0, "ref.go:58", #[⟨15, .data⟩, ⟨13, .guard⟩], some (13, true)⟩ ?v295 rfl (by kernel_rfl) (by rfl) ?y295 ?_
          case y295 => intro w hSw; (try dsimp only at hSw); go_simp; all_goals with_reducible rfl
          try simp only [apt12]
          refine tkI 17 ⟨some 44, .load 3 (.tmp 43), 3, "ref.go:58", #[⟨16, .data⟩, ⟨13, .guard⟩], some (13, true)⟩ ?v296 rfl (by kernel_rfl) (by rfl) ?y296 ?_
          case y296 => intro w hSw; (try dsimp only at hSw); go_simp; all_goals with_reducible rfl
          try simp only [apt12]
          refine wpAnyH_ready (rs := [18]) (by kernel_rfl) (by simp) ?_
          refine AllReadyH.cons (i := 18) (o := ⟨some 45, .call { callee := .value (.func 40), args := #[.tmp 41, .tmp 44], argTypes := #[24, 3] }, 3, "ref.go:58", #[⟨14, .data⟩, ⟨17, .data⟩, ⟨13, .chain⟩, ⟨13, .guard⟩], some (13, true)⟩) rfl (fun K hK => ?_) AllReadyH.nil
          go_simp
          go_at_call 40
          refine (rref_any h v0 _ c _).mono ?_
          rintro e u2 ⟨rfl, hb⟩
          rw [← N0.out]
          refine hK.out _ _ ?_ (fun hH2 => ?_)
          next =>
           exact ⟨cell_later hb hH1.1, cell_later hb hH1.2.1, cell_later hb hH1.2.2.1, cell_later hb hH1.2.2.2.1, cell_later hb hH1.2.2.2.2.1, cell_later hb hH1.2.2.2.2.2.1, cell_later hb hH1.2.2.2.2.2.2.1, cell_later hb hH1.2.2.2.2.2.2.2.1, cell_later hb hH1.2.2.2.2.2.2.2.2.1, cell_later hb hH1.2.2.2.2.2.2.2.2.2.1, then_w hH1.2.2.2.2.2.2.2.2.2.2 hb⟩
          clear hK K
          try simp only [apt12]
          clear hb
          refine tkI 19 ⟨some 46, .binOp .geq 3 (.tmp 45) (.const (Go.Value.int .i64 0)) 3, 4, "ref.go:58", #[⟨18, .data⟩, ⟨13, .guard⟩], some (13, true)⟩ ?v297 rfl (by kernel_rfl) (by rfl) ?y297 ?_
          case y297 => intro w hSw; (try dsimp only at hSw); go_simp; all_goals with_reducible rfl
          try simp only [apt12]
          refine tkI 20 ⟨some 47, .pick (.tmp 40) (.tmp 46) (.const (Go.Value.bool false)), 4, "ref.go:58", #[⟨13, .data⟩, ⟨19, .data⟩], none⟩ ?v298 rfl (by kernel_rfl) (by rfl) ?y298 ?_
          case y298 => intro w hSw; (try dsimp only at hSw); go_simp; all_goals with_reducible rfl
          try simp only [apt12]
          refine tkI 21 ⟨some 48, .move (.tmp 47), 4, "ref.go:58", #[⟨20, .data⟩, ⟨18, .chain⟩], none⟩ ?v299 rfl (by kernel_rfl) (by rfl) ?y299 ?_
          case y299 => intro w hSw; (try dsimp only at hSw); go_simp; all_goals with_reducible rfl
          try simp only [apt12]
          refine tkI 22 ⟨some 49, .load 24 (.tmp 2), 24, "ref.go:58", #[⟨21, .guard⟩], some (21, true)⟩ ?v300 rfl (by kernel_rfl) (by rfl) ?y300 ?_
          case y300 => intro w hSw; (try dsimp only at hSw); go_simp; all_goals with_reducible rfl
          try simp only [apt12]
          refine tkI 23 ⟨some 50, .move (.tmp 5), 30, "ref.go:58", #[⟨21, .guard⟩], some (21, true)⟩ ?v301 rfl (by kernel_rfl) (by rfl) ?y301 ?_
          case y301 => intro w hSw; (try dsimp only at hSw); go_simp; all_goals with_reducible rfl
          try simp only [apt12]
          refine tkI 24 ⟨some 51, .indexAddr 30 (.tmp 50) (.const (Go.Value.int .i64 5)), 0, "ref.go:58", #[⟨23, .data⟩, ⟨21, .guard⟩], some (21, true)⟩ ?v302 rfl (by kernel_rfl) (by rfl) ?y302 ?_
          case y302 => intro w hSw; (try dsimp only at hSw); go_simp; all_goals with_reducible rfl
          try simp only [apt12]
          refine tkI 25 ⟨some 52, .load 3 (.tmp 51), 3, "ref.go:58", #[⟨24, .data⟩, ⟨21, .guard⟩], some (21, true)⟩ ?v303 rfl (by kernel_rfl) (by rfl) ?y303 ?_
          case y303 => intro w hSw; (try dsimp only at hSw); go_simp; all_goals with_reducible rfl
          try simp only [apt12]
          refine wpAnyH_ready (rs := [26]) (by kernel_rfl) (by simp) ?_
          refine AllReadyH.cons (i := 26) (o := ⟨some 53, .call { callee := .value (.func 40), args := #[.tmp 49, .tmp 52], argTypes := #[24, 3] }, 3, "ref.go:58", #[⟨22, .data⟩, ⟨25, .data⟩, ⟨21, .chain⟩, ⟨21, .guard⟩], some (21, true)⟩) rfl (fun K hK => ?_) AllReadyH.nil
          go_simp
          go_at_call 40
          refine (rref_any h v5 _ c _).mono ?_
          rintro e u3 ⟨rfl, hb⟩
          rw [← N5.out]
          refine hK.out _ _ ?_ (fun hH3 => ?_)
          next =>
           exact ⟨cell_later hb hH2.1, cell_later hb hH2.2.1, cell_later hb hH2.2.2.1, cell_later hb hH2.2.2.2.1, cell_later hb hH2.2.2.2.2.1, cell_later hb hH2.2.2.2.2.2.1, cell_later hb hH2.2.2.2.2.2.2.1, cell_later hb hH2.2.2.2.2.2.2.2.1, cell_later hb hH2.2.2.2.2.2.2.2.2.1, cell_later hb hH2.2.2.2.2.2.2.2.2.2.1, then_w hH2.2.2.2.2.2.2.2.2.2.2 hb⟩
          clear hK K
          try simp only [apt12]
          clear hb
          refine tkI 27 ⟨some 54, .binOp .geq 3 (.tmp 53) (.const (Go.Value.int .i64 0)) 3, 4, "ref.go:58", #[⟨26, .data⟩, ⟨21, .guard⟩], some (21, true)⟩ ?v304 rfl (by kernel_rfl) (by rfl) ?y304 ?_
          case y304 => intro w hSw; (try dsimp only at hSw); go_simp; all_goals with_reducible rfl
          try simp only [apt12]
          refine tkI 28 ⟨some 55, .pick (.tmp 48) (.tmp 54) (.const (Go.Value.bool false)), 4, "ref.go:58", #[⟨21, .data⟩, ⟨27, .data⟩], none⟩ ?v305 rfl (by kernel_rfl) (by rfl) ?y305 ?_
          case y305 => intro w hSw; (try dsimp only at hSw); go_simp; all_goals with_reducible rfl
          try simp only [apt12]
          refine tkI 29 ⟨some 56, .move (.tmp 55), 4, "ref.go:58", #[⟨28, .data⟩, ⟨26, .chain⟩], none⟩ ?v306 rfl (by kernel_rfl) (by rfl) ?y306 ?_
          case y306 => intro w hSw; (try dsimp only at hSw); go_simp; all_goals with_reducible rfl
          try simp only [apt12]
          refine tkI 30 ⟨some 57, .move (.tmp 5), 30, "ref.go:58", #[⟨29, .guard⟩], some (29, true)⟩ ?v307 rfl (by kernel_rfl) (by rfl) ?y307 ?_
          case y307 => intro w hSw; (try dsimp only at hSw); go_simp; all_goals with_reducible rfl
          try simp only [apt12]
          refine tkI 31 ⟨some 58, .indexAddr 30 (.tmp 57) (.const (Go.Value.int .i64 1)), 0, "ref.go:58", #[⟨30, .data⟩, ⟨29, .guard⟩], some (29, true)⟩ ?v308 rfl (by kernel_rfl) (by rfl) ?y308 ?_
          case y308 => intro w hSw; (try dsimp only at hSw); go_simp; all_goals with_reducible rfl
          try simp only [apt12]
          refine tkI 32 ⟨some 59, .load 3 (.tmp 58), 3, "ref.go:58", #[⟨31, .data⟩, ⟨29, .guard⟩], some (29, true)⟩ ?v309 rfl (by kernel_rfl) (by rfl) ?y309 ?_
          case y309 => intro w hSw; (try dsimp only at hSw); go_simp; all_goals with_reducible rfl
          try simp only [apt12]
          refine tkI 33 ⟨some 60, .fieldAddr 32 (.tmp 6) 3, 0, "ref.go:58", #[⟨29, .guard⟩], some (29, true)⟩ ?v310 rfl (by kernel_rfl) (by rfl) ?y310 ?_
          case y310 => intro w hSw; (try dsimp only at hSw); go_simp; all_goals with_reducible rfl
          try simp only [apt12]
          refine tkI 34 ⟨some 61, .load 29 (.tmp 60), 29, "ref.go:58", #[⟨33, .data⟩, ⟨29, .guard⟩], some (29, true)⟩ ?v311 rfl (by kernel_rfl) (by rfl) ?y311 ?_
          case y311 => intro w hSw; (try dsimp only at hSw); go_simp; all_goals with_reducible rfl
          try simp only [apt12]
          refine tkI 35 ⟨some 62, .call { callee := .builtin .len, args := #[.tmp 61], argTypes := #[29] }, 3, "ref.go:58", #[⟨34, .data⟩, ⟨29, .guard⟩], some (29, true)⟩ ?v312 rfl (by kernel_rfl) (by rfl) ?y312 ?_
          case y312 => intro w hSw; (try dsimp only at hSw); go_simp; all_goals with_reducible rfl
          try simp only [apt12]
          refine tkI 36 ⟨some 63, .binOp .sub 3 (.tmp 62) (.const (Go.Value.int .i64 1)) 3, 3, "ref.go:58", #[⟨35, .data⟩, ⟨29, .guard⟩], some (29, true)⟩ ?v313 rfl (by kernel_rfl) (by rfl) ?y313 ?_
          case y313 => intro w hSw; (try dsimp only at hSw); go_simp; all_goals with_reducible rfl
          try simp only [apt12]
          refine wpAnyH_ready (rs := [37]) (by kernel_rfl) (by simp) ?_
          refine AllReadyH.cons (i := 37) (o := ⟨some 64, .call { callee := .value (.func 41), args := #[.tmp 59, .tmp 63], argTypes := #[3, 3] }, 3, "ref.go:58", #[⟨32, .data⟩, ⟨36, .data⟩, ⟨29, .chain⟩, ⟨29, .guard⟩], some (29, true)⟩) rfl (fun K hK => ?_) AllReadyH.nil
          go_simp
          go_at_call 41
          refine (rsmall_any12 v1 (M3.code.length - 1) _).mono ?_
          rintro e u4 ⟨rfl, hu⟩
          subst hu
          rw [← S1.out]
          refine hK.out _ _ ?_ (fun hH4 => ?_)
          next =>
           exact hH3
          clear hK K
          try simp only [apt12]
          refine tkI 38 ⟨some 65, .binOp .geq 3 (.tmp 64) (.const (Go.Value.int .i64 0)) 3, 4, "ref.go:58", #[⟨37, .data⟩, ⟨29, .guard⟩], some (29, true)⟩ ?v314 rfl (by kernel_rfl) (by rfl) ?y314 ?_
          case y314 => intro w hSw; (try dsimp only at hSw); go_simp; all_goals with_reducible rfl
          try simp only [apt12]
          refine tkI 39 ⟨some 66, .pick (.tmp 56) (.tmp 65) (.const (Go.Value.bool false)), 4, "ref.go:58", #[⟨29, .data⟩, ⟨38, .data⟩], none⟩ ?v315 rfl (by kernel_rfl) (by rfl) ?y315 ?_
          case y315 => intro w hSw; (try dsimp only at hSw); go_simp; all_goals with_reducible rfl
          try simp only [apt12]
          refine tkI 40 ⟨some 67, .move (.tmp 66), 4, "ref.go:58", #[⟨39, .data⟩, ⟨37, .chain⟩], none⟩ ?v316 rfl (by kernel_rfl) (by rfl) ?y316 ?_
          case y316 => intro w hSw; (try dsimp only at hSw); go_simp; all_goals with_reducible rfl
          try simp only [apt12]
          refine tkI 41 ⟨some 68, .move (.tmp 5), 30, "ref.go:58", #[⟨40, .guard⟩], some (40, true)⟩ ?v317 rfl (by kernel_rfl) (by rfl) ?y317 ?_
          case y317 => intro w hSw; (try dsimp only at hSw); go_simp; all_goals with_reducible rfl
          try simp only [apt12]
          refine tkI 42 ⟨some 69, .indexAddr 30 (.tmp 68) (.const (Go.Value.int .i64 2)), 0, "ref.go:58", #[⟨41, .data⟩, ⟨40, .guard⟩], some (40, true)⟩ ?v318 rfl (by kernel_rfl) (by rfl) ?y318 ?_
          case y318 => intro w hSw; (try dsimp only at hSw); go_simp; all_goals with_reducible rfl
          try simp only [apt12]
          refine tkI 43 ⟨some 70, .load 3 (.tmp 69), 3, "ref.go:58", #[⟨42, .data⟩, ⟨40, .guard⟩], some (40, true)⟩ ?v319 rfl (by kernel_rfl) (by rfl) ?y319 ?_
          case y319 => intro w hSw; (try dsimp only at hSw); go_simp; all_goals with_reducible rfl
          try simp only [apt12]
          refine tkI 45 ⟨some 72, .fieldAddr 32 (.tmp 6) 2, 0, "ref.go:58", #[⟨40, .guard⟩], some (40, true)⟩ ?v320 rfl (by kernel_rfl) (by rfl) ?y320 ?_
          case y320 => intro w hSw; (try dsimp only at hSw); go_simp; all_goals with_reducible rfl
          try simp only [apt12]
          refine tkI 46 ⟨some 73, .load 3 (.tmp 72), 3, "ref.go:58", #[⟨45, .data⟩, ⟨40, .guard⟩], some (40, true)⟩ ?v321 rfl (by kernel_rfl) (by rfl) ?y321 ?_
          case y321 => intro w hSw; (try dsimp only at hSw); go_simp; all_goals with_reducible rfl
          try simp only [apt12]
          refine wpAnyH_ready (rs := [44]) (by kernel_rfl) (by simp) ?_
          refine AllReadyH.cons (i := 44) (o := ⟨some 71, .call { callee := .value (.func 41), args := #[.tmp 70, .const (Go.Value.int .i64 16)], argTypes := #[3, 3] }, 3, "ref.go:58", #[⟨43, .data⟩, ⟨40, .chain⟩, ⟨40, .guard⟩], some (40, true)⟩) rfl (fun K hK => ?_) AllReadyH.nil
          go_simp
          go_at_call 41
          refine (rsmall_any12 v2 16 _).mono ?_
          rintro e u5 ⟨rfl, hu⟩
          subst hu
          rw [← S2.out]
          refine hK.out _ _ ?_ (fun hH5 => ?_)
          next =>
           exact hH4
          clear hK K
          try simp only [apt12]
          refine tkI 47 ⟨some 74, .binOp .geq 3 (.tmp 71) (.tmp 73) 3, 4, "ref.go:58", #[⟨44, .data⟩, ⟨46, .data⟩, ⟨40, .guard⟩], some (40, true)⟩ ?v322 rfl (by kernel_rfl) (by rfl) ?y322 ?_
          case y322 => intro w hSw; (try dsimp only at hSw); go_simp; all_goals with_reducible rfl
          try simp only [apt12]
          refine tkI 48 ⟨some 75, .pick (.tmp 67) (.tmp 74) (.const (Go.Value.bool false)), 4, "ref.go:58", #[⟨40, .data⟩, ⟨47, .data⟩], none⟩ ?v323 rfl (by kernel_rfl) (by rfl) ?y323 ?_
          case y323 => intro w hSw; (try dsimp only at hSw); go_simp; all_goals with_reducible rfl
          try simp only [apt12]
          refine tkI 49 ⟨some 4, .assign (.tmp 75), 4, "ref.go:58", #[⟨48, .data⟩, ⟨44, .chain⟩, ⟨0, .phase⟩, ⟨1, .phase⟩, ⟨2, .phase⟩, ⟨3, .phase⟩, ⟨4, .phase⟩, ⟨5, .phase⟩, ⟨6, .phase⟩, ⟨7, .phase⟩, ⟨8, .phase⟩, ⟨9, .phase⟩, ⟨10, .phase⟩, ⟨11, .phase⟩, ⟨12, .phase⟩, ⟨13, .phase⟩, ⟨14, .phase⟩, ⟨15, .phase⟩, ⟨16, .phase⟩, ⟨17, .phase⟩, ⟨18, .phase⟩, ⟨19, .phase⟩, ⟨20, .phase⟩, ⟨21, .phase⟩, ⟨22, .phase⟩, ⟨23, .phase⟩, ⟨24, .phase⟩, ⟨25, .phase⟩, ⟨26, .phase⟩, ⟨27, .phase⟩, ⟨28, .phase⟩, ⟨29, .phase⟩, ⟨30, .phase⟩, ⟨31, .phase⟩, ⟨32, .phase⟩, ⟨33, .phase⟩, ⟨34, .phase⟩, ⟨35, .phase⟩, ⟨36, .phase⟩, ⟨37, .phase⟩, ⟨38, .phase⟩, ⟨39, .phase⟩, ⟨40, .phase⟩, ⟨41, .phase⟩, ⟨42, .phase⟩, ⟨43, .phase⟩, ⟨44, .phase⟩, ⟨45, .phase⟩, ⟨46, .phase⟩, ⟨47, .phase⟩, ⟨48, .phase⟩], none⟩ ?v324 rfl (by kernel_rfl) (by rfl) ?y324 ?_
          case y324 => intro w hSw; (try dsimp only at hSw); go_simp; all_goals with_reducible rfl
          try simp only [apt12]
          refine wpAnyH_done (by kernel_rfl) ?_ _
          go_wp2_with fail
          go_ret
          exact ⟨by rw [HV.out]; first | rfl | simp_all, then_w HB3.out (hH5.2.2.2.2.2.2.2.2.2.2)⟩
        next =>
         have HV : Hid (r = false) := by
           show _ = _
           rw [HRB.out]
           rw [decide_eq_true g0, decide_eq_true g1, decide_eq_true g2, decide_eq_true g3, decide_eq_false g4]; simp
         go_upto_region 5 with fail
         refine wp_region_held_drew (S := (fun w' => w'.cell? ⟨w.heap.size, 0, none⟩ = some (.slice (some ⟨b, off, none⟩) h.objs.length c) ∧ w'.cell? ⟨w.heap.size, 1, none⟩ = some (.int .i64 h.cap) ∧ w'.cell? ⟨w.heap.size, 2, none⟩ = some (.int .i64 h.last) ∧ w'.cell? ⟨bl, ol, none⟩ = some (.int .i64 v0) ∧ w'.cell? ⟨bl, ol + 1, none⟩ = some (.int .i64 v1) ∧ w'.cell? ⟨bl, ol + 2, none⟩ = some (.int .i64 v2) ∧ w'.cell? ⟨bl, ol + 5, none⟩ = some (.int .i64 v5) ∧ w'.cell? ⟨b, off + i * 6, none⟩ = some (.int .i64 cl) ∧ w'.cell? ⟨bx, 2, none⟩ = some (.int .i64 M3.temps) ∧ w'.cell? ⟨bx, 3, none⟩ = some (.slice CA M3.code.length cc) ∧ Below w3.heap.size w3 w')) (by kernel_rfl) ?_ (fun hH0 => ?_)
         next =>
          exact ⟨cell_later (Below.refl w3.heap.size w3).drew x0, cell_later (Below.refl w3.heap.size w3).drew x1, cell_later (Below.refl w3.heap.size w3).drew x2, cell_later (Below.refl w3.heap.size w3).drew q0, cell_later (Below.refl w3.heap.size w3).drew q1, cell_later (Below.refl w3.heap.size w3).drew q2, cell_later (Below.refl w3.heap.size w3).drew q5, cell_later (Below.refl w3.heap.size w3).drew y0, cell_later (Below.refl w3.heap.size w3).drew m2, cell_later (Below.refl w3.heap.size w3).drew m3, (Below.refl _ _).drew⟩
         refine tkI 0 ⟨some 27, .move (.tmp 7), 33, "ref.go:58", #[], none⟩ ?v234 rfl (by kernel_rfl) (by rfl) ?y234 ?_
         case y234 => intro w hSw; (try dsimp only at hSw); go_simp; all_goals with_reducible rfl
         try simp only [apt12]
         refine tkI 1 ⟨some 28, .binOp .eql 33 (.tmp 27) (.const (Go.Value.int .i64 0)) 33, 4, "ref.go:58", #[⟨0, .data⟩], none⟩ ?v235 rfl (by kernel_rfl) (by rfl) ?y235 ?_
         case y235 => intro w hSw; (try dsimp only at hSw); go_simp; all_goals with_reducible rfl
         try simp only [apt12]
         refine tkI 2 ⟨some 29, .move (.tmp 28), 4, "ref.go:58", #[⟨1, .data⟩], none⟩ ?v236 rfl (by kernel_rfl) (by rfl) ?y236 ?_
         case y236 => intro w hSw; (try dsimp only at hSw); go_simp; all_goals with_reducible rfl
         try simp only [apt12]
         refine tkI 3 ⟨some 30, .fieldAddr 24 (.tmp 2) 0, 0, "ref.go:58", #[⟨2, .guard⟩], some (2, true)⟩ ?v237 rfl (by kernel_rfl) (by rfl) ?y237 ?_
         case y237 => intro w hSw; (try dsimp only at hSw); go_simp; all_goals with_reducible rfl
         try simp only [apt12]
         refine tkI 4 ⟨some 31, .load 22 (.tmp 30), 22, "ref.go:58", #[⟨3, .data⟩, ⟨2, .guard⟩], some (2, true)⟩ ?v238 rfl (by kernel_rfl) (by rfl) ?y238 ?_
         case y238 => intro w hSw; (try dsimp only at hSw); go_simp; all_goals with_reducible rfl
         try simp only [apt12]
         refine tkI 5 ⟨some 32, .load 24 (.tmp 2), 24, "ref.go:58", #[⟨2, .guard⟩], some (2, true)⟩ ?v239 rfl (by kernel_rfl) (by rfl) ?y239 ?_
         case y239 => intro w hSw; (try dsimp only at hSw); go_simp; all_goals with_reducible rfl
         try simp only [apt12]
         refine tkI 6 ⟨some 33, .move (.tmp 1), 3, "ref.go:58", #[⟨2, .guard⟩], some (2, true)⟩ ?v240 rfl (by kernel_rfl) (by rfl) ?y240 ?_
         case y240 => intro w hSw; (try dsimp only at hSw); go_simp; all_goals with_reducible rfl
         try simp only [apt12]
         refine wpAnyH_ready (rs := [7]) (by kernel_rfl) (by simp) ?_
         refine AllReadyH.cons (i := 7) (o := ⟨some 34, .call { callee := .value (.func 40), args := #[.tmp 32, .tmp 33], argTypes := #[24, 3] }, 3, "ref.go:58", #[⟨5, .data⟩, ⟨6, .data⟩, ⟨2, .chain⟩, ⟨2, .guard⟩], some (2, true)⟩) rfl (fun K hK => ?_) AllReadyH.nil
         go_simp
         go_at_call 40
         refine (rref_any h cx _ c _).mono ?_
         rintro e u1 ⟨rfl, hb⟩
         rw [HI.out]
         refine hK.out _ _ ?_ (fun hH1 => ?_)
         next =>
          exact ⟨cell_later hb hH0.1, cell_later hb hH0.2.1, cell_later hb hH0.2.2.1, cell_later hb hH0.2.2.2.1, cell_later hb hH0.2.2.2.2.1, cell_later hb hH0.2.2.2.2.2.1, cell_later hb hH0.2.2.2.2.2.2.1, cell_later hb hH0.2.2.2.2.2.2.2.1, cell_later hb hH0.2.2.2.2.2.2.2.2.1, cell_later hb hH0.2.2.2.2.2.2.2.2.2.1, then_w hH0.2.2.2.2.2.2.2.2.2.2 hb⟩
         clear hK K
         try simp only [apt12]
         clear hb
         refine tkI 8 ⟨some 35, .indexAddr 22 (.tmp 31) (.tmp 34), 0, "ref.go:58", #[⟨4, .data⟩, ⟨7, .data⟩, ⟨2, .guard⟩], some (2, true)⟩ ?v241 rfl (by kernel_rfl) (by rfl) ?y241 ?_
         case y241 => intro w hSw; (try dsimp only at hSw); go_simp; all_goals with_reducible rfl
         try simp only [apt12]
         refine tkI 9 ⟨some 36, .fieldAddr 60 (.tmp 35) 0, 0, "ref.go:58", #[⟨8, .data⟩, ⟨2, .guard⟩], some (2, true)⟩ ?v242 rfl (by kernel_rfl) (by rfl) ?y242 ?_
         case y242 => intro w hSw; (try dsimp only at hSw); go_simp; all_goals with_reducible rfl
         try simp only [apt12]
         refine tkI 10 ⟨some 37, .load 3 (.tmp 36), 3, "ref.go:58", #[⟨9, .data⟩, ⟨2, .guard⟩], some (2, true)⟩ ?v243 rfl (by kernel_rfl) (by rfl) ?y243 ?_
         case y243 => intro w hSw; (try dsimp only at hSw); go_simp; all_goals with_reducible rfl
         try simp only [apt12]
         refine tkI 11 ⟨some 38, .binOp .eql 3 (.tmp 37) (.const (Go.Value.int .i64 12)) 3, 4, "ref.go:58", #[⟨10, .data⟩, ⟨2, .guard⟩], some (2, true)⟩ ?v244 rfl (by kernel_rfl) (by rfl) ?y244 ?_
         case y244 => intro w hSw; (try dsimp only at hSw); go_simp; all_goals with_reducible rfl
         try simp only [apt12]
         refine tkI 12 ⟨some 39, .pick (.tmp 29) (.tmp 38) (.const (Go.Value.bool false)), 4, "ref.go:58", #[⟨2, .data⟩, ⟨11, .data⟩], none⟩ ?v245 rfl (by kernel_rfl) (by rfl) ?y245 ?_
         case y245 => intro w hSw; (try dsimp only at hSw); go_simp; all_goals with_reducible rfl
         try simp only [apt12]
         refine tkI 13 ⟨some 40, .move (.tmp 39), 4, "ref.go:58", #[⟨12, .data⟩, ⟨7, .chain⟩], none⟩ ?v246 rfl (by kernel_rfl) (by rfl) ?y246 ?_
         case y246 => intro w hSw; (try dsimp only at hSw); go_simp; all_goals with_reducible rfl
         try simp only [apt12]
         refine tkI 14 ⟨some 41, .load 24 (.tmp 2), 24, "ref.go:58", #[⟨13, .guard⟩], some (13, true)⟩ ?v247 rfl (by kernel_rfl) (by rfl) ?y247 ?_
         case y247 => intro w hSw; (try dsimp only at hSw); go_simp; all_goals with_reducible rfl
         try simp only [apt12]
         refine tkI 15 ⟨some 42, .move (.tmp 5), 30, "ref.go:58", #[⟨13, .guard⟩], some (13, true)⟩ ?v248 rfl (by kernel_rfl) (by rfl) ?y248 ?_
         case y248 => intro w hSw; (try dsimp only at hSw); go_simp; all_goals with_reducible rfl
         try simp only [apt12]
         refine tkI 16 ⟨some 43, .indexAddr 30 (.tmp 42) (.const (Go.Value.int .i64 0)), 0, "ref.go:58", #[⟨15, .data⟩, ⟨13, .guard⟩], some (13, true)⟩ ?v249 rfl (by kernel_rfl) (by rfl) ?y249 ?_
         case y249 => intro w hSw; (try dsimp only at hSw); go_simp; all_goals with_reducible rfl
         try simp only [apt12]
         refine tkI 17 ⟨some 44, .load 3 (.tmp 43), 3, "ref.go:58", #[⟨16, .data⟩, ⟨13, .guard⟩], some (13, true)⟩ ?v250 rfl (by kernel_rfl) (by rfl) ?y250 ?_
         case y250 => intro w hSw; (try dsimp only at hSw); go_simp; all_goals with_reducible rfl
         try simp only [apt12]
         refine wpAnyH_ready (rs := [18]) (by kernel_rfl) (by simp) ?_
         refine AllReadyH.cons (i := 18) (o := ⟨some 45, .call { callee := .value (.func 40), args := #[.tmp 41, .tmp 44], argTypes := #[24, 3] }, 3, "ref.go:58", #[⟨14, .data⟩, ⟨17, .data⟩, ⟨13, .chain⟩, ⟨13, .guard⟩], some (13, true)⟩) rfl (fun K hK => ?_) AllReadyH.nil
         go_simp
         go_at_call 40
         refine (rref_any h v0 _ c _).mono ?_
         rintro e u2 ⟨rfl, hb⟩
         rw [← N0.out]
         refine hK.out _ _ ?_ (fun hH2 => ?_)
         next =>
          exact ⟨cell_later hb hH1.1, cell_later hb hH1.2.1, cell_later hb hH1.2.2.1, cell_later hb hH1.2.2.2.1, cell_later hb hH1.2.2.2.2.1, cell_later hb hH1.2.2.2.2.2.1, cell_later hb hH1.2.2.2.2.2.2.1, cell_later hb hH1.2.2.2.2.2.2.2.1, cell_later hb hH1.2.2.2.2.2.2.2.2.1, cell_later hb hH1.2.2.2.2.2.2.2.2.2.1, then_w hH1.2.2.2.2.2.2.2.2.2.2 hb⟩
         clear hK K
         try simp only [apt12]
         clear hb
         refine tkI 19 ⟨some 46, .binOp .geq 3 (.tmp 45) (.const (Go.Value.int .i64 0)) 3, 4, "ref.go:58", #[⟨18, .data⟩, ⟨13, .guard⟩], some (13, true)⟩ ?v251 rfl (by kernel_rfl) (by rfl) ?y251 ?_
         case y251 => intro w hSw; (try dsimp only at hSw); go_simp; all_goals with_reducible rfl
         try simp only [apt12]
         refine tkI 20 ⟨some 47, .pick (.tmp 40) (.tmp 46) (.const (Go.Value.bool false)), 4, "ref.go:58", #[⟨13, .data⟩, ⟨19, .data⟩], none⟩ ?v252 rfl (by kernel_rfl) (by rfl) ?y252 ?_
         case y252 => intro w hSw; (try dsimp only at hSw); go_simp; all_goals with_reducible rfl
         try simp only [apt12]
         refine tkI 21 ⟨some 48, .move (.tmp 47), 4, "ref.go:58", #[⟨20, .data⟩, ⟨18, .chain⟩], none⟩ ?v253 rfl (by kernel_rfl) (by rfl) ?y253 ?_
         case y253 => intro w hSw; (try dsimp only at hSw); go_simp; all_goals with_reducible rfl
         try simp only [apt12]
         refine tkI 22 ⟨some 49, .load 24 (.tmp 2), 24, "ref.go:58", #[⟨21, .guard⟩], some (21, true)⟩ ?v254 rfl (by kernel_rfl) (by rfl) ?y254 ?_
         case y254 => intro w hSw; (try dsimp only at hSw); go_simp; all_goals with_reducible rfl
         try simp only [apt12]
         refine tkI 23 ⟨some 50, .move (.tmp 5), 30, "ref.go:58", #[⟨21, .guard⟩], some (21, true)⟩ ?v255 rfl (by kernel_rfl) (by rfl) ?y255 ?_
         case y255 => intro w hSw; (try dsimp only at hSw); go_simp; all_goals with_reducible rfl
         try simp only [apt12]
         refine tkI 24 ⟨some 51, .indexAddr 30 (.tmp 50) (.const (Go.Value.int .i64 5)), 0, "ref.go:58", #[⟨23, .data⟩, ⟨21, .guard⟩], some (21, true)⟩ ?v256 rfl (by kernel_rfl) (by rfl) ?y256 ?_
         case y256 => intro w hSw; (try dsimp only at hSw); go_simp; all_goals with_reducible rfl
         try simp only [apt12]
         refine tkI 25 ⟨some 52, .load 3 (.tmp 51), 3, "ref.go:58", #[⟨24, .data⟩, ⟨21, .guard⟩], some (21, true)⟩ ?v257 rfl (by kernel_rfl) (by rfl) ?y257 ?_
         case y257 => intro w hSw; (try dsimp only at hSw); go_simp; all_goals with_reducible rfl
         try simp only [apt12]
         refine wpAnyH_ready (rs := [26]) (by kernel_rfl) (by simp) ?_
         refine AllReadyH.cons (i := 26) (o := ⟨some 53, .call { callee := .value (.func 40), args := #[.tmp 49, .tmp 52], argTypes := #[24, 3] }, 3, "ref.go:58", #[⟨22, .data⟩, ⟨25, .data⟩, ⟨21, .chain⟩, ⟨21, .guard⟩], some (21, true)⟩) rfl (fun K hK => ?_) AllReadyH.nil
         go_simp
         go_at_call 40
         refine (rref_any h v5 _ c _).mono ?_
         rintro e u3 ⟨rfl, hb⟩
         rw [← N5.out]
         refine hK.out _ _ ?_ (fun hH3 => ?_)
         next =>
          exact ⟨cell_later hb hH2.1, cell_later hb hH2.2.1, cell_later hb hH2.2.2.1, cell_later hb hH2.2.2.2.1, cell_later hb hH2.2.2.2.2.1, cell_later hb hH2.2.2.2.2.2.1, cell_later hb hH2.2.2.2.2.2.2.1, cell_later hb hH2.2.2.2.2.2.2.2.1, cell_later hb hH2.2.2.2.2.2.2.2.2.1, cell_later hb hH2.2.2.2.2.2.2.2.2.2.1, then_w hH2.2.2.2.2.2.2.2.2.2.2 hb⟩
         clear hK K
         try simp only [apt12]
         clear hb
         refine tkI 27 ⟨some 54, .binOp .geq 3 (.tmp 53) (.const (Go.Value.int .i64 0)) 3, 4, "ref.go:58", #[⟨26, .data⟩, ⟨21, .guard⟩], some (21, true)⟩ ?v258 rfl (by kernel_rfl) (by rfl) ?y258 ?_
         case y258 => intro w hSw; (try dsimp only at hSw); go_simp; all_goals with_reducible rfl
         try simp only [apt12]
         refine tkI 28 ⟨some 55, .pick (.tmp 48) (.tmp 54) (.const (Go.Value.bool false)), 4, "ref.go:58", #[⟨21, .data⟩, ⟨27, .data⟩], none⟩ ?v259 rfl (by kernel_rfl) (by rfl) ?y259 ?_
         case y259 => intro w hSw; (try dsimp only at hSw); go_simp; all_goals with_reducible rfl
         try simp only [apt12]
         refine tkI 29 ⟨some 56, .move (.tmp 55), 4, "ref.go:58", #[⟨28, .data⟩, ⟨26, .chain⟩], none⟩ ?v260 rfl (by kernel_rfl) (by rfl) ?y260 ?_
         case y260 => intro w hSw; (try dsimp only at hSw); go_simp; all_goals with_reducible rfl
         try simp only [apt12]
         refine tkI 30 ⟨some 57, .move (.tmp 5), 30, "ref.go:58", #[⟨29, .guard⟩], some (29, true)⟩ ?v261 rfl (by kernel_rfl) (by rfl) ?y261 ?_
         case y261 => intro w hSw; (try dsimp only at hSw); go_simp; all_goals with_reducible rfl
         try simp only [apt12]
         refine tkI 31 ⟨some 58, .indexAddr 30 (.tmp 57) (.const (Go.Value.int .i64 1)), 0, "ref.go:58", #[⟨30, .data⟩, ⟨29, .guard⟩], some (29, true)⟩ ?v262 rfl (by kernel_rfl) (by rfl) ?y262 ?_
         case y262 => intro w hSw; (try dsimp only at hSw); go_simp; all_goals with_reducible rfl
         try simp only [apt12]
         refine tkI 32 ⟨some 59, .load 3 (.tmp 58), 3, "ref.go:58", #[⟨31, .data⟩, ⟨29, .guard⟩], some (29, true)⟩ ?v263 rfl (by kernel_rfl) (by rfl) ?y263 ?_
         case y263 => intro w hSw; (try dsimp only at hSw); go_simp; all_goals with_reducible rfl
         try simp only [apt12]
         refine tkI 33 ⟨some 60, .fieldAddr 32 (.tmp 6) 3, 0, "ref.go:58", #[⟨29, .guard⟩], some (29, true)⟩ ?v264 rfl (by kernel_rfl) (by rfl) ?y264 ?_
         case y264 => intro w hSw; (try dsimp only at hSw); go_simp; all_goals with_reducible rfl
         try simp only [apt12]
         refine tkI 34 ⟨some 61, .load 29 (.tmp 60), 29, "ref.go:58", #[⟨33, .data⟩, ⟨29, .guard⟩], some (29, true)⟩ ?v265 rfl (by kernel_rfl) (by rfl) ?y265 ?_
         case y265 => intro w hSw; (try dsimp only at hSw); go_simp; all_goals with_reducible rfl
         try simp only [apt12]
         refine tkI 35 ⟨some 62, .call { callee := .builtin .len, args := #[.tmp 61], argTypes := #[29] }, 3, "ref.go:58", #[⟨34, .data⟩, ⟨29, .guard⟩], some (29, true)⟩ ?v266 rfl (by kernel_rfl) (by rfl) ?y266 ?_
         case y266 => intro w hSw; (try dsimp only at hSw); go_simp; all_goals with_reducible rfl
         try simp only [apt12]
         refine tkI 36 ⟨some 63, .binOp .sub 3 (.tmp 62) (.const (Go.Value.int .i64 1)) 3, 3, "ref.go:58", #[⟨35, .data⟩, ⟨29, .guard⟩], some (29, true)⟩ ?v267 rfl (by kernel_rfl) (by rfl) ?y267 ?_
         case y267 => intro w hSw; (try dsimp only at hSw); go_simp; all_goals with_reducible rfl
         try simp only [apt12]
         refine wpAnyH_ready (rs := [37]) (by kernel_rfl) (by simp) ?_
         refine AllReadyH.cons (i := 37) (o := ⟨some 64, .call { callee := .value (.func 41), args := #[.tmp 59, .tmp 63], argTypes := #[3, 3] }, 3, "ref.go:58", #[⟨32, .data⟩, ⟨36, .data⟩, ⟨29, .chain⟩, ⟨29, .guard⟩], some (29, true)⟩) rfl (fun K hK => ?_) AllReadyH.nil
         go_simp
         go_at_call 41
         refine (rsmall_any12 v1 (M3.code.length - 1) _).mono ?_
         rintro e u4 ⟨rfl, hu⟩
         subst hu
         rw [← S1.out]
         refine hK.out _ _ ?_ (fun hH4 => ?_)
         next =>
          exact hH3
         clear hK K
         try simp only [apt12]
         refine tkI 38 ⟨some 65, .binOp .geq 3 (.tmp 64) (.const (Go.Value.int .i64 0)) 3, 4, "ref.go:58", #[⟨37, .data⟩, ⟨29, .guard⟩], some (29, true)⟩ ?v268 rfl (by kernel_rfl) (by rfl) ?y268 ?_
         case y268 => intro w hSw; (try dsimp only at hSw); go_simp; all_goals with_reducible rfl
         try simp only [apt12]
         refine tkI 39 ⟨some 66, .pick (.tmp 56) (.tmp 65) (.const (Go.Value.bool false)), 4, "ref.go:58", #[⟨29, .data⟩, ⟨38, .data⟩], none⟩ ?v269 rfl (by kernel_rfl) (by rfl) ?y269 ?_
         case y269 => intro w hSw; (try dsimp only at hSw); go_simp; all_goals with_reducible rfl
         try simp only [apt12]
         refine tkI 40 ⟨some 67, .move (.tmp 66), 4, "ref.go:58", #[⟨39, .data⟩, ⟨37, .chain⟩], none⟩ ?v270 rfl (by kernel_rfl) (by rfl) ?y270 ?_
         case y270 => intro w hSw; (try dsimp only at hSw); go_simp; all_goals with_reducible rfl
         try simp only [apt12]
         refine tkO 41 ⟨some 68, .move (.tmp 5), 30, "ref.go:58", #[⟨40, .guard⟩], some (40, true)⟩ rfl (by kernel_rfl) (by rfl) ?_
         try simp only [apt12]
         refine tkO 42 ⟨some 69, .indexAddr 30 (.tmp 68) (.const (Go.Value.int .i64 2)), 0, "ref.go:58", #[⟨41, .data⟩, ⟨40, .guard⟩], some (40, true)⟩ rfl (by kernel_rfl) (by rfl) ?_
         try simp only [apt12]
         refine tkO 43 ⟨some 70, .load 3 (.tmp 69), 3, "ref.go:58", #[⟨42, .data⟩, ⟨40, .guard⟩], some (40, true)⟩ rfl (by kernel_rfl) (by rfl) ?_
         try simp only [apt12]
         refine tkO 44 ⟨some 71, .call { callee := .value (.func 41), args := #[.tmp 70, .const (Go.Value.int .i64 16)], argTypes := #[3, 3] }, 3, "ref.go:58", #[⟨43, .data⟩, ⟨40, .chain⟩, ⟨40, .guard⟩], some (40, true)⟩ rfl (by kernel_rfl) (by rfl) ?_
         try simp only [apt12]
         refine tkO 45 ⟨some 72, .fieldAddr 32 (.tmp 6) 2, 0, "ref.go:58", #[⟨40, .guard⟩], some (40, true)⟩ rfl (by kernel_rfl) (by rfl) ?_
         try simp only [apt12]
         refine tkO 46 ⟨some 73, .load 3 (.tmp 72), 3, "ref.go:58", #[⟨45, .data⟩, ⟨40, .guard⟩], some (40, true)⟩ rfl (by kernel_rfl) (by rfl) ?_
         try simp only [apt12]
         refine tkO 47 ⟨some 74, .binOp .geq 3 (.tmp 71) (.tmp 73) 3, 4, "ref.go:58", #[⟨44, .data⟩, ⟨46, .data⟩, ⟨40, .guard⟩], some (40, true)⟩ rfl (by kernel_rfl) (by rfl) ?_
         try simp only [apt12]
         refine tkI 48 ⟨some 75, .pick (.tmp 67) (.tmp 74) (.const (Go.Value.bool false)), 4, "ref.go:58", #[⟨40, .data⟩, ⟨47, .data⟩], none⟩ ?v278 rfl (by kernel_rfl) (by rfl) ?y278 ?_
         case y278 => intro w hSw; (try dsimp only at hSw); go_simp; all_goals with_reducible rfl
         try simp only [apt12]
         refine tkI 49 ⟨some 4, .assign (.tmp 75), 4, "ref.go:58", #[⟨48, .data⟩, ⟨44, .chain⟩, ⟨0, .phase⟩, ⟨1, .phase⟩, ⟨2, .phase⟩, ⟨3, .phase⟩, ⟨4, .phase⟩, ⟨5, .phase⟩, ⟨6, .phase⟩, ⟨7, .phase⟩, ⟨8, .phase⟩, ⟨9, .phase⟩, ⟨10, .phase⟩, ⟨11, .phase⟩, ⟨12, .phase⟩, ⟨13, .phase⟩, ⟨14, .phase⟩, ⟨15, .phase⟩, ⟨16, .phase⟩, ⟨17, .phase⟩, ⟨18, .phase⟩, ⟨19, .phase⟩, ⟨20, .phase⟩, ⟨21, .phase⟩, ⟨22, .phase⟩, ⟨23, .phase⟩, ⟨24, .phase⟩, ⟨25, .phase⟩, ⟨26, .phase⟩, ⟨27, .phase⟩, ⟨28, .phase⟩, ⟨29, .phase⟩, ⟨30, .phase⟩, ⟨31, .phase⟩, ⟨32, .phase⟩, ⟨33, .phase⟩, ⟨34, .phase⟩, ⟨35, .phase⟩, ⟨36, .phase⟩, ⟨37, .phase⟩, ⟨38, .phase⟩, ⟨39, .phase⟩, ⟨40, .phase⟩, ⟨41, .phase⟩, ⟨42, .phase⟩, ⟨43, .phase⟩, ⟨44, .phase⟩, ⟨45, .phase⟩, ⟨46, .phase⟩, ⟨47, .phase⟩, ⟨48, .phase⟩], none⟩ ?v279 rfl (by kernel_rfl) (by rfl) ?y279 ?_
         case y279 => intro w hSw; (try dsimp only at hSw); go_simp; all_goals with_reducible rfl
         try simp only [apt12]
         refine wpAnyH_done (by kernel_rfl) ?_ _
         go_wp2_with fail
         go_ret
         exact ⟨by rw [HV.out]; first | rfl | simp_all, then_w HB3.out (hH4.2.2.2.2.2.2.2.2.2.2)⟩
       next =>
        have HV : Hid (r = false) := by
          show _ = _
          rw [HRB.out]
          rw [decide_eq_true g0, decide_eq_true g1, decide_eq_true g2, decide_eq_false g3]; simp
        go_upto_region 5 with fail
        refine wp_region_held_drew (S := (fun w' => w'.cell? ⟨w.heap.size, 0, none⟩ = some (.slice (some ⟨b, off, none⟩) h.objs.length c) ∧ w'.cell? ⟨w.heap.size, 1, none⟩ = some (.int .i64 h.cap) ∧ w'.cell? ⟨w.heap.size, 2, none⟩ = some (.int .i64 h.last) ∧ w'.cell? ⟨bl, ol, none⟩ = some (.int .i64 v0) ∧ w'.cell? ⟨bl, ol + 1, none⟩ = some (.int .i64 v1) ∧ w'.cell? ⟨bl, ol + 2, none⟩ = some (.int .i64 v2) ∧ w'.cell? ⟨bl, ol + 5, none⟩ = some (.int .i64 v5) ∧ w'.cell? ⟨b, off + i * 6, none⟩ = some (.int .i64 cl) ∧ w'.cell? ⟨bx, 2, none⟩ = some (.int .i64 M3.temps) ∧ w'.cell? ⟨bx, 3, none⟩ = some (.slice CA M3.code.length cc) ∧ Below w3.heap.size w3 w')) (by kernel_rfl) ?_ (fun hH0 => ?_)
        next =>
         exact ⟨cell_later (Below.refl w3.heap.size w3).drew x0, cell_later (Below.refl w3.heap.size w3).drew x1, cell_later (Below.refl w3.heap.size w3).drew x2, cell_later (Below.refl w3.heap.size w3).drew q0, cell_later (Below.refl w3.heap.size w3).drew q1, cell_later (Below.refl w3.heap.size w3).drew q2, cell_later (Below.refl w3.heap.size w3).drew q5, cell_later (Below.refl w3.heap.size w3).drew y0, cell_later (Below.refl w3.heap.size w3).drew m2, cell_later (Below.refl w3.heap.size w3).drew m3, (Below.refl _ _).drew⟩
        refine tkI 0 ⟨some 27, .move (.tmp 7), 33, "ref.go:58", #[], none⟩ ?v187 rfl (by kernel_rfl) (by rfl) ?y187 ?_
        case y187 => intro w hSw; (try dsimp only at hSw); go_simp; all_goals with_reducible rfl
        try simp only [apt12]
        refine tkI 1 ⟨some 28, .binOp .eql 33 (.tmp 27) (.const (Go.Value.int .i64 0)) 33, 4, "ref.go:58", #[⟨0, .data⟩], none⟩ ?v188 rfl (by kernel_rfl) (by rfl) ?y188 ?_
        case y188 => intro w hSw; (try dsimp only at hSw); go_simp; all_goals with_reducible rfl
        try simp only [apt12]
        refine tkI 2 ⟨some 29, .move (.tmp 28), 4, "ref.go:58", #[⟨1, .data⟩], none⟩ ?v189 rfl (by kernel_rfl) (by rfl) ?y189 ?_
        case y189 => intro w hSw; (try dsimp only at hSw); go_simp; all_goals with_reducible rfl
        try simp only [apt12]
        refine tkI 3 ⟨some 30, .fieldAddr 24 (.tmp 2) 0, 0, "ref.go:58", #[⟨2, .guard⟩], some (2, true)⟩ ?v190 rfl (by kernel_rfl) (by rfl) ?y190 ?_
        case y190 => intro w hSw; (try dsimp only at hSw); go_simp; all_goals with_reducible rfl
        try simp only [apt12]
        refine tkI 4 ⟨some 31, .load 22 (.tmp 30), 22, "ref.go:58", #[⟨3, .data⟩, ⟨2, .guard⟩], some (2, true)⟩ ?v191 rfl (by kernel_rfl) (by rfl) ?y191 ?_
        case y191 => intro w hSw; (try dsimp only at hSw); go_simp; all_goals with_reducible rfl
        try simp only [apt12]
        refine tkI 5 ⟨some 32, .load 24 (.tmp 2), 24, "ref.go:58", #[⟨2, .guard⟩], some (2, true)⟩ ?v192 rfl (by kernel_rfl) (by rfl) ?y192 ?_
        case y192 => intro w hSw; (try dsimp only at hSw); go_simp; all_goals with_reducible rfl
        try simp only [apt12]
        refine tkI 6 ⟨some 33, .move (.tmp 1), 3, "ref.go:58", #[⟨2, .guard⟩], some (2, true)⟩ ?v193 rfl (by kernel_rfl) (by rfl) ?y193 ?_
        case y193 => intro w hSw; (try dsimp only at hSw); go_simp; all_goals with_reducible rfl
        try simp only [apt12]
        refine wpAnyH_ready (rs := [7]) (by kernel_rfl) (by simp) ?_
        refine AllReadyH.cons (i := 7) (o := ⟨some 34, .call { callee := .value (.func 40), args := #[.tmp 32, .tmp 33], argTypes := #[24, 3] }, 3, "ref.go:58", #[⟨5, .data⟩, ⟨6, .data⟩, ⟨2, .chain⟩, ⟨2, .guard⟩], some (2, true)⟩) rfl (fun K hK => ?_) AllReadyH.nil
        go_simp
        go_at_call 40
        refine (rref_any h cx _ c _).mono ?_
        rintro e u1 ⟨rfl, hb⟩
        rw [HI.out]
        refine hK.out _ _ ?_ (fun hH1 => ?_)
        next =>
         exact ⟨cell_later hb hH0.1, cell_later hb hH0.2.1, cell_later hb hH0.2.2.1, cell_later hb hH0.2.2.2.1, cell_later hb hH0.2.2.2.2.1, cell_later hb hH0.2.2.2.2.2.1, cell_later hb hH0.2.2.2.2.2.2.1, cell_later hb hH0.2.2.2.2.2.2.2.1, cell_later hb hH0.2.2.2.2.2.2.2.2.1, cell_later hb hH0.2.2.2.2.2.2.2.2.2.1, then_w hH0.2.2.2.2.2.2.2.2.2.2 hb⟩
        clear hK K
        try simp only [apt12]
        clear hb
        refine tkI 8 ⟨some 35, .indexAddr 22 (.tmp 31) (.tmp 34), 0, "ref.go:58", #[⟨4, .data⟩, ⟨7, .data⟩, ⟨2, .guard⟩], some (2, true)⟩ ?v194 rfl (by kernel_rfl) (by rfl) ?y194 ?_
        case y194 => intro w hSw; (try dsimp only at hSw); go_simp; all_goals with_reducible rfl
        try simp only [apt12]
        refine tkI 9 ⟨some 36, .fieldAddr 60 (.tmp 35) 0, 0, "ref.go:58", #[⟨8, .data⟩, ⟨2, .guard⟩], some (2, true)⟩ ?v195 rfl (by kernel_rfl) (by rfl) ?y195 ?_
        case y195 => intro w hSw; (try dsimp only at hSw); go_simp; all_goals with_reducible rfl
        try simp only [apt12]
        refine tkI 10 ⟨some 37, .load 3 (.tmp 36), 3, "ref.go:58", #[⟨9, .data⟩, ⟨2, .guard⟩], some (2, true)⟩ ?v196 rfl (by kernel_rfl) (by rfl) ?y196 ?_
        case y196 => intro w hSw; (try dsimp only at hSw); go_simp; all_goals with_reducible rfl
        try simp only [apt12]
        refine tkI 11 ⟨some 38, .binOp .eql 3 (.tmp 37) (.const (Go.Value.int .i64 12)) 3, 4, "ref.go:58", #[⟨10, .data⟩, ⟨2, .guard⟩], some (2, true)⟩ ?v197 rfl (by kernel_rfl) (by rfl) ?y197 ?_
        case y197 => intro w hSw; (try dsimp only at hSw); go_simp; all_goals with_reducible rfl
        try simp only [apt12]
        refine tkI 12 ⟨some 39, .pick (.tmp 29) (.tmp 38) (.const (Go.Value.bool false)), 4, "ref.go:58", #[⟨2, .data⟩, ⟨11, .data⟩], none⟩ ?v198 rfl (by kernel_rfl) (by rfl) ?y198 ?_
        case y198 => intro w hSw; (try dsimp only at hSw); go_simp; all_goals with_reducible rfl
        try simp only [apt12]
        refine tkI 13 ⟨some 40, .move (.tmp 39), 4, "ref.go:58", #[⟨12, .data⟩, ⟨7, .chain⟩], none⟩ ?v199 rfl (by kernel_rfl) (by rfl) ?y199 ?_
        case y199 => intro w hSw; (try dsimp only at hSw); go_simp; all_goals with_reducible rfl
        try simp only [apt12]
        refine tkI 14 ⟨some 41, .load 24 (.tmp 2), 24, "ref.go:58", #[⟨13, .guard⟩], some (13, true)⟩ ?v200 rfl (by kernel_rfl) (by rfl) ?y200 ?_
        case y200 => intro w hSw; (try dsimp only at hSw); go_simp; all_goals with_reducible rfl
        try simp only [apt12]
        refine tkI 15 ⟨some 42, .move (.tmp 5), 30, "ref.go:58", #[⟨13, .guard⟩], some (13, true)⟩ ?v201 rfl (by kernel_rfl) (by rfl) ?y201 ?_
        case y201 => intro w hSw; (try dsimp only at hSw); go_simp; all_goals with_reducible rfl
        try simp only [apt12]
        refine tkI 16 ⟨some 43, .indexAddr 30 (.tmp 42) (.const (Go.Value.int .i64 0)), 0, "ref.go:58", #[⟨15, .data⟩, ⟨13, .guard⟩], some (13, true)⟩ ?v202 rfl (by kernel_rfl) (by rfl) ?y202 ?_
        case y202 => intro w hSw; (try dsimp only at hSw); go_simp; all_goals with_reducible rfl
        try simp only [apt12]
        refine tkI 17 ⟨some 44, .load 3 (.tmp 43), 3, "ref.go:58", #[⟨16, .data⟩, ⟨13, .guard⟩], some (13, true)⟩ ?v203 rfl (by kernel_rfl) (by rfl) ?y203 ?_
        case y203 => intro w hSw; (try dsimp only at hSw); go_simp; all_goals with_reducible rfl
        try simp only [apt12]
        refine wpAnyH_ready (rs := [18]) (by kernel_rfl) (by simp) ?_
        refine AllReadyH.cons (i := 18) (o := ⟨some 45, .call { callee := .value (.func 40), args := #[.tmp 41, .tmp 44], argTypes := #[24, 3] }, 3, "ref.go:58", #[⟨14, .data⟩, ⟨17, .data⟩, ⟨13, .chain⟩, ⟨13, .guard⟩], some (13, true)⟩) rfl (fun K hK => ?_) AllReadyH.nil
        go_simp
        go_at_call 40
        refine (rref_any h v0 _ c _).mono ?_
        rintro e u2 ⟨rfl, hb⟩
        rw [← N0.out]
        refine hK.out _ _ ?_ (fun hH2 => ?_)
        next =>
         exact ⟨cell_later hb hH1.1, cell_later hb hH1.2.1, cell_later hb hH1.2.2.1, cell_later hb hH1.2.2.2.1, cell_later hb hH1.2.2.2.2.1, cell_later hb hH1.2.2.2.2.2.1, cell_later hb hH1.2.2.2.2.2.2.1, cell_later hb hH1.2.2.2.2.2.2.2.1, cell_later hb hH1.2.2.2.2.2.2.2.2.1, cell_later hb hH1.2.2.2.2.2.2.2.2.2.1, then_w hH1.2.2.2.2.2.2.2.2.2.2 hb⟩
        clear hK K
        try simp only [apt12]
        clear hb
        refine tkI 19 ⟨some 46, .binOp .geq 3 (.tmp 45) (.const (Go.Value.int .i64 0)) 3, 4, "ref.go:58", #[⟨18, .data⟩, ⟨13, .guard⟩], some (13, true)⟩ ?v204 rfl (by kernel_rfl) (by rfl) ?y204 ?_
        case y204 => intro w hSw; (try dsimp only at hSw); go_simp; all_goals with_reducible rfl
        try simp only [apt12]
        refine tkI 20 ⟨some 47, .pick (.tmp 40) (.tmp 46) (.const (Go.Value.bool false)), 4, "ref.go:58", #[⟨13, .data⟩, ⟨19, .data⟩], none⟩ ?v205 rfl (by kernel_rfl) (by rfl) ?y205 ?_
        case y205 => intro w hSw; (try dsimp only at hSw); go_simp; all_goals with_reducible rfl
        try simp only [apt12]
        refine tkI 21 ⟨some 48, .move (.tmp 47), 4, "ref.go:58", #[⟨20, .data⟩, ⟨18, .chain⟩], none⟩ ?v206 rfl (by kernel_rfl) (by rfl) ?y206 ?_
        case y206 => intro w hSw; (try dsimp only at hSw); go_simp; all_goals with_reducible rfl
        try simp only [apt12]
        refine tkI 22 ⟨some 49, .load 24 (.tmp 2), 24, "ref.go:58", #[⟨21, .guard⟩], some (21, true)⟩ ?v207 rfl (by kernel_rfl) (by rfl) ?y207 ?_
        case y207 => intro w hSw; (try dsimp only at hSw); go_simp; all_goals with_reducible rfl
        try simp only [apt12]
        refine tkI 23 ⟨some 50, .move (.tmp 5), 30, "ref.go:58", #[⟨21, .guard⟩], some (21, true)⟩ ?v208 rfl (by kernel_rfl) (by rfl) ?y208 ?_
        case y208 => intro w hSw; (try dsimp only at hSw); go_simp; all_goals with_reducible rfl
        try simp only [apt12]
        refine tkI 24 ⟨some 51, .indexAddr 30 (.tmp 50) (.const (Go.Value.int .i64 5)), 0, "ref.go:58", #[⟨23, .data⟩, ⟨21, .guard⟩], some (21, true)⟩ ?v209 rfl (by kernel_rfl) (by rfl) ?y209 ?_
        case y209 => intro w hSw; (try dsimp only at hSw); go_simp; all_goals with_reducible rfl
        try simp only [apt12]
        refine tkI 25 ⟨some 52, .load 3 (.tmp 51), 3, "ref.go:58", #[⟨24, .data⟩, ⟨21, .guard⟩], some (21, true)⟩ ?v210 rfl (by kernel_rfl) (by rfl) ?y210 ?_
        case y210 => intro w hSw; (try dsimp only at hSw); go_simp; all_goals with_reducible rfl
        try simp only [apt12]
        refine wpAnyH_ready (rs := [26]) (by kernel_rfl) (by simp) ?_
        refine AllReadyH.cons (i := 26) (o := ⟨some 53, .call { callee := .value (.func 40), args := #[.tmp 49, .tmp 52], argTypes := #[24, 3] }, 3, "ref.go:58", #[⟨22, .data⟩, ⟨25, .data⟩, ⟨21, .chain⟩, ⟨21, .guard⟩], some (21, true)⟩) rfl (fun K hK => ?_) AllReadyH.nil
        go_simp
        go_at_call 40
        refine (rref_any h v5 _ c _).mono ?_
        rintro e u3 ⟨rfl, hb⟩
        rw [← N5.out]
        refine hK.out _ _ ?_ (fun hH3 => ?_)
        next =>
         exact ⟨cell_later hb hH2.1, cell_later hb hH2.2.1, cell_later hb hH2.2.2.1, cell_later hb hH2.2.2.2.1, cell_later hb hH2.2.2.2.2.1, cell_later hb hH2.2.2.2.2.2.1, cell_later hb hH2.2.2.2.2.2.2.1, cell_later hb hH2.2.2.2.2.2.2.2.1, cell_later hb hH2.2.2.2.2.2.2.2.2.1, cell_later hb hH2.2.2.2.2.2.2.2.2.2.1, then_w hH2.2.2.2.2.2.2.2.2.2.2 hb⟩
        clear hK K
        try simp only [apt12]
        clear hb
        refine tkI 27 ⟨some 54, .binOp .geq 3 (.tmp 53) (.const (Go.Value.int .i64 0)) 3, 4, "ref.go:58", #[⟨26, .data⟩, ⟨21, .guard⟩], some (21, true)⟩ ?v211 rfl (by kernel_rfl) (by rfl) ?y211 ?_
        case y211 => intro w hSw; (try dsimp only at hSw); go_simp; all_goals with_reducible rfl
        try simp only [apt12]
        refine tkI 28 ⟨some 55, .pick (.tmp 48) (.tmp 54) (.const (Go.Value.bool false)), 4, "ref.go:58", #[⟨21, .data⟩, ⟨27, .data⟩], none⟩ ?v212 rfl (by kernel_rfl) (by rfl) ?y212 ?_
        case y212 => intro w hSw; (try dsimp only at hSw); go_simp; all_goals with_reducible rfl
        try simp only [apt12]
        refine tkI 29 ⟨some 56, .move (.tmp 55), 4, "ref.go:58", #[⟨28, .data⟩, ⟨26, .chain⟩], none⟩ ?v213 rfl (by kernel_rfl) (by rfl) ?y213 ?_
        case y213 => intro w hSw; (try dsimp only at hSw); go_simp; all_goals with_reducible rfl
        try simp only [apt12]
        refine tkO 30 ⟨some 57, .move (.tmp 5), 30, "ref.go:58", #[⟨29, .guard⟩], some (29, true)⟩ rfl (by kernel_rfl) (by rfl) ?_
        try simp only [apt12]
        refine tkO 31 ⟨some 58, .indexAddr 30 (.tmp 57) (.const (Go.Value.int .i64 1)), 0, "ref.go:58", #[⟨30, .data⟩, ⟨29, .guard⟩], some (29, true)⟩ rfl (by kernel_rfl) (by rfl) ?_
        try simp only [apt12]
        refine tkO 32 ⟨some 59, .load 3 (.tmp 58), 3, "ref.go:58", #[⟨31, .data⟩, ⟨29, .guard⟩], some (29, true)⟩ rfl (by kernel_rfl) (by rfl) ?_
        try simp only [apt12]
        refine tkO 33 ⟨some 60, .fieldAddr 32 (.tmp 6) 3, 0, "ref.go:58", #[⟨29, .guard⟩], some (29, true)⟩ rfl (by kernel_rfl) (by rfl) ?_
        try simp only [apt12]
        refine tkO 34 ⟨some 61, .load 29 (.tmp 60), 29, "ref.go:58", #[⟨33, .data⟩, ⟨29, .guard⟩], some (29, true)⟩ rfl (by kernel_rfl) (by rfl) ?_
        try simp only [apt12]
        refine tkO 35 ⟨some 62, .call { callee := .builtin .len, args := #[.tmp 61], argTypes := #[29] }, 3, "ref.go:58", #[⟨34, .data⟩, ⟨29, .guard⟩], some (29, true)⟩ rfl (by kernel_rfl) (by rfl) ?_
        try simp only [apt12]
        refine tkO 36 ⟨some 63, .binOp .sub 3 (.tmp 62) (.const (Go.Value.int .i64 1)) 3, 3, "ref.go:58", #[⟨35, .data⟩, ⟨29, .guard⟩], some (29, true)⟩ rfl (by kernel_rfl) (by rfl) ?_
        try simp only [apt12]
        refine tkO 37 ⟨some 64, .call { callee := .value (.func 41), args := #[.tmp 59, .tmp 63], argTypes := #[3, 3] }, 3, "ref.go:58", #[⟨32, .data⟩, ⟨36, .data⟩, ⟨29, .chain⟩, ⟨29, .guard⟩], some (29, true)⟩ rfl (by kernel_rfl) (by rfl) ?_
        try simp only [apt12]
        refine tkO 38 ⟨some 65, .binOp .geq 3 (.tmp 64) (.const (Go.Value.int .i64 0)) 3, 4, "ref.go:58", #[⟨37, .data⟩, ⟨29, .guard⟩], some (29, true)⟩ rfl (by kernel_rfl) (by rfl) ?_
        try simp only [apt12]
        refine tkI 39 ⟨some 66, .pick (.tmp 56) (.tmp 65) (.const (Go.Value.bool false)), 4, "ref.go:58", #[⟨29, .data⟩, ⟨38, .data⟩], none⟩ ?v223 rfl (by kernel_rfl) (by rfl) ?y223 ?_
        case y223 => intro w hSw; (try dsimp only at hSw); go_simp; all_goals with_reducible rfl
        try simp only [apt12]
        refine tkI 40 ⟨some 67, .move (.tmp 66), 4, "ref.go:58", #[⟨39, .data⟩, ⟨37, .chain⟩], none⟩ ?v224 rfl (by kernel_rfl) (by rfl) ?y224 ?_
        case y224 => intro w hSw; (try dsimp only at hSw); go_simp; all_goals with_reducible rfl
        try simp only [apt12]
        refine tkO 41 ⟨some 68, .move (.tmp 5), 30, "ref.go:58", #[⟨40, .guard⟩], some (40, true)⟩ rfl (by kernel_rfl) (by rfl) ?_
        try simp only [apt12]
        refine tkO 42 ⟨some 69, .indexAddr 30 (.tmp 68) (.const (Go.Value.int .i64 2)), 0, "ref.go:58", #[⟨41, .data⟩, ⟨40, .guard⟩], some (40, true)⟩ rfl (by kernel_rfl) (by rfl) ?_
        try simp only [apt12]
        refine tkO 43 ⟨some 70, .load 3 (.tmp 69), 3, "ref.go:58", #[⟨42, .data⟩, ⟨40, .guard⟩], some (40, true)⟩ rfl (by kernel_rfl) (by rfl) ?_
        try simp only [apt12]
        refine tkO 44 ⟨some 71, .call { callee := .value (.func 41), args := #[.tmp 70, .const (Go.Value.int .i64 16)], argTypes := #[3, 3] }, 3, "ref.go:58", #[⟨43, .data⟩, ⟨40, .chain⟩, ⟨40, .guard⟩], some (40, true)⟩ rfl (by kernel_rfl) (by rfl) ?_
        try simp only [apt12]
        refine tkO 45 ⟨some 72, .fieldAddr 32 (.tmp 6) 2, 0, "ref.go:58", #[⟨40, .guard⟩], some (40, true)⟩ rfl (by kernel_rfl) (by rfl) ?_
        try simp only [apt12]
        refine tkO 46 ⟨some 73, .load 3 (.tmp 72), 3, "ref.go:58", #[⟨45, .data⟩, ⟨40, .guard⟩], some (40, true)⟩ rfl (by kernel_rfl) (by rfl) ?_
        try simp only [apt12]
        refine tkO 47 ⟨some 74, .binOp .geq 3 (.tmp 71) (.tmp 73) 3, 4, "ref.go:58", #[⟨44, .data⟩, ⟨46, .data⟩, ⟨40, .guard⟩], some (40, true)⟩ rfl (by kernel_rfl) (by rfl) ?_
        try simp only [apt12]
        refine tkI 48 ⟨some 75, .pick (.tmp 67) (.tmp 74) (.const (Go.Value.bool false)), 4, "ref.go:58", #[⟨40, .data⟩, ⟨47, .data⟩], none⟩ ?v232 rfl (by kernel_rfl) (by rfl) ?y232 ?_
        case y232 => intro w hSw; (try dsimp only at hSw); go_simp; all_goals with_reducible rfl
        try simp only [apt12]
        refine tkI 49 ⟨some 4, .assign (.tmp 75), 4, "ref.go:58", #[⟨48, .data⟩, ⟨44, .chain⟩, ⟨0, .phase⟩, ⟨1, .phase⟩, ⟨2, .phase⟩, ⟨3, .phase⟩, ⟨4, .phase⟩, ⟨5, .phase⟩, ⟨6, .phase⟩, ⟨7, .phase⟩, ⟨8, .phase⟩, ⟨9, .phase⟩, ⟨10, .phase⟩, ⟨11, .phase⟩, ⟨12, .phase⟩, ⟨13, .phase⟩, ⟨14, .phase⟩, ⟨15, .phase⟩, ⟨16, .phase⟩, ⟨17, .phase⟩, ⟨18, .phase⟩, ⟨19, .phase⟩, ⟨20, .phase⟩, ⟨21, .phase⟩, ⟨22, .phase⟩, ⟨23, .phase⟩, ⟨24, .phase⟩, ⟨25, .phase⟩, ⟨26, .phase⟩, ⟨27, .phase⟩, ⟨28, .phase⟩, ⟨29, .phase⟩, ⟨30, .phase⟩, ⟨31, .phase⟩, ⟨32, .phase⟩, ⟨33, .phase⟩, ⟨34, .phase⟩, ⟨35, .phase⟩, ⟨36, .phase⟩, ⟨37, .phase⟩, ⟨38, .phase⟩, ⟨39, .phase⟩, ⟨40, .phase⟩, ⟨41, .phase⟩, ⟨42, .phase⟩, ⟨43, .phase⟩, ⟨44, .phase⟩, ⟨45, .phase⟩, ⟨46, .phase⟩, ⟨47, .phase⟩, ⟨48, .phase⟩], none⟩ ?v233 rfl (by kernel_rfl) (by rfl) ?y233 ?_
        case y233 => intro w hSw; (try dsimp only at hSw); go_simp; all_goals with_reducible rfl
        try simp only [apt12]
        refine wpAnyH_done (by kernel_rfl) ?_ _
        go_wp2_with fail
        go_ret
        exact ⟨by rw [HV.out]; first | rfl | simp_all, then_w HB3.out (hH3.2.2.2.2.2.2.2.2.2.2)⟩
      next =>
       have HV : Hid (r = false) := by
         show _ = _
         rw [HRB.out]
         rw [decide_eq_true g0, decide_eq_true g1, decide_eq_false g2]; simp
       go_upto_region 5 with fail
       refine wp_region_held_drew (S := (fun w' => w'.cell? ⟨w.heap.size, 0, none⟩ = some (.slice (some ⟨b, off, none⟩) h.objs.length c) ∧ w'.cell? ⟨w.heap.size, 1, none⟩ = some (.int .i64 h.cap) ∧ w'.cell? ⟨w.heap.size, 2, none⟩ = some (.int .i64 h.last) ∧ w'.cell? ⟨bl, ol, none⟩ = some (.int .i64 v0) ∧ w'.cell? ⟨bl, ol + 1, none⟩ = some (.int .i64 v1) ∧ w'.cell? ⟨bl, ol + 2, none⟩ = some (.int .i64 v2) ∧ w'.cell? ⟨bl, ol + 5, none⟩ = some (.int .i64 v5) ∧ w'.cell? ⟨b, off + i * 6, none⟩ = some (.int .i64 cl) ∧ w'.cell? ⟨bx, 2, none⟩ = some (.int .i64 M3.temps) ∧ w'.cell? ⟨bx, 3, none⟩ = some (.slice CA M3.code.length cc) ∧ Below w3.heap.size w3 w')) (by kernel_rfl) ?_ (fun hH0 => ?_)
       next =>
        exact ⟨cell_later (Below.refl w3.heap.size w3).drew x0, cell_later (Below.refl w3.heap.size w3).drew x1, cell_later (Below.refl w3.heap.size w3).drew x2, cell_later (Below.refl w3.heap.size w3).drew q0, cell_later (Below.refl w3.heap.size w3).drew q1, cell_later (Below.refl w3.heap.size w3).drew q2, cell_later (Below.refl w3.heap.size w3).drew q5, cell_later (Below.refl w3.heap.size w3).drew y0, cell_later (Below.refl w3.heap.size w3).drew m2, cell_later (Below.refl w3.heap.size w3).drew m3, (Below.refl _ _).drew⟩
       refine tkI 0 ⟨some 27, .move (.tmp 7), 33, "ref.go:58", #[], none⟩ ?v139 rfl (by kernel_rfl) (by rfl) ?y139 ?_
       case y139 => intro w hSw; (try dsimp only at hSw); go_simp; all_goals with_reducible rfl
       try simp only [apt12]
       refine tkI 1 ⟨some 28, .binOp .eql 33 (.tmp 27) (.const (Go.Value.int .i64 0)) 33, 4, "ref.go:58", #[⟨0, .data⟩], none⟩ ?v140 rfl (by kernel_rfl) (by rfl) ?y140 ?_
       case y140 => intro w hSw; (try dsimp only at hSw); go_simp; all_goals with_reducible rfl
       try simp only [apt12]
       refine tkI 2 ⟨some 29, .move (.tmp 28), 4, "ref.go:58", #[⟨1, .data⟩], none⟩ ?v141 rfl (by kernel_rfl) (by rfl) ?y141 ?_
       case y141 => intro w hSw; (try dsimp only at hSw); go_simp; all_goals with_reducible rfl
       try simp only [apt12]
       refine tkI 3 ⟨some 30, .fieldAddr 24 (.tmp 2) 0, 0, "ref.go:58", #[⟨2, .guard⟩], some (2, true)⟩ ?v142 rfl (by kernel_rfl) (by rfl) ?y142 ?_
       case y142 => intro w hSw; (try dsimp only at hSw); go_simp; all_goals with_reducible rfl
       try simp only [apt12]
       refine tkI 4 ⟨some 31, .load 22 (.tmp 30), 22, "ref.go:58", #[⟨3, .data⟩, ⟨2, .guard⟩], some (2, true)⟩ ?v143 rfl (by kernel_rfl) (by rfl) ?y143 ?_
       case y143 => intro w hSw; (try dsimp only at hSw); go_simp; all_goals with_reducible rfl
       try simp only [apt12]
       refine tkI 5 ⟨some 32, .load 24 (.tmp 2), 24, "ref.go:58", #[⟨2, .guard⟩], some (2, true)⟩ ?v144 rfl (by kernel_rfl) (by rfl) ?y144 ?_
       case y144 => intro w hSw; (try dsimp only at hSw); go_simp; all_goals with_reducible rfl
       try simp only [apt12]
       refine tkI 6 ⟨some 33, .move (.tmp 1), 3, "ref.go:58", #[⟨2, .guard⟩], some (2, true)⟩ ?v145 rfl (by kernel_rfl) (by rfl) ?y145 ?_
       case y145 => intro w hSw; (try dsimp only at hSw); go_simp; all_goals with_reducible rfl
       try simp only [apt12]
       refine wpAnyH_ready (rs := [7]) (by kernel_rfl) (by simp) ?_
       refine AllReadyH.cons (i := 7) (o := ⟨some 34, .call { callee := .value (.func 40), args := #[.tmp 32, .tmp 33], argTypes := #[24, 3] }, 3, "ref.go:58", #[⟨5, .data⟩, ⟨6, .data⟩, ⟨2, .chain⟩, ⟨2, .guard⟩], some (2, true)⟩) rfl (fun K hK => ?_) AllReadyH.nil
       go_simp
       go_at_call 40
       refine (rref_any h cx _ c _).mono ?_
       rintro e u1 ⟨rfl, hb⟩
       rw [HI.out]
       refine hK.out _ _ ?_ (fun hH1 => ?_)
       next =>
        exact ⟨cell_later hb hH0.1, cell_later hb hH0.2.1, cell_later hb hH0.2.2.1, cell_later hb hH0.2.2.2.1, cell_later hb hH0.2.2.2.2.1, cell_later hb hH0.2.2.2.2.2.1, cell_later hb hH0.2.2.2.2.2.2.1, cell_later hb hH0.2.2.2.2.2.2.2.1, cell_later hb hH0.2.2.2.2.2.2.2.2.1, cell_later hb hH0.2.2.2.2.2.2.2.2.2.1, then_w hH0.2.2.2.2.2.2.2.2.2.2 hb⟩
       clear hK K
       try simp only [apt12]
       clear hb
       refine tkI 8 ⟨some 35, .indexAddr 22 (.tmp 31) (.tmp 34), 0, "ref.go:58", #[⟨4, .data⟩, ⟨7, .data⟩, ⟨2, .guard⟩], some (2, true)⟩ ?v146 rfl (by kernel_rfl) (by rfl) ?y146 ?_
       case y146 => intro w hSw; (try dsimp only at hSw); go_simp; all_goals with_reducible rfl
       try simp only [apt12]
       refine tkI 9 ⟨some 36, .fieldAddr 60 (.tmp 35) 0, 0, "ref.go:58", #[⟨8, .data⟩, ⟨2, .guard⟩], some (2, true)⟩ ?v147 rfl (by kernel_rfl) (by rfl) ?y147 ?_
       case y147 => intro w hSw; (try dsimp only at hSw); go_simp; all_goals with_reducible rfl
       try simp only [apt12]
       refine tkI 10 ⟨some 37, .load 3 (.tmp 36), 3, "ref.go:58", #[⟨9, .data⟩, ⟨2, .guard⟩], some (2, true)⟩ ?v148 rfl (by kernel_rfl) (by rfl) ?y148 ?_
       case y148 => intro w hSw; (try dsimp only at hSw); go_simp; all_goals with_reducible rfl
       try simp only [apt12]
       refine tkI 11 ⟨some 38, .binOp .eql 3 (.tmp 37) (.const (Go.Value.int .i64 12)) 3, 4, "ref.go:58", #[⟨10, .data⟩, ⟨2, .guard⟩], some (2, true)⟩ ?v149 rfl (by kernel_rfl) (by rfl) ?y149 ?_
       case y149 => intro w hSw; (try dsimp only at hSw); go_simp; all_goals with_reducible rfl
       try simp only [apt12]
       refine tkI 12 ⟨some 39, .pick (.tmp 29) (.tmp 38) (.const (Go.Value.bool false)), 4, "ref.go:58", #[⟨2, .data⟩, ⟨11, .data⟩], none⟩ ?v150 rfl (by kernel_rfl) (by rfl) ?y150 ?_
       case y150 => intro w hSw; (try dsimp only at hSw); go_simp; all_goals with_reducible rfl
       try simp only [apt12]
       refine tkI 13 ⟨some 40, .move (.tmp 39), 4, "ref.go:58", #[⟨12, .data⟩, ⟨7, .chain⟩], none⟩ ?v151 rfl (by kernel_rfl) (by rfl) ?y151 ?_
       case y151 => intro w hSw; (try dsimp only at hSw); go_simp; all_goals with_reducible rfl
       try simp only [apt12]
       refine tkI 14 ⟨some 41, .load 24 (.tmp 2), 24, "ref.go:58", #[⟨13, .guard⟩], some (13, true)⟩ ?v152 rfl (by kernel_rfl) (by rfl) ?y152 ?_
       case y152 => intro w hSw; (try dsimp only at hSw); go_simp; all_goals with_reducible rfl
       try simp only [apt12]
       refine tkI 15 ⟨some 42, .move (.tmp 5), 30, "ref.go:58", #[⟨13, .guard⟩], some (13, true)⟩ ?v153 rfl (by kernel_rfl) (by rfl) ?y153 ?_
       case y153 => intro w hSw; (try dsimp only at hSw); go_simp; all_goals with_reducible rfl
       try simp only [apt12]
       refine tkI 16 ⟨some 43, .indexAddr 30 (.tmp 42) (.const (Go.Value.int .i64 0)), 0, "ref.go:58", #[⟨15, .data⟩, ⟨13, .guard⟩], some (13, true)⟩ ?v154 rfl (by kernel_rfl) (by rfl) ?y154 ?_
       case y154 => intro w hSw; (try dsimp only at hSw); go_simp; all_goals with_reducible rfl
       try simp only [apt12]
       refine tkI 17 ⟨some 44, .load 3 (.tmp 43), 3, "ref.go:58", #[⟨16, .data⟩, ⟨13, .guard⟩], some (13, true)⟩ ?v155 rfl (by kernel_rfl) (by rfl) ?y155 ?_
       case y155 => intro w hSw; (try dsimp only at hSw); go_simp; all_goals with_reducible rfl
       try simp only [apt12]
       refine wpAnyH_ready (rs := [18]) (by kernel_rfl) (by simp) ?_
       refine AllReadyH.cons (i := 18) (o := ⟨some 45, .call { callee := .value (.func 40), args := #[.tmp 41, .tmp 44], argTypes := #[24, 3] }, 3, "ref.go:58", #[⟨14, .data⟩, ⟨17, .data⟩, ⟨13, .chain⟩, ⟨13, .guard⟩], some (13, true)⟩) rfl (fun K hK => ?_) AllReadyH.nil
       go_simp
       go_at_call 40
       refine (rref_any h v0 _ c _).mono ?_
       rintro e u2 ⟨rfl, hb⟩
       rw [← N0.out]
       refine hK.out _ _ ?_ (fun hH2 => ?_)
       next =>
        exact ⟨cell_later hb hH1.1, cell_later hb hH1.2.1, cell_later hb hH1.2.2.1, cell_later hb hH1.2.2.2.1, cell_later hb hH1.2.2.2.2.1, cell_later hb hH1.2.2.2.2.2.1, cell_later hb hH1.2.2.2.2.2.2.1, cell_later hb hH1.2.2.2.2.2.2.2.1, cell_later hb hH1.2.2.2.2.2.2.2.2.1, cell_later hb hH1.2.2.2.2.2.2.2.2.2.1, then_w hH1.2.2.2.2.2.2.2.2.2.2 hb⟩
       clear hK K
       try simp only [apt12]
       clear hb
       refine tkI 19 ⟨some 46, .binOp .geq 3 (.tmp 45) (.const (Go.Value.int .i64 0)) 3, 4, "ref.go:58", #[⟨18, .data⟩, ⟨13, .guard⟩], some (13, true)⟩ ?v156 rfl (by kernel_rfl) (by rfl) ?y156 ?_
       case y156 => intro w hSw; (try dsimp only at hSw); go_simp; all_goals with_reducible rfl
       try simp only [apt12]
       refine tkI 20 ⟨some 47, .pick (.tmp 40) (.tmp 46) (.const (Go.Value.bool false)), 4, "ref.go:58", #[⟨13, .data⟩, ⟨19, .data⟩], none⟩ ?v157 rfl (by kernel_rfl) (by rfl) ?y157 ?_
       case y157 => intro w hSw; (try dsimp only at hSw); go_simp; all_goals with_reducible rfl
       try simp only [apt12]
       refine tkI 21 ⟨some 48, .move (.tmp 47), 4, "ref.go:58", #[⟨20, .data⟩, ⟨18, .chain⟩], none⟩ ?v158 rfl (by kernel_rfl) (by rfl) ?y158 ?_
       case y158 => intro w hSw; (try dsimp only at hSw); go_simp; all_goals with_reducible rfl
       try simp only [apt12]
       refine tkO 22 ⟨some 49, .load 24 (.tmp 2), 24, "ref.go:58", #[⟨21, .guard⟩], some (21, true)⟩ rfl (by kernel_rfl) (by rfl) ?_
       try simp only [apt12]
       refine tkO 23 ⟨some 50, .move (.tmp 5), 30, "ref.go:58", #[⟨21, .guard⟩], some (21, true)⟩ rfl (by kernel_rfl) (by rfl) ?_
       try simp only [apt12]
       refine tkO 24 ⟨some 51, .indexAddr 30 (.tmp 50) (.const (Go.Value.int .i64 5)), 0, "ref.go:58", #[⟨23, .data⟩, ⟨21, .guard⟩], some (21, true)⟩ rfl (by kernel_rfl) (by rfl) ?_
       try simp only [apt12]
       refine tkO 25 ⟨some 52, .load 3 (.tmp 51), 3, "ref.go:58", #[⟨24, .data⟩, ⟨21, .guard⟩], some (21, true)⟩ rfl (by kernel_rfl) (by rfl) ?_
       try simp only [apt12]
       refine tkO 26 ⟨some 53, .call { callee := .value (.func 40), args := #[.tmp 49, .tmp 52], argTypes := #[24, 3] }, 3, "ref.go:58", #[⟨22, .data⟩, ⟨25, .data⟩, ⟨21, .chain⟩, ⟨21, .guard⟩], some (21, true)⟩ rfl (by kernel_rfl) (by rfl) ?_
       try simp only [apt12]
       refine tkO 27 ⟨some 54, .binOp .geq 3 (.tmp 53) (.const (Go.Value.int .i64 0)) 3, 4, "ref.go:58", #[⟨26, .data⟩, ⟨21, .guard⟩], some (21, true)⟩ rfl (by kernel_rfl) (by rfl) ?_
       try simp only [apt12]
       refine tkI 28 ⟨some 55, .pick (.tmp 48) (.tmp 54) (.const (Go.Value.bool false)), 4, "ref.go:58", #[⟨21, .data⟩, ⟨27, .data⟩], none⟩ ?v165 rfl (by kernel_rfl) (by rfl) ?y165 ?_
       case y165 => intro w hSw; (try dsimp only at hSw); go_simp; all_goals with_reducible rfl
       try simp only [apt12]
       refine tkI 29 ⟨some 56, .move (.tmp 55), 4, "ref.go:58", #[⟨28, .data⟩, ⟨26, .chain⟩], none⟩ ?v166 rfl (by kernel_rfl) (by rfl) ?y166 ?_
       case y166 => intro w hSw; (try dsimp only at hSw); go_simp; all_goals with_reducible rfl
       try simp only [apt12]
       refine tkO 30 ⟨some 57, .move (.tmp 5), 30, "ref.go:58", #[⟨29, .guard⟩], some (29, true)⟩ rfl (by kernel_rfl) (by rfl) ?_
       try simp only [apt12]
       refine tkO 31 ⟨some 58, .indexAddr 30 (.tmp 57) (.const (Go.Value.int .i64 1)), 0, "ref.go:58", #[⟨30, .data⟩, ⟨29, .guard⟩], some (29, true)⟩ rfl (by kernel_rfl) (by rfl) ?_
       try simp only [apt12]
       refine tkO 32 ⟨some 59, .load 3 (.tmp 58), 3, "ref.go:58", #[⟨31, .data⟩, ⟨29, .guard⟩], some (29, true)⟩ rfl (by kernel_rfl) (by rfl) ?_
       try simp only [apt12]
       refine tkO 33 ⟨some 60, .fieldAddr 32 (.tmp 6) 3, 0, "ref.go:58", #[⟨29, .guard⟩], some (29, true)⟩ rfl (by kernel_rfl) (by rfl) ?_
       try simp only [apt12]
       refine tkO 34 ⟨some 61, .load 29 (.tmp 60), 29, "ref.go:58", #[⟨33, .data⟩, ⟨29, .guard⟩], some (29, true)⟩ rfl (by kernel_rfl) (by rfl) ?_
       try simp only [apt12]
       refine tkO 35 ⟨some 62, .call { callee := .builtin .len, args := #[.tmp 61], argTypes := #[29] }, 3, "ref.go:58", #[⟨34, .data⟩, ⟨29, .guard⟩], some (29, true)⟩ rfl (by kernel_rfl) (by rfl) ?_
       try simp only [apt12]
       refine tkO 36 ⟨some 63, .binOp .sub 3 (.tmp 62) (.const (Go.Value.int .i64 1)) 3, 3, "ref.go:58", #[⟨35, .data⟩, ⟨29, .guard⟩], some (29, true)⟩ rfl (by kernel_rfl) (by rfl) ?_
       try simp only [apt12]
       refine tkO 37 ⟨some 64, .call { callee := .value (.func 41), args := #[.tmp 59, .tmp 63], argTypes := #[3, 3] }, 3, "ref.go:58", #[⟨32, .data⟩, ⟨36, .data⟩, ⟨29, .chain⟩, ⟨29, .guard⟩], some (29, true)⟩ rfl (by kernel_rfl) (by rfl) ?_
       try simp only [apt12]
       refine tkO 38 ⟨some 65, .binOp .geq 3 (.tmp 64) (.const (Go.Value.int .i64 0)) 3, 4, "ref.go:58", #[⟨37, .data⟩, ⟨29, .guard⟩], some (29, true)⟩ rfl (by kernel_rfl) (by rfl) ?_
       try simp only [apt12]
       refine tkI 39 ⟨some 66, .pick (.tmp 56) (.tmp 65) (.const (Go.Value.bool false)), 4, "ref.go:58", #[⟨29, .data⟩, ⟨38, .data⟩], none⟩ ?v176 rfl (by kernel_rfl) (by rfl) ?y176 ?_
       case y176 => intro w hSw; (try dsimp only at hSw); go_simp; all_goals with_reducible rfl
       try simp only [apt12]
       refine tkI 40 ⟨some 67, .move (.tmp 66), 4, "ref.go:58", #[⟨39, .data⟩, ⟨37, .chain⟩], none⟩ ?v177 rfl (by kernel_rfl) (by rfl) ?y177 ?_
       case y177 => intro w hSw; (try dsimp only at hSw); go_simp; all_goals with_reducible rfl
       try simp only [apt12]
       refine tkO 41 ⟨some 68, .move (.tmp 5), 30, "ref.go:58", #[⟨40, .guard⟩], some (40, true)⟩ rfl (by kernel_rfl) (by rfl) ?_
       try simp only [apt12]
       refine tkO 42 ⟨some 69, .indexAddr 30 (.tmp 68) (.const (Go.Value.int .i64 2)), 0, "ref.go:58", #[⟨41, .data⟩, ⟨40, .guard⟩], some (40, true)⟩ rfl (by kernel_rfl) (by rfl) ?_
       try simp only [apt12]
       refine tkO 43 ⟨some 70, .load 3 (.tmp 69), 3, "ref.go:58", #[⟨42, .data⟩, ⟨40, .guard⟩], some (40, true)⟩ rfl (by kernel_rfl) (by rfl) ?_
       try simp only [apt12]
       refine tkO 44 ⟨some 71, .call { callee := .value (.func 41), args := #[.tmp 70, .const (Go.Value.int .i64 16)], argTypes := #[3, 3] }, 3, "ref.go:58", #[⟨43, .data⟩, ⟨40, .chain⟩, ⟨40, .guard⟩], some (40, true)⟩ rfl (by kernel_rfl) (by rfl) ?_
       try simp only [apt12]
       refine tkO 45 ⟨some 72, .fieldAddr 32 (.tmp 6) 2, 0, "ref.go:58", #[⟨40, .guard⟩], some (40, true)⟩ rfl (by kernel_rfl) (by rfl) ?_
       try simp only [apt12]
       refine tkO 46 ⟨some 73, .load 3 (.tmp 72), 3, "ref.go:58", #[⟨45, .data⟩, ⟨40, .guard⟩], some (40, true)⟩ rfl (by kernel_rfl) (by rfl) ?_
       try simp only [apt12]
       refine tkO 47 ⟨some 74, .binOp .geq 3 (.tmp 71) (.tmp 73) 3, 4, "ref.go:58", #[⟨44, .data⟩, ⟨46, .data⟩, ⟨40, .guard⟩], some (40, true)⟩ rfl (by kernel_rfl) (by rfl) ?_
       try simp only [apt12]
       refine tkI 48 ⟨some 75, .pick (.tmp 67) (.tmp 74) (.const (Go.Value.bool false)), 4, "ref.go:58", #[⟨40, .data⟩, ⟨47, .data⟩], none⟩ ?v185 rfl (by kernel_rfl) (by rfl) ?y185 ?_
       case y185 => intro w hSw; (try dsimp only at hSw); go_simp; all_goals with_reducible rfl
       try simp only [apt12]
       refine tkI 49 ⟨some 4, .assign (.tmp 75), 4, "ref.go:58", #[⟨48, .data⟩, ⟨44, .chain⟩, ⟨0, .phase⟩, ⟨1, .phase⟩, ⟨2, .phase⟩, ⟨3, .phase⟩, ⟨4, .phase⟩, ⟨5, .phase⟩, ⟨6, .phase⟩, ⟨7, .phase⟩, ⟨8, .phase⟩, ⟨9, .phase⟩, ⟨10, .phase⟩, ⟨11, .phase⟩, ⟨12, .phase⟩, ⟨13, .phase⟩, ⟨14, .phase⟩, ⟨15, .phase⟩, ⟨16, .phase⟩, ⟨17, .phase⟩, ⟨18, .phase⟩, ⟨19, .phase⟩, ⟨20, .phase⟩, ⟨21, .phase⟩, ⟨22, .phase⟩, ⟨23, .phase⟩, ⟨24, .phase⟩, ⟨25, .phase⟩, ⟨26, .phase⟩, ⟨27, .phase⟩, ⟨28, .phase⟩, ⟨29, .phase⟩, ⟨30, .phase⟩, ⟨31, .phase⟩, ⟨32, .phase⟩, ⟨33, .phase⟩, ⟨34, .phase⟩, ⟨35, .phase⟩, ⟨36, .phase⟩, ⟨37, .phase⟩, ⟨38, .phase⟩, ⟨39, .phase⟩, ⟨40, .phase⟩, ⟨41, .phase⟩, ⟨42, .phase⟩, ⟨43, .phase⟩, ⟨44, .phase⟩, ⟨45, .phase⟩, ⟨46, .phase⟩, ⟨47, .phase⟩, ⟨48, .phase⟩], none⟩ ?v186 rfl (by kernel_rfl) (by rfl) ?y186 ?_
       case y186 => intro w hSw; (try dsimp only at hSw); go_simp; all_goals with_reducible rfl
       try simp only [apt12]
       refine wpAnyH_done (by kernel_rfl) ?_ _
       go_wp2_with fail
       go_ret
       exact ⟨by rw [HV.out]; first | rfl | simp_all, then_w HB3.out (hH2.2.2.2.2.2.2.2.2.2.2)⟩
     next =>
      have g1B : (cl == 12) = false := beq_eq_false_iff_ne.2 g1
      have HV : Hid (r = false) := by
        show _ = _
        rw [HRB.out]
        rw [decide_eq_true g0, decide_eq_false g1]; simp
      go_upto_region 5 with fail
      refine wp_region_held_drew (S := (fun w' => w'.cell? ⟨w.heap.size, 0, none⟩ = some (.slice (some ⟨b, off, none⟩) h.objs.length c) ∧ w'.cell? ⟨w.heap.size, 1, none⟩ = some (.int .i64 h.cap) ∧ w'.cell? ⟨w.heap.size, 2, none⟩ = some (.int .i64 h.last) ∧ w'.cell? ⟨bl, ol, none⟩ = some (.int .i64 v0) ∧ w'.cell? ⟨bl, ol + 1, none⟩ = some (.int .i64 v1) ∧ w'.cell? ⟨bl, ol + 2, none⟩ = some (.int .i64 v2) ∧ w'.cell? ⟨bl, ol + 5, none⟩ = some (.int .i64 v5) ∧ w'.cell? ⟨b, off + i * 6, none⟩ = some (.int .i64 cl) ∧ w'.cell? ⟨bx, 2, none⟩ = some (.int .i64 M3.temps) ∧ w'.cell? ⟨bx, 3, none⟩ = some (.slice CA M3.code.length cc) ∧ Below w3.heap.size w3 w')) (by kernel_rfl) ?_ (fun hH0 => ?_)
      next =>
       exact ⟨cell_later (Below.refl w3.heap.size w3).drew x0, cell_later (Below.refl w3.heap.size w3).drew x1, cell_later (Below.refl w3.heap.size w3).drew x2, cell_later (Below.refl w3.heap.size w3).drew q0, cell_later (Below.refl w3.heap.size w3).drew q1, cell_later (Below.refl w3.heap.size w3).drew q2, cell_later (Below.refl w3.heap.size w3).drew q5, cell_later (Below.refl w3.heap.size w3).drew y0, cell_later (Below.refl w3.heap.size w3).drew m2, cell_later (Below.refl w3.heap.size w3).drew m3, (Below.refl _ _).drew⟩
      refine tkI 0 ⟨some 27, .move (.tmp 7), 33, "ref.go:58", #[], none⟩ ?v90 rfl (by kernel_rfl) (by rfl) ?y90 ?_
      case y90 => intro w hSw; (try dsimp only at hSw); go_simp; all_goals with_reducible rfl
      try simp only [apt12]
      refine tkI 1 ⟨some 28, .binOp .eql 33 (.tmp 27) (.const (Go.Value.int .i64 0)) 33, 4, "ref.go:58", #[⟨0, .data⟩], none⟩ ?v91 rfl (by kernel_rfl) (by rfl) ?y91 ?_
      case y91 => intro w hSw; (try dsimp only at hSw); go_simp; all_goals with_reducible rfl
      try simp only [apt12]
      refine tkI 2 ⟨some 29, .move (.tmp 28), 4, "ref.go:58", #[⟨1, .data⟩], none⟩ ?v92 rfl (by kernel_rfl) (by rfl) ?y92 ?_
      case y92 => intro w hSw; (try dsimp only at hSw); go_simp; all_goals with_reducible rfl
      try simp only [apt12]
      refine tkI 3 ⟨some 30, .fieldAddr 24 (.tmp 2) 0, 0, "ref.go:58", #[⟨2, .guard⟩], some (2, true)⟩ ?v93 rfl (by kernel_rfl) (by rfl) ?y93 ?_
      case y93 => intro w hSw; (try dsimp only at hSw); go_simp; all_goals with_reducible rfl
      try simp only [apt12]
      refine tkI 4 ⟨some 31, .load 22 (.tmp 30), 22, "ref.go:58", #[⟨3, .data⟩, ⟨2, .guard⟩], some (2, true)⟩ ?v94 rfl (by kernel_rfl) (by rfl) ?y94 ?_
      case y94 => intro w hSw; (try dsimp only at hSw); go_simp; all_goals with_reducible rfl
      try simp only [apt12]
      refine tkI 5 ⟨some 32, .load 24 (.tmp 2), 24, "ref.go:58", #[⟨2, .guard⟩], some (2, true)⟩ ?v95 rfl (by kernel_rfl) (by rfl) ?y95 ?_
      case y95 => intro w hSw; (try dsimp only at hSw); go_simp; all_goals with_reducible rfl
      try simp only [apt12]
      refine tkI 6 ⟨some 33, .move (.tmp 1), 3, "ref.go:58", #[⟨2, .guard⟩], some (2, true)⟩ ?v96 rfl (by kernel_rfl) (by rfl) ?y96 ?_
      case y96 => intro w hSw; (try dsimp only at hSw); go_simp; all_goals with_reducible rfl
      try simp only [apt12]
      refine wpAnyH_ready (rs := [7]) (by kernel_rfl) (by simp) ?_
      refine AllReadyH.cons (i := 7) (o := ⟨some 34, .call { callee := .value (.func 40), args := #[.tmp 32, .tmp 33], argTypes := #[24, 3] }, 3, "ref.go:58", #[⟨5, .data⟩, ⟨6, .data⟩, ⟨2, .chain⟩, ⟨2, .guard⟩], some (2, true)⟩) rfl (fun K hK => ?_) AllReadyH.nil
      go_simp
      go_at_call 40
      refine (rref_any h cx _ c _).mono ?_
      rintro e u1 ⟨rfl, hb⟩
      rw [HI.out]
      refine hK.out _ _ ?_ (fun hH1 => ?_)
      next =>
       exact ⟨cell_later hb hH0.1, cell_later hb hH0.2.1, cell_later hb hH0.2.2.1, cell_later hb hH0.2.2.2.1, cell_later hb hH0.2.2.2.2.1, cell_later hb hH0.2.2.2.2.2.1, cell_later hb hH0.2.2.2.2.2.2.1, cell_later hb hH0.2.2.2.2.2.2.2.1, cell_later hb hH0.2.2.2.2.2.2.2.2.1, cell_later hb hH0.2.2.2.2.2.2.2.2.2.1, then_w hH0.2.2.2.2.2.2.2.2.2.2 hb⟩
      clear hK K
      try simp only [apt12]
      clear hb
      refine tkI 8 ⟨some 35, .indexAddr 22 (.tmp 31) (.tmp 34), 0, "ref.go:58", #[⟨4, .data⟩, ⟨7, .data⟩, ⟨2, .guard⟩], some (2, true)⟩ ?v97 rfl (by kernel_rfl) (by rfl) ?y97 ?_
      case y97 => intro w hSw; (try dsimp only at hSw); go_simp; all_goals with_reducible rfl
      try simp only [apt12]
      refine tkI 9 ⟨some 36, .fieldAddr 60 (.tmp 35) 0, 0, "ref.go:58", #[⟨8, .data⟩, ⟨2, .guard⟩], some (2, true)⟩ ?v98 rfl (by kernel_rfl) (by rfl) ?y98 ?_
      case y98 => intro w hSw; (try dsimp only at hSw); go_simp; all_goals with_reducible rfl
      try simp only [apt12]
      refine tkI 10 ⟨some 37, .load 3 (.tmp 36), 3, "ref.go:58", #[⟨9, .data⟩, ⟨2, .guard⟩], some (2, true)⟩ ?v99 rfl (by kernel_rfl) (by rfl) ?y99 ?_
      case y99 => intro w hSw; (try dsimp only at hSw); go_simp; all_goals with_reducible rfl
      try simp only [apt12]
      refine tkI 11 ⟨some 38, .binOp .eql 3 (.tmp 37) (.const (Go.Value.int .i64 12)) 3, 4, "ref.go:58", #[⟨10, .data⟩, ⟨2, .guard⟩], some (2, true)⟩ ?v100 rfl (by kernel_rfl) (by rfl) ?y100 ?_
      case y100 => intro w hSw; (try dsimp only at hSw); go_simp; all_goals with_reducible rfl
      try simp only [apt12]
      refine tkI 12 ⟨some 39, .pick (.tmp 29) (.tmp 38) (.const (Go.Value.bool false)), 4, "ref.go:58", #[⟨2, .data⟩, ⟨11, .data⟩], none⟩ ?v101 rfl (by kernel_rfl) (by rfl) ?y101 ?_
      case y101 => intro w hSw; (try dsimp only at hSw); go_simp; all_goals with_reducible rfl
      try simp only [apt12]
      refine tkI 13 ⟨some 40, .move (.tmp 39), 4, "ref.go:58", #[⟨12, .data⟩, ⟨7, .chain⟩], none⟩ ?v102 rfl (by kernel_rfl) (by rfl) ?y102 ?_
      case y102 => intro w hSw; (try dsimp only at hSw); go_simp; all_goals with_reducible rfl
      try simp only [apt12]
      refine tkO 14 ⟨some 41, .load 24 (.tmp 2), 24, "ref.go:58", #[⟨13, .guard⟩], some (13, true)⟩ rfl (by kernel_rfl) (by rfl) ?_
      try simp only [apt12]
      refine tkO 15 ⟨some 42, .move (.tmp 5), 30, "ref.go:58", #[⟨13, .guard⟩], some (13, true)⟩ rfl (by kernel_rfl) (by rfl) ?_
      try simp only [apt12]
      refine tkO 16 ⟨some 43, .indexAddr 30 (.tmp 42) (.const (Go.Value.int .i64 0)), 0, "ref.go:58", #[⟨15, .data⟩, ⟨13, .guard⟩], some (13, true)⟩ rfl (by kernel_rfl) (by rfl) ?_
      try simp only [apt12]
      refine tkO 17 ⟨some 44, .load 3 (.tmp 43), 3, "ref.go:58", #[⟨16, .data⟩, ⟨13, .guard⟩], some (13, true)⟩ rfl (by kernel_rfl) (by rfl) ?_
      try simp only [apt12]
      refine tkO 18 ⟨some 45, .call { callee := .value (.func 40), args := #[.tmp 41, .tmp 44], argTypes := #[24, 3] }, 3, "ref.go:58", #[⟨14, .data⟩, ⟨17, .data⟩, ⟨13, .chain⟩, ⟨13, .guard⟩], some (13, true)⟩ rfl (by kernel_rfl) (by rfl) ?_
      try simp only [apt12]
      refine tkO 19 ⟨some 46, .binOp .geq 3 (.tmp 45) (.const (Go.Value.int .i64 0)) 3, 4, "ref.go:58", #[⟨18, .data⟩, ⟨13, .guard⟩], some (13, true)⟩ rfl (by kernel_rfl) (by rfl) ?_
      try simp only [apt12]
      refine tkI 20 ⟨some 47, .pick (.tmp 40) (.tmp 46) (.const (Go.Value.bool false)), 4, "ref.go:58", #[⟨13, .data⟩, ⟨19, .data⟩], none⟩ ?v109 rfl (by kernel_rfl) (by rfl) ?y109 ?_
      case y109 => intro w hSw; (try dsimp only at hSw); go_simp; all_goals with_reducible rfl
      try simp only [apt12]
      refine tkI 21 ⟨some 48, .move (.tmp 47), 4, "ref.go:58", #[⟨20, .data⟩, ⟨18, .chain⟩], none⟩ ?v110 rfl (by kernel_rfl) (by rfl) ?y110 ?_
      case y110 => intro w hSw; (try dsimp only at hSw); go_simp; all_goals with_reducible rfl
      try simp only [apt12]
      refine tkO 22 ⟨some 49, .load 24 (.tmp 2), 24, "ref.go:58", #[⟨21, .guard⟩], some (21, true)⟩ rfl (by kernel_rfl) (by rfl) ?_
      try simp only [apt12]
      refine tkO 23 ⟨some 50, .move (.tmp 5), 30, "ref.go:58", #[⟨21, .guard⟩], some (21, true)⟩ rfl (by kernel_rfl) (by rfl) ?_
      try simp only [apt12]
      refine tkO 24 ⟨some 51, .indexAddr 30 (.tmp 50) (.const (Go.Value.int .i64 5)), 0, "ref.go:58", #[⟨23, .data⟩, ⟨21, .guard⟩], some (21, true)⟩ rfl (by kernel_rfl) (by rfl) ?_
      try simp only [apt12]
      refine tkO 25 ⟨some 52, .load 3 (.tmp 51), 3, "ref.go:58", #[⟨24, .data⟩, ⟨21, .guard⟩], some (21, true)⟩ rfl (by kernel_rfl) (by rfl) ?_
      try simp only [apt12]
      refine tkO 26 ⟨some 53, .call { callee := .value (.func 40), args := #[.tmp 49, .tmp 52], argTypes := #[24, 3] }, 3, "ref.go:58", #[⟨22, .data⟩, ⟨25, .data⟩, ⟨21, .chain⟩, ⟨21, .guard⟩], some (21, true)⟩ rfl (by kernel_rfl) (by rfl) ?_
      try simp only [apt12]
      refine tkO 27 ⟨some 54, .binOp .geq 3 (.tmp 53) (.const (Go.Value.int .i64 0)) 3, 4, "ref.go:58", #[⟨26, .data⟩, ⟨21, .guard⟩], some (21, true)⟩ rfl (by kernel_rfl) (by rfl) ?_
      try simp only [apt12]
      refine tkI 28 ⟨some 55, .pick (.tmp 48) (.tmp 54) (.const (Go.Value.bool false)), 4, "ref.go:58", #[⟨21, .data⟩, ⟨27, .data⟩], none⟩ ?v117 rfl (by kernel_rfl) (by rfl) ?y117 ?_
      case y117 => intro w hSw; (try dsimp only at hSw); go_simp; all_goals with_reducible rfl
      try simp only [apt12]
      refine tkI 29 ⟨some 56, .move (.tmp 55), 4, "ref.go:58", #[⟨28, .data⟩, ⟨26, .chain⟩], none⟩ ?v118 rfl (by kernel_rfl) (by rfl) ?y118 ?_
      case y118 => intro w hSw; (try dsimp only at hSw); go_simp; all_goals with_reducible rfl
      try simp only [apt12]
      refine tkO 30 ⟨some 57, .move (.tmp 5), 30, "ref.go:58", #[⟨29, .guard⟩], some (29, true)⟩ rfl (by kernel_rfl) (by rfl) ?_
      try simp only [apt12]
      refine tkO 31 ⟨some 58, .indexAddr 30 (.tmp 57) (.const (Go.Value.int .i64 1)), 0, "ref.go:58", #[⟨30, .data⟩, ⟨29, .guard⟩], some (29, true)⟩ rfl (by kernel_rfl) (by rfl) ?_
      try simp only [apt12]
      refine tkO 32 ⟨some 59, .load 3 (.tmp 58), 3, "ref.go:58", #[⟨31, .data⟩, ⟨29, .guard⟩], some (29, true)⟩ rfl (by kernel_rfl) (by rfl) ?_
      try simp only [apt12]
      refine tkO 33 ⟨some 60, .fieldAddr 32 (.tmp 6) 3, 0, "ref.go:58", #[⟨29, .guard⟩], some (29, true)⟩ rfl (by kernel_rfl) (by rfl) ?_
      try simp only [apt12]
      refine tkO 34 ⟨some 61, .load 29 (.tmp 60), 29, "ref.go:58", #[⟨33, .data⟩, ⟨29, .guard⟩], some (29, true)⟩ rfl (by kernel_rfl) (by rfl) ?_
      try simp only [apt12]
      refine tkO 35 ⟨some 62, .call { callee := .builtin .len, args := #[.tmp 61], argTypes := #[29] }, 3, "ref.go:58", #[⟨34, .data⟩, ⟨29, .guard⟩], some (29, true)⟩ rfl (by kernel_rfl) (by rfl) ?_
      try simp only [apt12]
      refine tkO 36 ⟨some 63, .binOp .sub 3 (.tmp 62) (.const (Go.Value.int .i64 1)) 3, 3, "ref.go:58", #[⟨35, .data⟩, ⟨29, .guard⟩], some (29, true)⟩ rfl (by kernel_rfl) (by rfl) ?_
      try simp only [apt12]
      refine tkO 37 ⟨some 64, .call { callee := .value (.func 41), args := #[.tmp 59, .tmp 63], argTypes := #[3, 3] }, 3, "ref.go:58", #[⟨32, .data⟩, ⟨36, .data⟩, ⟨29, .chain⟩, ⟨29, .guard⟩], some (29, true)⟩ rfl (by kernel_rfl) (by rfl) ?_
      try simp only [apt12]
      refine tkO 38 ⟨some 65, .binOp .geq 3 (.tmp 64) (.const (Go.Value.int .i64 0)) 3, 4, "ref.go:58", #[⟨37, .data⟩, ⟨29, .guard⟩], some (29, true)⟩ rfl (by kernel_rfl) (by rfl) ?_
      try simp only [apt12]
      refine tkI 39 ⟨some 66, .pick (.tmp 56) (.tmp 65) (.const (Go.Value.bool false)), 4, "ref.go:58", #[⟨29, .data⟩, ⟨38, .data⟩], none⟩ ?v128 rfl (by kernel_rfl) (by rfl) ?y128 ?_
      case y128 => intro w hSw; (try dsimp only at hSw); go_simp; all_goals with_reducible rfl
      try simp only [apt12]
      refine tkI 40 ⟨some 67, .move (.tmp 66), 4, "ref.go:58", #[⟨39, .data⟩, ⟨37, .chain⟩], none⟩ ?v129 rfl (by kernel_rfl) (by rfl) ?y129 ?_
      case y129 => intro w hSw; (try dsimp only at hSw); go_simp; all_goals with_reducible rfl
      try simp only [apt12]
      refine tkO 41 ⟨some 68, .move (.tmp 5), 30, "ref.go:58", #[⟨40, .guard⟩], some (40, true)⟩ rfl (by kernel_rfl) (by rfl) ?_
      try simp only [apt12]
      refine tkO 42 ⟨some 69, .indexAddr 30 (.tmp 68) (.const (Go.Value.int .i64 2)), 0, "ref.go:58", #[⟨41, .data⟩, ⟨40, .guard⟩], some (40, true)⟩ rfl (by kernel_rfl) (by rfl) ?_
      try simp only [apt12]
      refine tkO 43 ⟨some 70, .load 3 (.tmp 69), 3, "ref.go:58", #[⟨42, .data⟩, ⟨40, .guard⟩], some (40, true)⟩ rfl (by kernel_rfl) (by rfl) ?_
      try simp only [apt12]
      refine tkO 44 ⟨some 71, .call { callee := .value (.func 41), args := #[.tmp 70, .const (Go.Value.int .i64 16)], argTypes := #[3, 3] }, 3, "ref.go:58", #[⟨43, .data⟩, ⟨40, .chain⟩, ⟨40, .guard⟩], some (40, true)⟩ rfl (by kernel_rfl) (by rfl) ?_
      try simp only [apt12]
      refine tkO 45 ⟨some 72, .fieldAddr 32 (.tmp 6) 2, 0, "ref.go:58", #[⟨40, .guard⟩], some (40, true)⟩ rfl (by kernel_rfl) (by rfl) ?_
      try simp only [apt12]
      refine tkO 46 ⟨some 73, .load 3 (.tmp 72), 3, "ref.go:58", #[⟨45, .data⟩, ⟨40, .guard⟩], some (40, true)⟩ rfl (by kernel_rfl) (by rfl) ?_
      try simp only [apt12]
      refine tkO 47 ⟨some 74, .binOp .geq 3 (.tmp 71) (.tmp 73) 3, 4, "ref.go:58", #[⟨44, .data⟩, ⟨46, .data⟩, ⟨40, .guard⟩], some (40, true)⟩ rfl (by kernel_rfl) (by rfl) ?_
      try simp only [apt12]
      refine tkI 48 ⟨some 75, .pick (.tmp 67) (.tmp 74) (.const (Go.Value.bool false)), 4, "ref.go:58", #[⟨40, .data⟩, ⟨47, .data⟩], none⟩ ?v137 rfl (by kernel_rfl) (by rfl) ?y137 ?_
      case y137 => intro w hSw; (try dsimp only at hSw); go_simp; all_goals with_reducible rfl
      try simp only [apt12]
      refine tkI 49 ⟨some 4, .assign (.tmp 75), 4, "ref.go:58", #[⟨48, .data⟩, ⟨44, .chain⟩, ⟨0, .phase⟩, ⟨1, .phase⟩, ⟨2, .phase⟩, ⟨3, .phase⟩, ⟨4, .phase⟩, ⟨5, .phase⟩, ⟨6, .phase⟩, ⟨7, .phase⟩, ⟨8, .phase⟩, ⟨9, .phase⟩, ⟨10, .phase⟩, ⟨11, .phase⟩, ⟨12, .phase⟩, ⟨13, .phase⟩, ⟨14, .phase⟩, ⟨15, .phase⟩, ⟨16, .phase⟩, ⟨17, .phase⟩, ⟨18, .phase⟩, ⟨19, .phase⟩, ⟨20, .phase⟩, ⟨21, .phase⟩, ⟨22, .phase⟩, ⟨23, .phase⟩, ⟨24, .phase⟩, ⟨25, .phase⟩, ⟨26, .phase⟩, ⟨27, .phase⟩, ⟨28, .phase⟩, ⟨29, .phase⟩, ⟨30, .phase⟩, ⟨31, .phase⟩, ⟨32, .phase⟩, ⟨33, .phase⟩, ⟨34, .phase⟩, ⟨35, .phase⟩, ⟨36, .phase⟩, ⟨37, .phase⟩, ⟨38, .phase⟩, ⟨39, .phase⟩, ⟨40, .phase⟩, ⟨41, .phase⟩, ⟨42, .phase⟩, ⟨43, .phase⟩, ⟨44, .phase⟩, ⟨45, .phase⟩, ⟨46, .phase⟩, ⟨47, .phase⟩, ⟨48, .phase⟩], none⟩ ?v138 rfl (by kernel_rfl) (by rfl) ?y138 ?_
      case y138 => intro w hSw; (try dsimp only at hSw); go_simp; all_goals with_reducible rfl
      try simp only [apt12]
      refine wpAnyH_done (by kernel_rfl) ?_ _
      go_wp2_with fail
      go_ret
      exact ⟨by rw [HV.out]; first | rfl | simp_all, then_w HB3.out (hH1.2.2.2.2.2.2.2.2.2.2)⟩
    next =>
     have g0B : (e3 == 0) = false := beq_eq_false_iff_ne.2 g0
     have HV : Hid (r = false) := by
       show _ = _
       rw [HRB.out]
       rw [decide_eq_false g0]; simp
     go_upto_region 5 with fail
     refine wp_region_held_drew (S := (fun w' => w'.cell? ⟨w.heap.size, 0, none⟩ = some (.slice (some ⟨b, off, none⟩) h.objs.length c) ∧ w'.cell? ⟨w.heap.size, 1, none⟩ = some (.int .i64 h.cap) ∧ w'.cell? ⟨w.heap.size, 2, none⟩ = some (.int .i64 h.last) ∧ w'.cell? ⟨bl, ol, none⟩ = some (.int .i64 v0) ∧ w'.cell? ⟨bl, ol + 1, none⟩ = some (.int .i64 v1) ∧ w'.cell? ⟨bl, ol + 2, none⟩ = some (.int .i64 v2) ∧ w'.cell? ⟨bl, ol + 5, none⟩ = some (.int .i64 v5) ∧ w'.cell? ⟨b, off + i * 6, none⟩ = some (.int .i64 cl) ∧ w'.cell? ⟨bx, 2, none⟩ = some (.int .i64 M3.temps) ∧ w'.cell? ⟨bx, 3, none⟩ = some (.slice CA M3.code.length cc) ∧ Below w3.heap.size w3 w')) (by kernel_rfl) ?_ (fun hH0 => ?_)
     next =>
      exact ⟨cell_later (Below.refl w3.heap.size w3).drew x0, cell_later (Below.refl w3.heap.size w3).drew x1, cell_later (Below.refl w3.heap.size w3).drew x2, cell_later (Below.refl w3.heap.size w3).drew q0, cell_later (Below.refl w3.heap.size w3).drew q1, cell_later (Below.refl w3.heap.size w3).drew q2, cell_later (Below.refl w3.heap.size w3).drew q5, cell_later (Below.refl w3.heap.size w3).drew y0, cell_later (Below.refl w3.heap.size w3).drew m2, cell_later (Below.refl w3.heap.size w3).drew m3, (Below.refl _ _).drew⟩
     refine tkI 0 ⟨some 27, .move (.tmp 7), 33, "ref.go:58", #[], none⟩ ?v40 rfl (by kernel_rfl) (by rfl) ?y40 ?_
     case y40 => intro w hSw; (try dsimp only at hSw); go_simp; all_goals with_reducible rfl
     try simp only [apt12]
     refine tkI 1 ⟨some 28, .binOp .eql 33 (.tmp 27) (.const (Go.Value.int .i64 0)) 33, 4, "ref.go:58", #[⟨0, .data⟩], none⟩ ?v41 rfl (by kernel_rfl) (by rfl) ?y41 ?_
     case y41 => intro w hSw; (try dsimp only at hSw); go_simp; all_goals with_reducible rfl
     try simp only [apt12]
     refine tkI 2 ⟨some 29, .move (.tmp 28), 4, "ref.go:58", #[⟨1, .data⟩], none⟩ ?v42 rfl (by kernel_rfl) (by rfl) ?y42 ?_
     case y42 => intro w hSw; (try dsimp only at hSw); go_simp; all_goals with_reducible rfl
     try simp only [apt12]
     refine tkO 3 ⟨some 30, .fieldAddr 24 (.tmp 2) 0, 0, "ref.go:58", #[⟨2, .guard⟩], some (2, true)⟩ rfl (by kernel_rfl) (by rfl) ?_
     try simp only [apt12]
     refine tkO 4 ⟨some 31, .load 22 (.tmp 30), 22, "ref.go:58", #[⟨3, .data⟩, ⟨2, .guard⟩], some (2, true)⟩ rfl (by kernel_rfl) (by rfl) ?_
     try simp only [apt12]
     refine tkO 5 ⟨some 32, .load 24 (.tmp 2), 24, "ref.go:58", #[⟨2, .guard⟩], some (2, true)⟩ rfl (by kernel_rfl) (by rfl) ?_
     try simp only [apt12]
     refine tkO 6 ⟨some 33, .move (.tmp 1), 3, "ref.go:58", #[⟨2, .guard⟩], some (2, true)⟩ rfl (by kernel_rfl) (by rfl) ?_
     try simp only [apt12]
     refine tkO 7 ⟨some 34, .call { callee := .value (.func 40), args := #[.tmp 32, .tmp 33], argTypes := #[24, 3] }, 3, "ref.go:58", #[⟨5, .data⟩, ⟨6, .data⟩, ⟨2, .chain⟩, ⟨2, .guard⟩], some (2, true)⟩ rfl (by kernel_rfl) (by rfl) ?_
     try simp only [apt12]
     refine tkO 8 ⟨some 35, .indexAddr 22 (.tmp 31) (.tmp 34), 0, "ref.go:58", #[⟨4, .data⟩, ⟨7, .data⟩, ⟨2, .guard⟩], some (2, true)⟩ rfl (by kernel_rfl) (by rfl) ?_
     try simp only [apt12]
     refine tkO 9 ⟨some 36, .fieldAddr 60 (.tmp 35) 0, 0, "ref.go:58", #[⟨8, .data⟩, ⟨2, .guard⟩], some (2, true)⟩ rfl (by kernel_rfl) (by rfl) ?_
     try simp only [apt12]
     refine tkO 10 ⟨some 37, .load 3 (.tmp 36), 3, "ref.go:58", #[⟨9, .data⟩, ⟨2, .guard⟩], some (2, true)⟩ rfl (by kernel_rfl) (by rfl) ?_
     try simp only [apt12]
     refine tkO 11 ⟨some 38, .binOp .eql 3 (.tmp 37) (.const (Go.Value.int .i64 12)) 3, 4, "ref.go:58", #[⟨10, .data⟩, ⟨2, .guard⟩], some (2, true)⟩ rfl (by kernel_rfl) (by rfl) ?_
     try simp only [apt12]
     refine tkI 12 ⟨some 39, .pick (.tmp 29) (.tmp 38) (.const (Go.Value.bool false)), 4, "ref.go:58", #[⟨2, .data⟩, ⟨11, .data⟩], none⟩ ?v52 rfl (by kernel_rfl) (by rfl) ?y52 ?_
     case y52 => intro w hSw; (try dsimp only at hSw); go_simp; all_goals with_reducible rfl
     try simp only [apt12]
     refine tkI 13 ⟨some 40, .move (.tmp 39), 4, "ref.go:58", #[⟨12, .data⟩, ⟨7, .chain⟩], none⟩ ?v53 rfl (by kernel_rfl) (by rfl) ?y53 ?_
     case y53 => intro w hSw; (try dsimp only at hSw); go_simp; all_goals with_reducible rfl
     try simp only [apt12]
     refine tkO 14 ⟨some 41, .load 24 (.tmp 2), 24, "ref.go:58", #[⟨13, .guard⟩], some (13, true)⟩ rfl (by kernel_rfl) (by rfl) ?_
     try simp only [apt12]
     refine tkO 15 ⟨some 42, .move (.tmp 5), 30, "ref.go:58", #[⟨13, .guard⟩], some (13, true)⟩ rfl (by kernel_rfl) (by rfl) ?_
     try simp only [apt12]
     refine tkO 16 ⟨some 43, .indexAddr 30 (.tmp 42) (.const (Go.Value.int .i64 0)), 0, "ref.go:58", #[⟨15, .data⟩, ⟨13, .guard⟩], some (13, true)⟩ rfl (by kernel_rfl) (by rfl) ?_
     try simp only [apt12]
     refine tkO 17 ⟨some 44, .load 3 (.tmp 43), 3, "ref.go:58", #[⟨16, .data⟩, ⟨13, .guard⟩], some (13, true)⟩ rfl (by kernel_rfl) (by rfl) ?_
     try simp only [apt12]
     refine tkO 18 ⟨some 45, .call { callee := .value (.func 40), args := #[.tmp 41, .tmp 44], argTypes := #[24, 3] }, 3, "ref.go:58", #[⟨14, .data⟩, ⟨17, .data⟩, ⟨13, .chain⟩, ⟨13, .guard⟩], some (13, true)⟩ rfl (by kernel_rfl) (by rfl) ?_
     try simp only [apt12]
     refine tkO 19 ⟨some 46, .binOp .geq 3 (.tmp 45) (.const (Go.Value.int .i64 0)) 3, 4, "ref.go:58", #[⟨18, .data⟩, ⟨13, .guard⟩], some (13, true)⟩ rfl (by kernel_rfl) (by rfl) ?_
     try simp only [apt12]
     refine tkI 20 ⟨some 47, .pick (.tmp 40) (.tmp 46) (.const (Go.Value.bool false)), 4, "ref.go:58", #[⟨13, .data⟩, ⟨19, .data⟩], none⟩ ?v60 rfl (by kernel_rfl) (by rfl) ?y60 ?_
     case y60 => intro w hSw; (try dsimp only at hSw); go_simp; all_goals with_reducible rfl
     try simp only [apt12]
     refine tkI 21 ⟨some 48, .move (.tmp 47), 4, "ref.go:58", #[⟨20, .data⟩, ⟨18, .chain⟩], none⟩ ?v61 rfl (by kernel_rfl) (by rfl) ?y61 ?_
     case y61 => intro w hSw; (try dsimp only at hSw); go_simp; all_goals with_reducible rfl
     try simp only [apt12]
     refine tkO 22 ⟨some 49, .load 24 (.tmp 2), 24, "ref.go:58", #[⟨21, .guard⟩], some (21, true)⟩ rfl (by kernel_rfl) (by rfl) ?_
     try simp only [apt12]
     refine tkO 23 ⟨some 50, .move (.tmp 5), 30, "ref.go:58", #[⟨21, .guard⟩], some (21, true)⟩ rfl (by kernel_rfl) (by rfl) ?_
     try simp only [apt12]
     refine tkO 24 ⟨some 51, .indexAddr 30 (.tmp 50) (.const (Go.Value.int .i64 5)), 0, "ref.go:58", #[⟨23, .data⟩, ⟨21, .guard⟩], some (21, true)⟩ rfl (by kernel_rfl) (by rfl) ?_
     try simp only [apt12]
     refine tkO 25 ⟨some 52, .load 3 (.tmp 51), 3, "ref.go:58", #[⟨24, .data⟩, ⟨21, .guard⟩], some (21, true)⟩ rfl (by kernel_rfl) (by rfl) ?_
     try simp only [apt12]
     refine tkO 26 ⟨some 53, .call { callee := .value (.func 40), args := #[.tmp 49, .tmp 52], argTypes := #[24, 3] }, 3, "ref.go:58", #[⟨22, .data⟩, ⟨25, .data⟩, ⟨21, .chain⟩, ⟨21, .guard⟩], some (21, true)⟩ rfl (by kernel_rfl) (by rfl) ?_
     try simp only [apt12]
     refine tkO 27 ⟨some 54, .binOp .geq 3 (.tmp 53) (.const (Go.Value.int .i64 0)) 3, 4, "ref.go:58", #[⟨26, .data⟩, ⟨21, .guard⟩], some (21, true)⟩ rfl (by kernel_rfl) (by rfl) ?_
     try simp only [apt12]
     refine tkI 28 ⟨some 55, .pick (.tmp 48) (.tmp 54) (.const (Go.Value.bool false)), 4, "ref.go:58", #[⟨21, .data⟩, ⟨27, .data⟩], none⟩ ?v68 rfl (by kernel_rfl) (by rfl) ?y68 ?_
     case y68 => intro w hSw; (try dsimp only at hSw); go_simp; all_goals with_reducible rfl
     try simp only [apt12]
     refine tkI 29 ⟨some 56, .move (.tmp 55), 4, "ref.go:58", #[⟨28, .data⟩, ⟨26, .chain⟩], none⟩ ?v69 rfl (by kernel_rfl) (by rfl) ?y69 ?_
     case y69 => intro w hSw; (try dsimp only at hSw); go_simp; all_goals with_reducible rfl
     try simp only [apt12]
     refine tkO 30 ⟨some 57, .move (.tmp 5), 30, "ref.go:58", #[⟨29, .guard⟩], some (29, true)⟩ rfl (by kernel_rfl) (by rfl) ?_
     try simp only [apt12]
     refine tkO 31 ⟨some 58, .indexAddr 30 (.tmp 57) (.const (Go.Value.int .i64 1)), 0, "ref.go:58", #[⟨30, .data⟩, ⟨29, .guard⟩], some (29, true)⟩ rfl (by kernel_rfl) (by rfl) ?_
     try simp only [apt12]
     refine tkO 32 ⟨some 59, .load 3 (.tmp 58), 3, "ref.go:58", #[⟨31, .data⟩, ⟨29, .guard⟩], some (29, true)⟩ rfl (by kernel_rfl) (by rfl) ?_
     try simp only [apt12]
     refine tkO 33 ⟨some 60, .fieldAddr 32 (.tmp 6) 3, 0, "ref.go:58", #[⟨29, .guard⟩], some (29, true)⟩ rfl (by kernel_rfl) (by rfl) ?_
     try simp only [apt12]
     refine tkO 34 ⟨some 61, .load 29 (.tmp 60), 29, "ref.go:58", #[⟨33, .data⟩, ⟨29, .guard⟩], some (29, true)⟩ rfl (by kernel_rfl) (by rfl) ?_
     try simp only [apt12]
     refine tkO 35 ⟨some 62, .call { callee := .builtin .len, args := #[.tmp 61], argTypes := #[29] }, 3, "ref.go:58", #[⟨34, .data⟩, ⟨29, .guard⟩], some (29, true)⟩ rfl (by kernel_rfl) (by rfl) ?_
     try simp only [apt12]
     refine tkO 36 ⟨some 63, .binOp .sub 3 (.tmp 62) (.const (Go.Value.int .i64 1)) 3, 3, "ref.go:58", #[⟨35, .data⟩, ⟨29, .guard⟩], some (29, true)⟩ rfl (by kernel_rfl) (by rfl) ?_
     try simp only [apt12]
     refine tkO 37 ⟨some 64, .call { callee := .value (.func 41), args := #[.tmp 59, .tmp 63], argTypes := #[3, 3] }, 3, "ref.go:58", #[⟨32, .data⟩, ⟨36, .data⟩, ⟨29, .chain⟩, ⟨29, .guard⟩], some (29, true)⟩ rfl (by kernel_rfl) (by rfl) ?_
     try simp only [apt12]
     refine tkO 38 ⟨some 65, .binOp .geq 3 (.tmp 64) (.const (Go.Value.int .i64 0)) 3, 4, "ref.go:58", #[⟨37, .data⟩, ⟨29, .guard⟩], some (29, true)⟩ rfl (by kernel_rfl) (by rfl) ?_
     try simp only [apt12]
     refine tkI 39 ⟨some 66, .pick (.tmp 56) (.tmp 65) (.const (Go.Value.bool false)), 4, "ref.go:58", #[⟨29, .data⟩, ⟨38, .data⟩], none⟩ ?v79 rfl (by kernel_rfl) (by rfl) ?y79 ?_
     case y79 => intro w hSw; (try dsimp only at hSw); go_simp; all_goals with_reducible rfl
     try simp only [apt12]
     refine tkI 40 ⟨some 67, .move (.tmp 66), 4, "ref.go:58", #[⟨39, .data⟩, ⟨37, .chain⟩], none⟩ ?v80 rfl (by kernel_rfl) (by rfl) ?y80 ?_
     case y80 => intro w hSw; (try dsimp only at hSw); go_simp; all_goals with_reducible rfl
     try simp only [apt12]
     refine tkO 41 ⟨some 68, .move (.tmp 5), 30, "ref.go:58", #[⟨40, .guard⟩], some (40, true)⟩ rfl (by kernel_rfl) (by rfl) ?_
     try simp only [apt12]
     refine tkO 42 ⟨some 69, .indexAddr 30 (.tmp 68) (.const (Go.Value.int .i64 2)), 0, "ref.go:58", #[⟨41, .data⟩, ⟨40, .guard⟩], some (40, true)⟩ rfl (by kernel_rfl) (by rfl) ?_
     try simp only [apt12]
     refine tkO 43 ⟨some 70, .load 3 (.tmp 69), 3, "ref.go:58", #[⟨42, .data⟩, ⟨40, .guard⟩], some (40, true)⟩ rfl (by kernel_rfl) (by rfl) ?_
     try simp only [apt12]
     refine tkO 44 ⟨some 71, .call { callee := .value (.func 41), args := #[.tmp 70, .const (Go.Value.int .i64 16)], argTypes := #[3, 3] }, 3, "ref.go:58", #[⟨43, .data⟩, ⟨40, .chain⟩, ⟨40, .guard⟩], some (40, true)⟩ rfl (by kernel_rfl) (by rfl) ?_
     try simp only [apt12]
     refine tkO 45 ⟨some 72, .fieldAddr 32 (.tmp 6) 2, 0, "ref.go:58", #[⟨40, .guard⟩], some (40, true)⟩ rfl (by kernel_rfl) (by rfl) ?_
     try simp only [apt12]
     refine tkO 46 ⟨some 73, .load 3 (.tmp 72), 3, "ref.go:58", #[⟨45, .data⟩, ⟨40, .guard⟩], some (40, true)⟩ rfl (by kernel_rfl) (by rfl) ?_
     try simp only [apt12]
     refine tkO 47 ⟨some 74, .binOp .geq 3 (.tmp 71) (.tmp 73) 3, 4, "ref.go:58", #[⟨44, .data⟩, ⟨46, .data⟩, ⟨40, .guard⟩], some (40, true)⟩ rfl (by kernel_rfl) (by rfl) ?_
     try simp only [apt12]
     refine tkI 48 ⟨some 75, .pick (.tmp 67) (.tmp 74) (.const (Go.Value.bool false)), 4, "ref.go:58", #[⟨40, .data⟩, ⟨47, .data⟩], none⟩ ?v88 rfl (by kernel_rfl) (by rfl) ?y88 ?_
     case y88 => intro w hSw; (try dsimp only at hSw); go_simp; all_goals with_reducible rfl
     try simp only [apt12]
     refine tkI 49 ⟨some 4, .assign (.tmp 75), 4, "ref.go:58", #[⟨48, .data⟩, ⟨44, .chain⟩, ⟨0, .phase⟩, ⟨1, .phase⟩, ⟨2, .phase⟩, ⟨3, .phase⟩, ⟨4, .phase⟩, ⟨5, .phase⟩, ⟨6, .phase⟩, ⟨7, .phase⟩, ⟨8, .phase⟩, ⟨9, .phase⟩, ⟨10, .phase⟩, ⟨11, .phase⟩, ⟨12, .phase⟩, ⟨13, .phase⟩, ⟨14, .phase⟩, ⟨15, .phase⟩, ⟨16, .phase⟩, ⟨17, .phase⟩, ⟨18, .phase⟩, ⟨19, .phase⟩, ⟨20, .phase⟩, ⟨21, .phase⟩, ⟨22, .phase⟩, ⟨23, .phase⟩, ⟨24, .phase⟩, ⟨25, .phase⟩, ⟨26, .phase⟩, ⟨27, .phase⟩, ⟨28, .phase⟩, ⟨29, .phase⟩, ⟨30, .phase⟩, ⟨31, .phase⟩, ⟨32, .phase⟩, ⟨33, .phase⟩, ⟨34, .phase⟩, ⟨35, .phase⟩, ⟨36, .phase⟩, ⟨37, .phase⟩, ⟨38, .phase⟩, ⟨39, .phase⟩, ⟨40, .phase⟩, ⟨41, .phase⟩, ⟨42, .phase⟩, ⟨43, .phase⟩, ⟨44, .phase⟩, ⟨45, .phase⟩, ⟨46, .phase⟩, ⟨47, .phase⟩, ⟨48, .phase⟩], none⟩ ?v89 rfl (by kernel_rfl) (by rfl) ?y89 ?_
     case y89 => intro w hSw; (try dsimp only at hSw); go_simp; all_goals with_reducible rfl
     try simp only [apt12]
     refine wpAnyH_done (by kernel_rfl) ?_ _
     go_wp2_with fail
     go_ret
     exact ⟨by rw [HV.out]; first | rfl | simp_all, then_w HB3.out ((Below.refl w3.heap.size w3).drew)⟩
end Go.Proofs.YtalfbdigjaibkaaGreat
