/- How many of a context's area count, and how many temporaries there are: the document's word. -/
import Derived.Test.YtalfbdigjaibkaaGreatSD12
namespace Go.Proofs.YtalfbdigjaibkaaGreat
open Go.RowKit
set_option maxRecDepth 100000
set_option maxHeartbeats 4000000 in
theorem rsp_any12 (h : Hp) (cx : Int) (A : Option Addr) (c : Nat) (w : World) (hs : ObsR w A h.objs) (fit : h.Fit) (h22 : (sls12 h cx).length = 22) :
    Calls Tryz.prog 45 #[.agg #[.slice A h.objs.length c, .int .i64 h.cap, .int .i64 h.last], .int .i64 cx] w fun e w' => e = .returned (.tuple #[.int .i64 (sp12 h cx), .int .i64 (cm12 h cx).temps]) ∧ Below w.heap.size w w' := by
  obtain ⟨w0, hw0⟩ : ∃ w0, w0 = w.alloc (.cells #[Value.slice A h.objs.length c, Value.int .i64 h.cap, Value.int .i64 h.last] 24) := ⟨_, rfl⟩
  have HB0 : Hid (Below w.heap.size w w0) := by show Below _ _ _; rw [hw0]; exact below_alloc _ _
  have HX0 : Hid (Lies w0 w.heap.size 24 #[Value.slice A h.objs.length c, Value.int .i64 h.cap, Value.int .i64 h.last]) := by show Lies _ _ _ _; rw [hw0]; exact Lies.new _ _ _
  have HS := hid hs
  have HF := hid fit
  obtain ⟨l, hl⟩ : ∃ l, l = sls12 h cx := ⟨_, rfl⟩
  obtain ⟨v3, hv3⟩ : ∃ v, v = sl12 h cx 3 := ⟨_, rfl⟩
  obtain ⟨v2, hv2⟩ : ∃ v, v = sl12 h cx 2 := ⟨_, rfl⟩
  obtain ⟨M3, hM3⟩ : ∃ M, M = (mt12 h v3).1 := ⟨_, rfl⟩
  obtain ⟨e3, he3⟩ : ∃ e, e = (mt12 h v3).2 := ⟨_, rfl⟩
  obtain ⟨n, hn⟩ : ∃ n, n = sm12 v2 16 := ⟨_, rfl⟩
  have HNN : Hid (sp12 h cx = n) := by show _ = _; unfold sp12; rw [hn, hv2]
  have HTT : Hid ((cm12 h cx).temps = M3.temps) := by show _ = _; unfold cm12; rw [hM3, hv3]
  have HL := hid hl
  have V3 := hid hv3
  have V2 := hid hv2
  have HM3 := hid hM3
  have HE3 := hid he3
  have HN := hid hn
  have H22 : Hid (l.length = 22) := by show _ = _; rw [hl]; exact h22
  rw [HNN.out, HTT.out]
  clear hs fit hM3 he3 hn HNN HTT h22
  go_enter Tryz.func45, Tryz.ntmps45
  go_upto_region 1 with fail
  rw [← hw0]
  clear hw0
  obtain ⟨x0, x1, x2⟩ := HX0.out.c3
  go_wp2_with fail
  refine (rslots_any12 h cx A c _ (HS.out.below HB0.out)).mono ?_
  rintro e w1 ⟨S, d, rfl, hin, -, hb⟩
  rw [← hl] at hin ⊢
  have HB := hid (then_w HB0.out hb)
  have HX1 := hid (HX0.out.later hb)
  clear hb x0 x1 x2
  have hll := H22.out
  obtain ⟨bl, ol, rfl, hbl, hcl⟩ := hin (by omega)
  have hp : ∀ k, k < 22 → w1.cell? ⟨bl, ol + k, none⟩ = some (.int .i64 (sl12 h cx k)) := fun k hk => hcl k _ (by
    unfold sl12
    rw [← HL.out, List.getElem?_eq_getElem (by omega), List.getD_eq_getElem?_getD, List.getElem?_eq_getElem (by omega)]; rfl)
  have q2 := hp 2 (by decide)
  have q3 := hp 3 (by decide)
  rw [← hv2] at q2
  rw [← hv3] at q3
  rw [hll]
  have Q2 := hid q2
  clear hp hcl hbl hin hl hll hv2 hv3 q2
  obtain ⟨x0, x1, x2⟩ := HX1.out.c3
  go_upto_region 2 with fail
  go_cut [7, 8] from 12 to 19 (fun p z wx => ∃ bx CA cc LA lc, p = .pointer (some ⟨bx, 0, none⟩) ∧ z = .int .i64 e3 ∧ Hid (Lies wx bx 32 #[.int .i64 M3.prim, .int .i64 M3.args, .int .i64 M3.temps, .slice CA M3.code.length cc, .slice LA M3.lits.length lc]) ∧ Hid (Below w1.heap.size w1 wx))
  case first =>
    have BB0 := hid ((Below.refl w1.heap.size w1).drew)
    have z0 := cell_later BB0.out x0
    have z1 := cell_later BB0.out x1
    have z2 := cell_later BB0.out x2
    have z3 := cell_later BB0.out q3
    refine wp_region_held_drew (S := (fun w' => w'.cell? ⟨w.heap.size, 0, none⟩ = some (.slice A h.objs.length c) ∧ w'.cell? ⟨w.heap.size, 1, none⟩ = some (.int .i64 h.cap) ∧ w'.cell? ⟨w.heap.size, 2, none⟩ = some (.int .i64 h.last) ∧ w'.cell? ⟨bl, ol + 3, none⟩ = some (.int .i64 v3))) (by kernel_rfl) ?_ (fun hH0 => ?_)
    · exact ⟨cell_later BB0.out x0, cell_later BB0.out x1, cell_later BB0.out x2, cell_later BB0.out q3⟩
    refine tkI 0 ⟨some 13, .load 24 (.tmp 2), 24, "ref.go:98", #[], none⟩ ?v9 rfl (by kernel_rfl) (by rfl) ?y9 ?_
    case y9 => intro w hSw; (try dsimp only at hSw); go_simp; all_goals with_reducible rfl
    try simp only [apt12]
    refine tkI 1 ⟨some 14, .move (.tmp 6), 30, "ref.go:98", #[], none⟩ ?v10 rfl (by kernel_rfl) (by rfl) ?y10 ?_
    case y10 => intro w hSw; (try dsimp only at hSw); go_simp; all_goals with_reducible rfl
    try simp only [apt12]
    refine tkI 2 ⟨some 15, .indexAddr 30 (.tmp 14) (.const (Go.Value.int .i64 3)), 0, "ref.go:98", #[⟨1, .data⟩], none⟩ ?v11 rfl (by kernel_rfl) (by rfl) ?y11 ?_
    case y11 => intro w hSw; (try dsimp only at hSw); go_simp; all_goals with_reducible rfl
    try simp only [apt12]
    refine tkI 3 ⟨some 16, .load 3 (.tmp 15), 3, "ref.go:98", #[⟨2, .data⟩], none⟩ ?v12 rfl (by kernel_rfl) (by rfl) ?y12 ?_
    case y12 => intro w hSw; (try dsimp only at hSw); go_simp; all_goals with_reducible rfl
    try simp only [apt12]
    refine wpAnyH_ready (rs := [4, 8]) (by kernel_rfl) (by simp) ?_
    refine AllReadyH.cons (i := 4) (o := ⟨some 17, .call { callee := .value (.func 12), args := #[.tmp 13, .tmp 16], argTypes := #[24, 3] }, 34, "ref.go:98", #[⟨0, .data⟩, ⟨3, .data⟩], none⟩) rfl (fun K hK => ?_) (AllReadyH.cons (i := 8) (o := ⟨some 7, .alloc 32, 0, "ref.go:98", #[], none⟩) rfl (fun K hK => ?_) AllReadyH.nil)
    · go_simp
      go_at_call 12
      refine (rmethod_any12 h v3 _ c _ (HS.out.below (then_w HB.out BB0.out)) HF.out).mono ?_
      rintro e u1 ⟨CA, cc, LA, lc, rfl, hins, -, hb, hfr⟩
      rw [← HM3.out] at hins
      rw [← HM3.out, ← HE3.out]
      have BB1 := hid (then_w BB0.out hb)
      have IC1 := hid hins
      refine hK.out _ _ ?_ (fun hH1 => ?_)
      · exact ⟨cell_later BB1.out x0, cell_later BB1.out x1, cell_later BB1.out x2, cell_later BB1.out q3⟩
      clear hK K
      try simp only [apt12]
      clear hb hins hfr
      refine tkI 5 ⟨some 12, .move (.tmp 17), 34, "ref.go:98", #[⟨4, .data⟩], none⟩ ?v13 rfl (by kernel_rfl) (by rfl) ?y13 ?_
      case y13 => intro w hSw; (try dsimp only at hSw); go_simp; all_goals with_reducible rfl
      try simp only [apt12]
      refine tkI 6 ⟨some 18, .extract (.tmp 12) 0, 32, "ref.go:98", #[⟨5, .data⟩], none⟩ ?v14 rfl (by kernel_rfl) (by rfl) ?y14 ?_
      case y14 => intro w hSw; (try dsimp only at hSw); go_simp; all_goals with_reducible rfl
      try simp only [apt12]
      refine tkI 7 ⟨some 19, .extract (.tmp 12) 1, 33, "ref.go:98", #[⟨5, .data⟩, ⟨9, .gcOnly .lateStores⟩], none⟩ ?v15 rfl (by kernel_rfl) (by rfl) ?y15 ?_
      case y15 => intro w hSw; (try dsimp only at hSw); go_simp; all_goals with_reducible rfl
      try simp only [apt12]
      refine wpAnyH_ready (rs := [8]) (by kernel_rfl) (by simp) ?_
      refine AllReadyH.cons (i := 8) (o := ⟨some 7, .alloc 32, 0, "ref.go:98", #[], none⟩) rfl (fun K hK => ?_) AllReadyH.nil
      go_simp
      obtain ⟨u2, hu⟩ : ∃ x, x = u1.alloc (.cells #[.int .i64 0, .int .i64 0, .int .i64 0, .slice none 0 0, .slice none 0 0] 32) := ⟨_, rfl⟩
      obtain ⟨bx, hg⟩ : ∃ x, x = u1.heap.size := ⟨_, rfl⟩
      have hb : Below u1.heap.size u1 u2 := by rw [hu]; exact below_alloc u1 _
      have HX9 : Hid (w1.heap.size ≤ bx) := by show _ ≤ _; rw [hg]; exact BB1.out.size
      have LB2 := hid (show Lies u2 bx 32 #[.int .i64 0, .int .i64 0, .int .i64 0, .slice none 0 0, .slice none 0 0] by rw [hu, hg]; exact Lies.new u1 _ _)
      have BB2 := hid (then_w BB1.out hb)
      have IC2 := hid (IC1.out.below hb)
      try simp only [← hg]
      try rw [← hu]
      refine hK.out _ _ ?_ (fun hH2 => ?_)
      · exact ⟨cell_later BB2.out x0, cell_later BB2.out x1, cell_later BB2.out x2, cell_later BB2.out q3⟩
      clear hK K
      try simp only [apt12]
      clear hb hu hg
      refine wpAnyH_ready (rs := [9]) (by kernel_rfl) (by simp) ?_
      refine AllReadyH.cons (i := 9) (o := ⟨none, .store 32 (.tmp 7) (.tmp 18), 0, "ref.go:98", #[⟨8, .data⟩, ⟨6, .data⟩, ⟨4, .chain⟩, ⟨0, .phase⟩, ⟨1, .phase⟩, ⟨2, .phase⟩, ⟨3, .phase⟩, ⟨4, .phase⟩, ⟨5, .phase⟩, ⟨6, .phase⟩, ⟨7, .textOnly .lateStores⟩, ⟨8, .phase⟩], none⟩) rfl (fun K hK => ?_) AllReadyH.nil
      obtain ⟨r0, r1, r2, r3, r4⟩ := LB2.out.c5
      obtain ⟨f0, f1, f2, f3, f4⟩ := LB2.out.f5
      have BB3 := hid (below_five12 BB2.out HX9.out (.int .i64 M3.prim) (.int .i64 M3.args) (.int .i64 M3.temps) (.slice CA M3.code.length cc) (.slice LA M3.lits.length lc))
      have LF : Hid (Lies (((((u2.setCell ⟨bx, 0, none⟩ (.int .i64 M3.prim)).setCell ⟨bx, 1, none⟩ (.int .i64 M3.args)).setCell ⟨bx, 2, none⟩ (.int .i64 M3.temps)).setCell ⟨bx, 3, none⟩ (.slice CA M3.code.length cc)).setCell ⟨bx, 4, none⟩ (.slice LA M3.lits.length lc)) bx 32 #[.int .i64 M3.prim, .int .i64 M3.args, .int .i64 M3.temps, .slice CA M3.code.length cc, .slice LA M3.lits.length lc]) := by
        show Lies _ _ _ _
        exact (((((LB2.out.set_ 0 (.int .i64 M3.prim)).set_ 1 (.int .i64 M3.args)).set_ 2 (.int .i64 M3.temps)).set_ 3 (.slice CA M3.code.length cc)).set_ 4 (.slice LA M3.lits.length lc))
      go_simp
      refine hK.out _ _ ?_ (fun hH3 => ?_)
      · exact ⟨cell_later BB3.out x0, cell_later BB3.out x1, cell_later BB3.out x2, cell_later BB3.out q3⟩
      clear hK K
      try simp only [apt12]
      clear r0 r1 r2 r3 r4 f0 f1 f2 f3 f4
      refine tkI 10 ⟨some 8, .assign (.tmp 19), 33, "ref.go:98", #[⟨7, .data⟩, ⟨9, .chain⟩, ⟨0, .phase⟩, ⟨1, .phase⟩, ⟨2, .phase⟩, ⟨3, .phase⟩, ⟨4, .phase⟩, ⟨5, .phase⟩, ⟨6, .phase⟩, ⟨7, .phase⟩, ⟨8, .phase⟩, ⟨9, .phase⟩], none⟩ ?v16 rfl (by kernel_rfl) (by rfl) ?y16 ?_
      case y16 => intro w hSw; (try dsimp only at hSw); go_simp; all_goals with_reducible rfl
      try simp only [apt12]
      refine wpAnyH_done (by kernel_rfl) ?_ _
      go_wp2_with fail
      go_meet
      exact ⟨bx, CA, cc, LA, lc, rfl, rfl, LF, BB3⟩
    · go_simp
      obtain ⟨u1, hu⟩ : ∃ x, x = (w1.alloc (.cells #[.int .i64 0, .int .i64 0, .int .i64 0, .slice none 0 0, .slice none 0 0] 32)).drew := ⟨_, rfl⟩
      obtain ⟨bx, hg⟩ : ∃ x, x = w1.heap.size := ⟨_, rfl⟩
      have hb : Below w1.drew.heap.size w1.drew u1 := by rw [hu]; exact below_alloc w1.drew _
      have HX9 : Hid (w1.heap.size ≤ bx) := by show _ ≤ _; rw [hg]; exact BB0.out.size
      have LB1 := hid (show Lies u1 bx 32 #[.int .i64 0, .int .i64 0, .int .i64 0, .slice none 0 0, .slice none 0 0] by rw [hu, hg]; exact Lies.new w1.drew _ _)
      have BB1 := hid (then_w BB0.out hb)
      try simp only [← hg]
      try rw [← hu]
      refine hK.out _ _ ?_ (fun hH1 => ?_)
      · exact ⟨cell_later BB1.out x0, cell_later BB1.out x1, cell_later BB1.out x2, cell_later BB1.out q3⟩
      clear hK K
      try simp only [apt12]
      clear hb hu hg
      refine wpAnyH_ready (rs := [4]) (by kernel_rfl) (by simp) ?_
      refine AllReadyH.cons (i := 4) (o := ⟨some 17, .call { callee := .value (.func 12), args := #[.tmp 13, .tmp 16], argTypes := #[24, 3] }, 34, "ref.go:98", #[⟨0, .data⟩, ⟨3, .data⟩], none⟩) rfl (fun K hK => ?_) AllReadyH.nil
      go_simp
      go_at_call 12
      refine (rmethod_any12 h v3 _ c _ (HS.out.below (then_w HB.out BB1.out)) HF.out).mono ?_
      rintro e u2 ⟨CA, cc, LA, lc, rfl, hins, -, hb, hfr⟩
      rw [← HM3.out] at hins
      rw [← HM3.out, ← HE3.out]
      have BB2 := hid (then_w BB1.out hb)
      have IC2 := hid hins
      have LB2 := hid (LB1.out.later hb)
      refine hK.out _ _ ?_ (fun hH2 => ?_)
      · exact ⟨cell_later BB2.out x0, cell_later BB2.out x1, cell_later BB2.out x2, cell_later BB2.out q3⟩
      clear hK K
      try simp only [apt12]
      clear hb hins hfr
      refine tkI 5 ⟨some 12, .move (.tmp 17), 34, "ref.go:98", #[⟨4, .data⟩], none⟩ ?v17 rfl (by kernel_rfl) (by rfl) ?y17 ?_
      case y17 => intro w hSw; (try dsimp only at hSw); go_simp; all_goals with_reducible rfl
      try simp only [apt12]
      refine tkI 6 ⟨some 18, .extract (.tmp 12) 0, 32, "ref.go:98", #[⟨5, .data⟩], none⟩ ?v18 rfl (by kernel_rfl) (by rfl) ?y18 ?_
      case y18 => intro w hSw; (try dsimp only at hSw); go_simp; all_goals with_reducible rfl
      try simp only [apt12]
      refine tkI 7 ⟨some 19, .extract (.tmp 12) 1, 33, "ref.go:98", #[⟨5, .data⟩, ⟨9, .gcOnly .lateStores⟩], none⟩ ?v19 rfl (by kernel_rfl) (by rfl) ?y19 ?_
      case y19 => intro w hSw; (try dsimp only at hSw); go_simp; all_goals with_reducible rfl
      try simp only [apt12]
      refine wpAnyH_ready (rs := [9]) (by kernel_rfl) (by simp) ?_
      refine AllReadyH.cons (i := 9) (o := ⟨none, .store 32 (.tmp 7) (.tmp 18), 0, "ref.go:98", #[⟨8, .data⟩, ⟨6, .data⟩, ⟨4, .chain⟩, ⟨0, .phase⟩, ⟨1, .phase⟩, ⟨2, .phase⟩, ⟨3, .phase⟩, ⟨4, .phase⟩, ⟨5, .phase⟩, ⟨6, .phase⟩, ⟨7, .textOnly .lateStores⟩, ⟨8, .phase⟩], none⟩) rfl (fun K hK => ?_) AllReadyH.nil
      obtain ⟨r0, r1, r2, r3, r4⟩ := LB2.out.c5
      obtain ⟨f0, f1, f2, f3, f4⟩ := LB2.out.f5
      have BB3 := hid (below_five12 BB2.out HX9.out (.int .i64 M3.prim) (.int .i64 M3.args) (.int .i64 M3.temps) (.slice CA M3.code.length cc) (.slice LA M3.lits.length lc))
      have LF : Hid (Lies (((((u2.setCell ⟨bx, 0, none⟩ (.int .i64 M3.prim)).setCell ⟨bx, 1, none⟩ (.int .i64 M3.args)).setCell ⟨bx, 2, none⟩ (.int .i64 M3.temps)).setCell ⟨bx, 3, none⟩ (.slice CA M3.code.length cc)).setCell ⟨bx, 4, none⟩ (.slice LA M3.lits.length lc)) bx 32 #[.int .i64 M3.prim, .int .i64 M3.args, .int .i64 M3.temps, .slice CA M3.code.length cc, .slice LA M3.lits.length lc]) := by
        show Lies _ _ _ _
        exact (((((LB2.out.set_ 0 (.int .i64 M3.prim)).set_ 1 (.int .i64 M3.args)).set_ 2 (.int .i64 M3.temps)).set_ 3 (.slice CA M3.code.length cc)).set_ 4 (.slice LA M3.lits.length lc))
      go_simp
      refine hK.out _ _ ?_ (fun hH3 => ?_)
      · exact ⟨cell_later BB3.out x0, cell_later BB3.out x1, cell_later BB3.out x2, cell_later BB3.out q3⟩
      clear hK K
      try simp only [apt12]
      clear r0 r1 r2 r3 r4 f0 f1 f2 f3 f4
      refine tkI 10 ⟨some 8, .assign (.tmp 19), 33, "ref.go:98", #[⟨7, .data⟩, ⟨9, .chain⟩, ⟨0, .phase⟩, ⟨1, .phase⟩, ⟨2, .phase⟩, ⟨3, .phase⟩, ⟨4, .phase⟩, ⟨5, .phase⟩, ⟨6, .phase⟩, ⟨7, .phase⟩, ⟨8, .phase⟩, ⟨9, .phase⟩], none⟩ ?v20 rfl (by kernel_rfl) (by rfl) ?y20 ?_
      case y20 => intro w hSw; (try dsimp only at hSw); go_simp; all_goals with_reducible rfl
      try simp only [apt12]
      refine wpAnyH_done (by kernel_rfl) ?_ _
      go_wp2_with fail
      go_meet
      exact ⟨bx, CA, cc, LA, lc, rfl, rfl, LF, BB3⟩
  case rest =>
    rename World => w2
    obtain ⟨bx, CA, cc, LA, lc, rfl, rfl, LF, BF⟩ := hcut
    have HB2 := hid (then_w HB.out BF.out)
    have m2 := LF.out.cell 2
    simp only [List.getElem?_toArray, List.getElem?_cons_zero, List.getElem?_cons_succ] at m2
    have q2 := cell_later BF.out Q2.out
    clear x0 x1 x2 q3
    go_upto_region 3 with fail
    refine wp_region_held_drew (S := (fun w' => w'.cell? ⟨bl, ol + 2, none⟩ = some (.int .i64 v2) ∧ w'.cell? ⟨bx, 2, none⟩ = some (.int .i64 M3.temps))) (by kernel_rfl) ?_ (fun hH0 => ?_)
    · exact ⟨cell_later (Below.refl w2.heap.size w2).drew q2, cell_later (Below.refl w2.heap.size w2).drew m2⟩
    refine tkI 0 ⟨some 20, .move (.tmp 6), 30, "ref.go:99", #[], none⟩ ?v21 rfl (by kernel_rfl) (by rfl) ?y21 ?_
    case y21 => intro w hSw; (try dsimp only at hSw); go_simp; all_goals with_reducible rfl
    try simp only [apt12]
    refine tkI 1 ⟨some 21, .indexAddr 30 (.tmp 20) (.const (Go.Value.int .i64 2)), 0, "ref.go:99", #[⟨0, .data⟩], none⟩ ?v22 rfl (by kernel_rfl) (by rfl) ?y22 ?_
    case y22 => intro w hSw; (try dsimp only at hSw); go_simp; all_goals with_reducible rfl
    try simp only [apt12]
    refine tkI 2 ⟨some 22, .load 3 (.tmp 21), 3, "ref.go:99", #[⟨1, .data⟩], none⟩ ?v23 rfl (by kernel_rfl) (by rfl) ?y23 ?_
    case y23 => intro w hSw; (try dsimp only at hSw); go_simp; all_goals with_reducible rfl
    try simp only [apt12]
    refine tkI 4 ⟨some 24, .fieldAddr 32 (.tmp 7) 2, 0, "ref.go:99", #[⟨6, .gcOnly .lateStores⟩], none⟩ ?v24 rfl (by kernel_rfl) (by rfl) ?y24 ?_
    case y24 => intro w hSw; (try dsimp only at hSw); go_simp; all_goals with_reducible rfl
    try simp only [apt12]
    refine tkI 5 ⟨some 25, .load 3 (.tmp 24), 3, "ref.go:99", #[⟨4, .data⟩, ⟨6, .gcOnly .lateStores⟩], none⟩ ?v25 rfl (by kernel_rfl) (by rfl) ?y25 ?_
    case y25 => intro w hSw; (try dsimp only at hSw); go_simp; all_goals with_reducible rfl
    try simp only [apt12]
    refine wpAnyH_ready (rs := [3]) (by kernel_rfl) (by simp) ?_
    refine AllReadyH.cons (i := 3) (o := ⟨some 23, .call { callee := .value (.func 41), args := #[.tmp 22, .const (Go.Value.int .i64 16)], argTypes := #[3, 3] }, 3, "ref.go:99", #[⟨2, .data⟩], none⟩) rfl (fun K hK => ?_) AllReadyH.nil
    go_simp
    go_at_call 41
    refine (rsmall_any12 v2 16 _).mono ?_
    rintro e u1 ⟨rfl, hu⟩
    subst hu
    rw [← HN.out]
    refine hK.out _ _ ?_ (fun hH1 => ?_)
    · exact hH0
    clear hK K
    try simp only [apt12]
    refine tkI 6 ⟨some 4, .assign (.tmp 23), 3, "ref.go:99", #[⟨3, .data⟩, ⟨3, .chain⟩, ⟨0, .phase⟩, ⟨1, .phase⟩, ⟨2, .phase⟩, ⟨3, .phase⟩, ⟨4, .textOnly .lateStores⟩, ⟨5, .textOnly .lateStores⟩], none⟩ ?v26 rfl (by kernel_rfl) (by rfl) ?y26 ?_
    case y26 => intro w hSw; (try dsimp only at hSw); go_simp; all_goals with_reducible rfl
    try simp only [apt12]
    refine tkI 7 ⟨some 5, .assign (.tmp 25), 3, "ref.go:99", #[⟨5, .data⟩, ⟨6, .chain⟩, ⟨0, .phase⟩, ⟨1, .phase⟩, ⟨2, .phase⟩, ⟨3, .phase⟩, ⟨4, .phase⟩, ⟨5, .phase⟩, ⟨6, .phase⟩], none⟩ ?v27 rfl (by kernel_rfl) (by rfl) ?y27 ?_
    case y27 => intro w hSw; (try dsimp only at hSw); go_simp; all_goals with_reducible rfl
    try simp only [apt12]
    refine wpAnyH_done (by kernel_rfl) ?_ _
    go_wp2_with fail
    go_ret2
    exact ⟨rfl, HB2.out.drew⟩
end Go.Proofs.YtalfbdigjaibkaaGreat
