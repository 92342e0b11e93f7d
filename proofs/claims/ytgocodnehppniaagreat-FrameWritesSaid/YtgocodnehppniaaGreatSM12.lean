/- The document's At. -/
import Derived.Test.YtgocodnehppniaaGreatSLM12
namespace Go.Proofs.YtgocodnehppniaaGreat
open Go.RowKit
set_option maxRecDepth 100000
set_option maxHeartbeats 4000000 in
theorem rat_any12 (h : Hp) (cx : Int) (A : Option Addr) (c : Nat) (w : World) (hs : ObsR w A h.objs) (fit : h.Fit) :
    Calls Tryz.prog 14 #[.agg #[.slice A h.objs.length c, .int .i64 h.cap, .int .i64 h.last], .int .i64 cx] w (fun e w' => e = .returned (.tuple #[.int .i64 (at12 h cx).1, .agg #[.int .i64 (at12 h cx).2.1.op, .int .i64 (at12 h cx).2.1.a], .int .i64 (at12 h cx).2.2]) ∧ Below w.heap.size w w') := by
  obtain ⟨w0, hw0⟩ : ∃ w0, w0 = (w.alloc (.cells #[Value.slice A h.objs.length c, Value.int .i64 h.cap, Value.int .i64 h.last] 24)).alloc (.cells #[.int .i64 0, .int .i64 0] 37) := ⟨_, rfl⟩
  have HB0 : Hid (Below w.heap.size w w0) := by show Below _ _ _; rw [hw0]; exact below_alloc2 w _ _
  have HX0 : Hid (Lies w0 w.heap.size 24 #[Value.slice A h.objs.length c, Value.int .i64 h.cap, Value.int .i64 h.last]) := by show Lies _ _ _ _; rw [hw0]; exact (Lies.new w 24 _).later (below_alloc _ _)
  have HK0 : Hid (Lies w0 (w.heap.size + 1) 37 #[.int .i64 0, .int .i64 0]) := by
    show Lies _ _ _ _
    have := Lies.new (w.alloc (.cells #[Value.slice A h.objs.length c, Value.int .i64 h.cap, Value.int .i64 h.last] 24)) 37 #[.int .i64 0, .int .i64 0]
    rw [hw0]
    simpa [Hid] using this
  have HS := hid hs
  have HF := hid fit
  clear hs fit
  go_enter Tryz.func14, Tryz.ntmps14
  go_upto_region 1 with fail
  rw [← hw0]
  clear hw0
  obtain ⟨x0, x1, x2⟩ := HX0.out.c3
  go_wp2_with fail
  refine (rmay_any12 h cx A c _ (HS.out.below HB0.out) HF.out).mono ?_
  rintro e w1 ⟨rfl, hb⟩
  have HB := hid (then_w HB0.out hb)
  have HX1 := hid (HX0.out.later hb)
  have HK1 := hid (HK0.out.later hb)
  clear hb x0 x1 x2
  cases hm : may12 h cx
  · have HRR : Hid (at12 h cx = (0, ⟨0, 0⟩, 120)) := by show _ = _; unfold at12; rw [if_pos hm]
    clear hm
    obtain ⟨x0, x1, x2⟩ := HX1.out.c3
    obtain ⟨u0, u1⟩ := HK1.out.c2
    obtain ⟨uf0, uf1⟩ := HK1.out.f2
    go_wp2_with fail
    have K0 := ((HK1.out.set_ 0 (.int .i64 0)).set_ 1 (.int .i64 0))
    have r0 := K0.cell 0
    have r1 := K0.cell 1
    simp only [List.setIfInBounds_toArray, List.set_cons_zero, List.set_cons_succ, List.getElem?_toArray, List.getElem?_cons_zero, List.getElem?_cons_succ] at r0 r1
    refine bodyPost_ret (v := .tuple #[.int .i64 0, .agg #[.int .i64 0, .int .i64 0], .int .i64 120]) (by simp [results, Tryz.results14, go_sem, r0, r1]) rfl ?_
    exact ⟨by rw [HRR.out], ((HB.out).setCell (p := ⟨w.heap.size + 1, 0, none⟩) (by simp) (.int .i64 0)).setCell (p := ⟨w.heap.size + 1, 1, none⟩) (by simp) (.int .i64 0)⟩
  obtain ⟨hm0, h22, -, -, -, -, hip, -⟩ := may_parts12 hm
  obtain ⟨v3, hv3⟩ : ∃ v, v = sl12 h cx 3 := ⟨_, rfl⟩
  obtain ⟨v1, hv1⟩ : ∃ v, v = sl12 h cx 1 := ⟨_, rfl⟩
  obtain ⟨M3, hM3⟩ : ∃ M, M = (mt12 h v3).1 := ⟨_, rfl⟩
  obtain ⟨e3, he3⟩ : ∃ e, e = (mt12 h v3).2 := ⟨_, rfl⟩
  have HCM : Hid (cm12 h cx = M3) := by show _ = _; unfold cm12; rw [hM3, hv3]
  have hcl : (M3.code.length : Int) ≤ 32 := by rw [hM3]; exact code_le12
  rw [HCM.out, ← hv1] at hip
  obtain ⟨hs1, hs2⟩ := sm_same12 hip (b := 64) (by omega)
  obtain ⟨p, hp⟩ : ∃ p : Nat, sm12 v1 64 = (p : Int) := ⟨(sm12 v1 64).toNat, by omega⟩
  have hpl : p < M3.code.length := by omega
  obtain ⟨I, hI⟩ : ∃ I, I = M3.code.getD p ⟨0, 0⟩ := ⟨_, rfl⟩
  have HRR : Hid (at12 h cx = ((p : Int), I, 0)) := by show _ = _; unfold at12; rw [if_neg (by rw [hm]; decide), HCM.out, ← hv1, hp, hI]; rfl
  have V3 := hid hv3
  have V1 := hid hv1
  have HM3 := hid hM3
  have HE3 := hid he3
  have HP := hid hp
  have HPL := hid hpl
  have HI := hid hI
  have H22 := hid h22
  have HM := hid hm
  clear hm h22 hm0 hM3 he3 hip hs1 hs2 hcl hp hpl hI
  obtain ⟨x0, x1, x2⟩ := HX1.out.c3
  go_wp2_with fail
  refine (rslots_any12 h cx A c _ (HS.out.below HB.out)).mono ?_
  rintro e w2 ⟨S, d, rfl, hin, -, hb⟩
  have HB2 := hid (then_w HB.out hb)
  have HX2 := hid (HX1.out.later hb)
  have HK2 := hid (HK1.out.later hb)
  have hll := H22.out
  obtain ⟨bl, ol, rfl, hbl, hcl⟩ := hin (by omega)
  have q1 := hcl 1 (sl12 h cx 1) (by
    unfold sl12
    rw [List.getElem?_eq_getElem (by omega), List.getD_eq_getElem?_getD, List.getElem?_eq_getElem (by omega)]; rfl)
  have q3 := hcl 3 (sl12 h cx 3) (by
    unfold sl12
    rw [List.getElem?_eq_getElem (by omega), List.getD_eq_getElem?_getD, List.getElem?_eq_getElem (by omega)]; rfl)
  rw [← hv1] at q1
  rw [← hv3] at q3
  rw [hll]
  have Q1 := hid q1
  clear hb x0 x1 x2 hin hbl hcl hll q1 hv1 hv3
  obtain ⟨x0, x1, x2⟩ := HX2.out.c3
  go_upto_region 4 with fail
  go_cut [8, 9] from 19 to 26 (fun p z wx => ∃ bx CA cc LA lc, p = .pointer (some ⟨bx, 0, none⟩) ∧ z = .int .i64 e3 ∧ Hid (Lies wx bx 32 #[.int .i64 M3.prim, .int .i64 M3.args, .int .i64 M3.temps, .slice CA M3.code.length cc, .slice LA M3.lits.length lc]) ∧ Hid (Below w2.heap.size w2 wx) ∧ Hid (InsR wx CA M3.code))
  case first =>
    have BB0 := hid ((Below.refl w2.heap.size w2).drew)
    have z0 := cell_later BB0.out x0
    have z1 := cell_later BB0.out x1
    have z2 := cell_later BB0.out x2
    have z3 := cell_later BB0.out q3
    refine wp_region_held_drew (S := (fun w' => w'.cell? ⟨w.heap.size, 0, none⟩ = some (.slice A h.objs.length c) ∧ w'.cell? ⟨w.heap.size, 1, none⟩ = some (.int .i64 h.cap) ∧ w'.cell? ⟨w.heap.size, 2, none⟩ = some (.int .i64 h.last) ∧ w'.cell? ⟨bl, ol + 3, none⟩ = some (.int .i64 v3))) (by kernel_rfl) ?_ (fun hH0 => ?_)
    · exact ⟨cell_later BB0.out x0, cell_later BB0.out x1, cell_later BB0.out x2, cell_later BB0.out q3⟩
    refine tkI 0 ⟨some 20, .load 24 (.tmp 2), 24, "ref.go:181", #[], none⟩ ?v391 rfl (by kernel_rfl) (by rfl) ?y391 ?_
    case y391 => intro w hSw; (try dsimp only at hSw); go_simp; all_goals with_reducible rfl
    try simp only [apt12]
    refine tkI 1 ⟨some 21, .move (.tmp 7), 30, "ref.go:181", #[], none⟩ ?v392 rfl (by kernel_rfl) (by rfl) ?y392 ?_
    case y392 => intro w hSw; (try dsimp only at hSw); go_simp; all_goals with_reducible rfl
    try simp only [apt12]
    refine tkI 2 ⟨some 22, .indexAddr 30 (.tmp 21) (.const (Go.Value.int .i64 3)), 0, "ref.go:181", #[⟨1, .data⟩], none⟩ ?v393 rfl (by kernel_rfl) (by rfl) ?y393 ?_
    case y393 => intro w hSw; (try dsimp only at hSw); go_simp; all_goals with_reducible rfl
    try simp only [apt12]
    refine tkI 3 ⟨some 23, .load 3 (.tmp 22), 3, "ref.go:181", #[⟨2, .data⟩], none⟩ ?v394 rfl (by kernel_rfl) (by rfl) ?y394 ?_
    case y394 => intro w hSw; (try dsimp only at hSw); go_simp; all_goals with_reducible rfl
    try simp only [apt12]
    refine wpAnyH_ready (rs := [4, 8]) (by kernel_rfl) (by simp) ?_
    refine AllReadyH.cons (i := 4) (o := ⟨some 24, .call { callee := .value (.func 12), args := #[.tmp 20, .tmp 23], argTypes := #[24, 3] }, 34, "ref.go:181", #[⟨0, .data⟩, ⟨3, .data⟩], none⟩) rfl (fun K hK => ?_) (AllReadyH.cons (i := 8) (o := ⟨some 8, .alloc 32, 0, "ref.go:181", #[], none⟩) rfl (fun K hK => ?_) AllReadyH.nil)
    · go_simp
      go_at_call 12
      refine (rmethod_any12 h v3 _ c _ (HS.out.below (then_w HB2.out BB0.out)) HF.out).mono ?_
      rintro e u1 ⟨CA, cc, LA, lc, rfl, hins, -, hb, hfr⟩
      rw [← HM3.out] at hins
      rw [← HM3.out, ← HE3.out]
      have BB1 := hid (then_w BB0.out hb)
      have IC1 := hid hins
      refine hK.out _ _ ?_ (fun hH1 => ?_)
      · exact ⟨cell_later BB1.out x0, cell_later BB1.out x1, cell_later BB1.out x2, cell_later BB1.out q3⟩
      clear hK K
      try simp only [apt12]
      clear hb hins hfr
      refine tkI 5 ⟨some 19, .move (.tmp 24), 34, "ref.go:181", #[⟨4, .data⟩], none⟩ ?v395 rfl (by kernel_rfl) (by rfl) ?y395 ?_
      case y395 => intro w hSw; (try dsimp only at hSw); go_simp; all_goals with_reducible rfl
      try simp only [apt12]
      refine tkI 6 ⟨some 25, .extract (.tmp 19) 0, 32, "ref.go:181", #[⟨5, .data⟩], none⟩ ?v396 rfl (by kernel_rfl) (by rfl) ?y396 ?_
      case y396 => intro w hSw; (try dsimp only at hSw); go_simp; all_goals with_reducible rfl
      try simp only [apt12]
      refine tkI 7 ⟨some 26, .extract (.tmp 19) 1, 33, "ref.go:181", #[⟨5, .data⟩, ⟨9, .gcOnly .lateStores⟩], none⟩ ?v397 rfl (by kernel_rfl) (by rfl) ?y397 ?_
      case y397 => intro w hSw; (try dsimp only at hSw); go_simp; all_goals with_reducible rfl
      try simp only [apt12]
      refine wpAnyH_ready (rs := [8]) (by kernel_rfl) (by simp) ?_
      refine AllReadyH.cons (i := 8) (o := ⟨some 8, .alloc 32, 0, "ref.go:181", #[], none⟩) rfl (fun K hK => ?_) AllReadyH.nil
      go_simp
      obtain ⟨u2, hu⟩ : ∃ x, x = u1.alloc (.cells #[.int .i64 0, .int .i64 0, .int .i64 0, .slice none 0 0, .slice none 0 0] 32) := ⟨_, rfl⟩
      obtain ⟨bx, hg⟩ : ∃ x, x = u1.heap.size := ⟨_, rfl⟩
      have hb : Below u1.heap.size u1 u2 := by rw [hu]; exact below_alloc u1 _
      have HX9 : Hid (w2.heap.size ≤ bx) := by show _ ≤ _; rw [hg]; exact BB1.out.size
      have LB2 := hid (show Lies u2 bx 32 #[.int .i64 0, .int .i64 0, .int .i64 0, .slice none 0 0, .slice none 0 0] by rw [hu, hg]; exact Lies.new u1 _ _)
      have BB2 := hid (then_w BB1.out hb)
      have HNE : Hid (0 < M3.code.length → ∀ k o s, CA = some ⟨k, o, s⟩ → k ≠ bx) := fun hn k o s e => by
        obtain ⟨b9, o9, e9, hl9, -⟩ := IC1.out hn
        rw [e9] at e
        injection e with e
        injection e with e
        omega
      have IC2 := hid (IC1.out.below hb)
      try simp only [← hg]
      try rw [← hu]
      refine hK.out _ _ ?_ (fun hH2 => ?_)
      · exact ⟨cell_later BB2.out x0, cell_later BB2.out x1, cell_later BB2.out x2, cell_later BB2.out q3⟩
      clear hK K
      try simp only [apt12]
      clear hb hu hg
      refine wpAnyH_ready (rs := [9]) (by kernel_rfl) (by simp) ?_
      refine AllReadyH.cons (i := 9) (o := ⟨none, .store 32 (.tmp 8) (.tmp 25), 0, "ref.go:181", #[⟨8, .data⟩, ⟨6, .data⟩, ⟨4, .chain⟩, ⟨0, .phase⟩, ⟨1, .phase⟩, ⟨2, .phase⟩, ⟨3, .phase⟩, ⟨4, .phase⟩, ⟨5, .phase⟩, ⟨6, .phase⟩, ⟨7, .textOnly .lateStores⟩, ⟨8, .phase⟩], none⟩) rfl (fun K hK => ?_) AllReadyH.nil
      obtain ⟨r0, r1, r2, r3, r4⟩ := LB2.out.c5
      obtain ⟨f0, f1, f2, f3, f4⟩ := LB2.out.f5
      have BB3 := hid (below_five12 BB2.out HX9.out (.int .i64 M3.prim) (.int .i64 M3.args) (.int .i64 M3.temps) (.slice CA M3.code.length cc) (.slice LA M3.lits.length lc))
      have LF : Hid (Lies (((((u2.setCell ⟨bx, 0, none⟩ (.int .i64 M3.prim)).setCell ⟨bx, 1, none⟩ (.int .i64 M3.args)).setCell ⟨bx, 2, none⟩ (.int .i64 M3.temps)).setCell ⟨bx, 3, none⟩ (.slice CA M3.code.length cc)).setCell ⟨bx, 4, none⟩ (.slice LA M3.lits.length lc)) bx 32 #[.int .i64 M3.prim, .int .i64 M3.args, .int .i64 M3.temps, .slice CA M3.code.length cc, .slice LA M3.lits.length lc]) := by
        show Lies _ _ _ _
        exact (((((LB2.out.set_ 0 (.int .i64 M3.prim)).set_ 1 (.int .i64 M3.args)).set_ 2 (.int .i64 M3.temps)).set_ 3 (.slice CA M3.code.length cc)).set_ 4 (.slice LA M3.lits.length lc))
      have IF : Hid (InsR (((((u2.setCell ⟨bx, 0, none⟩ (.int .i64 M3.prim)).setCell ⟨bx, 1, none⟩ (.int .i64 M3.args)).setCell ⟨bx, 2, none⟩ (.int .i64 M3.temps)).setCell ⟨bx, 3, none⟩ (.slice CA M3.code.length cc)).setCell ⟨bx, 4, none⟩ (.slice LA M3.lits.length lc)) CA M3.code) := fun hn => ins_five12 IC2.out (HNE.out hn) (.int .i64 M3.prim) (.int .i64 M3.args) (.int .i64 M3.temps) (.slice CA M3.code.length cc) (.slice LA M3.lits.length lc) hn
      go_simp
      refine hK.out _ _ ?_ (fun hH3 => ?_)
      · exact ⟨cell_later BB3.out x0, cell_later BB3.out x1, cell_later BB3.out x2, cell_later BB3.out q3⟩
      clear hK K
      try simp only [apt12]
      clear r0 r1 r2 r3 r4 f0 f1 f2 f3 f4
      refine tkI 10 ⟨some 9, .assign (.tmp 26), 33, "ref.go:181", #[⟨7, .data⟩, ⟨9, .chain⟩, ⟨0, .phase⟩, ⟨1, .phase⟩, ⟨2, .phase⟩, ⟨3, .phase⟩, ⟨4, .phase⟩, ⟨5, .phase⟩, ⟨6, .phase⟩, ⟨7, .phase⟩, ⟨8, .phase⟩, ⟨9, .phase⟩], none⟩ ?v398 rfl (by kernel_rfl) (by rfl) ?y398 ?_
      case y398 => intro w hSw; (try dsimp only at hSw); go_simp; all_goals with_reducible rfl
      try simp only [apt12]
      refine wpAnyH_done (by kernel_rfl) ?_ _
      go_wp2_with fail
      go_meet
      exact ⟨bx, CA, cc, LA, lc, rfl, rfl, LF, BB3, IF⟩
    · go_simp
      obtain ⟨u1, hu⟩ : ∃ x, x = (w2.alloc (.cells #[.int .i64 0, .int .i64 0, .int .i64 0, .slice none 0 0, .slice none 0 0] 32)).drew := ⟨_, rfl⟩
      obtain ⟨bx, hg⟩ : ∃ x, x = w2.heap.size := ⟨_, rfl⟩
      have hb : Below w2.drew.heap.size w2.drew u1 := by rw [hu]; exact below_alloc w2.drew _
      have HX9 : Hid (w2.heap.size ≤ bx) := by show _ ≤ _; rw [hg]; exact BB0.out.size
      have LB1 := hid (show Lies u1 bx 32 #[.int .i64 0, .int .i64 0, .int .i64 0, .slice none 0 0, .slice none 0 0] by rw [hu, hg]; exact Lies.new w2.drew _ _)
      have BB1 := hid (then_w BB0.out hb)
      try simp only [← hg]
      try rw [← hu]
      refine hK.out _ _ ?_ (fun hH1 => ?_)
      · exact ⟨cell_later BB1.out x0, cell_later BB1.out x1, cell_later BB1.out x2, cell_later BB1.out q3⟩
      clear hK K
      try simp only [apt12]
      clear hb hu hg
      refine wpAnyH_ready (rs := [4]) (by kernel_rfl) (by simp) ?_
      refine AllReadyH.cons (i := 4) (o := ⟨some 24, .call { callee := .value (.func 12), args := #[.tmp 20, .tmp 23], argTypes := #[24, 3] }, 34, "ref.go:181", #[⟨0, .data⟩, ⟨3, .data⟩], none⟩) rfl (fun K hK => ?_) AllReadyH.nil
      go_simp
      go_at_call 12
      refine (rmethod_any12 h v3 _ c _ (HS.out.below (then_w HB2.out BB1.out)) HF.out).mono ?_
      rintro e u2 ⟨CA, cc, LA, lc, rfl, hins, -, hb, hfr⟩
      rw [← HM3.out] at hins
      rw [← HM3.out, ← HE3.out]
      have BB2 := hid (then_w BB1.out hb)
      have IC2 := hid hins
      have HNE : Hid (0 < M3.code.length → ∀ k o s, CA = some ⟨k, o, s⟩ → k ≠ bx) := fun _ k o s e => by have := hfr k o s e; have := LB1.out.lt; omega
      have LB2 := hid (LB1.out.later hb)
      refine hK.out _ _ ?_ (fun hH2 => ?_)
      · exact ⟨cell_later BB2.out x0, cell_later BB2.out x1, cell_later BB2.out x2, cell_later BB2.out q3⟩
      clear hK K
      try simp only [apt12]
      clear hb hins hfr
      refine tkI 5 ⟨some 19, .move (.tmp 24), 34, "ref.go:181", #[⟨4, .data⟩], none⟩ ?v399 rfl (by kernel_rfl) (by rfl) ?y399 ?_
      case y399 => intro w hSw; (try dsimp only at hSw); go_simp; all_goals with_reducible rfl
      try simp only [apt12]
      refine tkI 6 ⟨some 25, .extract (.tmp 19) 0, 32, "ref.go:181", #[⟨5, .data⟩], none⟩ ?v400 rfl (by kernel_rfl) (by rfl) ?y400 ?_
      case y400 => intro w hSw; (try dsimp only at hSw); go_simp; all_goals with_reducible rfl
      try simp only [apt12]
      refine tkI 7 ⟨some 26, .extract (.tmp 19) 1, 33, "ref.go:181", #[⟨5, .data⟩, ⟨9, .gcOnly .lateStores⟩], none⟩ ?v401 rfl (by kernel_rfl) (by rfl) ?y401 ?_
      case y401 => intro w hSw; (try dsimp only at hSw); go_simp; all_goals with_reducible rfl
      try simp only [apt12]
      refine wpAnyH_ready (rs := [9]) (by kernel_rfl) (by simp) ?_
      refine AllReadyH.cons (i := 9) (o := ⟨none, .store 32 (.tmp 8) (.tmp 25), 0, "ref.go:181", #[⟨8, .data⟩, ⟨6, .data⟩, ⟨4, .chain⟩, ⟨0, .phase⟩, ⟨1, .phase⟩, ⟨2, .phase⟩, ⟨3, .phase⟩, ⟨4, .phase⟩, ⟨5, .phase⟩, ⟨6, .phase⟩, ⟨7, .textOnly .lateStores⟩, ⟨8, .phase⟩], none⟩) rfl (fun K hK => ?_) AllReadyH.nil
      obtain ⟨r0, r1, r2, r3, r4⟩ := LB2.out.c5
      obtain ⟨f0, f1, f2, f3, f4⟩ := LB2.out.f5
      have BB3 := hid (below_five12 BB2.out HX9.out (.int .i64 M3.prim) (.int .i64 M3.args) (.int .i64 M3.temps) (.slice CA M3.code.length cc) (.slice LA M3.lits.length lc))
      have LF : Hid (Lies (((((u2.setCell ⟨bx, 0, none⟩ (.int .i64 M3.prim)).setCell ⟨bx, 1, none⟩ (.int .i64 M3.args)).setCell ⟨bx, 2, none⟩ (.int .i64 M3.temps)).setCell ⟨bx, 3, none⟩ (.slice CA M3.code.length cc)).setCell ⟨bx, 4, none⟩ (.slice LA M3.lits.length lc)) bx 32 #[.int .i64 M3.prim, .int .i64 M3.args, .int .i64 M3.temps, .slice CA M3.code.length cc, .slice LA M3.lits.length lc]) := by
        show Lies _ _ _ _
        exact (((((LB2.out.set_ 0 (.int .i64 M3.prim)).set_ 1 (.int .i64 M3.args)).set_ 2 (.int .i64 M3.temps)).set_ 3 (.slice CA M3.code.length cc)).set_ 4 (.slice LA M3.lits.length lc))
      have IF : Hid (InsR (((((u2.setCell ⟨bx, 0, none⟩ (.int .i64 M3.prim)).setCell ⟨bx, 1, none⟩ (.int .i64 M3.args)).setCell ⟨bx, 2, none⟩ (.int .i64 M3.temps)).setCell ⟨bx, 3, none⟩ (.slice CA M3.code.length cc)).setCell ⟨bx, 4, none⟩ (.slice LA M3.lits.length lc)) CA M3.code) := fun hn => ins_five12 IC2.out (HNE.out hn) (.int .i64 M3.prim) (.int .i64 M3.args) (.int .i64 M3.temps) (.slice CA M3.code.length cc) (.slice LA M3.lits.length lc) hn
      go_simp
      refine hK.out _ _ ?_ (fun hH3 => ?_)
      · exact ⟨cell_later BB3.out x0, cell_later BB3.out x1, cell_later BB3.out x2, cell_later BB3.out q3⟩
      clear hK K
      try simp only [apt12]
      clear r0 r1 r2 r3 r4 f0 f1 f2 f3 f4
      refine tkI 10 ⟨some 9, .assign (.tmp 26), 33, "ref.go:181", #[⟨7, .data⟩, ⟨9, .chain⟩, ⟨0, .phase⟩, ⟨1, .phase⟩, ⟨2, .phase⟩, ⟨3, .phase⟩, ⟨4, .phase⟩, ⟨5, .phase⟩, ⟨6, .phase⟩, ⟨7, .phase⟩, ⟨8, .phase⟩, ⟨9, .phase⟩], none⟩ ?v402 rfl (by kernel_rfl) (by rfl) ?y402 ?_
      case y402 => intro w hSw; (try dsimp only at hSw); go_simp; all_goals with_reducible rfl
      try simp only [apt12]
      refine wpAnyH_done (by kernel_rfl) ?_ _
      go_wp2_with fail
      go_meet
      exact ⟨bx, CA, cc, LA, lc, rfl, rfl, LF, BB3, IF⟩
  case rest =>
    rename World => w3
    obtain ⟨bx, CA, cc, LA, lc, rfl, rfl, LF, BF, IF⟩ := hcut
    have HB3 := hid (then_w HB2.out BF.out)
    have HK3 := hid (HK2.out.later BF.out)
    have m3 := LF.out.cell 3
    simp only [List.getElem?_toArray, List.getElem?_cons_zero, List.getElem?_cons_succ] at m3
    have hpl := HPL.out
    obtain ⟨bi, oi, rfl, hbi, hci⟩ := IF.out (by omega)
    obtain ⟨i0, i1⟩ := hci p I (by rw [HI.out, List.getD_eq_getElem?_getD, List.getElem?_eq_getElem hpl]; rfl)
    have q1 := cell_later BF.out Q1.out
    clear x0 x1 x2 q3 hci
    go_wp2_with fail
    refine (rsmall_any12 v1 64 _).mono ?_
    rintro e w4 ⟨rfl, hu⟩
    subst hu
    rw [HP.out]
    have hpi : (p : Int) < (M3.code.length : Int) := by omega
    have hp0 : (0 : Int) ≤ (p : Int) := by omega
    clear q1
    have BD := (Below.refl w3.heap.size w3).drew
    have d3 := cell_later BD m3
    have di0 := cell_later BD i0
    have di1 := cell_later BD i1
    have HKD := hid (HK3.out.later BD)
    have HBD := hid (then_w HB3.out BD)
    obtain ⟨u0, u1⟩ := HK3.out.c2
    obtain ⟨uf0, uf1⟩ := HK3.out.f2
    go_upto_region 6 with fail
    refine wp_region_held_drew (S := (fun _ => True)) (by kernel_rfl) ?_ (fun hH0 => ?_)
    · exact trivial
    refine tkI 0 ⟨some 31, .move (.tmp 10), 3, "ref.go:183", #[], none⟩ ?v403 rfl (by kernel_rfl) (by rfl) ?y403 ?_
    case y403 => intro w hSw; (try dsimp only at hSw); go_simp; all_goals with_reducible rfl
    try simp only [apt12]
    refine tkI 1 ⟨some 32, .fieldAddr 32 (.tmp 8) 3, 0, "ref.go:183", #[⟨6, .gcOnly .lateStores⟩], none⟩ ?v404 rfl (by kernel_rfl) (by rfl) ?y404 ?_
    case y404 => intro w hSw; (try dsimp only at hSw); go_simp; all_goals with_reducible rfl
    try simp only [apt12]
    refine tkI 3 ⟨some 34, .move (.tmp 10), 3, "ref.go:183", #[⟨6, .gcOnly .lateStores⟩], none⟩ ?v405 rfl (by kernel_rfl) (by rfl) ?y405 ?_
    case y405 => intro w hSw; (try dsimp only at hSw); go_simp; all_goals with_reducible rfl
    try simp only [apt12]
    refine tkI 6 ⟨some 4, .assign (.tmp 31), 3, "ref.go:183", #[⟨0, .data⟩, ⟨0, .phase⟩, ⟨1, .textOnly .lateStores⟩, ⟨2, .textOnly .lateStores⟩, ⟨3, .textOnly .lateStores⟩, ⟨4, .textOnly .lateStores⟩, ⟨5, .textOnly .lateStores⟩], none⟩ ?v406 rfl (by kernel_rfl) (by rfl) ?y406 ?_
    case y406 => intro w hSw; (try dsimp only at hSw); go_simp; all_goals with_reducible rfl
    try simp only [apt12]
    refine wpAnyH_ready (rs := [2]) (by kernel_rfl) (by simp) ?_
    refine AllReadyH.cons (i := 2) (o := ⟨some 33, .load 29 (.tmp 32), 29, "ref.go:183", #[⟨1, .data⟩, ⟨6, .gcOnly .lateStores⟩], none⟩) rfl (fun K hK => ?_) AllReadyH.nil
    go_simp
    refine hK.out _ _ ?_ (fun hH1 => ?_)
    · exact trivial
    clear hK K
    try simp only [apt12]
    refine tkI 4 ⟨some 35, .indexAddr 29 (.tmp 33) (.tmp 34), 0, "ref.go:183", #[⟨2, .data⟩, ⟨3, .data⟩, ⟨6, .gcOnly .lateStores⟩], none⟩ ?v407 rfl (by kernel_rfl) (by rfl) ?y407 ?_
    case y407 => intro w hSw; (try dsimp only at hSw); go_simp; all_goals with_reducible rfl
    try simp only [apt12]
    refine wpAnyH_ready (rs := [5]) (by kernel_rfl) (by simp) ?_
    refine AllReadyH.cons (i := 5) (o := ⟨some 36, .load 37 (.tmp 35), 37, "ref.go:183", #[⟨4, .data⟩, ⟨6, .gcOnly .lateStores⟩], none⟩) rfl (fun K hK => ?_) AllReadyH.nil
    go_simp
    refine hK.out _ _ ?_ (fun hH2 => ?_)
    · exact trivial
    clear hK K
    try simp only [apt12]
    refine wpAnyH_ready (rs := [7]) (by kernel_rfl) (by simp) ?_
    refine AllReadyH.cons (i := 7) (o := ⟨none, .store 37 (.tmp 5) (.tmp 36), 0, "ref.go:183", #[⟨5, .data⟩, ⟨6, .chain⟩, ⟨0, .phase⟩, ⟨1, .phase⟩, ⟨2, .phase⟩, ⟨3, .phase⟩, ⟨4, .phase⟩, ⟨5, .phase⟩, ⟨6, .phase⟩], none⟩) rfl (fun K hK => ?_) AllReadyH.nil
    go_simp
    refine hK.out _ _ ?_ (fun hH3 => ?_)
    · exact trivial
    clear hK K
    try simp only [apt12]
    refine tkI 8 ⟨some 6, .assign (.const (Go.Value.int .i64 0)), 33, "ref.go:183", #[⟨7, .chain⟩, ⟨0, .phase⟩, ⟨1, .phase⟩, ⟨2, .phase⟩, ⟨3, .phase⟩, ⟨4, .phase⟩, ⟨5, .phase⟩, ⟨6, .phase⟩, ⟨7, .phase⟩], none⟩ ?v408 rfl (by kernel_rfl) (by rfl) ?y408 ?_
    case y408 => intro w hSw; (try dsimp only at hSw); go_simp; all_goals with_reducible rfl
    try simp only [apt12]
    refine wpAnyH_done (by kernel_rfl) ?_ _
    go_wp2_with fail
    have K0 := ((HK3.out.set_ 0 (.int .i64 I.op)).set_ 1 (.int .i64 I.a))
    have r0 := K0.cell 0
    have r1 := K0.cell 1
    simp only [List.setIfInBounds_toArray, List.set_cons_zero, List.set_cons_succ, List.getElem?_toArray, List.getElem?_cons_zero, List.getElem?_cons_succ] at r0 r1
    refine bodyPost_ret (v := .tuple #[.int .i64 (p : Int), .agg #[.int .i64 I.op, .int .i64 I.a], .int .i64 0]) (by simp [results, Tryz.results14, go_sem, r0, r1]) rfl ?_
    have HBE := ((HB3.out).setCell (p := ⟨w.heap.size + 1, 0, none⟩) (by simp) (.int .i64 I.op)).setCell (p := ⟨w.heap.size + 1, 1, none⟩) (by simp) (.int .i64 I.a)
    exact ⟨by rw [HRR.out], HBE.drew⟩
end Go.Proofs.YtgocodnehppniaaGreat
