/- FrameStacks. -/
import Derived.Test.YtalfbdigjaibkaaGreatUB12
import Derived.Test.YtalfbdigjaibkaaGreatUY12
import Derived.Test.YtalfbdigjaibkaaGreatSD12
namespace Go.Proofs.YtalfbdigjaibkaaGreat
open Go.RowKit
set_option maxRecDepth 100000
set_option maxHeartbeats 4000000 in
theorem framestacks_any12 (h : Hp) (cx : Int) (l : List Int) (SA : Option Addr) (da : Nat) (A : Option Addr) (c : Nat) (w : World) (hs : ObsR w A h.objs) (fit : h.Fit) (hsa : IntsR w SA l) :
    Calls Tryz.prog 6 #[.agg #[.slice A h.objs.length c, .int .i64 h.cap, .int .i64 h.last], .int .i64 cx, .slice SA l.length da] w fun e w' => e = .returned (.bool true) ∧ Below w.heap.size w w' := by
  obtain ⟨w0, hw0⟩ : ∃ w0, w0 = w.alloc (.cells #[Value.slice A h.objs.length c, Value.int .i64 h.cap, Value.int .i64 h.last] 24) := ⟨_, rfl⟩
  have HB0 : Hid (Below w.heap.size w w0) := by show Below _ _ _; rw [hw0]; exact below_alloc _ _
  have HX0 : Hid (Lies w0 w.heap.size 24 #[Value.slice A h.objs.length c, Value.int .i64 h.cap, Value.int .i64 h.last]) := by show Lies _ _ _ _; rw [hw0]; exact (Lies.new w _ _)
  have HS := hid hs
  have HF := hid fit
  have HSA := hid hsa
  clear hs fit hsa
  go_enter Tryz.func6, Tryz.ntmps6
  go_upto_region 1 with fail
  rw [← hw0]
  clear hw0
  go_wp2_with fail
  refine (fixed12_any _).mono ?_
  rintro e w1 ⟨rfl, hb⟩
  have HB1 := hid (then_w HB0.out hb)
  have HX1 := hid (HX0.out.later hb)
  clear hb
  clear HB0 HX0
  obtain ⟨x0, x1, x2⟩ := HX1.out.c3
  go_wp2_with fail
  refine (small_ok h A c _ (HS.out.below HB1.out) HF.out).mono ?_
  rintro e w2 ⟨sb, rfl, hb⟩
  clear x0 x1 x2
  have HB2 := hid (then_w HB1.out hb)
  have HX2 := hid (HX1.out.later hb)
  clear hb
  clear HB1 HX1
  cases sb
  · obtain ⟨x0, x1, x2⟩ := HX2.out.c3
    go_wp2_with fail
    refine (fixed12_any _).mono ?_
    rintro e w3 ⟨rfl, hb⟩
    clear x0 x1 x2
    have HB3 := hid (then_w HB2.out hb)
    have HX3 := hid (HX2.out.later hb)
    clear hb
    clear HB2 HX2
    go_wp2_with fail
    go_ret
    exact ⟨rfl, HB3.out⟩
  by_cases h60 : h.objs.length ≤ 60
  case neg =>
    have hI60 : (60 : Int) < (h.objs.length : Int) := by omega
    obtain ⟨x0, x1, x2⟩ := HX2.out.c3
    go_wp2_with fail
    refine (fixed12_any _).mono ?_
    rintro e w3 ⟨rfl, hb⟩
    clear x0 x1 x2
    have HB3 := hid (then_w HB2.out hb)
    have HX3 := hid (HX2.out.later hb)
    clear hb
    clear HB2 HX2
    go_wp2_with fail
    go_ret
    exact ⟨rfl, HB3.out⟩
  have hI60 : ¬ (60 : Int) < (h.objs.length : Int) := by omega
  by_cases h20 : l.length ≤ 20
  case neg =>
    have hI20 : (20 : Int) < (l.length : Int) := by omega
    obtain ⟨x0, x1, x2⟩ := HX2.out.c3
    go_wp2_with fail
    refine (fixed12_any _).mono ?_
    rintro e w3 ⟨rfl, hb⟩
    clear x0 x1 x2
    have HB3 := hid (then_w HB2.out hb)
    have HX3 := hid (HX2.out.later hb)
    clear hb
    clear HB2 HX2
    go_wp2_with fail
    go_ret
    exact ⟨rfl, HB3.out⟩
  have hI20 : ¬ (20 : Int) < (l.length : Int) := by omega
  obtain ⟨x0, x1, x2⟩ := HX2.out.c3
  go_wp2_with fail
  refine (rmay_any12 h cx A c _ (HS.out.below HB2.out) HF.out).mono ?_
  rintro e w3 ⟨rfl, hb⟩
  clear x0 x1 x2
  have HB3 := hid (then_w HB2.out hb)
  have HX3 := hid (HX2.out.later hb)
  clear hb
  clear HB2 HX2
  cases hm : may12 h cx
  · clear hm
    obtain ⟨x0, x1, x2⟩ := HX3.out.c3
    go_wp2_with fail
    refine (fixed12_any _).mono ?_
    rintro e w4 ⟨rfl, hb⟩
    clear x0 x1 x2
    have HB4 := hid (then_w HB3.out hb)
    have HX4 := hid (HX3.out.later hb)
    clear hb
    clear HB3 HX3
    go_wp2_with fail
    go_ret
    exact ⟨rfl, HB4.out⟩
  have HM := hid hm
  clear hm
  have HL20 : Hid (l.length ≤ 20) := h20
  have H22 := hid (ctx_len12 HM.out)
  obtain ⟨v3, hv3⟩ : ∃ v, v = sl12 h cx 3 := ⟨_, rfl⟩
  obtain ⟨M3, hM3⟩ : ∃ M, M = (mt12 h v3).1 := ⟨_, rfl⟩
  obtain ⟨e3, he3⟩ : ∃ e, e = (mt12 h v3).2 := ⟨_, rfl⟩
  have V3 := hid hv3
  have HM3 := hid hM3
  have HE3 := hid he3
  have HCM : Hid (cm12 h cx = M3) := by show _ = _; unfold cm12; rw [← V3.out, hM3]
  clear hv3 hM3 he3
  obtain ⟨x0, x1, x2⟩ := HX3.out.c3
  go_upto_region 3 with fail
  clear hI60 hI20 h60 h20
  go_cut [7, 8] from 48 to 57 (fun p z wx => ∃ bx CA cc LA lc, p = .pointer (some ⟨bx, 0, none⟩) ∧ z = .int .i64 e3 ∧ Hid (Lies wx bx 32 #[.int .i64 M3.prim, .int .i64 M3.args, .int .i64 M3.temps, .slice CA M3.code.length cc, .slice LA M3.lits.length lc]) ∧ Hid (Below w3.heap.size w3 wx))
  case first =>
    have BB0 := hid ((Below.refl w3.heap.size w3).drew)
    have z0 := cell_later BB0.out x0
    have z1 := cell_later BB0.out x1
    have z2 := cell_later BB0.out x2
    refine wp_region_held_drew (S := (fun w' => w'.cell? ⟨w.heap.size, 0, none⟩ = some (.slice A h.objs.length c) ∧ w'.cell? ⟨w.heap.size, 1, none⟩ = some (.int .i64 h.cap) ∧ w'.cell? ⟨w.heap.size, 2, none⟩ = some (.int .i64 h.last))) (by kernel_rfl) ?_ (fun hH0 => ?_)
    · exact ⟨cell_later BB0.out x0, cell_later BB0.out x1, cell_later BB0.out x2⟩
    refine tkI 0 ⟨some 48, .load 24 (.tmp 3), 24, "law.go:97", #[], none⟩ ?v1 rfl (by kernel_rfl) (by rfl) ?y1 ?_
    case y1 => intro w hSw; (try dsimp only at hSw); go_simp; all_goals with_reducible rfl
    try simp only [apt12]
    refine tkI 1 ⟨some 49, .load 24 (.tmp 3), 24, "law.go:97", #[], none⟩ ?v2 rfl (by kernel_rfl) (by rfl) ?y2 ?_
    case y2 => intro w hSw; (try dsimp only at hSw); go_simp; all_goals with_reducible rfl
    try simp only [apt12]
    refine tkI 2 ⟨some 50, .move (.tmp 1), 3, "law.go:97", #[], none⟩ ?v3 rfl (by kernel_rfl) (by rfl) ?y3 ?_
    case y3 => intro w hSw; (try dsimp only at hSw); go_simp; all_goals with_reducible rfl
    try simp only [apt12]
    refine wpAnyH_ready (rs := [3, 10]) (by kernel_rfl) (by simp) ?_
    refine AllReadyH.cons (i := 3) (o := ⟨some 51, .call { callee := .value (.func 31), args := #[.tmp 49, .tmp 50], argTypes := #[24, 3] }, 30, "law.go:97", #[⟨1, .data⟩, ⟨2, .data⟩], none⟩) rfl (fun K hK => ?_) (AllReadyH.cons (i := 10) (o := ⟨some 7, .alloc 32, 0, "law.go:97", #[], none⟩) rfl (fun K hK => ?_) AllReadyH.nil)
    · go_simp
      go_at_call 31
      refine (rslots_any12 h cx A c _ (HS.out.below (then_w HB3.out BB0.out))).mono ?_
      rintro e u1 ⟨S, d, rfl, hin, -, hb⟩
      have hll := H22.out
      obtain ⟨bl, ol, rfl, hbl, hcl⟩ := hin (by omega)
      have q3 := hcl 3 (sl12 h cx 3) (by
        unfold sl12
        rw [List.getElem?_eq_getElem (by omega), List.getD_eq_getElem?_getD, List.getElem?_eq_getElem (by omega)]; rfl)
      rw [← V3.out] at q3
      rw [hll]
      have BB1 := hid (then_w BB0.out hb)
      have QC1 := hid q3
      refine hK.out _ _ ?_ (fun hH1 => ?_)
      · exact ⟨cell_later BB1.out x0, cell_later BB1.out x1, cell_later BB1.out x2⟩
      clear hK K
      try simp only [apt12]
      clear hb hin hbl hcl q3 hll
      refine tkI 4 ⟨some 52, .indexAddr 30 (.tmp 51) (.const (Go.Value.int .i64 3)), 0, "law.go:97", #[⟨3, .data⟩], none⟩ ?v4 rfl (by kernel_rfl) (by rfl) ?y4 ?_
      case y4 => intro w hSw; (try dsimp only at hSw); go_simp; all_goals with_reducible rfl
      try simp only [apt12]
      refine wpAnyH_ready (rs := [5, 10]) (by kernel_rfl) (by simp) ?_
      refine AllReadyH.cons (i := 5) (o := ⟨some 53, .load 3 (.tmp 52), 3, "law.go:97", #[⟨4, .data⟩], none⟩) rfl (fun K hK => ?_) (AllReadyH.cons (i := 10) (o := ⟨some 7, .alloc 32, 0, "law.go:97", #[], none⟩) rfl (fun K hK => ?_) AllReadyH.nil)
      · have q3 := QC1.out
        go_simp
        refine hK.out _ _ ?_ (fun hH2 => ?_)
        · exact hH1
        clear hK K
        try simp only [apt12]
        clear q3
        refine wpAnyH_ready (rs := [6, 10]) (by kernel_rfl) (by simp) ?_
        refine AllReadyH.cons (i := 6) (o := ⟨some 54, .call { callee := .value (.func 12), args := #[.tmp 48, .tmp 53], argTypes := #[24, 3] }, 34, "law.go:97", #[⟨0, .data⟩, ⟨5, .data⟩, ⟨3, .chain⟩], none⟩) rfl (fun K hK => ?_) (AllReadyH.cons (i := 10) (o := ⟨some 7, .alloc 32, 0, "law.go:97", #[], none⟩) rfl (fun K hK => ?_) AllReadyH.nil)
        · go_simp
          go_at_call 12
          refine (rmethod_any12 h v3 _ c _ (HS.out.below (then_w HB3.out BB1.out)) HF.out).mono ?_
          rintro e u3 ⟨CA, cc, LA, lc, rfl, hins, -, hb, hfr⟩
          rw [← HM3.out] at hins
          rw [← HM3.out, ← HE3.out]
          have BB3 := hid (then_w BB1.out hb)
          have IC3 := hid hins
          refine hK.out _ _ ?_ (fun hH3 => ?_)
          · exact ⟨cell_later BB3.out x0, cell_later BB3.out x1, cell_later BB3.out x2⟩
          clear hK K
          try simp only [apt12]
          clear hb hins hfr
          refine tkI 7 ⟨some 47, .move (.tmp 54), 34, "law.go:97", #[⟨6, .data⟩], none⟩ ?v5 rfl (by kernel_rfl) (by rfl) ?y5 ?_
          case y5 => intro w hSw; (try dsimp only at hSw); go_simp; all_goals with_reducible rfl
          try simp only [apt12]
          refine tkI 8 ⟨some 55, .extract (.tmp 47) 0, 32, "law.go:97", #[⟨7, .data⟩], none⟩ ?v6 rfl (by kernel_rfl) (by rfl) ?y6 ?_
          case y6 => intro w hSw; (try dsimp only at hSw); go_simp; all_goals with_reducible rfl
          try simp only [apt12]
          refine tkI 9 ⟨some 56, .extract (.tmp 47) 1, 33, "law.go:97", #[⟨7, .data⟩, ⟨11, .gcOnly .lateStores⟩], none⟩ ?v7 rfl (by kernel_rfl) (by rfl) ?y7 ?_
          case y7 => intro w hSw; (try dsimp only at hSw); go_simp; all_goals with_reducible rfl
          try simp only [apt12]
          refine wpAnyH_ready (rs := [10]) (by kernel_rfl) (by simp) ?_
          refine AllReadyH.cons (i := 10) (o := ⟨some 7, .alloc 32, 0, "law.go:97", #[], none⟩) rfl (fun K hK => ?_) AllReadyH.nil
          go_simp
          obtain ⟨u4, hu⟩ : ∃ x, x = u3.alloc (.cells #[.int .i64 0, .int .i64 0, .int .i64 0, .slice none 0 0, .slice none 0 0] 32) := ⟨_, rfl⟩
          obtain ⟨bx, hg⟩ : ∃ x, x = u3.heap.size := ⟨_, rfl⟩
          have hb : Below u3.heap.size u3 u4 := by rw [hu]; exact below_alloc u3 _
          have HX9 : Hid (w3.heap.size ≤ bx) := by show _ ≤ _; rw [hg]; exact BB3.out.size
          have LB4 := hid (show Lies u4 bx 32 #[.int .i64 0, .int .i64 0, .int .i64 0, .slice none 0 0, .slice none 0 0] by rw [hu, hg]; exact Lies.new u3 _ _)
          have BB4 := hid (then_w BB3.out hb)
          have IC4 := hid (IC3.out.below hb)
          try simp only [← hg]
          try rw [← hu]
          refine hK.out _ _ ?_ (fun hH4 => ?_)
          · exact ⟨cell_later BB4.out x0, cell_later BB4.out x1, cell_later BB4.out x2⟩
          clear hK K
          try simp only [apt12]
          clear hb hu hg
          refine wpAnyH_ready (rs := [11]) (by kernel_rfl) (by simp) ?_
          refine AllReadyH.cons (i := 11) (o := ⟨none, .store 32 (.tmp 7) (.tmp 55), 0, "law.go:97", #[⟨10, .data⟩, ⟨8, .data⟩, ⟨6, .chain⟩, ⟨0, .phase⟩, ⟨1, .phase⟩, ⟨2, .phase⟩, ⟨3, .phase⟩, ⟨4, .phase⟩, ⟨5, .phase⟩, ⟨6, .phase⟩, ⟨7, .phase⟩, ⟨8, .phase⟩, ⟨9, .textOnly .lateStores⟩, ⟨10, .phase⟩], none⟩) rfl (fun K hK => ?_) AllReadyH.nil
          obtain ⟨r0, r1, r2, r3, r4⟩ := LB4.out.c5
          obtain ⟨f0, f1, f2, f3, f4⟩ := LB4.out.f5
          have BB5 := hid (below_five12 BB4.out HX9.out (.int .i64 M3.prim) (.int .i64 M3.args) (.int .i64 M3.temps) (.slice CA M3.code.length cc) (.slice LA M3.lits.length lc))
          have LF : Hid (Lies (((((u4.setCell ⟨bx, 0, none⟩ (.int .i64 M3.prim)).setCell ⟨bx, 1, none⟩ (.int .i64 M3.args)).setCell ⟨bx, 2, none⟩ (.int .i64 M3.temps)).setCell ⟨bx, 3, none⟩ (.slice CA M3.code.length cc)).setCell ⟨bx, 4, none⟩ (.slice LA M3.lits.length lc)) bx 32 #[.int .i64 M3.prim, .int .i64 M3.args, .int .i64 M3.temps, .slice CA M3.code.length cc, .slice LA M3.lits.length lc]) := by
            show Lies _ _ _ _
            exact (((((LB4.out.set_ 0 (.int .i64 M3.prim)).set_ 1 (.int .i64 M3.args)).set_ 2 (.int .i64 M3.temps)).set_ 3 (.slice CA M3.code.length cc)).set_ 4 (.slice LA M3.lits.length lc))
          go_simp
          refine hK.out _ _ ?_ (fun hH5 => ?_)
          · exact ⟨cell_later BB5.out x0, cell_later BB5.out x1, cell_later BB5.out x2⟩
          clear hK K
          try simp only [apt12]
          clear r0 r1 r2 r3 r4 f0 f1 f2 f3 f4
          refine tkI 12 ⟨some 8, .assign (.tmp 56), 33, "law.go:97", #[⟨9, .data⟩, ⟨11, .chain⟩, ⟨0, .phase⟩, ⟨1, .phase⟩, ⟨2, .phase⟩, ⟨3, .phase⟩, ⟨4, .phase⟩, ⟨5, .phase⟩, ⟨6, .phase⟩, ⟨7, .phase⟩, ⟨8, .phase⟩, ⟨9, .phase⟩, ⟨10, .phase⟩, ⟨11, .phase⟩], none⟩ ?v8 rfl (by kernel_rfl) (by rfl) ?y8 ?_
          case y8 => intro w hSw; (try dsimp only at hSw); go_simp; all_goals with_reducible rfl
          try simp only [apt12]
          refine wpAnyH_done (by kernel_rfl) ?_ _
          go_wp2_with fail
          go_meet
          exact ⟨bx, CA, cc, LA, lc, rfl, rfl, LF, BB5⟩
        · go_simp
          obtain ⟨u3, hu⟩ : ∃ x, x = u1.alloc (.cells #[.int .i64 0, .int .i64 0, .int .i64 0, .slice none 0 0, .slice none 0 0] 32) := ⟨_, rfl⟩
          obtain ⟨bx, hg⟩ : ∃ x, x = u1.heap.size := ⟨_, rfl⟩
          have hb : Below u1.heap.size u1 u3 := by rw [hu]; exact below_alloc u1 _
          have HX9 : Hid (w3.heap.size ≤ bx) := by show _ ≤ _; rw [hg]; exact BB1.out.size
          have LB3 := hid (show Lies u3 bx 32 #[.int .i64 0, .int .i64 0, .int .i64 0, .slice none 0 0, .slice none 0 0] by rw [hu, hg]; exact Lies.new u1 _ _)
          have BB3 := hid (then_w BB1.out hb)
          have QC3 := hid (cell_later hb QC1.out)
          try simp only [← hg]
          try rw [← hu]
          refine hK.out _ _ ?_ (fun hH3 => ?_)
          · exact ⟨cell_later BB3.out x0, cell_later BB3.out x1, cell_later BB3.out x2⟩
          clear hK K
          try simp only [apt12]
          clear hb hu hg
          refine wpAnyH_ready (rs := [6]) (by kernel_rfl) (by simp) ?_
          refine AllReadyH.cons (i := 6) (o := ⟨some 54, .call { callee := .value (.func 12), args := #[.tmp 48, .tmp 53], argTypes := #[24, 3] }, 34, "law.go:97", #[⟨0, .data⟩, ⟨5, .data⟩, ⟨3, .chain⟩], none⟩) rfl (fun K hK => ?_) AllReadyH.nil
          go_simp
          go_at_call 12
          refine (rmethod_any12 h v3 _ c _ (HS.out.below (then_w HB3.out BB3.out)) HF.out).mono ?_
          rintro e u4 ⟨CA, cc, LA, lc, rfl, hins, -, hb, hfr⟩
          rw [← HM3.out] at hins
          rw [← HM3.out, ← HE3.out]
          have BB4 := hid (then_w BB3.out hb)
          have IC4 := hid hins
          have LB4 := hid (LB3.out.later hb)
          refine hK.out _ _ ?_ (fun hH4 => ?_)
          · exact ⟨cell_later BB4.out x0, cell_later BB4.out x1, cell_later BB4.out x2⟩
          clear hK K
          try simp only [apt12]
          clear hb hins hfr
          refine tkI 7 ⟨some 47, .move (.tmp 54), 34, "law.go:97", #[⟨6, .data⟩], none⟩ ?v9 rfl (by kernel_rfl) (by rfl) ?y9 ?_
          case y9 => intro w hSw; (try dsimp only at hSw); go_simp; all_goals with_reducible rfl
          try simp only [apt12]
          refine tkI 8 ⟨some 55, .extract (.tmp 47) 0, 32, "law.go:97", #[⟨7, .data⟩], none⟩ ?v10 rfl (by kernel_rfl) (by rfl) ?y10 ?_
          case y10 => intro w hSw; (try dsimp only at hSw); go_simp; all_goals with_reducible rfl
          try simp only [apt12]
          refine tkI 9 ⟨some 56, .extract (.tmp 47) 1, 33, "law.go:97", #[⟨7, .data⟩, ⟨11, .gcOnly .lateStores⟩], none⟩ ?v11 rfl (by kernel_rfl) (by rfl) ?y11 ?_
          case y11 => intro w hSw; (try dsimp only at hSw); go_simp; all_goals with_reducible rfl
          try simp only [apt12]
          refine wpAnyH_ready (rs := [11]) (by kernel_rfl) (by simp) ?_
          refine AllReadyH.cons (i := 11) (o := ⟨none, .store 32 (.tmp 7) (.tmp 55), 0, "law.go:97", #[⟨10, .data⟩, ⟨8, .data⟩, ⟨6, .chain⟩, ⟨0, .phase⟩, ⟨1, .phase⟩, ⟨2, .phase⟩, ⟨3, .phase⟩, ⟨4, .phase⟩, ⟨5, .phase⟩, ⟨6, .phase⟩, ⟨7, .phase⟩, ⟨8, .phase⟩, ⟨9, .textOnly .lateStores⟩, ⟨10, .phase⟩], none⟩) rfl (fun K hK => ?_) AllReadyH.nil
          obtain ⟨r0, r1, r2, r3, r4⟩ := LB4.out.c5
          obtain ⟨f0, f1, f2, f3, f4⟩ := LB4.out.f5
          have BB5 := hid (below_five12 BB4.out HX9.out (.int .i64 M3.prim) (.int .i64 M3.args) (.int .i64 M3.temps) (.slice CA M3.code.length cc) (.slice LA M3.lits.length lc))
          have LF : Hid (Lies (((((u4.setCell ⟨bx, 0, none⟩ (.int .i64 M3.prim)).setCell ⟨bx, 1, none⟩ (.int .i64 M3.args)).setCell ⟨bx, 2, none⟩ (.int .i64 M3.temps)).setCell ⟨bx, 3, none⟩ (.slice CA M3.code.length cc)).setCell ⟨bx, 4, none⟩ (.slice LA M3.lits.length lc)) bx 32 #[.int .i64 M3.prim, .int .i64 M3.args, .int .i64 M3.temps, .slice CA M3.code.length cc, .slice LA M3.lits.length lc]) := by
            show Lies _ _ _ _
            exact (((((LB4.out.set_ 0 (.int .i64 M3.prim)).set_ 1 (.int .i64 M3.args)).set_ 2 (.int .i64 M3.temps)).set_ 3 (.slice CA M3.code.length cc)).set_ 4 (.slice LA M3.lits.length lc))
          go_simp
          refine hK.out _ _ ?_ (fun hH5 => ?_)
          · exact ⟨cell_later BB5.out x0, cell_later BB5.out x1, cell_later BB5.out x2⟩
          clear hK K
          try simp only [apt12]
          clear r0 r1 r2 r3 r4 f0 f1 f2 f3 f4
          refine tkI 12 ⟨some 8, .assign (.tmp 56), 33, "law.go:97", #[⟨9, .data⟩, ⟨11, .chain⟩, ⟨0, .phase⟩, ⟨1, .phase⟩, ⟨2, .phase⟩, ⟨3, .phase⟩, ⟨4, .phase⟩, ⟨5, .phase⟩, ⟨6, .phase⟩, ⟨7, .phase⟩, ⟨8, .phase⟩, ⟨9, .phase⟩, ⟨10, .phase⟩, ⟨11, .phase⟩], none⟩ ?v12 rfl (by kernel_rfl) (by rfl) ?y12 ?_
          case y12 => intro w hSw; (try dsimp only at hSw); go_simp; all_goals with_reducible rfl
          try simp only [apt12]
          refine wpAnyH_done (by kernel_rfl) ?_ _
          go_wp2_with fail
          go_meet
          exact ⟨bx, CA, cc, LA, lc, rfl, rfl, LF, BB5⟩
      · go_simp
        obtain ⟨u2, hu⟩ : ∃ x, x = u1.alloc (.cells #[.int .i64 0, .int .i64 0, .int .i64 0, .slice none 0 0, .slice none 0 0] 32) := ⟨_, rfl⟩
        obtain ⟨bx, hg⟩ : ∃ x, x = u1.heap.size := ⟨_, rfl⟩
        have hb : Below u1.heap.size u1 u2 := by rw [hu]; exact below_alloc u1 _
        have HX9 : Hid (w3.heap.size ≤ bx) := by show _ ≤ _; rw [hg]; exact BB1.out.size
        have LB2 := hid (show Lies u2 bx 32 #[.int .i64 0, .int .i64 0, .int .i64 0, .slice none 0 0, .slice none 0 0] by rw [hu, hg]; exact Lies.new u1 _ _)
        have BB2 := hid (then_w BB1.out hb)
        have QC2 := hid (cell_later hb QC1.out)
        try simp only [← hg]
        try rw [← hu]
        refine hK.out _ _ ?_ (fun hH2 => ?_)
        · exact ⟨cell_later BB2.out x0, cell_later BB2.out x1, cell_later BB2.out x2⟩
        clear hK K
        try simp only [apt12]
        clear hb hu hg
        refine wpAnyH_ready (rs := [5]) (by kernel_rfl) (by simp) ?_
        refine AllReadyH.cons (i := 5) (o := ⟨some 53, .load 3 (.tmp 52), 3, "law.go:97", #[⟨4, .data⟩], none⟩) rfl (fun K hK => ?_) AllReadyH.nil
        have q3 := QC2.out
        go_simp
        refine hK.out _ _ ?_ (fun hH3 => ?_)
        · exact hH2
        clear hK K
        try simp only [apt12]
        clear q3
        refine wpAnyH_ready (rs := [6]) (by kernel_rfl) (by simp) ?_
        refine AllReadyH.cons (i := 6) (o := ⟨some 54, .call { callee := .value (.func 12), args := #[.tmp 48, .tmp 53], argTypes := #[24, 3] }, 34, "law.go:97", #[⟨0, .data⟩, ⟨5, .data⟩, ⟨3, .chain⟩], none⟩) rfl (fun K hK => ?_) AllReadyH.nil
        go_simp
        go_at_call 12
        refine (rmethod_any12 h v3 _ c _ (HS.out.below (then_w HB3.out BB2.out)) HF.out).mono ?_
        rintro e u4 ⟨CA, cc, LA, lc, rfl, hins, -, hb, hfr⟩
        rw [← HM3.out] at hins
        rw [← HM3.out, ← HE3.out]
        have BB4 := hid (then_w BB2.out hb)
        have IC4 := hid hins
        have LB4 := hid (LB2.out.later hb)
        refine hK.out _ _ ?_ (fun hH4 => ?_)
        · exact ⟨cell_later BB4.out x0, cell_later BB4.out x1, cell_later BB4.out x2⟩
        clear hK K
        try simp only [apt12]
        clear hb hins hfr
        refine tkI 7 ⟨some 47, .move (.tmp 54), 34, "law.go:97", #[⟨6, .data⟩], none⟩ ?v13 rfl (by kernel_rfl) (by rfl) ?y13 ?_
        case y13 => intro w hSw; (try dsimp only at hSw); go_simp; all_goals with_reducible rfl
        try simp only [apt12]
        refine tkI 8 ⟨some 55, .extract (.tmp 47) 0, 32, "law.go:97", #[⟨7, .data⟩], none⟩ ?v14 rfl (by kernel_rfl) (by rfl) ?y14 ?_
        case y14 => intro w hSw; (try dsimp only at hSw); go_simp; all_goals with_reducible rfl
        try simp only [apt12]
        refine tkI 9 ⟨some 56, .extract (.tmp 47) 1, 33, "law.go:97", #[⟨7, .data⟩, ⟨11, .gcOnly .lateStores⟩], none⟩ ?v15 rfl (by kernel_rfl) (by rfl) ?y15 ?_
        case y15 => intro w hSw; (try dsimp only at hSw); go_simp; all_goals with_reducible rfl
        try simp only [apt12]
        refine wpAnyH_ready (rs := [11]) (by kernel_rfl) (by simp) ?_
        refine AllReadyH.cons (i := 11) (o := ⟨none, .store 32 (.tmp 7) (.tmp 55), 0, "law.go:97", #[⟨10, .data⟩, ⟨8, .data⟩, ⟨6, .chain⟩, ⟨0, .phase⟩, ⟨1, .phase⟩, ⟨2, .phase⟩, ⟨3, .phase⟩, ⟨4, .phase⟩, ⟨5, .phase⟩, ⟨6, .phase⟩, ⟨7, .phase⟩, ⟨8, .phase⟩, ⟨9, .textOnly .lateStores⟩, ⟨10, .phase⟩], none⟩) rfl (fun K hK => ?_) AllReadyH.nil
        obtain ⟨r0, r1, r2, r3, r4⟩ := LB4.out.c5
        obtain ⟨f0, f1, f2, f3, f4⟩ := LB4.out.f5
        have BB5 := hid (below_five12 BB4.out HX9.out (.int .i64 M3.prim) (.int .i64 M3.args) (.int .i64 M3.temps) (.slice CA M3.code.length cc) (.slice LA M3.lits.length lc))
        have LF : Hid (Lies (((((u4.setCell ⟨bx, 0, none⟩ (.int .i64 M3.prim)).setCell ⟨bx, 1, none⟩ (.int .i64 M3.args)).setCell ⟨bx, 2, none⟩ (.int .i64 M3.temps)).setCell ⟨bx, 3, none⟩ (.slice CA M3.code.length cc)).setCell ⟨bx, 4, none⟩ (.slice LA M3.lits.length lc)) bx 32 #[.int .i64 M3.prim, .int .i64 M3.args, .int .i64 M3.temps, .slice CA M3.code.length cc, .slice LA M3.lits.length lc]) := by
          show Lies _ _ _ _
          exact (((((LB4.out.set_ 0 (.int .i64 M3.prim)).set_ 1 (.int .i64 M3.args)).set_ 2 (.int .i64 M3.temps)).set_ 3 (.slice CA M3.code.length cc)).set_ 4 (.slice LA M3.lits.length lc))
        go_simp
        refine hK.out _ _ ?_ (fun hH5 => ?_)
        · exact ⟨cell_later BB5.out x0, cell_later BB5.out x1, cell_later BB5.out x2⟩
        clear hK K
        try simp only [apt12]
        clear r0 r1 r2 r3 r4 f0 f1 f2 f3 f4
        refine tkI 12 ⟨some 8, .assign (.tmp 56), 33, "law.go:97", #[⟨9, .data⟩, ⟨11, .chain⟩, ⟨0, .phase⟩, ⟨1, .phase⟩, ⟨2, .phase⟩, ⟨3, .phase⟩, ⟨4, .phase⟩, ⟨5, .phase⟩, ⟨6, .phase⟩, ⟨7, .phase⟩, ⟨8, .phase⟩, ⟨9, .phase⟩, ⟨10, .phase⟩, ⟨11, .phase⟩], none⟩ ?v16 rfl (by kernel_rfl) (by rfl) ?y16 ?_
        case y16 => intro w hSw; (try dsimp only at hSw); go_simp; all_goals with_reducible rfl
        try simp only [apt12]
        refine wpAnyH_done (by kernel_rfl) ?_ _
        go_wp2_with fail
        go_meet
        exact ⟨bx, CA, cc, LA, lc, rfl, rfl, LF, BB5⟩
    · go_simp
      obtain ⟨u1, hu⟩ : ∃ x, x = (w3.alloc (.cells #[.int .i64 0, .int .i64 0, .int .i64 0, .slice none 0 0, .slice none 0 0] 32)).drew := ⟨_, rfl⟩
      obtain ⟨bx, hg⟩ : ∃ x, x = w3.heap.size := ⟨_, rfl⟩
      have hb : Below w3.drew.heap.size w3.drew u1 := by rw [hu]; exact below_alloc w3.drew _
      have HX9 : Hid (w3.heap.size ≤ bx) := by show _ ≤ _; rw [hg]; exact BB0.out.size
      have LB1 := hid (show Lies u1 bx 32 #[.int .i64 0, .int .i64 0, .int .i64 0, .slice none 0 0, .slice none 0 0] by rw [hu, hg]; exact Lies.new w3.drew _ _)
      have BB1 := hid (then_w BB0.out hb)
      try simp only [← hg]
      try rw [← hu]
      refine hK.out _ _ ?_ (fun hH1 => ?_)
      · exact ⟨cell_later BB1.out x0, cell_later BB1.out x1, cell_later BB1.out x2⟩
      clear hK K
      try simp only [apt12]
      clear hb hu hg
      refine wpAnyH_ready (rs := [3]) (by kernel_rfl) (by simp) ?_
      refine AllReadyH.cons (i := 3) (o := ⟨some 51, .call { callee := .value (.func 31), args := #[.tmp 49, .tmp 50], argTypes := #[24, 3] }, 30, "law.go:97", #[⟨1, .data⟩, ⟨2, .data⟩], none⟩) rfl (fun K hK => ?_) AllReadyH.nil
      go_simp
      go_at_call 31
      refine (rslots_any12 h cx A c _ (HS.out.below (then_w HB3.out BB1.out))).mono ?_
      rintro e u2 ⟨S, d, rfl, hin, -, hb⟩
      have hll := H22.out
      obtain ⟨bl, ol, rfl, hbl, hcl⟩ := hin (by omega)
      have q3 := hcl 3 (sl12 h cx 3) (by
        unfold sl12
        rw [List.getElem?_eq_getElem (by omega), List.getD_eq_getElem?_getD, List.getElem?_eq_getElem (by omega)]; rfl)
      rw [← V3.out] at q3
      rw [hll]
      have BB2 := hid (then_w BB1.out hb)
      have QC2 := hid q3
      have LB2 := hid (LB1.out.later hb)
      refine hK.out _ _ ?_ (fun hH2 => ?_)
      · exact ⟨cell_later BB2.out x0, cell_later BB2.out x1, cell_later BB2.out x2⟩
      clear hK K
      try simp only [apt12]
      clear hb hin hbl hcl q3 hll
      refine tkI 4 ⟨some 52, .indexAddr 30 (.tmp 51) (.const (Go.Value.int .i64 3)), 0, "law.go:97", #[⟨3, .data⟩], none⟩ ?v17 rfl (by kernel_rfl) (by rfl) ?y17 ?_
      case y17 => intro w hSw; (try dsimp only at hSw); go_simp; all_goals with_reducible rfl
      try simp only [apt12]
      refine wpAnyH_ready (rs := [5]) (by kernel_rfl) (by simp) ?_
      refine AllReadyH.cons (i := 5) (o := ⟨some 53, .load 3 (.tmp 52), 3, "law.go:97", #[⟨4, .data⟩], none⟩) rfl (fun K hK => ?_) AllReadyH.nil
      have q3 := QC2.out
      go_simp
      refine hK.out _ _ ?_ (fun hH3 => ?_)
      · exact hH2
      clear hK K
      try simp only [apt12]
      clear q3
      refine wpAnyH_ready (rs := [6]) (by kernel_rfl) (by simp) ?_
      refine AllReadyH.cons (i := 6) (o := ⟨some 54, .call { callee := .value (.func 12), args := #[.tmp 48, .tmp 53], argTypes := #[24, 3] }, 34, "law.go:97", #[⟨0, .data⟩, ⟨5, .data⟩, ⟨3, .chain⟩], none⟩) rfl (fun K hK => ?_) AllReadyH.nil
      go_simp
      go_at_call 12
      refine (rmethod_any12 h v3 _ c _ (HS.out.below (then_w HB3.out BB2.out)) HF.out).mono ?_
      rintro e u4 ⟨CA, cc, LA, lc, rfl, hins, -, hb, hfr⟩
      rw [← HM3.out] at hins
      rw [← HM3.out, ← HE3.out]
      have BB4 := hid (then_w BB2.out hb)
      have IC4 := hid hins
      have LB4 := hid (LB2.out.later hb)
      refine hK.out _ _ ?_ (fun hH4 => ?_)
      · exact ⟨cell_later BB4.out x0, cell_later BB4.out x1, cell_later BB4.out x2⟩
      clear hK K
      try simp only [apt12]
      clear hb hins hfr
      refine tkI 7 ⟨some 47, .move (.tmp 54), 34, "law.go:97", #[⟨6, .data⟩], none⟩ ?v18 rfl (by kernel_rfl) (by rfl) ?y18 ?_
      case y18 => intro w hSw; (try dsimp only at hSw); go_simp; all_goals with_reducible rfl
      try simp only [apt12]
      refine tkI 8 ⟨some 55, .extract (.tmp 47) 0, 32, "law.go:97", #[⟨7, .data⟩], none⟩ ?v19 rfl (by kernel_rfl) (by rfl) ?y19 ?_
      case y19 => intro w hSw; (try dsimp only at hSw); go_simp; all_goals with_reducible rfl
      try simp only [apt12]
      refine tkI 9 ⟨some 56, .extract (.tmp 47) 1, 33, "law.go:97", #[⟨7, .data⟩, ⟨11, .gcOnly .lateStores⟩], none⟩ ?v20 rfl (by kernel_rfl) (by rfl) ?y20 ?_
      case y20 => intro w hSw; (try dsimp only at hSw); go_simp; all_goals with_reducible rfl
      try simp only [apt12]
      refine wpAnyH_ready (rs := [11]) (by kernel_rfl) (by simp) ?_
      refine AllReadyH.cons (i := 11) (o := ⟨none, .store 32 (.tmp 7) (.tmp 55), 0, "law.go:97", #[⟨10, .data⟩, ⟨8, .data⟩, ⟨6, .chain⟩, ⟨0, .phase⟩, ⟨1, .phase⟩, ⟨2, .phase⟩, ⟨3, .phase⟩, ⟨4, .phase⟩, ⟨5, .phase⟩, ⟨6, .phase⟩, ⟨7, .phase⟩, ⟨8, .phase⟩, ⟨9, .textOnly .lateStores⟩, ⟨10, .phase⟩], none⟩) rfl (fun K hK => ?_) AllReadyH.nil
      obtain ⟨r0, r1, r2, r3, r4⟩ := LB4.out.c5
      obtain ⟨f0, f1, f2, f3, f4⟩ := LB4.out.f5
      have BB5 := hid (below_five12 BB4.out HX9.out (.int .i64 M3.prim) (.int .i64 M3.args) (.int .i64 M3.temps) (.slice CA M3.code.length cc) (.slice LA M3.lits.length lc))
      have LF : Hid (Lies (((((u4.setCell ⟨bx, 0, none⟩ (.int .i64 M3.prim)).setCell ⟨bx, 1, none⟩ (.int .i64 M3.args)).setCell ⟨bx, 2, none⟩ (.int .i64 M3.temps)).setCell ⟨bx, 3, none⟩ (.slice CA M3.code.length cc)).setCell ⟨bx, 4, none⟩ (.slice LA M3.lits.length lc)) bx 32 #[.int .i64 M3.prim, .int .i64 M3.args, .int .i64 M3.temps, .slice CA M3.code.length cc, .slice LA M3.lits.length lc]) := by
        show Lies _ _ _ _
        exact (((((LB4.out.set_ 0 (.int .i64 M3.prim)).set_ 1 (.int .i64 M3.args)).set_ 2 (.int .i64 M3.temps)).set_ 3 (.slice CA M3.code.length cc)).set_ 4 (.slice LA M3.lits.length lc))
      go_simp
      refine hK.out _ _ ?_ (fun hH5 => ?_)
      · exact ⟨cell_later BB5.out x0, cell_later BB5.out x1, cell_later BB5.out x2⟩
      clear hK K
      try simp only [apt12]
      clear r0 r1 r2 r3 r4 f0 f1 f2 f3 f4
      refine tkI 12 ⟨some 8, .assign (.tmp 56), 33, "law.go:97", #[⟨9, .data⟩, ⟨11, .chain⟩, ⟨0, .phase⟩, ⟨1, .phase⟩, ⟨2, .phase⟩, ⟨3, .phase⟩, ⟨4, .phase⟩, ⟨5, .phase⟩, ⟨6, .phase⟩, ⟨7, .phase⟩, ⟨8, .phase⟩, ⟨9, .phase⟩, ⟨10, .phase⟩, ⟨11, .phase⟩], none⟩ ?v21 rfl (by kernel_rfl) (by rfl) ?y21 ?_
      case y21 => intro w hSw; (try dsimp only at hSw); go_simp; all_goals with_reducible rfl
      try simp only [apt12]
      refine wpAnyH_done (by kernel_rfl) ?_ _
      go_wp2_with fail
      go_meet
      exact ⟨bx, CA, cc, LA, lc, rfl, rfl, LF, BB5⟩
  case rest =>
    rename World => w4
    obtain ⟨bx, CA, cc, LA, lc, rfl, rfl, LF, BF⟩ := hcut
    have hb := BF.out
    clear x0 x1 x2
    have HB4 := hid (then_w HB3.out hb)
    have HX4 := hid (HX3.out.later hb)
    clear hb
    clear HB3 HX3
    have M4 := LF
    clear LF BF
    obtain ⟨x0, x1, x2⟩ := HX4.out.c3
    go_upto_region 5 with fail
    obtain ⟨w5, hw⟩ : ∃ x, x = w4.alloc (.cells #[.slice A h.objs.length c, .int .i64 h.cap, .int .i64 h.last] 24) := ⟨_, rfl⟩
    obtain ⟨bg, hbx⟩ : ∃ x, x = w4.heap.size := ⟨_, rfl⟩
    have G5 : Hid (Lies w5 bg 24 #[.slice A h.objs.length c, .int .i64 h.cap, .int .i64 h.last]) := by show Lies _ _ _ _; rw [hw, hbx]; exact Lies.new _ _ _
    have hb : Below w4.heap.size w4 w5 := by rw [hw]; exact below_alloc _ _
    rw [← hw, ← hbx]
    have ne_HX_G : Hid (w.heap.size ≠ bg) := by show _ ≠ _; rw [hbx]; exact Nat.ne_of_lt HX4.out.lt
    have ne_M_G : Hid (bx ≠ bg) := by show _ ≠ _; rw [hbx]; exact Nat.ne_of_lt M4.out.lt
    have le_HB_G : Hid (w.heap.size ≤ bg) := by show _ ≤ _; rw [hbx]; exact HB4.out.size
    clear x0 x1 x2
    clear hbx hw
    have HB5 := hid (then_w HB4.out hb)
    have HX5 := hid (HX4.out.later hb)
    have M5 := hid (M4.out.later hb)
    clear hb
    clear HB4 HX4 M4
    have FO5 : Hid (Fr12 w w5 A c h.objs) := hid (Fr12.later (w := w) (.inl ⟨HS.out, Below.refl _ _⟩) HB5.out)
    obtain ⟨t1, ht1⟩ : ∃ k, k = (te12 h cx 0).1 := ⟨_, rfl⟩
    obtain ⟨t2, ht2⟩ : ∃ k, k = (te12 h cx 0).2 := ⟨_, rfl⟩
    have E4 := hid ht1
    have E5 := hid ht2
    clear ht1 ht2
    obtain ⟨x0, x1, x2⟩ := HX5.out.c3
    go_wp2_with fail
    refine (ctemp_any12 h cx 0 A c _ (HS.out.below HB5.out) HF.out).mono ?_
    rintro e w6 ⟨rfl, hb⟩
    clear x0 x1 x2
    rw [← E4.out, ← E5.out]
    have HB6 := hid (then_w HB5.out hb)
    have HX6 := hid (HX5.out.later hb)
    have M6 := hid (M5.out.later hb)
    have G6 := hid (G5.out.later hb)
    have FO6 := hid (FO5.out.later hb)
    clear hb
    clear HB5 HX5 M5 G5 FO5
    have Z1 := hid (lv_zero12 (l := l) HM.out).1
    have Z2 := hid (lv_zero12 (l := l) HM.out).2
    go_upto_block 0 with fail
    go_cut [10] from 64 to 89 (fun sn wx => ∃ (k : Nat) (L : List Int) (A2 : Option Addr) (c2 : Nat), k ≤ l.length ∧ sn = .int .i64 k ∧ Hid (Lv12 h cx l k L) ∧ Hid (Lies wx bg 24 #[.slice A2 (pt12 h cx L).objs.length c2, .int .i64 (pt12 h cx L).cap, .int .i64 (pt12 h cx L).last]) ∧ Hid (Fr12 w wx A2 c2 (pt12 h cx L).objs) ∧ Hid (Lies wx w.heap.size 24 #[Value.slice A h.objs.length c, Value.int .i64 h.cap, Value.int .i64 h.last]) ∧ Hid (Lies wx bx 32 #[.int .i64 M3.prim, .int .i64 M3.args, .int .i64 M3.temps, .slice CA M3.code.length cc, .slice LA M3.lits.length lc]) ∧ Hid (Below w.heap.size w wx))
    case first =>
      go_wp2_with fail
      go_loopw [13, 10] (fun si sn wr => ∃ (k : Nat) (L : List Int) (A2 : Option Addr) (c2 : Nat), k ≤ l.length ∧ si = .int .i64 k ∧ sn = .int .i64 k ∧ Hid (Lv12 h cx l k L) ∧ Hid (Lies wr bg 24 #[.slice A2 (pt12 h cx L).objs.length c2, .int .i64 (pt12 h cx L).cap, .int .i64 (pt12 h cx L).last]) ∧ Hid (Fr12 w wr A2 c2 (pt12 h cx L).objs) ∧ Hid (Lies wr w.heap.size 24 #[Value.slice A h.objs.length c, Value.int .i64 h.cap, Value.int .i64 h.last]) ∧ Hid (Lies wr bx 32 #[.int .i64 M3.prim, .int .i64 M3.args, .int .i64 M3.temps, .slice CA M3.code.length cc, .slice LA M3.lits.length lc]) ∧ Hid (Below w.heap.size w wr)) (fun si _ _ => l.length - (intOf si).toNat)
      case atStart => exact ⟨0, sls12 h cx, A, c, Nat.zero_le _, rfl, rfl, Z1, by rw [Z2.out]; exact G6, by rw [Z2.out]; exact FO6, HX6, M6, HB6⟩
      case round =>
        obtain ⟨k, L, A2, c2, hk, rfl, rfl, HLV, G7, FO7, HX7, M7, HB7⟩ := hrel
        rename World => w7
        obtain ⟨g, hg⟩ : ∃ g, g = pt12 h cx L := ⟨_, rfl⟩
        rw [← hg] at G7 FO7
        have HG := hid hg
        clear hg
        have QL := hid (lv_ctx12 HM.out HLV.out)
        rw [← HG.out] at QL
        by_cases hlt : k < l.length
        case pos =>
          have hk20 : k < 20 := by have := HL20.out; omega
          obtain ⟨xk, hxk⟩ : ∃ x, x = l.getD k 0 := ⟨_, rfl⟩
          obtain ⟨bs, os, hsb, hbs, hcs⟩ := (HSA.out.below HB7.out) (by omega)
          have q0 := hcs k xk (by rw [hxk, List.getD_eq_getElem?_getD, List.getElem?_eq_getElem hlt]; rfl)
          have hkI : (k : Int) < (l.length : Int) := by omega
          have HXK := hid hxk
          subst hsb
          clear hcs hbs hxk
          obtain ⟨g3, hg3⟩ : ∃ x, x = (pu12 g cx xk).1 := ⟨_, rfl⟩
          obtain ⟨er, her⟩ : ∃ x, x = (pu12 g cx xk).2 := ⟨_, rfl⟩
          have HG3 := hid hg3
          have HER := hid her
          clear hg3 her
          obtain ⟨g0, g1, g2⟩ := G7.out.c3
          go_upto_region 9 with fail
          go_cut [14, 15] from 70 to 80 (fun p z wx => ∃ (bx2 : Nat) (A3 : Option Addr) (c3 : Nat), p = .pointer (some ⟨bx2, 0, none⟩) ∧ z = .int .i64 er ∧ Hid (Lies wx bx2 24 #[.slice A3 g3.objs.length c3, .int .i64 g3.cap, .int .i64 g3.last]) ∧ Hid (Below w7.heap.size w7 wx) ∧ Hid (w7.heap.size ≤ bx2) ∧ Hid (Fr12 w wx A3 c3 g3.objs))
          case first =>
            have BB0 := hid ((Below.refl w7.heap.size w7).drew)
            have z0 := cell_later BB0.out g0
            have z1 := cell_later BB0.out g1
            have z2 := cell_later BB0.out g2
            have z3 := cell_later BB0.out q0
            refine wp_region_held_drew (S := (fun w' => w'.cell? ⟨bg, 0, none⟩ = some (.slice A2 g.objs.length c2) ∧ w'.cell? ⟨bg, 1, none⟩ = some (.int .i64 g.cap) ∧ w'.cell? ⟨bg, 2, none⟩ = some (.int .i64 g.last) ∧ w'.cell? ⟨bs, os + k, none⟩ = some (.int .i64 xk))) (by kernel_rfl) ?_ (fun hH0 => ?_)
            · exact ⟨cell_later BB0.out g0, cell_later BB0.out g1, cell_later BB0.out g2, cell_later BB0.out q0⟩
            refine tkI 0 ⟨some 71, .load 24 (.tmp 9), 24, "law.go:101", #[], none⟩ ?v22 rfl (by kernel_rfl) (by rfl) ?y22 ?_
            case y22 => intro w hSw; (try dsimp only at hSw); go_simp; all_goals with_reducible rfl
            try simp only [apt12]
            refine tkI 1 ⟨some 72, .move (.tmp 1), 3, "law.go:101", #[], none⟩ ?v23 rfl (by kernel_rfl) (by rfl) ?y23 ?_
            case y23 => intro w hSw; (try dsimp only at hSw); go_simp; all_goals with_reducible rfl
            try simp only [apt12]
            refine tkI 2 ⟨some 73, .move (.tmp 2), 30, "law.go:101", #[], none⟩ ?v24 rfl (by kernel_rfl) (by rfl) ?y24 ?_
            case y24 => intro w hSw; (try dsimp only at hSw); go_simp; all_goals with_reducible rfl
            try simp only [apt12]
            refine tkI 3 ⟨some 74, .move (.tmp 13), 3, "law.go:101", #[], none⟩ ?v25 rfl (by kernel_rfl) (by rfl) ?y25 ?_
            case y25 => intro w hSw; (try dsimp only at hSw); go_simp; all_goals with_reducible rfl
            try simp only [apt12]
            refine tkI 4 ⟨some 75, .indexAddr 30 (.tmp 73) (.tmp 74), 0, "law.go:101", #[⟨2, .data⟩, ⟨3, .data⟩], none⟩ ?v26 rfl (by kernel_rfl) (by rfl) ?y26 ?_
            case y26 => intro w hSw; (try dsimp only at hSw); go_simp; all_goals with_reducible rfl
            try simp only [apt12]
            refine tkI 5 ⟨some 76, .load 3 (.tmp 75), 3, "law.go:101", #[⟨4, .data⟩], none⟩ ?v27 rfl (by kernel_rfl) (by rfl) ?y27 ?_
            case y27 => intro w hSw; (try dsimp only at hSw); go_simp; all_goals with_reducible rfl
            try simp only [apt12]
            refine wpAnyH_ready (rs := [6, 10]) (by kernel_rfl) (by simp) ?_
            refine AllReadyH.cons (i := 6) (o := ⟨some 77, .call { callee := .value (.func 20), args := #[.tmp 71, .tmp 72, .tmp 76], argTypes := #[24, 3, 3] }, 45, "law.go:101", #[⟨0, .data⟩, ⟨1, .data⟩, ⟨5, .data⟩], none⟩) rfl (fun K hK => ?_) (AllReadyH.cons (i := 10) (o := ⟨some 14, .alloc 24, 0, "law.go:101", #[], none⟩) rfl (fun K hK => ?_) AllReadyH.nil)
            · go_simp
              go_at_call 20
              refine (cpush_any12 g cx xk A2 c2 _ (FO7.out.obs.below BB0.out) (may_fit (may_parts12 QL.out.1).1) (may_mod12 (may_parts12 QL.out.1).1)).mono ?_
              rintro e u1 ⟨A3, c3, l3, rfl, hm9, ho9, hb⟩
              rw [← HG3.out] at hm9
              rw [← HG3.out, ← HER.out]
              have BB1 := hid (then_w BB0.out hb)
              have FO1 : Hid (Fr12 w u1 A3 c3 g3.objs) := hid (.inr ⟨_, _, ho9, hm9⟩)
              refine hK.out _ _ ?_ (fun hH1 => ?_)
              · exact ⟨cell_later BB1.out g0, cell_later BB1.out g1, cell_later BB1.out g2, cell_later BB1.out q0⟩
              clear hK K
              try simp only [apt12]
              clear hb hm9 ho9
              refine tkI 7 ⟨some 70, .move (.tmp 77), 45, "law.go:101", #[⟨6, .data⟩], none⟩ ?v28 rfl (by kernel_rfl) (by rfl) ?y28 ?_
              case y28 => intro w hSw; (try dsimp only at hSw); go_simp; all_goals with_reducible rfl
              try simp only [apt12]
              refine tkI 8 ⟨some 78, .extract (.tmp 70) 0, 24, "law.go:101", #[⟨7, .data⟩], none⟩ ?v29 rfl (by kernel_rfl) (by rfl) ?y29 ?_
              case y29 => intro w hSw; (try dsimp only at hSw); go_simp; all_goals with_reducible rfl
              try simp only [apt12]
              refine tkI 9 ⟨some 79, .extract (.tmp 70) 1, 33, "law.go:101", #[⟨7, .data⟩, ⟨11, .gcOnly .lateStores⟩], none⟩ ?v30 rfl (by kernel_rfl) (by rfl) ?y30 ?_
              case y30 => intro w hSw; (try dsimp only at hSw); go_simp; all_goals with_reducible rfl
              try simp only [apt12]
              refine wpAnyH_ready (rs := [10]) (by kernel_rfl) (by simp) ?_
              refine AllReadyH.cons (i := 10) (o := ⟨some 14, .alloc 24, 0, "law.go:101", #[], none⟩) rfl (fun K hK => ?_) AllReadyH.nil
              go_simp
              obtain ⟨u2, hu⟩ : ∃ x, x = u1.alloc (.cells #[.slice none 0 0, .int .i64 0, .int .i64 0] 24) := ⟨_, rfl⟩
              obtain ⟨bx2, hg⟩ : ∃ x, x = u1.heap.size := ⟨_, rfl⟩
              have hb : Below u1.heap.size u1 u2 := by rw [hu]; exact below_alloc u1 _
              have HX9 : Hid (w7.heap.size ≤ bx2) := by show _ ≤ _; rw [hg]; exact BB1.out.size
              have LB2 := hid (show Lies u2 bx2 24 #[.slice none 0 0, .int .i64 0, .int .i64 0] by rw [hu, hg]; exact Lies.new u1 _ _)
              have BB2 := hid (then_w BB1.out hb)
              have FO2 := hid (FO1.out.later hb)
              try simp only [← hg]
              try rw [← hu]
              refine hK.out _ _ ?_ (fun hH2 => ?_)
              · exact ⟨cell_later BB2.out g0, cell_later BB2.out g1, cell_later BB2.out g2, cell_later BB2.out q0⟩
              clear hK K
              try simp only [apt12]
              clear hb hu hg
              refine wpAnyH_ready (rs := [11]) (by kernel_rfl) (by simp) ?_
              refine AllReadyH.cons (i := 11) (o := ⟨none, .store 24 (.tmp 14) (.tmp 78), 0, "law.go:101", #[⟨10, .data⟩, ⟨8, .data⟩, ⟨6, .chain⟩, ⟨0, .phase⟩, ⟨1, .phase⟩, ⟨2, .phase⟩, ⟨3, .phase⟩, ⟨4, .phase⟩, ⟨5, .phase⟩, ⟨6, .phase⟩, ⟨7, .phase⟩, ⟨8, .phase⟩, ⟨9, .textOnly .lateStores⟩, ⟨10, .phase⟩], none⟩) rfl (fun K hK => ?_) AllReadyH.nil
              obtain ⟨r0, r1, r2⟩ := LB2.out.c3
              obtain ⟨rf0, rf1, rf2⟩ := LB2.out.f3
              have BB3 := hid (below_s3 BB2.out HX9.out (.slice A3 g3.objs.length c3) (.int .i64 g3.cap) (.int .i64 g3.last))
              have FO3 := hid (FO2.out.s3 (Nat.le_trans HB7.out.size HX9.out) LB2.out (.slice A3 g3.objs.length c3) (.int .i64 g3.cap) (.int .i64 g3.last))
              have LF : Hid (Lies (((u2.setCell ⟨bx2, 0, none⟩ (.slice A3 g3.objs.length c3)).setCell ⟨bx2, 1, none⟩ (.int .i64 g3.cap)).setCell ⟨bx2, 2, none⟩ (.int .i64 g3.last)) bx2 24 #[.slice A3 g3.objs.length c3, .int .i64 g3.cap, .int .i64 g3.last]) := by
                show Lies _ _ _ _
                exact (((LB2.out.set_ 0 (.slice A3 g3.objs.length c3)).set_ 1 (.int .i64 g3.cap)).set_ 2 (.int .i64 g3.last))
              go_simp
              refine hK.out _ _ ?_ (fun hH3 => ?_)
              · exact ⟨cell_later BB3.out g0, cell_later BB3.out g1, cell_later BB3.out g2, cell_later BB3.out q0⟩
              clear hK K
              try simp only [apt12]
              clear r0 rf0 r1 rf1 r2 rf2
              refine tkI 12 ⟨some 15, .assign (.tmp 79), 33, "law.go:101", #[⟨9, .data⟩, ⟨11, .chain⟩, ⟨0, .phase⟩, ⟨1, .phase⟩, ⟨2, .phase⟩, ⟨3, .phase⟩, ⟨4, .phase⟩, ⟨5, .phase⟩, ⟨6, .phase⟩, ⟨7, .phase⟩, ⟨8, .phase⟩, ⟨9, .phase⟩, ⟨10, .phase⟩, ⟨11, .phase⟩], none⟩ ?v31 rfl (by kernel_rfl) (by rfl) ?y31 ?_
              case y31 => intro w hSw; (try dsimp only at hSw); go_simp; all_goals with_reducible rfl
              try simp only [apt12]
              refine wpAnyH_done (by kernel_rfl) ?_ _
              go_wp2_with fail
              go_meet
              exact ⟨bx2, A3, c3, rfl, rfl, LF, BB3, HX9, FO3⟩
            · go_simp
              obtain ⟨u1, hu⟩ : ∃ x, x = (w7.alloc (.cells #[.slice none 0 0, .int .i64 0, .int .i64 0] 24)).drew := ⟨_, rfl⟩
              obtain ⟨bx2, hg⟩ : ∃ x, x = w7.heap.size := ⟨_, rfl⟩
              have hb : Below w7.drew.heap.size w7.drew u1 := by rw [hu]; exact below_alloc w7.drew _
              have HX9 : Hid (w7.heap.size ≤ bx2) := by show _ ≤ _; rw [hg]; exact BB0.out.size
              have LB1 := hid (show Lies u1 bx2 24 #[.slice none 0 0, .int .i64 0, .int .i64 0] by rw [hu, hg]; exact Lies.new w7.drew _ _)
              have BB1 := hid (then_w BB0.out hb)
              try simp only [← hg]
              try rw [← hu]
              refine hK.out _ _ ?_ (fun hH1 => ?_)
              · exact ⟨cell_later BB1.out g0, cell_later BB1.out g1, cell_later BB1.out g2, cell_later BB1.out q0⟩
              clear hK K
              try simp only [apt12]
              clear hb hu hg
              refine wpAnyH_ready (rs := [6]) (by kernel_rfl) (by simp) ?_
              refine AllReadyH.cons (i := 6) (o := ⟨some 77, .call { callee := .value (.func 20), args := #[.tmp 71, .tmp 72, .tmp 76], argTypes := #[24, 3, 3] }, 45, "law.go:101", #[⟨0, .data⟩, ⟨1, .data⟩, ⟨5, .data⟩], none⟩) rfl (fun K hK => ?_) AllReadyH.nil
              go_simp
              go_at_call 20
              refine (cpush_any12 g cx xk A2 c2 _ (FO7.out.obs.below BB1.out) (may_fit (may_parts12 QL.out.1).1) (may_mod12 (may_parts12 QL.out.1).1)).mono ?_
              rintro e u2 ⟨A3, c3, l3, rfl, hm9, ho9, hb⟩
              rw [← HG3.out] at hm9
              rw [← HG3.out, ← HER.out]
              have BB2 := hid (then_w BB1.out hb)
              have FO2 : Hid (Fr12 w u2 A3 c3 g3.objs) := hid (.inr ⟨_, _, ho9, hm9⟩)
              have LB2 := hid (LB1.out.later hb)
              refine hK.out _ _ ?_ (fun hH2 => ?_)
              · exact ⟨cell_later BB2.out g0, cell_later BB2.out g1, cell_later BB2.out g2, cell_later BB2.out q0⟩
              clear hK K
              try simp only [apt12]
              clear hb hm9 ho9
              refine tkI 7 ⟨some 70, .move (.tmp 77), 45, "law.go:101", #[⟨6, .data⟩], none⟩ ?v32 rfl (by kernel_rfl) (by rfl) ?y32 ?_
              case y32 => intro w hSw; (try dsimp only at hSw); go_simp; all_goals with_reducible rfl
              try simp only [apt12]
              refine tkI 8 ⟨some 78, .extract (.tmp 70) 0, 24, "law.go:101", #[⟨7, .data⟩], none⟩ ?v33 rfl (by kernel_rfl) (by rfl) ?y33 ?_
              case y33 => intro w hSw; (try dsimp only at hSw); go_simp; all_goals with_reducible rfl
              try simp only [apt12]
              refine tkI 9 ⟨some 79, .extract (.tmp 70) 1, 33, "law.go:101", #[⟨7, .data⟩, ⟨11, .gcOnly .lateStores⟩], none⟩ ?v34 rfl (by kernel_rfl) (by rfl) ?y34 ?_
              case y34 => intro w hSw; (try dsimp only at hSw); go_simp; all_goals with_reducible rfl
              try simp only [apt12]
              refine wpAnyH_ready (rs := [11]) (by kernel_rfl) (by simp) ?_
              refine AllReadyH.cons (i := 11) (o := ⟨none, .store 24 (.tmp 14) (.tmp 78), 0, "law.go:101", #[⟨10, .data⟩, ⟨8, .data⟩, ⟨6, .chain⟩, ⟨0, .phase⟩, ⟨1, .phase⟩, ⟨2, .phase⟩, ⟨3, .phase⟩, ⟨4, .phase⟩, ⟨5, .phase⟩, ⟨6, .phase⟩, ⟨7, .phase⟩, ⟨8, .phase⟩, ⟨9, .textOnly .lateStores⟩, ⟨10, .phase⟩], none⟩) rfl (fun K hK => ?_) AllReadyH.nil
              obtain ⟨r0, r1, r2⟩ := LB2.out.c3
              obtain ⟨rf0, rf1, rf2⟩ := LB2.out.f3
              have BB3 := hid (below_s3 BB2.out HX9.out (.slice A3 g3.objs.length c3) (.int .i64 g3.cap) (.int .i64 g3.last))
              have FO3 := hid (FO2.out.s3 (Nat.le_trans HB7.out.size HX9.out) LB2.out (.slice A3 g3.objs.length c3) (.int .i64 g3.cap) (.int .i64 g3.last))
              have LF : Hid (Lies (((u2.setCell ⟨bx2, 0, none⟩ (.slice A3 g3.objs.length c3)).setCell ⟨bx2, 1, none⟩ (.int .i64 g3.cap)).setCell ⟨bx2, 2, none⟩ (.int .i64 g3.last)) bx2 24 #[.slice A3 g3.objs.length c3, .int .i64 g3.cap, .int .i64 g3.last]) := by
                show Lies _ _ _ _
                exact (((LB2.out.set_ 0 (.slice A3 g3.objs.length c3)).set_ 1 (.int .i64 g3.cap)).set_ 2 (.int .i64 g3.last))
              go_simp
              refine hK.out _ _ ?_ (fun hH3 => ?_)
              · exact ⟨cell_later BB3.out g0, cell_later BB3.out g1, cell_later BB3.out g2, cell_later BB3.out q0⟩
              clear hK K
              try simp only [apt12]
              clear r0 rf0 r1 rf1 r2 rf2
              refine tkI 12 ⟨some 15, .assign (.tmp 79), 33, "law.go:101", #[⟨9, .data⟩, ⟨11, .chain⟩, ⟨0, .phase⟩, ⟨1, .phase⟩, ⟨2, .phase⟩, ⟨3, .phase⟩, ⟨4, .phase⟩, ⟨5, .phase⟩, ⟨6, .phase⟩, ⟨7, .phase⟩, ⟨8, .phase⟩, ⟨9, .phase⟩, ⟨10, .phase⟩, ⟨11, .phase⟩], none⟩ ?v35 rfl (by kernel_rfl) (by rfl) ?y35 ?_
              case y35 => intro w hSw; (try dsimp only at hSw); go_simp; all_goals with_reducible rfl
              try simp only [apt12]
              refine wpAnyH_done (by kernel_rfl) ?_ _
              go_wp2_with fail
              go_meet
              exact ⟨bx2, A3, c3, rfl, rfl, LF, BB3, HX9, FO3⟩
          case rest =>
            rename World => w8
            obtain ⟨bx2, A3, c3, rfl, rfl, LF, BF, BX, FN⟩ := hcut
            have hb := BF.out
            clear g0 g1 g2
            have HB8 := hid (then_w HB7.out hb)
            have HX8 := hid (HX7.out.later hb)
            have M8 := hid (M7.out.later hb)
            have G8 := hid (G7.out.later hb)
            have FO8 := hid (FO7.out.later hb)
            have ne_N_G : Hid (bx2 ≠ bg) := by show _ ≠ _; have h1 := G7.out.lt; have h2 := BX.out; omega
            have N8 := LF
            have FN8 := FN
            clear hb BF LF FN q0 BX
            clear HB7 HX7 M7 G7 FO7
            by_cases he : er = 0
            case neg =>
              go_wp2_with fail
              go_meet
              exact ⟨k, L, A2, c2, hk, rfl, HLV, by rw [← HG.out]; exact G8, by rw [← HG.out]; exact FO8, HX8, M8, HB8⟩
            subst he
            obtain ⟨L2, r1, r2⟩ := lv_push12 HM.out HLV.out hlt (by rw [← HG.out, ← HXK.out]; exact HER.out.symm)
            rw [← HG.out, ← HXK.out, ← HG3.out] at r1
            have R1 := hid r1
            have R2 := hid r2
            have QP := hid (lv_ctx12 HM.out r2)
            rw [← r1] at QP
            clear r1 r2
            obtain ⟨g0, g1, g2⟩ := G8.out.c3
            obtain ⟨gf0, gf1, gf2⟩ := G8.out.f3
            obtain ⟨n0, n1, n2⟩ := N8.out.c3
            go_upto_region 12 with fail
            obtain ⟨w9, hw⟩ : ∃ x, x = (((w8.setCell ⟨bg, 0, none⟩ (.slice A3 g3.objs.length c3)).setCell ⟨bg, 1, none⟩ (.int .i64 g3.cap)).setCell ⟨bg, 2, none⟩ (.int .i64 g3.last)) := ⟨_, rfl⟩
            have HB9 : Hid (Below w.heap.size w w9) := by show Below _ _ _; rw [hw]; exact below_s3 HB8.out le_HB_G.out (.slice A3 g3.objs.length c3) (.int .i64 g3.cap) (.int .i64 g3.last)
            have FO9 : Hid (Fr12 w w9 A2 c2 g.objs) := by show Fr12 _ _ _ _ _; rw [hw]; exact FO8.out.s3 le_HB_G.out G8.out (.slice A3 g3.objs.length c3) (.int .i64 g3.cap) (.int .i64 g3.last)
            have FN9 : Hid (Fr12 w w9 A3 c3 g3.objs) := by show Fr12 _ _ _ _ _; rw [hw]; exact FN8.out.s3 le_HB_G.out G8.out (.slice A3 g3.objs.length c3) (.int .i64 g3.cap) (.int .i64 g3.last)
            have HX9 : Hid (Lies w9 w.heap.size 24 #[.slice A h.objs.length c, .int .i64 h.cap, .int .i64 h.last]) := by show Lies _ _ _ _; rw [hw]; exact (((HX8.out.far (p := ⟨bg, 0, none⟩) (ne_HX_G.out) (.slice A3 g3.objs.length c3)).far (p := ⟨bg, 1, none⟩) (ne_HX_G.out) (.int .i64 g3.cap)).far (p := ⟨bg, 2, none⟩) (ne_HX_G.out) (.int .i64 g3.last))
            have M9 : Hid (Lies w9 bx 32 #[.int .i64 M3.prim, .int .i64 M3.args, .int .i64 M3.temps, .slice CA M3.code.length cc, .slice LA M3.lits.length lc]) := by show Lies _ _ _ _; rw [hw]; exact (((M8.out.far (p := ⟨bg, 0, none⟩) (ne_M_G.out) (.slice A3 g3.objs.length c3)).far (p := ⟨bg, 1, none⟩) (ne_M_G.out) (.int .i64 g3.cap)).far (p := ⟨bg, 2, none⟩) (ne_M_G.out) (.int .i64 g3.last))
            have G9 : Hid (Lies w9 bg 24 #[.slice A3 g3.objs.length c3, .int .i64 g3.cap, .int .i64 g3.last]) := by show Lies _ _ _ _; rw [hw]; exact (((G8.out.set_ 0 (.slice A3 g3.objs.length c3)).set_ 1 (.int .i64 g3.cap)).set_ 2 (.int .i64 g3.last))
            have N9 : Hid (Lies w9 bx2 24 #[.slice A3 g3.objs.length c3, .int .i64 g3.cap, .int .i64 g3.last]) := by show Lies _ _ _ _; rw [hw]; exact (((N8.out.far (p := ⟨bg, 0, none⟩) (ne_N_G.out) (.slice A3 g3.objs.length c3)).far (p := ⟨bg, 1, none⟩) (ne_N_G.out) (.int .i64 g3.cap)).far (p := ⟨bg, 2, none⟩) (ne_N_G.out) (.int .i64 g3.last))
            rw [← hw]
            clear hw
            clear gf0 gf1 gf2 g0 g1 g2 n0 n1 n2
            clear HB8 HX8 M8 G8 N8 FO8 FN8
            obtain ⟨g0, g1, g2⟩ := G9.out.c3
            go_wp2_with fail
            refine (cmay_any12 g3 cx A3 c3 _ FN9.out.obs (may_fit (may_parts12 QP.out.1).1)).mono ?_
            rintro e w10 ⟨rfl, hb⟩
            clear g0 g1 g2
            rw [QP.out.1]
            have HB10 := hid (then_w HB9.out hb)
            have HX10 := hid (HX9.out.later hb)
            have M10 := hid (M9.out.later hb)
            have G10 := hid (G9.out.later hb)
            have N10 := hid (N9.out.later hb)
            have FO10 := hid (FO9.out.later hb)
            have FN10 := hid (FN9.out.later hb)
            clear hb
            clear HB9 HX9 M9 G9 N9 FO9 FN9
            go_wp2_with fail
            go_roundw
            case rel => exact ⟨k + 1, L2, A3, c3, hlt, by go_num, by go_num, R2, by rw [← R1.out]; exact G10, by rw [← R1.out]; exact FN10, HX10, M10, HB10⟩
            case measure => simp [intOf]; omega
        case neg =>
          have hkI : ¬ (k : Int) < (l.length : Int) := by omega
          go_wp2_with fail
          go_meet
          exact ⟨k, L, A2, c2, hk, rfl, HLV, by rw [← HG.out]; exact G7, by rw [← HG.out]; exact FO7, HX7, M7, HB7⟩
    case rest =>
      obtain ⟨k, L, A2, c2, hk, rfl, HLV, G7, FO7, HX7, M7, HB7⟩ := hcut
      rename World => w7
      obtain ⟨g, hg⟩ : ∃ g, g = pt12 h cx L := ⟨_, rfl⟩
      rw [← hg] at G7 FO7
      have HG := hid hg
      clear hg
      have QL := hid (lv_ctx12 HM.out HLV.out)
      rw [← HG.out] at QL
      have hk20 : k ≤ 20 := by have := HL20.out; omega
      obtain ⟨g0, g1, g2⟩ := G7.out.c3
      go_wp2_with fail
      refine (ctemp_any12 g cx 0 A2 c2 _ FO7.out.obs (may_fit (may_parts12 QL.out.1).1)).mono ?_
      rintro e w8 ⟨rfl, hb⟩
      clear g0 g1 g2
      rw [HG.out, lv_temp12 HM.out HLV.out, ← E4.out, ← E5.out]
      have HB8 := hid (then_w HB7.out hb)
      have HX8 := hid (HX7.out.later hb)
      have M8 := hid (M7.out.later hb)
      have G8 := hid (G7.out.later hb)
      have FO8 := hid (FO7.out.later hb)
      clear hb
      clear HB7 HX7 M7 G7 FO7
      obtain ⟨tb, htb⟩ : ∃ b, b = decide (0 < M3.temps) := ⟨_, rfl⟩
      have ht0 : decide (0 < M3.temps) = tb := htb.symm
      have ht3 : decide (t2 = 0) = tb := by rw [htb, ← HCM.out, E5.out]; exact te_ok12 HM.out
      have ht4 : (t2 == 0) = tb := by rw [← ht3]; rfl
      clear htb
      obtain ⟨m0, m1, m2, m3, m4⟩ := M8.out.c5
      go_upto_block 2 with fail
      clear ht0 ht3 ht4
      clear m0 m1 m2 m3 m4
      go_wp2_with fail
      go_loopw [18] (fun si wr => ∃ (k : Nat) (m : Int) (L : List Int) (A2 : Option Addr) (c2 : Nat), k ≤ l.length ∧ m = (k : Int) - 1 ∧ si = .int .i64 m ∧ Hid (Lv12 h cx l k L) ∧ Hid (Lies wr bg 24 #[.slice A2 (pt12 h cx L).objs.length c2, .int .i64 (pt12 h cx L).cap, .int .i64 (pt12 h cx L).last]) ∧ Hid (Fr12 w wr A2 c2 (pt12 h cx L).objs) ∧ Hid (Lies wr w.heap.size 24 #[Value.slice A h.objs.length c, Value.int .i64 h.cap, Value.int .i64 h.last]) ∧ Hid (Lies wr bx 32 #[.int .i64 M3.prim, .int .i64 M3.args, .int .i64 M3.temps, .slice CA M3.code.length cc, .slice LA M3.lits.length lc]) ∧ Hid (Below w.heap.size w wr)) (fun si _ => (intOf si + 1).toNat)
      case atStart => exact ⟨k, _, L, A2, c2, hk, rfl, by go_num, HLV, by rw [← HG.out]; exact G8, by rw [← HG.out]; exact FO8, HX8, M8, HB8⟩
      case round =>
        clear hk hk20 HLV HG QL G8 FO8 HX8 M8 HB8
        obtain ⟨k, m, L, A2, c2, hk, hm, rfl, HLV, G9, FO9, HX9, M9, HB9⟩ := hrel
        rename World => w9
        obtain ⟨g, hg⟩ : ∃ g, g = pt12 h cx L := ⟨_, rfl⟩
        rw [← hg] at G9 FO9
        have HG := hid hg
        clear hg
        have QL := hid (lv_ctx12 HM.out HLV.out)
        rw [← HG.out] at QL
        have hk20 : k ≤ 20 := by have := HL20.out; omega
        cases k with
        | zero =>
          have e1 : m = -1 := by rw [hm]; rfl
          subst e1
          clear hm
          obtain ⟨x0, x1, x2⟩ := HX9.out.c3
          obtain ⟨g0, g1, g2⟩ := G9.out.c3
          go_wp2_with fail
          rw [HG.out]
          refine (clean_any12 h cx L (6 + (sp12 h cx).toNat) A2 c2 A c _ HM.out (lv_cl12 HM.out HLV.out) (by have := temps_sp12 HM.out; omega) (by rw [← HG.out]; exact FO9.out.obs) (HS.out.below HB9.out)).mono ?_
          rintro e wz ⟨rfl, hb⟩
          go_wp2_with fail
          go_ret
          exact ⟨rfl, then_w HB9.out hb⟩
        | succ j =>
          have e1 : m = (j : Int) := by rw [hm]; omega
          subst e1
          clear hm
          obtain ⟨L2, r1, r2⟩ := lv_pop12 HM.out HLV.out
          obtain ⟨xk, hxk⟩ : ∃ x, x = l.getD j 0 := ⟨_, rfl⟩
          rw [← hxk, ← HG.out] at r1
          have HXK := hid hxk
          obtain ⟨bs, os, hsb, hbs, hcs⟩ := (HSA.out.below HB9.out) (by omega)
          have hjI : (j : Int) < (l.length : Int) := by omega
          have hj0 : (0 : Int) ≤ (j : Int) := by omega
          subst hsb
          obtain ⟨g3, hg3⟩ : ∃ x, x = pt12 h cx L2 := ⟨_, rfl⟩
          rw [← hg3] at r1
          have HG3 := hid hg3
          have R1 := hid r1
          have R2 := hid r2
          clear hcs hxk hg3 r1 r2 hbs
          obtain ⟨g0, g1, g2⟩ := G9.out.c3
          go_wp2_with fail
          refine (cpop_any12 g cx A2 c2 _ FO9.out.obs (may_fit (may_parts12 QL.out.1).1) (may_mod12 (may_parts12 QL.out.1).1)).mono ?_
          rintro e w10 ⟨A3, c3, l3, rfl, hm9, ho9, hb⟩
          clear g0 g1 g2
          rw [R1.out] at hm9
          rw [R1.out]
          have HB10 := hid (then_w HB9.out hb)
          have HX10 := hid (HX9.out.later hb)
          have M10 := hid (M9.out.later hb)
          have G10 := hid (G9.out.later hb)
          have FO10 := hid (FO9.out.later hb)
          clear hb
          clear HB9 HX9 M9 G9 FO9
          have FN10 : Hid (Fr12 w w10 A3 c3 g3.objs) := hid (.inr ⟨_, _, ho9, hm9⟩)
          clear ho9 hm9
          go_upto_region 22 with fail
          obtain ⟨w11, hw⟩ : ∃ x, x = w10.alloc (.cells #[.slice A3 g3.objs.length c3, .int .i64 g3.cap, .int .i64 g3.last] 24) := ⟨_, rfl⟩
          obtain ⟨bn, hbx⟩ : ∃ x, x = w10.heap.size := ⟨_, rfl⟩
          have N11 : Hid (Lies w11 bn 24 #[.slice A3 g3.objs.length c3, .int .i64 g3.cap, .int .i64 g3.last]) := by show Lies _ _ _ _; rw [hw, hbx]; exact Lies.new _ _ _
          have hb : Below w10.heap.size w10 w11 := by rw [hw]; exact below_alloc _ _
          rw [← hw, ← hbx]
          have ne_HX_N : Hid (w.heap.size ≠ bn) := by show _ ≠ _; rw [hbx]; exact Nat.ne_of_lt HX10.out.lt
          have ne_M_N : Hid (bx ≠ bn) := by show _ ≠ _; rw [hbx]; exact Nat.ne_of_lt M10.out.lt
          have ne_G_N : Hid (bg ≠ bn) := by show _ ≠ _; rw [hbx]; exact Nat.ne_of_lt G10.out.lt
          have le_HB_N : Hid (w.heap.size ≤ bn) := by show _ ≤ _; rw [hbx]; exact HB10.out.size
          clear hbx hw
          have HB11 := hid (then_w HB10.out hb)
          have HX11 := hid (HX10.out.later hb)
          have M11 := hid (M10.out.later hb)
          have G11 := hid (G10.out.later hb)
          have FO11 := hid (FO10.out.later hb)
          have FN11 := hid (FN10.out.later hb)
          clear hb
          clear HB10 HX10 M10 G10 FO10 FN10
          obtain ⟨bs2, os2, hsb2, hbs2, hcs2⟩ := (HSA.out.below HB11.out) (by omega)
          obtain ⟨rfl, rfl⟩ : bs2 = bs ∧ os2 = os := by
            injection hsb2 with hsb2
            injection hsb2 with h1 h2
            exact ⟨h1.symm, h2.symm⟩
          have q0 : w11.cell? ⟨bs2, os2 + j, none⟩ = some (.int .i64 xk) := by
            have h1 := hcs2 j (l.getD j 0) (by rw [List.getD_eq_getElem?_getD, List.getElem?_eq_getElem (by omega)]; rfl)
            rw [h1, HXK.out]
          clear hcs2 hsb2 hbs2
          go_upto_region 24 with fail
          clear q0
          obtain ⟨g0, g1, g2⟩ := G11.out.c3
          obtain ⟨gf0, gf1, gf2⟩ := G11.out.f3
          obtain ⟨n0, n1, n2⟩ := N11.out.c3
          go_upto_region 20 with fail
          obtain ⟨w12, hw⟩ : ∃ x, x = (((w11.setCell ⟨bg, 0, none⟩ (.slice A3 g3.objs.length c3)).setCell ⟨bg, 1, none⟩ (.int .i64 g3.cap)).setCell ⟨bg, 2, none⟩ (.int .i64 g3.last)) := ⟨_, rfl⟩
          have HB12 : Hid (Below w.heap.size w w12) := by show Below _ _ _; rw [hw]; exact below_s3 HB11.out le_HB_G.out (.slice A3 g3.objs.length c3) (.int .i64 g3.cap) (.int .i64 g3.last)
          have FO12 : Hid (Fr12 w w12 A2 c2 g.objs) := by show Fr12 _ _ _ _ _; rw [hw]; exact FO11.out.s3 le_HB_G.out G11.out (.slice A3 g3.objs.length c3) (.int .i64 g3.cap) (.int .i64 g3.last)
          have FN12 : Hid (Fr12 w w12 A3 c3 g3.objs) := by show Fr12 _ _ _ _ _; rw [hw]; exact FN11.out.s3 le_HB_G.out G11.out (.slice A3 g3.objs.length c3) (.int .i64 g3.cap) (.int .i64 g3.last)
          have HX12 : Hid (Lies w12 w.heap.size 24 #[.slice A h.objs.length c, .int .i64 h.cap, .int .i64 h.last]) := by show Lies _ _ _ _; rw [hw]; exact (((HX11.out.far (p := ⟨bg, 0, none⟩) (ne_HX_G.out) (.slice A3 g3.objs.length c3)).far (p := ⟨bg, 1, none⟩) (ne_HX_G.out) (.int .i64 g3.cap)).far (p := ⟨bg, 2, none⟩) (ne_HX_G.out) (.int .i64 g3.last))
          have M12 : Hid (Lies w12 bx 32 #[.int .i64 M3.prim, .int .i64 M3.args, .int .i64 M3.temps, .slice CA M3.code.length cc, .slice LA M3.lits.length lc]) := by show Lies _ _ _ _; rw [hw]; exact (((M11.out.far (p := ⟨bg, 0, none⟩) (ne_M_G.out) (.slice A3 g3.objs.length c3)).far (p := ⟨bg, 1, none⟩) (ne_M_G.out) (.int .i64 g3.cap)).far (p := ⟨bg, 2, none⟩) (ne_M_G.out) (.int .i64 g3.last))
          have G12 : Hid (Lies w12 bg 24 #[.slice A3 g3.objs.length c3, .int .i64 g3.cap, .int .i64 g3.last]) := by show Lies _ _ _ _; rw [hw]; exact (((G11.out.set_ 0 (.slice A3 g3.objs.length c3)).set_ 1 (.int .i64 g3.cap)).set_ 2 (.int .i64 g3.last))
          have N12 : Hid (Lies w12 bn 24 #[.slice A3 g3.objs.length c3, .int .i64 g3.cap, .int .i64 g3.last]) := by show Lies _ _ _ _; rw [hw]; exact (((N11.out.far (p := ⟨bg, 0, none⟩) (ne_G_N.out.symm) (.slice A3 g3.objs.length c3)).far (p := ⟨bg, 1, none⟩) (ne_G_N.out.symm) (.int .i64 g3.cap)).far (p := ⟨bg, 2, none⟩) (ne_G_N.out.symm) (.int .i64 g3.last))
          rw [← hw]
          clear hw
          clear gf0 gf1 gf2 g0 g1 g2 n0 n1 n2
          clear HB11 HX11 M11 G11 N11 FO11 FN11
          go_wp2_with fail
          go_roundw
          case rel => exact ⟨j, _, L2, A3, c3, by omega, rfl, by go_num, R2, by rw [← HG3.out]; exact G12, by rw [← HG3.out]; exact FN12, HX12, M12, HB12⟩
          case measure => simp [intOf]
end Go.Proofs.YtalfbdigjaibkaaGreat
