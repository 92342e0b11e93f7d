/- FrameGoes. -/
import Derived.Test.YtgocodnehppniaaGreatUC12
import Derived.Test.YtgocodnehppniaaGreatUM12
namespace Go.Proofs.YtgocodnehppniaaGreat
open Go.RowKit
set_option maxRecDepth 100000
set_option maxHeartbeats 4000000 in
theorem framegoes_any12 (h : Hp) (cx ip : Int) (A : Option Addr) (c : Nat) (w : World) (hs : ObsR w A h.objs) (fit : h.Fit) :
    Calls Tryz.prog 8 #[.agg #[.slice A h.objs.length c, .int .i64 h.cap, .int .i64 h.last], .int .i64 cx, .int .i64 ip] w fun e w' => e = .returned (.bool true) ∧ Below w.heap.size w w' := by
  obtain ⟨w0, hw0⟩ : ∃ w0, w0 = w.alloc (.cells #[Value.slice A h.objs.length c, Value.int .i64 h.cap, Value.int .i64 h.last] 24) := ⟨_, rfl⟩
  have HB0 : Hid (Below w.heap.size w w0) := by show Below _ _ _; rw [hw0]; exact below_alloc _ _
  have HX0 : Hid (Lies w0 w.heap.size 24 #[Value.slice A h.objs.length c, Value.int .i64 h.cap, Value.int .i64 h.last]) := by show Lies _ _ _ _; rw [hw0]; exact (Lies.new w _ _)
  have HS := hid hs
  have HF := hid fit
  clear hs fit
  go_enter Tryz.func8, Tryz.ntmps8
  go_upto_region 1 with fail
  rw [← hw0]
  clear hw0
  go_wp2_with fail
  refine (fixed12_any _).mono ?_
  rintro e w1 ⟨rfl, hb⟩
  have HB1 := hid (then_w HB0.out hb)
  have HX1 := hid (HX0.out.later hb)
  clear hb
  clear HB0 HX0
  have x0 := HX1.out.cell 0
  have x1 := HX1.out.cell 1
  have x2 := HX1.out.cell 2
  simp only [List.getElem?_toArray, List.getElem?_cons_zero, List.getElem?_cons_succ] at x0 x1 x2
  go_wp2_with fail
  refine (small_ok h A c _ (HS.out.below HB1.out) HF.out).mono ?_
  rintro e w2 ⟨sb, rfl, hb⟩
  clear x0 x1 x2
  have HB2 := hid (then_w HB1.out hb)
  have HX2 := hid (HX1.out.later hb)
  clear hb
  clear HB1 HX1
  cases sb
  · have x0 := HX2.out.cell 0
    have x1 := HX2.out.cell 1
    have x2 := HX2.out.cell 2
    simp only [List.getElem?_toArray, List.getElem?_cons_zero, List.getElem?_cons_succ] at x0 x1 x2
    go_wp2_with fail
    refine (fixed12_any _).mono ?_
    rintro e w3 ⟨rfl, hb⟩
    clear x0 x1 x2
    have HB3 := hid (then_w HB2.out hb)
    have HX3 := hid (HX2.out.later hb)
    clear hb
    clear HB2 HX2
    go_wp2_with fail
    go_ret
    exact ⟨rfl, HB3.out⟩
  by_cases h60 : h.objs.length ≤ 60
  case neg =>
    have hI60 : (60 : Int) < (h.objs.length : Int) := by omega
    have x0 := HX2.out.cell 0
    have x1 := HX2.out.cell 1
    have x2 := HX2.out.cell 2
    simp only [List.getElem?_toArray, List.getElem?_cons_zero, List.getElem?_cons_succ] at x0 x1 x2
    go_wp2_with fail
    refine (fixed12_any _).mono ?_
    rintro e w3 ⟨rfl, hb⟩
    clear x0 x1 x2
    have HB3 := hid (then_w HB2.out hb)
    have HX3 := hid (HX2.out.later hb)
    clear hb
    clear HB2 HX2
    go_wp2_with fail
    go_ret
    exact ⟨rfl, HB3.out⟩
  have hI60 : ¬ (60 : Int) < (h.objs.length : Int) := by omega
  have x0 := HX2.out.cell 0
  have x1 := HX2.out.cell 1
  have x2 := HX2.out.cell 2
  simp only [List.getElem?_toArray, List.getElem?_cons_zero, List.getElem?_cons_succ] at x0 x1 x2
  go_wp2_with fail
  refine (rmay_any12 h cx A c _ (HS.out.below HB2.out) HF.out).mono ?_
  rintro e w3 ⟨rfl, hb⟩
  clear x0 x1 x2
  have HB3 := hid (then_w HB2.out hb)
  have HX3 := hid (HX2.out.later hb)
  clear hb
  clear HB2 HX2
  cases hm : may12 h cx
  · clear hm
    have x0 := HX3.out.cell 0
    have x1 := HX3.out.cell 1
    have x2 := HX3.out.cell 2
    simp only [List.getElem?_toArray, List.getElem?_cons_zero, List.getElem?_cons_succ] at x0 x1 x2
    go_wp2_with fail
    refine (fixed12_any _).mono ?_
    rintro e w4 ⟨rfl, hb⟩
    clear x0 x1 x2
    have HB4 := hid (then_w HB3.out hb)
    have HX4 := hid (HX3.out.later hb)
    clear hb
    clear HB3 HX3
    go_wp2_with fail
    go_ret
    exact ⟨rfl, HB4.out⟩
  have HM := hid hm
  clear hm hI60
  have H22 := hid (ctx_len12 HM.out)
  obtain ⟨v3, hv3⟩ : ∃ v, v = sl12 h cx 3 := ⟨_, rfl⟩
  obtain ⟨M3, hM3⟩ : ∃ M, M = (mt12 h v3).1 := ⟨_, rfl⟩
  obtain ⟨e3, he3⟩ : ∃ e, e = (mt12 h v3).2 := ⟨_, rfl⟩
  have V3 := hid hv3
  have HM3 := hid hM3
  have HE3 := hid he3
  have HCM : Hid (cm12 h cx = M3) := by show _ = _; unfold cm12; rw [← V3.out, hM3]
  clear hv3 hM3 he3
  have x0 := HX3.out.cell 0
  have x1 := HX3.out.cell 1
  have x2 := HX3.out.cell 2
  simp only [List.getElem?_toArray, List.getElem?_cons_zero, List.getElem?_cons_succ] at x0 x1 x2
  go_upto_region 3 with fail
  go_cut [7, 8] from 39 to 48 (fun p z wx => ∃ bx CA cc LA lc, p = .pointer (some ⟨bx, 0, none⟩) ∧ z = .int .i64 e3 ∧ Hid (Lies wx bx 32 #[.int .i64 M3.prim, .int .i64 M3.args, .int .i64 M3.temps, .slice CA M3.code.length cc, .slice LA M3.lits.length lc]) ∧ Hid (Below w3.heap.size w3 wx) ∧ Hid (InsR wx CA M3.code))
  case first =>
    have BB0 := hid ((Below.refl w3.heap.size w3).drew)
    have z0 := cell_later BB0.out x0
    have z1 := cell_later BB0.out x1
    have z2 := cell_later BB0.out x2
    refine wp_region_held_drew (S := (fun w' => w'.cell? ⟨w.heap.size, 0, none⟩ = some (.slice A h.objs.length c) ∧ w'.cell? ⟨w.heap.size, 1, none⟩ = some (.int .i64 h.cap) ∧ w'.cell? ⟨w.heap.size, 2, none⟩ = some (.int .i64 h.last))) (by kernel_rfl) ?_ (fun hH0 => ?_)
    · exact ⟨cell_later BB0.out x0, cell_later BB0.out x1, cell_later BB0.out x2⟩
    refine wpAnyH_take (i := 0) (oi := { dst := some 40, op := Go.Op.load 24 (Go.Operand.tmp 3), type := 24, pos := "law.go:171", after := #[], guard := none }) (v := ?vv1) rfl (by kernel_rfl) (by kernel_rfl) (by kernel_rfl) (fun _ _ _ h => h) (Or.inl ⟨by rfl, ?hy1⟩) (by assumption) ?rr1
    case hy1 => intro w hSw; (try dsimp only at hSw); go_simp; all_goals with_reducible rfl
    try simp only [Act.put, List.setIfInBounds_toArray, List.set_cons_zero, List.set_cons_succ]
    refine wpAnyH_take (i := 1) (oi := { dst := some 41, op := Go.Op.load 24 (Go.Operand.tmp 3), type := 24, pos := "law.go:171", after := #[], guard := none }) (v := ?vv2) rfl (by kernel_rfl) (by kernel_rfl) (by kernel_rfl) (fun _ _ _ h => h) (Or.inl ⟨by rfl, ?hy2⟩) (by assumption) ?rr2
    case hy2 => intro w hSw; (try dsimp only at hSw); go_simp; all_goals with_reducible rfl
    try simp only [Act.put, List.setIfInBounds_toArray, List.set_cons_zero, List.set_cons_succ]
    refine wpAnyH_take (i := 2) (oi := { dst := some 42, op := Go.Op.move (Go.Operand.tmp 1), type := 3, pos := "law.go:171", after := #[], guard := none }) (v := ?vv3) rfl (by kernel_rfl) (by kernel_rfl) (by kernel_rfl) (fun _ _ _ h => h) (Or.inl ⟨by rfl, ?hy3⟩) (by assumption) ?rr3
    case hy3 => intro w hSw; (try dsimp only at hSw); go_simp; all_goals with_reducible rfl
    try simp only [Act.put, List.setIfInBounds_toArray, List.set_cons_zero, List.set_cons_succ]
    refine wpAnyH_ready (rs := [3, 10]) (by kernel_rfl) (by simp) ?_
    refine AllReadyH.cons (i := 3) (o := { dst := some 43, op := Go.Op.call { callee := Go.Callee.value (Go.Operand.func 31), args := #[Go.Operand.tmp 41, Go.Operand.tmp 42], argTypes := #[24, 3] }, type := 30, pos := "law.go:171", after := #[{ on := 1, ground := Go.Ground.data }, { on := 2, ground := Go.Ground.data }], guard := none }) rfl (fun K hK => ?_) (AllReadyH.cons (i := 10) (o := { dst := some 7, op := Go.Op.alloc 32, type := 0, pos := "law.go:171", after := #[], guard := none }) rfl (fun K hK => ?_) AllReadyH.nil)
    · go_simp
      go_at_call 31
      refine (rslots_any12 h cx A c _ (HS.out.below (then_w HB3.out BB0.out))).mono ?_
      rintro e u1 ⟨S, d, rfl, hin, -, hb⟩
      have hll := H22.out
      obtain ⟨bl, ol, rfl, hbl, hcl⟩ := hin (by omega)
      have q3 := hcl 3 (sl12 h cx 3) (by
        unfold sl12
        rw [List.getElem?_eq_getElem (by omega), List.getD_eq_getElem?_getD, List.getElem?_eq_getElem (by omega)]; rfl)
      rw [← V3.out] at q3
      rw [hll]
      have BB1 := hid (then_w BB0.out hb)
      have QC1 := hid q3
      refine hK.out _ _ ?_ (fun hH1 => ?_)
      · exact ⟨cell_later BB1.out x0, cell_later BB1.out x1, cell_later BB1.out x2⟩
      clear hK K
      try simp only [Act.put, List.setIfInBounds_toArray, List.set_cons_zero, List.set_cons_succ]
      clear hb hin hbl hcl q3 hll
      refine wpAnyH_take (i := 4) (oi := { dst := some 44, op := Go.Op.indexAddr 30 (Go.Operand.tmp 43) (Go.Operand.const (Go.Value.int Go.IntKind.i64 3)), type := 0, pos := "law.go:171", after := #[{ on := 3, ground := Go.Ground.data }], guard := none }) (v := ?vv4) rfl (by kernel_rfl) (by kernel_rfl) (by kernel_rfl) (fun _ _ _ h => h) (Or.inl ⟨by rfl, ?hy4⟩) (by assumption) ?rr4
      case hy4 => intro w hSw; (try dsimp only at hSw); go_simp; all_goals with_reducible rfl
      try simp only [Act.put, List.setIfInBounds_toArray, List.set_cons_zero, List.set_cons_succ]
      refine wpAnyH_ready (rs := [5, 10]) (by kernel_rfl) (by simp) ?_
      refine AllReadyH.cons (i := 5) (o := { dst := some 45, op := Go.Op.load 3 (Go.Operand.tmp 44), type := 3, pos := "law.go:171", after := #[{ on := 4, ground := Go.Ground.data }], guard := none }) rfl (fun K hK => ?_) (AllReadyH.cons (i := 10) (o := { dst := some 7, op := Go.Op.alloc 32, type := 0, pos := "law.go:171", after := #[], guard := none }) rfl (fun K hK => ?_) AllReadyH.nil)
      · have q3 := QC1.out
        go_simp
        refine hK.out _ _ ?_ (fun hH2 => ?_)
        · exact hH1
        clear hK K
        try simp only [Act.put, List.setIfInBounds_toArray, List.set_cons_zero, List.set_cons_succ]
        clear q3
        refine wpAnyH_ready (rs := [6, 10]) (by kernel_rfl) (by simp) ?_
        refine AllReadyH.cons (i := 6) (o := { dst := some 46, op := Go.Op.call { callee := Go.Callee.value (Go.Operand.func 12), args := #[Go.Operand.tmp 40, Go.Operand.tmp 45], argTypes := #[24, 3] }, type := 34, pos := "law.go:171", after := #[{ on := 0, ground := Go.Ground.data }, { on := 5, ground := Go.Ground.data }, { on := 3, ground := Go.Ground.chain }], guard := none }) rfl (fun K hK => ?_) (AllReadyH.cons (i := 10) (o := { dst := some 7, op := Go.Op.alloc 32, type := 0, pos := "law.go:171", after := #[], guard := none }) rfl (fun K hK => ?_) AllReadyH.nil)
        · go_simp
          go_at_call 12
          refine (rmethod_any12 h v3 _ c _ (HS.out.below (then_w HB3.out BB1.out)) HF.out).mono ?_
          rintro e u3 ⟨CA, cc, LA, lc, rfl, hins, -, hb, hfr⟩
          rw [← HM3.out] at hins
          rw [← HM3.out, ← HE3.out]
          have BB3 := hid (then_w BB1.out hb)
          have IC3 := hid hins
          refine hK.out _ _ ?_ (fun hH3 => ?_)
          · exact ⟨cell_later BB3.out x0, cell_later BB3.out x1, cell_later BB3.out x2⟩
          clear hK K
          try simp only [Act.put, List.setIfInBounds_toArray, List.set_cons_zero, List.set_cons_succ]
          clear hb hins hfr
          refine wpAnyH_take (i := 7) (oi := { dst := some 39, op := Go.Op.move (Go.Operand.tmp 46), type := 34, pos := "law.go:171", after := #[{ on := 6, ground := Go.Ground.data }], guard := none }) (v := ?vv5) rfl (by kernel_rfl) (by kernel_rfl) (by kernel_rfl) (fun _ _ _ h => h) (Or.inl ⟨by rfl, ?hy5⟩) (by assumption) ?rr5
          case hy5 => intro w hSw; (try dsimp only at hSw); go_simp; all_goals with_reducible rfl
          try simp only [Act.put, List.setIfInBounds_toArray, List.set_cons_zero, List.set_cons_succ]
          refine wpAnyH_take (i := 8) (oi := { dst := some 47, op := Go.Op.extract (Go.Operand.tmp 39) 0, type := 32, pos := "law.go:171", after := #[{ on := 7, ground := Go.Ground.data }], guard := none }) (v := ?vv6) rfl (by kernel_rfl) (by kernel_rfl) (by kernel_rfl) (fun _ _ _ h => h) (Or.inl ⟨by rfl, ?hy6⟩) (by assumption) ?rr6
          case hy6 => intro w hSw; (try dsimp only at hSw); go_simp; all_goals with_reducible rfl
          try simp only [Act.put, List.setIfInBounds_toArray, List.set_cons_zero, List.set_cons_succ]
          refine wpAnyH_take (i := 9) (oi := { dst := some 48, op := Go.Op.extract (Go.Operand.tmp 39) 1, type := 33, pos := "law.go:171", after := #[{ on := 7, ground := Go.Ground.data }, { on := 11, ground := Go.Ground.gcOnly Go.Departure.lateStores }], guard := none }) (v := ?vv7) rfl (by kernel_rfl) (by kernel_rfl) (by kernel_rfl) (fun _ _ _ h => h) (Or.inl ⟨by rfl, ?hy7⟩) (by assumption) ?rr7
          case hy7 => intro w hSw; (try dsimp only at hSw); go_simp; all_goals with_reducible rfl
          try simp only [Act.put, List.setIfInBounds_toArray, List.set_cons_zero, List.set_cons_succ]
          refine wpAnyH_ready (rs := [10]) (by kernel_rfl) (by simp) ?_
          refine AllReadyH.cons (i := 10) (o := { dst := some 7, op := Go.Op.alloc 32, type := 0, pos := "law.go:171", after := #[], guard := none }) rfl (fun K hK => ?_) AllReadyH.nil
          go_simp
          obtain ⟨u4, hu⟩ : ∃ x, x = u3.alloc (.cells #[.int .i64 0, .int .i64 0, .int .i64 0, .slice none 0 0, .slice none 0 0] 32) := ⟨_, rfl⟩
          obtain ⟨bx, hg⟩ : ∃ x, x = u3.heap.size := ⟨_, rfl⟩
          have hb : Below u3.heap.size u3 u4 := by rw [hu]; exact below_alloc u3 _
          have HX9 : Hid (w3.heap.size ≤ bx) := by show _ ≤ _; rw [hg]; exact BB3.out.size
          have LB4 := hid (show Lies u4 bx 32 #[.int .i64 0, .int .i64 0, .int .i64 0, .slice none 0 0, .slice none 0 0] by rw [hu, hg]; exact Lies.new u3 _ _)
          have BB4 := hid (then_w BB3.out hb)
          have HNE : Hid (0 < M3.code.length → ∀ k o s, CA = some ⟨k, o, s⟩ → k ≠ bx) := fun hn k o s e => by
            obtain ⟨b9, o9, e9, hl9, -⟩ := IC3.out hn
            rw [e9] at e
            injection e with e
            injection e with e
            omega
          have IC4 := hid (IC3.out.below hb)
          try simp only [← hg]
          try rw [← hu]
          refine hK.out _ _ ?_ (fun hH4 => ?_)
          · exact ⟨cell_later BB4.out x0, cell_later BB4.out x1, cell_later BB4.out x2⟩
          clear hK K
          try simp only [Act.put, List.setIfInBounds_toArray, List.set_cons_zero, List.set_cons_succ]
          clear hb hu hg
          refine wpAnyH_ready (rs := [11]) (by kernel_rfl) (by simp) ?_
          refine AllReadyH.cons (i := 11) (o := { dst := none, op := Go.Op.store 32 (Go.Operand.tmp 7) (Go.Operand.tmp 47), type := 0, pos := "law.go:171", after := #[{ on := 10, ground := Go.Ground.data }, { on := 8, ground := Go.Ground.data }, { on := 6, ground := Go.Ground.chain }, { on := 0, ground := Go.Ground.phase }, { on := 1, ground := Go.Ground.phase }, { on := 2, ground := Go.Ground.phase }, { on := 3, ground := Go.Ground.phase }, { on := 4, ground := Go.Ground.phase }, { on := 5, ground := Go.Ground.phase }, { on := 6, ground := Go.Ground.phase }, { on := 7, ground := Go.Ground.phase }, { on := 8, ground := Go.Ground.phase }, { on := 9, ground := Go.Ground.textOnly Go.Departure.lateStores }, { on := 10, ground := Go.Ground.phase }], guard := none }) rfl (fun K hK => ?_) AllReadyH.nil
          have r0 := LB4.out.cell 0
          have f0 := LB4.out.frozen 0
          have r1 := LB4.out.cell 1
          have f1 := LB4.out.frozen 1
          have r2 := LB4.out.cell 2
          have f2 := LB4.out.frozen 2
          have r3 := LB4.out.cell 3
          have f3 := LB4.out.frozen 3
          have r4 := LB4.out.cell 4
          have f4 := LB4.out.frozen 4
          simp only [List.getElem?_toArray, List.getElem?_cons_zero, List.getElem?_cons_succ] at r0 r1 r2 r3 r4
          have BB5 := hid (below_five12 BB4.out HX9.out (.int .i64 M3.prim) (.int .i64 M3.args) (.int .i64 M3.temps) (.slice CA M3.code.length cc) (.slice LA M3.lits.length lc))
          have LF : Hid (Lies (((((u4.setCell ⟨bx, 0, none⟩ (.int .i64 M3.prim)).setCell ⟨bx, 1, none⟩ (.int .i64 M3.args)).setCell ⟨bx, 2, none⟩ (.int .i64 M3.temps)).setCell ⟨bx, 3, none⟩ (.slice CA M3.code.length cc)).setCell ⟨bx, 4, none⟩ (.slice LA M3.lits.length lc)) bx 32 #[.int .i64 M3.prim, .int .i64 M3.args, .int .i64 M3.temps, .slice CA M3.code.length cc, .slice LA M3.lits.length lc]) := by
            show Lies _ _ _ _
            exact (((((LB4.out.set_ 0 (.int .i64 M3.prim)).set_ 1 (.int .i64 M3.args)).set_ 2 (.int .i64 M3.temps)).set_ 3 (.slice CA M3.code.length cc)).set_ 4 (.slice LA M3.lits.length lc))
          have IF : Hid (InsR (((((u4.setCell ⟨bx, 0, none⟩ (.int .i64 M3.prim)).setCell ⟨bx, 1, none⟩ (.int .i64 M3.args)).setCell ⟨bx, 2, none⟩ (.int .i64 M3.temps)).setCell ⟨bx, 3, none⟩ (.slice CA M3.code.length cc)).setCell ⟨bx, 4, none⟩ (.slice LA M3.lits.length lc)) CA M3.code) := fun hn => ins_five12 IC4.out (HNE.out hn) (.int .i64 M3.prim) (.int .i64 M3.args) (.int .i64 M3.temps) (.slice CA M3.code.length cc) (.slice LA M3.lits.length lc) hn
          go_simp
          refine hK.out _ _ ?_ (fun hH5 => ?_)
          · exact ⟨cell_later BB5.out x0, cell_later BB5.out x1, cell_later BB5.out x2⟩
          clear hK K
          try simp only [Act.put, List.setIfInBounds_toArray, List.set_cons_zero, List.set_cons_succ]
          clear r0 r1 r2 r3 r4 f0 f1 f2 f3 f4
          refine wpAnyH_take (i := 12) (oi := { dst := some 8, op := Go.Op.assign (Go.Operand.tmp 48), type := 33, pos := "law.go:171", after := #[{ on := 9, ground := Go.Ground.data }, { on := 11, ground := Go.Ground.chain }, { on := 0, ground := Go.Ground.phase }, { on := 1, ground := Go.Ground.phase }, { on := 2, ground := Go.Ground.phase }, { on := 3, ground := Go.Ground.phase }, { on := 4, ground := Go.Ground.phase }, { on := 5, ground := Go.Ground.phase }, { on := 6, ground := Go.Ground.phase }, { on := 7, ground := Go.Ground.phase }, { on := 8, ground := Go.Ground.phase }, { on := 9, ground := Go.Ground.phase }, { on := 10, ground := Go.Ground.phase }, { on := 11, ground := Go.Ground.phase }], guard := none }) (v := ?vv8) rfl (by kernel_rfl) (by kernel_rfl) (by kernel_rfl) (fun _ _ _ h => h) (Or.inl ⟨by rfl, ?hy8⟩) (by assumption) ?rr8
          case hy8 => intro w hSw; (try dsimp only at hSw); go_simp; all_goals with_reducible rfl
          try simp only [Act.put, List.setIfInBounds_toArray, List.set_cons_zero, List.set_cons_succ]
          refine wpAnyH_done (by kernel_rfl) ?_ _
          go_wp2_with fail
          go_meet
          exact ⟨bx, CA, cc, LA, lc, rfl, rfl, LF, BB5, IF⟩
        · go_simp
          obtain ⟨u3, hu⟩ : ∃ x, x = u1.alloc (.cells #[.int .i64 0, .int .i64 0, .int .i64 0, .slice none 0 0, .slice none 0 0] 32) := ⟨_, rfl⟩
          obtain ⟨bx, hg⟩ : ∃ x, x = u1.heap.size := ⟨_, rfl⟩
          have hb : Below u1.heap.size u1 u3 := by rw [hu]; exact below_alloc u1 _
          have HX9 : Hid (w3.heap.size ≤ bx) := by show _ ≤ _; rw [hg]; exact BB1.out.size
          have LB3 := hid (show Lies u3 bx 32 #[.int .i64 0, .int .i64 0, .int .i64 0, .slice none 0 0, .slice none 0 0] by rw [hu, hg]; exact Lies.new u1 _ _)
          have BB3 := hid (then_w BB1.out hb)
          have QC3 := hid (cell_later hb QC1.out)
          try simp only [← hg]
          try rw [← hu]
          refine hK.out _ _ ?_ (fun hH3 => ?_)
          · exact ⟨cell_later BB3.out x0, cell_later BB3.out x1, cell_later BB3.out x2⟩
          clear hK K
          try simp only [Act.put, List.setIfInBounds_toArray, List.set_cons_zero, List.set_cons_succ]
          clear hb hu hg
          refine wpAnyH_ready (rs := [6]) (by kernel_rfl) (by simp) ?_
          refine AllReadyH.cons (i := 6) (o := { dst := some 46, op := Go.Op.call { callee := Go.Callee.value (Go.Operand.func 12), args := #[Go.Operand.tmp 40, Go.Operand.tmp 45], argTypes := #[24, 3] }, type := 34, pos := "law.go:171", after := #[{ on := 0, ground := Go.Ground.data }, { on := 5, ground := Go.Ground.data }, { on := 3, ground := Go.Ground.chain }], guard := none }) rfl (fun K hK => ?_) AllReadyH.nil
          go_simp
          go_at_call 12
          refine (rmethod_any12 h v3 _ c _ (HS.out.below (then_w HB3.out BB3.out)) HF.out).mono ?_
          rintro e u4 ⟨CA, cc, LA, lc, rfl, hins, -, hb, hfr⟩
          rw [← HM3.out] at hins
          rw [← HM3.out, ← HE3.out]
          have BB4 := hid (then_w BB3.out hb)
          have IC4 := hid hins
          have HNE : Hid (0 < M3.code.length → ∀ k o s, CA = some ⟨k, o, s⟩ → k ≠ bx) := fun _ k o s e => by have := hfr k o s e; have := LB3.out.lt; omega
          have LB4 := hid (LB3.out.later hb)
          refine hK.out _ _ ?_ (fun hH4 => ?_)
          · exact ⟨cell_later BB4.out x0, cell_later BB4.out x1, cell_later BB4.out x2⟩
          clear hK K
          try simp only [Act.put, List.setIfInBounds_toArray, List.set_cons_zero, List.set_cons_succ]
          clear hb hins hfr
          refine wpAnyH_take (i := 7) (oi := { dst := some 39, op := Go.Op.move (Go.Operand.tmp 46), type := 34, pos := "law.go:171", after := #[{ on := 6, ground := Go.Ground.data }], guard := none }) (v := ?vv9) rfl (by kernel_rfl) (by kernel_rfl) (by kernel_rfl) (fun _ _ _ h => h) (Or.inl ⟨by rfl, ?hy9⟩) (by assumption) ?rr9
          case hy9 => intro w hSw; (try dsimp only at hSw); go_simp; all_goals with_reducible rfl
          try simp only [Act.put, List.setIfInBounds_toArray, List.set_cons_zero, List.set_cons_succ]
          refine wpAnyH_take (i := 8) (oi := { dst := some 47, op := Go.Op.extract (Go.Operand.tmp 39) 0, type := 32, pos := "law.go:171", after := #[{ on := 7, ground := Go.Ground.data }], guard := none }) (v := ?vv10) rfl (by kernel_rfl) (by kernel_rfl) (by kernel_rfl) (fun _ _ _ h => h) (Or.inl ⟨by rfl, ?hy10⟩) (by assumption) ?rr10
          case hy10 => intro w hSw; (try dsimp only at hSw); go_simp; all_goals with_reducible rfl
          try simp only [Act.put, List.setIfInBounds_toArray, List.set_cons_zero, List.set_cons_succ]
          refine wpAnyH_take (i := 9) (oi := { dst := some 48, op := Go.Op.extract (Go.Operand.tmp 39) 1, type := 33, pos := "law.go:171", after := #[{ on := 7, ground := Go.Ground.data }, { on := 11, ground := Go.Ground.gcOnly Go.Departure.lateStores }], guard := none }) (v := ?vv11) rfl (by kernel_rfl) (by kernel_rfl) (by kernel_rfl) (fun _ _ _ h => h) (Or.inl ⟨by rfl, ?hy11⟩) (by assumption) ?rr11
          case hy11 => intro w hSw; (try dsimp only at hSw); go_simp; all_goals with_reducible rfl
          try simp only [Act.put, List.setIfInBounds_toArray, List.set_cons_zero, List.set_cons_succ]
          refine wpAnyH_ready (rs := [11]) (by kernel_rfl) (by simp) ?_
          refine AllReadyH.cons (i := 11) (o := { dst := none, op := Go.Op.store 32 (Go.Operand.tmp 7) (Go.Operand.tmp 47), type := 0, pos := "law.go:171", after := #[{ on := 10, ground := Go.Ground.data }, { on := 8, ground := Go.Ground.data }, { on := 6, ground := Go.Ground.chain }, { on := 0, ground := Go.Ground.phase }, { on := 1, ground := Go.Ground.phase }, { on := 2, ground := Go.Ground.phase }, { on := 3, ground := Go.Ground.phase }, { on := 4, ground := Go.Ground.phase }, { on := 5, ground := Go.Ground.phase }, { on := 6, ground := Go.Ground.phase }, { on := 7, ground := Go.Ground.phase }, { on := 8, ground := Go.Ground.phase }, { on := 9, ground := Go.Ground.textOnly Go.Departure.lateStores }, { on := 10, ground := Go.Ground.phase }], guard := none }) rfl (fun K hK => ?_) AllReadyH.nil
          have r0 := LB4.out.cell 0
          have f0 := LB4.out.frozen 0
          have r1 := LB4.out.cell 1
          have f1 := LB4.out.frozen 1
          have r2 := LB4.out.cell 2
          have f2 := LB4.out.frozen 2
          have r3 := LB4.out.cell 3
          have f3 := LB4.out.frozen 3
          have r4 := LB4.out.cell 4
          have f4 := LB4.out.frozen 4
          simp only [List.getElem?_toArray, List.getElem?_cons_zero, List.getElem?_cons_succ] at r0 r1 r2 r3 r4
          have BB5 := hid (below_five12 BB4.out HX9.out (.int .i64 M3.prim) (.int .i64 M3.args) (.int .i64 M3.temps) (.slice CA M3.code.length cc) (.slice LA M3.lits.length lc))
          have LF : Hid (Lies (((((u4.setCell ⟨bx, 0, none⟩ (.int .i64 M3.prim)).setCell ⟨bx, 1, none⟩ (.int .i64 M3.args)).setCell ⟨bx, 2, none⟩ (.int .i64 M3.temps)).setCell ⟨bx, 3, none⟩ (.slice CA M3.code.length cc)).setCell ⟨bx, 4, none⟩ (.slice LA M3.lits.length lc)) bx 32 #[.int .i64 M3.prim, .int .i64 M3.args, .int .i64 M3.temps, .slice CA M3.code.length cc, .slice LA M3.lits.length lc]) := by
            show Lies _ _ _ _
            exact (((((LB4.out.set_ 0 (.int .i64 M3.prim)).set_ 1 (.int .i64 M3.args)).set_ 2 (.int .i64 M3.temps)).set_ 3 (.slice CA M3.code.length cc)).set_ 4 (.slice LA M3.lits.length lc))
          have IF : Hid (InsR (((((u4.setCell ⟨bx, 0, none⟩ (.int .i64 M3.prim)).setCell ⟨bx, 1, none⟩ (.int .i64 M3.args)).setCell ⟨bx, 2, none⟩ (.int .i64 M3.temps)).setCell ⟨bx, 3, none⟩ (.slice CA M3.code.length cc)).setCell ⟨bx, 4, none⟩ (.slice LA M3.lits.length lc)) CA M3.code) := fun hn => ins_five12 IC4.out (HNE.out hn) (.int .i64 M3.prim) (.int .i64 M3.args) (.int .i64 M3.temps) (.slice CA M3.code.length cc) (.slice LA M3.lits.length lc) hn
          go_simp
          refine hK.out _ _ ?_ (fun hH5 => ?_)
          · exact ⟨cell_later BB5.out x0, cell_later BB5.out x1, cell_later BB5.out x2⟩
          clear hK K
          try simp only [Act.put, List.setIfInBounds_toArray, List.set_cons_zero, List.set_cons_succ]
          clear r0 r1 r2 r3 r4 f0 f1 f2 f3 f4
          refine wpAnyH_take (i := 12) (oi := { dst := some 8, op := Go.Op.assign (Go.Operand.tmp 48), type := 33, pos := "law.go:171", after := #[{ on := 9, ground := Go.Ground.data }, { on := 11, ground := Go.Ground.chain }, { on := 0, ground := Go.Ground.phase }, { on := 1, ground := Go.Ground.phase }, { on := 2, ground := Go.Ground.phase }, { on := 3, ground := Go.Ground.phase }, { on := 4, ground := Go.Ground.phase }, { on := 5, ground := Go.Ground.phase }, { on := 6, ground := Go.Ground.phase }, { on := 7, ground := Go.Ground.phase }, { on := 8, ground := Go.Ground.phase }, { on := 9, ground := Go.Ground.phase }, { on := 10, ground := Go.Ground.phase }, { on := 11, ground := Go.Ground.phase }], guard := none }) (v := ?vv12) rfl (by kernel_rfl) (by kernel_rfl) (by kernel_rfl) (fun _ _ _ h => h) (Or.inl ⟨by rfl, ?hy12⟩) (by assumption) ?rr12
          case hy12 => intro w hSw; (try dsimp only at hSw); go_simp; all_goals with_reducible rfl
          try simp only [Act.put, List.setIfInBounds_toArray, List.set_cons_zero, List.set_cons_succ]
          refine wpAnyH_done (by kernel_rfl) ?_ _
          go_wp2_with fail
          go_meet
          exact ⟨bx, CA, cc, LA, lc, rfl, rfl, LF, BB5, IF⟩
      · go_simp
        obtain ⟨u2, hu⟩ : ∃ x, x = u1.alloc (.cells #[.int .i64 0, .int .i64 0, .int .i64 0, .slice none 0 0, .slice none 0 0] 32) := ⟨_, rfl⟩
        obtain ⟨bx, hg⟩ : ∃ x, x = u1.heap.size := ⟨_, rfl⟩
        have hb : Below u1.heap.size u1 u2 := by rw [hu]; exact below_alloc u1 _
        have HX9 : Hid (w3.heap.size ≤ bx) := by show _ ≤ _; rw [hg]; exact BB1.out.size
        have LB2 := hid (show Lies u2 bx 32 #[.int .i64 0, .int .i64 0, .int .i64 0, .slice none 0 0, .slice none 0 0] by rw [hu, hg]; exact Lies.new u1 _ _)
        have BB2 := hid (then_w BB1.out hb)
        have QC2 := hid (cell_later hb QC1.out)
        try simp only [← hg]
        try rw [← hu]
        refine hK.out _ _ ?_ (fun hH2 => ?_)
        · exact ⟨cell_later BB2.out x0, cell_later BB2.out x1, cell_later BB2.out x2⟩
        clear hK K
        try simp only [Act.put, List.setIfInBounds_toArray, List.set_cons_zero, List.set_cons_succ]
        clear hb hu hg
        refine wpAnyH_ready (rs := [5]) (by kernel_rfl) (by simp) ?_
        refine AllReadyH.cons (i := 5) (o := { dst := some 45, op := Go.Op.load 3 (Go.Operand.tmp 44), type := 3, pos := "law.go:171", after := #[{ on := 4, ground := Go.Ground.data }], guard := none }) rfl (fun K hK => ?_) AllReadyH.nil
        have q3 := QC2.out
        go_simp
        refine hK.out _ _ ?_ (fun hH3 => ?_)
        · exact hH2
        clear hK K
        try simp only [Act.put, List.setIfInBounds_toArray, List.set_cons_zero, List.set_cons_succ]
        clear q3
        refine wpAnyH_ready (rs := [6]) (by kernel_rfl) (by simp) ?_
        refine AllReadyH.cons (i := 6) (o := { dst := some 46, op := Go.Op.call { callee := Go.Callee.value (Go.Operand.func 12), args := #[Go.Operand.tmp 40, Go.Operand.tmp 45], argTypes := #[24, 3] }, type := 34, pos := "law.go:171", after := #[{ on := 0, ground := Go.Ground.data }, { on := 5, ground := Go.Ground.data }, { on := 3, ground := Go.Ground.chain }], guard := none }) rfl (fun K hK => ?_) AllReadyH.nil
        go_simp
        go_at_call 12
        refine (rmethod_any12 h v3 _ c _ (HS.out.below (then_w HB3.out BB2.out)) HF.out).mono ?_
        rintro e u4 ⟨CA, cc, LA, lc, rfl, hins, -, hb, hfr⟩
        rw [← HM3.out] at hins
        rw [← HM3.out, ← HE3.out]
        have BB4 := hid (then_w BB2.out hb)
        have IC4 := hid hins
        have HNE : Hid (0 < M3.code.length → ∀ k o s, CA = some ⟨k, o, s⟩ → k ≠ bx) := fun _ k o s e => by have := hfr k o s e; have := LB2.out.lt; omega
        have LB4 := hid (LB2.out.later hb)
        refine hK.out _ _ ?_ (fun hH4 => ?_)
        · exact ⟨cell_later BB4.out x0, cell_later BB4.out x1, cell_later BB4.out x2⟩
        clear hK K
        try simp only [Act.put, List.setIfInBounds_toArray, List.set_cons_zero, List.set_cons_succ]
        clear hb hins hfr
        refine wpAnyH_take (i := 7) (oi := { dst := some 39, op := Go.Op.move (Go.Operand.tmp 46), type := 34, pos := "law.go:171", after := #[{ on := 6, ground := Go.Ground.data }], guard := none }) (v := ?vv13) rfl (by kernel_rfl) (by kernel_rfl) (by kernel_rfl) (fun _ _ _ h => h) (Or.inl ⟨by rfl, ?hy13⟩) (by assumption) ?rr13
        case hy13 => intro w hSw; (try dsimp only at hSw); go_simp; all_goals with_reducible rfl
        try simp only [Act.put, List.setIfInBounds_toArray, List.set_cons_zero, List.set_cons_succ]
        refine wpAnyH_take (i := 8) (oi := { dst := some 47, op := Go.Op.extract (Go.Operand.tmp 39) 0, type := 32, pos := "law.go:171", after := #[{ on := 7, ground := Go.Ground.data }], guard := none }) (v := ?vv14) rfl (by kernel_rfl) (by kernel_rfl) (by kernel_rfl) (fun _ _ _ h => h) (Or.inl ⟨by rfl, ?hy14⟩) (by assumption) ?rr14
        case hy14 => intro w hSw; (try dsimp only at hSw); go_simp; all_goals with_reducible rfl
        try simp only [Act.put, List.setIfInBounds_toArray, List.set_cons_zero, List.set_cons_succ]
        refine wpAnyH_take (i := 9) (oi := { dst := some 48, op := Go.Op.extract (Go.Operand.tmp 39) 1, type := 33, pos := "law.go:171", after := #[{ on := 7, ground := Go.Ground.data }, { on := 11, ground := Go.Ground.gcOnly Go.Departure.lateStores }], guard := none }) (v := ?vv15) rfl (by kernel_rfl) (by kernel_rfl) (by kernel_rfl) (fun _ _ _ h => h) (Or.inl ⟨by rfl, ?hy15⟩) (by assumption) ?rr15
        case hy15 => intro w hSw; (try dsimp only at hSw); go_simp; all_goals with_reducible rfl
        try simp only [Act.put, List.setIfInBounds_toArray, List.set_cons_zero, List.set_cons_succ]
        refine wpAnyH_ready (rs := [11]) (by kernel_rfl) (by simp) ?_
        refine AllReadyH.cons (i := 11) (o := { dst := none, op := Go.Op.store 32 (Go.Operand.tmp 7) (Go.Operand.tmp 47), type := 0, pos := "law.go:171", after := #[{ on := 10, ground := Go.Ground.data }, { on := 8, ground := Go.Ground.data }, { on := 6, ground := Go.Ground.chain }, { on := 0, ground := Go.Ground.phase }, { on := 1, ground := Go.Ground.phase }, { on := 2, ground := Go.Ground.phase }, { on := 3, ground := Go.Ground.phase }, { on := 4, ground := Go.Ground.phase }, { on := 5, ground := Go.Ground.phase }, { on := 6, ground := Go.Ground.phase }, { on := 7, ground := Go.Ground.phase }, { on := 8, ground := Go.Ground.phase }, { on := 9, ground := Go.Ground.textOnly Go.Departure.lateStores }, { on := 10, ground := Go.Ground.phase }], guard := none }) rfl (fun K hK => ?_) AllReadyH.nil
        have r0 := LB4.out.cell 0
        have f0 := LB4.out.frozen 0
        have r1 := LB4.out.cell 1
        have f1 := LB4.out.frozen 1
        have r2 := LB4.out.cell 2
        have f2 := LB4.out.frozen 2
        have r3 := LB4.out.cell 3
        have f3 := LB4.out.frozen 3
        have r4 := LB4.out.cell 4
        have f4 := LB4.out.frozen 4
        simp only [List.getElem?_toArray, List.getElem?_cons_zero, List.getElem?_cons_succ] at r0 r1 r2 r3 r4
        have BB5 := hid (below_five12 BB4.out HX9.out (.int .i64 M3.prim) (.int .i64 M3.args) (.int .i64 M3.temps) (.slice CA M3.code.length cc) (.slice LA M3.lits.length lc))
        have LF : Hid (Lies (((((u4.setCell ⟨bx, 0, none⟩ (.int .i64 M3.prim)).setCell ⟨bx, 1, none⟩ (.int .i64 M3.args)).setCell ⟨bx, 2, none⟩ (.int .i64 M3.temps)).setCell ⟨bx, 3, none⟩ (.slice CA M3.code.length cc)).setCell ⟨bx, 4, none⟩ (.slice LA M3.lits.length lc)) bx 32 #[.int .i64 M3.prim, .int .i64 M3.args, .int .i64 M3.temps, .slice CA M3.code.length cc, .slice LA M3.lits.length lc]) := by
          show Lies _ _ _ _
          exact (((((LB4.out.set_ 0 (.int .i64 M3.prim)).set_ 1 (.int .i64 M3.args)).set_ 2 (.int .i64 M3.temps)).set_ 3 (.slice CA M3.code.length cc)).set_ 4 (.slice LA M3.lits.length lc))
        have IF : Hid (InsR (((((u4.setCell ⟨bx, 0, none⟩ (.int .i64 M3.prim)).setCell ⟨bx, 1, none⟩ (.int .i64 M3.args)).setCell ⟨bx, 2, none⟩ (.int .i64 M3.temps)).setCell ⟨bx, 3, none⟩ (.slice CA M3.code.length cc)).setCell ⟨bx, 4, none⟩ (.slice LA M3.lits.length lc)) CA M3.code) := fun hn => ins_five12 IC4.out (HNE.out hn) (.int .i64 M3.prim) (.int .i64 M3.args) (.int .i64 M3.temps) (.slice CA M3.code.length cc) (.slice LA M3.lits.length lc) hn
        go_simp
        refine hK.out _ _ ?_ (fun hH5 => ?_)
        · exact ⟨cell_later BB5.out x0, cell_later BB5.out x1, cell_later BB5.out x2⟩
        clear hK K
        try simp only [Act.put, List.setIfInBounds_toArray, List.set_cons_zero, List.set_cons_succ]
        clear r0 r1 r2 r3 r4 f0 f1 f2 f3 f4
        refine wpAnyH_take (i := 12) (oi := { dst := some 8, op := Go.Op.assign (Go.Operand.tmp 48), type := 33, pos := "law.go:171", after := #[{ on := 9, ground := Go.Ground.data }, { on := 11, ground := Go.Ground.chain }, { on := 0, ground := Go.Ground.phase }, { on := 1, ground := Go.Ground.phase }, { on := 2, ground := Go.Ground.phase }, { on := 3, ground := Go.Ground.phase }, { on := 4, ground := Go.Ground.phase }, { on := 5, ground := Go.Ground.phase }, { on := 6, ground := Go.Ground.phase }, { on := 7, ground := Go.Ground.phase }, { on := 8, ground := Go.Ground.phase }, { on := 9, ground := Go.Ground.phase }, { on := 10, ground := Go.Ground.phase }, { on := 11, ground := Go.Ground.phase }], guard := none }) (v := ?vv16) rfl (by kernel_rfl) (by kernel_rfl) (by kernel_rfl) (fun _ _ _ h => h) (Or.inl ⟨by rfl, ?hy16⟩) (by assumption) ?rr16
        case hy16 => intro w hSw; (try dsimp only at hSw); go_simp; all_goals with_reducible rfl
        try simp only [Act.put, List.setIfInBounds_toArray, List.set_cons_zero, List.set_cons_succ]
        refine wpAnyH_done (by kernel_rfl) ?_ _
        go_wp2_with fail
        go_meet
        exact ⟨bx, CA, cc, LA, lc, rfl, rfl, LF, BB5, IF⟩
    · go_simp
      obtain ⟨u1, hu⟩ : ∃ x, x = (w3.alloc (.cells #[.int .i64 0, .int .i64 0, .int .i64 0, .slice none 0 0, .slice none 0 0] 32)).drew := ⟨_, rfl⟩
      obtain ⟨bx, hg⟩ : ∃ x, x = w3.heap.size := ⟨_, rfl⟩
      have hb : Below w3.drew.heap.size w3.drew u1 := by rw [hu]; exact below_alloc w3.drew _
      have HX9 : Hid (w3.heap.size ≤ bx) := by show _ ≤ _; rw [hg]; exact BB0.out.size
      have LB1 := hid (show Lies u1 bx 32 #[.int .i64 0, .int .i64 0, .int .i64 0, .slice none 0 0, .slice none 0 0] by rw [hu, hg]; exact Lies.new w3.drew _ _)
      have BB1 := hid (then_w BB0.out hb)
      try simp only [← hg]
      try rw [← hu]
      refine hK.out _ _ ?_ (fun hH1 => ?_)
      · exact ⟨cell_later BB1.out x0, cell_later BB1.out x1, cell_later BB1.out x2⟩
      clear hK K
      try simp only [Act.put, List.setIfInBounds_toArray, List.set_cons_zero, List.set_cons_succ]
      clear hb hu hg
      refine wpAnyH_ready (rs := [3]) (by kernel_rfl) (by simp) ?_
      refine AllReadyH.cons (i := 3) (o := { dst := some 43, op := Go.Op.call { callee := Go.Callee.value (Go.Operand.func 31), args := #[Go.Operand.tmp 41, Go.Operand.tmp 42], argTypes := #[24, 3] }, type := 30, pos := "law.go:171", after := #[{ on := 1, ground := Go.Ground.data }, { on := 2, ground := Go.Ground.data }], guard := none }) rfl (fun K hK => ?_) AllReadyH.nil
      go_simp
      go_at_call 31
      refine (rslots_any12 h cx A c _ (HS.out.below (then_w HB3.out BB1.out))).mono ?_
      rintro e u2 ⟨S, d, rfl, hin, -, hb⟩
      have hll := H22.out
      obtain ⟨bl, ol, rfl, hbl, hcl⟩ := hin (by omega)
      have q3 := hcl 3 (sl12 h cx 3) (by
        unfold sl12
        rw [List.getElem?_eq_getElem (by omega), List.getD_eq_getElem?_getD, List.getElem?_eq_getElem (by omega)]; rfl)
      rw [← V3.out] at q3
      rw [hll]
      have BB2 := hid (then_w BB1.out hb)
      have QC2 := hid q3
      have LB2 := hid (LB1.out.later hb)
      refine hK.out _ _ ?_ (fun hH2 => ?_)
      · exact ⟨cell_later BB2.out x0, cell_later BB2.out x1, cell_later BB2.out x2⟩
      clear hK K
      try simp only [Act.put, List.setIfInBounds_toArray, List.set_cons_zero, List.set_cons_succ]
      clear hb hin hbl hcl q3 hll
      refine wpAnyH_take (i := 4) (oi := { dst := some 44, op := Go.Op.indexAddr 30 (Go.Operand.tmp 43) (Go.Operand.const (Go.Value.int Go.IntKind.i64 3)), type := 0, pos := "law.go:171", after := #[{ on := 3, ground := Go.Ground.data }], guard := none }) (v := ?vv17) rfl (by kernel_rfl) (by kernel_rfl) (by kernel_rfl) (fun _ _ _ h => h) (Or.inl ⟨by rfl, ?hy17⟩) (by assumption) ?rr17
      case hy17 => intro w hSw; (try dsimp only at hSw); go_simp; all_goals with_reducible rfl
      try simp only [Act.put, List.setIfInBounds_toArray, List.set_cons_zero, List.set_cons_succ]
      refine wpAnyH_ready (rs := [5]) (by kernel_rfl) (by simp) ?_
      refine AllReadyH.cons (i := 5) (o := { dst := some 45, op := Go.Op.load 3 (Go.Operand.tmp 44), type := 3, pos := "law.go:171", after := #[{ on := 4, ground := Go.Ground.data }], guard := none }) rfl (fun K hK => ?_) AllReadyH.nil
      have q3 := QC2.out
      go_simp
      refine hK.out _ _ ?_ (fun hH3 => ?_)
      · exact hH2
      clear hK K
      try simp only [Act.put, List.setIfInBounds_toArray, List.set_cons_zero, List.set_cons_succ]
      clear q3
      refine wpAnyH_ready (rs := [6]) (by kernel_rfl) (by simp) ?_
      refine AllReadyH.cons (i := 6) (o := { dst := some 46, op := Go.Op.call { callee := Go.Callee.value (Go.Operand.func 12), args := #[Go.Operand.tmp 40, Go.Operand.tmp 45], argTypes := #[24, 3] }, type := 34, pos := "law.go:171", after := #[{ on := 0, ground := Go.Ground.data }, { on := 5, ground := Go.Ground.data }, { on := 3, ground := Go.Ground.chain }], guard := none }) rfl (fun K hK => ?_) AllReadyH.nil
      go_simp
      go_at_call 12
      refine (rmethod_any12 h v3 _ c _ (HS.out.below (then_w HB3.out BB2.out)) HF.out).mono ?_
      rintro e u4 ⟨CA, cc, LA, lc, rfl, hins, -, hb, hfr⟩
      rw [← HM3.out] at hins
      rw [← HM3.out, ← HE3.out]
      have BB4 := hid (then_w BB2.out hb)
      have IC4 := hid hins
      have HNE : Hid (0 < M3.code.length → ∀ k o s, CA = some ⟨k, o, s⟩ → k ≠ bx) := fun _ k o s e => by have := hfr k o s e; have := LB2.out.lt; omega
      have LB4 := hid (LB2.out.later hb)
      refine hK.out _ _ ?_ (fun hH4 => ?_)
      · exact ⟨cell_later BB4.out x0, cell_later BB4.out x1, cell_later BB4.out x2⟩
      clear hK K
      try simp only [Act.put, List.setIfInBounds_toArray, List.set_cons_zero, List.set_cons_succ]
      clear hb hins hfr
      refine wpAnyH_take (i := 7) (oi := { dst := some 39, op := Go.Op.move (Go.Operand.tmp 46), type := 34, pos := "law.go:171", after := #[{ on := 6, ground := Go.Ground.data }], guard := none }) (v := ?vv18) rfl (by kernel_rfl) (by kernel_rfl) (by kernel_rfl) (fun _ _ _ h => h) (Or.inl ⟨by rfl, ?hy18⟩) (by assumption) ?rr18
      case hy18 => intro w hSw; (try dsimp only at hSw); go_simp; all_goals with_reducible rfl
      try simp only [Act.put, List.setIfInBounds_toArray, List.set_cons_zero, List.set_cons_succ]
      refine wpAnyH_take (i := 8) (oi := { dst := some 47, op := Go.Op.extract (Go.Operand.tmp 39) 0, type := 32, pos := "law.go:171", after := #[{ on := 7, ground := Go.Ground.data }], guard := none }) (v := ?vv19) rfl (by kernel_rfl) (by kernel_rfl) (by kernel_rfl) (fun _ _ _ h => h) (Or.inl ⟨by rfl, ?hy19⟩) (by assumption) ?rr19
      case hy19 => intro w hSw; (try dsimp only at hSw); go_simp; all_goals with_reducible rfl
      try simp only [Act.put, List.setIfInBounds_toArray, List.set_cons_zero, List.set_cons_succ]
      refine wpAnyH_take (i := 9) (oi := { dst := some 48, op := Go.Op.extract (Go.Operand.tmp 39) 1, type := 33, pos := "law.go:171", after := #[{ on := 7, ground := Go.Ground.data }, { on := 11, ground := Go.Ground.gcOnly Go.Departure.lateStores }], guard := none }) (v := ?vv20) rfl (by kernel_rfl) (by kernel_rfl) (by kernel_rfl) (fun _ _ _ h => h) (Or.inl ⟨by rfl, ?hy20⟩) (by assumption) ?rr20
      case hy20 => intro w hSw; (try dsimp only at hSw); go_simp; all_goals with_reducible rfl
      try simp only [Act.put, List.setIfInBounds_toArray, List.set_cons_zero, List.set_cons_succ]
      refine wpAnyH_ready (rs := [11]) (by kernel_rfl) (by simp) ?_
      refine AllReadyH.cons (i := 11) (o := { dst := none, op := Go.Op.store 32 (Go.Operand.tmp 7) (Go.Operand.tmp 47), type := 0, pos := "law.go:171", after := #[{ on := 10, ground := Go.Ground.data }, { on := 8, ground := Go.Ground.data }, { on := 6, ground := Go.Ground.chain }, { on := 0, ground := Go.Ground.phase }, { on := 1, ground := Go.Ground.phase }, { on := 2, ground := Go.Ground.phase }, { on := 3, ground := Go.Ground.phase }, { on := 4, ground := Go.Ground.phase }, { on := 5, ground := Go.Ground.phase }, { on := 6, ground := Go.Ground.phase }, { on := 7, ground := Go.Ground.phase }, { on := 8, ground := Go.Ground.phase }, { on := 9, ground := Go.Ground.textOnly Go.Departure.lateStores }, { on := 10, ground := Go.Ground.phase }], guard := none }) rfl (fun K hK => ?_) AllReadyH.nil
      have r0 := LB4.out.cell 0
      have f0 := LB4.out.frozen 0
      have r1 := LB4.out.cell 1
      have f1 := LB4.out.frozen 1
      have r2 := LB4.out.cell 2
      have f2 := LB4.out.frozen 2
      have r3 := LB4.out.cell 3
      have f3 := LB4.out.frozen 3
      have r4 := LB4.out.cell 4
      have f4 := LB4.out.frozen 4
      simp only [List.getElem?_toArray, List.getElem?_cons_zero, List.getElem?_cons_succ] at r0 r1 r2 r3 r4
      have BB5 := hid (below_five12 BB4.out HX9.out (.int .i64 M3.prim) (.int .i64 M3.args) (.int .i64 M3.temps) (.slice CA M3.code.length cc) (.slice LA M3.lits.length lc))
      have LF : Hid (Lies (((((u4.setCell ⟨bx, 0, none⟩ (.int .i64 M3.prim)).setCell ⟨bx, 1, none⟩ (.int .i64 M3.args)).setCell ⟨bx, 2, none⟩ (.int .i64 M3.temps)).setCell ⟨bx, 3, none⟩ (.slice CA M3.code.length cc)).setCell ⟨bx, 4, none⟩ (.slice LA M3.lits.length lc)) bx 32 #[.int .i64 M3.prim, .int .i64 M3.args, .int .i64 M3.temps, .slice CA M3.code.length cc, .slice LA M3.lits.length lc]) := by
        show Lies _ _ _ _
        exact (((((LB4.out.set_ 0 (.int .i64 M3.prim)).set_ 1 (.int .i64 M3.args)).set_ 2 (.int .i64 M3.temps)).set_ 3 (.slice CA M3.code.length cc)).set_ 4 (.slice LA M3.lits.length lc))
      have IF : Hid (InsR (((((u4.setCell ⟨bx, 0, none⟩ (.int .i64 M3.prim)).setCell ⟨bx, 1, none⟩ (.int .i64 M3.args)).setCell ⟨bx, 2, none⟩ (.int .i64 M3.temps)).setCell ⟨bx, 3, none⟩ (.slice CA M3.code.length cc)).setCell ⟨bx, 4, none⟩ (.slice LA M3.lits.length lc)) CA M3.code) := fun hn => ins_five12 IC4.out (HNE.out hn) (.int .i64 M3.prim) (.int .i64 M3.args) (.int .i64 M3.temps) (.slice CA M3.code.length cc) (.slice LA M3.lits.length lc) hn
      go_simp
      refine hK.out _ _ ?_ (fun hH5 => ?_)
      · exact ⟨cell_later BB5.out x0, cell_later BB5.out x1, cell_later BB5.out x2⟩
      clear hK K
      try simp only [Act.put, List.setIfInBounds_toArray, List.set_cons_zero, List.set_cons_succ]
      clear r0 r1 r2 r3 r4 f0 f1 f2 f3 f4
      refine wpAnyH_take (i := 12) (oi := { dst := some 8, op := Go.Op.assign (Go.Operand.tmp 48), type := 33, pos := "law.go:171", after := #[{ on := 9, ground := Go.Ground.data }, { on := 11, ground := Go.Ground.chain }, { on := 0, ground := Go.Ground.phase }, { on := 1, ground := Go.Ground.phase }, { on := 2, ground := Go.Ground.phase }, { on := 3, ground := Go.Ground.phase }, { on := 4, ground := Go.Ground.phase }, { on := 5, ground := Go.Ground.phase }, { on := 6, ground := Go.Ground.phase }, { on := 7, ground := Go.Ground.phase }, { on := 8, ground := Go.Ground.phase }, { on := 9, ground := Go.Ground.phase }, { on := 10, ground := Go.Ground.phase }, { on := 11, ground := Go.Ground.phase }], guard := none }) (v := ?vv21) rfl (by kernel_rfl) (by kernel_rfl) (by kernel_rfl) (fun _ _ _ h => h) (Or.inl ⟨by rfl, ?hy21⟩) (by assumption) ?rr21
      case hy21 => intro w hSw; (try dsimp only at hSw); go_simp; all_goals with_reducible rfl
      try simp only [Act.put, List.setIfInBounds_toArray, List.set_cons_zero, List.set_cons_succ]
      refine wpAnyH_done (by kernel_rfl) ?_ _
      go_wp2_with fail
      go_meet
      exact ⟨bx, CA, cc, LA, lc, rfl, rfl, LF, BB5, IF⟩
  case rest =>
    rename World => w4
    obtain ⟨bx, CA, cc, LA, lc, rfl, rfl, LF, BF, IF⟩ := hcut
    have hb := BF.out
    clear x0 x1 x2
    have HB4 := hid (then_w HB3.out hb)
    have HX4 := hid (HX3.out.later hb)
    clear hb
    clear HB3 HX3
    have M4 := LF
    have I4 := IF
    clear LF IF BF
    have ne_HX_M : Hid (w.heap.size ≠ bx) := by show _ ≠ _; exact lies_ne HX4.out M4.out (by decide)
    obtain ⟨old, hold⟩ : ∃ k, k = (at12 h cx).1 := ⟨_, rfl⟩
    have HOLD := hid hold
    clear hold
    obtain ⟨i0, hi0⟩ : ∃ k, k = (at12 h cx).2.1 := ⟨_, rfl⟩
    have HI0 := hid hi0
    clear hi0
    have x0 := HX4.out.cell 0
    have x1 := HX4.out.cell 1
    have x2 := HX4.out.cell 2
    simp only [List.getElem?_toArray, List.getElem?_cons_zero, List.getElem?_cons_succ] at x0 x1 x2
    go_wp2_with fail
    refine (cat_any12 h cx A c _ (HS.out.below HB4.out) HF.out).mono ?_
    rintro e w5 ⟨rfl, hb⟩
    clear x0 x1 x2
    rw [← HOLD.out, ← HI0.out]
    have HB5 := hid (then_w HB4.out hb)
    have HX5 := hid (HX4.out.later hb)
    have M5 := hid (M4.out.later hb)
    have I5 := hid (I4.out.below hb)
    clear hb
    clear HB4 HX4 M4 I4
    go_upto_region 5 with fail
    obtain ⟨w6, hw⟩ : ∃ x, x = w5.alloc (.cells #[.int .i64 i0.op, .int .i64 i0.a] 37) := ⟨_, rfl⟩
    obtain ⟨bs, hbx⟩ : ∃ x, x = w5.heap.size := ⟨_, rfl⟩
    have S6 : Hid (Lies w6 bs 37 #[.int .i64 i0.op, .int .i64 i0.a]) := by show Lies _ _ _ _; rw [hw, hbx]; exact Lies.new _ _ _
    have hb : Below w5.heap.size w5 w6 := by rw [hw]; exact below_alloc _ _
    rw [← hw, ← hbx]
    have ne_HX_S : Hid (w.heap.size ≠ bs) := by show _ ≠ _; rw [hbx]; exact Nat.ne_of_lt HX5.out.lt
    have ne_M_S : Hid (bx ≠ bs) := by show _ ≠ _; rw [hbx]; exact Nat.ne_of_lt M5.out.lt
    have at_S : Hid (bs = w5.heap.size) := hbx
    have le_HB_S : Hid (w.heap.size ≤ bs) := by show _ ≤ _; rw [hbx]; exact HB5.out.size
    clear hbx hw
    have HB6 := hid (then_w HB5.out hb)
    have HX6 := hid (HX5.out.later hb)
    have M6 := hid (M5.out.later hb)
    have I6 := hid (I5.out.below hb)
    clear hb
    clear HB5 HX5 M5 I5
    obtain ⟨g1, hg1⟩ : ∃ k, k = (go12 h cx ip).1 := ⟨_, rfl⟩
    have HG1 := hid hg1
    clear hg1
    obtain ⟨q1, hq1⟩ : ∃ k, k = (go12 h cx ip).2 := ⟨_, rfl⟩
    have HQ1 := hid hq1
    clear hq1
    have x0 := HX6.out.cell 0
    have x1 := HX6.out.cell 1
    have x2 := HX6.out.cell 2
    simp only [List.getElem?_toArray, List.getElem?_cons_zero, List.getElem?_cons_succ] at x0 x1 x2
    go_wp2_with fail
    refine (cgo_any12 h cx ip A c _ (HS.out.below HB6.out) HF.out (may_mod12 (may_parts12 HM.out).1)).mono ?_
    rintro e w7 ⟨A2, c2, l2, rfl, hm2, ho2, hb⟩
    clear x0 x1 x2
    rw [← HG1.out] at hm2
    rw [← HG1.out, ← HQ1.out]
    have QM2 := hid hm2
    clear hm2
    have HB7 := hid (then_w HB6.out hb)
    have HX7 := hid (HX6.out.later hb)
    have M7 := hid (M6.out.later hb)
    have S7 := hid (S6.out.later hb)
    have I7 := hid (I6.out.below hb)
    clear hb
    clear HB6 HX6 M6 S6 I6
    have Q7 := hid ho2
    clear ho2
    go_upto_region 6 with fail
    obtain ⟨w8, hw⟩ : ∃ x, x = w7.alloc (.cells #[.slice A2 g1.objs.length c2, .int .i64 g1.cap, .int .i64 g1.last] 24) := ⟨_, rfl⟩
    obtain ⟨bg, hbx⟩ : ∃ x, x = w7.heap.size := ⟨_, rfl⟩
    have G8 : Hid (Lies w8 bg 24 #[.slice A2 g1.objs.length c2, .int .i64 g1.cap, .int .i64 g1.last]) := by show Lies _ _ _ _; rw [hw, hbx]; exact Lies.new _ _ _
    have hb : Below w7.heap.size w7 w8 := by rw [hw]; exact below_alloc _ _
    rw [← hw, ← hbx]
    have ne_HX_G : Hid (w.heap.size ≠ bg) := by show _ ≠ _; rw [hbx]; exact Nat.ne_of_lt HX7.out.lt
    have ne_M_G : Hid (bx ≠ bg) := by show _ ≠ _; rw [hbx]; exact Nat.ne_of_lt M7.out.lt
    have ne_S_G : Hid (bs ≠ bg) := by show _ ≠ _; rw [hbx]; exact Nat.ne_of_lt S7.out.lt
    have at_G : Hid (bg = w7.heap.size) := hbx
    have le_HB_G : Hid (w.heap.size ≤ bg) := by show _ ≤ _; rw [hbx]; exact HB7.out.size
    clear hbx hw
    have HB8 := hid (then_w HB7.out hb)
    have HX8 := hid (HX7.out.later hb)
    have M8 := hid (M7.out.later hb)
    have S8 := hid (S7.out.later hb)
    have Q8 := hid (Q7.out.later hb)
    have I8 := hid (I7.out.below hb)
    clear hb
    clear HB7 HX7 M7 S7 Q7 I7
    by_cases g0 : ip < 0
    case pos =>
      have HGH : Hid (go12 h cx ip = (h, 120)) := by show _ = _; unfold go12; rw [if_neg (by rw [HM.out]; decide), if_pos (.inl g0)]
      have e1 : g1 = h := by rw [HG1.out, HGH.out]
      have e2 : q1 = 120 := by rw [HQ1.out, HGH.out]
      subst e1 e2
      have y0 := G8.out.cell 0
      have y1 := G8.out.cell 1
      have y2 := G8.out.cell 2
      simp only [List.getElem?_toArray, List.getElem?_cons_zero, List.getElem?_cons_succ] at y0 y1 y2
      have x0 := HX8.out.cell 0
      have x1 := HX8.out.cell 1
      have x2 := HX8.out.cell 2
      simp only [List.getElem?_toArray, List.getElem?_cons_zero, List.getElem?_cons_succ] at x0 x1 x2
      have m0 := M8.out.cell 0
      have m1 := M8.out.cell 1
      have m2 := M8.out.cell 2
      have m3 := M8.out.cell 3
      have m4 := M8.out.cell 4
      simp only [List.getElem?_toArray, List.getElem?_cons_zero, List.getElem?_cons_succ] at m0 m1 m2 m3 m4
      go_wp2_with fail
      refine (same_any g1 A2 A c2 c _ (own_obs Q8.out QM2.out) (HS.out.below HB8.out) HF.out).mono ?_
      rintro e w9 ⟨rfl, hb⟩
      clear y0 y1 y2 x0 x1 x2 m0 m1 m2 m3 m4
      have HB9 := hid (then_w HB8.out hb)
      have HX9 := hid (HX8.out.later hb)
      have M9 := hid (M8.out.later hb)
      have S9 := hid (S8.out.later hb)
      have G9 := hid (G8.out.later hb)
      have Q9 := hid (Q8.out.later hb)
      have I9 := hid (I8.out.below hb)
      clear hb
      clear HB8 HX8 M8 S8 G8 Q8 I8
      go_wp2_with fail
      go_ret
      exact ⟨rfl, HB9.out⟩
    by_cases g2 : (M3.code.length : Int) ≤ ip
    case pos =>
      have HGH : Hid (go12 h cx ip = (h, 120)) := by show _ = _; unfold go12; rw [if_neg (by rw [HM.out]; decide), if_pos (.inr (by rw [HCM.out]; exact g2))]
      have e1 : g1 = h := by rw [HG1.out, HGH.out]
      have e2 : q1 = 120 := by rw [HQ1.out, HGH.out]
      subst e1 e2
      have y0 := G8.out.cell 0
      have y1 := G8.out.cell 1
      have y2 := G8.out.cell 2
      simp only [List.getElem?_toArray, List.getElem?_cons_zero, List.getElem?_cons_succ] at y0 y1 y2
      have x0 := HX8.out.cell 0
      have x1 := HX8.out.cell 1
      have x2 := HX8.out.cell 2
      simp only [List.getElem?_toArray, List.getElem?_cons_zero, List.getElem?_cons_succ] at x0 x1 x2
      have m0 := M8.out.cell 0
      have m1 := M8.out.cell 1
      have m2 := M8.out.cell 2
      have m3 := M8.out.cell 3
      have m4 := M8.out.cell 4
      simp only [List.getElem?_toArray, List.getElem?_cons_zero, List.getElem?_cons_succ] at m0 m1 m2 m3 m4
      go_wp2_with fail
      refine (same_any g1 A2 A c2 c _ (own_obs Q8.out QM2.out) (HS.out.below HB8.out) HF.out).mono ?_
      rintro e w9 ⟨rfl, hb⟩
      clear y0 y1 y2 x0 x1 x2 m0 m1 m2 m3 m4
      have HB9 := hid (then_w HB8.out hb)
      have HX9 := hid (HX8.out.later hb)
      have M9 := hid (M8.out.later hb)
      have S9 := hid (S8.out.later hb)
      have G9 := hid (G8.out.later hb)
      have Q9 := hid (Q8.out.later hb)
      have I9 := hid (I8.out.below hb)
      clear hb
      clear HB8 HX8 M8 S8 G8 Q8 I8
      go_wp2_with fail
      go_ret
      exact ⟨rfl, HB9.out⟩
    obtain ⟨j1, j2, j3, j4⟩ := goes12 HM.out (ip := ip) (by omega) (by rw [HCM.out]; omega)
    rw [← HG1.out] at j2 j3 j4
    rw [← HOLD.out] at j4
    have e2 : q1 = 0 := by rw [HQ1.out, j1]
    subst e2
    have J2 := hid j2
    have J3 := hid j3
    have J4 := hid j4
    clear j1 j2 j3 j4
    obtain ⟨j, rfl⟩ : ∃ j : Nat, ip = j := ⟨ip.toNat, by omega⟩
    have hjl : j < M3.code.length := by omega
    obtain ⟨i3, hi3⟩ : ∃ i, i = M3.code[j] := ⟨_, rfl⟩
    have J3b : Hid (at12 g1 cx = ((j : Int), i3, 0)) := by
      show _ = _
      rw [J3.out, HCM.out, show ((j : Int)).toNat = j from rfl, List.getD_eq_getElem?_getD, List.getElem?_eq_getElem hjl, hi3]; rfl
    have HI3 := hid hi3
    have HJL := hid hjl
    have hj0 : (0 : Int) ≤ (j : Int) := by omega
    have hjI : (j : Int) < (M3.code.length : Int) := by omega
    clear hi3
    have y0 := G8.out.cell 0
    have y1 := G8.out.cell 1
    have y2 := G8.out.cell 2
    simp only [List.getElem?_toArray, List.getElem?_cons_zero, List.getElem?_cons_succ] at y0 y1 y2
    have m0 := M8.out.cell 0
    have m1 := M8.out.cell 1
    have m2 := M8.out.cell 2
    have m3 := M8.out.cell 3
    have m4 := M8.out.cell 4
    simp only [List.getElem?_toArray, List.getElem?_cons_zero, List.getElem?_cons_succ] at m0 m1 m2 m3 m4
    go_wp2_with fail
    refine (cat_any12 g1 cx A2 c2 _ (own_obs Q8.out QM2.out) (may_fit (may_parts12 J2.out).1)).mono ?_
    rintro e w9 ⟨rfl, hb⟩
    clear y0 y1 y2 m0 m1 m2 m3 m4
    rw [J3b.out]
    have HB9 := hid (then_w HB8.out hb)
    have HX9 := hid (HX8.out.later hb)
    have M9 := hid (M8.out.later hb)
    have S9 := hid (S8.out.later hb)
    have G9 := hid (G8.out.later hb)
    have Q9 := hid (Q8.out.later hb)
    have I9 := hid (I8.out.below hb)
    clear hb
    clear HB8 HX8 M8 S8 G8 Q8 I8
    go_upto_region 9 with fail
    obtain ⟨w10, hw⟩ : ∃ x, x = w9.alloc (.cells #[.int .i64 i3.op, .int .i64 i3.a] 37) := ⟨_, rfl⟩
    obtain ⟨bn, hbx⟩ : ∃ x, x = w9.heap.size := ⟨_, rfl⟩
    have N10 : Hid (Lies w10 bn 37 #[.int .i64 i3.op, .int .i64 i3.a]) := by show Lies _ _ _ _; rw [hw, hbx]; exact Lies.new _ _ _
    have hb : Below w9.heap.size w9 w10 := by rw [hw]; exact below_alloc _ _
    rw [← hw, ← hbx]
    have ne_HX_N : Hid (w.heap.size ≠ bn) := by show _ ≠ _; rw [hbx]; exact Nat.ne_of_lt HX9.out.lt
    have ne_M_N : Hid (bx ≠ bn) := by show _ ≠ _; rw [hbx]; exact Nat.ne_of_lt M9.out.lt
    have ne_S_N : Hid (bs ≠ bn) := by show _ ≠ _; rw [hbx]; exact Nat.ne_of_lt S9.out.lt
    have ne_G_N : Hid (bg ≠ bn) := by show _ ≠ _; rw [hbx]; exact Nat.ne_of_lt G9.out.lt
    have at_N : Hid (bn = w9.heap.size) := hbx
    have le_HB_N : Hid (w.heap.size ≤ bn) := by show _ ≤ _; rw [hbx]; exact HB9.out.size
    clear hbx hw
    have HB10 := hid (then_w HB9.out hb)
    have HX10 := hid (HX9.out.later hb)
    have M10 := hid (M9.out.later hb)
    have S10 := hid (S9.out.later hb)
    have G10 := hid (G9.out.later hb)
    have Q10 := hid (Q9.out.later hb)
    have I10 := hid (I9.out.below hb)
    clear hb
    clear HB9 HX9 M9 S9 G9 Q9 I9
    have y0 := G10.out.cell 0
    have y1 := G10.out.cell 1
    have y2 := G10.out.cell 2
    simp only [List.getElem?_toArray, List.getElem?_cons_zero, List.getElem?_cons_succ] at y0 y1 y2
    go_wp2_with fail
    refine (cgo_any12 g1 cx old A2 c2 _ (own_obs Q10.out QM2.out) (may_fit (may_parts12 J2.out).1) (may_mod12 (may_parts12 J2.out).1)).mono ?_
    rintro e w11 ⟨A3, c3, l3, rfl, hm3, ho3, hb⟩
    clear y0 y1 y2
    rw [J4.out] at hm3
    rw [J4.out]
    have QM3 := hid hm3
    clear hm3
    have HB11 := hid (then_w HB10.out hb)
    have HX11 := hid (HX10.out.later hb)
    have M11 := hid (M10.out.later hb)
    have S11 := hid (S10.out.later hb)
    have G11 := hid (G10.out.later hb)
    have N11 := hid (N10.out.later hb)
    have Q11 := hid (Q10.out.later hb)
    have I11 := hid (I10.out.below hb)
    clear hb
    clear HB10 HX10 M10 S10 G10 N10 Q10 I10
    have P11 := hid ho3
    clear ho3
    go_upto_region 10 with fail
    obtain ⟨w12, hw⟩ : ∃ x, x = w11.alloc (.cells #[.slice A3 h.objs.length c3, .int .i64 h.cap, .int .i64 h.last] 24) := ⟨_, rfl⟩
    obtain ⟨bb, hbx⟩ : ∃ x, x = w11.heap.size := ⟨_, rfl⟩
    have B12 : Hid (Lies w12 bb 24 #[.slice A3 h.objs.length c3, .int .i64 h.cap, .int .i64 h.last]) := by show Lies _ _ _ _; rw [hw, hbx]; exact Lies.new _ _ _
    have hb : Below w11.heap.size w11 w12 := by rw [hw]; exact below_alloc _ _
    rw [← hw, ← hbx]
    have ne_HX_B : Hid (w.heap.size ≠ bb) := by show _ ≠ _; rw [hbx]; exact Nat.ne_of_lt HX11.out.lt
    have ne_M_B : Hid (bx ≠ bb) := by show _ ≠ _; rw [hbx]; exact Nat.ne_of_lt M11.out.lt
    have ne_S_B : Hid (bs ≠ bb) := by show _ ≠ _; rw [hbx]; exact Nat.ne_of_lt S11.out.lt
    have ne_G_B : Hid (bg ≠ bb) := by show _ ≠ _; rw [hbx]; exact Nat.ne_of_lt G11.out.lt
    have ne_N_B : Hid (bn ≠ bb) := by show _ ≠ _; rw [hbx]; exact Nat.ne_of_lt N11.out.lt
    have at_B : Hid (bb = w11.heap.size) := hbx
    have le_HB_B : Hid (w.heap.size ≤ bb) := by show _ ≤ _; rw [hbx]; exact HB11.out.size
    clear hbx hw
    have HB12 := hid (then_w HB11.out hb)
    have HX12 := hid (HX11.out.later hb)
    have M12 := hid (M11.out.later hb)
    have S12 := hid (S11.out.later hb)
    have G12 := hid (G11.out.later hb)
    have N12 := hid (N11.out.later hb)
    have Q12 := hid (Q11.out.later hb)
    have P12 := hid (P11.out.later hb)
    have I12 := hid (I11.out.below hb)
    clear hb
    clear HB11 HX11 M11 S11 G11 N11 Q11 P11 I11
    obtain ⟨bc, oc, hca, hbc, hcc⟩ := I12.out (by have := HJL.out; omega)
    obtain ⟨z0, z1⟩ := hcc j i3 (by rw [HI3.out]; exact List.getElem?_eq_getElem HJL.out)
    subst hca
    clear hcc hbc
    have x0 := HX12.out.cell 0
    have x1 := HX12.out.cell 1
    have x2 := HX12.out.cell 2
    simp only [List.getElem?_toArray, List.getElem?_cons_zero, List.getElem?_cons_succ] at x0 x1 x2
    have m0 := M12.out.cell 0
    have m1 := M12.out.cell 1
    have m2 := M12.out.cell 2
    have m3 := M12.out.cell 3
    have m4 := M12.out.cell 4
    simp only [List.getElem?_toArray, List.getElem?_cons_zero, List.getElem?_cons_succ] at m0 m1 m2 m3 m4
    have n0 := N12.out.cell 0
    have n1 := N12.out.cell 1
    simp only [List.getElem?_toArray, List.getElem?_cons_zero, List.getElem?_cons_succ] at n0 n1
    have b0 := B12.out.cell 0
    have b1 := B12.out.cell 1
    have b2 := B12.out.cell 2
    simp only [List.getElem?_toArray, List.getElem?_cons_zero, List.getElem?_cons_succ] at b0 b1 b2
    go_upto_region 10 with fail
    refine wp_region_held_drew (S := (fun w' => w'.cell? ⟨w.heap.size, 0, none⟩ = some (.slice A h.objs.length c) ∧ w'.cell? ⟨w.heap.size, 1, none⟩ = some (.int .i64 h.cap) ∧ w'.cell? ⟨w.heap.size, 2, none⟩ = some (.int .i64 h.last) ∧ w'.cell? ⟨bx, 0, none⟩ = some (.int .i64 M3.prim) ∧ w'.cell? ⟨bx, 1, none⟩ = some (.int .i64 M3.args) ∧ w'.cell? ⟨bx, 2, none⟩ = some (.int .i64 M3.temps) ∧ w'.cell? ⟨bx, 3, none⟩ = some (.slice (some ⟨bc, oc, none⟩) M3.code.length cc) ∧ w'.cell? ⟨bx, 4, none⟩ = some (.slice LA M3.lits.length lc) ∧ w'.cell? ⟨bn, 0, none⟩ = some (.int .i64 i3.op) ∧ w'.cell? ⟨bn, 1, none⟩ = some (.int .i64 i3.a) ∧ w'.cell? ⟨bb, 0, none⟩ = some (.slice A3 h.objs.length c3) ∧ w'.cell? ⟨bb, 1, none⟩ = some (.int .i64 h.cap) ∧ w'.cell? ⟨bb, 2, none⟩ = some (.int .i64 h.last) ∧ w'.cell? ⟨bc, oc + j * 2, none⟩ = some (.int .i64 i3.op) ∧ w'.cell? ⟨bc, oc + j * 2 + 1, none⟩ = some (.int .i64 i3.a) ∧ Below w12.heap.size w12 w')) (by kernel_rfl) ?_ (fun hH0 => ?_)
    · exact ⟨cell_later (Below.refl w12.heap.size w12).drew x0, cell_later (Below.refl w12.heap.size w12).drew x1, cell_later (Below.refl w12.heap.size w12).drew x2, cell_later (Below.refl w12.heap.size w12).drew m0, cell_later (Below.refl w12.heap.size w12).drew m1, cell_later (Below.refl w12.heap.size w12).drew m2, cell_later (Below.refl w12.heap.size w12).drew m3, cell_later (Below.refl w12.heap.size w12).drew m4, cell_later (Below.refl w12.heap.size w12).drew n0, cell_later (Below.refl w12.heap.size w12).drew n1, cell_later (Below.refl w12.heap.size w12).drew b0, cell_later (Below.refl w12.heap.size w12).drew b1, cell_later (Below.refl w12.heap.size w12).drew b2, cell_later (Below.refl w12.heap.size w12).drew z0, cell_later (Below.refl w12.heap.size w12).drew z1, (Below.refl _ _).drew⟩
    refine wpAnyH_take (i := 0) (oi := { dst := some 93, op := Go.Op.move (Go.Operand.tmp 13), type := 33, pos := "law.go:179", after := #[], guard := none }) (v := ?vv22) rfl (by kernel_rfl) (by kernel_rfl) (by kernel_rfl) (fun _ _ _ h => h) (Or.inl ⟨by rfl, ?hy22⟩) (by assumption) ?rr22
    case hy22 => intro w hSw; (try dsimp only at hSw); go_simp; all_goals with_reducible rfl
    try simp only [Act.put, List.setIfInBounds_toArray, List.set_cons_zero, List.set_cons_succ]
    refine wpAnyH_take (i := 1) (oi := { dst := some 94, op := Go.Op.binOp Go.BinOp.eql 33 (Go.Operand.tmp 93) (Go.Operand.const (Go.Value.int Go.IntKind.i64 0)) 33, type := 4, pos := "law.go:179", after := #[{ on := 0, ground := Go.Ground.data }], guard := none }) (v := ?vv23) rfl (by kernel_rfl) (by kernel_rfl) (by kernel_rfl) (fun _ _ _ h => h) (Or.inl ⟨by rfl, ?hy23⟩) (by assumption) ?rr23
    case hy23 => intro w hSw; (try dsimp only at hSw); go_simp; all_goals with_reducible rfl
    try simp only [Act.put, List.setIfInBounds_toArray, List.set_cons_zero, List.set_cons_succ]
    refine wpAnyH_take (i := 2) (oi := { dst := some 95, op := Go.Op.move (Go.Operand.tmp 94), type := 4, pos := "law.go:179", after := #[{ on := 1, ground := Go.Ground.data }], guard := none }) (v := ?vv24) rfl (by kernel_rfl) (by kernel_rfl) (by kernel_rfl) (fun _ _ _ h => h) (Or.inl ⟨by rfl, ?hy24⟩) (by assumption) ?rr24
    case hy24 => intro w hSw; (try dsimp only at hSw); go_simp; all_goals with_reducible rfl
    try simp only [Act.put, List.setIfInBounds_toArray, List.set_cons_zero, List.set_cons_succ]
    refine wpAnyH_take (i := 3) (oi := { dst := some 96, op := Go.Op.move (Go.Operand.tmp 16), type := 33, pos := "law.go:179", after := #[{ on := 2, ground := Go.Ground.guard }], guard := some (2, true) }) (v := ?vv25) rfl (by kernel_rfl) (by kernel_rfl) (by kernel_rfl) (fun _ _ _ h => h) (Or.inl ⟨by rfl, ?hy25⟩) (by assumption) ?rr25
    case hy25 => intro w hSw; (try dsimp only at hSw); go_simp; all_goals with_reducible rfl
    try simp only [Act.put, List.setIfInBounds_toArray, List.set_cons_zero, List.set_cons_succ]
    refine wpAnyH_take (i := 4) (oi := { dst := some 97, op := Go.Op.binOp Go.BinOp.eql 33 (Go.Operand.tmp 96) (Go.Operand.const (Go.Value.int Go.IntKind.i64 0)) 33, type := 4, pos := "law.go:179", after := #[{ on := 3, ground := Go.Ground.data }, { on := 2, ground := Go.Ground.guard }], guard := some (2, true) }) (v := ?vv26) rfl (by kernel_rfl) (by kernel_rfl) (by kernel_rfl) (fun _ _ _ h => h) (Or.inl ⟨by rfl, ?hy26⟩) (by assumption) ?rr26
    case hy26 => intro w hSw; (try dsimp only at hSw); go_simp; all_goals with_reducible rfl
    try simp only [Act.put, List.setIfInBounds_toArray, List.set_cons_zero, List.set_cons_succ]
    refine wpAnyH_take (i := 5) (oi := { dst := some 98, op := Go.Op.pick (Go.Operand.tmp 95) (Go.Operand.tmp 97) (Go.Operand.const (Go.Value.bool false)), type := 4, pos := "law.go:179", after := #[{ on := 2, ground := Go.Ground.data }, { on := 4, ground := Go.Ground.data }], guard := none }) (v := ?vv27) rfl (by kernel_rfl) (by kernel_rfl) (by kernel_rfl) (fun _ _ _ h => h) (Or.inl ⟨by rfl, ?hy27⟩) (by assumption) ?rr27
    case hy27 => intro w hSw; (try dsimp only at hSw); go_simp; all_goals with_reducible rfl
    try simp only [Act.put, List.setIfInBounds_toArray, List.set_cons_zero, List.set_cons_succ]
    refine wpAnyH_take (i := 6) (oi := { dst := some 99, op := Go.Op.move (Go.Operand.tmp 98), type := 4, pos := "law.go:179", after := #[{ on := 5, ground := Go.Ground.data }, { on := 2, ground := Go.Ground.chain }], guard := none }) (v := ?vv28) rfl (by kernel_rfl) (by kernel_rfl) (by kernel_rfl) (fun _ _ _ h => h) (Or.inl ⟨by rfl, ?hy28⟩) (by assumption) ?rr28
    case hy28 => intro w hSw; (try dsimp only at hSw); go_simp; all_goals with_reducible rfl
    try simp only [Act.put, List.setIfInBounds_toArray, List.set_cons_zero, List.set_cons_succ]
    refine wpAnyH_take (i := 7) (oi := { dst := some 100, op := Go.Op.move (Go.Operand.tmp 14), type := 3, pos := "law.go:179", after := #[{ on := 6, ground := Go.Ground.guard }], guard := some (6, true) }) (v := ?vv29) rfl (by kernel_rfl) (by kernel_rfl) (by kernel_rfl) (fun _ _ _ h => h) (Or.inl ⟨by rfl, ?hy29⟩) (by assumption) ?rr29
    case hy29 => intro w hSw; (try dsimp only at hSw); go_simp; all_goals with_reducible rfl
    try simp only [Act.put, List.setIfInBounds_toArray, List.set_cons_zero, List.set_cons_succ]
    refine wpAnyH_take (i := 8) (oi := { dst := some 101, op := Go.Op.move (Go.Operand.tmp 2), type := 3, pos := "law.go:179", after := #[{ on := 6, ground := Go.Ground.guard }], guard := some (6, true) }) (v := ?vv30) rfl (by kernel_rfl) (by kernel_rfl) (by kernel_rfl) (fun _ _ _ h => h) (Or.inl ⟨by rfl, ?hy30⟩) (by assumption) ?rr30
    case hy30 => intro w hSw; (try dsimp only at hSw); go_simp; all_goals with_reducible rfl
    try simp only [Act.put, List.setIfInBounds_toArray, List.set_cons_zero, List.set_cons_succ]
    refine wpAnyH_take (i := 9) (oi := { dst := some 102, op := Go.Op.binOp Go.BinOp.eql 3 (Go.Operand.tmp 100) (Go.Operand.tmp 101) 3, type := 4, pos := "law.go:179", after := #[{ on := 7, ground := Go.Ground.data }, { on := 8, ground := Go.Ground.data }, { on := 6, ground := Go.Ground.guard }], guard := some (6, true) }) (v := ?vv31) rfl (by kernel_rfl) (by kernel_rfl) (by kernel_rfl) (fun _ _ _ h => h) (Or.inl ⟨by rfl, ?hy31⟩) (by assumption) ?rr31
    case hy31 => intro w hSw; (try dsimp only at hSw); go_simp; all_goals with_reducible rfl
    try simp only [Act.put, List.setIfInBounds_toArray, List.set_cons_zero, List.set_cons_succ]
    refine wpAnyH_take (i := 10) (oi := { dst := some 103, op := Go.Op.pick (Go.Operand.tmp 99) (Go.Operand.tmp 102) (Go.Operand.const (Go.Value.bool false)), type := 4, pos := "law.go:179", after := #[{ on := 6, ground := Go.Ground.data }, { on := 9, ground := Go.Ground.data }], guard := none }) (v := ?vv32) rfl (by kernel_rfl) (by kernel_rfl) (by kernel_rfl) (fun _ _ _ h => h) (Or.inl ⟨by rfl, ?hy32⟩) (by assumption) ?rr32
    case hy32 => intro w hSw; (try dsimp only at hSw); go_simp; all_goals with_reducible rfl
    try simp only [Act.put, List.setIfInBounds_toArray, List.set_cons_zero, List.set_cons_succ]
    refine wpAnyH_take (i := 11) (oi := { dst := some 104, op := Go.Op.move (Go.Operand.tmp 103), type := 4, pos := "law.go:179", after := #[{ on := 10, ground := Go.Ground.data }, { on := 6, ground := Go.Ground.chain }], guard := none }) (v := ?vv33) rfl (by kernel_rfl) (by kernel_rfl) (by kernel_rfl) (fun _ _ _ h => h) (Or.inl ⟨by rfl, ?hy33⟩) (by assumption) ?rr33
    case hy33 => intro w hSw; (try dsimp only at hSw); go_simp; all_goals with_reducible rfl
    try simp only [Act.put, List.setIfInBounds_toArray, List.set_cons_zero, List.set_cons_succ]
    refine wpAnyH_take (i := 12) (oi := { dst := some 105, op := Go.Op.load 37 (Go.Operand.tmp 15), type := 37, pos := "law.go:179", after := #[{ on := 11, ground := Go.Ground.guard }], guard := some (11, true) }) (v := ?vv34) rfl (by kernel_rfl) (by kernel_rfl) (by kernel_rfl) (fun _ _ _ h => h) (Or.inl ⟨by rfl, ?hy34⟩) (by assumption) ?rr34
    case hy34 => intro w hSw; (try dsimp only at hSw); go_simp; all_goals with_reducible rfl
    try simp only [Act.put, List.setIfInBounds_toArray, List.set_cons_zero, List.set_cons_succ]
    refine wpAnyH_take (i := 13) (oi := { dst := some 106, op := Go.Op.fieldAddr 32 (Go.Operand.tmp 7) 3, type := 0, pos := "law.go:179", after := #[{ on := 11, ground := Go.Ground.guard }], guard := some (11, true) }) (v := ?vv35) rfl (by kernel_rfl) (by kernel_rfl) (by kernel_rfl) (fun _ _ _ h => h) (Or.inl ⟨by rfl, ?hy35⟩) (by assumption) ?rr35
    case hy35 => intro w hSw; (try dsimp only at hSw); go_simp; all_goals with_reducible rfl
    try simp only [Act.put, List.setIfInBounds_toArray, List.set_cons_zero, List.set_cons_succ]
    refine wpAnyH_take (i := 14) (oi := { dst := some 107, op := Go.Op.load 29 (Go.Operand.tmp 106), type := 29, pos := "law.go:179", after := #[{ on := 13, ground := Go.Ground.data }, { on := 11, ground := Go.Ground.guard }], guard := some (11, true) }) (v := ?vv36) rfl (by kernel_rfl) (by kernel_rfl) (by kernel_rfl) (fun _ _ _ h => h) (Or.inl ⟨by rfl, ?hy36⟩) (by assumption) ?rr36
    case hy36 => intro w hSw; (try dsimp only at hSw); go_simp; all_goals with_reducible rfl
    try simp only [Act.put, List.setIfInBounds_toArray, List.set_cons_zero, List.set_cons_succ]
    refine wpAnyH_take (i := 15) (oi := { dst := some 108, op := Go.Op.move (Go.Operand.tmp 2), type := 3, pos := "law.go:179", after := #[{ on := 11, ground := Go.Ground.guard }], guard := some (11, true) }) (v := ?vv37) rfl (by kernel_rfl) (by kernel_rfl) (by kernel_rfl) (fun _ _ _ h => h) (Or.inl ⟨by rfl, ?hy37⟩) (by assumption) ?rr37
    case hy37 => intro w hSw; (try dsimp only at hSw); go_simp; all_goals with_reducible rfl
    try simp only [Act.put, List.setIfInBounds_toArray, List.set_cons_zero, List.set_cons_succ]
    refine wpAnyH_take (i := 16) (oi := { dst := some 109, op := Go.Op.indexAddr 29 (Go.Operand.tmp 107) (Go.Operand.tmp 108), type := 0, pos := "law.go:179", after := #[{ on := 14, ground := Go.Ground.data }, { on := 15, ground := Go.Ground.data }, { on := 11, ground := Go.Ground.guard }], guard := some (11, true) }) (v := ?vv38) rfl (by kernel_rfl) (by kernel_rfl) (by kernel_rfl) (fun _ _ _ h => h) (Or.inl ⟨by rfl, ?hy38⟩) (by assumption) ?rr38
    case hy38 => intro w hSw; (try dsimp only at hSw); go_simp; all_goals with_reducible rfl
    try simp only [Act.put, List.setIfInBounds_toArray, List.set_cons_zero, List.set_cons_succ]
    refine wpAnyH_take (i := 17) (oi := { dst := some 110, op := Go.Op.load 37 (Go.Operand.tmp 109), type := 37, pos := "law.go:179", after := #[{ on := 16, ground := Go.Ground.data }, { on := 11, ground := Go.Ground.guard }], guard := some (11, true) }) (v := ?vv39) rfl (by kernel_rfl) (by kernel_rfl) (by kernel_rfl) (fun _ _ _ h => h) (Or.inl ⟨by rfl, ?hy39⟩) (by assumption) ?rr39
    case hy39 => intro w hSw; (try dsimp only at hSw); go_simp; all_goals with_reducible rfl
    try simp only [Act.put, List.setIfInBounds_toArray, List.set_cons_zero, List.set_cons_succ]
    refine wpAnyH_take (i := 18) (oi := { dst := some 111, op := Go.Op.binOp Go.BinOp.eql 37 (Go.Operand.tmp 105) (Go.Operand.tmp 110) 37, type := 4, pos := "law.go:179", after := #[{ on := 12, ground := Go.Ground.data }, { on := 17, ground := Go.Ground.data }, { on := 11, ground := Go.Ground.guard }], guard := some (11, true) }) (v := ?vv40) rfl (by kernel_rfl) (by kernel_rfl) (by kernel_rfl) (fun _ _ _ h => h) (Or.inl ⟨by rfl, ?hy40⟩) (by assumption) ?rr40
    case hy40 => intro w hSw; (try dsimp only at hSw); go_simp; all_goals with_reducible rfl
    try simp only [Act.put, List.setIfInBounds_toArray, List.set_cons_zero, List.set_cons_succ]
    refine wpAnyH_take (i := 19) (oi := { dst := some 112, op := Go.Op.pick (Go.Operand.tmp 104) (Go.Operand.tmp 111) (Go.Operand.const (Go.Value.bool false)), type := 4, pos := "law.go:179", after := #[{ on := 11, ground := Go.Ground.data }, { on := 18, ground := Go.Ground.data }], guard := none }) (v := ?vv41) rfl (by kernel_rfl) (by kernel_rfl) (by kernel_rfl) (fun _ _ _ h => h) (Or.inl ⟨by rfl, ?hy41⟩) (by assumption) ?rr41
    case hy41 => intro w hSw; (try dsimp only at hSw); go_simp; all_goals with_reducible rfl
    try simp only [Act.put, List.setIfInBounds_toArray, List.set_cons_zero, List.set_cons_succ]
    refine wpAnyH_take (i := 20) (oi := { dst := some 113, op := Go.Op.move (Go.Operand.tmp 112), type := 4, pos := "law.go:179", after := #[{ on := 19, ground := Go.Ground.data }, { on := 11, ground := Go.Ground.chain }], guard := none }) (v := ?vv42) rfl (by kernel_rfl) (by kernel_rfl) (by kernel_rfl) (fun _ _ _ h => h) (Or.inl ⟨by rfl, ?hy42⟩) (by assumption) ?rr42
    case hy42 => intro w hSw; (try dsimp only at hSw); go_simp; all_goals with_reducible rfl
    try simp only [Act.put, List.setIfInBounds_toArray, List.set_cons_zero, List.set_cons_succ]
    refine wpAnyH_take (i := 21) (oi := { dst := some 114, op := Go.Op.move (Go.Operand.tmp 18), type := 33, pos := "law.go:179", after := #[{ on := 20, ground := Go.Ground.guard }], guard := some (20, true) }) (v := ?vv43) rfl (by kernel_rfl) (by kernel_rfl) (by kernel_rfl) (fun _ _ _ h => h) (Or.inl ⟨by rfl, ?hy43⟩) (by assumption) ?rr43
    case hy43 => intro w hSw; (try dsimp only at hSw); go_simp; all_goals with_reducible rfl
    try simp only [Act.put, List.setIfInBounds_toArray, List.set_cons_zero, List.set_cons_succ]
    refine wpAnyH_take (i := 22) (oi := { dst := some 115, op := Go.Op.binOp Go.BinOp.eql 33 (Go.Operand.tmp 114) (Go.Operand.const (Go.Value.int Go.IntKind.i64 0)) 33, type := 4, pos := "law.go:179", after := #[{ on := 21, ground := Go.Ground.data }, { on := 20, ground := Go.Ground.guard }], guard := some (20, true) }) (v := ?vv44) rfl (by kernel_rfl) (by kernel_rfl) (by kernel_rfl) (fun _ _ _ h => h) (Or.inl ⟨by rfl, ?hy44⟩) (by assumption) ?rr44
    case hy44 => intro w hSw; (try dsimp only at hSw); go_simp; all_goals with_reducible rfl
    try simp only [Act.put, List.setIfInBounds_toArray, List.set_cons_zero, List.set_cons_succ]
    refine wpAnyH_take (i := 23) (oi := { dst := some 116, op := Go.Op.pick (Go.Operand.tmp 113) (Go.Operand.tmp 115) (Go.Operand.const (Go.Value.bool false)), type := 4, pos := "law.go:179", after := #[{ on := 20, ground := Go.Ground.data }, { on := 22, ground := Go.Ground.data }], guard := none }) (v := ?vv45) rfl (by kernel_rfl) (by kernel_rfl) (by kernel_rfl) (fun _ _ _ h => h) (Or.inl ⟨by rfl, ?hy45⟩) (by assumption) ?rr45
    case hy45 => intro w hSw; (try dsimp only at hSw); go_simp; all_goals with_reducible rfl
    try simp only [Act.put, List.setIfInBounds_toArray, List.set_cons_zero, List.set_cons_succ]
    refine wpAnyH_take (i := 24) (oi := { dst := some 117, op := Go.Op.move (Go.Operand.tmp 116), type := 4, pos := "law.go:179", after := #[{ on := 23, ground := Go.Ground.data }, { on := 20, ground := Go.Ground.chain }], guard := none }) (v := ?vv46) rfl (by kernel_rfl) (by kernel_rfl) (by kernel_rfl) (fun _ _ _ h => h) (Or.inl ⟨by rfl, ?hy46⟩) (by assumption) ?rr46
    case hy46 => intro w hSw; (try dsimp only at hSw); go_simp; all_goals with_reducible rfl
    try simp only [Act.put, List.setIfInBounds_toArray, List.set_cons_zero, List.set_cons_succ]
    refine wpAnyH_take (i := 25) (oi := { dst := some 118, op := Go.Op.load 24 (Go.Operand.tmp 17), type := 24, pos := "law.go:179", after := #[{ on := 24, ground := Go.Ground.guard }], guard := some (24, true) }) (v := ?vv47) rfl (by kernel_rfl) (by kernel_rfl) (by kernel_rfl) (fun _ _ _ h => h) (Or.inl ⟨by rfl, ?hy47⟩) (by assumption) ?rr47
    case hy47 => intro w hSw; (try dsimp only at hSw); go_simp; all_goals with_reducible rfl
    try simp only [Act.put, List.setIfInBounds_toArray, List.set_cons_zero, List.set_cons_succ]
    refine wpAnyH_take (i := 26) (oi := { dst := some 119, op := Go.Op.load 24 (Go.Operand.tmp 3), type := 24, pos := "law.go:179", after := #[{ on := 24, ground := Go.Ground.guard }], guard := some (24, true) }) (v := ?vv48) rfl (by kernel_rfl) (by kernel_rfl) (by kernel_rfl) (fun _ _ _ h => h) (Or.inl ⟨by rfl, ?hy48⟩) (by assumption) ?rr48
    case hy48 => intro w hSw; (try dsimp only at hSw); go_simp; all_goals with_reducible rfl
    try simp only [Act.put, List.setIfInBounds_toArray, List.set_cons_zero, List.set_cons_succ]
    refine wpAnyH_ready (rs := [27]) (by kernel_rfl) (by simp) ?_
    refine AllReadyH.cons (i := 27) (o := { dst := some 120, op := Go.Op.call { callee := Go.Callee.value (Go.Operand.func 28), args := #[Go.Operand.tmp 118, Go.Operand.tmp 119], argTypes := #[24, 24] }, type := 4, pos := "law.go:179", after := #[{ on := 25, ground := Go.Ground.data }, { on := 26, ground := Go.Ground.data }, { on := 24, ground := Go.Ground.chain }, { on := 24, ground := Go.Ground.guard }], guard := some (24, true) }) rfl (fun K hK => ?_) AllReadyH.nil
    go_simp
    go_at_call 28
    have BB0 : Hid (Below w12.heap.size w12 _) := (Below.refl _ _).drew
    refine (same_any h A3 A c3 c _ ((own_obs P12.out QM3.out).below BB0.out) (HS.out.below (then_w HB12.out BB0.out)) HF.out).mono ?_
    rintro e u1 ⟨rfl, hb⟩
    refine hK.out _ _ ?_ (fun hH1 => ?_)
    · exact ⟨cell_later hb hH0.1, cell_later hb hH0.2.1, cell_later hb hH0.2.2.1, cell_later hb hH0.2.2.2.1, cell_later hb hH0.2.2.2.2.1, cell_later hb hH0.2.2.2.2.2.1, cell_later hb hH0.2.2.2.2.2.2.1, cell_later hb hH0.2.2.2.2.2.2.2.1, cell_later hb hH0.2.2.2.2.2.2.2.2.1, cell_later hb hH0.2.2.2.2.2.2.2.2.2.1, cell_later hb hH0.2.2.2.2.2.2.2.2.2.2.1, cell_later hb hH0.2.2.2.2.2.2.2.2.2.2.2.1, cell_later hb hH0.2.2.2.2.2.2.2.2.2.2.2.2.1, cell_later hb hH0.2.2.2.2.2.2.2.2.2.2.2.2.2.1, cell_later hb hH0.2.2.2.2.2.2.2.2.2.2.2.2.2.2.1, then_w hH0.2.2.2.2.2.2.2.2.2.2.2.2.2.2.2 hb⟩
    clear hK K
    try simp only [Act.put, List.setIfInBounds_toArray, List.set_cons_zero, List.set_cons_succ]
    clear hb
    refine wpAnyH_take (i := 28) (oi := { dst := some 121, op := Go.Op.pick (Go.Operand.tmp 117) (Go.Operand.tmp 120) (Go.Operand.const (Go.Value.bool false)), type := 4, pos := "law.go:179", after := #[{ on := 24, ground := Go.Ground.data }, { on := 27, ground := Go.Ground.data }], guard := none }) (v := ?vv49) rfl (by kernel_rfl) (by kernel_rfl) (by kernel_rfl) (fun _ _ _ h => h) (Or.inl ⟨by rfl, ?hy49⟩) (by assumption) ?rr49
    case hy49 => intro w hSw; (try dsimp only at hSw); go_simp; all_goals with_reducible rfl
    try simp only [Act.put, List.setIfInBounds_toArray, List.set_cons_zero, List.set_cons_succ]
    refine wpAnyH_take (i := 29) (oi := { dst := some 6, op := Go.Op.assign (Go.Operand.tmp 121), type := 4, pos := "law.go:179", after := #[{ on := 28, ground := Go.Ground.data }, { on := 27, ground := Go.Ground.chain }, { on := 0, ground := Go.Ground.phase }, { on := 1, ground := Go.Ground.phase }, { on := 2, ground := Go.Ground.phase }, { on := 3, ground := Go.Ground.phase }, { on := 4, ground := Go.Ground.phase }, { on := 5, ground := Go.Ground.phase }, { on := 6, ground := Go.Ground.phase }, { on := 7, ground := Go.Ground.phase }, { on := 8, ground := Go.Ground.phase }, { on := 9, ground := Go.Ground.phase }, { on := 10, ground := Go.Ground.phase }, { on := 11, ground := Go.Ground.phase }, { on := 12, ground := Go.Ground.phase }, { on := 13, ground := Go.Ground.phase }, { on := 14, ground := Go.Ground.phase }, { on := 15, ground := Go.Ground.phase }, { on := 16, ground := Go.Ground.phase }, { on := 17, ground := Go.Ground.phase }, { on := 18, ground := Go.Ground.phase }, { on := 19, ground := Go.Ground.phase }, { on := 20, ground := Go.Ground.phase }, { on := 21, ground := Go.Ground.phase }, { on := 22, ground := Go.Ground.phase }, { on := 23, ground := Go.Ground.phase }, { on := 24, ground := Go.Ground.phase }, { on := 25, ground := Go.Ground.phase }, { on := 26, ground := Go.Ground.phase }, { on := 27, ground := Go.Ground.phase }, { on := 28, ground := Go.Ground.phase }], guard := none }) (v := ?vv50) rfl (by kernel_rfl) (by kernel_rfl) (by kernel_rfl) (fun _ _ _ h => h) (Or.inl ⟨by rfl, ?hy50⟩) (by assumption) ?rr50
    case hy50 => intro w hSw; (try dsimp only at hSw); go_simp; all_goals with_reducible rfl
    try simp only [Act.put, List.setIfInBounds_toArray, List.set_cons_zero, List.set_cons_succ]
    refine wpAnyH_done (by kernel_rfl) ?_ _
    go_wp2_with fail
    go_ret
    exact ⟨rfl, then_w HB12.out (hH1.2.2.2.2.2.2.2.2.2.2.2.2.2.2.2)⟩
end Go.Proofs.YtgocodnehppniaaGreat
