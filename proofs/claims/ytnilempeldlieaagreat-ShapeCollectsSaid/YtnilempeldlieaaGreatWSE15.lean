/- The program on states: one that is collected. -/
import Derived.Deep.CutRange
import Derived.BigRegion
import Derived.Test.YtnilempeldlieaaGreatM08
import Derived.Test.YtnilempeldlieaaGreatM09
import Derived.Test.YtnilempeldlieaaGreatWVX
namespace Go.Proofs.YtnilempeldlieaaGreat
open Go.RowKit
set_option maxRecDepth 100000
/-- what a heap is compacted to, by letters -/
theorem comp15 {h k : Hp} {rs L : List Int} {en : Int} (hk : coH h rs = k) (hL : coL h rs = L) (he : liE h rs = en) (A R : Option Addr) (c d : Nat) (w : World) (hs : ObsR w A h.objs) (fit : h.Fit) (hr : IntsR w R rs) (hl : rs.length ≤ 100000) :
    Calls Tryz.prog 26 #[.agg #[.slice A h.objs.length c, .int .i64 h.cap, .int .i64 h.last], .slice R rs.length d] w (HeapIntsOwn w k L en) := by subst hk hL he; exact compact_own h rs A R c d w hs fit hr hl
noncomputable def coS (s : St) : St := if ckB s = true then cl15 s else zeroS
theorem coS_yes {s : St} (h : ckB s = true) : coS s = cl15 s := by unfold coS; rw [if_pos h]
theorem coS_no {s : St} (h : ckB s = false) : coS s = zeroS := by unfold coS; rw [if_neg (by rw [h]; decide)]
/-- a state and a word are told -/
def StE15 (w : World) (t : St) (en : Int) (e : Ending) (w' : World) : Prop := ∃ A c, e = .returned (.tuple #[.agg #[.slice A t.hp.objs.length c, .int .i64 t.hp.cap, .int .i64 t.hp.last, .int .i64 t.proc, .int .i64 t.ready, .int .i64 t.halt, .int .i64 t.steps, .int .i64 t.used], .int .i64 en]) ∧ ObsR w' A t.hp.objs ∧ Below w.heap.size w w'
set_option maxHeartbeats 4000000 in
theorem ccol_any15 (s : St) (A : Option Addr) (c : Nat) (w : World) (hsX : ObsR w A s.hp.objs) (fitX : s.hp.Fit) :
    Calls Tryz.prog 8 #[.agg #[.slice A s.hp.objs.length c, .int .i64 s.hp.cap, .int .i64 s.hp.last, .int .i64 s.proc, .int .i64 s.ready, .int .i64 s.halt, .int .i64 s.steps, .int .i64 s.used]] w (StE15 w (coS s) (ckI s)) := by
  obtain ⟨w0, hw0⟩ : ∃ w0, w0 = ((w.alloc (.cells #[.slice A s.hp.objs.length c, .int .i64 s.hp.cap, .int .i64 s.hp.last, .int .i64 s.proc, .int .i64 s.ready, .int .i64 s.halt, .int .i64 s.steps, .int .i64 s.used] 27)).alloc (.cells #[.slice none 0 0, .int .i64 0, .int .i64 0, .int .i64 0, .int .i64 0, .int .i64 0, .int .i64 0, .int .i64 0] 27)) := ⟨_, rfl⟩
  have HB0 : Hid (Below w.heap.size w w0) := by show Below _ _ _; rw [hw0]; exact below_alloc2 w _ _
  have X0 : Hid (Lies w0 (w.heap.size) 27 #[.slice A s.hp.objs.length c, .int .i64 s.hp.cap, .int .i64 s.hp.last, .int .i64 s.proc, .int .i64 s.ready, .int .i64 s.halt, .int .i64 s.steps, .int .i64 s.used]) := by
    show Lies _ _ _ _
    rw [hw0]
    have := (Lies.new w 27 #[.slice A s.hp.objs.length c, .int .i64 s.hp.cap, .int .i64 s.hp.last, .int .i64 s.proc, .int .i64 s.ready, .int .i64 s.halt, .int .i64 s.steps, .int .i64 s.used]).alloc (.cells #[.slice none 0 0, .int .i64 0, .int .i64 0, .int .i64 0, .int .i64 0, .int .i64 0, .int .i64 0, .int .i64 0] 27)
    simpa [Hid] using this
  have OX0 := hid (hsX.below HB0.out)
  have HFX := hid fitX
  have hflX := fitX.1
  have K0 : Hid (Lies w0 (w.heap.size + 1) 27 #[.slice none 0 0, .int .i64 0, .int .i64 0, .int .i64 0, .int .i64 0, .int .i64 0, .int .i64 0, .int .i64 0]) := by
    show Lies _ _ _ _
    rw [hw0]
    have := Lies.new (w.alloc (.cells #[.slice A s.hp.objs.length c, .int .i64 s.hp.cap, .int .i64 s.hp.last, .int .i64 s.proc, .int .i64 s.ready, .int .i64 s.halt, .int .i64 s.steps, .int .i64 s.used] 27)) 27 #[.slice none 0 0, .int .i64 0, .int .i64 0, .int .i64 0, .int .i64 0, .int .i64 0, .int .i64 0, .int .i64 0]
    simpa [Hid] using this
  obtain ⟨cI, hcI⟩ : ∃ x, x = ckI s := ⟨_, rfl⟩
  have HCI := hid hcI
  clear hcI
  clear hsX fitX
  go_enter Tryz.func8, Tryz.ntmps8
  go_upto_region 1 with fail
  rw [← hw0]
  clear hw0
  have x0 := X0.out.cell 0
  have x1 := X0.out.cell 1
  have x2 := X0.out.cell 2
  have x3 := X0.out.cell 3
  have x4 := X0.out.cell 4
  have x5 := X0.out.cell 5
  have x6 := X0.out.cell 6
  have x7 := X0.out.cell 7
  simp only [List.getElem?_toArray, List.getElem?_cons_zero, List.getElem?_cons_succ] at x0 x1 x2 x3 x4 x5 x6 x7
  have y0 := K0.out.cell 0
  have y1 := K0.out.cell 1
  have y2 := K0.out.cell 2
  have y3 := K0.out.cell 3
  have y4 := K0.out.cell 4
  have y5 := K0.out.cell 5
  have y6 := K0.out.cell 6
  have y7 := K0.out.cell 7
  simp only [List.getElem?_toArray, List.getElem?_cons_zero, List.getElem?_cons_succ] at y0 y1 y2 y3 y4 y5 y6 y7
  go_wp2_with fail
  refine (cck_any15 s A c _ OX0.out HFX.out).mono ?_
  rintro e w1 ⟨rfl, hb⟩
  clear x0 x1 x2 x3 x4 x5 x6 x7 y0 y1 y2 y3 y4 y5 y6 y7
  rw [← HCI.out]
  have HB1 := hid (then_w HB0.out hb)
  have X1 := hid (X0.out.later hb)
  have K1 := hid (K0.out.later hb)
  have OX1 := hid (OX0.out.below hb)
  clear hb
  clear HB0 X0 K0 OX0
  cases hx : ckB s
  · obtain rfl : cI = 150 := HCI.out.trans (ckI_no hx)
    have E := hid (coS_no hx)
    clear hx
    have y0 := K1.out.cell 0
    have y1 := K1.out.cell 1
    have y2 := K1.out.cell 2
    have y3 := K1.out.cell 3
    have y4 := K1.out.cell 4
    have y5 := K1.out.cell 5
    have y6 := K1.out.cell 6
    have y7 := K1.out.cell 7
    have yf0 := K1.out.frozen 0
    have yf1 := K1.out.frozen 1
    have yf2 := K1.out.frozen 2
    have yf3 := K1.out.frozen 3
    have yf4 := K1.out.frozen 4
    have yf5 := K1.out.frozen 5
    have yf6 := K1.out.frozen 6
    have yf7 := K1.out.frozen 7
    simp only [List.getElem?_toArray, List.getElem?_cons_zero, List.getElem?_cons_succ] at y0 y1 y2 y3 y4 y5 y6 y7
    go_wp2_with fail
    have KF := K1.out.sets15_at [.slice none 0 0, .int .i64 0, .int .i64 0, .int .i64 0, .int .i64 0, .int .i64 0, .int .i64 0, .int .i64 0] 0
    have r0 := KF.cell 0
    have r1 := KF.cell 1
    have r2 := KF.cell 2
    have r3 := KF.cell 3
    have r4 := KF.cell 4
    have r5 := KF.cell 5
    have r6 := KF.cell 6
    have r7 := KF.cell 7
    simp only [sets15, List.zipIdx, List.foldl, List.setIfInBounds_toArray, List.set_cons_zero, List.set_cons_succ, Nat.zero_add, Nat.reduceAdd, List.getElem?_toArray, List.getElem?_cons_zero, List.getElem?_cons_succ] at r0 r1 r2 r3 r4 r5 r6 r7
    refine bodyPost_ret (v := .tuple #[.agg #[.slice none 0 0, .int .i64 0, .int .i64 0, .int .i64 0, .int .i64 0, .int .i64 0, .int .i64 0, .int .i64 0], .int .i64 150]) (by simp [results, Tryz.results8, go_sem, r0, r1, r2, r3, r4, r5, r6, r7]) rfl ?_
    exact ⟨none, 0, by rw [E.out, ← HCI.out]; rfl, by rw [E.out]; exact ObsR.nil _, Below.sets15 (g := w.heap.size + 1) (by omega) [.slice none 0 0, .int .i64 0, .int .i64 0, .int .i64 0, .int .i64 0, .int .i64 0, .int .i64 0, .int .i64 0] 0 HB1.out⟩
  · have HX1 := hid (ck_iff.1 hx)
    obtain rfl : cI = 0 := HCI.out.trans (ckI_yes hx)
    have E := hid (coS_yes hx)
    clear hx
    obtain ⟨k1, hk1⟩ : ∃ x, x = coH s.hp (rt15 s) := ⟨_, rfl⟩
    obtain ⟨Lr, hLr⟩ : ∃ x, x = coL s.hp (rt15 s) := ⟨_, rfl⟩
    obtain ⟨p1, hp1⟩ : ∃ x, x = (cl15 s).proc := ⟨_, rfl⟩
    obtain ⟨r1, hr1⟩ : ∃ x, x = (cl15 s).ready := ⟨_, rfl⟩
    have HT : Hid (cl15 s = ⟨k1, p1, r1, s.halt, s.steps, s.used⟩) := by show _ = _; rw [hk1, hp1, hr1]; rfl
    have HK1 := hid hk1
    have HLr := hid hLr
    have HEN := hid (rt_li HX1.out)
    have HL2 : Hid (Lr = rt15 (cl15 s)) := hLr.trans (co_roots HX1.out)
    have HL12 : Hid (Lr[12]? = some p1) := by show _ = _; rw [HL2.out, hp1]; rfl
    have HL13 : Hid (Lr[13]? = some r1) := by show _ = _; rw [HL2.out, hr1]; rfl
    have hn12 : 12 < Lr.length := by rw [HL2.out, rt15_len]; decide
    have hn13 : 13 < Lr.length := by rw [HL2.out, rt15_len]; decide
    have hi12 : (12 : Int) < (Lr.length : Int) := by omega
    have hi13 : (13 : Int) < (Lr.length : Int) := by omega
    clear hk1 hLr hp1 hr1
    go_upto_region 4 with fail
    have x0 := X1.out.cell 0
    have x1 := X1.out.cell 1
    have x2 := X1.out.cell 2
    have x3 := X1.out.cell 3
    have x4 := X1.out.cell 4
    have x5 := X1.out.cell 5
    have x6 := X1.out.cell 6
    have x7 := X1.out.cell 7
    simp only [List.getElem?_toArray, List.getElem?_cons_zero, List.getElem?_cons_succ] at x0 x1 x2 x3 x4 x5 x6 x7
    go_cut [5, 6] from 15 to 23 (fun a b wx => ∃ (g : Nat) (A1 A2 : Option Addr) (c1 c2 : Nat) (ls : List LO), a = .pointer (some ⟨g, 0, none⟩) ∧ b = .slice A2 Lr.length c2 ∧ w1.heap.size ≤ g ∧ Lies wx g 24 #[.slice A1 k1.objs.length c1, .int .i64 k1.cap, .int .i64 k1.last] ∧ ls.map (·.o) = k1.objs ∧ OwnH wx w1.heap.size A1 c1 ls ∧ wx.ownsRow w1.heap.size 3 1 (.slice A2 Lr.length c2) Lr.length (Lr.map (Value.int .i64)) ∧ Below w1.heap.size w1 wx)
    case first =>
      refine wp_region_held_drew (S := (fun w' => w'.cell? ⟨(w.heap.size), 0, none⟩ = some (.slice A s.hp.objs.length c) ∧ w'.cell? ⟨(w.heap.size), 1, none⟩ = some (.int .i64 s.hp.cap) ∧ w'.cell? ⟨(w.heap.size), 2, none⟩ = some (.int .i64 s.hp.last) ∧ w'.cell? ⟨(w.heap.size), 3, none⟩ = some (.int .i64 s.proc) ∧ w'.cell? ⟨(w.heap.size), 4, none⟩ = some (.int .i64 s.ready) ∧ w'.cell? ⟨(w.heap.size), 5, none⟩ = some (.int .i64 s.halt) ∧ w'.cell? ⟨(w.heap.size), 6, none⟩ = some (.int .i64 s.steps) ∧ w'.cell? ⟨(w.heap.size), 7, none⟩ = some (.int .i64 s.used))) (by kernel_rfl) ?_ (fun hH0 => ?_)
      · exact ⟨x0, x1, x2, x3, x4, x5, x6, x7⟩
      refine wpAnyH_take (i := 0) (oi := { dst := some 16, op := Go.Op.fieldAddr 27 (Go.Operand.tmp 1) 0, type := 0, pos := "shape.go:36", after := #[], guard := none }) (v := ?vv1) rfl (by kernel_rfl) (by kernel_rfl) (by kernel_rfl) (fun _ _ _ h => h) (Or.inl ⟨by rfl, ?hy1⟩) (by assumption) ?rr1
      case hy1 => intro w hSw; (try dsimp only at hSw); go_simp; all_goals with_reducible rfl
      try simp only [Act.put, List.setIfInBounds_toArray, List.set_cons_zero, List.set_cons_succ]
      refine wpAnyH_take (i := 1) (oi := { dst := some 17, op := Go.Op.load 24 (Go.Operand.tmp 16), type := 24, pos := "shape.go:36", after := #[{ on := 0, ground := Go.Ground.data }], guard := none }) (v := ?vv2) rfl (by kernel_rfl) (by kernel_rfl) (by kernel_rfl) (fun _ _ _ h => h) (Or.inl ⟨by rfl, ?hy2⟩) (by assumption) ?rr2
      case hy2 => intro w hSw; (try dsimp only at hSw); go_simp; all_goals with_reducible rfl
      try simp only [Act.put, List.setIfInBounds_toArray, List.set_cons_zero, List.set_cons_succ]
      refine wpAnyH_take (i := 2) (oi := { dst := some 18, op := Go.Op.load 27 (Go.Operand.tmp 1), type := 27, pos := "shape.go:36", after := #[], guard := none }) (v := ?vv3) rfl (by kernel_rfl) (by kernel_rfl) (by kernel_rfl) (fun _ _ _ h => h) (Or.inl ⟨by rfl, ?hy3⟩) (by assumption) ?rr3
      case hy3 => intro w hSw; (try dsimp only at hSw); go_simp; all_goals with_reducible rfl
      try simp only [Act.put, List.setIfInBounds_toArray, List.set_cons_zero, List.set_cons_succ]
      refine wpAnyH_ready (rs := [3, 9]) (by kernel_rfl) (by simp) ?_
      refine AllReadyH.cons (i := 3) (o := { dst := some 19, op := Go.Op.call { callee := Go.Callee.value (Go.Operand.func 27), args := #[Go.Operand.tmp 18], argTypes := #[27] }, type := 34, pos := "shape.go:36", after := #[{ on := 2, ground := Go.Ground.data }], guard := none }) rfl (fun K hK => ?_) (AllReadyH.cons (i := 9) (o := { dst := some 5, op := Go.Op.alloc 24, type := 0, pos := "shape.go:36", after := #[], guard := none }) rfl (fun K hK => ?_) AllReadyH.nil)
      · go_simp
        go_at_call 27
        refine (roots_any15 s A c _ (OX1.out.below (Below.refl _ w1).drew) HFX.out).mono ?_
        rintro e1 v1 ⟨R1, d1, rfl, ho, hb⟩
        have HI1 := hid (own_ints ho)
        clear ho
        have HV1 := hid (then_b (Below.refl _ w1).drew hb)
        refine hK.out _ _ ?_ (fun hH1 => ?_)
        · exact ⟨cell_later hb hH0.1, cell_later hb hH0.2.1, cell_later hb hH0.2.2.1, cell_later hb hH0.2.2.2.1, cell_later hb hH0.2.2.2.2.1, cell_later hb hH0.2.2.2.2.2.1, cell_later hb hH0.2.2.2.2.2.2.1, cell_later hb hH0.2.2.2.2.2.2.2⟩
        clear hK K
        try simp only [Act.put, List.setIfInBounds_toArray, List.set_cons_zero, List.set_cons_succ]
        clear hb
        refine wpAnyH_ready (rs := [4, 9]) (by kernel_rfl) (by simp) ?_
        refine AllReadyH.cons (i := 4) (o := { dst := some 20, op := Go.Op.call { callee := Go.Callee.value (Go.Operand.func 26), args := #[Go.Operand.tmp 17, Go.Operand.tmp 19], argTypes := #[24, 34] }, type := 51, pos := "shape.go:36", after := #[{ on := 1, ground := Go.Ground.data }, { on := 3, ground := Go.Ground.data }, { on := 3, ground := Go.Ground.chain }], guard := none }) rfl (fun K hK => ?_) (AllReadyH.cons (i := 9) (o := { dst := some 5, op := Go.Op.alloc 24, type := 0, pos := "shape.go:36", after := #[], guard := none }) rfl (fun K hK => ?_) AllReadyH.nil)
        · go_simp
          go_at_call 26
          refine (comp15 HK1.out.symm HLr.out.symm HEN.out A R1 c d1 _ (OX1.out.below HV1.out) HFX.out (HI1.out) (by rw [rt15_len]; decide)).mono ?_
          rintro e1 v2 ⟨A1, c1, A2, c2, ls, rfl, hls, hob, hown, hb⟩
          have HLS := hid hls
          have HO2 := hid hob
          have HI2 := hid hown
          clear hls hob hown
          have HV2 := hid (then_b HV1.out hb)
          refine hK.out _ _ ?_ (fun hH2 => ?_)
          · exact ⟨cell_later hb hH1.1, cell_later hb hH1.2.1, cell_later hb hH1.2.2.1, cell_later hb hH1.2.2.2.1, cell_later hb hH1.2.2.2.2.1, cell_later hb hH1.2.2.2.2.2.1, cell_later hb hH1.2.2.2.2.2.2.1, cell_later hb hH1.2.2.2.2.2.2.2⟩
          clear hK K
          try simp only [Act.put, List.setIfInBounds_toArray, List.set_cons_zero, List.set_cons_succ]
          clear hb
          refine wpAnyH_take (i := 5) (oi := { dst := some 15, op := Go.Op.move (Go.Operand.tmp 20), type := 51, pos := "shape.go:36", after := #[{ on := 4, ground := Go.Ground.data }], guard := none }) (v := ?vv4) rfl (by kernel_rfl) (by kernel_rfl) (by kernel_rfl) (fun _ _ _ h => h) (Or.inl ⟨by rfl, ?hy4⟩) (by assumption) ?rr4
          case hy4 => intro w hSw; (try dsimp only at hSw); go_simp; all_goals with_reducible rfl
          try simp only [Act.put, List.setIfInBounds_toArray, List.set_cons_zero, List.set_cons_succ]
          refine wpAnyH_take (i := 6) (oi := { dst := some 21, op := Go.Op.extract (Go.Operand.tmp 15) 0, type := 24, pos := "shape.go:36", after := #[{ on := 5, ground := Go.Ground.data }], guard := none }) (v := ?vv5) rfl (by kernel_rfl) (by kernel_rfl) (by kernel_rfl) (fun _ _ _ h => h) (Or.inl ⟨by rfl, ?hy5⟩) (by assumption) ?rr5
          case hy5 => intro w hSw; (try dsimp only at hSw); go_simp; all_goals with_reducible rfl
          try simp only [Act.put, List.setIfInBounds_toArray, List.set_cons_zero, List.set_cons_succ]
          refine wpAnyH_take (i := 7) (oi := { dst := some 22, op := Go.Op.extract (Go.Operand.tmp 15) 1, type := 34, pos := "shape.go:36", after := #[{ on := 5, ground := Go.Ground.data }, { on := 10, ground := Go.Ground.gcOnly Go.Departure.lateStores }], guard := none }) (v := ?vv6) rfl (by kernel_rfl) (by kernel_rfl) (by kernel_rfl) (fun _ _ _ h => h) (Or.inl ⟨by rfl, ?hy6⟩) (by assumption) ?rr6
          case hy6 => intro w hSw; (try dsimp only at hSw); go_simp; all_goals with_reducible rfl
          try simp only [Act.put, List.setIfInBounds_toArray, List.set_cons_zero, List.set_cons_succ]
          refine wpAnyH_take (i := 8) (oi := { dst := some 23, op := Go.Op.extract (Go.Operand.tmp 15) 2, type := 25, pos := "shape.go:36", after := #[{ on := 5, ground := Go.Ground.data }, { on := 11, ground := Go.Ground.gcOnly Go.Departure.lateStores }], guard := none }) (v := ?vv7) rfl (by kernel_rfl) (by kernel_rfl) (by kernel_rfl) (fun _ _ _ h => h) (Or.inl ⟨by rfl, ?hy7⟩) (by assumption) ?rr7
          case hy7 => intro w hSw; (try dsimp only at hSw); go_simp; all_goals with_reducible rfl
          try simp only [Act.put, List.setIfInBounds_toArray, List.set_cons_zero, List.set_cons_succ]
          refine wpAnyH_ready (rs := [9]) (by kernel_rfl) (by simp) ?_
          refine AllReadyH.cons (i := 9) (o := { dst := some 5, op := Go.Op.alloc 24, type := 0, pos := "shape.go:36", after := #[], guard := none }) rfl (fun K hK => ?_) AllReadyH.nil
          go_simp
          refine hK.out _ _ ?_ (fun hH3 => ?_)
          · exact ⟨cell_old hH2.1, cell_old hH2.2.1, cell_old hH2.2.2.1, cell_old hH2.2.2.2.1, cell_old hH2.2.2.2.2.1, cell_old hH2.2.2.2.2.2.1, cell_old hH2.2.2.2.2.2.2.1, cell_old hH2.2.2.2.2.2.2.2⟩
          clear hK K
          try simp only [Act.put, List.setIfInBounds_toArray, List.set_cons_zero, List.set_cons_succ]
          have HAL := hid (below_alloc v2 (.cells #[.slice none 0 0, .int .i64 0, .int .i64 0] 24))
          have HV3 := hid (HV2.out.trans (HAL.out.mono HV2.out.size))
          have HG3 := hid (Lies.new v2 24 #[.slice none 0 0, .int .i64 0, .int .i64 0])
          refine wpAnyH_ready (rs := [10]) (by kernel_rfl) (by simp) ?_
          refine AllReadyH.cons (i := 10) (o := { dst := none, op := Go.Op.store 24 (Go.Operand.tmp 5) (Go.Operand.tmp 21), type := 0, pos := "shape.go:36", after := #[{ on := 9, ground := Go.Ground.data }, { on := 6, ground := Go.Ground.data }, { on := 4, ground := Go.Ground.chain }, { on := 0, ground := Go.Ground.phase }, { on := 1, ground := Go.Ground.phase }, { on := 2, ground := Go.Ground.phase }, { on := 3, ground := Go.Ground.phase }, { on := 4, ground := Go.Ground.phase }, { on := 5, ground := Go.Ground.phase }, { on := 6, ground := Go.Ground.phase }, { on := 7, ground := Go.Ground.textOnly Go.Departure.lateStores }, { on := 8, ground := Go.Ground.textOnly Go.Departure.lateStores }, { on := 9, ground := Go.Ground.phase }], guard := none }) rfl (fun K hK => ?_) AllReadyH.nil
          go_simp
          have HV4 := hid (HV2.out.trans ((below_alloc v2 (.cells #[.slice A1 k1.objs.length c1, .int .i64 k1.cap, .int .i64 k1.last] 24)).mono HV2.out.size))
          have HL := hid (Lies.new v2 24 #[.slice A1 k1.objs.length c1, .int .i64 k1.cap, .int .i64 k1.last])
          obtain ⟨W, hW⟩ : ∃ W, W = v2.alloc (.cells #[.slice A1 k1.objs.length c1, .int .i64 k1.cap, .int .i64 k1.last] 24) := ⟨_, rfl⟩
          have hBW : Below v2.heap.size v2 W := by rw [hW]; exact below_alloc _ _
          rw [← hW] at HV4 HL ⊢
          obtain ⟨g, hg⟩ : ∃ g, g = v2.heap.size := ⟨_, rfl⟩
          have hgg : w1.heap.size ≤ g := by rw [hg]; exact HV2.out.size
          rw [← hg] at HL ⊢
          have HO4 := hid (HO2.out.later hBW)
          have HI4 := hid (own_later HI2.out hBW)
          have HVB : w1.heap.size ≤ v1.heap.size := HV1.out.size
          clear hW hg hBW
          refine hK.out _ _ ?_ (fun hH4 => ?_)
          · exact ⟨cell_later HV4.out x0, cell_later HV4.out x1, cell_later HV4.out x2, cell_later HV4.out x3, cell_later HV4.out x4, cell_later HV4.out x5, cell_later HV4.out x6, cell_later HV4.out x7⟩
          clear hK K
          try simp only [Act.put, List.setIfInBounds_toArray, List.set_cons_zero, List.set_cons_succ]
          refine wpAnyH_take (i := 11) (oi := { dst := some 6, op := Go.Op.assign (Go.Operand.tmp 22), type := 34, pos := "shape.go:36", after := #[{ on := 7, ground := Go.Ground.data }, { on := 10, ground := Go.Ground.chain }, { on := 0, ground := Go.Ground.phase }, { on := 1, ground := Go.Ground.phase }, { on := 2, ground := Go.Ground.phase }, { on := 3, ground := Go.Ground.phase }, { on := 4, ground := Go.Ground.phase }, { on := 5, ground := Go.Ground.phase }, { on := 6, ground := Go.Ground.phase }, { on := 7, ground := Go.Ground.phase }, { on := 8, ground := Go.Ground.textOnly Go.Departure.lateStores }, { on := 9, ground := Go.Ground.phase }, { on := 10, ground := Go.Ground.phase }], guard := none }) (v := ?vv8) rfl (by kernel_rfl) (by kernel_rfl) (by kernel_rfl) (fun _ _ _ h => h) (Or.inl ⟨by rfl, ?hy8⟩) (by assumption) ?rr8
          case hy8 => intro w hSw; (try dsimp only at hSw); go_simp; all_goals with_reducible rfl
          try simp only [Act.put, List.setIfInBounds_toArray, List.set_cons_zero, List.set_cons_succ]
          refine wpAnyH_take (i := 12) (oi := { dst := some 7, op := Go.Op.assign (Go.Operand.tmp 23), type := 25, pos := "shape.go:36", after := #[{ on := 8, ground := Go.Ground.data }, { on := 11, ground := Go.Ground.chain }, { on := 0, ground := Go.Ground.phase }, { on := 1, ground := Go.Ground.phase }, { on := 2, ground := Go.Ground.phase }, { on := 3, ground := Go.Ground.phase }, { on := 4, ground := Go.Ground.phase }, { on := 5, ground := Go.Ground.phase }, { on := 6, ground := Go.Ground.phase }, { on := 7, ground := Go.Ground.phase }, { on := 8, ground := Go.Ground.phase }, { on := 9, ground := Go.Ground.phase }, { on := 10, ground := Go.Ground.phase }, { on := 11, ground := Go.Ground.phase }], guard := none }) (v := ?vv9) rfl (by kernel_rfl) (by kernel_rfl) (by kernel_rfl) (fun _ _ _ h => h) (Or.inl ⟨by rfl, ?hy9⟩) (by assumption) ?rr9
          case hy9 => intro w hSw; (try dsimp only at hSw); go_simp; all_goals with_reducible rfl
          try simp only [Act.put, List.setIfInBounds_toArray, List.set_cons_zero, List.set_cons_succ]
          refine wpAnyH_done (by kernel_rfl) ?_ _
          go_wp2_with fail
          go_meet
          exact ⟨g, A1, A2, c1, c2, ls, rfl, rfl, hgg, HL.out, HLS.out, HO4.out.lower (by have := HVB; first | exact this | (simp; omega)), own_lower HI4.out (by have := HVB; first | exact this | (simp; omega)), HV4.out⟩
        · go_simp
          refine hK.out _ _ ?_ (fun hH2 => ?_)
          · exact ⟨cell_old hH1.1, cell_old hH1.2.1, cell_old hH1.2.2.1, cell_old hH1.2.2.2.1, cell_old hH1.2.2.2.2.1, cell_old hH1.2.2.2.2.2.1, cell_old hH1.2.2.2.2.2.2.1, cell_old hH1.2.2.2.2.2.2.2⟩
          clear hK K
          try simp only [Act.put, List.setIfInBounds_toArray, List.set_cons_zero, List.set_cons_succ]
          have HAL := hid (below_alloc v1 (.cells #[.slice none 0 0, .int .i64 0, .int .i64 0] 24))
          have HV2 := hid (HV1.out.trans (HAL.out.mono HV1.out.size))
          have HG2 := hid (Lies.new v1 24 #[.slice none 0 0, .int .i64 0, .int .i64 0])
          obtain ⟨g, hg⟩ : ∃ g, g = v1.heap.size := ⟨_, rfl⟩
          have hgg : w1.heap.size ≤ g := by
            rw [hg]
            exact HV1.out.size
          rw [← hg] at HG2 ⊢
          clear hg
          refine wpAnyH_ready (rs := [4]) (by kernel_rfl) (by simp) ?_
          refine AllReadyH.cons (i := 4) (o := { dst := some 20, op := Go.Op.call { callee := Go.Callee.value (Go.Operand.func 26), args := #[Go.Operand.tmp 17, Go.Operand.tmp 19], argTypes := #[24, 34] }, type := 51, pos := "shape.go:36", after := #[{ on := 1, ground := Go.Ground.data }, { on := 3, ground := Go.Ground.data }, { on := 3, ground := Go.Ground.chain }], guard := none }) rfl (fun K hK => ?_) AllReadyH.nil
          go_simp
          go_at_call 26
          refine (comp15 HK1.out.symm HLr.out.symm HEN.out A R1 c d1 _ (OX1.out.below HV2.out) HFX.out (HI1.out.below HAL.out) (by rw [rt15_len]; decide)).mono ?_
          rintro e1 v2 ⟨A1, c1, A2, c2, ls, rfl, hls, hob, hown, hb⟩
          have HLS := hid hls
          have HO2 := hid hob
          have HI2 := hid hown
          clear hls hob hown
          have HV3 := hid (then_b HV2.out hb)
          have HG3 := hid (HG2.out.later hb)
          refine hK.out _ _ ?_ (fun hH3 => ?_)
          · exact ⟨cell_later hb hH2.1, cell_later hb hH2.2.1, cell_later hb hH2.2.2.1, cell_later hb hH2.2.2.2.1, cell_later hb hH2.2.2.2.2.1, cell_later hb hH2.2.2.2.2.2.1, cell_later hb hH2.2.2.2.2.2.2.1, cell_later hb hH2.2.2.2.2.2.2.2⟩
          clear hK K
          try simp only [Act.put, List.setIfInBounds_toArray, List.set_cons_zero, List.set_cons_succ]
          clear hb
          refine wpAnyH_take (i := 5) (oi := { dst := some 15, op := Go.Op.move (Go.Operand.tmp 20), type := 51, pos := "shape.go:36", after := #[{ on := 4, ground := Go.Ground.data }], guard := none }) (v := ?vv10) rfl (by kernel_rfl) (by kernel_rfl) (by kernel_rfl) (fun _ _ _ h => h) (Or.inl ⟨by rfl, ?hy10⟩) (by assumption) ?rr10
          case hy10 => intro w hSw; (try dsimp only at hSw); go_simp; all_goals with_reducible rfl
          try simp only [Act.put, List.setIfInBounds_toArray, List.set_cons_zero, List.set_cons_succ]
          refine wpAnyH_take (i := 6) (oi := { dst := some 21, op := Go.Op.extract (Go.Operand.tmp 15) 0, type := 24, pos := "shape.go:36", after := #[{ on := 5, ground := Go.Ground.data }], guard := none }) (v := ?vv11) rfl (by kernel_rfl) (by kernel_rfl) (by kernel_rfl) (fun _ _ _ h => h) (Or.inl ⟨by rfl, ?hy11⟩) (by assumption) ?rr11
          case hy11 => intro w hSw; (try dsimp only at hSw); go_simp; all_goals with_reducible rfl
          try simp only [Act.put, List.setIfInBounds_toArray, List.set_cons_zero, List.set_cons_succ]
          refine wpAnyH_take (i := 7) (oi := { dst := some 22, op := Go.Op.extract (Go.Operand.tmp 15) 1, type := 34, pos := "shape.go:36", after := #[{ on := 5, ground := Go.Ground.data }, { on := 10, ground := Go.Ground.gcOnly Go.Departure.lateStores }], guard := none }) (v := ?vv12) rfl (by kernel_rfl) (by kernel_rfl) (by kernel_rfl) (fun _ _ _ h => h) (Or.inl ⟨by rfl, ?hy12⟩) (by assumption) ?rr12
          case hy12 => intro w hSw; (try dsimp only at hSw); go_simp; all_goals with_reducible rfl
          try simp only [Act.put, List.setIfInBounds_toArray, List.set_cons_zero, List.set_cons_succ]
          refine wpAnyH_take (i := 8) (oi := { dst := some 23, op := Go.Op.extract (Go.Operand.tmp 15) 2, type := 25, pos := "shape.go:36", after := #[{ on := 5, ground := Go.Ground.data }, { on := 11, ground := Go.Ground.gcOnly Go.Departure.lateStores }], guard := none }) (v := ?vv13) rfl (by kernel_rfl) (by kernel_rfl) (by kernel_rfl) (fun _ _ _ h => h) (Or.inl ⟨by rfl, ?hy13⟩) (by assumption) ?rr13
          case hy13 => intro w hSw; (try dsimp only at hSw); go_simp; all_goals with_reducible rfl
          try simp only [Act.put, List.setIfInBounds_toArray, List.set_cons_zero, List.set_cons_succ]
          refine wpAnyH_ready (rs := [10]) (by kernel_rfl) (by simp) ?_
          refine AllReadyH.cons (i := 10) (o := { dst := none, op := Go.Op.store 24 (Go.Operand.tmp 5) (Go.Operand.tmp 21), type := 0, pos := "shape.go:36", after := #[{ on := 9, ground := Go.Ground.data }, { on := 6, ground := Go.Ground.data }, { on := 4, ground := Go.Ground.chain }, { on := 0, ground := Go.Ground.phase }, { on := 1, ground := Go.Ground.phase }, { on := 2, ground := Go.Ground.phase }, { on := 3, ground := Go.Ground.phase }, { on := 4, ground := Go.Ground.phase }, { on := 5, ground := Go.Ground.phase }, { on := 6, ground := Go.Ground.phase }, { on := 7, ground := Go.Ground.textOnly Go.Departure.lateStores }, { on := 8, ground := Go.Ground.textOnly Go.Departure.lateStores }, { on := 9, ground := Go.Ground.phase }], guard := none }) rfl (fun K hK => ?_) AllReadyH.nil
          have r0 := HG3.out.cell 0
          have r1 := HG3.out.cell 1
          have r2 := HG3.out.cell 2
          have f0 := HG3.out.frozen 0
          have f1 := HG3.out.frozen 1
          have f2 := HG3.out.frozen 2
          simp only [List.getElem?_toArray, List.getElem?_cons_zero, List.getElem?_cons_succ] at r0 r1 r2
          go_simp
          have HV4 := hid (((HV3.out.setCell (p := ⟨g, 0, none⟩) hgg (.slice A1 k1.objs.length c1)).setCell (p := ⟨g, 1, none⟩) hgg (.int .i64 k1.cap)).setCell (p := ⟨g, 2, none⟩) hgg (.int .i64 k1.last))
          have HL := hid (((HG3.out.set_ 0 (.slice A1 k1.objs.length c1)).set_ 1 (.int .i64 k1.cap)).set_ 2 (.int .i64 k1.last))
          have HO4 := hid (((HO2.out.off HG3.out 0 (.slice A1 k1.objs.length c1)).off (HG3.out.set_ 0 (.slice A1 k1.objs.length c1)) 1 (.int .i64 k1.cap)).off ((HG3.out.set_ 0 (.slice A1 k1.objs.length c1)).set_ 1 (.int .i64 k1.cap)) 2 (.int .i64 k1.last))
          have HI4 := hid (own_off15 (own_off15 (own_off15 HI2.out HG3.out (by decide) 0 (.slice A1 k1.objs.length c1)) (HG3.out.set_ 0 (.slice A1 k1.objs.length c1)) (by decide) 1 (.int .i64 k1.cap)) ((HG3.out.set_ 0 (.slice A1 k1.objs.length c1)).set_ 1 (.int .i64 k1.cap)) (by decide) 2 (.int .i64 k1.last))
          simp only [List.setIfInBounds_toArray, List.set_cons_zero, List.set_cons_succ] at HL
          have HVB : w1.heap.size ≤ v1.heap.size := HV1.out.size
          obtain ⟨W, hW⟩ : ∃ W, W = ((v2.setCell ⟨g, 0, none⟩ (.slice A1 k1.objs.length c1)).setCell ⟨g, 1, none⟩ (.int .i64 k1.cap)).setCell ⟨g, 2, none⟩ (.int .i64 k1.last) := ⟨_, rfl⟩
          rw [← hW] at HV4 HL HO4 HI4 ⊢
          clear hW
          refine hK.out _ _ ?_ (fun hH4 => ?_)
          · exact ⟨cell_later HV4.out x0, cell_later HV4.out x1, cell_later HV4.out x2, cell_later HV4.out x3, cell_later HV4.out x4, cell_later HV4.out x5, cell_later HV4.out x6, cell_later HV4.out x7⟩
          clear hK K
          try simp only [Act.put, List.setIfInBounds_toArray, List.set_cons_zero, List.set_cons_succ]
          refine wpAnyH_take (i := 11) (oi := { dst := some 6, op := Go.Op.assign (Go.Operand.tmp 22), type := 34, pos := "shape.go:36", after := #[{ on := 7, ground := Go.Ground.data }, { on := 10, ground := Go.Ground.chain }, { on := 0, ground := Go.Ground.phase }, { on := 1, ground := Go.Ground.phase }, { on := 2, ground := Go.Ground.phase }, { on := 3, ground := Go.Ground.phase }, { on := 4, ground := Go.Ground.phase }, { on := 5, ground := Go.Ground.phase }, { on := 6, ground := Go.Ground.phase }, { on := 7, ground := Go.Ground.phase }, { on := 8, ground := Go.Ground.textOnly Go.Departure.lateStores }, { on := 9, ground := Go.Ground.phase }, { on := 10, ground := Go.Ground.phase }], guard := none }) (v := ?vv14) rfl (by kernel_rfl) (by kernel_rfl) (by kernel_rfl) (fun _ _ _ h => h) (Or.inl ⟨by rfl, ?hy14⟩) (by assumption) ?rr14
          case hy14 => intro w hSw; (try dsimp only at hSw); go_simp; all_goals with_reducible rfl
          try simp only [Act.put, List.setIfInBounds_toArray, List.set_cons_zero, List.set_cons_succ]
          refine wpAnyH_take (i := 12) (oi := { dst := some 7, op := Go.Op.assign (Go.Operand.tmp 23), type := 25, pos := "shape.go:36", after := #[{ on := 8, ground := Go.Ground.data }, { on := 11, ground := Go.Ground.chain }, { on := 0, ground := Go.Ground.phase }, { on := 1, ground := Go.Ground.phase }, { on := 2, ground := Go.Ground.phase }, { on := 3, ground := Go.Ground.phase }, { on := 4, ground := Go.Ground.phase }, { on := 5, ground := Go.Ground.phase }, { on := 6, ground := Go.Ground.phase }, { on := 7, ground := Go.Ground.phase }, { on := 8, ground := Go.Ground.phase }, { on := 9, ground := Go.Ground.phase }, { on := 10, ground := Go.Ground.phase }, { on := 11, ground := Go.Ground.phase }], guard := none }) (v := ?vv15) rfl (by kernel_rfl) (by kernel_rfl) (by kernel_rfl) (fun _ _ _ h => h) (Or.inl ⟨by rfl, ?hy15⟩) (by assumption) ?rr15
          case hy15 => intro w hSw; (try dsimp only at hSw); go_simp; all_goals with_reducible rfl
          try simp only [Act.put, List.setIfInBounds_toArray, List.set_cons_zero, List.set_cons_succ]
          refine wpAnyH_done (by kernel_rfl) ?_ _
          go_wp2_with fail
          go_meet
          exact ⟨g, A1, A2, c1, c2, ls, rfl, rfl, hgg, HL.out, HLS.out, HO4.out.lower (by have := HVB; first | exact this | (simp; omega)), own_lower HI4.out (by have := HVB; first | exact this | (simp; omega)), HV4.out⟩
      · go_simp
        refine hK.out _ _ ?_ (fun hH1 => ?_)
        · exact ⟨cell_old hH0.1, cell_old hH0.2.1, cell_old hH0.2.2.1, cell_old hH0.2.2.2.1, cell_old hH0.2.2.2.2.1, cell_old hH0.2.2.2.2.2.1, cell_old hH0.2.2.2.2.2.2.1, cell_old hH0.2.2.2.2.2.2.2⟩
        clear hK K
        try simp only [Act.put, List.setIfInBounds_toArray, List.set_cons_zero, List.set_cons_succ]
        have HAL := hid (below_alloc w1 (.cells #[.slice none 0 0, .int .i64 0, .int .i64 0] 24))
        have HV1 := hid (HAL.out.drew)
        have HG1 := hid ((Lies.new w1 24 #[.slice none 0 0, .int .i64 0, .int .i64 0]).drew)
        obtain ⟨g, hg⟩ : ∃ g, g = w1.heap.size := ⟨_, rfl⟩
        have hgg : w1.heap.size ≤ g := by
          rw [hg]
          exact Nat.le_refl _
        rw [← hg] at HG1 ⊢
        clear hg
        refine wpAnyH_ready (rs := [3]) (by kernel_rfl) (by simp) ?_
        refine AllReadyH.cons (i := 3) (o := { dst := some 19, op := Go.Op.call { callee := Go.Callee.value (Go.Operand.func 27), args := #[Go.Operand.tmp 18], argTypes := #[27] }, type := 34, pos := "shape.go:36", after := #[{ on := 2, ground := Go.Ground.data }], guard := none }) rfl (fun K hK => ?_) AllReadyH.nil
        go_simp
        go_at_call 27
        refine (roots_any15 s A c _ (OX1.out.below HV1.out) HFX.out).mono ?_
        rintro e1 v1 ⟨R1, d1, rfl, ho, hb⟩
        have HI1 := hid (own_ints ho)
        clear ho
        have HV2 := hid (then_b HV1.out hb)
        have HG2 := hid (HG1.out.later hb)
        refine hK.out _ _ ?_ (fun hH2 => ?_)
        · exact ⟨cell_later hb hH1.1, cell_later hb hH1.2.1, cell_later hb hH1.2.2.1, cell_later hb hH1.2.2.2.1, cell_later hb hH1.2.2.2.2.1, cell_later hb hH1.2.2.2.2.2.1, cell_later hb hH1.2.2.2.2.2.2.1, cell_later hb hH1.2.2.2.2.2.2.2⟩
        clear hK K
        try simp only [Act.put, List.setIfInBounds_toArray, List.set_cons_zero, List.set_cons_succ]
        clear hb
        refine wpAnyH_ready (rs := [4]) (by kernel_rfl) (by simp) ?_
        refine AllReadyH.cons (i := 4) (o := { dst := some 20, op := Go.Op.call { callee := Go.Callee.value (Go.Operand.func 26), args := #[Go.Operand.tmp 17, Go.Operand.tmp 19], argTypes := #[24, 34] }, type := 51, pos := "shape.go:36", after := #[{ on := 1, ground := Go.Ground.data }, { on := 3, ground := Go.Ground.data }, { on := 3, ground := Go.Ground.chain }], guard := none }) rfl (fun K hK => ?_) AllReadyH.nil
        go_simp
        go_at_call 26
        refine (comp15 HK1.out.symm HLr.out.symm HEN.out A R1 c d1 _ (OX1.out.below HV2.out) HFX.out (HI1.out) (by rw [rt15_len]; decide)).mono ?_
        rintro e1 v2 ⟨A1, c1, A2, c2, ls, rfl, hls, hob, hown, hb⟩
        have HLS := hid hls
        have HO2 := hid hob
        have HI2 := hid hown
        clear hls hob hown
        have HV3 := hid (then_b HV2.out hb)
        have HG3 := hid (HG2.out.later hb)
        refine hK.out _ _ ?_ (fun hH3 => ?_)
        · exact ⟨cell_later hb hH2.1, cell_later hb hH2.2.1, cell_later hb hH2.2.2.1, cell_later hb hH2.2.2.2.1, cell_later hb hH2.2.2.2.2.1, cell_later hb hH2.2.2.2.2.2.1, cell_later hb hH2.2.2.2.2.2.2.1, cell_later hb hH2.2.2.2.2.2.2.2⟩
        clear hK K
        try simp only [Act.put, List.setIfInBounds_toArray, List.set_cons_zero, List.set_cons_succ]
        clear hb
        refine wpAnyH_take (i := 5) (oi := { dst := some 15, op := Go.Op.move (Go.Operand.tmp 20), type := 51, pos := "shape.go:36", after := #[{ on := 4, ground := Go.Ground.data }], guard := none }) (v := ?vv16) rfl (by kernel_rfl) (by kernel_rfl) (by kernel_rfl) (fun _ _ _ h => h) (Or.inl ⟨by rfl, ?hy16⟩) (by assumption) ?rr16
        case hy16 => intro w hSw; (try dsimp only at hSw); go_simp; all_goals with_reducible rfl
        try simp only [Act.put, List.setIfInBounds_toArray, List.set_cons_zero, List.set_cons_succ]
        refine wpAnyH_take (i := 6) (oi := { dst := some 21, op := Go.Op.extract (Go.Operand.tmp 15) 0, type := 24, pos := "shape.go:36", after := #[{ on := 5, ground := Go.Ground.data }], guard := none }) (v := ?vv17) rfl (by kernel_rfl) (by kernel_rfl) (by kernel_rfl) (fun _ _ _ h => h) (Or.inl ⟨by rfl, ?hy17⟩) (by assumption) ?rr17
        case hy17 => intro w hSw; (try dsimp only at hSw); go_simp; all_goals with_reducible rfl
        try simp only [Act.put, List.setIfInBounds_toArray, List.set_cons_zero, List.set_cons_succ]
        refine wpAnyH_take (i := 7) (oi := { dst := some 22, op := Go.Op.extract (Go.Operand.tmp 15) 1, type := 34, pos := "shape.go:36", after := #[{ on := 5, ground := Go.Ground.data }, { on := 10, ground := Go.Ground.gcOnly Go.Departure.lateStores }], guard := none }) (v := ?vv18) rfl (by kernel_rfl) (by kernel_rfl) (by kernel_rfl) (fun _ _ _ h => h) (Or.inl ⟨by rfl, ?hy18⟩) (by assumption) ?rr18
        case hy18 => intro w hSw; (try dsimp only at hSw); go_simp; all_goals with_reducible rfl
        try simp only [Act.put, List.setIfInBounds_toArray, List.set_cons_zero, List.set_cons_succ]
        refine wpAnyH_take (i := 8) (oi := { dst := some 23, op := Go.Op.extract (Go.Operand.tmp 15) 2, type := 25, pos := "shape.go:36", after := #[{ on := 5, ground := Go.Ground.data }, { on := 11, ground := Go.Ground.gcOnly Go.Departure.lateStores }], guard := none }) (v := ?vv19) rfl (by kernel_rfl) (by kernel_rfl) (by kernel_rfl) (fun _ _ _ h => h) (Or.inl ⟨by rfl, ?hy19⟩) (by assumption) ?rr19
        case hy19 => intro w hSw; (try dsimp only at hSw); go_simp; all_goals with_reducible rfl
        try simp only [Act.put, List.setIfInBounds_toArray, List.set_cons_zero, List.set_cons_succ]
        refine wpAnyH_ready (rs := [10]) (by kernel_rfl) (by simp) ?_
        refine AllReadyH.cons (i := 10) (o := { dst := none, op := Go.Op.store 24 (Go.Operand.tmp 5) (Go.Operand.tmp 21), type := 0, pos := "shape.go:36", after := #[{ on := 9, ground := Go.Ground.data }, { on := 6, ground := Go.Ground.data }, { on := 4, ground := Go.Ground.chain }, { on := 0, ground := Go.Ground.phase }, { on := 1, ground := Go.Ground.phase }, { on := 2, ground := Go.Ground.phase }, { on := 3, ground := Go.Ground.phase }, { on := 4, ground := Go.Ground.phase }, { on := 5, ground := Go.Ground.phase }, { on := 6, ground := Go.Ground.phase }, { on := 7, ground := Go.Ground.textOnly Go.Departure.lateStores }, { on := 8, ground := Go.Ground.textOnly Go.Departure.lateStores }, { on := 9, ground := Go.Ground.phase }], guard := none }) rfl (fun K hK => ?_) AllReadyH.nil
        have r0 := HG3.out.cell 0
        have r1 := HG3.out.cell 1
        have r2 := HG3.out.cell 2
        have f0 := HG3.out.frozen 0
        have f1 := HG3.out.frozen 1
        have f2 := HG3.out.frozen 2
        simp only [List.getElem?_toArray, List.getElem?_cons_zero, List.getElem?_cons_succ] at r0 r1 r2
        go_simp
        have HV4 := hid (((HV3.out.setCell (p := ⟨g, 0, none⟩) hgg (.slice A1 k1.objs.length c1)).setCell (p := ⟨g, 1, none⟩) hgg (.int .i64 k1.cap)).setCell (p := ⟨g, 2, none⟩) hgg (.int .i64 k1.last))
        have HL := hid (((HG3.out.set_ 0 (.slice A1 k1.objs.length c1)).set_ 1 (.int .i64 k1.cap)).set_ 2 (.int .i64 k1.last))
        have HO4 := hid (((HO2.out.off HG3.out 0 (.slice A1 k1.objs.length c1)).off (HG3.out.set_ 0 (.slice A1 k1.objs.length c1)) 1 (.int .i64 k1.cap)).off ((HG3.out.set_ 0 (.slice A1 k1.objs.length c1)).set_ 1 (.int .i64 k1.cap)) 2 (.int .i64 k1.last))
        have HI4 := hid (own_off15 (own_off15 (own_off15 HI2.out HG3.out (by decide) 0 (.slice A1 k1.objs.length c1)) (HG3.out.set_ 0 (.slice A1 k1.objs.length c1)) (by decide) 1 (.int .i64 k1.cap)) ((HG3.out.set_ 0 (.slice A1 k1.objs.length c1)).set_ 1 (.int .i64 k1.cap)) (by decide) 2 (.int .i64 k1.last))
        simp only [List.setIfInBounds_toArray, List.set_cons_zero, List.set_cons_succ] at HL
        have HVB : w1.heap.size ≤ v1.heap.size := HV2.out.size
        obtain ⟨W, hW⟩ : ∃ W, W = ((v2.setCell ⟨g, 0, none⟩ (.slice A1 k1.objs.length c1)).setCell ⟨g, 1, none⟩ (.int .i64 k1.cap)).setCell ⟨g, 2, none⟩ (.int .i64 k1.last) := ⟨_, rfl⟩
        rw [← hW] at HV4 HL HO4 HI4 ⊢
        clear hW
        refine hK.out _ _ ?_ (fun hH4 => ?_)
        · exact ⟨cell_later HV4.out x0, cell_later HV4.out x1, cell_later HV4.out x2, cell_later HV4.out x3, cell_later HV4.out x4, cell_later HV4.out x5, cell_later HV4.out x6, cell_later HV4.out x7⟩
        clear hK K
        try simp only [Act.put, List.setIfInBounds_toArray, List.set_cons_zero, List.set_cons_succ]
        refine wpAnyH_take (i := 11) (oi := { dst := some 6, op := Go.Op.assign (Go.Operand.tmp 22), type := 34, pos := "shape.go:36", after := #[{ on := 7, ground := Go.Ground.data }, { on := 10, ground := Go.Ground.chain }, { on := 0, ground := Go.Ground.phase }, { on := 1, ground := Go.Ground.phase }, { on := 2, ground := Go.Ground.phase }, { on := 3, ground := Go.Ground.phase }, { on := 4, ground := Go.Ground.phase }, { on := 5, ground := Go.Ground.phase }, { on := 6, ground := Go.Ground.phase }, { on := 7, ground := Go.Ground.phase }, { on := 8, ground := Go.Ground.textOnly Go.Departure.lateStores }, { on := 9, ground := Go.Ground.phase }, { on := 10, ground := Go.Ground.phase }], guard := none }) (v := ?vv20) rfl (by kernel_rfl) (by kernel_rfl) (by kernel_rfl) (fun _ _ _ h => h) (Or.inl ⟨by rfl, ?hy20⟩) (by assumption) ?rr20
        case hy20 => intro w hSw; (try dsimp only at hSw); go_simp; all_goals with_reducible rfl
        try simp only [Act.put, List.setIfInBounds_toArray, List.set_cons_zero, List.set_cons_succ]
        refine wpAnyH_take (i := 12) (oi := { dst := some 7, op := Go.Op.assign (Go.Operand.tmp 23), type := 25, pos := "shape.go:36", after := #[{ on := 8, ground := Go.Ground.data }, { on := 11, ground := Go.Ground.chain }, { on := 0, ground := Go.Ground.phase }, { on := 1, ground := Go.Ground.phase }, { on := 2, ground := Go.Ground.phase }, { on := 3, ground := Go.Ground.phase }, { on := 4, ground := Go.Ground.phase }, { on := 5, ground := Go.Ground.phase }, { on := 6, ground := Go.Ground.phase }, { on := 7, ground := Go.Ground.phase }, { on := 8, ground := Go.Ground.phase }, { on := 9, ground := Go.Ground.phase }, { on := 10, ground := Go.Ground.phase }, { on := 11, ground := Go.Ground.phase }], guard := none }) (v := ?vv21) rfl (by kernel_rfl) (by kernel_rfl) (by kernel_rfl) (fun _ _ _ h => h) (Or.inl ⟨by rfl, ?hy21⟩) (by assumption) ?rr21
        case hy21 => intro w hSw; (try dsimp only at hSw); go_simp; all_goals with_reducible rfl
        try simp only [Act.put, List.setIfInBounds_toArray, List.set_cons_zero, List.set_cons_succ]
        refine wpAnyH_done (by kernel_rfl) ?_ _
        go_wp2_with fail
        go_meet
        exact ⟨g, A1, A2, c1, c2, ls, rfl, rfl, hgg, HL.out, HLS.out, HO4.out.lower (by have := HVB; first | exact this | (simp; omega)), own_lower HI4.out (by have := HVB; first | exact this | (simp; omega)), HV4.out⟩
    case rest =>
      obtain ⟨g, A1, A2, c1, c2, ls, rfl, rfl, hgg, hL, hls, hO, hI, hb⟩ := hcut
      have HGG := hid hgg
      have HLS := hid hls
      clear hgg hls
      rename World => w2
      clear x0 x1 x2 x3 x4 x5 x6 x7
      have HB2 := hid (then_w HB1.out hb)
      have X2 := hid (X1.out.later hb)
      have K2 := hid (K1.out.later hb)
      have OX2 := hid (OX1.out.below hb)
      have G2 := hid hL
      have Q2 := hid hO
      have HI2 := hid hI
      clear hb hL hO hI
      clear HB1 X1 K1 OX1
      obtain ⟨bI, oI, rfl, hlt, hcs⟩ := own_ints HI2.out (by omega)
      have I12 := hid (hcs 12 p1 HL12.out)
      have I13 := hid (hcs 13 r1 HL13.out)
      have HIL := hid hlt
      clear HI2 hcs hlt
      have x0 := X2.out.cell 0
      have x1 := X2.out.cell 1
      have x2 := X2.out.cell 2
      have x3 := X2.out.cell 3
      have x4 := X2.out.cell 4
      have x5 := X2.out.cell 5
      have x6 := X2.out.cell 6
      have x7 := X2.out.cell 7
      simp only [List.getElem?_toArray, List.getElem?_cons_zero, List.getElem?_cons_succ] at x0 x1 x2 x3 x4 x5 x6 x7
      go_upto_region 6 with fail
      clear x0 x1 x2 x3 x4 x5 x6 x7
      obtain ⟨w3, hw⟩ : ∃ x, x = w2.alloc (.cells #[.slice A s.hp.objs.length c, .int .i64 s.hp.cap, .int .i64 s.hp.last, .int .i64 s.proc, .int .i64 s.ready, .int .i64 s.halt, .int .i64 s.steps, .int .i64 s.used] 27) := ⟨_, rfl⟩
      obtain ⟨bc, hbx⟩ : ∃ x, x = w2.heap.size := ⟨_, rfl⟩
      have C3 : Hid (Lies w3 bc 27 #[.slice A s.hp.objs.length c, .int .i64 s.hp.cap, .int .i64 s.hp.last, .int .i64 s.proc, .int .i64 s.ready, .int .i64 s.halt, .int .i64 s.steps, .int .i64 s.used]) := by show Lies _ _ _ _; rw [hw, hbx]; exact Lies.new _ _ _
      have hb : Below w2.heap.size w2 w3 := by rw [hw]; exact below_alloc _ _
      rw [← hw, ← hbx]
      have ne_X_C : Hid ((w.heap.size) ≠ bc) := by show _ ≠ _; rw [hbx]; exact Nat.ne_of_lt X2.out.lt
      have ne_K_C : Hid ((w.heap.size + 1) ≠ bc) := by show _ ≠ _; rw [hbx]; exact Nat.ne_of_lt K2.out.lt
      have ne_G_C : Hid (g ≠ bc) := by show _ ≠ _; rw [hbx]; exact Nat.ne_of_lt G2.out.lt
      have at_C : Hid (bc = w2.heap.size) := hbx
      have le_HB_C : Hid (w.heap.size ≤ bc) := by show _ ≤ _; rw [hbx]; exact HB2.out.size
      clear hbx hw
      have HALC := hid hb
      have HB3 := hid (then_w HB2.out hb)
      have X3 := hid (X2.out.later hb)
      have K3 := hid (K2.out.later hb)
      have G3 := hid (G2.out.later hb)
      have Q3 := hid (Q2.out.later hb)
      have OX3 := hid (OX2.out.below hb)
      clear hb
      clear HB2 X2 K2 G2 Q2 OX2
      have hbI : Hid (bI ≠ bc) := by show _ ≠ _; rw [at_C.out]; exact Nat.ne_of_lt HIL.out
      have i12 := cell_later (show Below w2.heap.size w2 w3 from HALC.out) I12.out
      have i13 := cell_later (show Below w2.heap.size w2 w3 from HALC.out) I13.out
      have g0 := G3.out.cell 0
      have g1 := G3.out.cell 1
      have g2 := G3.out.cell 2
      simp only [List.getElem?_toArray, List.getElem?_cons_zero, List.getElem?_cons_succ] at g0 g1 g2
      have cc0 := C3.out.cell 0
      have cc1 := C3.out.cell 1
      have cc2 := C3.out.cell 2
      have cc3 := C3.out.cell 3
      have cc4 := C3.out.cell 4
      have cc5 := C3.out.cell 5
      have cc6 := C3.out.cell 6
      have cc7 := C3.out.cell 7
      have ccf0 := C3.out.frozen 0
      have ccf1 := C3.out.frozen 1
      have ccf2 := C3.out.frozen 2
      have ccf3 := C3.out.frozen 3
      have ccf4 := C3.out.frozen 4
      have ccf5 := C3.out.frozen 5
      have ccf6 := C3.out.frozen 6
      have ccf7 := C3.out.frozen 7
      simp only [List.getElem?_toArray, List.getElem?_cons_zero, List.getElem?_cons_succ] at cc0 cc1 cc2 cc3 cc4 cc5 cc6 cc7
      go_region
      clear g0 g1 g2 ccf0 ccf1 ccf2 ccf3 ccf4 ccf5 ccf6 ccf7 cc0 cc1 cc2 cc3 cc4 cc5 cc6 cc7
      clear i12 i13
      obtain ⟨w4, hw⟩ : ∃ x, x = (((((w3.setCell ⟨bc, 0, none⟩ (.slice A1 k1.objs.length c1)).setCell ⟨bc, 1, none⟩ (.int .i64 k1.cap)).setCell ⟨bc, 2, none⟩ (.int .i64 k1.last)).setCell ⟨bc, 3, none⟩ (.int .i64 p1)).setCell ⟨bc, 4, none⟩ (.int .i64 r1)).drew := ⟨_, rfl⟩
      rw [← hw]
      have hw2 : w4 = (sets15 w3 bc 0 [.slice A1 k1.objs.length c1, .int .i64 k1.cap, .int .i64 k1.last, .int .i64 p1, .int .i64 r1]).drew := hw
      clear hw
      have HB4 : Hid (Below w.heap.size w w4) := by show Below _ _ _; rw [hw2]; exact (Below.sets15 le_HB_C.out [.slice A1 k1.objs.length c1, .int .i64 k1.cap, .int .i64 k1.last, .int .i64 p1, .int .i64 r1] 0 HB3.out).drew
      have Q4 : Hid (OwnH w4 w1.heap.size A1 c1 ls) := by show OwnH _ _ _ _ _; rw [hw2]; exact (OwnH.sets15 (by decide) (by decide) [.slice A1 k1.objs.length c1, .int .i64 k1.cap, .int .i64 k1.last, .int .i64 p1, .int .i64 r1] 0 Q3.out C3.out).later (Below.refl _ _).drew
      have X4 : Hid (Lies w4 (w.heap.size) 27 #[.slice A s.hp.objs.length c, .int .i64 s.hp.cap, .int .i64 s.hp.last, .int .i64 s.proc, .int .i64 s.ready, .int .i64 s.halt, .int .i64 s.steps, .int .i64 s.used]) := by show Lies _ _ _ _; rw [hw2]; exact (Lies.sets15_far ne_X_C.out [.slice A1 k1.objs.length c1, .int .i64 k1.cap, .int .i64 k1.last, .int .i64 p1, .int .i64 r1] 0 X3.out).drew
      have K4 : Hid (Lies w4 (w.heap.size + 1) 27 #[.slice none 0 0, .int .i64 0, .int .i64 0, .int .i64 0, .int .i64 0, .int .i64 0, .int .i64 0, .int .i64 0]) := by show Lies _ _ _ _; rw [hw2]; exact (Lies.sets15_far ne_K_C.out [.slice A1 k1.objs.length c1, .int .i64 k1.cap, .int .i64 k1.last, .int .i64 p1, .int .i64 r1] 0 K3.out).drew
      have G4 : Hid (Lies w4 g 24 #[.slice A1 k1.objs.length c1, .int .i64 k1.cap, .int .i64 k1.last]) := by show Lies _ _ _ _; rw [hw2]; exact (Lies.sets15_far ne_G_C.out [.slice A1 k1.objs.length c1, .int .i64 k1.cap, .int .i64 k1.last, .int .i64 p1, .int .i64 r1] 0 G3.out).drew
      have C4 : Hid (Lies w4 bc 27 #[.slice A1 k1.objs.length c1, .int .i64 k1.cap, .int .i64 k1.last, .int .i64 p1, .int .i64 r1, .int .i64 s.halt, .int .i64 s.steps, .int .i64 s.used]) := by show Lies _ _ _ _; rw [hw2]; exact (C3.out.s5_15 (.slice A1 k1.objs.length c1) (.int .i64 k1.cap) (.int .i64 k1.last) (.int .i64 p1) (.int .i64 r1)).drew
      clear hw2
      clear HB3 X3 K3 G3 C3 Q3 OX3
      have y0 := K4.out.cell 0
      have y1 := K4.out.cell 1
      have y2 := K4.out.cell 2
      have y3 := K4.out.cell 3
      have y4 := K4.out.cell 4
      have y5 := K4.out.cell 5
      have y6 := K4.out.cell 6
      have y7 := K4.out.cell 7
      have yf0 := K4.out.frozen 0
      have yf1 := K4.out.frozen 1
      have yf2 := K4.out.frozen 2
      have yf3 := K4.out.frozen 3
      have yf4 := K4.out.frozen 4
      have yf5 := K4.out.frozen 5
      have yf6 := K4.out.frozen 6
      have yf7 := K4.out.frozen 7
      simp only [List.getElem?_toArray, List.getElem?_cons_zero, List.getElem?_cons_succ] at y0 y1 y2 y3 y4 y5 y6 y7
      have cc0 := C4.out.cell 0
      have cc1 := C4.out.cell 1
      have cc2 := C4.out.cell 2
      have cc3 := C4.out.cell 3
      have cc4 := C4.out.cell 4
      have cc5 := C4.out.cell 5
      have cc6 := C4.out.cell 6
      have cc7 := C4.out.cell 7
      simp only [List.getElem?_toArray, List.getElem?_cons_zero, List.getElem?_cons_succ] at cc0 cc1 cc2 cc3 cc4 cc5 cc6 cc7
      go_wp2_with fail
      clear yf0 yf1 yf2 yf3 yf4 yf5 yf6 yf7 y0 y1 y2 y3 y4 y5 y6 y7 cc0 cc1 cc2 cc3 cc4 cc5 cc6 cc7
      have KF : Lies (sets15 w4 (w.heap.size + 1) 0 [.slice A1 k1.objs.length c1, .int .i64 k1.cap, .int .i64 k1.last, .int .i64 p1, .int .i64 r1, .int .i64 s.halt, .int .i64 s.steps, .int .i64 s.used]) (w.heap.size + 1) 27 #[.slice A1 k1.objs.length c1, .int .i64 k1.cap, .int .i64 k1.last, .int .i64 p1, .int .i64 r1, .int .i64 s.halt, .int .i64 s.steps, .int .i64 s.used] := K4.out.s8_15 (.slice A1 k1.objs.length c1) (.int .i64 k1.cap) (.int .i64 k1.last) (.int .i64 p1) (.int .i64 r1) (.int .i64 s.halt) (.int .i64 s.steps) (.int .i64 s.used)
      have r0_ := KF.cell 0
      have r1_ := KF.cell 1
      have r2_ := KF.cell 2
      have r3_ := KF.cell 3
      have r4_ := KF.cell 4
      have r5_ := KF.cell 5
      have r6_ := KF.cell 6
      have r7_ := KF.cell 7
      simp only [sets15, Nat.zero_add, Nat.reduceAdd, List.getElem?_toArray, List.getElem?_cons_zero, List.getElem?_cons_succ] at r0_ r1_ r2_ r3_ r4_ r5_ r6_ r7_
      refine bodyPost_ret (v := .tuple #[.agg #[.slice A1 k1.objs.length c1, .int .i64 k1.cap, .int .i64 k1.last, .int .i64 p1, .int .i64 r1, .int .i64 s.halt, .int .i64 s.steps, .int .i64 s.used], .int .i64 0]) (by simp [results, Tryz.results8, go_sem, r0_, r1_, r2_, r3_, r4_, r5_, r6_, r7_]) rfl ?_
      exact ⟨A1, c1, by rw [E.out, HT.out, ← HCI.out], by rw [E.out, HT.out]; exact own_obs (OwnH.sets15 (by decide) (by decide) [.slice A1 k1.objs.length c1, .int .i64 k1.cap, .int .i64 k1.last, .int .i64 p1, .int .i64 r1, .int .i64 s.halt, .int .i64 s.steps, .int .i64 s.used] 0 Q4.out K4.out) HLS.out, Below.sets15 (by omega) [.slice A1 k1.objs.length c1, .int .i64 k1.cap, .int .i64 k1.last, .int .i64 p1, .int .i64 r1, .int .i64 s.halt, .int .i64 s.steps, .int .i64 s.used] 0 HB4.out⟩
end Go.Proofs.YtnilempeldlieaaGreat
