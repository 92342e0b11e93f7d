/- move.Compact walked. -/
import Derived.Test.YtnilempeldlieaaGreatM11
import Derived.Test.YtnilempeldlieaaGreatM17
import Derived.Test.YtnilempeldlieaaGreatWF
namespace Go.Proofs.YtnilempeldlieaaGreat
open Go.RowKit
set_option maxRecDepth 100000
theorem tab_two {h : Hp} {rs : List Int} (e : liE h rs = 0) {k : Nat} (hk : k < (tabL h rs).length) : (tabL h rs)[k] = -1 ∨ 0 ≤ (tabL h rs)[k] := by
  rw [tabL_len e] at hk
  have h1 := tab_at e hk 0
  rw [List.getD_eq_getElem?_getD, List.getElem?_eq_getElem (by rw [tabL_len e]; exact hk)] at h1
  simp only [Option.getD_some] at h1
  rw [h1]
  unfold newK
  split
  · exact .inr (Int.natCast_nonneg _)
  · exact .inl rfl
theorem tab_getD {t : List Int} {k : Nat} (hk : k < t.length) : t.getD k (-1) = t[k] := by rw [List.getD_eq_getElem?_getD, List.getElem?_eq_getElem hk]; rfl
set_option maxHeartbeats 1500000 in
theorem compact_own (h : Hp) (rs : List Int) (A R : Option Addr) (c d : Nat) (w : World) (hs : ObsR w A h.objs) (fit : h.Fit) (hr : IntsR w R rs) (hl : rs.length ≤ 100000) :
    Calls Tryz.prog 26 #[.agg #[.slice A h.objs.length c, .int .i64 h.cap, .int .i64 h.last], .slice R rs.length d] w (HeapIntsOwn w (coH h rs) (coL h rs) (liE h rs)) := by
  have HB0 := hid (below_alloc2 w (.cells #[Value.slice A h.objs.length c, Value.int .i64 h.cap, Value.int .i64 h.last] 24) (.cells #[.slice none 0 0, .int .i64 0, .int .i64 0] 24))
  have X0 := hid ((Lies.new w 24 #[Value.slice A h.objs.length c, Value.int .i64 h.cap, Value.int .i64 h.last]).alloc (.cells #[.slice none 0 0, .int .i64 0, .int .i64 0] 24))
  have K0 : Hid (Lies ((w.alloc (.cells #[Value.slice A h.objs.length c, Value.int .i64 h.cap, Value.int .i64 h.last] 24)).alloc (.cells #[.slice none 0 0, .int .i64 0, .int .i64 0] 24)) (w.heap.size + 1) 24 #[.slice none 0 0, .int .i64 0, .int .i64 0]) := by
    have := Lies.new (w.alloc (.cells #[Value.slice A h.objs.length c, Value.int .i64 h.cap, Value.int .i64 h.last] 24)) 24 #[.slice none 0 0, .int .i64 0, .int .i64 0]
    simpa [Hid] using this
  have HS := hid hs
  have HF := hid fit
  have HR := hid hr
  clear hs fit hr
  by_cases he : liE h rs = 0
  · have HM := hid (li_ok he).1
    have hle := may_len (li_ok he).1
    have htl := tabL_len he
    have HTW : Hid (∀ k (hk : k < (tabL h rs).length), (tabL h rs)[k] = -1 ∨ 0 ≤ (tabL h rs)[k]) := fun k hk => tab_two he hk
    have HCH := hid (coH_yes he)
    have HCL := hid (coL_yes he)
    obtain ⟨t, ht⟩ : ∃ t, t = tabL h rs := ⟨_, rfl⟩
    rw [← ht] at htl HTW HCH HCL
    have htl1 : t.length ≤ h.objs.length := by omega
    have htl2 : h.objs.length ≤ t.length := by omega
    clear htl
    rw [he]
    go_enter Tryz.func26, Tryz.ntmps26
    go_wp2_with fail
    refine (table_any h rs A R c d _ (HS.out.below HB0.out) HF.out (HR.out.below HB0.out) (by omega)).mono ?_
    rintro e w1 ⟨A1, c1, rfl, hi1, -, -, hb1⟩
    rw [he, ← ht]
    rw [← ht] at hi1
    have HB1 := hid (HB0.out.trans (hb1.mono HB0.out.size))
    have X1 := hid (X0.out.later hb1)
    have K1 := hid (K0.out.later hb1)
    have HI1 := hid hi1
    clear hi1 hb1 ht
    have x0 := X1.out.cell 0
    have x1 := X1.out.cell 1
    have x2 := X1.out.cell 2
    simp only [List.getElem?_toArray, List.getElem?_cons_zero, List.getElem?_cons_succ] at x0 x1 x2
    have hw01 : w.heap.size + 1 < w1.heap.size := K1.out.lt
    have hwn : w.heap.size ≠ w1.heap.size := by omega
    have XA := hid (X1.out.alloc (.cells #[.slice none 0 0, .int .i64 h.cap, .int .i64 h.last] 24))
    have xa := XA.out.cell 0
    simp only [List.getElem?_toArray, List.getElem?_cons_zero] at xa
    go_wp2_with fail
    obtain ⟨W1, hW1⟩ : ∃ W1, W1 = w1.alloc (.cells #[.slice none 0 0, .int .i64 h.cap, .int .i64 h.last] 24) := ⟨_, rfl⟩
    have hG1 : Lies W1 w1.heap.size 24 #[.slice none 0 0, .int .i64 h.cap, .int .i64 h.last] := by rw [hW1]; exact Lies.new _ _ _
    have hb1 : Below w1.heap.size w1 W1 := by rw [hW1]; exact below_alloc _ _
    have hz1 : W1.heap.size = w1.heap.size + 1 := by rw [hW1]; simp
    rw [← hW1]
    have HG1 := hid hG1
    have HBB := hid hb1
    clear hW1 hG1 hb1 x0 x1 x2 xa XA
    go_loopw [27] (fun i wr => ∃ (k : Nat) (A5 : Option Addr) (c5 : Nat) (ls : List LO), k ≤ h.objs.length ∧ i = .int .i64 k ∧ OwnH wr (w1.heap.size + 1) A5 c5 ls ∧ ls.map (·.o) = obsK h t k ∧ Lies wr w1.heap.size 24 #[.slice A5 ls.length c5, .int .i64 h.cap, .int .i64 h.last] ∧ Below w1.heap.size w1 wr ∧ w1.heap.size + 1 ≤ wr.heap.size) (fun i _ => h.objs.length - (intOf i).toNat)
    case atStart => exact ⟨0, none, 0, [], Nat.zero_le _, rfl, OwnH.nil _ _, rfl, HG1.out, HBB.out, by omega⟩
    case round =>
      clear HG1 HBB
      obtain ⟨k, A5, c5, ls, hk, rfl, hown, hls, hbox, hbw, hsz⟩ := hrel
      rename World => wo
      have HO := hid hown
      have HLS := hid hls
      have HG := hid hbox
      have HW := hid hbw
      have hll : ls.length ≤ k := by
        have := obsK_le h t k
        rw [← hls, List.length_map] at this
        exact this
      clear hown hls hbox hbw
      by_cases hlt : k < h.objs.length
      · obtain ⟨b, off, rfl, hb, hc⟩ := HS.out (by omega)
        have hoi := List.getElem?_eq_getElem hlt
        obtain ⟨S, ds, hob, hin, -, -⟩ := hc k _ hoi
        have hok := may_all HM.out _ (List.getElem_mem hlt)
        obtain ⟨o, ho⟩ : ∃ o, o = h.objs[k] := ⟨_, rfl⟩
        rw [← ho] at hob hin hok hoi
        have hol := (kind_len (ob_kind hok)).1
        have HBO := hid (HB1.out.trans (HW.out.mono HB1.out.size))
        obtain ⟨c0, c1', c2, c3, c4, c5'⟩ := hob.below hb HBO.out
        have HIN := hid (hin.below HBO.out)
        have hkt : k < t.length := by omega
        have htw := HTW.out k hkt
        have hgd := tab_getD hkt
        obtain ⟨x, hx⟩ : ∃ x, x = t[k] := ⟨_, rfl⟩
        obtain ⟨bt, ot, rfl, hbt, hct⟩ := HI1.out (by omega)
        have tc := (HW.out.cell (p := ⟨bt, ot + k, none⟩) hbt).trans (hct k _ (List.getElem?_eq_getElem hkt))
        rw [← hx] at tc htw hgd
        have HAL := hid (below_alloc wo (.cells (obC o S ds) 41))
        have tc2 := cell_old (ob := .cells (obC o S ds) 41) tc
        unfold obC at tc2
        have HGD := hid hgd
        have HOI : Hid (h.objs[k] = o) := ho.symm
        clear hc hct hob hin hok ho hgd hx hoi
        by_cases hx1 : x = -1
        · have hob2 : obsK h t (k + 1) = obsK h t k := obsK_out h t (by rw [HGD.out, hx1]; decide)
          have HOB2 := hid hob2
          subst hx1
          clear hob2 htw
          go_wp2_with fail
          go_roundw
          case rel =>
            refine ⟨k + 1, A5, c5, ls, by omega, by go_num, HO.out.later HAL.out, by rw [HLS.out, HOB2.out], HG.out.later HAL.out, HW.out.trans (HAL.out.mono HW.out.size), by simp; omega⟩
          case measure => simp [intOf]; omega
        · have hx0 : 0 ≤ x := by omega
          have hob2 : obsK h t (k + 1) = obsK h t k ++ [moO t o] := by rw [obsK_in h t hlt (by rw [HGD.out]; exact hx0), HOI.out]
          have HOB2 := hid hob2
          have hxb : (x != -1) = true := by simpa using hx1
          clear hob2 htw hx1
          go_wp2_with fail
          obtain ⟨W, hW⟩ : ∃ W, W = wo.alloc (.cells (obC o S ds) 41) := ⟨_, rfl⟩
          have hWu := hW
          unfold obC at hWu
          rw [← hWu]
          rw [← hW] at HAL
          have HBX : Hid (Lies W wo.heap.size 41 (obC o S ds)) := by rw [hW]; exact Lies.new _ _ _
          have hzW : W.heap.size = wo.heap.size + 1 := by rw [hW]; simp
          have HGW := hid (HG.out.later HAL.out)
          have HOW := hid (HO.out.later HAL.out)
          have g0 := HGW.out.cell 0
          have y0 := HBX.out.cell 0
          have y1 := HBX.out.cell 1
          have y2 := HBX.out.cell 2
          have y3 := HBX.out.cell 3
          have y4 := HBX.out.cell 4
          have y5 := HBX.out.cell 5
          unfold obC at y0 y1 y2 y3 y4 y5
          simp only [List.getElem?_toArray, List.getElem?_cons_zero, List.getElem?_cons_succ] at g0 y0 y1 y2 y3 y4 y5
          have gd : W.drew.cell? ⟨w1.heap.size, 0, none⟩ = some (.slice A5 ls.length c5) := g0
          have HTT := hid (HI1.out.below (HW.out.trans (HAL.out.mono HW.out.size)))
          have HINW := hid (HIN.out.below HAL.out)
          clear hW hWu c0 c1' c2 c3 c4 c5' tc tc2 g0
          have hneW : wo.heap.size ≠ w1.heap.size := by omega
          refine wp_region_held_drew (S := (fun w' => w'.cell? ⟨wo.heap.size, 0, none⟩ = some (.int .i64 o.cls) ∧ w'.cell? ⟨wo.heap.size, 1, none⟩ = some (.int .i64 o.kind) ∧ w'.cell? ⟨wo.heap.size, 2, none⟩ = some (.slice S o.slots.length ds) ∧ w'.cell? ⟨wo.heap.size, 3, none⟩ = some (.string o.text) ∧ w'.cell? ⟨wo.heap.size, 4, none⟩ = some (.int .i64 o.bits) ∧ w'.cell? ⟨wo.heap.size, 5, none⟩ = some (.int .i64 o.hash))) (by kernel_rfl) ?_ (fun hH0 => ?_)
          · exact ⟨y0, y1, y2, y3, y4, y5⟩
          refine wpAnyH_take (i := 0) (oi := { dst := some 37, op := Go.Op.fieldAddr 24 (Go.Operand.tmp 9) 0, type := 0, pos := "move.go:37", after := #[], guard := none }) (v := ?vv1) rfl (by kernel_rfl) (by kernel_rfl) (by kernel_rfl) (fun _ _ _ h => h) (Or.inl ⟨by rfl, ?hy1⟩) (by assumption) ?rr1
          case hy1 => intro w hSw; (try dsimp only at hSw); go_simp; all_goals with_reducible rfl
          try simp only [Act.put, List.setIfInBounds_toArray, List.set_cons_zero, List.set_cons_succ]
          refine wpAnyH_take (i := 2) (oi := { dst := some 39, op := Go.Op.move (Go.Operand.tmp 7), type := 34, pos := "move.go:37", after := #[], guard := none }) (v := ?vv2) rfl (by kernel_rfl) (by kernel_rfl) (by kernel_rfl) (fun _ _ _ h => h) (Or.inl ⟨by rfl, ?hy2⟩) (by assumption) ?rr2
          case hy2 => intro w hSw; (try dsimp only at hSw); go_simp; all_goals with_reducible rfl
          try simp only [Act.put, List.setIfInBounds_toArray, List.set_cons_zero, List.set_cons_succ]
          refine wpAnyH_take (i := 3) (oi := { dst := some 40, op := Go.Op.load 41 (Go.Operand.tmp 11), type := 41, pos := "move.go:37", after := #[], guard := none }) (v := ?vv3) rfl (by kernel_rfl) (by kernel_rfl) (by kernel_rfl) (fun _ _ _ h => h) (Or.inl ⟨by rfl, ?hy3⟩) (by assumption) ?rr3
          case hy3 => intro w hSw; (try dsimp only at hSw); go_simp; all_goals with_reducible rfl
          try simp only [Act.put, List.setIfInBounds_toArray, List.set_cons_zero, List.set_cons_succ]
          refine wpAnyH_ready (rs := [1, 4]) (by kernel_rfl) (by simp) ?_
          refine AllReadyH.cons (i := 1) (o := { dst := some 38, op := Go.Op.load 22 (Go.Operand.tmp 37), type := 22, pos := "move.go:37", after := #[{ on := 0, ground := Go.Ground.data }], guard := none }) rfl (fun K hK => ?_) (AllReadyH.cons (i := 4) (o := { dst := some 41, op := Go.Op.call { callee := Go.Callee.value (Go.Operand.func 50), args := #[Go.Operand.tmp 39, Go.Operand.tmp 40], argTypes := #[34, 41] }, type := 41, pos := "move.go:37", after := #[{ on := 2, ground := Go.Ground.data }, { on := 3, ground := Go.Ground.data }], guard := none }) rfl (fun K hK => ?_) AllReadyH.nil)
          · go_simp
            refine hK.out _ _ ?_ (fun hH1 => ?_)
            · exact hH0
            clear hK K
            try simp only [Act.put, List.setIfInBounds_toArray, List.set_cons_zero, List.set_cons_succ]
            refine wpAnyH_ready (rs := [4]) (by kernel_rfl) (by simp) ?_
            refine AllReadyH.cons (i := 4) (o := { dst := some 41, op := Go.Op.call { callee := Go.Callee.value (Go.Operand.func 50), args := #[Go.Operand.tmp 39, Go.Operand.tmp 40], argTypes := #[34, 41] }, type := 41, pos := "move.go:37", after := #[{ on := 2, ground := Go.Ground.data }, { on := 3, ground := Go.Ground.data }], guard := none }) rfl (fun K hK => ?_) AllReadyH.nil
            go_simp
            go_at_call 50
            refine (moved_any t o (some ⟨bt, ot, none⟩) S c1 ds _ (HTT.out.below (Below.refl _ _).drew) (HINW.out.below (Below.refl _ _).drew) (by omega) hol).mono ?_
            rintro e w' ⟨S3, d3, rfl, hown3, hb⟩
            have hbW : Below W.heap.size W w' := then_b (Below.refl _ _).drew hb
            have hO3 := HOW.out.later hbW
            have hzw := hbW.size
            obtain ⟨A6, c6, w6, hrun, hO6, hg6⟩ := run_app_obj w' (w1.heap.size + 1) W.heap.size A5 c5 ls hO3 (by omega) (moO t o) S3 d3 hown3 (by omega) (fun i li a hi ha => HOW.out.blk_lt hi ha) (by omega)
            have HRUN := hid hrun
            have HO6 := hid hO6
            have HG6 := hid hg6
            have HBW := hid hbW
            have HO3 := hid hO3
            have gw := cell_later hb gd
            have gx := cell_old (ob := .cells (obC (moO t o) S3 d3) 41) gw
            unfold obC at gx
            have hal := below_alloc w' (.cells (obC (moO t o) S3 d3) 41)
            have hrb : ∀ q, (Value.slice A5 ls.length c5).ownBlock = some q → w1.heap.size + 1 ≤ q := fun q hq => (HO3.out.row.lt q hq).1
            have hP6 := ((HGW.out.later hbW).later hal).grown hg6 (fun e => by have := hrb _ e.symm; omega)
            have hY6 := ((HBX.out.later hbW).later hal).grown hg6 (fun e => by have := (HO.out.row.lt _ e.symm).2; omega)
            have p0 := hP6.cell 0
            have pf0 := hP6.frozen 0
            simp only [List.getElem?_toArray, List.getElem?_cons_zero] at p0
            have HP6 := hid hP6
            have HY6 := hid hY6
            clear hown3 hrun hO6 hg6 hbW hO3 hal hP6 hY6
            refine hK.out _ _ ?_ (fun hH2 => ?_)
            · exact ⟨cell_later hb hH1.1, cell_later hb hH1.2.1, cell_later hb hH1.2.2.1, cell_later hb hH1.2.2.2.1, cell_later hb hH1.2.2.2.2.1, cell_later hb hH1.2.2.2.2.2⟩
            clear hK K
            try simp only [Act.put, List.setIfInBounds_toArray, List.set_cons_zero, List.set_cons_succ]
            clear hb
            refine wpAnyH_ready (rs := [5]) (by kernel_rfl) (by simp) ?_
            refine AllReadyH.cons (i := 5) (o := { dst := some 42, op := Go.Op.buildSlice 22 1 #[(0, Go.Operand.tmp 41)], type := 22, pos := "move.go:37", after := #[{ on := 4, ground := Go.Ground.data }], guard := none }) rfl (fun K hK => ?_) AllReadyH.nil
            go_simp
            refine hK.out _ _ ?_ (fun hH3 => ?_)
            · exact ⟨cell_old hH2.1, cell_old hH2.2.1, cell_old hH2.2.2.1, cell_old hH2.2.2.2.1, cell_old hH2.2.2.2.2.1, cell_old hH2.2.2.2.2.2⟩
            clear hK K
            try simp only [Act.put, List.setIfInBounds_toArray, List.set_cons_zero, List.set_cons_succ]
            refine wpAnyH_ready (rs := [6]) (by kernel_rfl) (by simp) ?_
            refine AllReadyH.cons (i := 6) (o := { dst := some 43, op := Go.Op.call { callee := Go.Callee.builtin Go.Builtin.append, args := #[Go.Operand.tmp 38, Go.Operand.tmp 42], argTypes := #[22, 22] }, type := 22, pos := "move.go:37", after := #[{ on := 1, ground := Go.Ground.data }, { on := 5, ground := Go.Ground.data }, { on := 4, ground := Go.Ground.chain }], guard := none }) rfl (fun K hK => ?_) AllReadyH.nil
            rw [if_pos (by rfl)]
            refine wp_app_run (.tmp 38) (.tmp 42) 22 rfl _ _ HRUN.out ?_
            refine hK.out _ _ ?_ (fun hH4 => ?_)
            · exact ⟨HY6.out.cell 0, HY6.out.cell 1, HY6.out.cell 2, HY6.out.cell 3, HY6.out.cell 4, HY6.out.cell 5⟩
            clear hK K
            try simp only [Act.put, List.setIfInBounds_toArray, List.set_cons_zero, List.set_cons_succ]
            refine wpAnyH_take (i := 7) (oi := { dst := some 44, op := Go.Op.fieldAddr 24 (Go.Operand.tmp 9) 0, type := 0, pos := "move.go:37", after := #[{ on := 0, ground := Go.Ground.phase }, { on := 1, ground := Go.Ground.phase }, { on := 2, ground := Go.Ground.phase }, { on := 3, ground := Go.Ground.phase }, { on := 4, ground := Go.Ground.phase }, { on := 5, ground := Go.Ground.phase }, { on := 6, ground := Go.Ground.phase }], guard := none }) (v := ?vv4) rfl (by kernel_rfl) (by kernel_rfl) (by kernel_rfl) (fun _ _ _ h => h) (Or.inl ⟨by rfl, ?hy4⟩) (by assumption) ?rr4
            case hy4 => intro w hSw; (try dsimp only at hSw); go_simp; all_goals with_reducible rfl
            try simp only [Act.put, List.setIfInBounds_toArray, List.set_cons_zero, List.set_cons_succ]
            refine wpAnyH_ready (rs := [8]) (by kernel_rfl) (by simp) ?_
            refine AllReadyH.cons (i := 8) (o := { dst := none, op := Go.Op.store 22 (Go.Operand.tmp 44) (Go.Operand.tmp 43), type := 0, pos := "move.go:37", after := #[{ on := 7, ground := Go.Ground.data }, { on := 6, ground := Go.Ground.data }, { on := 6, ground := Go.Ground.chain }, { on := 0, ground := Go.Ground.phase }, { on := 1, ground := Go.Ground.phase }, { on := 2, ground := Go.Ground.phase }, { on := 3, ground := Go.Ground.phase }, { on := 4, ground := Go.Ground.phase }, { on := 5, ground := Go.Ground.phase }, { on := 6, ground := Go.Ground.phase }], guard := none }) rfl (fun K hK => ?_) AllReadyH.nil
            go_simp
            refine hK.out _ _ ?_ (fun hH5 => ?_)
            · exact ⟨far_cell5 hneW hH4.1, far_cell5 hneW hH4.2.1, far_cell5 hneW hH4.2.2.1, far_cell5 hneW hH4.2.2.2.1, far_cell5 hneW hH4.2.2.2.2.1, far_cell5 hneW hH4.2.2.2.2.2⟩
            clear hK K
            try simp only [Act.put, List.setIfInBounds_toArray, List.set_cons_zero, List.set_cons_succ]
            refine wpAnyH_done (by kernel_rfl) ?_ _
            go_wp2_with fail
            go_roundw
            case rel =>
              have hb6 : Below w1.heap.size w1 w6 := ((HW.out.trans (HAL.out.mono HW.out.size)).trans (HBW.out.mono (by omega))).trans ((below_alloc w' (.cells (obC (moO t o) S3 d3) 41)).mono (by omega)) |>.grown HG6.out (by simp; omega) (fun q hq => by have := (HO3.out.row.lt q hq).1; omega)
              refine ⟨k + 1, A6, c6, ls ++ [⟨moO t o, S3, d3⟩], by omega, by go_num, HO6.out.off HP6.out 0 _, by rw [List.map_append, HLS.out, HOB2.out]; rfl, ?_, hb6.setCell (p := ⟨w1.heap.size, 0, none⟩) (Nat.le_refl _) _, ?_⟩
              · rw [List.length_append]
                simpa using HP6.out.set_ 0 (.slice A6 (ls.length + 1) c6)
              · have := HG6.out.size
                simp at this ⊢; omega
            case measure => simp [intOf]; omega
          · go_simp
            go_at_call 50
            refine (moved_any t o (some ⟨bt, ot, none⟩) S c1 ds _ (HTT.out.below (Below.refl _ _).drew) (HINW.out.below (Below.refl _ _).drew) (by omega) hol).mono ?_
            rintro e w' ⟨S3, d3, rfl, hown3, hb⟩
            have hbW : Below W.heap.size W w' := then_b (Below.refl _ _).drew hb
            have hO3 := HOW.out.later hbW
            have hzw := hbW.size
            obtain ⟨A6, c6, w6, hrun, hO6, hg6⟩ := run_app_obj w' (w1.heap.size + 1) W.heap.size A5 c5 ls hO3 (by omega) (moO t o) S3 d3 hown3 (by omega) (fun i li a hi ha => HOW.out.blk_lt hi ha) (by omega)
            have HRUN := hid hrun
            have HO6 := hid hO6
            have HG6 := hid hg6
            have HBW := hid hbW
            have HO3 := hid hO3
            have gw := cell_later hb gd
            have gx := cell_old (ob := .cells (obC (moO t o) S3 d3) 41) gw
            unfold obC at gx
            have hal := below_alloc w' (.cells (obC (moO t o) S3 d3) 41)
            have hrb : ∀ q, (Value.slice A5 ls.length c5).ownBlock = some q → w1.heap.size + 1 ≤ q := fun q hq => (HO3.out.row.lt q hq).1
            have hP6 := ((HGW.out.later hbW).later hal).grown hg6 (fun e => by have := hrb _ e.symm; omega)
            have hY6 := ((HBX.out.later hbW).later hal).grown hg6 (fun e => by have := (HO.out.row.lt _ e.symm).2; omega)
            have p0 := hP6.cell 0
            have pf0 := hP6.frozen 0
            simp only [List.getElem?_toArray, List.getElem?_cons_zero] at p0
            have HP6 := hid hP6
            have HY6 := hid hY6
            clear hown3 hrun hO6 hg6 hbW hO3 hal hP6 hY6
            refine hK.out _ _ ?_ (fun hH1 => ?_)
            · exact ⟨cell_later hb hH0.1, cell_later hb hH0.2.1, cell_later hb hH0.2.2.1, cell_later hb hH0.2.2.2.1, cell_later hb hH0.2.2.2.2.1, cell_later hb hH0.2.2.2.2.2⟩
            clear hK K
            try simp only [Act.put, List.setIfInBounds_toArray, List.set_cons_zero, List.set_cons_succ]
            clear hb
            refine wpAnyH_ready (rs := [1, 5]) (by kernel_rfl) (by simp) ?_
            refine AllReadyH.cons (i := 1) (o := { dst := some 38, op := Go.Op.load 22 (Go.Operand.tmp 37), type := 22, pos := "move.go:37", after := #[{ on := 0, ground := Go.Ground.data }], guard := none }) rfl (fun K hK => ?_) (AllReadyH.cons (i := 5) (o := { dst := some 42, op := Go.Op.buildSlice 22 1 #[(0, Go.Operand.tmp 41)], type := 22, pos := "move.go:37", after := #[{ on := 4, ground := Go.Ground.data }], guard := none }) rfl (fun K hK => ?_) AllReadyH.nil)
            · go_simp
              refine hK.out _ _ ?_ (fun hH2 => ?_)
              · exact hH1
              clear hK K
              try simp only [Act.put, List.setIfInBounds_toArray, List.set_cons_zero, List.set_cons_succ]
              refine wpAnyH_ready (rs := [5]) (by kernel_rfl) (by simp) ?_
              refine AllReadyH.cons (i := 5) (o := { dst := some 42, op := Go.Op.buildSlice 22 1 #[(0, Go.Operand.tmp 41)], type := 22, pos := "move.go:37", after := #[{ on := 4, ground := Go.Ground.data }], guard := none }) rfl (fun K hK => ?_) AllReadyH.nil
              go_simp
              refine hK.out _ _ ?_ (fun hH3 => ?_)
              · exact ⟨cell_old hH2.1, cell_old hH2.2.1, cell_old hH2.2.2.1, cell_old hH2.2.2.2.1, cell_old hH2.2.2.2.2.1, cell_old hH2.2.2.2.2.2⟩
              clear hK K
              try simp only [Act.put, List.setIfInBounds_toArray, List.set_cons_zero, List.set_cons_succ]
              refine wpAnyH_ready (rs := [6]) (by kernel_rfl) (by simp) ?_
              refine AllReadyH.cons (i := 6) (o := { dst := some 43, op := Go.Op.call { callee := Go.Callee.builtin Go.Builtin.append, args := #[Go.Operand.tmp 38, Go.Operand.tmp 42], argTypes := #[22, 22] }, type := 22, pos := "move.go:37", after := #[{ on := 1, ground := Go.Ground.data }, { on := 5, ground := Go.Ground.data }, { on := 4, ground := Go.Ground.chain }], guard := none }) rfl (fun K hK => ?_) AllReadyH.nil
              rw [if_pos (by rfl)]
              refine wp_app_run (.tmp 38) (.tmp 42) 22 rfl _ _ HRUN.out ?_
              refine hK.out _ _ ?_ (fun hH4 => ?_)
              · exact ⟨HY6.out.cell 0, HY6.out.cell 1, HY6.out.cell 2, HY6.out.cell 3, HY6.out.cell 4, HY6.out.cell 5⟩
              clear hK K
              try simp only [Act.put, List.setIfInBounds_toArray, List.set_cons_zero, List.set_cons_succ]
              refine wpAnyH_take (i := 7) (oi := { dst := some 44, op := Go.Op.fieldAddr 24 (Go.Operand.tmp 9) 0, type := 0, pos := "move.go:37", after := #[{ on := 0, ground := Go.Ground.phase }, { on := 1, ground := Go.Ground.phase }, { on := 2, ground := Go.Ground.phase }, { on := 3, ground := Go.Ground.phase }, { on := 4, ground := Go.Ground.phase }, { on := 5, ground := Go.Ground.phase }, { on := 6, ground := Go.Ground.phase }], guard := none }) (v := ?vv5) rfl (by kernel_rfl) (by kernel_rfl) (by kernel_rfl) (fun _ _ _ h => h) (Or.inl ⟨by rfl, ?hy5⟩) (by assumption) ?rr5
              case hy5 => intro w hSw; (try dsimp only at hSw); go_simp; all_goals with_reducible rfl
              try simp only [Act.put, List.setIfInBounds_toArray, List.set_cons_zero, List.set_cons_succ]
              refine wpAnyH_ready (rs := [8]) (by kernel_rfl) (by simp) ?_
              refine AllReadyH.cons (i := 8) (o := { dst := none, op := Go.Op.store 22 (Go.Operand.tmp 44) (Go.Operand.tmp 43), type := 0, pos := "move.go:37", after := #[{ on := 7, ground := Go.Ground.data }, { on := 6, ground := Go.Ground.data }, { on := 6, ground := Go.Ground.chain }, { on := 0, ground := Go.Ground.phase }, { on := 1, ground := Go.Ground.phase }, { on := 2, ground := Go.Ground.phase }, { on := 3, ground := Go.Ground.phase }, { on := 4, ground := Go.Ground.phase }, { on := 5, ground := Go.Ground.phase }, { on := 6, ground := Go.Ground.phase }], guard := none }) rfl (fun K hK => ?_) AllReadyH.nil
              go_simp
              refine hK.out _ _ ?_ (fun hH5 => ?_)
              · exact ⟨far_cell5 hneW hH4.1, far_cell5 hneW hH4.2.1, far_cell5 hneW hH4.2.2.1, far_cell5 hneW hH4.2.2.2.1, far_cell5 hneW hH4.2.2.2.2.1, far_cell5 hneW hH4.2.2.2.2.2⟩
              clear hK K
              try simp only [Act.put, List.setIfInBounds_toArray, List.set_cons_zero, List.set_cons_succ]
              refine wpAnyH_done (by kernel_rfl) ?_ _
              go_wp2_with fail
              go_roundw
              case rel =>
                have hb6 : Below w1.heap.size w1 w6 := ((HW.out.trans (HAL.out.mono HW.out.size)).trans (HBW.out.mono (by omega))).trans ((below_alloc w' (.cells (obC (moO t o) S3 d3) 41)).mono (by omega)) |>.grown HG6.out (by simp; omega) (fun q hq => by have := (HO3.out.row.lt q hq).1; omega)
                refine ⟨k + 1, A6, c6, ls ++ [⟨moO t o, S3, d3⟩], by omega, by go_num, HO6.out.off HP6.out 0 _, by rw [List.map_append, HLS.out, HOB2.out]; rfl, ?_, hb6.setCell (p := ⟨w1.heap.size, 0, none⟩) (Nat.le_refl _) _, ?_⟩
                · rw [List.length_append]
                  simpa using HP6.out.set_ 0 (.slice A6 (ls.length + 1) c6)
                · have := HG6.out.size
                  simp at this ⊢; omega
              case measure => simp [intOf]; omega
            · go_simp
              refine hK.out _ _ ?_ (fun hH2 => ?_)
              · exact ⟨cell_old hH1.1, cell_old hH1.2.1, cell_old hH1.2.2.1, cell_old hH1.2.2.2.1, cell_old hH1.2.2.2.2.1, cell_old hH1.2.2.2.2.2⟩
              clear hK K
              try simp only [Act.put, List.setIfInBounds_toArray, List.set_cons_zero, List.set_cons_succ]
              refine wpAnyH_ready (rs := [1]) (by kernel_rfl) (by simp) ?_
              refine AllReadyH.cons (i := 1) (o := { dst := some 38, op := Go.Op.load 22 (Go.Operand.tmp 37), type := 22, pos := "move.go:37", after := #[{ on := 0, ground := Go.Ground.data }], guard := none }) rfl (fun K hK => ?_) AllReadyH.nil
              go_simp
              refine hK.out _ _ ?_ (fun hH3 => ?_)
              · exact hH2
              clear hK K
              try simp only [Act.put, List.setIfInBounds_toArray, List.set_cons_zero, List.set_cons_succ]
              refine wpAnyH_ready (rs := [6]) (by kernel_rfl) (by simp) ?_
              refine AllReadyH.cons (i := 6) (o := { dst := some 43, op := Go.Op.call { callee := Go.Callee.builtin Go.Builtin.append, args := #[Go.Operand.tmp 38, Go.Operand.tmp 42], argTypes := #[22, 22] }, type := 22, pos := "move.go:37", after := #[{ on := 1, ground := Go.Ground.data }, { on := 5, ground := Go.Ground.data }, { on := 4, ground := Go.Ground.chain }], guard := none }) rfl (fun K hK => ?_) AllReadyH.nil
              rw [if_pos (by rfl)]
              refine wp_app_run (.tmp 38) (.tmp 42) 22 rfl _ _ HRUN.out ?_
              refine hK.out _ _ ?_ (fun hH4 => ?_)
              · exact ⟨HY6.out.cell 0, HY6.out.cell 1, HY6.out.cell 2, HY6.out.cell 3, HY6.out.cell 4, HY6.out.cell 5⟩
              clear hK K
              try simp only [Act.put, List.setIfInBounds_toArray, List.set_cons_zero, List.set_cons_succ]
              refine wpAnyH_take (i := 7) (oi := { dst := some 44, op := Go.Op.fieldAddr 24 (Go.Operand.tmp 9) 0, type := 0, pos := "move.go:37", after := #[{ on := 0, ground := Go.Ground.phase }, { on := 1, ground := Go.Ground.phase }, { on := 2, ground := Go.Ground.phase }, { on := 3, ground := Go.Ground.phase }, { on := 4, ground := Go.Ground.phase }, { on := 5, ground := Go.Ground.phase }, { on := 6, ground := Go.Ground.phase }], guard := none }) (v := ?vv6) rfl (by kernel_rfl) (by kernel_rfl) (by kernel_rfl) (fun _ _ _ h => h) (Or.inl ⟨by rfl, ?hy6⟩) (by assumption) ?rr6
              case hy6 => intro w hSw; (try dsimp only at hSw); go_simp; all_goals with_reducible rfl
              try simp only [Act.put, List.setIfInBounds_toArray, List.set_cons_zero, List.set_cons_succ]
              refine wpAnyH_ready (rs := [8]) (by kernel_rfl) (by simp) ?_
              refine AllReadyH.cons (i := 8) (o := { dst := none, op := Go.Op.store 22 (Go.Operand.tmp 44) (Go.Operand.tmp 43), type := 0, pos := "move.go:37", after := #[{ on := 7, ground := Go.Ground.data }, { on := 6, ground := Go.Ground.data }, { on := 6, ground := Go.Ground.chain }, { on := 0, ground := Go.Ground.phase }, { on := 1, ground := Go.Ground.phase }, { on := 2, ground := Go.Ground.phase }, { on := 3, ground := Go.Ground.phase }, { on := 4, ground := Go.Ground.phase }, { on := 5, ground := Go.Ground.phase }, { on := 6, ground := Go.Ground.phase }], guard := none }) rfl (fun K hK => ?_) AllReadyH.nil
              go_simp
              refine hK.out _ _ ?_ (fun hH5 => ?_)
              · exact ⟨far_cell5 hneW hH4.1, far_cell5 hneW hH4.2.1, far_cell5 hneW hH4.2.2.1, far_cell5 hneW hH4.2.2.2.1, far_cell5 hneW hH4.2.2.2.2.1, far_cell5 hneW hH4.2.2.2.2.2⟩
              clear hK K
              try simp only [Act.put, List.setIfInBounds_toArray, List.set_cons_zero, List.set_cons_succ]
              refine wpAnyH_done (by kernel_rfl) ?_ _
              go_wp2_with fail
              go_roundw
              case rel =>
                have hb6 : Below w1.heap.size w1 w6 := ((HW.out.trans (HAL.out.mono HW.out.size)).trans (HBW.out.mono (by omega))).trans ((below_alloc w' (.cells (obC (moO t o) S3 d3) 41)).mono (by omega)) |>.grown HG6.out (by simp; omega) (fun q hq => by have := (HO3.out.row.lt q hq).1; omega)
                refine ⟨k + 1, A6, c6, ls ++ [⟨moO t o, S3, d3⟩], by omega, by go_num, HO6.out.off HP6.out 0 _, by rw [List.map_append, HLS.out, HOB2.out]; rfl, ?_, hb6.setCell (p := ⟨w1.heap.size, 0, none⟩) (Nat.le_refl _) _, ?_⟩
                · rw [List.length_append]
                  simpa using HP6.out.set_ 0 (.slice A6 (ls.length + 1) c6)
                · have := HG6.out.size
                  simp at this ⊢; omega
              case measure => simp [intOf]; omega
      · obtain rfl : k = h.objs.length := by omega
        have HK2 := hid (K1.out.later HW.out)
        have HB2 := hid (HB1.out.trans (HW.out.mono HB1.out.size))
        have HTT := hid (HI1.out.below HW.out)
        have HRR := hid (HR.out.below HB2.out)
        have z0 := HG.out.cell 0
        have z1 := HG.out.cell 1
        have z2 := HG.out.cell 2
        have u0 := HK2.out.cell 0
        have u1 := HK2.out.cell 1
        have u2 := HK2.out.cell 2
        have uf0 := HK2.out.frozen 0
        have uf1 := HK2.out.frozen 1
        have uf2 := HK2.out.frozen 2
        simp only [List.getElem?_toArray, List.getElem?_cons_zero, List.getElem?_cons_succ] at z0 z1 z2 u0 u1 u2
        go_wp2_with fail
        obtain ⟨W, hW⟩ : ∃ W, W = wo := ⟨_, rfl⟩
        subst hW
        have hneW : w1.heap.size ≠ w.heap.size + 1 := by omega
        refine wp_region_held_drew (S := (fun w' => w'.cell? ⟨w1.heap.size, 0, none⟩ = some (.slice A5 ls.length c5) ∧ w'.cell? ⟨w1.heap.size, 1, none⟩ = some (.int .i64 h.cap) ∧ w'.cell? ⟨w1.heap.size, 2, none⟩ = some (.int .i64 h.last))) (by kernel_rfl) ?_ (fun hH0 => ?_)
        · exact ⟨z0, z1, z2⟩
        refine wpAnyH_take (i := 0) (oi := { dst := some 46, op := Go.Op.load 24 (Go.Operand.tmp 9), type := 24, pos := "move.go:40", after := #[], guard := none }) (v := ?vv7) rfl (by kernel_rfl) (by kernel_rfl) (by kernel_rfl) (fun _ _ _ h => h) (Or.inl ⟨by rfl, ?hy7⟩) (by assumption) ?rr7
        case hy7 => intro w hSw; (try dsimp only at hSw); go_simp; all_goals with_reducible rfl
        try simp only [Act.put, List.setIfInBounds_toArray, List.set_cons_zero, List.set_cons_succ]
        refine wpAnyH_take (i := 1) (oi := { dst := some 47, op := Go.Op.move (Go.Operand.tmp 7), type := 34, pos := "move.go:40", after := #[], guard := none }) (v := ?vv8) rfl (by kernel_rfl) (by kernel_rfl) (by kernel_rfl) (fun _ _ _ h => h) (Or.inl ⟨by rfl, ?hy8⟩) (by assumption) ?rr8
        case hy8 => intro w hSw; (try dsimp only at hSw); go_simp; all_goals with_reducible rfl
        try simp only [Act.put, List.setIfInBounds_toArray, List.set_cons_zero, List.set_cons_succ]
        refine wpAnyH_take (i := 2) (oi := { dst := some 48, op := Go.Op.move (Go.Operand.tmp 1), type := 34, pos := "move.go:40", after := #[], guard := none }) (v := ?vv9) rfl (by kernel_rfl) (by kernel_rfl) (by kernel_rfl) (fun _ _ _ h => h) (Or.inl ⟨by rfl, ?hy9⟩) (by assumption) ?rr9
        case hy9 => intro w hSw; (try dsimp only at hSw); go_simp; all_goals with_reducible rfl
        try simp only [Act.put, List.setIfInBounds_toArray, List.set_cons_zero, List.set_cons_succ]
        refine wpAnyH_ready (rs := [3]) (by kernel_rfl) (by simp) ?_
        refine AllReadyH.cons (i := 3) (o := { dst := some 49, op := Go.Op.call { callee := Go.Callee.value (Go.Operand.func 51), args := #[Go.Operand.tmp 47, Go.Operand.tmp 48], argTypes := #[34, 34] }, type := 34, pos := "move.go:40", after := #[{ on := 1, ground := Go.Ground.data }, { on := 2, ground := Go.Ground.data }], guard := none }) rfl (fun K hK => ?_) AllReadyH.nil
        go_simp
        go_at_call 51
        refine (values_any t rs A1 R c1 d _ (HTT.out.below (Below.refl _ _).drew) (HRR.out.below (Below.refl _ _).drew) (by omega) hl).mono ?_
        rintro e w' ⟨A7, c7, rfl, hown7, hb⟩
        have hbW : Below W.heap.size W w' := then_b (Below.refl _ _).drew hb
        have hK7 := HK2.out.later hbW
        have v0 := hK7.cell 0
        have v1 := hK7.cell 1
        have v2 := hK7.cell 2
        have vf0 := hK7.frozen 0
        have vf1 := hK7.frozen 1
        have vf2 := hK7.frozen 2
        simp only [List.getElem?_toArray, List.getElem?_cons_zero, List.getElem?_cons_succ] at v0 v1 v2
        have HK7 := hid hK7
        have HBW := hid hbW
        have HO7 := hid (HO.out.later hbW)
        have HV7 := hid hown7
        clear hK7 hbW hown7
        refine hK.out _ _ ?_ (fun hH1 => ?_)
        · exact ⟨cell_later hb hH0.1, cell_later hb hH0.2.1, cell_later hb hH0.2.2⟩
        clear hK K
        try simp only [Act.put, List.setIfInBounds_toArray, List.set_cons_zero, List.set_cons_succ]
        clear hb
        refine wpAnyH_ready (rs := [4]) (by kernel_rfl) (by simp) ?_
        refine AllReadyH.cons (i := 4) (o := { dst := none, op := Go.Op.store 24 (Go.Operand.tmp 4) (Go.Operand.tmp 46), type := 0, pos := "move.go:40", after := #[{ on := 0, ground := Go.Ground.data }, { on := 3, ground := Go.Ground.chain }, { on := 0, ground := Go.Ground.phase }, { on := 1, ground := Go.Ground.textOnly Go.Departure.lateStores }, { on := 2, ground := Go.Ground.textOnly Go.Departure.lateStores }, { on := 3, ground := Go.Ground.textOnly Go.Departure.lateStoresUnsure }], guard := none }) rfl (fun K hK => ?_) AllReadyH.nil
        go_simp
        refine hK.out _ _ ?_ (fun hH2 => ?_)
        · exact ⟨far_cell5 hneW (far_cell5 hneW (far_cell5 hneW hH1.1)), far_cell5 hneW (far_cell5 hneW (far_cell5 hneW hH1.2.1)), far_cell5 hneW (far_cell5 hneW (far_cell5 hneW hH1.2.2))⟩
        clear hK K
        try simp only [Act.put, List.setIfInBounds_toArray, List.set_cons_zero, List.set_cons_succ]
        refine wpAnyH_take (i := 5) (oi := { dst := some 5, op := Go.Op.assign (Go.Operand.tmp 49), type := 34, pos := "move.go:40", after := #[{ on := 3, ground := Go.Ground.data }, { on := 4, ground := Go.Ground.chain }, { on := 0, ground := Go.Ground.phase }, { on := 1, ground := Go.Ground.phase }, { on := 2, ground := Go.Ground.phase }, { on := 3, ground := Go.Ground.phase }, { on := 4, ground := Go.Ground.phase }], guard := none }) (v := ?vv10) rfl (by kernel_rfl) (by kernel_rfl) (by kernel_rfl) (fun _ _ _ h => h) (Or.inl ⟨by rfl, ?hy10⟩) (by assumption) ?rr10
        case hy10 => intro w hSw; (try dsimp only at hSw); go_simp; all_goals with_reducible rfl
        try simp only [Act.put, List.setIfInBounds_toArray, List.set_cons_zero, List.set_cons_succ]
        refine wpAnyH_take (i := 6) (oi := { dst := some 6, op := Go.Op.assign (Go.Operand.const (Go.Value.int Go.IntKind.i64 0)), type := 25, pos := "move.go:40", after := #[{ on := 5, ground := Go.Ground.chain }, { on := 0, ground := Go.Ground.phase }, { on := 1, ground := Go.Ground.phase }, { on := 2, ground := Go.Ground.phase }, { on := 3, ground := Go.Ground.phase }, { on := 4, ground := Go.Ground.phase }, { on := 5, ground := Go.Ground.phase }], guard := none }) (v := ?vv11) rfl (by kernel_rfl) (by kernel_rfl) (by kernel_rfl) (fun _ _ _ h => h) (Or.inl ⟨by rfl, ?hy11⟩) (by assumption) ?rr11
        case hy11 => intro w hSw; (try dsimp only at hSw); go_simp; all_goals with_reducible rfl
        try simp only [Act.put, List.setIfInBounds_toArray, List.set_cons_zero, List.set_cons_succ]
        refine wpAnyH_done (by kernel_rfl) ?_ _
        go_wp2_with fail
        have KF := (((HK7.out.set_ 0 (.slice A5 ls.length c5)).set_ 1 (.int .i64 h.cap)).set_ 2 (.int .i64 h.last))
        have r0 := KF.cell 0
        have r1 := KF.cell 1
        have r2 := KF.cell 2
        simp only [List.setIfInBounds_toArray, List.set_cons_zero, List.set_cons_succ, List.getElem?_toArray, List.getElem?_cons_zero, List.getElem?_cons_succ] at r0 r1 r2
        have hll2 : ls.length = (obsK h t h.objs.length).length := by rw [← HLS.out, List.length_map]
        refine bodyPost_ret (v := .tuple #[.agg #[.slice A5 ls.length c5, .int .i64 h.cap, .int .i64 h.last], .slice A7 (rs.map (vaV t)).length c7, .int .i64 0]) (by simp [results, Tryz.results26, go_sem, r0, r1, r2]) rfl ?_
        rw [HCH.out, HCL.out]
        refine ⟨A5, c5, A7, c7, ls, congrArg (fun n => Ending.returned (.tuple #[.agg #[.slice A5 n c5, .int .i64 h.cap, .int .i64 h.last], .slice A7 (rs.map (vaV t)).length c7, .int .i64 0])) hll2, HLS.out, OwnH.lower (base := w1.heap.size + 1) ?_ (by omega), own_lower (base := W.drew.heap.size) ?_ (by have hlw : w.heap.size + 1 < W.drew.heap.size := by { have := HK2.out.lt; simpa using this }; omega), ?_⟩
        · exact ((HO7.out.low (p := ⟨w.heap.size + 1, 0, none⟩) (by simp; omega) _).low (p := ⟨w.heap.size + 1, 1, none⟩) (by simp; omega) _).low (p := ⟨w.heap.size + 1, 2, none⟩) (by simp; omega) _
        · have hlw := HK2.out.lt
          exact ownsRow_setCell_below (ownsRow_setCell_below (ownsRow_setCell_below HV7.out (by show w.heap.size + 1 < _; simpa using hlw) _) (by show w.heap.size + 1 < _; simpa using hlw) _) (by show w.heap.size + 1 < _; simpa using hlw) _
        · exact ((((then_b HB2.out HBW.out).setCell (p := ⟨w.heap.size + 1, 0, none⟩) (by simp) _).setCell (p := ⟨w.heap.size + 1, 1, none⟩) (by simp) _).setCell (p := ⟨w.heap.size + 1, 2, none⟩) (by simp) _)
  · have e1 : coH h rs = zeroH := coH_no he
    have e2 : coL h rs = [] := coL_no he
    have hne : (liE h rs != 0) = true := by simpa using he
    rw [e1, e2]
    obtain ⟨en, hen⟩ : ∃ en, en = liE h rs := ⟨_, rfl⟩
    rw [← hen] at hne ⊢
    have HEN := hid hen
    clear e1 e2 hen he
    go_enter Tryz.func26, Tryz.ntmps26
    go_wp2_with fail
    refine (table_any h rs A R c d _ (HS.out.below HB0.out) HF.out (HR.out.below HB0.out) (by omega)).mono ?_
    rintro e w1 ⟨A1, c1, rfl, -, -, -, hb1⟩
    rw [← HEN.out]
    have HB1 := hid (HB0.out.trans (hb1.mono HB0.out.size))
    have K1 := hid (K0.out.later hb1)
    clear hb1
    have u0 := K1.out.cell 0
    have u1 := K1.out.cell 1
    have u2 := K1.out.cell 2
    have uf0 := K1.out.frozen 0
    have uf1 := K1.out.frozen 1
    have uf2 := K1.out.frozen 2
    simp only [List.getElem?_toArray, List.getElem?_cons_zero, List.getElem?_cons_succ] at u0 u1 u2
    go_wp2_with fail
    have KF := (((K1.out.set_ 0 (.slice none 0 0)).set_ 1 (.int .i64 0)).set_ 2 (.int .i64 0))
    have r0 := KF.cell 0
    have r1 := KF.cell 1
    have r2 := KF.cell 2
    simp only [List.setIfInBounds_toArray, List.set_cons_zero, List.set_cons_succ, List.getElem?_toArray, List.getElem?_cons_zero, List.getElem?_cons_succ] at r0 r1 r2
    refine bodyPost_ret (v := .tuple #[.agg #[.slice none 0 0, .int .i64 0, .int .i64 0], .slice none 0 0, .int .i64 en]) (by simp [results, Tryz.results26, go_sem, r0, r1, r2]) rfl ?_
    exact ⟨none, 0, none, 0, [], rfl, rfl, OwnH.nil _ _, World.ownsRow_nil _ _ _ _, (((HB1.out.setCell (p := ⟨w.heap.size + 1, 0, none⟩) (by simp) _).setCell (p := ⟨w.heap.size + 1, 1, none⟩) (by simp) _).setCell (p := ⟨w.heap.size + 1, 2, none⟩) (by simp) _)⟩
theorem compact_any (h : Hp) (rs : List Int) (A R : Option Addr) (c d : Nat) (w : World) (hs : ObsR w A h.objs) (fit : h.Fit) (hr : IntsR w R rs) (hl : rs.length ≤ 100000) :
    Calls Tryz.prog 26 #[.agg #[.slice A h.objs.length c, .int .i64 h.cap, .int .i64 h.last], .slice R rs.length d] w (HeapInts w (coH h rs) (coL h rs) (liE h rs)) :=
  (compact_own h rs A R c d w hs fit hr hl).mono fun _ _ ⟨A', c', R', d', _, he, hls, hob, hrow, hb⟩ => ⟨A', c', R', d', he, own_obs hob hls, own_ints hrow, hb⟩
end Go.Proofs.YtnilempeldlieaaGreat
