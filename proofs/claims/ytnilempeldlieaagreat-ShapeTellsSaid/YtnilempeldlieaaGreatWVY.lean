/- The document's Compact walked. -/
import Derived.Test.YtnilempeldlieaaGreatWVX
namespace Go.Proofs.YtnilempeldlieaaGreat
open Go.RowKit
set_option maxRecDepth 100000
set_option maxHeartbeats 1500000 in
theorem rcompact_own (h : Hp) (rs : List Int) (A R : Option Addr) (c d : Nat) (w : World) (hs : ObsR w A h.objs) (fit : h.Fit) (hr : IntsR w R rs) (hl : rs.length ≤ 100000) :
    Calls Tryz.prog 28 #[.agg #[.slice A h.objs.length c, .int .i64 h.cap, .int .i64 h.last], .slice R rs.length d] w (HeapIntsOwn w (coH h rs) (coL h rs) (liE h rs)) := by
  have HB0 := hid (below_alloc2 w (.cells #[Value.slice A h.objs.length c, Value.int .i64 h.cap, Value.int .i64 h.last] 24) (.cells #[.slice none 0 0, .int .i64 0, .int .i64 0] 24))
  have X0 := hid ((Lies.new w 24 #[Value.slice A h.objs.length c, Value.int .i64 h.cap, Value.int .i64 h.last]).alloc (.cells #[.slice none 0 0, .int .i64 0, .int .i64 0] 24))
  have K0 : Hid (Lies ((w.alloc (.cells #[Value.slice A h.objs.length c, Value.int .i64 h.cap, Value.int .i64 h.last] 24)).alloc (.cells #[.slice none 0 0, .int .i64 0, .int .i64 0] 24)) (w.heap.size + 1) 24 #[.slice none 0 0, .int .i64 0, .int .i64 0]) := by
    have := Lies.new (w.alloc (.cells #[Value.slice A h.objs.length c, Value.int .i64 h.cap, Value.int .i64 h.last] 24)) 24 #[.slice none 0 0, .int .i64 0, .int .i64 0]
    simpa [Hid] using this
  have HS := hid hs
  have HF := hid fit
  have HR := hid hr
  clear hs fit hr
  by_cases he : liE h rs = 0
  · have HM := hid (li_ok he).1
    have hle := may_len (li_ok he).1
    have htl := tabL_len he
    have HTW : Hid (∀ k (hk : k < (tabL h rs).length), (tabL h rs)[k] = -1 ∨ 0 ≤ (tabL h rs)[k]) := fun k hk => tab_two he hk
    have HCH := hid (coH_yes he)
    have HCL := hid (coL_yes he)
    obtain ⟨t, ht⟩ : ∃ t, t = tabL h rs := ⟨_, rfl⟩
    rw [← ht] at htl HTW HCH HCL
    have htl1 : t.length ≤ h.objs.length := by omega
    have htl2 : h.objs.length ≤ t.length := by omega
    clear htl
    rw [he]
    go_enter Tryz.func28, Tryz.ntmps28
    go_wp2_with fail
    refine (rtable_any h rs A R c d _ (HS.out.below HB0.out) HF.out (HR.out.below HB0.out) (by omega)).mono ?_
    rintro e w1 ⟨A1, c1, rfl, hi1, -, -, hb1⟩
    rw [he, ← ht]
    rw [← ht] at hi1
    have HB1 := hid (HB0.out.trans (hb1.mono HB0.out.size))
    have X1 := hid (X0.out.later hb1)
    have K1 := hid (K0.out.later hb1)
    have HI1 := hid hi1
    clear hi1 hb1 ht
    have x0 := X1.out.cell 0
    have x1 := X1.out.cell 1
    have x2 := X1.out.cell 2
    simp only [List.getElem?_toArray, List.getElem?_cons_zero, List.getElem?_cons_succ] at x0 x1 x2
    have hw01 : w.heap.size + 1 < w1.heap.size := K1.out.lt
    have hwn : w.heap.size ≠ w1.heap.size := by omega
    have XA := hid (X1.out.alloc (.cells #[.slice none 0 0, .int .i64 h.cap, .int .i64 h.last] 24))
    have xa := XA.out.cell 0
    simp only [List.getElem?_toArray, List.getElem?_cons_zero] at xa
    go_wp2_with fail
    obtain ⟨W1, hW1⟩ : ∃ W1, W1 = w1.alloc (.cells #[.slice none 0 0, .int .i64 h.cap, .int .i64 h.last] 24) := ⟨_, rfl⟩
    have hG1 : Lies W1 w1.heap.size 24 #[.slice none 0 0, .int .i64 h.cap, .int .i64 h.last] := by rw [hW1]; exact Lies.new _ _ _
    have hb1 : Below w1.heap.size w1 W1 := by rw [hW1]; exact below_alloc _ _
    have hz1 : W1.heap.size = w1.heap.size + 1 := by rw [hW1]; simp
    have hxb : Lies W1 w.heap.size 24 #[Value.slice A h.objs.length c, Value.int .i64 h.cap, Value.int .i64 h.last] := by rw [hW1]; exact XA.out
    rw [← hW1]
    have XB1 := hid hxb
    clear hxb
    have HG1 := hid hG1
    have HBB := hid hb1
    clear hW1 hG1 hb1 x0 x1 x2 xa XA
    go_loopw [10] (fun i wr => ∃ (k : Nat) (A5 : Option Addr) (c5 : Nat) (ls : List LO), k ≤ h.objs.length ∧ i = .int .i64 k ∧ Lies wr w.heap.size 24 #[Value.slice A h.objs.length c, Value.int .i64 h.cap, Value.int .i64 h.last] ∧ OwnH wr (w1.heap.size + 1) A5 c5 ls ∧ ls.map (·.o) = obsK h t k ∧ Lies wr w1.heap.size 24 #[.slice A5 ls.length c5, .int .i64 h.cap, .int .i64 h.last] ∧ Below w1.heap.size w1 wr ∧ w1.heap.size + 1 ≤ wr.heap.size) (fun i _ => h.objs.length - (intOf i).toNat)
    case atStart => exact ⟨0, none, 0, [], Nat.zero_le _, rfl, XB1.out, OwnH.nil _ _, rfl, HG1.out, HBB.out, by omega⟩
    case round =>
      clear HG1 HBB XB1
      obtain ⟨k, A5, c5, ls, hk, rfl, hbx, hown, hls, hbox, hbw, hsz⟩ := hrel
      rename World => wo
      have HO := hid hown
      have HLS := hid hls
      have HG := hid hbox
      have HW := hid hbw
      have hll : ls.length ≤ k := by
        have := obsK_le h t k
        rw [← hls, List.length_map] at this
        exact this
      have XO := hid hbx
      have x0 := hbx.cell 0
      simp only [List.getElem?_toArray, List.getElem?_cons_zero] at x0
      clear hown hls hbox hbw hbx
      by_cases hlt : k < h.objs.length
      · obtain ⟨b, off, rfl, hb, hc⟩ := HS.out (by omega)
        have hoi := List.getElem?_eq_getElem hlt
        obtain ⟨S, ds, hob, hin, -, -⟩ := hc k _ hoi
        have hok := may_all HM.out _ (List.getElem_mem hlt)
        obtain ⟨o, ho⟩ : ∃ o, o = h.objs[k] := ⟨_, rfl⟩
        rw [← ho] at hob hin hok hoi
        have hol := (kind_len (ob_kind hok)).1
        have HBO := hid (HB1.out.trans (HW.out.mono HB1.out.size))
        obtain ⟨c0, c1', c2, c3, c4, c5'⟩ := hob.below hb HBO.out
        have HIN := hid (hin.below HBO.out)
        have hkt : k < t.length := by omega
        have htw := HTW.out k hkt
        have hgd := tab_getD hkt
        obtain ⟨x, hx⟩ : ∃ x, x = t[k] := ⟨_, rfl⟩
        obtain ⟨bt, ot, rfl, hbt, hct⟩ := HI1.out (by omega)
        have tc := (HW.out.cell (p := ⟨bt, ot + k, none⟩) hbt).trans (hct k _ (List.getElem?_eq_getElem hkt))
        rw [← hx] at tc htw hgd
        have HGD := hid hgd
        have HOI : Hid (h.objs[k] = o) := ho.symm
        clear hc hct hob hin hok ho hgd hx hoi
        by_cases hx0 : 0 ≤ x
        · have hob2 : obsK h t (k + 1) = obsK h t k ++ [moO t o] := by rw [obsK_in h t hlt (by rw [HGD.out]; exact hx0), HOI.out]
          have HOB2 := hid hob2
          clear hob2 htw
          go_wp2_with fail
          have HAL := hid (below_alloc wo (.cells (obC o S ds) 41))
          refine (rvalues_any t o.slots (some ⟨bt, ot, none⟩) S c1 ds _ (HI1.out.below (HW.out.trans (HAL.out.mono HW.out.size))) (HIN.out.below HAL.out) (by omega) (by omega)).mono ?_
          rintro e w2 ⟨S3, d3, rfl, hown3, hb2⟩
          obtain ⟨W, hW⟩ : ∃ W, W = wo.alloc (.cells (obC o S ds) 41) := ⟨_, rfl⟩
          have hWu := hW
          unfold obC at hWu
          rw [← hW] at hown3 hb2
          rw [← hW] at HAL
          have HBX : Hid (Lies W wo.heap.size 41 (obC o S ds)) := by rw [hW]; exact Lies.new _ _ _
          have hzW : W.heap.size = wo.heap.size + 1 := by rw [hW]; simp
          have HGW := hid (HG.out.later HAL.out)
          have HOW := hid (HO.out.later HAL.out)
          have HXW := hid (XO.out.later HAL.out)
          obtain ⟨xs, hxs⟩ : ∃ xs, xs = o.slots.map (vaV t) := ⟨_, rfl⟩
          obtain ⟨z, hz⟩ : ∃ z, z = vaV t o.cls := ⟨_, rfl⟩
          have hmo : moO t o = ⟨z, o.kind, xs, o.text, o.bits, o.hash⟩ := by unfold moO; rw [hxs, hz]
          have HMO := hid hmo
          have HZ := hid hz
          rw [← hxs] at hown3 ⊢
          have HV3 := hid hown3
          have HB2' := hid hb2
          have HBX2 := hid (HBX.out.later hb2)
          have hz2 := hb2.size
          clear hmo hz hxs hW hWu hown3 hb2 c0 c1' c2 c3 c4 c5' tc x0
          have y0 := HBX2.out.cell 0
          have y2 := HBX2.out.cell 2
          have yf0 := HBX2.out.frozen 0
          have yf2 := HBX2.out.frozen 2
          unfold obC at y0 y2
          simp only [List.getElem?_toArray, List.getElem?_cons_zero, List.getElem?_cons_succ] at y0 y2
          go_wp2_with fail
          obtain ⟨w3, hw3⟩ : ∃ w3, w3 = w2.setCell ⟨wo.heap.size, 2, none⟩ (.slice S3 xs.length d3) := ⟨_, rfl⟩
          have hs3 : w3.heap.size = w2.heap.size := by rw [hw3]; simp
          have hBX3 : Lies w3 wo.heap.size 41 #[.int .i64 o.cls, .int .i64 o.kind, .slice S3 xs.length d3, .string o.text, .int .i64 o.bits, .int .i64 o.hash] := by
            rw [hw3]
            have := HBX2.out.set_ 2 (.slice S3 xs.length d3)
            simpa [obC] using this
          have hV3 : w3.ownsRow W.heap.size 3 1 (.slice S3 xs.length d3) xs.length (xs.map (Value.int .i64)) := by
            rw [hw3]; exact ownsRow_setCell_below HV3.out (by show wo.heap.size < _; omega) _
          have hwo3 : Below wo.heap.size wo w3 := by
            rw [hw3]; exact (HAL.out.trans (HB2'.out.mono (by omega))).setCell (p := ⟨wo.heap.size, 2, none⟩) (Nat.le_refl _) _
          rw [← hw3, ← hs3]
          have HBX3 := hid hBX3
          have HV3' := hid hV3
          have HWO3 := hid hwo3
          clear hBX3 hV3 hwo3 hw3 y0 y2 yf0 yf2 HV3 HBX2 HB2'
          have HAL3 := hid (below_alloc w3 (.cells #[.int .i64 o.cls] 3))
          refine (rvalues_any t [o.cls] (some ⟨bt, ot, none⟩) (some ⟨w3.heap.size, 0, none⟩) c1 1 _ (HI1.out.below (HW.out.trans ((HWO3.out.trans (HAL3.out.mono (by omega))).mono HW.out.size))) (at_one _ _) (by omega) (by simp)).mono ?_
          rintro e w4 ⟨A4, c4, rfl, hown4, hb4⟩
          have hm1 : ([o.cls] : List Int).map (vaV t) = [z] := by rw [HZ.out]; rfl
          rw [hm1] at hown4 ⊢
          obtain ⟨g4, cg4, hv4, hg40, hg41⟩ := hown4.form (by simp)
          simp only [Value.slice.injEq, true_and] at hv4
          obtain ⟨rfl, rfl⟩ := hv4
          have q4 := hown4.cellAt 0 (by simp)
          have hl1 : ([z] : List Int).length = 1 := rfl
          simp only [List.map_cons, List.getElem?_cons_zero] at q4
          rw [hl1]
          have h34 : Below w3.heap.size w3 w4 := then_b HAL3.out hb4
          have HBX4 := hid (HBX3.out.later h34)
          have HV4 := hid (own_later HV3'.out h34)
          have hwo4 := hid (HWO3.out.trans (h34.mono (by omega)))
          have HG4 := hid (HG.out.later hwo4.out)
          have HO4 := hid (HO.out.later hwo4.out)
          have HX4 := hid (XO.out.later hwo4.out)
          have hz4 := h34.size
          have b0 := HBX4.out.cell 0
          have b1 := HBX4.out.cell 1
          have b2 := HBX4.out.cell 2
          have b3 := HBX4.out.cell 3
          have b4 := HBX4.out.cell 4
          have b5 := HBX4.out.cell 5
          have bf0 := HBX4.out.frozen 0
          have g0 := HG4.out.cell 0
          simp only [List.getElem?_toArray, List.getElem?_cons_zero, List.getElem?_cons_succ] at b0 b1 b2 b3 b4 b5 g0
          have hneg : w1.heap.size ≠ wo.heap.size := by have := HG.out.lt; omega
          clear hown4 hb4 hm1 h34 hl1
          go_upto_region 12 with fail
          obtain ⟨w5, hw5⟩ : ∃ w5, w5 = w4.setCell ⟨wo.heap.size, 0, none⟩ (.int .i64 z) := ⟨_, rfl⟩
          have hBX5 : Lies w5 wo.heap.size 41 #[.int .i64 z, .int .i64 o.kind, .slice S3 xs.length d3, .string o.text, .int .i64 o.bits, .int .i64 o.hash] := by
            rw [hw5]
            have := HBX4.out.set_ 0 (.int .i64 z)
            simpa using this
          have hO5 : OwnH w5 (w1.heap.size + 1) A5 c5 ls := by
            rw [hw5]
            exact ⟨ownsRow_setCell_other HO4.out.row (by intro e; have := (HO.out.row.lt _ e).2; simp at this) _, fun i l hi => ownsRow_setCell_other (HO4.out.ints i l hi) (own_blk_ne (HO4.out.ints i l hi) HBX4.out (by decide)) _, HO4.out.apart⟩
          have hV5 : w5.ownsRow W.heap.size 3 1 (.slice S3 xs.length d3) xs.length (xs.map (Value.int .i64)) := by
            rw [hw5]; exact ownsRow_setCell_below HV4.out (by show wo.heap.size < _; omega) _
          have hG5 : Lies w5 w1.heap.size 24 #[.slice A5 ls.length c5, .int .i64 h.cap, .int .i64 h.last] := by rw [hw5]; exact HG4.out.far (by exact hneg) _
          have hX5 : Lies w5 w.heap.size 24 #[Value.slice (some ⟨b, off, none⟩) h.objs.length c, Value.int .i64 h.cap, Value.int .i64 h.last] := by rw [hw5]; exact HX4.out.far (by show w.heap.size ≠ wo.heap.size; have := XO.out.lt; omega) _
          have hwo5 : Below wo.heap.size wo w5 := by rw [hw5]; exact hwo4.out.setCell (p := ⟨wo.heap.size, 0, none⟩) (Nat.le_refl _) _
          have hs5 : w5.heap.size = w4.heap.size := by rw [hw5]; simp
          obtain ⟨A6, c6, w6, hrun, hO6, hg6⟩ := run_app_obj w5 (w1.heap.size + 1) W.heap.size A5 c5 ls hO5 (by omega) ⟨z, o.kind, xs, o.text, o.bits, o.hash⟩ S3 d3 hV5 (by omega) (fun i li a hi ha => by have := HO.out.blk_lt hi ha; omega) (by omega)
          have hal := below_alloc w5 (.cells (obC ⟨z, o.kind, xs, o.text, o.bits, o.hash⟩ S3 d3) 41)
          have hrb : ∀ q, (Value.slice A5 ls.length c5).ownBlock = some q → w1.heap.size + 1 ≤ q := fun q hq => (HO.out.row.lt q hq).1
          have hP6 := (hG5.later hal).grown hg6 (fun e => by have := hrb _ e.symm; omega)
          have hX6 := (hX5.later hal).grown hg6 (fun e => by have := hrb _ e.symm; omega)
          have hb6 : Below w1.heap.size w1 w6 := ((HW.out.trans (hwo5.mono HW.out.size)).trans (hal.mono (by omega))).grown hg6 (by simp; omega) (fun q hq => by have := hrb q hq; omega)
          have e0 := hBX5.cell 0
          have e1 := hBX5.cell 1
          have e2 := hBX5.cell 2
          have e3 := hBX5.cell 3
          have e4 := hBX5.cell 4
          have e5 := hBX5.cell 5
          have p0 := hP6.cell 0
          have pf0 := hP6.frozen 0
          have g5 := hG5.cell 0
          simp only [List.getElem?_toArray, List.getElem?_cons_zero, List.getElem?_cons_succ] at e0 e1 e2 e3 e4 e5 p0 g5
          rw [← hw5]
          have HRUN := hid hrun
          have HO6 := hid hO6
          have HP6 := hid hP6
          have HX6 := hid hX6
          have HB6 := hid hb6
          have hsz6 : w1.heap.size + 1 ≤ w6.heap.size := by have := hg6.size; simp at this; omega
          clear hs5 b0 b1 b2 b3 b4 b5 bf0 g0 q4 hBX5 hO5 hV5 hG5 hX5 hwo5 hw5 hrun hO6 hg6 hal hrb hP6 hX6 hb6
          go_wp2_with (at_builtin; refine wpList_app_run rfl (.tmp 58) (.tmp 60) 22 rfl _ _ HRUN.out ?_)
          go_roundw
          case rel =>
            have hlt1 : w.heap.size ≠ w1.heap.size := by omega
            refine ⟨k + 1, A6, c6, ls ++ [⟨⟨z, o.kind, xs, o.text, o.bits, o.hash⟩, S3, d3⟩], by omega, by go_num, HX6.out.far (by exact hlt1) _, HO6.out.off HP6.out 0 _, by rw [List.map_append, HLS.out, HOB2.out, HMO.out]; rfl, ?_, HB6.out.setCell (p := ⟨w1.heap.size, 0, none⟩) (Nat.le_refl _) _, by simpa using hsz6⟩
            rw [List.length_append]
            simpa using HP6.out.set_ 0 (.slice A6 (ls.length + 1) c6)
          case measure => simp [intOf]; omega
        · have hob2 : obsK h t (k + 1) = obsK h t k := obsK_out h t (by rw [HGD.out]; exact hx0)
          have HOB2 := hid hob2
          have hx1 : x < 0 := by omega
          clear hob2 htw hx0
          go_wp2_with fail
          go_roundw
          case rel => exact ⟨k + 1, A5, c5, ls, by omega, by go_num, XO.out, HO.out, by rw [HLS.out, HOB2.out], HG.out, HW.out, hsz⟩
          case measure => simp [intOf]; omega
      · obtain rfl : k = h.objs.length := by omega
        have HK2 := hid (K1.out.later HW.out)
        have HB2 := hid (HB1.out.trans (HW.out.mono HB1.out.size))
        have HTT := hid (HI1.out.below HW.out)
        have HRR := hid (HR.out.below HB2.out)
        have z0 := HG.out.cell 0
        have z1 := HG.out.cell 1
        have z2 := HG.out.cell 2
        have u0 := HK2.out.cell 0
        have u1 := HK2.out.cell 1
        have u2 := HK2.out.cell 2
        have uf0 := HK2.out.frozen 0
        have uf1 := HK2.out.frozen 1
        have uf2 := HK2.out.frozen 2
        simp only [List.getElem?_toArray, List.getElem?_cons_zero, List.getElem?_cons_succ] at z0 z1 z2 u0 u1 u2
        go_wp2_with fail
        obtain ⟨W, hW⟩ : ∃ W, W = wo := ⟨_, rfl⟩
        subst hW
        have hneW : w1.heap.size ≠ w.heap.size + 1 := by omega
        refine wp_region_held_drew (S := (fun w' => w'.cell? ⟨w1.heap.size, 0, none⟩ = some (.slice A5 ls.length c5) ∧ w'.cell? ⟨w1.heap.size, 1, none⟩ = some (.int .i64 h.cap) ∧ w'.cell? ⟨w1.heap.size, 2, none⟩ = some (.int .i64 h.last))) (by kernel_rfl) ?_ (fun hH0 => ?_)
        · exact ⟨z0, z1, z2⟩
        refine wpAnyH_take (i := 0) (oi := { dst := some 63, op := Go.Op.load 24 (Go.Operand.tmp 9), type := 24, pos := "ref.go:76", after := #[], guard := none }) (v := ?vv1) rfl (by kernel_rfl) (by kernel_rfl) (by kernel_rfl) (fun _ _ _ h => h) (Or.inl ⟨by rfl, ?hy1⟩) (by assumption) ?rr1
        case hy1 => intro w hSw; (try dsimp only at hSw); go_simp; all_goals with_reducible rfl
        try simp only [Act.put, List.setIfInBounds_toArray, List.set_cons_zero, List.set_cons_succ]
        refine wpAnyH_take (i := 1) (oi := { dst := some 64, op := Go.Op.move (Go.Operand.tmp 7), type := 34, pos := "ref.go:76", after := #[], guard := none }) (v := ?vv2) rfl (by kernel_rfl) (by kernel_rfl) (by kernel_rfl) (fun _ _ _ h => h) (Or.inl ⟨by rfl, ?hy2⟩) (by assumption) ?rr2
        case hy2 => intro w hSw; (try dsimp only at hSw); go_simp; all_goals with_reducible rfl
        try simp only [Act.put, List.setIfInBounds_toArray, List.set_cons_zero, List.set_cons_succ]
        refine wpAnyH_take (i := 2) (oi := { dst := some 65, op := Go.Op.move (Go.Operand.tmp 1), type := 34, pos := "ref.go:76", after := #[], guard := none }) (v := ?vv3) rfl (by kernel_rfl) (by kernel_rfl) (by kernel_rfl) (fun _ _ _ h => h) (Or.inl ⟨by rfl, ?hy3⟩) (by assumption) ?rr3
        case hy3 => intro w hSw; (try dsimp only at hSw); go_simp; all_goals with_reducible rfl
        try simp only [Act.put, List.setIfInBounds_toArray, List.set_cons_zero, List.set_cons_succ]
        refine wpAnyH_ready (rs := [3]) (by kernel_rfl) (by simp) ?_
        refine AllReadyH.cons (i := 3) (o := { dst := some 66, op := Go.Op.call { callee := Go.Callee.value (Go.Operand.func 54), args := #[Go.Operand.tmp 64, Go.Operand.tmp 65], argTypes := #[34, 34] }, type := 34, pos := "ref.go:76", after := #[{ on := 1, ground := Go.Ground.data }, { on := 2, ground := Go.Ground.data }], guard := none }) rfl (fun K hK => ?_) AllReadyH.nil
        go_simp
        go_at_call 54
        refine (rvalues_any t rs A1 R c1 d _ (HTT.out.below (Below.refl _ _).drew) (HRR.out.below (Below.refl _ _).drew) (by omega) hl).mono ?_
        rintro e w' ⟨A7, c7, rfl, hown7, hb⟩
        have hbW : Below W.heap.size W w' := then_b (Below.refl _ _).drew hb
        have hK7 := HK2.out.later hbW
        have v0 := hK7.cell 0
        have v1 := hK7.cell 1
        have v2 := hK7.cell 2
        have vf0 := hK7.frozen 0
        have vf1 := hK7.frozen 1
        have vf2 := hK7.frozen 2
        simp only [List.getElem?_toArray, List.getElem?_cons_zero, List.getElem?_cons_succ] at v0 v1 v2
        have HK7 := hid hK7
        have HBW := hid hbW
        have HO7 := hid (HO.out.later hbW)
        have HV7 := hid hown7
        clear hK7 hbW hown7
        refine hK.out _ _ ?_ (fun hH1 => ?_)
        · exact ⟨cell_later hb hH0.1, cell_later hb hH0.2.1, cell_later hb hH0.2.2⟩
        clear hK K
        try simp only [Act.put, List.setIfInBounds_toArray, List.set_cons_zero, List.set_cons_succ]
        clear hb
        refine wpAnyH_ready (rs := [4]) (by kernel_rfl) (by simp) ?_
        refine AllReadyH.cons (i := 4) (o := { dst := none, op := Go.Op.store 24 (Go.Operand.tmp 4) (Go.Operand.tmp 63), type := 0, pos := "ref.go:76", after := #[{ on := 0, ground := Go.Ground.data }, { on := 3, ground := Go.Ground.chain }, { on := 0, ground := Go.Ground.phase }, { on := 1, ground := Go.Ground.textOnly Go.Departure.lateStores }, { on := 2, ground := Go.Ground.textOnly Go.Departure.lateStores }, { on := 3, ground := Go.Ground.textOnly Go.Departure.lateStoresUnsure }], guard := none }) rfl (fun K hK => ?_) AllReadyH.nil
        go_simp
        refine hK.out _ _ ?_ (fun hH2 => ?_)
        · exact ⟨far_cell5 hneW (far_cell5 hneW (far_cell5 hneW hH1.1)), far_cell5 hneW (far_cell5 hneW (far_cell5 hneW hH1.2.1)), far_cell5 hneW (far_cell5 hneW (far_cell5 hneW hH1.2.2))⟩
        clear hK K
        try simp only [Act.put, List.setIfInBounds_toArray, List.set_cons_zero, List.set_cons_succ]
        refine wpAnyH_take (i := 5) (oi := { dst := some 5, op := Go.Op.assign (Go.Operand.tmp 66), type := 34, pos := "ref.go:76", after := #[{ on := 3, ground := Go.Ground.data }, { on := 4, ground := Go.Ground.chain }, { on := 0, ground := Go.Ground.phase }, { on := 1, ground := Go.Ground.phase }, { on := 2, ground := Go.Ground.phase }, { on := 3, ground := Go.Ground.phase }, { on := 4, ground := Go.Ground.phase }], guard := none }) (v := ?vv4) rfl (by kernel_rfl) (by kernel_rfl) (by kernel_rfl) (fun _ _ _ h => h) (Or.inl ⟨by rfl, ?hy4⟩) (by assumption) ?rr4
        case hy4 => intro w hSw; (try dsimp only at hSw); go_simp; all_goals with_reducible rfl
        try simp only [Act.put, List.setIfInBounds_toArray, List.set_cons_zero, List.set_cons_succ]
        refine wpAnyH_take (i := 6) (oi := { dst := some 6, op := Go.Op.assign (Go.Operand.const (Go.Value.int Go.IntKind.i64 0)), type := 25, pos := "ref.go:76", after := #[{ on := 5, ground := Go.Ground.chain }, { on := 0, ground := Go.Ground.phase }, { on := 1, ground := Go.Ground.phase }, { on := 2, ground := Go.Ground.phase }, { on := 3, ground := Go.Ground.phase }, { on := 4, ground := Go.Ground.phase }, { on := 5, ground := Go.Ground.phase }], guard := none }) (v := ?vv5) rfl (by kernel_rfl) (by kernel_rfl) (by kernel_rfl) (fun _ _ _ h => h) (Or.inl ⟨by rfl, ?hy5⟩) (by assumption) ?rr5
        case hy5 => intro w hSw; (try dsimp only at hSw); go_simp; all_goals with_reducible rfl
        try simp only [Act.put, List.setIfInBounds_toArray, List.set_cons_zero, List.set_cons_succ]
        refine wpAnyH_done (by kernel_rfl) ?_ _
        go_wp2_with fail
        have KF := (((HK7.out.set_ 0 (.slice A5 ls.length c5)).set_ 1 (.int .i64 h.cap)).set_ 2 (.int .i64 h.last))
        have r0 := KF.cell 0
        have r1 := KF.cell 1
        have r2 := KF.cell 2
        simp only [List.setIfInBounds_toArray, List.set_cons_zero, List.set_cons_succ, List.getElem?_toArray, List.getElem?_cons_zero, List.getElem?_cons_succ] at r0 r1 r2
        have hll2 : ls.length = (obsK h t h.objs.length).length := by rw [← HLS.out, List.length_map]
        refine bodyPost_ret (v := .tuple #[.agg #[.slice A5 ls.length c5, .int .i64 h.cap, .int .i64 h.last], .slice A7 (rs.map (vaV t)).length c7, .int .i64 0]) (by simp [results, Tryz.results28, go_sem, r0, r1, r2]) rfl ?_
        rw [HCH.out, HCL.out]
        refine ⟨A5, c5, A7, c7, ls, congrArg (fun n => Ending.returned (.tuple #[.agg #[.slice A5 n c5, .int .i64 h.cap, .int .i64 h.last], .slice A7 (rs.map (vaV t)).length c7, .int .i64 0])) hll2, HLS.out, OwnH.lower (base := w1.heap.size + 1) ?_ (by omega), own_lower (base := W.drew.heap.size) ?_ (by have hlw : w.heap.size + 1 < W.drew.heap.size := by { have := HK2.out.lt; simpa using this }; omega), ?_⟩
        · exact ((HO7.out.low (p := ⟨w.heap.size + 1, 0, none⟩) (by simp; omega) _).low (p := ⟨w.heap.size + 1, 1, none⟩) (by simp; omega) _).low (p := ⟨w.heap.size + 1, 2, none⟩) (by simp; omega) _
        · have hlw := HK2.out.lt
          exact ownsRow_setCell_below (ownsRow_setCell_below (ownsRow_setCell_below HV7.out (by show w.heap.size + 1 < _; simpa using hlw) _) (by show w.heap.size + 1 < _; simpa using hlw) _) (by show w.heap.size + 1 < _; simpa using hlw) _
        · exact ((((then_b HB2.out HBW.out).setCell (p := ⟨w.heap.size + 1, 0, none⟩) (by simp) _).setCell (p := ⟨w.heap.size + 1, 1, none⟩) (by simp) _).setCell (p := ⟨w.heap.size + 1, 2, none⟩) (by simp) _)
  · have e1 : coH h rs = zeroH := coH_no he
    have e2 : coL h rs = [] := coL_no he
    have hne : (liE h rs != 0) = true := by simpa using he
    rw [e1, e2]
    obtain ⟨en, hen⟩ : ∃ en, en = liE h rs := ⟨_, rfl⟩
    rw [← hen] at hne ⊢
    have HEN := hid hen
    clear e1 e2 hen he
    go_enter Tryz.func28, Tryz.ntmps28
    go_wp2_with fail
    refine (rtable_any h rs A R c d _ (HS.out.below HB0.out) HF.out (HR.out.below HB0.out) (by omega)).mono ?_
    rintro e w1 ⟨A1, c1, rfl, -, -, -, hb1⟩
    rw [← HEN.out]
    have HB1 := hid (HB0.out.trans (hb1.mono HB0.out.size))
    have K1 := hid (K0.out.later hb1)
    clear hb1
    have u0 := K1.out.cell 0
    have u1 := K1.out.cell 1
    have u2 := K1.out.cell 2
    have uf0 := K1.out.frozen 0
    have uf1 := K1.out.frozen 1
    have uf2 := K1.out.frozen 2
    simp only [List.getElem?_toArray, List.getElem?_cons_zero, List.getElem?_cons_succ] at u0 u1 u2
    go_wp2_with fail
    have KF := (((K1.out.set_ 0 (.slice none 0 0)).set_ 1 (.int .i64 0)).set_ 2 (.int .i64 0))
    have r0 := KF.cell 0
    have r1 := KF.cell 1
    have r2 := KF.cell 2
    simp only [List.setIfInBounds_toArray, List.set_cons_zero, List.set_cons_succ, List.getElem?_toArray, List.getElem?_cons_zero, List.getElem?_cons_succ] at r0 r1 r2
    refine bodyPost_ret (v := .tuple #[.agg #[.slice none 0 0, .int .i64 0, .int .i64 0], .slice none 0 0, .int .i64 en]) (by simp [results, Tryz.results28, go_sem, r0, r1, r2]) rfl ?_
    exact ⟨none, 0, none, 0, [], rfl, rfl, OwnH.nil _ _, World.ownsRow_nil _ _ _ _, (((HB1.out.setCell (p := ⟨w.heap.size + 1, 0, none⟩) (by simp) _).setCell (p := ⟨w.heap.size + 1, 1, none⟩) (by simp) _).setCell (p := ⟨w.heap.size + 1, 2, none⟩) (by simp) _)⟩
theorem rcompact_any (h : Hp) (rs : List Int) (A R : Option Addr) (c d : Nat) (w : World) (hs : ObsR w A h.objs) (fit : h.Fit) (hr : IntsR w R rs) (hl : rs.length ≤ 100000) :
    Calls Tryz.prog 28 #[.agg #[.slice A h.objs.length c, .int .i64 h.cap, .int .i64 h.last], .slice R rs.length d] w (HeapInts w (coH h rs) (coL h rs) (liE h rs)) :=
  (rcompact_own h rs A R c d w hs fit hr hl).mono fun _ _ ⟨A', c', R', d', _, he, hls, hob, hrow, hb⟩ => ⟨A', c', R', d', he, own_obs hob hls, own_ints hrow, hb⟩
end Go.Proofs.YtnilempeldlieaaGreat
