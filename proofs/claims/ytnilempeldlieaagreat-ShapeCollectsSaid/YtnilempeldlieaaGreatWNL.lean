/- The document's Live and Has walked. -/
import Derived.Test.YtnilempeldlieaaGreatWNW
import Derived.Test.YtnilempeldlieaaGreatM04
import Derived.Test.YtnilempeldlieaaGreatM05
import Derived.Test.YtnilempeldlieaaGreatM09
namespace Go.Proofs.YtnilempeldlieaaGreat
open Go.RowKit
set_option maxRecDepth 100000
theorem made_none (n : Nat) : (madeCells #[.bool false] n).toList = (List.replicate n false).map Value.bool := by rw [toList_madeCells_one, List.map_replicate]
theorem below_up {w v w' : World} (h : Below w.heap.size w v) (hb : Below v.heap.size v w') : Below w.heap.size w w' := h.trans (hb.mono h.size)
def pickedN (m : List Bool) (k : Nat) : List Int := ((List.range k).filter fun i => m.getD i false).map Int.ofNat
theorem pickedN_len (m : List Bool) (k : Nat) : (pickedN m k).length ≤ k := by
  unfold pickedN
  rw [List.length_map]
  have := List.length_filter_le (fun i => m.getD i false) (List.range k)
  rwa [List.length_range] at this
set_option maxHeartbeats 4000000 in
theorem rlive_any (h : Hp) (rs : List Int) (A R : Option Addr) (c d : Nat) (w : World) (hs : ObsR w A h.objs) (fit : h.Fit) (hr : IntsR w R rs) (hl : rs.length ≤ 9223372036854775807) :
    Calls Tryz.prog 18 #[.agg #[.slice A h.objs.length c, .int .i64 h.cap, .int .i64 h.last], .slice R rs.length d] w (IntsTwo w (liL h rs) (liE h rs)) := by
  have HB0 := hid (below_alloc w (.cells #[Value.slice A h.objs.length c, Value.int .i64 h.cap, Value.int .i64 h.last] 24))
  have X0 := hid (Lies.new w 24 #[Value.slice A h.objs.length c, Value.int .i64 h.cap, Value.int .i64 h.last])
  have HS := hid hs
  have HF := hid fit
  have HR := hid hr
  clear hs fit hr
  cases hm : mayB h
  · have e1 : liE h rs = 1 := by unfold liE; rw [hm]; rfl
    have e2 : liL h rs = [] := by unfold liL; rw [e1]; rfl
    rw [e1, e2]; clear e1 e2
    go_enter Tryz.func18, Tryz.ntmps18
    go_wp2_with fail
    refine (rmay_any h A c _ (HS.out.below HB0.out) HF.out).mono ?_
    rintro e w1 ⟨rfl, hb1⟩
    have HB1 := hid (HB0.out.trans (hb1.mono (by simp)))
    clear hb1
    rw [hm]
    go_wp2_with fail
    go_ret2
    exact ⟨none, 0, rfl, fun hn => by simp at hn, fun _ => rfl, Nat.le_refl _, HB1.out⟩
  · have HM := hid hm
    have hle := may_len hm
    have hmk := run_make_row' (P := Tryz.prog) 55 4 (.bool false) 1 Tryz.underlying55 bool_info rfl .i64 .i64 h.objs.length (by omega) (by omega)
    go_enter Tryz.func18, Tryz.ntmps18
    go_wp2_with fail
    refine (rmay_any h A c _ (HS.out.below HB0.out) HF.out).mono ?_
    rintro e w1 ⟨rfl, hb1⟩
    have HB1 := hid (HB0.out.trans (hb1.mono (by simp)))
    have X1 := hid (X0.out.later hb1)
    clear hb1 X0
    rw [hm]
    have hw01 : w.heap.size < w1.heap.size := X1.out.lt
    have KM : Hid ((w1.alloc (.cells (madeCells #[.bool false] h.objs.length) 4)).ownsRow (w.heap.size + 1) 4 1 (.slice (some ⟨w1.heap.size, 0, none⟩) h.objs.length h.objs.length) h.objs.length ((List.replicate h.objs.length false).map Value.bool)) := by
      have := World.ownsRow_lit (base := w.heap.size + 1) (e := 4) (size := 1) w1 (madeCells #[.bool false] h.objs.length) h.objs.length (by omega) (by unfold maxLen; omega) (by rw [size_madeCells, Nat.mul_one])
      rwa [made_none] at this
    have HAL := hid (below_alloc w1 (.cells (madeCells #[.bool false] h.objs.length) 4))
    have x0 := X1.out.cell 0
    have x1 := X1.out.cell 1
    have x2 := X1.out.cell 2
    simp only [List.getElem?_toArray, List.getElem?_cons_zero, List.getElem?_cons_succ] at x0 x1 x2
    go_wp2_with fail
    go_loopw [7] (fun i wr => ∃ (k : Nat) (out : List Bool), k ≤ rs.length ∧ i = .int .i64 k ∧ wr.ownsRow (w.heap.size + 1) 4 1 (.slice (some ⟨w1.heap.size, 0, none⟩) h.objs.length h.objs.length) h.objs.length (out.map Value.bool) ∧ Rooted h rs out k ∧ (rs.take k).all (hasB h.objs.length) = true ∧ Lies wr w.heap.size 24 #[Value.slice A h.objs.length c, Value.int .i64 h.cap, Value.int .i64 h.last] ∧ Below w.heap.size w wr) (fun i _ => rs.length - (intOf i).toNat)
    case atStart => exact ⟨0, _, Nat.zero_le _, rfl, KM.out, Rooted.start h rs, rfl, X1.out.later HAL.out, below_up HB1.out HAL.out⟩
    case round =>
      clear x0 x1 x2 KM HAL
      obtain ⟨k, out, hk, rfl, hown, hroot, hallk, hbox, hbw⟩ := hrel
      rename World => wo
      have HW := hid hbw
      have HX := hid hbox
      have HO := hid hown
      have HRT := hid hroot
      have HAK := hid hallk
      have x0 := hbox.cell 0
      have x1 := hbox.cell 1
      have x2 := hbox.cell 2
      simp only [List.getElem?_toArray, List.getElem?_cons_zero, List.getElem?_cons_succ] at x0 x1 x2
      clear hown hroot hallk hbox hbw
      by_cases hlt : k < rs.length
      · obtain ⟨bs, os, rfl, hbs, hcs⟩ := HR.out (by omega)
        have rc := (HW.out.cell (p := ⟨bs, os + k, none⟩) hbs).trans (hcs k _ (List.getElem?_eq_getElem hlt))
        have hpass := HRT.out.pass hlt
        have hput := HRT.out.put hlt
        have htk : (rs.take (k + 1)).all (hasB h.objs.length) = ((rs.take k).all (hasB h.objs.length) && hasB h.objs.length rs[k]) := by
          rw [List.take_succ_eq_append_getElem hlt, List.all_append]; simp
        have hmem := List.getElem_mem hlt
        obtain ⟨v, hv⟩ : ∃ v, v = rs[k] := ⟨_, rfl⟩
        rw [← hv] at rc hpass hput htk hmem
        have HPA := hid hpass
        have HPU := hid hput
        have HTK := hid htk
        have HME := hid hmem
        clear hcs hv hpass hput htk hmem
        cases hhv : hasB h.objs.length v
        · have e1 : liE h rs = 31 := by
            unfold liE
            rw [if_pos HM.out, if_neg]
            intro ha
            have := List.all_eq_true.1 ha v HME.out
            rw [hhv] at this; cases this
          have e2 : liL h rs = [] := by unfold liL; rw [e1]; rfl
          rw [e1, e2]; clear e1 e2
          go_wp2_with fail
          refine wp_region_held_drew (S := (fun w' => w'.cell? ⟨w.heap.size, 0, none⟩ = some (.slice A h.objs.length c) ∧ w'.cell? ⟨w.heap.size, 1, none⟩ = some (.int .i64 h.cap) ∧ w'.cell? ⟨w.heap.size, 2, none⟩ = some (.int .i64 h.last) ∧ w'.cell? ⟨bs, os + k, none⟩ = some (.int .i64 v) ∧ Below w.heap.size w w')) (by kernel_rfl) ?_ (fun hHeld => ?_)
          · exact ⟨x0, x1, x2, rc, HW.out.drew⟩
          refine wpAnyH_take (i := 0) (oi := { dst := some 24, op := Go.Op.load 24 (Go.Operand.tmp 2), type := 24, pos := "ref.go:34", after := #[], guard := none }) (v := ?vv1) rfl (by kernel_rfl) (by kernel_rfl) (by kernel_rfl) (fun _ _ _ h => h) (Or.inl ⟨by rfl, ?hy1⟩) (by assumption) ?rr1
          case hy1 => intro w hSw; (try dsimp only at hSw); go_simp; all_goals with_reducible rfl
          try simp only [Act.put, List.setIfInBounds_toArray, List.set_cons_zero, List.set_cons_succ]
          refine wpAnyH_take (i := 1) (oi := { dst := some 25, op := Go.Op.move (Go.Operand.tmp 1), type := 34, pos := "ref.go:34", after := #[], guard := none }) (v := ?vv2) rfl (by kernel_rfl) (by kernel_rfl) (by kernel_rfl) (fun _ _ _ h => h) (Or.inl ⟨by rfl, ?hy2⟩) (by assumption) ?rr2
          case hy2 => intro w hSw; (try dsimp only at hSw); go_simp; all_goals with_reducible rfl
          try simp only [Act.put, List.setIfInBounds_toArray, List.set_cons_zero, List.set_cons_succ]
          refine wpAnyH_take (i := 2) (oi := { dst := some 26, op := Go.Op.move (Go.Operand.tmp 7), type := 3, pos := "ref.go:34", after := #[], guard := none }) (v := ?vv3) rfl (by kernel_rfl) (by kernel_rfl) (by kernel_rfl) (fun _ _ _ h => h) (Or.inl ⟨by rfl, ?hy3⟩) (by assumption) ?rr3
          case hy3 => intro w hSw; (try dsimp only at hSw); go_simp; all_goals with_reducible rfl
          try simp only [Act.put, List.setIfInBounds_toArray, List.set_cons_zero, List.set_cons_succ]
          refine wpAnyH_take (i := 3) (oi := { dst := some 27, op := Go.Op.indexAddr 34 (Go.Operand.tmp 25) (Go.Operand.tmp 26), type := 0, pos := "ref.go:34", after := #[{ on := 1, ground := Go.Ground.data }, { on := 2, ground := Go.Ground.data }], guard := none }) (v := ?vv4) rfl (by kernel_rfl) (by kernel_rfl) (by kernel_rfl) (fun _ _ _ h => h) (Or.inl ⟨by rfl, ?hy4⟩) (by assumption) ?rr4
          case hy4 => intro w hSw; (try dsimp only at hSw); go_simp; all_goals with_reducible rfl
          try simp only [Act.put, List.setIfInBounds_toArray, List.set_cons_zero, List.set_cons_succ]
          refine wpAnyH_take (i := 4) (oi := { dst := some 28, op := Go.Op.load 3 (Go.Operand.tmp 27), type := 3, pos := "ref.go:34", after := #[{ on := 3, ground := Go.Ground.data }], guard := none }) (v := ?vv5) rfl (by kernel_rfl) (by kernel_rfl) (by kernel_rfl) (fun _ _ _ h => h) (Or.inl ⟨by rfl, ?hy5⟩) (by assumption) ?rr5
          case hy5 => intro w hSw; (try dsimp only at hSw); go_simp; all_goals with_reducible rfl
          try simp only [Act.put, List.setIfInBounds_toArray, List.set_cons_zero, List.set_cons_succ]
          refine wpAnyH_ready (rs := [5]) (by kernel_rfl) (by simp) ?_
          refine AllReadyH.cons (i := 5) (o := { dst := some 29, op := Go.Op.call { callee := Go.Callee.value (Go.Operand.func 35), args := #[Go.Operand.tmp 24, Go.Operand.tmp 28], argTypes := #[24, 3] }, type := 4, pos := "ref.go:34", after := #[{ on := 0, ground := Go.Ground.data }, { on := 4, ground := Go.Ground.data }], guard := none }) rfl (fun K hK => ?_) AllReadyH.nil
          go_simp
          go_at_call 35
          refine (rhas_any h v A c _).mono ?_
          rintro e w' ⟨rfl, hb⟩
          rw [hhv]
          have HBr := hid hb
          refine hK.out _ _ ?_ (fun hHeld => ?_)
          · exact ⟨cell_later hb x0, cell_later hb x1, cell_later hb x2, cell_later hb rc, below_up HW.out.drew hb⟩
          clear hK K
          try simp only [Act.put, List.setIfInBounds_toArray, List.set_cons_zero, List.set_cons_succ]
          have hH1 := hHeld
          clear hHeld hb
          have hHeld := hH1
          refine wpAnyH_take (i := 6) (oi := { dst := some 30, op := Go.Op.unOp Go.UnOp.not 4 (Go.Operand.tmp 29), type := 4, pos := "ref.go:34", after := #[{ on := 5, ground := Go.Ground.data }], guard := none }) (v := ?vv6) rfl (by kernel_rfl) (by kernel_rfl) (by kernel_rfl) (fun _ _ _ h => h) (Or.inl ⟨by rfl, ?hy6⟩) (by assumption) ?rr6
          case hy6 => intro w hSw; (try dsimp only at hSw); go_simp; all_goals with_reducible rfl
          try simp only [Act.put, List.setIfInBounds_toArray, List.set_cons_zero, List.set_cons_succ]
          refine wpAnyH_done (by kernel_rfl) ?_ _
          have hHeldB := hHeld.2.2.2.2
          go_wp2_with fail
          go_ret2
          exact ⟨none, 0, rfl, fun hn => by simp at hn, fun _ => rfl, Nat.le_refl _, hHeldB⟩
        · go_wp2_with fail
          refine wp_region_held_drew (S := (fun w' => w'.cell? ⟨w.heap.size, 0, none⟩ = some (.slice A h.objs.length c) ∧ w'.cell? ⟨w.heap.size, 1, none⟩ = some (.int .i64 h.cap) ∧ w'.cell? ⟨w.heap.size, 2, none⟩ = some (.int .i64 h.last) ∧ w'.cell? ⟨bs, os + k, none⟩ = some (.int .i64 v) ∧ Below w.heap.size w w')) (by kernel_rfl) ?_ (fun hHeld => ?_)
          · exact ⟨x0, x1, x2, rc, HW.out.drew⟩
          refine wpAnyH_take (i := 0) (oi := { dst := some 24, op := Go.Op.load 24 (Go.Operand.tmp 2), type := 24, pos := "ref.go:34", after := #[], guard := none }) (v := ?vv7) rfl (by kernel_rfl) (by kernel_rfl) (by kernel_rfl) (fun _ _ _ h => h) (Or.inl ⟨by rfl, ?hy7⟩) (by assumption) ?rr7
          case hy7 => intro w hSw; (try dsimp only at hSw); go_simp; all_goals with_reducible rfl
          try simp only [Act.put, List.setIfInBounds_toArray, List.set_cons_zero, List.set_cons_succ]
          refine wpAnyH_take (i := 1) (oi := { dst := some 25, op := Go.Op.move (Go.Operand.tmp 1), type := 34, pos := "ref.go:34", after := #[], guard := none }) (v := ?vv8) rfl (by kernel_rfl) (by kernel_rfl) (by kernel_rfl) (fun _ _ _ h => h) (Or.inl ⟨by rfl, ?hy8⟩) (by assumption) ?rr8
          case hy8 => intro w hSw; (try dsimp only at hSw); go_simp; all_goals with_reducible rfl
          try simp only [Act.put, List.setIfInBounds_toArray, List.set_cons_zero, List.set_cons_succ]
          refine wpAnyH_take (i := 2) (oi := { dst := some 26, op := Go.Op.move (Go.Operand.tmp 7), type := 3, pos := "ref.go:34", after := #[], guard := none }) (v := ?vv9) rfl (by kernel_rfl) (by kernel_rfl) (by kernel_rfl) (fun _ _ _ h => h) (Or.inl ⟨by rfl, ?hy9⟩) (by assumption) ?rr9
          case hy9 => intro w hSw; (try dsimp only at hSw); go_simp; all_goals with_reducible rfl
          try simp only [Act.put, List.setIfInBounds_toArray, List.set_cons_zero, List.set_cons_succ]
          refine wpAnyH_take (i := 3) (oi := { dst := some 27, op := Go.Op.indexAddr 34 (Go.Operand.tmp 25) (Go.Operand.tmp 26), type := 0, pos := "ref.go:34", after := #[{ on := 1, ground := Go.Ground.data }, { on := 2, ground := Go.Ground.data }], guard := none }) (v := ?vv10) rfl (by kernel_rfl) (by kernel_rfl) (by kernel_rfl) (fun _ _ _ h => h) (Or.inl ⟨by rfl, ?hy10⟩) (by assumption) ?rr10
          case hy10 => intro w hSw; (try dsimp only at hSw); go_simp; all_goals with_reducible rfl
          try simp only [Act.put, List.setIfInBounds_toArray, List.set_cons_zero, List.set_cons_succ]
          refine wpAnyH_take (i := 4) (oi := { dst := some 28, op := Go.Op.load 3 (Go.Operand.tmp 27), type := 3, pos := "ref.go:34", after := #[{ on := 3, ground := Go.Ground.data }], guard := none }) (v := ?vv11) rfl (by kernel_rfl) (by kernel_rfl) (by kernel_rfl) (fun _ _ _ h => h) (Or.inl ⟨by rfl, ?hy11⟩) (by assumption) ?rr11
          case hy11 => intro w hSw; (try dsimp only at hSw); go_simp; all_goals with_reducible rfl
          try simp only [Act.put, List.setIfInBounds_toArray, List.set_cons_zero, List.set_cons_succ]
          refine wpAnyH_ready (rs := [5]) (by kernel_rfl) (by simp) ?_
          refine AllReadyH.cons (i := 5) (o := { dst := some 29, op := Go.Op.call { callee := Go.Callee.value (Go.Operand.func 35), args := #[Go.Operand.tmp 24, Go.Operand.tmp 28], argTypes := #[24, 3] }, type := 4, pos := "ref.go:34", after := #[{ on := 0, ground := Go.Ground.data }, { on := 4, ground := Go.Ground.data }], guard := none }) rfl (fun K hK => ?_) AllReadyH.nil
          go_simp
          go_at_call 35
          refine (rhas_any h v A c _).mono ?_
          rintro e w' ⟨rfl, hb⟩
          rw [hhv]
          have HBr := hid hb
          refine hK.out _ _ ?_ (fun hHeld => ?_)
          · exact ⟨cell_later hb x0, cell_later hb x1, cell_later hb x2, cell_later hb rc, below_up HW.out.drew hb⟩
          clear hK K
          try simp only [Act.put, List.setIfInBounds_toArray, List.set_cons_zero, List.set_cons_succ]
          have hH1 := hHeld
          clear hHeld hb
          have hHeld := hH1
          refine wpAnyH_take (i := 6) (oi := { dst := some 30, op := Go.Op.unOp Go.UnOp.not 4 (Go.Operand.tmp 29), type := 4, pos := "ref.go:34", after := #[{ on := 5, ground := Go.Ground.data }], guard := none }) (v := ?vv12) rfl (by kernel_rfl) (by kernel_rfl) (by kernel_rfl) (fun _ _ _ h => h) (Or.inl ⟨by rfl, ?hy12⟩) (by assumption) ?rr12
          case hy12 => intro w hSw; (try dsimp only at hSw); go_simp; all_goals with_reducible rfl
          try simp only [Act.put, List.setIfInBounds_toArray, List.set_cons_zero, List.set_cons_succ]
          refine wpAnyH_done (by kernel_rfl) ?_ _
          have hHeldB := hHeld.2.2.2.2
          clear hHeld hH1
          obtain ⟨y0, y1, y2, rc2⟩ : w'.cell? ⟨w.heap.size, 0, none⟩ = some (.slice A h.objs.length c) ∧ w'.cell? ⟨w.heap.size, 1, none⟩ = some (.int .i64 h.cap) ∧ w'.cell? ⟨w.heap.size, 2, none⟩ = some (.int .i64 h.last) ∧ w'.cell? ⟨bs, os + k, none⟩ = some (.int .i64 v) := ⟨cell_later HBr.out x0, cell_later HBr.out x1, cell_later HBr.out x2, cell_later HBr.out rc⟩
          have HX2 := hid (HX.out.later (below_up (Below.refl _ wo).drew HBr.out))
          have HO2 := hid (own_later HO.out.drew HBr.out)
          have HW2 := hid hHeldB
          have HTT : Hid ((rs.take (k + 1)).all (hasB h.objs.length) = true) := by show _ = _; rw [HTK.out, HAK.out, hhv]; rfl
          clear x0 x1 x2 rc hHeldB HX HO HW HBr HTK HAK
          rename World => w2
          cases hrv : refB h.objs.length v
          · have rv : refI h.objs.length v = -1 := refI_neg hrv
            go_wp2_with fail
            refine wp_region_held_drew (S := (fun w' => w'.cell? ⟨w.heap.size, 0, none⟩ = some (.slice A h.objs.length c) ∧ w'.cell? ⟨w.heap.size, 1, none⟩ = some (.int .i64 h.cap) ∧ w'.cell? ⟨w.heap.size, 2, none⟩ = some (.int .i64 h.last) ∧ w'.cell? ⟨bs, os + k, none⟩ = some (.int .i64 v) ∧ Below w.heap.size w w')) (by kernel_rfl) ?_ (fun hHeld => ?_)
            · exact ⟨y0, y1, y2, rc2, HW2.out.drew⟩
            refine wpAnyH_take (i := 0) (oi := { dst := some 31, op := Go.Op.load 24 (Go.Operand.tmp 2), type := 24, pos := "ref.go:37", after := #[], guard := none }) (v := ?vv13) rfl (by kernel_rfl) (by kernel_rfl) (by kernel_rfl) (fun _ _ _ h => h) (Or.inl ⟨by rfl, ?hy13⟩) (by assumption) ?rr13
            case hy13 => intro w hSw; (try dsimp only at hSw); go_simp; all_goals with_reducible rfl
            try simp only [Act.put, List.setIfInBounds_toArray, List.set_cons_zero, List.set_cons_succ]
            refine wpAnyH_take (i := 1) (oi := { dst := some 32, op := Go.Op.move (Go.Operand.tmp 1), type := 34, pos := "ref.go:37", after := #[], guard := none }) (v := ?vv14) rfl (by kernel_rfl) (by kernel_rfl) (by kernel_rfl) (fun _ _ _ h => h) (Or.inl ⟨by rfl, ?hy14⟩) (by assumption) ?rr14
            case hy14 => intro w hSw; (try dsimp only at hSw); go_simp; all_goals with_reducible rfl
            try simp only [Act.put, List.setIfInBounds_toArray, List.set_cons_zero, List.set_cons_succ]
            refine wpAnyH_take (i := 2) (oi := { dst := some 33, op := Go.Op.move (Go.Operand.tmp 7), type := 3, pos := "ref.go:37", after := #[], guard := none }) (v := ?vv15) rfl (by kernel_rfl) (by kernel_rfl) (by kernel_rfl) (fun _ _ _ h => h) (Or.inl ⟨by rfl, ?hy15⟩) (by assumption) ?rr15
            case hy15 => intro w hSw; (try dsimp only at hSw); go_simp; all_goals with_reducible rfl
            try simp only [Act.put, List.setIfInBounds_toArray, List.set_cons_zero, List.set_cons_succ]
            refine wpAnyH_take (i := 3) (oi := { dst := some 34, op := Go.Op.indexAddr 34 (Go.Operand.tmp 32) (Go.Operand.tmp 33), type := 0, pos := "ref.go:37", after := #[{ on := 1, ground := Go.Ground.data }, { on := 2, ground := Go.Ground.data }], guard := none }) (v := ?vv16) rfl (by kernel_rfl) (by kernel_rfl) (by kernel_rfl) (fun _ _ _ h => h) (Or.inl ⟨by rfl, ?hy16⟩) (by assumption) ?rr16
            case hy16 => intro w hSw; (try dsimp only at hSw); go_simp; all_goals with_reducible rfl
            try simp only [Act.put, List.setIfInBounds_toArray, List.set_cons_zero, List.set_cons_succ]
            refine wpAnyH_take (i := 4) (oi := { dst := some 35, op := Go.Op.load 3 (Go.Operand.tmp 34), type := 3, pos := "ref.go:37", after := #[{ on := 3, ground := Go.Ground.data }], guard := none }) (v := ?vv17) rfl (by kernel_rfl) (by kernel_rfl) (by kernel_rfl) (fun _ _ _ h => h) (Or.inl ⟨by rfl, ?hy17⟩) (by assumption) ?rr17
            case hy17 => intro w hSw; (try dsimp only at hSw); go_simp; all_goals with_reducible rfl
            try simp only [Act.put, List.setIfInBounds_toArray, List.set_cons_zero, List.set_cons_succ]
            refine wpAnyH_ready (rs := [5]) (by kernel_rfl) (by simp) ?_
            refine AllReadyH.cons (i := 5) (o := { dst := some 36, op := Go.Op.call { callee := Go.Callee.value (Go.Operand.func 32), args := #[Go.Operand.tmp 31, Go.Operand.tmp 35], argTypes := #[24, 3] }, type := 3, pos := "ref.go:37", after := #[{ on := 0, ground := Go.Ground.data }, { on := 4, ground := Go.Ground.data }], guard := none }) rfl (fun K hK => ?_) AllReadyH.nil
            go_simp
            go_at_call 32
            refine (rref_any h v A c _).mono ?_
            rintro e w' ⟨rfl, hb⟩
            rw [rv]
            have HBr := hid hb
            refine hK.out _ _ ?_ (fun hHeld => ?_)
            · exact ⟨cell_later hb y0, cell_later hb y1, cell_later hb y2, cell_later hb rc2, below_up HW2.out.drew hb⟩
            clear hK K
            try simp only [Act.put, List.setIfInBounds_toArray, List.set_cons_zero, List.set_cons_succ]
            have hH1 := hHeld
            clear hHeld hb
            have hHeld := hH1
            refine wpAnyH_take (i := 6) (oi := { dst := some 37, op := Go.Op.binOp Go.BinOp.geq 3 (Go.Operand.tmp 36) (Go.Operand.const (Go.Value.int Go.IntKind.i64 0)) 3, type := 4, pos := "ref.go:37", after := #[{ on := 5, ground := Go.Ground.data }], guard := none }) (v := ?vv18) rfl (by kernel_rfl) (by kernel_rfl) (by kernel_rfl) (fun _ _ _ h => h) (Or.inl ⟨by rfl, ?hy18⟩) (by assumption) ?rr18
            case hy18 => intro w hSw; (try dsimp only at hSw); go_simp; all_goals with_reducible rfl
            try simp only [Act.put, List.setIfInBounds_toArray, List.set_cons_zero, List.set_cons_succ]
            refine wpAnyH_done (by kernel_rfl) ?_ _
            have hHeldB := hHeld.2.2.2.2
            go_wp2_with fail
            go_roundw
            case rel => exact ⟨k + 1, out, by omega, by go_num, own_later HO2.out.drew HBr.out, HPA.out hrv, HTT.out, HX2.out.later (below_up (Below.refl _ w2).drew HBr.out), hHeldB⟩
            case measure => simp [intOf]; omega
          · obtain ⟨q, hq⟩ : ∃ q : Nat, atV v = q := ⟨_, (refB_nat hrv).2.symm⟩
            have rv : refI h.objs.length v = q := by rw [refI_nonneg hrv, hq]
            have hqn : q < h.objs.length := by have := (refB_nat hrv).1; omega
            have hpu := HPU.out hrv
            rw [hq, Int.toNat_natCast] at hpu
            have HPU2 := hid hpu
            clear hpu hq
            go_wp2_with fail
            refine wp_region_held_drew (S := (fun w' => w'.cell? ⟨w.heap.size, 0, none⟩ = some (.slice A h.objs.length c) ∧ w'.cell? ⟨w.heap.size, 1, none⟩ = some (.int .i64 h.cap) ∧ w'.cell? ⟨w.heap.size, 2, none⟩ = some (.int .i64 h.last) ∧ w'.cell? ⟨bs, os + k, none⟩ = some (.int .i64 v) ∧ Below w.heap.size w w')) (by kernel_rfl) ?_ (fun hHeld => ?_)
            · exact ⟨y0, y1, y2, rc2, HW2.out.drew⟩
            refine wpAnyH_take (i := 0) (oi := { dst := some 31, op := Go.Op.load 24 (Go.Operand.tmp 2), type := 24, pos := "ref.go:37", after := #[], guard := none }) (v := ?vv19) rfl (by kernel_rfl) (by kernel_rfl) (by kernel_rfl) (fun _ _ _ h => h) (Or.inl ⟨by rfl, ?hy19⟩) (by assumption) ?rr19
            case hy19 => intro w hSw; (try dsimp only at hSw); go_simp; all_goals with_reducible rfl
            try simp only [Act.put, List.setIfInBounds_toArray, List.set_cons_zero, List.set_cons_succ]
            refine wpAnyH_take (i := 1) (oi := { dst := some 32, op := Go.Op.move (Go.Operand.tmp 1), type := 34, pos := "ref.go:37", after := #[], guard := none }) (v := ?vv20) rfl (by kernel_rfl) (by kernel_rfl) (by kernel_rfl) (fun _ _ _ h => h) (Or.inl ⟨by rfl, ?hy20⟩) (by assumption) ?rr20
            case hy20 => intro w hSw; (try dsimp only at hSw); go_simp; all_goals with_reducible rfl
            try simp only [Act.put, List.setIfInBounds_toArray, List.set_cons_zero, List.set_cons_succ]
            refine wpAnyH_take (i := 2) (oi := { dst := some 33, op := Go.Op.move (Go.Operand.tmp 7), type := 3, pos := "ref.go:37", after := #[], guard := none }) (v := ?vv21) rfl (by kernel_rfl) (by kernel_rfl) (by kernel_rfl) (fun _ _ _ h => h) (Or.inl ⟨by rfl, ?hy21⟩) (by assumption) ?rr21
            case hy21 => intro w hSw; (try dsimp only at hSw); go_simp; all_goals with_reducible rfl
            try simp only [Act.put, List.setIfInBounds_toArray, List.set_cons_zero, List.set_cons_succ]
            refine wpAnyH_take (i := 3) (oi := { dst := some 34, op := Go.Op.indexAddr 34 (Go.Operand.tmp 32) (Go.Operand.tmp 33), type := 0, pos := "ref.go:37", after := #[{ on := 1, ground := Go.Ground.data }, { on := 2, ground := Go.Ground.data }], guard := none }) (v := ?vv22) rfl (by kernel_rfl) (by kernel_rfl) (by kernel_rfl) (fun _ _ _ h => h) (Or.inl ⟨by rfl, ?hy22⟩) (by assumption) ?rr22
            case hy22 => intro w hSw; (try dsimp only at hSw); go_simp; all_goals with_reducible rfl
            try simp only [Act.put, List.setIfInBounds_toArray, List.set_cons_zero, List.set_cons_succ]
            refine wpAnyH_take (i := 4) (oi := { dst := some 35, op := Go.Op.load 3 (Go.Operand.tmp 34), type := 3, pos := "ref.go:37", after := #[{ on := 3, ground := Go.Ground.data }], guard := none }) (v := ?vv23) rfl (by kernel_rfl) (by kernel_rfl) (by kernel_rfl) (fun _ _ _ h => h) (Or.inl ⟨by rfl, ?hy23⟩) (by assumption) ?rr23
            case hy23 => intro w hSw; (try dsimp only at hSw); go_simp; all_goals with_reducible rfl
            try simp only [Act.put, List.setIfInBounds_toArray, List.set_cons_zero, List.set_cons_succ]
            refine wpAnyH_ready (rs := [5]) (by kernel_rfl) (by simp) ?_
            refine AllReadyH.cons (i := 5) (o := { dst := some 36, op := Go.Op.call { callee := Go.Callee.value (Go.Operand.func 32), args := #[Go.Operand.tmp 31, Go.Operand.tmp 35], argTypes := #[24, 3] }, type := 3, pos := "ref.go:37", after := #[{ on := 0, ground := Go.Ground.data }, { on := 4, ground := Go.Ground.data }], guard := none }) rfl (fun K hK => ?_) AllReadyH.nil
            go_simp
            go_at_call 32
            refine (rref_any h v A c _).mono ?_
            rintro e w' ⟨rfl, hb⟩
            rw [rv]
            have HBr := hid hb
            refine hK.out _ _ ?_ (fun hHeld => ?_)
            · exact ⟨cell_later hb y0, cell_later hb y1, cell_later hb y2, cell_later hb rc2, below_up HW2.out.drew hb⟩
            clear hK K
            try simp only [Act.put, List.setIfInBounds_toArray, List.set_cons_zero, List.set_cons_succ]
            have hH1 := hHeld
            clear hHeld hb
            have hHeld := hH1
            refine wpAnyH_take (i := 6) (oi := { dst := some 37, op := Go.Op.binOp Go.BinOp.geq 3 (Go.Operand.tmp 36) (Go.Operand.const (Go.Value.int Go.IntKind.i64 0)) 3, type := 4, pos := "ref.go:37", after := #[{ on := 5, ground := Go.Ground.data }], guard := none }) (v := ?vv24) rfl (by kernel_rfl) (by kernel_rfl) (by kernel_rfl) (fun _ _ _ h => h) (Or.inl ⟨by rfl, ?hy24⟩) (by assumption) ?rr24
            case hy24 => intro w hSw; (try dsimp only at hSw); go_simp; all_goals with_reducible rfl
            try simp only [Act.put, List.setIfInBounds_toArray, List.set_cons_zero, List.set_cons_succ]
            refine wpAnyH_done (by kernel_rfl) ?_ _
            have hHeldB := hHeld.2.2.2.2
            clear hHeld hH1
            obtain ⟨z0, z1, z2, rc3⟩ : w'.cell? ⟨w.heap.size, 0, none⟩ = some (.slice A h.objs.length c) ∧ w'.cell? ⟨w.heap.size, 1, none⟩ = some (.int .i64 h.cap) ∧ w'.cell? ⟨w.heap.size, 2, none⟩ = some (.int .i64 h.last) ∧ w'.cell? ⟨bs, os + k, none⟩ = some (.int .i64 v) := ⟨cell_later HBr.out y0, cell_later HBr.out y1, cell_later HBr.out y2, cell_later HBr.out rc2⟩
            have HX3 := hid (HX2.out.later (below_up (Below.refl _ w2).drew HBr.out))
            have HO3 := hid (own_later HO2.out.drew HBr.out)
            have HW3 := hid hHeldB
            clear y0 y1 y2 rc2 hHeldB HX2 HO2 HW2 HBr
            rename World => w3
            have hon : out.length = h.objs.length := HRT.out.len
            have hgl := (HO3.out.lt _ rfl).2
            have gq0 := HO3.out.cellAt q (by omega)
            rw [List.getElem?_map, List.getElem?_eq_getElem (by omega)] at gq0
            simp only [Option.map_some] at gq0
            have fq0 := HO3.out.frozenAt q
            have ne0 : w.heap.size ≠ w1.heap.size := by omega
            have ne1 : bs ≠ w1.heap.size := by omega
            go_wp2_with fail
            refine wp_region_held_drew (S := (fun w' => w'.cell? ⟨w.heap.size, 0, none⟩ = some (.slice A h.objs.length c) ∧ w'.cell? ⟨w.heap.size, 1, none⟩ = some (.int .i64 h.cap) ∧ w'.cell? ⟨w.heap.size, 2, none⟩ = some (.int .i64 h.last) ∧ w'.cell? ⟨bs, os + k, none⟩ = some (.int .i64 v) ∧ Below w.heap.size w w')) (by kernel_rfl) ?_ (fun hHeld => ?_)
            · exact ⟨z0, z1, z2, rc3, HW3.out.drew⟩
            refine wpAnyH_take (i := 0) (oi := { dst := some 38, op := Go.Op.move (Go.Operand.tmp 6), type := 55, pos := "ref.go:38", after := #[], guard := none }) (v := ?vv25) rfl (by kernel_rfl) (by kernel_rfl) (by kernel_rfl) (fun _ _ _ h => h) (Or.inl ⟨by rfl, ?hy25⟩) (by assumption) ?rr25
            case hy25 => intro w hSw; (try dsimp only at hSw); go_simp; all_goals with_reducible rfl
            try simp only [Act.put, List.setIfInBounds_toArray, List.set_cons_zero, List.set_cons_succ]
            refine wpAnyH_take (i := 1) (oi := { dst := some 39, op := Go.Op.load 24 (Go.Operand.tmp 2), type := 24, pos := "ref.go:38", after := #[], guard := none }) (v := ?vv26) rfl (by kernel_rfl) (by kernel_rfl) (by kernel_rfl) (fun _ _ _ h => h) (Or.inl ⟨by rfl, ?hy26⟩) (by assumption) ?rr26
            case hy26 => intro w hSw; (try dsimp only at hSw); go_simp; all_goals with_reducible rfl
            try simp only [Act.put, List.setIfInBounds_toArray, List.set_cons_zero, List.set_cons_succ]
            refine wpAnyH_take (i := 2) (oi := { dst := some 40, op := Go.Op.move (Go.Operand.tmp 1), type := 34, pos := "ref.go:38", after := #[], guard := none }) (v := ?vv27) rfl (by kernel_rfl) (by kernel_rfl) (by kernel_rfl) (fun _ _ _ h => h) (Or.inl ⟨by rfl, ?hy27⟩) (by assumption) ?rr27
            case hy27 => intro w hSw; (try dsimp only at hSw); go_simp; all_goals with_reducible rfl
            try simp only [Act.put, List.setIfInBounds_toArray, List.set_cons_zero, List.set_cons_succ]
            refine wpAnyH_take (i := 3) (oi := { dst := some 41, op := Go.Op.move (Go.Operand.tmp 7), type := 3, pos := "ref.go:38", after := #[], guard := none }) (v := ?vv28) rfl (by kernel_rfl) (by kernel_rfl) (by kernel_rfl) (fun _ _ _ h => h) (Or.inl ⟨by rfl, ?hy28⟩) (by assumption) ?rr28
            case hy28 => intro w hSw; (try dsimp only at hSw); go_simp; all_goals with_reducible rfl
            try simp only [Act.put, List.setIfInBounds_toArray, List.set_cons_zero, List.set_cons_succ]
            refine wpAnyH_take (i := 4) (oi := { dst := some 42, op := Go.Op.indexAddr 34 (Go.Operand.tmp 40) (Go.Operand.tmp 41), type := 0, pos := "ref.go:38", after := #[{ on := 2, ground := Go.Ground.data }, { on := 3, ground := Go.Ground.data }], guard := none }) (v := ?vv29) rfl (by kernel_rfl) (by kernel_rfl) (by kernel_rfl) (fun _ _ _ h => h) (Or.inl ⟨by rfl, ?hy29⟩) (by assumption) ?rr29
            case hy29 => intro w hSw; (try dsimp only at hSw); go_simp; all_goals with_reducible rfl
            try simp only [Act.put, List.setIfInBounds_toArray, List.set_cons_zero, List.set_cons_succ]
            refine wpAnyH_take (i := 5) (oi := { dst := some 43, op := Go.Op.load 3 (Go.Operand.tmp 42), type := 3, pos := "ref.go:38", after := #[{ on := 4, ground := Go.Ground.data }], guard := none }) (v := ?vv30) rfl (by kernel_rfl) (by kernel_rfl) (by kernel_rfl) (fun _ _ _ h => h) (Or.inl ⟨by rfl, ?hy30⟩) (by assumption) ?rr30
            case hy30 => intro w hSw; (try dsimp only at hSw); go_simp; all_goals with_reducible rfl
            try simp only [Act.put, List.setIfInBounds_toArray, List.set_cons_zero, List.set_cons_succ]
            refine wpAnyH_ready (rs := [6]) (by kernel_rfl) (by simp) ?_
            refine AllReadyH.cons (i := 6) (o := { dst := some 44, op := Go.Op.call { callee := Go.Callee.value (Go.Operand.func 32), args := #[Go.Operand.tmp 39, Go.Operand.tmp 43], argTypes := #[24, 3] }, type := 3, pos := "ref.go:38", after := #[{ on := 1, ground := Go.Ground.data }, { on := 5, ground := Go.Ground.data }], guard := none }) rfl (fun K hK => ?_) AllReadyH.nil
            go_simp
            go_at_call 32
            refine (rref_any h v A c _).mono ?_
            rintro e w' ⟨rfl, hb⟩
            rw [rv]
            have HBr := hid hb
            have gq := cell_later hb gq0
            have fq := frozen_later hb hgl fq0
            have HOr := hid (own_later HO3.out.drew hb)
            refine hK.out _ _ ?_ (fun hHeld => ?_)
            · exact ⟨cell_later hb z0, cell_later hb z1, cell_later hb z2, cell_later hb rc3, below_up HW3.out.drew hb⟩
            clear hK K
            try simp only [Act.put, List.setIfInBounds_toArray, List.set_cons_zero, List.set_cons_succ]
            have hH1 := hHeld
            clear hHeld hb
            have hHeld := hH1
            refine wpAnyH_take (i := 7) (oi := { dst := some 45, op := Go.Op.indexAddr 55 (Go.Operand.tmp 38) (Go.Operand.tmp 44), type := 0, pos := "ref.go:38", after := #[{ on := 0, ground := Go.Ground.data }, { on := 6, ground := Go.Ground.data }, { on := 0, ground := Go.Ground.phase }, { on := 1, ground := Go.Ground.phase }, { on := 2, ground := Go.Ground.phase }, { on := 3, ground := Go.Ground.phase }, { on := 4, ground := Go.Ground.phase }, { on := 5, ground := Go.Ground.phase }, { on := 6, ground := Go.Ground.phase }], guard := none }) (v := ?vv31) rfl (by kernel_rfl) (by kernel_rfl) (by kernel_rfl) (fun _ _ _ h => h) (Or.inl ⟨by rfl, ?hy31⟩) (by assumption) ?rr31
            case hy31 => intro w hSw; (try dsimp only at hSw); go_simp; all_goals with_reducible rfl
            try simp only [Act.put, List.setIfInBounds_toArray, List.set_cons_zero, List.set_cons_succ]
            refine wpAnyH_ready (rs := [8]) (by kernel_rfl) (by simp) ?_
            refine AllReadyH.cons (i := 8) (o := { dst := none, op := Go.Op.store 4 (Go.Operand.tmp 45) (Go.Operand.const (Go.Value.bool true)), type := 0, pos := "ref.go:38", after := #[{ on := 7, ground := Go.Ground.data }, { on := 6, ground := Go.Ground.chain }, { on := 0, ground := Go.Ground.phase }, { on := 1, ground := Go.Ground.phase }, { on := 2, ground := Go.Ground.phase }, { on := 3, ground := Go.Ground.phase }, { on := 4, ground := Go.Ground.phase }, { on := 5, ground := Go.Ground.phase }, { on := 6, ground := Go.Ground.phase }], guard := none }) rfl (fun K hK => ?_) AllReadyH.nil
            go_simp
            refine hK.out _ _ ?_ (fun hHeld => ?_)
            · exact ⟨far_cell ne0 hH1.1, far_cell ne0 hH1.2.1, far_cell ne0 hH1.2.2.1, far_cell ne1 hH1.2.2.2.1, hH1.2.2.2.2.setCell (p := ⟨w1.heap.size, q, none⟩) (by simp; omega) _⟩
            clear hK K
            try simp only [Act.put, List.setIfInBounds_toArray, List.set_cons_zero, List.set_cons_succ]
            have hH2 := hHeld
            clear hHeld
            have hHeld := hH2
            refine wpAnyH_done (by kernel_rfl) ?_ _
            have hHeldB := hHeld.2.2.2.2
            have hOw := own_set (q := q) HOr.out
            have HOw := hid hOw
            have HXw : Hid (Lies (w'.setCell ⟨w1.heap.size, q, none⟩ (.bool true)) w.heap.size 24 #[Value.slice A h.objs.length c, Value.int .i64 h.cap, Value.int .i64 h.last]) := (HX3.out.later (below_up (Below.refl _ w3).drew HBr.out)).far (by exact ne0) _
            have HBw := hid hHeldB
            clear hOw hHeldB
            go_wp2_with fail
            go_roundw
            case rel => exact ⟨k + 1, _, by omega, by go_num, HOw.out, HPU2.out, HTT.out, by simpa using HXw.out, HBw.out⟩
            case measure => simp [intOf]; omega
      · obtain rfl : k = rs.length := by omega
        have hall := HAK.out
        rw [List.take_length] at hall
        have e1 : liE h rs = 0 := by unfold liE; rw [if_pos HM.out, if_pos hall]
        have e2 : liL h rs = picked (nearN h h.objs.length (marks0 h rs)) := by unfold liL; rw [if_pos e1, live_marks]
        have E1 := hid e1
        have E2 := hid e2
        have hd := HRT.out.done
        subst hd
        have hm0 : (marks0 h rs).length = h.objs.length := by simp [marks0]
        clear e1 e2 hall x1 x2
        go_wp2_with fail
        go_loopw [8, 6] (fun i s wr => ∃ (k : Nat) (A1 : Option Addr) (c1 : Nat), k ≤ h.objs.length ∧ i = .int .i64 k ∧ s = .slice A1 h.objs.length c1 ∧ wr.ownsRow (w.heap.size + 1) 4 1 (.slice A1 h.objs.length c1) h.objs.length ((nearN h k (marks0 h rs)).map Value.bool) ∧ Lies wr w.heap.size 24 #[Value.slice A h.objs.length c, Value.int .i64 h.cap, Value.int .i64 h.last] ∧ Below w.heap.size w wr) (fun i _ _ => h.objs.length - (intOf i).toNat)
        case atStart => exact ⟨0, _, _, Nat.zero_le _, rfl, rfl, HO.out, HX.out, HW.out⟩
        case round =>
          clear x0 HO HX HW
          obtain ⟨k, A1, c1, hk, rfl, rfl, hown, hbox, hbw⟩ := hrel
          rename World => wi
          have HW := hid hbw
          have HX := hid hbox
          have HO := hid hown
          have x0 := hbox.cell 0
          have x1 := hbox.cell 1
          have x2 := hbox.cell 2
          simp only [List.getElem?_toArray, List.getElem?_cons_zero, List.getElem?_cons_succ] at x0 x1 x2
          have hnl := nearN_length h k _ hm0
          clear hown hbox hbw
          by_cases hlt : k < h.objs.length
          · go_wp2_with fail
            refine (near_any h (nearN h k (marks0 h rs)) A A1 c c1 wi (HS.out.below HW.out) HM.out hnl (own_bools (base := w.heap.size + 1) (by rw [hnl]; exact HO.out)) (own_nil HO.out)).mono ?_
            rintro e w2 ⟨A2, c2, rfl, hown, hb⟩
            rw [← nearN_succ] at hown
            have HO2 := hid (own_lower hown HX.out.lt)
            have HX2 := hid (HX.out.later hb)
            have HW2 := hid (below_up HW.out hb)
            clear hown hb x0 x1 x2
            go_wp2_with fail
            go_roundw
            case rel => exact ⟨k + 1, A2, c2, by omega, by go_num, rfl, HO2.out, HX2.out, HW2.out⟩
            case measure => simp [intOf]; omega
          · obtain rfl : k = h.objs.length := by omega
            have LB := hid (own_bools (base := w.heap.size + 1) (m := nearN h h.objs.length (marks0 h rs)) (S := A1) (c := c1) (by rw [hnl]; exact HO.out))
            obtain ⟨m, hmm⟩ : ∃ m, m = nearN h h.objs.length (marks0 h rs) := ⟨_, rfl⟩
            rw [← hmm] at LB hnl
            have HMM := hid hmm
            have EE := hid (own_empty wi)
            have EB := hid (below_alloc wi (.cells #[] 3))
            clear x1 x2 hmm HO
            go_wp2_with fail
            go_loopw [10, 9] (fun i s wr => ∃ (k : Nat) (A3 : Option Addr) (c3 : Nat), k ≤ h.objs.length ∧ i = .int .i64 k ∧ s = .slice A3 (pickedN m k).length c3 ∧ wr.ownsRow wi.heap.size 3 1 (.slice A3 (pickedN m k).length c3) (pickedN m k).length ((pickedN m k).map (Value.int .i64)) ∧ Below wi.heap.size wi wr) (fun i _ _ => h.objs.length - (intOf i).toNat)
            case atStart => exact ⟨0, _, _, Nat.zero_le _, rfl, rfl, EE.out, EB.out⟩
            case round =>
              clear x0 EE EB
              obtain ⟨k, A3, c3, hk, rfl, rfl, hown, hbw⟩ := hrel
              rename World => wj
              have HWj := hid hbw
              have HO := hid hown
              have hpl := pickedN_len m k
              clear hown hbw
              by_cases hlt : k < h.objs.length
              · obtain ⟨bm, om, rfl, hbm, hcm⟩ := LB.out (by omega)
                have hkm : k < m.length := by omega
                have mc := (HWj.out.cell (p := ⟨bm, om + k, none⟩) hbm).trans (hcm k _ (List.getElem?_eq_getElem hkm))
                have hpt := picked_take m k hkm
                clear hcm
                cases hv : m[k]
                · rw [hv] at mc hpt
                  have hps : pickedN m (k + 1) = pickedN m k := by unfold pickedN; rw [hpt]; simp
                  have HPS := hid hps
                  clear hps hpt
                  go_wp2_with fail
                  go_roundw
                  case rel => exact ⟨k + 1, A3, c3, by omega, by go_num, by rw [HPS.out], by rw [HPS.out]; exact HO.out, HWj.out⟩
                  case measure => simp [intOf]; omega
                · rw [hv] at mc hpt
                  have hps : pickedN m (k + 1) = pickedN m k ++ [(k : Int)] := by unfold pickedN; rw [hpt]; rfl
                  have HPS := hid hps
                  clear hps hpt
                  have HAL := hid (below_alloc wj (.cells #[.int .i64 (k : Int)] 3))
                  have HO2 := hid (own_later HO.out HAL.out)
                  have HN := hid (Lies.new wj 3 #[.int .i64 (k : Int)])
                  have hz := HWj.out.size
                  have hz2 : wi.heap.size ≤ (wj.alloc (.cells #[.int .i64 (k : Int)] 3)).heap.size := by simp; omega
                  go_wp2_with (at_builtin; refine wpList_append_one rfl (.tmp 67) (.tmp 69) rfl wi.heap.size _ _ _ rfl HO2.out _ _ rfl HN.out (by omega) hz2 ?_)
                  intro v' w' h1 h2
                  obtain ⟨A4, c4, rfl⟩ := own_form h1
                  have hps := congrArg List.length HPS.out
                  rw [List.length_append, List.length_singleton] at hps
                  have h1 : w'.ownsRow wi.heap.size 3 1 (.slice A4 (pickedN m (k + 1)).length c4) (pickedN m (k + 1)).length ((pickedN m (k + 1)).map (Value.int .i64)) := by rw [hps, HPS.out, List.map_append]; exact h1
                  have hb2 := HWj.out.trans ((HAL.out.mono hz).grown h2 hz2 (fun q hq => (HO2.out.lt q hq).1))
                  have H1 := hid h1
                  have HB2 := hid hb2
                  have HPL := hid hps
                  clear h1 h2 hb2 hps
                  go_wp2_with fail
                  go_roundw
                  case rel => exact ⟨k + 1, A4, c4, by omega, by go_num, by rw [HPL.out], H1.out, HB2.out⟩
                  case measure => simp [intOf]; omega
              · obtain rfl : k = h.objs.length := by omega
                have hpk : pickedN m h.objs.length = picked m := by unfold pickedN picked; rw [hnl]
                have HPK := hid hpk
                go_wp2_with fail
                go_ret2
                rw [E1.out, E2.out, ← HMM.out, ← HPK.out]
                exact ⟨A3, c3, rfl, own_ints HO.out, own_nil HO.out, own_cap HO.out, below_up HW.out HWj.out⟩
end Go.Proofs.YtnilempeldlieaaGreat
