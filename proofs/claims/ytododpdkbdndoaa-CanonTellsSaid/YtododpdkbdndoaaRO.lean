/- The document's Of walked. -/
import Derived.Test.YtododpdkbdndoaaMT
import Derived.Test.YtododpdkbdndoaaNM
import Derived.Test.YtododpdkbdndoaaR
import Derived.Test.YtododpdkbdndoaaNW
namespace Go.Proofs.Ytododpdkbdndoaa
open Go.RowKit
set_option maxRecDepth 100000
theorem one_old {w : World} {p : Addr} {v : Value} {o1 : Obj} (h : w.cell? p = some v) : (w.alloc o1).drew.cell? p = some v := cell_later (Below.refl _ _).drew (cell_old h)
set_option maxHeartbeats 2000000 in
theorem rof_any (h : Hp) (rs : List Int) (A R : Option Addr) (c d : Nat) (w : World) (hs : ObsR w A h.objs) (fit : h.Fit) (hr : IntsR w R rs) (hl : rs.length ≤ 100000) :
    Calls Try.prog 39 #[.agg #[.slice A h.objs.length c, .int .i64 h.cap, .int .i64 h.last], .slice R rs.length d] w (HeapInts w (cnH h rs) (cnL h rs) (liE h rs)) := by
  have HB0 := hid (below_alloc2 w (.cells #[Value.slice A h.objs.length c, Value.int .i64 h.cap, Value.int .i64 h.last] 24) (.cells #[.slice none 0 0, .int .i64 0, .int .i64 0] 24))
  have X0 := hid ((Lies.new w 24 #[Value.slice A h.objs.length c, Value.int .i64 h.cap, Value.int .i64 h.last]).alloc (.cells #[.slice none 0 0, .int .i64 0, .int .i64 0] 24))
  have K0 : Hid (Lies ((w.alloc (.cells #[Value.slice A h.objs.length c, Value.int .i64 h.cap, Value.int .i64 h.last] 24)).alloc (.cells #[.slice none 0 0, .int .i64 0, .int .i64 0] 24)) (w.heap.size + 1) 24 #[.slice none 0 0, .int .i64 0, .int .i64 0]) := by
    have := Lies.new (w.alloc (.cells #[Value.slice A h.objs.length c, Value.int .i64 h.cap, Value.int .i64 h.last] 24)) 24 #[.slice none 0 0, .int .i64 0, .int .i64 0]
    simpa [Hid] using this
  have HS := hid hs
  have HF := hid fit
  have HR := hid hr
  clear hs fit hr
  cases hm : mayB h
  · have e0 : liE h rs = 1 := by unfold liE; rw [hm]; rfl
    have e1 : cnH h rs = zeroH := cnH_no (by rw [e0]; decide)
    have e2 : cnL h rs = [] := cnL_no (by rw [e0]; decide)
    rw [e1, e2, e0]
    clear e1 e2 e0
    go_enter Try.func39, Try.ntmps39
    go_wp2_with fail
    refine (rmay_any h A c _ (HS.out.below HB0.out) HF.out).mono ?_
    rintro e w1 ⟨rfl, hb1⟩
    rw [hm]
    have BB := hid (HB0.out.trans (hb1.mono HB0.out.size))
    have KK := hid (K0.out.later hb1)
    clear hb1
    have u0 := KK.out.cell 0
    have u1 := KK.out.cell 1
    have u2 := KK.out.cell 2
    have uf0 := KK.out.frozen 0
    have uf1 := KK.out.frozen 1
    have uf2 := KK.out.frozen 2
    simp only [List.getElem?_toArray, List.getElem?_cons_zero, List.getElem?_cons_succ] at u0 u1 u2
    go_wp2_with fail
    have KF := (((KK.out.set_ 0 (.slice none 0 0)).set_ 1 (.int .i64 0)).set_ 2 (.int .i64 0))
    have r0 := KF.cell 0
    have r1 := KF.cell 1
    have r2 := KF.cell 2
    simp only [List.setIfInBounds_toArray, List.set_cons_zero, List.set_cons_succ, List.getElem?_toArray, List.getElem?_cons_zero, List.getElem?_cons_succ] at r0 r1 r2
    refine bodyPost_ret (v := .tuple #[.agg #[.slice none 0 0, .int .i64 0, .int .i64 0], .slice none 0 0, .int .i64 1]) (by simp [results, Try.results39, go_sem, r0, r1, r2]) rfl ?_
    exact ⟨none, 0, none, 0, rfl, ObsR.nil _, fun hn => by simp at hn, (((BB.out.setCell (p := ⟨w.heap.size + 1, 0, none⟩) (by simp) _).setCell (p := ⟨w.heap.size + 1, 1, none⟩) (by simp) _).setCell (p := ⟨w.heap.size + 1, 2, none⟩) (by simp) _)⟩
  · have HM := hid hm
    have hle := may_len hm
    go_enter Try.func39, Try.ntmps39
    go_wp2_with fail
    refine (rmay_any h A c _ (HS.out.below HB0.out) HF.out).mono ?_
    rintro e w1 ⟨rfl, hb1⟩
    rw [hm]
    have HB1 := hid (HB0.out.trans (hb1.mono HB0.out.size))
    have X1 := hid (X0.out.later hb1)
    have K1 := hid (K0.out.later hb1)
    clear hb1 HB0 X0 K0
    go_wp2_with fail
    go_loopw [7] (fun i wr => ∃ k : Nat, k ≤ rs.length ∧ i = .int .i64 k ∧ (rs.take k).all (hasB h.objs.length) = true ∧ Lies wr w.heap.size 24 #[Value.slice A h.objs.length c, Value.int .i64 h.cap, Value.int .i64 h.last] ∧ Lies wr (w.heap.size + 1) 24 #[.slice none 0 0, .int .i64 0, .int .i64 0] ∧ Below w.heap.size w wr) (fun i _ => rs.length - (intOf i).toNat)
    case atStart => exact ⟨0, Nat.zero_le _, rfl, rfl, X1.out, K1.out, HB1.out⟩
    case round =>
      clear X1 K1 HB1
      obtain ⟨k, hk, rfl, hallk, hbox, hres, hbw⟩ := hrel
      rename World => wo
      have HW := hid hbw
      have HX := hid hbox
      have HK := hid hres
      have HAK := hid hallk
      have x0 := hbox.cell 0
      have x1 := hbox.cell 1
      have x2 := hbox.cell 2
      simp only [List.getElem?_toArray, List.getElem?_cons_zero, List.getElem?_cons_succ] at x0 x1 x2
      clear hallk hbox hres hbw
      by_cases hlt : k < rs.length
      · obtain ⟨bs, os, rfl, hbs, hcs⟩ := HR.out (by omega)
        have rc := (HW.out.cell (p := ⟨bs, os + k, none⟩) hbs).trans (hcs k _ (List.getElem?_eq_getElem hlt))
        have htk : (rs.take (k + 1)).all (hasB h.objs.length) = ((rs.take k).all (hasB h.objs.length) && hasB h.objs.length rs[k]) := by
          rw [List.take_succ_eq_append_getElem hlt, List.all_append]; simp
        have hmem := List.getElem_mem hlt
        obtain ⟨v, hv⟩ : ∃ v, v = rs[k] := ⟨_, rfl⟩
        rw [← hv] at rc htk hmem
        have HTK := hid htk
        have HME := hid hmem
        clear hcs hv htk hmem
        cases hhv : hasB h.objs.length v
        · have e0 : liE h rs = 31 := by
            unfold liE
            rw [if_pos HM.out, if_neg]
            intro ha
            have := List.all_eq_true.1 ha v HME.out
            rw [hhv] at this; cases this
          have e1 : cnH h rs = zeroH := cnH_no (by rw [e0]; decide)
          have e2 : cnL h rs = [] := cnL_no (by rw [e0]; decide)
          rw [e1, e2, e0]; clear e1 e2 e0
          go_wp2_with fail
          refine wp_region_held_drew (S := (fun w' => w'.cell? ⟨w.heap.size, 0, none⟩ = some (.slice A h.objs.length c) ∧ w'.cell? ⟨w.heap.size, 1, none⟩ = some (.int .i64 h.cap) ∧ w'.cell? ⟨w.heap.size, 2, none⟩ = some (.int .i64 h.last) ∧ w'.cell? ⟨bs, os + k, none⟩ = some (.int .i64 v) ∧ Below w.heap.size w w')) (by kernel_rfl) ?_ (fun hHeld => ?_)
          · exact ⟨x0, x1, x2, rc, HW.out.drew⟩
          refine wpAnyH_take (i := 0) (oi := { dst := some 24, op := Go.Op.load 24 (Go.Operand.tmp 2), type := 24, pos := "ref.go:53", after := #[], guard := none }) (v := ?vv1) rfl (by kernel_rfl) (by kernel_rfl) (by kernel_rfl) (fun _ _ _ h => h) (Or.inl ⟨by rfl, ?hy1⟩) (by assumption) ?rr1
          case hy1 => intro w hSw; (try dsimp only at hSw); go_simp; all_goals with_reducible rfl
          try simp only [Act.put, List.setIfInBounds_toArray, List.set_cons_zero, List.set_cons_succ]
          refine wpAnyH_take (i := 1) (oi := { dst := some 25, op := Go.Op.move (Go.Operand.tmp 1), type := 44, pos := "ref.go:53", after := #[], guard := none }) (v := ?vv2) rfl (by kernel_rfl) (by kernel_rfl) (by kernel_rfl) (fun _ _ _ h => h) (Or.inl ⟨by rfl, ?hy2⟩) (by assumption) ?rr2
          case hy2 => intro w hSw; (try dsimp only at hSw); go_simp; all_goals with_reducible rfl
          try simp only [Act.put, List.setIfInBounds_toArray, List.set_cons_zero, List.set_cons_succ]
          refine wpAnyH_take (i := 2) (oi := { dst := some 26, op := Go.Op.move (Go.Operand.tmp 7), type := 3, pos := "ref.go:53", after := #[], guard := none }) (v := ?vv3) rfl (by kernel_rfl) (by kernel_rfl) (by kernel_rfl) (fun _ _ _ h => h) (Or.inl ⟨by rfl, ?hy3⟩) (by assumption) ?rr3
          case hy3 => intro w hSw; (try dsimp only at hSw); go_simp; all_goals with_reducible rfl
          try simp only [Act.put, List.setIfInBounds_toArray, List.set_cons_zero, List.set_cons_succ]
          refine wpAnyH_take (i := 3) (oi := { dst := some 27, op := Go.Op.indexAddr 44 (Go.Operand.tmp 25) (Go.Operand.tmp 26), type := 0, pos := "ref.go:53", after := #[{ on := 1, ground := Go.Ground.data }, { on := 2, ground := Go.Ground.data }], guard := none }) (v := ?vv4) rfl (by kernel_rfl) (by kernel_rfl) (by kernel_rfl) (fun _ _ _ h => h) (Or.inl ⟨by rfl, ?hy4⟩) (by assumption) ?rr4
          case hy4 => intro w hSw; (try dsimp only at hSw); go_simp; all_goals with_reducible rfl
          try simp only [Act.put, List.setIfInBounds_toArray, List.set_cons_zero, List.set_cons_succ]
          refine wpAnyH_take (i := 4) (oi := { dst := some 28, op := Go.Op.load 3 (Go.Operand.tmp 27), type := 3, pos := "ref.go:53", after := #[{ on := 3, ground := Go.Ground.data }], guard := none }) (v := ?vv5) rfl (by kernel_rfl) (by kernel_rfl) (by kernel_rfl) (fun _ _ _ h => h) (Or.inl ⟨by rfl, ?hy5⟩) (by assumption) ?rr5
          case hy5 => intro w hSw; (try dsimp only at hSw); go_simp; all_goals with_reducible rfl
          try simp only [Act.put, List.setIfInBounds_toArray, List.set_cons_zero, List.set_cons_succ]
          refine wpAnyH_ready (rs := [5]) (by kernel_rfl) (by simp) ?_
          refine AllReadyH.cons (i := 5) (o := { dst := some 29, op := Go.Op.call { callee := Go.Callee.value (Go.Operand.func 34), args := #[Go.Operand.tmp 24, Go.Operand.tmp 28], argTypes := #[24, 3] }, type := 4, pos := "ref.go:53", after := #[{ on := 0, ground := Go.Ground.data }, { on := 4, ground := Go.Ground.data }], guard := none }) rfl (fun K hK => ?_) AllReadyH.nil
          go_simp
          go_at_call 34
          refine (rhas_any h v A c _).mono ?_
          rintro e w' ⟨rfl, hb⟩
          rw [hhv]
          have HBr := hid hb
          refine hK.out _ _ ?_ (fun hHeld => ?_)
          · exact ⟨cell_later hb x0, cell_later hb x1, cell_later hb x2, cell_later hb rc, then_b HW.out.drew hb⟩
          clear hK K
          try simp only [Act.put, List.setIfInBounds_toArray, List.set_cons_zero, List.set_cons_succ]
          have hH1 := hHeld
          clear hHeld hb
          have hHeld := hH1
          refine wpAnyH_take (i := 6) (oi := { dst := some 30, op := Go.Op.unOp Go.UnOp.not 4 (Go.Operand.tmp 29), type := 4, pos := "ref.go:53", after := #[{ on := 5, ground := Go.Ground.data }], guard := none }) (v := ?vv6) rfl (by kernel_rfl) (by kernel_rfl) (by kernel_rfl) (fun _ _ _ h => h) (Or.inl ⟨by rfl, ?hy6⟩) (by assumption) ?rr6
          case hy6 => intro w hSw; (try dsimp only at hSw); go_simp; all_goals with_reducible rfl
          try simp only [Act.put, List.setIfInBounds_toArray, List.set_cons_zero, List.set_cons_succ]
          refine wpAnyH_done (by kernel_rfl) ?_ _
          have hHeldB := hHeld.2.2.2.2
          have BB := hid hHeldB
          have KK := hid (HK.out.later (then_b (Below.refl _ wo).drew HBr.out))
          clear hHeld hH1 hHeldB HBr x0 x1 x2 rc
          have u0 := KK.out.cell 0
          have u1 := KK.out.cell 1
          have u2 := KK.out.cell 2
          have uf0 := KK.out.frozen 0
          have uf1 := KK.out.frozen 1
          have uf2 := KK.out.frozen 2
          simp only [List.getElem?_toArray, List.getElem?_cons_zero, List.getElem?_cons_succ] at u0 u1 u2
          go_wp2_with fail
          have KF := (((KK.out.set_ 0 (.slice none 0 0)).set_ 1 (.int .i64 0)).set_ 2 (.int .i64 0))
          have r0 := KF.cell 0
          have r1 := KF.cell 1
          have r2 := KF.cell 2
          simp only [List.setIfInBounds_toArray, List.set_cons_zero, List.set_cons_succ, List.getElem?_toArray, List.getElem?_cons_zero, List.getElem?_cons_succ] at r0 r1 r2
          refine bodyPost_ret (v := .tuple #[.agg #[.slice none 0 0, .int .i64 0, .int .i64 0], .slice none 0 0, .int .i64 31]) (by simp [results, Try.results39, go_sem, r0, r1, r2]) rfl ?_
          exact ⟨none, 0, none, 0, rfl, ObsR.nil _, fun hn => by simp at hn, (((BB.out.setCell (p := ⟨w.heap.size + 1, 0, none⟩) (by simp) _).setCell (p := ⟨w.heap.size + 1, 1, none⟩) (by simp) _).setCell (p := ⟨w.heap.size + 1, 2, none⟩) (by simp) _)⟩
        · go_wp2_with fail
          refine wp_region_held_drew (S := (fun w' => w'.cell? ⟨w.heap.size, 0, none⟩ = some (.slice A h.objs.length c) ∧ w'.cell? ⟨w.heap.size, 1, none⟩ = some (.int .i64 h.cap) ∧ w'.cell? ⟨w.heap.size, 2, none⟩ = some (.int .i64 h.last) ∧ w'.cell? ⟨bs, os + k, none⟩ = some (.int .i64 v) ∧ Below w.heap.size w w')) (by kernel_rfl) ?_ (fun hHeld => ?_)
          · exact ⟨x0, x1, x2, rc, HW.out.drew⟩
          refine wpAnyH_take (i := 0) (oi := { dst := some 24, op := Go.Op.load 24 (Go.Operand.tmp 2), type := 24, pos := "ref.go:53", after := #[], guard := none }) (v := ?vv7) rfl (by kernel_rfl) (by kernel_rfl) (by kernel_rfl) (fun _ _ _ h => h) (Or.inl ⟨by rfl, ?hy7⟩) (by assumption) ?rr7
          case hy7 => intro w hSw; (try dsimp only at hSw); go_simp; all_goals with_reducible rfl
          try simp only [Act.put, List.setIfInBounds_toArray, List.set_cons_zero, List.set_cons_succ]
          refine wpAnyH_take (i := 1) (oi := { dst := some 25, op := Go.Op.move (Go.Operand.tmp 1), type := 44, pos := "ref.go:53", after := #[], guard := none }) (v := ?vv8) rfl (by kernel_rfl) (by kernel_rfl) (by kernel_rfl) (fun _ _ _ h => h) (Or.inl ⟨by rfl, ?hy8⟩) (by assumption) ?rr8
          case hy8 => intro w hSw; (try dsimp only at hSw); go_simp; all_goals with_reducible rfl
          try simp only [Act.put, List.setIfInBounds_toArray, List.set_cons_zero, List.set_cons_succ]
          refine wpAnyH_take (i := 2) (oi := { dst := some 26, op := Go.Op.move (Go.Operand.tmp 7), type := 3, pos := "ref.go:53", after := #[], guard := none }) (v := ?vv9) rfl (by kernel_rfl) (by kernel_rfl) (by kernel_rfl) (fun _ _ _ h => h) (Or.inl ⟨by rfl, ?hy9⟩) (by assumption) ?rr9
          case hy9 => intro w hSw; (try dsimp only at hSw); go_simp; all_goals with_reducible rfl
          try simp only [Act.put, List.setIfInBounds_toArray, List.set_cons_zero, List.set_cons_succ]
          refine wpAnyH_take (i := 3) (oi := { dst := some 27, op := Go.Op.indexAddr 44 (Go.Operand.tmp 25) (Go.Operand.tmp 26), type := 0, pos := "ref.go:53", after := #[{ on := 1, ground := Go.Ground.data }, { on := 2, ground := Go.Ground.data }], guard := none }) (v := ?vv10) rfl (by kernel_rfl) (by kernel_rfl) (by kernel_rfl) (fun _ _ _ h => h) (Or.inl ⟨by rfl, ?hy10⟩) (by assumption) ?rr10
          case hy10 => intro w hSw; (try dsimp only at hSw); go_simp; all_goals with_reducible rfl
          try simp only [Act.put, List.setIfInBounds_toArray, List.set_cons_zero, List.set_cons_succ]
          refine wpAnyH_take (i := 4) (oi := { dst := some 28, op := Go.Op.load 3 (Go.Operand.tmp 27), type := 3, pos := "ref.go:53", after := #[{ on := 3, ground := Go.Ground.data }], guard := none }) (v := ?vv11) rfl (by kernel_rfl) (by kernel_rfl) (by kernel_rfl) (fun _ _ _ h => h) (Or.inl ⟨by rfl, ?hy11⟩) (by assumption) ?rr11
          case hy11 => intro w hSw; (try dsimp only at hSw); go_simp; all_goals with_reducible rfl
          try simp only [Act.put, List.setIfInBounds_toArray, List.set_cons_zero, List.set_cons_succ]
          refine wpAnyH_ready (rs := [5]) (by kernel_rfl) (by simp) ?_
          refine AllReadyH.cons (i := 5) (o := { dst := some 29, op := Go.Op.call { callee := Go.Callee.value (Go.Operand.func 34), args := #[Go.Operand.tmp 24, Go.Operand.tmp 28], argTypes := #[24, 3] }, type := 4, pos := "ref.go:53", after := #[{ on := 0, ground := Go.Ground.data }, { on := 4, ground := Go.Ground.data }], guard := none }) rfl (fun K hK => ?_) AllReadyH.nil
          go_simp
          go_at_call 34
          refine (rhas_any h v A c _).mono ?_
          rintro e w' ⟨rfl, hb⟩
          rw [hhv]
          have HBr := hid hb
          refine hK.out _ _ ?_ (fun hHeld => ?_)
          · exact ⟨cell_later hb x0, cell_later hb x1, cell_later hb x2, cell_later hb rc, then_b HW.out.drew hb⟩
          clear hK K
          try simp only [Act.put, List.setIfInBounds_toArray, List.set_cons_zero, List.set_cons_succ]
          have hH1 := hHeld
          clear hHeld hb
          have hHeld := hH1
          refine wpAnyH_take (i := 6) (oi := { dst := some 30, op := Go.Op.unOp Go.UnOp.not 4 (Go.Operand.tmp 29), type := 4, pos := "ref.go:53", after := #[{ on := 5, ground := Go.Ground.data }], guard := none }) (v := ?vv12) rfl (by kernel_rfl) (by kernel_rfl) (by kernel_rfl) (fun _ _ _ h => h) (Or.inl ⟨by rfl, ?hy12⟩) (by assumption) ?rr12
          case hy12 => intro w hSw; (try dsimp only at hSw); go_simp; all_goals with_reducible rfl
          try simp only [Act.put, List.setIfInBounds_toArray, List.set_cons_zero, List.set_cons_succ]
          refine wpAnyH_done (by kernel_rfl) ?_ _
          have hHeldB := hHeld.2.2.2.2
          have HX2 := hid (HX.out.later (then_b (Below.refl _ wo).drew HBr.out))
          have HK2 := hid (HK.out.later (then_b (Below.refl _ wo).drew HBr.out))
          have HW2 := hid hHeldB
          have HTT : Hid ((rs.take (k + 1)).all (hasB h.objs.length) = true) := by show _ = _; rw [HTK.out, HAK.out, hhv]; rfl
          clear hHeld hH1 hHeldB HBr x0 x1 x2 rc
          go_wp2_with fail
          go_roundw
          case rel => exact ⟨k + 1, by omega, by go_num, HTT.out, HX2.out, HK2.out, HW2.out⟩
          case measure => simp [intOf]; omega
      · obtain rfl : k = rs.length := by omega
        have he : liE h rs = 0 := by
          have := HAK.out
          rw [List.take_length] at this
          unfold liE
          rw [if_pos HM.out, if_pos this]
        have HE := hid he
        rw [he]
        clear he HAK
        go_wp2_with fail
        refine (met_any h [] rs A none R c 0 d _ (fun hn => by simp [iL] at hn) (fun _ => rfl) (HR.out.below HW.out) ⟨List.nodup_nil, fun i hi => by simp at hi⟩ hle hl).mono ?_
        rintro e w3 ⟨A3, c3, rfl, hown3, hb3⟩
        have HI3 := hid (own_ints hown3)
        have HN3 := hid (own_nil hown3)
        have HW3 := hid (HW.out.trans (hb3.mono HW.out.size))
        have HX3 := hid (HX.out.later hb3)
        have HK3 := hid (HK.out.later hb3)
        clear hown3 hb3 x0 x1 x2 HW HX HK
        go_wp2_with fail
        go_loopw [9, 8] (fun i l wr => ∃ (k : Nat) (M : List Nat) (A8 : Option Addr) (c8 : Nat), k ≤ M.length ∧ i = .int .i64 k ∧ l = .slice A8 (iL M).length c8 ∧ IntsR wr A8 (iL M) ∧ (A8 = none → c8 = 0) ∧ Goes6 h rs M k ∧ Lies wr w.heap.size 24 #[Value.slice A h.objs.length c, Value.int .i64 h.cap, Value.int .i64 h.last] ∧ Lies wr (w.heap.size + 1) 24 #[.slice none 0 0, .int .i64 0, .int .i64 0] ∧ Below w.heap.size w wr) (fun i _ _ => h.objs.length - (intOf i).toNat)
        case atStart => exact ⟨0, meets h [] rs, A3, c3, Nat.zero_le _, rfl, rfl, HI3.out, HN3.out, Goes6.start h rs, HX3.out, HK3.out, HW3.out⟩
        case round =>
          clear HI3 HN3 HW3 HX3 HK3
          obtain ⟨k, M, A8, c8, hk, rfl, rfl, hi8, hn8, hgo, hbox, hres, hbw⟩ := hrel
          rename World => wo
          have HW := hid hbw
          have HX := hid hbox
          have HK := hid hres
          have HI := hid hi8
          have HN := hid hn8
          have HGO := hid hgo
          have hMl := hgo.met.len
          have ordlt : ∀ i ∈ M, i < h.objs.length := fun i hi => hgo.met.lt hi
          have hml := Nat.le_of_eq (cast_len M)
          have hml2 := Nat.le_of_eq (cast_len M).symm
          have x0 := hbox.cell 0
          have x1 := hbox.cell 1
          have x2 := hbox.cell 2
          simp only [List.getElem?_toArray, List.getElem?_cons_zero, List.getElem?_cons_succ] at x0 x1 x2
          clear hi8 hn8 hgo hbox hres hbw
          by_cases hlt : k < M.length
          · skip
            have hioi := HI.out
            obtain ⟨bl, ol, rfl, hbl, hcl⟩ := hioi (by omega)
            have lc := hcl k (M[k] : Int) (by unfold iL; rw [List.getElem?_map, List.getElem?_eq_getElem hlt]; rfl)
            have hqm := ordlt _ (List.getElem_mem hlt)
            obtain ⟨b, off, rfl, hb, hc⟩ := HS.out (by omega)
            have hoi := List.getElem?_eq_getElem hqm
            obtain ⟨S, ds, hob, hin, -, hsn⟩ := hc _ _ hoi
            have hok := may_all HM.out _ (List.getElem_mem hqm)
            obtain ⟨o, ho⟩ : ∃ o, o = h.objs[M[k]] := ⟨_, rfl⟩
            rw [← ho] at hob hin hok hoi
            have hol := (kind_len (ob_kind hok)).1
            have HGS := hid (HGO.out.step hlt)
            have hed := edges_at hoi
            rw [hed] at HGS
            have HOK := hid HGO.out.met.okay
            obtain ⟨q, hq⟩ : ∃ q, q = M[k] := ⟨_, rfl⟩
            rw [← hq] at lc hob hqm
            obtain ⟨y0, y1, y2, y3, y4, y5⟩ := hob.below hb HW.out
            have HIN := hid (hin.below HW.out)
            clear hc hcl hob hin hok ho hq hoi hed hioi HGO ordlt
            go_wp2_with fail
            refine wp_region_held_drew (S := (fun w' => w'.cell? ⟨b, off + q * 6, none⟩ = some (.int .i64 o.cls) ∧ w'.cell? ⟨b, off + q * 6 + 1, none⟩ = some (.int .i64 o.kind) ∧ w'.cell? ⟨b, off + q * 6 + 2, none⟩ = some (.slice S o.slots.length ds) ∧ w'.cell? ⟨b, off + q * 6 + 3, none⟩ = some (.string o.text) ∧ w'.cell? ⟨b, off + q * 6 + 4, none⟩ = some (.int .i64 o.bits) ∧ w'.cell? ⟨b, off + q * 6 + 5, none⟩ = some (.int .i64 o.hash) ∧ w'.cell? ⟨w.heap.size, 0, none⟩ = some (.slice (some ⟨b, off, none⟩) h.objs.length c) ∧ w'.cell? ⟨bl, ol + k, none⟩ = some (.int .i64 q))) (by kernel_rfl) ?_ (fun hH0 => ?_)
            · exact ⟨y0, y1, y2, y3, y4, y5, x0, lc⟩
            refine wpAnyH_take (i := 0) (oi := { dst := some 41, op := Go.Op.fieldAddr 24 (Go.Operand.tmp 2) 0, type := 0, pos := "ref.go:59", after := #[], guard := none }) (v := ?vv13) rfl (by kernel_rfl) (by kernel_rfl) (by kernel_rfl) (fun _ _ _ h => h) (Or.inl ⟨by rfl, ?hy13⟩) (by assumption) ?rr13
            case hy13 => intro w hSw; (try dsimp only at hSw); go_simp; all_goals with_reducible rfl
            try simp only [Act.put, List.setIfInBounds_toArray, List.set_cons_zero, List.set_cons_succ]
            refine wpAnyH_take (i := 1) (oi := { dst := some 42, op := Go.Op.load 22 (Go.Operand.tmp 41), type := 22, pos := "ref.go:59", after := #[{ on := 0, ground := Go.Ground.data }], guard := none }) (v := ?vv14) rfl (by kernel_rfl) (by kernel_rfl) (by kernel_rfl) (fun _ _ _ h => h) (Or.inl ⟨by rfl, ?hy14⟩) (by assumption) ?rr14
            case hy14 => intro w hSw; (try dsimp only at hSw); go_simp; all_goals with_reducible rfl
            try simp only [Act.put, List.setIfInBounds_toArray, List.set_cons_zero, List.set_cons_succ]
            refine wpAnyH_take (i := 2) (oi := { dst := some 43, op := Go.Op.move (Go.Operand.tmp 8), type := 44, pos := "ref.go:59", after := #[], guard := none }) (v := ?vv15) rfl (by kernel_rfl) (by kernel_rfl) (by kernel_rfl) (fun _ _ _ h => h) (Or.inl ⟨by rfl, ?hy15⟩) (by assumption) ?rr15
            case hy15 => intro w hSw; (try dsimp only at hSw); go_simp; all_goals with_reducible rfl
            try simp only [Act.put, List.setIfInBounds_toArray, List.set_cons_zero, List.set_cons_succ]
            refine wpAnyH_take (i := 3) (oi := { dst := some 44, op := Go.Op.move (Go.Operand.tmp 9), type := 3, pos := "ref.go:59", after := #[], guard := none }) (v := ?vv16) rfl (by kernel_rfl) (by kernel_rfl) (by kernel_rfl) (fun _ _ _ h => h) (Or.inl ⟨by rfl, ?hy16⟩) (by assumption) ?rr16
            case hy16 => intro w hSw; (try dsimp only at hSw); go_simp; all_goals with_reducible rfl
            try simp only [Act.put, List.setIfInBounds_toArray, List.set_cons_zero, List.set_cons_succ]
            refine wpAnyH_take (i := 4) (oi := { dst := some 45, op := Go.Op.indexAddr 44 (Go.Operand.tmp 43) (Go.Operand.tmp 44), type := 0, pos := "ref.go:59", after := #[{ on := 2, ground := Go.Ground.data }, { on := 3, ground := Go.Ground.data }], guard := none }) (v := ?vv17) rfl (by kernel_rfl) (by kernel_rfl) (by kernel_rfl) (fun _ _ _ h => h) (Or.inl ⟨by rfl, ?hy17⟩) (by assumption) ?rr17
            case hy17 => intro w hSw; (try dsimp only at hSw); go_simp; all_goals with_reducible rfl
            try simp only [Act.put, List.setIfInBounds_toArray, List.set_cons_zero, List.set_cons_succ]
            refine wpAnyH_take (i := 5) (oi := { dst := some 46, op := Go.Op.load 3 (Go.Operand.tmp 45), type := 3, pos := "ref.go:59", after := #[{ on := 4, ground := Go.Ground.data }], guard := none }) (v := ?vv18) rfl (by kernel_rfl) (by kernel_rfl) (by kernel_rfl) (fun _ _ _ h => h) (Or.inl ⟨by rfl, ?hy18⟩) (by assumption) ?rr18
            case hy18 => intro w hSw; (try dsimp only at hSw); go_simp; all_goals with_reducible rfl
            try simp only [Act.put, List.setIfInBounds_toArray, List.set_cons_zero, List.set_cons_succ]
            refine wpAnyH_take (i := 6) (oi := { dst := some 47, op := Go.Op.indexAddr 22 (Go.Operand.tmp 42) (Go.Operand.tmp 46), type := 0, pos := "ref.go:59", after := #[{ on := 1, ground := Go.Ground.data }, { on := 5, ground := Go.Ground.data }], guard := none }) (v := ?vv19) rfl (by kernel_rfl) (by kernel_rfl) (by kernel_rfl) (fun _ _ _ h => h) (Or.inl ⟨by rfl, ?hy19⟩) (by assumption) ?rr19
            case hy19 => intro w hSw; (try dsimp only at hSw); go_simp; all_goals with_reducible rfl
            try simp only [Act.put, List.setIfInBounds_toArray, List.set_cons_zero, List.set_cons_succ]
            refine wpAnyH_take (i := 7) (oi := { dst := some 48, op := Go.Op.load 46 (Go.Operand.tmp 47), type := 46, pos := "ref.go:59", after := #[{ on := 6, ground := Go.Ground.data }], guard := none }) (v := ?vv20) rfl (by kernel_rfl) (by kernel_rfl) (by kernel_rfl) (fun _ _ _ h => h) (Or.inl ⟨by rfl, ?hy20⟩) (by assumption) ?rr20
            case hy20 => intro w hSw; (try dsimp only at hSw); go_simp; all_goals with_reducible rfl
            try simp only [Act.put, List.setIfInBounds_toArray, List.set_cons_zero, List.set_cons_succ]
            refine wpAnyH_ready (rs := [8]) (by kernel_rfl) (by simp) ?_
            refine AllReadyH.cons (i := 8) (o := { dst := some 10, op := Go.Op.alloc 46, type := 0, pos := "ref.go:59", after := #[], guard := none }) rfl (fun K hK => ?_) AllReadyH.nil
            go_simp
            refine hK.out _ _ ?_ (fun hH1 => ?_)
            · exact ⟨cell_old hH0.1, cell_old hH0.2.1, cell_old hH0.2.2.1, cell_old hH0.2.2.2.1, cell_old hH0.2.2.2.2.1, cell_old hH0.2.2.2.2.2.1, cell_old hH0.2.2.2.2.2.2.1, cell_old hH0.2.2.2.2.2.2.2⟩
            clear hK K
            try simp only [Act.put, List.setIfInBounds_toArray, List.set_cons_zero, List.set_cons_succ]
            refine wpAnyH_ready (rs := [9]) (by kernel_rfl) (by simp) ?_
            refine AllReadyH.cons (i := 9) (o := { dst := none, op := Go.Op.store 46 (Go.Operand.tmp 10) (Go.Operand.tmp 48), type := 0, pos := "ref.go:59", after := #[{ on := 8, ground := Go.Ground.data }, { on := 7, ground := Go.Ground.data }, { on := 0, ground := Go.Ground.phase }, { on := 1, ground := Go.Ground.phase }, { on := 2, ground := Go.Ground.phase }, { on := 3, ground := Go.Ground.phase }, { on := 4, ground := Go.Ground.phase }, { on := 5, ground := Go.Ground.phase }, { on := 6, ground := Go.Ground.phase }, { on := 7, ground := Go.Ground.phase }, { on := 8, ground := Go.Ground.phase }], guard := none }) rfl (fun K hK => ?_) AllReadyH.nil
            go_simp
            refine hK.out _ _ ?_ (fun hH2 => ?_)
            · exact ⟨one_old y0, one_old y1, one_old y2, one_old y3, one_old y4, one_old y5, one_old x0, one_old lc⟩
            clear hK K
            try simp only [Act.put, List.setIfInBounds_toArray, List.set_cons_zero, List.set_cons_succ]
            refine wpAnyH_done (by kernel_rfl) ?_ _
            obtain ⟨W, hW⟩ : ∃ W, W = (wo.alloc (.cells #[.int .i64 o.cls, .int .i64 o.kind, .slice S o.slots.length ds, .string o.text, .int .i64 o.bits, .int .i64 o.hash] 46)).drew := ⟨_, rfl⟩
            have hBW : Below wo.heap.size wo W := by rw [hW]; exact (below_alloc wo _).drew
            have hLO : Lies W wo.heap.size 46 #[.int .i64 o.cls, .int .i64 o.kind, .slice S o.slots.length ds, .string o.text, .int .i64 o.bits, .int .i64 o.hash] := by rw [hW]; exact (Lies.new wo 46 _).drew
            have hzW : W.heap.size = wo.heap.size + 1 := by rw [hW]; exact Array.size_push ..
            rw [← hW]
            have HBW := hid hBW
            have HLO := hid hLO
            have hzW2 := Nat.le_of_eq hzW
            have hzW3 := Nat.le_of_eq hzW.symm
            clear hW hBW hLO hzW
            have HXW := hid (HX.out.later HBW.out)
            have HKW := hid (HK.out.later HBW.out)
            have HWW := hid (HW.out.trans (HBW.out.mono HW.out.size))
            have HIW := hid (HI.out.below HBW.out)
            have HINW := hid (HIN.out.below HBW.out)
            clear x0 x1 x2 lc y0 y1 y2 y3 y4 y5
            have x0 := HXW.out.cell 0
            have x1 := HXW.out.cell 1
            have x2 := HXW.out.cell 2
            simp only [List.getElem?_toArray, List.getElem?_cons_zero, List.getElem?_cons_succ] at x0 x1 x2
            have e0 := HLO.out.cell 0
            have e2 := HLO.out.cell 2
            simp only [List.getElem?_toArray, List.getElem?_cons_zero, List.getElem?_cons_succ] at e0 e2
            go_wp2_with fail
            refine wp_region_held_drew (S := (fun w' => w'.cell? ⟨w.heap.size, 0, none⟩ = some (.slice (some ⟨b, off, none⟩) h.objs.length c) ∧ w'.cell? ⟨w.heap.size, 1, none⟩ = some (.int .i64 h.cap) ∧ w'.cell? ⟨w.heap.size, 2, none⟩ = some (.int .i64 h.last) ∧ w'.cell? ⟨wo.heap.size, 0, none⟩ = some (.int .i64 o.cls) ∧ w'.cell? ⟨wo.heap.size, 2, none⟩ = some (.slice S o.slots.length ds) ∧ Below W.heap.size W w')) (by kernel_rfl) ?_ (fun hHeld => ?_)
            · exact ⟨x0, x1, x2, e0, e2, (Below.refl _ _).drew⟩
            refine wpAnyH_take (i := 0) (oi := { dst := some 49, op := Go.Op.load 24 (Go.Operand.tmp 2), type := 24, pos := "ref.go:60", after := #[], guard := none }) (v := ?vv29) rfl (by kernel_rfl) (by kernel_rfl) (by kernel_rfl) (fun _ _ _ h => h) (Or.inl ⟨by rfl, ?hy29⟩) (by assumption) ?rr29
            case hy29 => intro w hSw; (try dsimp only at hSw); go_simp; all_goals with_reducible rfl
            try simp only [Act.put, List.setIfInBounds_toArray, List.set_cons_zero, List.set_cons_succ]
            refine wpAnyH_take (i := 1) (oi := { dst := some 50, op := Go.Op.load 24 (Go.Operand.tmp 2), type := 24, pos := "ref.go:60", after := #[], guard := none }) (v := ?vv30) rfl (by kernel_rfl) (by kernel_rfl) (by kernel_rfl) (fun _ _ _ h => h) (Or.inl ⟨by rfl, ?hy30⟩) (by assumption) ?rr30
            case hy30 => intro w hSw; (try dsimp only at hSw); go_simp; all_goals with_reducible rfl
            try simp only [Act.put, List.setIfInBounds_toArray, List.set_cons_zero, List.set_cons_succ]
            refine wpAnyH_take (i := 2) (oi := { dst := some 51, op := Go.Op.move (Go.Operand.tmp 8), type := 44, pos := "ref.go:60", after := #[], guard := none }) (v := ?vv31) rfl (by kernel_rfl) (by kernel_rfl) (by kernel_rfl) (fun _ _ _ h => h) (Or.inl ⟨by rfl, ?hy31⟩) (by assumption) ?rr31
            case hy31 => intro w hSw; (try dsimp only at hSw); go_simp; all_goals with_reducible rfl
            try simp only [Act.put, List.setIfInBounds_toArray, List.set_cons_zero, List.set_cons_succ]
            refine wpAnyH_take (i := 3) (oi := { dst := some 52, op := Go.Op.fieldAddr 46 (Go.Operand.tmp 10) 0, type := 0, pos := "ref.go:60", after := #[], guard := none }) (v := ?vv32) rfl (by kernel_rfl) (by kernel_rfl) (by kernel_rfl) (fun _ _ _ h => h) (Or.inl ⟨by rfl, ?hy32⟩) (by assumption) ?rr32
            case hy32 => intro w hSw; (try dsimp only at hSw); go_simp; all_goals with_reducible rfl
            try simp only [Act.put, List.setIfInBounds_toArray, List.set_cons_zero, List.set_cons_succ]
            refine wpAnyH_take (i := 4) (oi := { dst := some 53, op := Go.Op.load 3 (Go.Operand.tmp 52), type := 3, pos := "ref.go:60", after := #[{ on := 3, ground := Go.Ground.data }], guard := none }) (v := ?vv33) rfl (by kernel_rfl) (by kernel_rfl) (by kernel_rfl) (fun _ _ _ h => h) (Or.inl ⟨by rfl, ?hy33⟩) (by assumption) ?rr33
            case hy33 => intro w hSw; (try dsimp only at hSw); go_simp; all_goals with_reducible rfl
            try simp only [Act.put, List.setIfInBounds_toArray, List.set_cons_zero, List.set_cons_succ]
            refine wpAnyH_take (i := 7) (oi := { dst := some 56, op := Go.Op.fieldAddr 46 (Go.Operand.tmp 10) 2, type := 0, pos := "ref.go:60", after := #[], guard := none }) (v := ?vv34) rfl (by kernel_rfl) (by kernel_rfl) (by kernel_rfl) (fun _ _ _ h => h) (Or.inl ⟨by rfl, ?hy34⟩) (by assumption) ?rr34
            case hy34 => intro w hSw; (try dsimp only at hSw); go_simp; all_goals with_reducible rfl
            try simp only [Act.put, List.setIfInBounds_toArray, List.set_cons_zero, List.set_cons_succ]
            refine wpAnyH_take (i := 8) (oi := { dst := some 57, op := Go.Op.load 44 (Go.Operand.tmp 56), type := 44, pos := "ref.go:60", after := #[{ on := 7, ground := Go.Ground.data }], guard := none }) (v := ?vv35) rfl (by kernel_rfl) (by kernel_rfl) (by kernel_rfl) (fun _ _ _ h => h) (Or.inl ⟨by rfl, ?hy35⟩) (by assumption) ?rr35
            case hy35 => intro w hSw; (try dsimp only at hSw); go_simp; all_goals with_reducible rfl
            try simp only [Act.put, List.setIfInBounds_toArray, List.set_cons_zero, List.set_cons_succ]
            refine wpAnyH_ready (rs := [5]) (by kernel_rfl) (by simp) ?_
            refine AllReadyH.cons (i := 5) (o := { dst := some 54, op := Go.Op.buildSlice 44 1 #[(0, Go.Operand.tmp 53)], type := 44, pos := "ref.go:60", after := #[{ on := 4, ground := Go.Ground.data }], guard := none }) rfl (fun K hK => ?_) AllReadyH.nil
            go_simp
            refine hK.out _ _ ?_ (fun hHeld => ?_)
            · exact ⟨cell_old x0, cell_old x1, cell_old x2, cell_old e0, cell_old e2, then_b (Below.refl _ _).drew (below_alloc _ _)⟩
            clear hK K
            try simp only [Act.put, List.setIfInBounds_toArray, List.set_cons_zero, List.set_cons_succ]
            have hH1 := hHeld
            clear hHeld
            have hHeld := hH1
            refine wpAnyH_ready (rs := [6]) (by kernel_rfl) (by simp) ?_
            refine AllReadyH.cons (i := 6) (o := { dst := some 55, op := Go.Op.call { callee := Go.Callee.value (Go.Operand.func 71), args := #[Go.Operand.tmp 50, Go.Operand.tmp 51, Go.Operand.tmp 54], argTypes := #[24, 44, 44] }, type := 44, pos := "ref.go:60", after := #[{ on := 1, ground := Go.Ground.data }, { on := 2, ground := Go.Ground.data }, { on := 5, ground := Go.Ground.data }], guard := none }) rfl (fun K hK => ?_) AllReadyH.nil
            go_simp
            go_at_call 71
            refine (met_any h M [o.cls] (some ⟨b, off, none⟩) (some ⟨bl, ol, none⟩) (some ⟨W.heap.size, 0, none⟩) c c8 1 _ (HIW.out.below ((hH1.2.2.2.2.2))) HN.out (at_one _ _) HOK.out hle (by simp)).mono ?_
            rintro e w' ⟨Aa, ca, rfl, howna, hb⟩
            have HOA := hid howna
            clear howna
            refine hK.out _ _ ?_ (fun hHeld => ?_)
            · exact ⟨cell_later hb hH1.1, cell_later hb hH1.2.1, cell_later hb hH1.2.2.1, cell_later hb hH1.2.2.2.1, cell_later hb hH1.2.2.2.2.1, hH1.2.2.2.2.2.trans (hb.mono hH1.2.2.2.2.2.size)⟩
            clear hK K
            try simp only [Act.put, List.setIfInBounds_toArray, List.set_cons_zero, List.set_cons_succ]
            have hH2 := hHeld
            clear hHeld hb
            have hHeld := hH2
            refine wpAnyH_ready (rs := [9]) (by kernel_rfl) (by simp) ?_
            refine AllReadyH.cons (i := 9) (o := { dst := some 58, op := Go.Op.call { callee := Go.Callee.value (Go.Operand.func 71), args := #[Go.Operand.tmp 49, Go.Operand.tmp 55, Go.Operand.tmp 57], argTypes := #[24, 44, 44] }, type := 44, pos := "ref.go:60", after := #[{ on := 0, ground := Go.Ground.data }, { on := 6, ground := Go.Ground.data }, { on := 8, ground := Go.Ground.data }, { on := 6, ground := Go.Ground.chain }], guard := none }) rfl (fun K hK => ?_) AllReadyH.nil
            go_simp
            go_at_call 71
            refine (met_any h (meets h M [o.cls]) o.slots (some ⟨b, off, none⟩) Aa S c ca ds _ (own_ints HOA.out) (own_nil HOA.out) (HINW.out.below ((hH2.2.2.2.2.2))) (HOK.out.meets _) hle (by omega)).mono ?_
            rintro e w'' ⟨Ab, cb, rfl, hownb, hb⟩
            have HOB := hid hownb
            clear hownb
            refine hK.out _ _ ?_ (fun hHeld => ?_)
            · exact ⟨cell_later hb hH2.1, cell_later hb hH2.2.1, cell_later hb hH2.2.2.1, cell_later hb hH2.2.2.2.1, cell_later hb hH2.2.2.2.2.1, hH2.2.2.2.2.2.trans (hb.mono hH2.2.2.2.2.2.size)⟩
            clear hK K
            try simp only [Act.put, List.setIfInBounds_toArray, List.set_cons_zero, List.set_cons_succ]
            have hH3 := hHeld
            clear hHeld hb
            have hHeld := hH3
            refine wpAnyH_take (i := 10) (oi := { dst := some 8, op := Go.Op.assign (Go.Operand.tmp 58), type := 44, pos := "ref.go:60", after := #[{ on := 9, ground := Go.Ground.data }, { on := 9, ground := Go.Ground.chain }, { on := 0, ground := Go.Ground.phase }, { on := 1, ground := Go.Ground.phase }, { on := 2, ground := Go.Ground.phase }, { on := 3, ground := Go.Ground.phase }, { on := 4, ground := Go.Ground.phase }, { on := 5, ground := Go.Ground.phase }, { on := 6, ground := Go.Ground.phase }, { on := 7, ground := Go.Ground.phase }, { on := 8, ground := Go.Ground.phase }, { on := 9, ground := Go.Ground.phase }], guard := none }) (v := ?vv36) rfl (by kernel_rfl) (by kernel_rfl) (by kernel_rfl) (fun _ _ _ h => h) (Or.inl ⟨by rfl, ?hy36⟩) (by assumption) ?rr36
            case hy36 => intro w hSw; (try dsimp only at hSw); go_simp; all_goals with_reducible rfl
            try simp only [Act.put, List.setIfInBounds_toArray, List.set_cons_zero, List.set_cons_succ]
            refine wpAnyH_done (by kernel_rfl) ?_ _
            have hHeldB := hHeld.2.2.2.2.2
            have HX9 := hid (HXW.out.later hHeldB)
            have HK9 := hid (HKW.out.later hHeldB)
            have HW9 := hid (HWW.out.trans (hHeldB.mono HWW.out.size))
            obtain ⟨t2, ht2⟩ := meets_pre h (edgesO o) M
            have hml3 : M.length ≤ (meets h M (edgesO o)).length := by rw [ht2, List.length_append]; omega
            clear ht2
            clear hHeld hH1 hH2 hH3 hHeldB x0 x1 x2 e0 e2
            go_wp2_with fail
            go_roundw
            case rel => exact ⟨k + 1, meets h M (edgesO o), Ab, cb, by omega, by go_num, rfl, own_ints HOB.out, own_nil HOB.out, HGS.out, HX9.out, HK9.out, HW9.out⟩
            case measure => simp [intOf]; omega
          · obtain rfl : k = M.length := by omega
            rename World => wg
            have hM : M = ordN h rs := HGO.out.done (Nat.le_refl _)
            have HMO := hid hM
            have HCR := hid (tu_roots HE.out)
            have HCK : Hid (∀ j (hj : j < M.length), ∃ o, h.objs[M[j]]? = some o ∧ (∀ v ∈ o.cls :: o.slots, tuV h.objs.length (iL M) v = cnV h M v) ∧ cnK h M (j + 1) = cnK h M j ++ [cnO h M o]) := by
              subst hM
              exact fun j hj => cnK_met HE.out hj
            rw [← hM] at HCR
            clear hM HGO
            have hnl : ¬ M.length < (iL M).length := by omega
            go_wp2_with fail
            obtain ⟨W1, hW1⟩ : ∃ W1, W1 = wg.alloc (.cells #[.slice none 0 0, .int .i64 h.cap, .int .i64 h.last] 24) := ⟨_, rfl⟩
            have hG1 : Lies W1 wg.heap.size 24 #[.slice none 0 0, .int .i64 h.cap, .int .i64 h.last] := by rw [hW1]; exact Lies.new _ _ _
            have hb1 : Below wg.heap.size wg W1 := by rw [hW1]; exact below_alloc _ _
            have hkl := HK.out.lt
            rw [← hW1]
            have HG1 := hid hG1
            have HX1 := hid (HX.out.later hb1)
            have HBB := hid hb1
            clear hW1 hG1 hb1 x0 x1 x2
            go_loopw [12] (fun i wr => ∃ (k : Nat) (A5 : Option Addr) (c5 : Nat) (ls : List LO), k ≤ M.length ∧ i = .int .i64 k ∧ OwnH wr (wg.heap.size + 1) A5 c5 ls ∧ ls.map (·.o) = cnK h M k ∧ Lies wr wg.heap.size 24 #[.slice A5 ls.length c5, .int .i64 h.cap, .int .i64 h.last] ∧ Lies wr w.heap.size 24 #[Value.slice A h.objs.length c, Value.int .i64 h.cap, Value.int .i64 h.last] ∧ Below wg.heap.size wg wr) (fun i _ => M.length - (intOf i).toNat)
            case atStart => exact ⟨0, none, 0, [], Nat.zero_le _, rfl, OwnH.nil _ _, rfl, HG1.out, HX1.out, HBB.out⟩
            case round =>
              clear HG1 HX1 HBB
              obtain ⟨k, A5, c5, ls, hk, rfl, hown, hls, hgb, hbox, hbw⟩ := hrel
              rename World => wo
              have HO := hid hown
              have HLS := hid hls
              have HG := hid hgb
              have HXo := hid hbox
              have HWo := hid hbw
              have hll : ls.length ≤ k := by
                have := congrArg List.length hls
                rw [List.length_map, cnK_len hk] at this
                omega
              have HIo := hid (HI.out.below HWo.out)
              have x0 := hbox.cell 0
              have x1 := hbox.cell 1
              have x2 := hbox.cell 2
              simp only [List.getElem?_toArray, List.getElem?_cons_zero, List.getElem?_cons_succ] at x0 x1 x2
              clear hown hls hgb hbox hbw
              by_cases hlt : k < M.length
              · obtain ⟨o', ho', htu, hck⟩ := HCK.out k hlt
                have HTU := hid htu
                have HKS := hid hck
                have ordlt : ∀ i ∈ M, i < h.objs.length := fun i hi => ordN_lt (HMO.out ▸ hi)
                have hioi := HIo.out
                obtain ⟨bl, ol, rfl, hbl, hcl⟩ := hioi (by omega)
                have lc := hcl k (M[k] : Int) (by unfold iL; rw [List.getElem?_map, List.getElem?_eq_getElem hlt]; rfl)
                have hqm := ordlt _ (List.getElem_mem hlt)
                obtain ⟨b, off, rfl, hb, hc⟩ := HS.out (by omega)
                have hoi := List.getElem?_eq_getElem hqm
                obtain ⟨S, ds, hob, hin, -, hsn⟩ := hc _ _ hoi
                have hok := may_all HM.out _ (List.getElem_mem hqm)
                obtain ⟨o, ho⟩ : ∃ o, o = h.objs[M[k]] := ⟨_, rfl⟩
                rw [← ho] at hob hin hok hoi
                have hol := (kind_len (ob_kind hok)).1
                obtain rfl : o = o' := by rw [hoi] at ho'; exact Option.some.inj ho'
                obtain ⟨q, hq⟩ : ∃ q, q = M[k] := ⟨_, rfl⟩
                rw [← hq] at lc hob hqm
                have HBZ := hid (HW.out.trans (HWo.out.mono HW.out.size))
                obtain ⟨y0, y1, y2, y3, y4, y5⟩ := hob.below hb HBZ.out
                have HIN := hid (hin.below HBZ.out)
                clear hc hcl hob hin hok ho hq hoi hioi htu hck ho'
                go_wp2_with fail
                refine wp_region_held_drew (S := (fun w' => w'.cell? ⟨b, off + q * 6, none⟩ = some (.int .i64 o.cls) ∧ w'.cell? ⟨b, off + q * 6 + 1, none⟩ = some (.int .i64 o.kind) ∧ w'.cell? ⟨b, off + q * 6 + 2, none⟩ = some (.slice S o.slots.length ds) ∧ w'.cell? ⟨b, off + q * 6 + 3, none⟩ = some (.string o.text) ∧ w'.cell? ⟨b, off + q * 6 + 4, none⟩ = some (.int .i64 o.bits) ∧ w'.cell? ⟨b, off + q * 6 + 5, none⟩ = some (.int .i64 o.hash) ∧ w'.cell? ⟨w.heap.size, 0, none⟩ = some (.slice (some ⟨b, off, none⟩) h.objs.length c) ∧ w'.cell? ⟨bl, ol + k, none⟩ = some (.int .i64 q))) (by kernel_rfl) ?_ (fun hH0 => ?_)
                · exact ⟨y0, y1, y2, y3, y4, y5, x0, lc⟩
                refine wpAnyH_take (i := 0) (oi := { dst := some 70, op := Go.Op.fieldAddr 24 (Go.Operand.tmp 2) 0, type := 0, pos := "ref.go:64", after := #[], guard := none }) (v := ?vv21) rfl (by kernel_rfl) (by kernel_rfl) (by kernel_rfl) (fun _ _ _ h => h) (Or.inl ⟨by rfl, ?hy21⟩) (by assumption) ?rr21
                case hy21 => intro w hSw; (try dsimp only at hSw); go_simp; all_goals with_reducible rfl
                try simp only [Act.put, List.setIfInBounds_toArray, List.set_cons_zero, List.set_cons_succ]
                refine wpAnyH_take (i := 1) (oi := { dst := some 71, op := Go.Op.load 22 (Go.Operand.tmp 70), type := 22, pos := "ref.go:64", after := #[{ on := 0, ground := Go.Ground.data }], guard := none }) (v := ?vv22) rfl (by kernel_rfl) (by kernel_rfl) (by kernel_rfl) (fun _ _ _ h => h) (Or.inl ⟨by rfl, ?hy22⟩) (by assumption) ?rr22
                case hy22 => intro w hSw; (try dsimp only at hSw); go_simp; all_goals with_reducible rfl
                try simp only [Act.put, List.setIfInBounds_toArray, List.set_cons_zero, List.set_cons_succ]
                refine wpAnyH_take (i := 2) (oi := { dst := some 72, op := Go.Op.move (Go.Operand.tmp 8), type := 44, pos := "ref.go:64", after := #[], guard := none }) (v := ?vv23) rfl (by kernel_rfl) (by kernel_rfl) (by kernel_rfl) (fun _ _ _ h => h) (Or.inl ⟨by rfl, ?hy23⟩) (by assumption) ?rr23
                case hy23 => intro w hSw; (try dsimp only at hSw); go_simp; all_goals with_reducible rfl
                try simp only [Act.put, List.setIfInBounds_toArray, List.set_cons_zero, List.set_cons_succ]
                refine wpAnyH_take (i := 3) (oi := { dst := some 73, op := Go.Op.move (Go.Operand.tmp 12), type := 3, pos := "ref.go:64", after := #[], guard := none }) (v := ?vv24) rfl (by kernel_rfl) (by kernel_rfl) (by kernel_rfl) (fun _ _ _ h => h) (Or.inl ⟨by rfl, ?hy24⟩) (by assumption) ?rr24
                case hy24 => intro w hSw; (try dsimp only at hSw); go_simp; all_goals with_reducible rfl
                try simp only [Act.put, List.setIfInBounds_toArray, List.set_cons_zero, List.set_cons_succ]
                refine wpAnyH_take (i := 4) (oi := { dst := some 74, op := Go.Op.indexAddr 44 (Go.Operand.tmp 72) (Go.Operand.tmp 73), type := 0, pos := "ref.go:64", after := #[{ on := 2, ground := Go.Ground.data }, { on := 3, ground := Go.Ground.data }], guard := none }) (v := ?vv25) rfl (by kernel_rfl) (by kernel_rfl) (by kernel_rfl) (fun _ _ _ h => h) (Or.inl ⟨by rfl, ?hy25⟩) (by assumption) ?rr25
                case hy25 => intro w hSw; (try dsimp only at hSw); go_simp; all_goals with_reducible rfl
                try simp only [Act.put, List.setIfInBounds_toArray, List.set_cons_zero, List.set_cons_succ]
                refine wpAnyH_take (i := 5) (oi := { dst := some 75, op := Go.Op.load 3 (Go.Operand.tmp 74), type := 3, pos := "ref.go:64", after := #[{ on := 4, ground := Go.Ground.data }], guard := none }) (v := ?vv26) rfl (by kernel_rfl) (by kernel_rfl) (by kernel_rfl) (fun _ _ _ h => h) (Or.inl ⟨by rfl, ?hy26⟩) (by assumption) ?rr26
                case hy26 => intro w hSw; (try dsimp only at hSw); go_simp; all_goals with_reducible rfl
                try simp only [Act.put, List.setIfInBounds_toArray, List.set_cons_zero, List.set_cons_succ]
                refine wpAnyH_take (i := 6) (oi := { dst := some 76, op := Go.Op.indexAddr 22 (Go.Operand.tmp 71) (Go.Operand.tmp 75), type := 0, pos := "ref.go:64", after := #[{ on := 1, ground := Go.Ground.data }, { on := 5, ground := Go.Ground.data }], guard := none }) (v := ?vv27) rfl (by kernel_rfl) (by kernel_rfl) (by kernel_rfl) (fun _ _ _ h => h) (Or.inl ⟨by rfl, ?hy27⟩) (by assumption) ?rr27
                case hy27 => intro w hSw; (try dsimp only at hSw); go_simp; all_goals with_reducible rfl
                try simp only [Act.put, List.setIfInBounds_toArray, List.set_cons_zero, List.set_cons_succ]
                refine wpAnyH_take (i := 7) (oi := { dst := some 77, op := Go.Op.load 46 (Go.Operand.tmp 76), type := 46, pos := "ref.go:64", after := #[{ on := 6, ground := Go.Ground.data }], guard := none }) (v := ?vv28) rfl (by kernel_rfl) (by kernel_rfl) (by kernel_rfl) (fun _ _ _ h => h) (Or.inl ⟨by rfl, ?hy28⟩) (by assumption) ?rr28
                case hy28 => intro w hSw; (try dsimp only at hSw); go_simp; all_goals with_reducible rfl
                try simp only [Act.put, List.setIfInBounds_toArray, List.set_cons_zero, List.set_cons_succ]
                refine wpAnyH_ready (rs := [8]) (by kernel_rfl) (by simp) ?_
                refine AllReadyH.cons (i := 8) (o := { dst := some 13, op := Go.Op.alloc 46, type := 0, pos := "ref.go:64", after := #[], guard := none }) rfl (fun K hK => ?_) AllReadyH.nil
                go_simp
                refine hK.out _ _ ?_ (fun hH1 => ?_)
                · exact ⟨cell_old hH0.1, cell_old hH0.2.1, cell_old hH0.2.2.1, cell_old hH0.2.2.2.1, cell_old hH0.2.2.2.2.1, cell_old hH0.2.2.2.2.2.1, cell_old hH0.2.2.2.2.2.2.1, cell_old hH0.2.2.2.2.2.2.2⟩
                clear hK K
                try simp only [Act.put, List.setIfInBounds_toArray, List.set_cons_zero, List.set_cons_succ]
                refine wpAnyH_ready (rs := [9]) (by kernel_rfl) (by simp) ?_
                refine AllReadyH.cons (i := 9) (o := { dst := none, op := Go.Op.store 46 (Go.Operand.tmp 13) (Go.Operand.tmp 77), type := 0, pos := "ref.go:64", after := #[{ on := 8, ground := Go.Ground.data }, { on := 7, ground := Go.Ground.data }, { on := 0, ground := Go.Ground.phase }, { on := 1, ground := Go.Ground.phase }, { on := 2, ground := Go.Ground.phase }, { on := 3, ground := Go.Ground.phase }, { on := 4, ground := Go.Ground.phase }, { on := 5, ground := Go.Ground.phase }, { on := 6, ground := Go.Ground.phase }, { on := 7, ground := Go.Ground.phase }, { on := 8, ground := Go.Ground.phase }], guard := none }) rfl (fun K hK => ?_) AllReadyH.nil
                go_simp
                refine hK.out _ _ ?_ (fun hH2 => ?_)
                · exact ⟨one_old y0, one_old y1, one_old y2, one_old y3, one_old y4, one_old y5, one_old x0, one_old lc⟩
                clear hK K
                try simp only [Act.put, List.setIfInBounds_toArray, List.set_cons_zero, List.set_cons_succ]
                refine wpAnyH_done (by kernel_rfl) ?_ _
                obtain ⟨W, hW⟩ : ∃ W, W = (wo.alloc (.cells #[.int .i64 o.cls, .int .i64 o.kind, .slice S o.slots.length ds, .string o.text, .int .i64 o.bits, .int .i64 o.hash] 46)).drew := ⟨_, rfl⟩
                have hBW : Below wo.heap.size wo W := by rw [hW]; exact (below_alloc wo _).drew
                have hLO : Lies W wo.heap.size 46 #[.int .i64 o.cls, .int .i64 o.kind, .slice S o.slots.length ds, .string o.text, .int .i64 o.bits, .int .i64 o.hash] := by rw [hW]; exact (Lies.new wo 46 _).drew
                have hzW : W.heap.size = wo.heap.size + 1 := by rw [hW]; exact Array.size_push ..
                rw [← hW]
                have HBW := hid hBW
                have HLO := hid hLO
                have hzW2 := Nat.le_of_eq hzW
                have hzW3 := Nat.le_of_eq hzW.symm
                clear hW hBW hLO hzW
                have HXW := hid (HXo.out.later HBW.out)
                have HIW := hid (HIo.out.below HBW.out)
                have HINW := hid (HIN.out.below HBW.out)
                clear x0 x1 x2 lc y0 y1 y2 y3 y4 y5
                have x0 := HXW.out.cell 0
                have x1 := HXW.out.cell 1
                have x2 := HXW.out.cell 2
                simp only [List.getElem?_toArray, List.getElem?_cons_zero, List.getElem?_cons_succ] at x0 x1 x2
                have e0 := HLO.out.cell 0
                simp only [List.getElem?_toArray, List.getElem?_cons_zero, List.getElem?_cons_succ] at e0
                have HAL3 := hid (below_alloc W (.cells #[.int .i64 o.cls] 3))
                obtain ⟨z, hz⟩ : ∃ z, z = cnV h M o.cls := ⟨_, rfl⟩
                obtain ⟨xs, hxs⟩ : ∃ xs, xs = o.slots.map (cnV h M) := ⟨_, rfl⟩
                have hm1 : ([o.cls] : List Int).map (tuV h.objs.length (iL M)) = [z] := by rw [hz, List.map_cons, List.map_nil, HTU.out _ (by simp)]
                have hm2 : o.slots.map (tuV h.objs.length (iL M)) = xs := by rw [hxs]; exact List.map_congr_left fun v hv => HTU.out v (List.mem_cons_of_mem _ hv)
                have hmo : cnO h M o = ⟨z, o.kind, xs, o.text, o.bits, o.hash⟩ := by unfold cnO; rw [hxs, hz]
                have HM1 := hid hm1
                have HM2 := hid hm2
                have HMO2 := hid hmo
                clear hz hxs hm1 hm2 hmo
                go_wp2_with fail
                refine (turned_any h (iL M) [o.cls] (some ⟨b, off, none⟩) (some ⟨bl, ol, none⟩) (some ⟨W.heap.size, 0, none⟩) c c8 1 _ (HIW.out.below HAL3.out) (at_one _ _) (by omega) (by simp)).mono ?_
                rintro e w4 ⟨A4, c4, rfl, hown4, hb4⟩
                rw [HM1.out] at hown4 ⊢
                obtain ⟨g4, cg4, hv4, hg40, hg41⟩ := hown4.form (by simp)
                simp only [Value.slice.injEq, true_and] at hv4
                obtain ⟨rfl, rfl⟩ := hv4
                have q4 := hown4.cellAt 0 (by simp)
                have hl1 : ([z] : List Int).length = 1 := rfl
                simp only [List.map_cons, List.getElem?_cons_zero] at q4
                rw [hl1]
                have h34 := HAL3.out.trans (hb4.mono HAL3.out.size)
                have HL4 := hid (HLO.out.later h34)
                have HWW4 := hid (HBW.out.trans (h34.mono HBW.out.size))
                have b0 := HL4.out.cell 0
                have bf0 := HL4.out.frozen 0
                simp only [List.getElem?_toArray, List.getElem?_cons_zero, List.getElem?_cons_succ] at b0
                clear hown4 hb4 h34 hl1 x0 x1 x2 e0
                go_upto_region 20 with fail
                obtain ⟨w5, hw5⟩ : ∃ w5, w5 = w4.setCell ⟨wo.heap.size, 0, none⟩ (.int .i64 z) := ⟨_, rfl⟩
                have hL5 : Lies w5 wo.heap.size 46 #[.int .i64 z, .int .i64 o.kind, .slice S o.slots.length ds, .string o.text, .int .i64 o.bits, .int .i64 o.hash] := by
                  rw [hw5]
                  have := HL4.out.set_ 0 (.int .i64 z)
                  simpa using this
                have hwo5 : Below wo.heap.size wo w5 := by rw [hw5]; exact HWW4.out.setCell (p := ⟨wo.heap.size, 0, none⟩) (Nat.le_refl _) _
                rw [← hw5]
                have HL5 := hid hL5
                have HWW5 := hid hwo5
                clear hL5 hwo5 hw5 b0 bf0 q4 HL4 HWW4
                have HX5 := hid (HXo.out.later HWW5.out)
                have x0 := HX5.out.cell 0
                have x1 := HX5.out.cell 1
                have x2 := HX5.out.cell 2
                simp only [List.getElem?_toArray, List.getElem?_cons_zero, List.getElem?_cons_succ] at x0 x1 x2
                have e2 := HL5.out.cell 2
                simp only [List.getElem?_toArray, List.getElem?_cons_zero, List.getElem?_cons_succ] at e2
                go_wp2_with fail
                refine (turned_any h (iL M) o.slots (some ⟨b, off, none⟩) (some ⟨bl, ol, none⟩) S c c8 ds _ (HIo.out.below HWW5.out) (HIN.out.below HWW5.out) (by omega) (by omega)).mono ?_
                rintro e w6 ⟨S3, d3, rfl, hown6, hb6⟩
                rw [HM2.out] at hown6 ⊢
                have HL6 := hid (HL5.out.later hb6)
                have HWW6 := hid (HWW5.out.trans (hb6.mono HWW5.out.size))
                have HV6 := hid (own_lower (base' := wo.heap.size + 1) hown6 HL5.out.lt)
                have f2 := HL6.out.frozen 2
                have k2 := HL6.out.cell 2
                simp only [List.getElem?_toArray, List.getElem?_cons_zero, List.getElem?_cons_succ] at k2
                clear hown6 hb6 x0 x1 x2 e2
                go_upto_region 21 with fail
                obtain ⟨w7, hw7⟩ : ∃ w7, w7 = w6.setCell ⟨wo.heap.size, 2, none⟩ (.slice S3 xs.length d3) := ⟨_, rfl⟩
                have hL7 : Lies w7 wo.heap.size 46 #[.int .i64 z, .int .i64 o.kind, .slice S3 xs.length d3, .string o.text, .int .i64 o.bits, .int .i64 o.hash] := by
                  rw [hw7]
                  have := HL6.out.set_ 2 (.slice S3 xs.length d3)
                  simpa using this
                have hwo7 : Below wo.heap.size wo w7 := by rw [hw7]; exact HWW6.out.setCell (p := ⟨wo.heap.size, 2, none⟩) (Nat.le_refl _) _
                have hV7 : w7.ownsRow (wo.heap.size + 1) 3 1 (.slice S3 xs.length d3) xs.length (xs.map (Value.int .i64)) := by rw [hw7]; exact ownsRow_setCell_below HV6.out (Nat.lt_succ_self _) _
                rw [← hw7]
                clear hw7 f2 k2
                have hgl := HG.out.lt
                have hO7 := HO.out.later hwo7
                obtain ⟨A6, c6, w8, hrun, hO8, hg8⟩ := run_app_obj w7 (wg.heap.size + 1) (wo.heap.size + 1) A5 c5 ls hO7 (by omega) ⟨z, o.kind, xs, o.text, o.bits, o.hash⟩ S3 d3 hV7 (by omega) (fun i li a hi ha => by have := HO.out.blk_lt hi ha; omega) (by have := hwo7.size; omega)
                have hal := below_alloc w7 (.cells (obC ⟨z, o.kind, xs, o.text, o.bits, o.hash⟩ S3 d3) 46)
                have hrb : ∀ j, (Value.slice A5 ls.length c5).ownBlock = some j → wg.heap.size + 1 ≤ j := fun j hj => (HO.out.row.lt j hj).1
                have hP8 := ((HG.out.later hwo7).later hal).grown hg8 (fun e => by have := hrb _ e.symm; omega)
                have hX8 := ((HXo.out.later hwo7).later hal).grown hg8 (fun e => by have := hrb _ e.symm; omega)
                have hb8 : Below wg.heap.size wg w8 := ((HWo.out.trans (hwo7.mono HWo.out.size)).trans (hal.mono (by have := hwo7.size; omega))).grown hg8 (by have := hwo7.size; simp; omega) (fun j hj => by have := hrb j hj; omega)
                have e0 := hL7.cell 0
                have e1 := hL7.cell 1
                have e2 := hL7.cell 2
                have e3 := hL7.cell 3
                have e4 := hL7.cell 4
                have e5 := hL7.cell 5
                have p0 := hP8.cell 0
                have pf0 := hP8.frozen 0
                have g5 := (HG.out.later hwo7).cell 0
                simp only [List.getElem?_toArray, List.getElem?_cons_zero, List.getElem?_cons_succ] at e0 e1 e2 e3 e4 e5 p0 g5
                have HRUN := hid hrun
                have HO8 := hid hO8
                have HP8 := hid hP8
                have HX8 := hid hX8
                have HB8 := hid hb8
                clear hL7 hwo7 hV7 hO7 hrun hO8 hg8 hal hrb hP8 hX8 hb8
                go_wp2_with (at_builtin; refine wpList_app_run rfl (.tmp 94) (.tmp 96) 22 rfl _ _ HRUN.out ?_)
                go_roundw
                case rel =>
                  refine ⟨k + 1, A6, c6, ls ++ [⟨⟨z, o.kind, xs, o.text, o.bits, o.hash⟩, S3, d3⟩], by omega, by go_num, HO8.out.off HP8.out 0 _, by rw [List.map_append, HLS.out, HKS.out, HMO2.out]; rfl, ?_, HX8.out.far (by show w.heap.size ≠ wg.heap.size; omega) _, HB8.out.setCell (p := ⟨wg.heap.size, 0, none⟩) (Nat.le_refl _) _⟩
                  rw [List.length_append]
                  simpa using HP8.out.set_ 0 (.slice A6 (ls.length + 1) c6)
                case measure => simp [intOf]; omega
              · obtain rfl : k = M.length := by omega
                have hobj : ls.map (·.o) = (cnH h rs).objs := by rw [HLS.out, HMO.out, cnK_all HE.out]
                obtain ⟨hcp, hla⟩ := cn_caps HE.out
                have hll2 : ls.length = (cnH h rs).objs.length := by rw [← hobj, List.length_map]
                have HOBJ := hid hobj
                have HL2 := hid hll2
                have HCP := hid hcp
                have HLA := hid hla
                have HKo := hid (HK.out.later HWo.out)
                have HBo := hid (HW.out.trans (HWo.out.mono HW.out.size))
                have HRo := hid (HR.out.below HBo.out)
                obtain ⟨L, hL⟩ : ∃ L, L = cnL h rs := ⟨_, rfl⟩
                have HLL := hid hL
                rw [← hL] at HCR ⊢
                clear hobj hcp hla hll2 hL
                have z0 := HG.out.cell 0
                have z1 := HG.out.cell 1
                have z2 := HG.out.cell 2
                simp only [List.getElem?_toArray, List.getElem?_cons_zero, List.getElem?_cons_succ] at z0 z1 z2
                go_wp2_with fail
                have hneX : w.heap.size ≠ w.heap.size + 1 := by omega
                have hneG : wg.heap.size ≠ w.heap.size + 1 := by omega
                refine wp_region_held_drew (S := (fun w' => w'.cell? ⟨w.heap.size, 0, none⟩ = some (.slice A h.objs.length c) ∧ w'.cell? ⟨w.heap.size, 1, none⟩ = some (.int .i64 h.cap) ∧ w'.cell? ⟨w.heap.size, 2, none⟩ = some (.int .i64 h.last) ∧ w'.cell? ⟨wg.heap.size, 0, none⟩ = some (.slice A5 ls.length c5) ∧ w'.cell? ⟨wg.heap.size, 1, none⟩ = some (.int .i64 h.cap) ∧ w'.cell? ⟨wg.heap.size, 2, none⟩ = some (.int .i64 h.last))) (by kernel_rfl) ?_ (fun hH0 => ?_)
                · exact ⟨x0, x1, x2, z0, z1, z2⟩
                refine wpAnyH_take (i := 0) (oi := { dst := some 99, op := Go.Op.load 24 (Go.Operand.tmp 11), type := 24, pos := "ref.go:69", after := #[], guard := none }) (v := ?vv37) rfl (by kernel_rfl) (by kernel_rfl) (by kernel_rfl) (fun _ _ _ h => h) (Or.inl ⟨by rfl, ?hy37⟩) (by assumption) ?rr37
                case hy37 => intro w hSw; (try dsimp only at hSw); go_simp; all_goals with_reducible rfl
                try simp only [Act.put, List.setIfInBounds_toArray, List.set_cons_zero, List.set_cons_succ]
                refine wpAnyH_take (i := 1) (oi := { dst := some 100, op := Go.Op.load 24 (Go.Operand.tmp 2), type := 24, pos := "ref.go:69", after := #[], guard := none }) (v := ?vv38) rfl (by kernel_rfl) (by kernel_rfl) (by kernel_rfl) (fun _ _ _ h => h) (Or.inl ⟨by rfl, ?hy38⟩) (by assumption) ?rr38
                case hy38 => intro w hSw; (try dsimp only at hSw); go_simp; all_goals with_reducible rfl
                try simp only [Act.put, List.setIfInBounds_toArray, List.set_cons_zero, List.set_cons_succ]
                refine wpAnyH_take (i := 2) (oi := { dst := some 101, op := Go.Op.move (Go.Operand.tmp 8), type := 44, pos := "ref.go:69", after := #[], guard := none }) (v := ?vv39) rfl (by kernel_rfl) (by kernel_rfl) (by kernel_rfl) (fun _ _ _ h => h) (Or.inl ⟨by rfl, ?hy39⟩) (by assumption) ?rr39
                case hy39 => intro w hSw; (try dsimp only at hSw); go_simp; all_goals with_reducible rfl
                try simp only [Act.put, List.setIfInBounds_toArray, List.set_cons_zero, List.set_cons_succ]
                refine wpAnyH_take (i := 3) (oi := { dst := some 102, op := Go.Op.move (Go.Operand.tmp 1), type := 44, pos := "ref.go:69", after := #[], guard := none }) (v := ?vv40) rfl (by kernel_rfl) (by kernel_rfl) (by kernel_rfl) (fun _ _ _ h => h) (Or.inl ⟨by rfl, ?hy40⟩) (by assumption) ?rr40
                case hy40 => intro w hSw; (try dsimp only at hSw); go_simp; all_goals with_reducible rfl
                try simp only [Act.put, List.setIfInBounds_toArray, List.set_cons_zero, List.set_cons_succ]
                refine wpAnyH_ready (rs := [4]) (by kernel_rfl) (by simp) ?_
                refine AllReadyH.cons (i := 4) (o := { dst := some 103, op := Go.Op.call { callee := Go.Callee.value (Go.Operand.func 72), args := #[Go.Operand.tmp 100, Go.Operand.tmp 101, Go.Operand.tmp 102], argTypes := #[24, 44, 44] }, type := 44, pos := "ref.go:69", after := #[{ on := 1, ground := Go.Ground.data }, { on := 2, ground := Go.Ground.data }, { on := 3, ground := Go.Ground.data }], guard := none }) rfl (fun K hK => ?_) AllReadyH.nil
                go_simp
                go_at_call 72
                refine (turned_any h (iL M) rs A A8 R c c8 d _ (HIo.out.below (Below.refl _ _).drew) (HRo.out.below (Below.refl _ _).drew) (by omega) hl).mono ?_
                rintro e w' ⟨A7, c7, rfl, hown7, hb⟩
                rw [HCR.out] at hown7 ⊢
                have hbW : Below wo.heap.size wo w' := then_b (Below.refl _ _).drew hb
                have hK7 := HKo.out.later hbW
                have v0 := hK7.cell 0
                have v1 := hK7.cell 1
                have v2 := hK7.cell 2
                have vf0 := hK7.frozen 0
                have vf1 := hK7.frozen 1
                have vf2 := hK7.frozen 2
                simp only [List.getElem?_toArray, List.getElem?_cons_zero, List.getElem?_cons_succ] at v0 v1 v2
                have HK7 := hid hK7
                have HBZ := hid (HBo.out.trans (hbW.mono HBo.out.size))
                have HO7 := hid (HO.out.later hbW)
                have HV7 := hid hown7
                have hwsz := HKo.out.lt
                clear hK7 hbW hown7
                refine hK.out _ _ ?_ (fun hH1 => ?_)
                · exact ⟨cell_later hb hH0.1, cell_later hb hH0.2.1, cell_later hb hH0.2.2.1, cell_later hb hH0.2.2.2.1, cell_later hb hH0.2.2.2.2.1, cell_later hb hH0.2.2.2.2.2⟩
                clear hK K
                try simp only [Act.put, List.setIfInBounds_toArray, List.set_cons_zero, List.set_cons_succ]
                clear hb
                refine wpAnyH_ready (rs := [5]) (by kernel_rfl) (by simp) ?_
                refine AllReadyH.cons (i := 5) (o := { dst := none, op := Go.Op.store 24 (Go.Operand.tmp 4) (Go.Operand.tmp 99), type := 0, pos := "ref.go:69", after := #[{ on := 0, ground := Go.Ground.data }, { on := 4, ground := Go.Ground.chain }, { on := 0, ground := Go.Ground.phase }, { on := 1, ground := Go.Ground.textOnly Go.Departure.lateStores }, { on := 2, ground := Go.Ground.textOnly Go.Departure.lateStores }, { on := 3, ground := Go.Ground.textOnly Go.Departure.lateStores }, { on := 4, ground := Go.Ground.textOnly Go.Departure.lateStoresUnsure }], guard := none }) rfl (fun K hK => ?_) AllReadyH.nil
                go_simp
                refine hK.out _ _ ?_ (fun hH2 => ?_)
                · exact ⟨far_cell5 hneX (far_cell5 hneX (far_cell5 hneX hH1.1)), far_cell5 hneX (far_cell5 hneX (far_cell5 hneX hH1.2.1)), far_cell5 hneX (far_cell5 hneX (far_cell5 hneX hH1.2.2.1)), far_cell5 hneG (far_cell5 hneG (far_cell5 hneG hH1.2.2.2.1)), far_cell5 hneG (far_cell5 hneG (far_cell5 hneG hH1.2.2.2.2.1)), far_cell5 hneG (far_cell5 hneG (far_cell5 hneG hH1.2.2.2.2.2))⟩
                clear hK K
                try simp only [Act.put, List.setIfInBounds_toArray, List.set_cons_zero, List.set_cons_succ]
                refine wpAnyH_take (i := 6) (oi := { dst := some 5, op := Go.Op.assign (Go.Operand.tmp 103), type := 44, pos := "ref.go:69", after := #[{ on := 4, ground := Go.Ground.data }, { on := 5, ground := Go.Ground.chain }, { on := 0, ground := Go.Ground.phase }, { on := 1, ground := Go.Ground.phase }, { on := 2, ground := Go.Ground.phase }, { on := 3, ground := Go.Ground.phase }, { on := 4, ground := Go.Ground.phase }, { on := 5, ground := Go.Ground.phase }], guard := none }) (v := ?vv41) rfl (by kernel_rfl) (by kernel_rfl) (by kernel_rfl) (fun _ _ _ h => h) (Or.inl ⟨by rfl, ?hy41⟩) (by assumption) ?rr41
                case hy41 => intro w hSw; (try dsimp only at hSw); go_simp; all_goals with_reducible rfl
                try simp only [Act.put, List.setIfInBounds_toArray, List.set_cons_zero, List.set_cons_succ]
                refine wpAnyH_take (i := 7) (oi := { dst := some 6, op := Go.Op.assign (Go.Operand.const (Go.Value.int Go.IntKind.i64 0)), type := 29, pos := "ref.go:69", after := #[{ on := 6, ground := Go.Ground.chain }, { on := 0, ground := Go.Ground.phase }, { on := 1, ground := Go.Ground.phase }, { on := 2, ground := Go.Ground.phase }, { on := 3, ground := Go.Ground.phase }, { on := 4, ground := Go.Ground.phase }, { on := 5, ground := Go.Ground.phase }, { on := 6, ground := Go.Ground.phase }], guard := none }) (v := ?vv42) rfl (by kernel_rfl) (by kernel_rfl) (by kernel_rfl) (fun _ _ _ h => h) (Or.inl ⟨by rfl, ?hy42⟩) (by assumption) ?rr42
                case hy42 => intro w hSw; (try dsimp only at hSw); go_simp; all_goals with_reducible rfl
                try simp only [Act.put, List.setIfInBounds_toArray, List.set_cons_zero, List.set_cons_succ]
                refine wpAnyH_done (by kernel_rfl) ?_ _
                go_wp2_with fail
                have KF := (((HK7.out.set_ 0 (.slice A5 ls.length c5)).set_ 1 (.int .i64 h.cap)).set_ 2 (.int .i64 h.last))
                have r0 := KF.cell 0
                have r1 := KF.cell 1
                have r2 := KF.cell 2
                simp only [List.setIfInBounds_toArray, List.set_cons_zero, List.set_cons_succ, List.getElem?_toArray, List.getElem?_cons_zero, List.getElem?_cons_succ] at r0 r1 r2
                refine bodyPost_ret (v := .tuple #[.agg #[.slice A5 ls.length c5, .int .i64 h.cap, .int .i64 h.last], .slice A7 L.length c7, .int .i64 0]) (by simp [results, Try.results39, go_sem, r0, r1, r2]) rfl ?_
                refine ⟨A5, c5, A7, c7, by rw [HCP.out, HLA.out, ← HL2.out, ← HLL.out, HE.out], own_obs (base := wg.heap.size + 1) (c := c5) ?_ HOBJ.out, by rw [← HLL.out]; exact own_ints (base := wo.heap.size) (c := c7) (ownsRow_setCell_below (ownsRow_setCell_below (ownsRow_setCell_below HV7.out hwsz _) hwsz _) hwsz _), ?_⟩
                · exact ((HO7.out.low (p := ⟨w.heap.size + 1, 0, none⟩) (by show w.heap.size + 1 < _; omega) _).low (p := ⟨w.heap.size + 1, 1, none⟩) (by show w.heap.size + 1 < _; omega) _).low (p := ⟨w.heap.size + 1, 2, none⟩) (by show w.heap.size + 1 < _; omega) _
                · exact (((HBZ.out.setCell (p := ⟨w.heap.size + 1, 0, none⟩) (by simp) _).setCell (p := ⟨w.heap.size + 1, 1, none⟩) (by simp) _).setCell (p := ⟨w.heap.size + 1, 2, none⟩) (by simp) _)
end Go.Proofs.Ytododpdkbdndoaa
