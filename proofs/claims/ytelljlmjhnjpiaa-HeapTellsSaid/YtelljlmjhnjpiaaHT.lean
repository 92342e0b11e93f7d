/- HeapTells walked: whatever heap and asking, it answers true. -/
import Derived.Test.YtelljlmjhnjpiaaRB
import Derived.Test.YtelljlmjhnjpiaaRSB
import Derived.Test.YtelljlmjhnjpiaaFX
import Derived.Test.YtelljlmjhnjpiaaBM
import Derived.Test.YtelljlmjhnjpiaaR2
import Derived.Test.YtelljlmjhnjpiaaI
import Derived.Test.YtelljlmjhnjpiaaN
namespace Go.Proofs.Ytelljlmjhnjpiaa
open Go.RowKit
set_option maxRecDepth 100000
theorem un_fit {h : Hp} (fit : h.Fit) (e : Int) : (unH h e).Fit := by
  unfold unH
  split
  · exact fitZ
  · exact fit
theorem setR_fit {h : Hp} (fit : h.Fit) (v k x : Int) : (setR h v k x).Fit := by
  unfold setR
  split
  · rename_i e
    unfold setE at e
    split at e
    · rename_i e1
      split at e
      · rename_i hx; exact may_fit (set_may (placed e1) hx)
      · cases e
    · rename_i e1; exact absurd e e1
  · exact un_fit fit _
theorem sbR_fit {h : Hp} (fit : h.Fit) (v k x : Int) : (sbR h v k x).Fit := by
  unfold sbR
  split
  · rename_i e
    unfold sbE at e
    split at e
    · rename_i e1; exact may_fit (sb_may (placedT e1))
    · rename_i e1; exact absurd e e1
  · exact un_fit fit _
theorem beR_fit {h : Hp} (fit : h.Fit) (v u : Int) : (beR h v u).Fit := by
  cases hm : mayB h
  · unfold beR; rw [if_pos hm]; exact fitZ
  · cases h1 : refB h.objs.length v
    · unfold beR; rw [if_neg (by rw [hm]; decide), if_pos (.inl h1)]; exact fit
    · cases h2 : refB h.objs.length u
      · unfold beR; rw [if_neg (by rw [hm]; decide), if_pos (.inr h2)]; exact fit
      · rw [(be_ok hm h1 h2).2]; exact may_fit (sw_may hm h1 h2)
theorem then_h {w v w' : World} (h : Below w.heap.size w v) (hb : Below v.heap.size v w') : Below w.heap.size w w' := h.trans (hb.mono h.size)
set_option maxHeartbeats 2000000 in
theorem tells3_any (h : Hp) (a b d : Int) (A : Option Addr) (c : Nat) (w : World) (hs : ObsR w A h.objs) (fit : h.Fit) :
    Calls Try.prog 3 #[.agg #[.slice A h.objs.length c, .int .i64 h.cap, .int .i64 h.last], .agg #[Value.int .i64 a, Value.int .i64 b, Value.int .i64 d]] w fun e w' => e = .returned (.bool true) ∧ Below w.heap.size w w' := by
  have HB0 := hid (below_alloc2 w (.cells #[Value.slice A h.objs.length c, Value.int .i64 h.cap, Value.int .i64 h.last] 24) (.cells #[Value.int .i64 a, Value.int .i64 b, Value.int .i64 d] 26))
  have X0 := hid ((Lies.new w 24 #[Value.slice A h.objs.length c, Value.int .i64 h.cap, Value.int .i64 h.last]).alloc (.cells #[Value.int .i64 a, Value.int .i64 b, Value.int .i64 d] 26))
  have Y0 : Hid (Lies ((w.alloc (.cells #[Value.slice A h.objs.length c, Value.int .i64 h.cap, Value.int .i64 h.last] 24)).alloc (.cells #[Value.int .i64 a, Value.int .i64 b, Value.int .i64 d] 26)) (w.heap.size + 1) 26 #[Value.int .i64 a, Value.int .i64 b, Value.int .i64 d]) := by
    have := Lies.new (w.alloc (.cells #[Value.slice A h.objs.length c, Value.int .i64 h.cap, Value.int .i64 h.last] 24)) 26 #[Value.int .i64 a, Value.int .i64 b, Value.int .i64 d]
    simpa [Hid] using this
  have O0 := hid (hs.below HB0.out)
  have HF := hid fit
  have HF1 := hid (setR_fit fit a b d)
  have HF2 := hid (sbR_fit fit a b d)
  have HF3 := hid (beR_fit fit a d)
  have hfl := fit.1
  clear hs fit
  obtain ⟨gv, hgv⟩ : ∃ gv, gv = geV h a b := ⟨_, rfl⟩
  obtain ⟨ge, hge⟩ : ∃ ge, ge = plE h a 0 b := ⟨_, rfl⟩
  obtain ⟨bv, hbv⟩ : ∃ bv, bv = byV h a b := ⟨_, rfl⟩
  obtain ⟨be, hbe⟩ : ∃ be, be = plE h a 1 b := ⟨_, rfl⟩
  obtain ⟨mb, hmb⟩ : ∃ mb, mb = mayB h := ⟨_, rfl⟩
  obtain ⟨k1, hk1⟩ : ∃ k1, k1 = setR h a b d := ⟨_, rfl⟩
  obtain ⟨e1, he1⟩ : ∃ e1, e1 = setE h a b d := ⟨_, rfl⟩
  obtain ⟨k2, hk2⟩ : ∃ k2, k2 = sbR h a b d := ⟨_, rfl⟩
  obtain ⟨e2, he2⟩ : ∃ e2, e2 = sbE h a b d := ⟨_, rfl⟩
  obtain ⟨k3, hk3⟩ : ∃ k3, k3 = beR h a d := ⟨_, rfl⟩
  obtain ⟨e3, he3⟩ : ∃ e3, e3 = beE h a d := ⟨_, rfl⟩
  rw [← hk1] at HF1
  rw [← hk2] at HF2
  rw [← hk3] at HF3
  have Ngv := hid hgv
  have Nge := hid hge
  have Nbv := hid hbv
  have Nbe := hid hbe
  have Nmb := hid hmb
  have Nk1 := hid hk1
  have Ne1 := hid he1
  have Nk2 := hid hk2
  have Ne2 := hid he2
  have Nk3 := hid hk3
  have Ne3 := hid he3
  clear hgv hge hbv hbe hmb hk1 he1 hk2 he2 hk3 he3
  go_enter Try.func3, Try.ntmps3
  have x0 := X0.out.cell 0
  have x1 := X0.out.cell 1
  have x2 := X0.out.cell 2
  have y0 := Y0.out.cell 0
  have y1 := Y0.out.cell 1
  have y2 := Y0.out.cell 2
  simp only [List.getElem?_toArray, List.getElem?_cons_zero, List.getElem?_cons_succ] at x0 x1 x2 y0 y1 y2
  go_wp2_with fail
  refine (small_ok h A c _ O0.out HF.out).mono ?_
  rintro e w1 ⟨sm, rfl, hb⟩
  have HB1 := hid (HB0.out.trans (hb.mono HB0.out.size))
  have X1 := hid (X0.out.later hb)
  have Y1 := hid (Y0.out.later hb)
  have O1 := hid (O0.out.below hb)
  clear x0 x1 x2 y0 y1 y2
  clear hb
  have x0 := X1.out.cell 0
  have x1 := X1.out.cell 1
  have x2 := X1.out.cell 2
  have y0 := Y1.out.cell 0
  have y1 := Y1.out.cell 1
  have y2 := Y1.out.cell 2
  simp only [List.getElem?_toArray, List.getElem?_cons_zero, List.getElem?_cons_succ] at x0 x1 x2 y0 y1 y2
  cases sm
  · go_wp2_with fail
    refine (fixed_any _).mono ?_
    rintro e w2 ⟨rfl, hb⟩
    have HB2 := hid (HB1.out.trans (hb.mono HB1.out.size))
    have X2 := hid (X1.out.later hb)
    have Y2 := hid (Y1.out.later hb)
    have O2 := hid (O1.out.below hb)
    clear x0 x1 x2 y0 y1 y2
    clear hb
    have x0 := X2.out.cell 0
    have x1 := X2.out.cell 1
    have x2 := X2.out.cell 2
    have y0 := Y2.out.cell 0
    have y1 := Y2.out.cell 1
    have y2 := Y2.out.cell 2
    simp only [List.getElem?_toArray, List.getElem?_cons_zero, List.getElem?_cons_succ] at x0 x1 x2 y0 y1 y2
    go_wp2_with fail
    go_ret
    exact ⟨rfl, HB2.out⟩
  · go_wp2_with fail
    refine (get_any h a b A c _ O1.out HF.out).mono ?_
    rintro e w2 ⟨rfl, hb⟩
    rw [← Ngv.out, ← Nge.out]
    have HB2 := hid (HB1.out.trans (hb.mono HB1.out.size))
    have X2 := hid (X1.out.later hb)
    have Y2 := hid (Y1.out.later hb)
    have O2 := hid (O1.out.below hb)
    clear x0 x1 x2 y0 y1 y2
    clear hb
    have x0 := X2.out.cell 0
    have x1 := X2.out.cell 1
    have x2 := X2.out.cell 2
    have y0 := Y2.out.cell 0
    have y1 := Y2.out.cell 1
    have y2 := Y2.out.cell 2
    simp only [List.getElem?_toArray, List.getElem?_cons_zero, List.getElem?_cons_succ] at x0 x1 x2 y0 y1 y2
    go_wp2_with fail
    refine (rget_any h a b A c _ O2.out HF.out).mono ?_
    rintro e w3 ⟨rfl, hb⟩
    rw [← Ngv.out, ← Nge.out]
    have HB3 := hid (HB2.out.trans (hb.mono HB2.out.size))
    have X3 := hid (X2.out.later hb)
    have Y3 := hid (Y2.out.later hb)
    have O3 := hid (O2.out.below hb)
    clear x0 x1 x2 y0 y1 y2
    clear hb
    have x0 := X3.out.cell 0
    have x1 := X3.out.cell 1
    have x2 := X3.out.cell 2
    have y0 := Y3.out.cell 0
    have y1 := Y3.out.cell 1
    have y2 := Y3.out.cell 2
    simp only [List.getElem?_toArray, List.getElem?_cons_zero, List.getElem?_cons_succ] at x0 x1 x2 y0 y1 y2
    go_wp2_with fail
    refine (byte_any h a b A c _ O3.out HF.out).mono ?_
    rintro e w4 ⟨rfl, hb⟩
    rw [← Nbv.out, ← Nbe.out]
    have HB4 := hid (HB3.out.trans (hb.mono HB3.out.size))
    have X4 := hid (X3.out.later hb)
    have Y4 := hid (Y3.out.later hb)
    have O4 := hid (O3.out.below hb)
    clear x0 x1 x2 y0 y1 y2
    clear hb
    have x0 := X4.out.cell 0
    have x1 := X4.out.cell 1
    have x2 := X4.out.cell 2
    have y0 := Y4.out.cell 0
    have y1 := Y4.out.cell 1
    have y2 := Y4.out.cell 2
    simp only [List.getElem?_toArray, List.getElem?_cons_zero, List.getElem?_cons_succ] at x0 x1 x2 y0 y1 y2
    go_wp2_with fail
    refine (rbyte_any h a b A c _ O4.out HF.out).mono ?_
    rintro e w5 ⟨rfl, hb⟩
    rw [← Nbv.out, ← Nbe.out]
    have HB5 := hid (HB4.out.trans (hb.mono HB4.out.size))
    have X5 := hid (X4.out.later hb)
    have Y5 := hid (Y4.out.later hb)
    have O5 := hid (O4.out.below hb)
    clear x0 x1 x2 y0 y1 y2
    clear hb
    have x0 := X5.out.cell 0
    have x1 := X5.out.cell 1
    have x2 := X5.out.cell 2
    have y0 := Y5.out.cell 0
    have y1 := Y5.out.cell 1
    have y2 := Y5.out.cell 2
    simp only [List.getElem?_toArray, List.getElem?_cons_zero, List.getElem?_cons_succ] at x0 x1 x2 y0 y1 y2
    go_wp2_with fail
    refine wp_region_held_drew (S := (fun w' => w'.cell? ⟨w.heap.size, 0, none⟩ = some (.slice A h.objs.length c) ∧ w'.cell? ⟨w.heap.size, 1, none⟩ = some (.int .i64 h.cap) ∧ w'.cell? ⟨w.heap.size, 2, none⟩ = some (.int .i64 h.last) ∧ Below w5.heap.size w5 w')) (by kernel_rfl) ?_ (fun hHeld => ?_)
    · exact ⟨x0, x1, x2, (Below.refl _ _).drew⟩
    refine wpAnyH_take (i := 0) (oi := { dst := some 65, op := Go.Op.load 24 (Go.Operand.tmp 2), type := 24, pos := "law.go:42", after := #[], guard := none }) (v := ?vv1) rfl (by kernel_rfl) (by kernel_rfl) (by kernel_rfl) (fun _ _ _ h => h) (Or.inl ⟨by rfl, ?hy1⟩) (by assumption) ?rr1
    case hy1 => intro w hSw; (try dsimp only at hSw); go_simp; all_goals with_reducible rfl
    try simp only [Act.put, List.setIfInBounds_toArray, List.set_cons_zero, List.set_cons_succ]
    refine wpAnyH_take (i := 2) (oi := { dst := some 67, op := Go.Op.load 24 (Go.Operand.tmp 2), type := 24, pos := "law.go:42", after := #[], guard := none }) (v := ?vv2) rfl (by kernel_rfl) (by kernel_rfl) (by kernel_rfl) (fun _ _ _ h => h) (Or.inl ⟨by rfl, ?hy2⟩) (by assumption) ?rr2
    case hy2 => intro w hSw; (try dsimp only at hSw); go_simp; all_goals with_reducible rfl
    try simp only [Act.put, List.setIfInBounds_toArray, List.set_cons_zero, List.set_cons_succ]
    refine wpAnyH_ready (rs := [1]) (by kernel_rfl) (by simp) ?_
    refine AllReadyH.cons (i := 1) (o := { dst := some 66, op := Go.Op.call { callee := Go.Callee.value (Go.Operand.func 20), args := #[Go.Operand.tmp 65], argTypes := #[24] }, type := 4, pos := "law.go:42", after := #[{ on := 0, ground := Go.Ground.data }], guard := none }) rfl (fun K hK => ?_) AllReadyH.nil
    go_simp
    go_at_call 20
    refine (may_any h A c _ (O5.out.below (((Below.refl _ _).drew))) HF.out).mono ?_
    rintro e w' ⟨rfl, hb⟩
    rw [← Nmb.out]
    refine hK.out _ _ ?_ (fun hHeld => ?_)
    · exact ⟨cell_later hb x0, cell_later hb x1, cell_later hb x2, then_h (Below.refl _ _).drew hb⟩
    clear hK K
    try simp only [Act.put, List.setIfInBounds_toArray, List.set_cons_zero, List.set_cons_succ]
    have hH1 := hHeld
    clear hHeld hb
    have hHeld := hH1
    refine wpAnyH_ready (rs := [3]) (by kernel_rfl) (by simp) ?_
    refine AllReadyH.cons (i := 3) (o := { dst := some 68, op := Go.Op.call { callee := Go.Callee.value (Go.Operand.func 21), args := #[Go.Operand.tmp 67], argTypes := #[24] }, type := 4, pos := "law.go:42", after := #[{ on := 2, ground := Go.Ground.data }, { on := 1, ground := Go.Ground.chain }], guard := none }) rfl (fun K hK => ?_) AllReadyH.nil
    go_simp
    go_at_call 21
    refine (rmay_any h A c _ (O5.out.below ((hH1.2.2.2))) HF.out).mono ?_
    rintro e w' ⟨rfl, hb⟩
    rw [← Nmb.out]
    refine hK.out _ _ ?_ (fun hHeld => ?_)
    · exact ⟨cell_later hb hH1.1, cell_later hb hH1.2.1, cell_later hb hH1.2.2.1, hH1.2.2.2.trans (hb.mono hH1.2.2.2.size)⟩
    clear hK K
    try simp only [Act.put, List.setIfInBounds_toArray, List.set_cons_zero, List.set_cons_succ]
    have hH2 := hHeld
    clear hHeld hb
    have hHeld := hH2
    refine wpAnyH_take (i := 4) (oi := { dst := some 69, op := Go.Op.binOp Go.BinOp.neq 4 (Go.Operand.tmp 66) (Go.Operand.tmp 68) 4, type := 4, pos := "law.go:42", after := #[{ on := 1, ground := Go.Ground.data }, { on := 3, ground := Go.Ground.data }], guard := none }) (v := ?vv3) rfl (by kernel_rfl) (by kernel_rfl) (by kernel_rfl) (fun _ _ _ h => h) (Or.inl ⟨by rfl, ?hy3⟩) (by assumption) ?rr3
    case hy3 => intro w hSw; (try dsimp only at hSw); go_simp; all_goals with_reducible rfl
    try simp only [Act.put, List.setIfInBounds_toArray, List.set_cons_zero, List.set_cons_succ]
    refine wpAnyH_take (i := 5) (oi := { dst := some 70, op := Go.Op.move (Go.Operand.tmp 69), type := 4, pos := "law.go:42", after := #[{ on := 4, ground := Go.Ground.data }, { on := 3, ground := Go.Ground.chain }], guard := none }) (v := ?vv4) rfl (by kernel_rfl) (by kernel_rfl) (by kernel_rfl) (fun _ _ _ h => h) (Or.inl ⟨by rfl, ?hy4⟩) (by assumption) ?rr4
    case hy4 => intro w hSw; (try dsimp only at hSw); go_simp; all_goals with_reducible rfl
    try simp only [Act.put, List.setIfInBounds_toArray, List.set_cons_zero, List.set_cons_succ]
    refine wpAnyH_take (i := 6) (oi := { dst := some 71, op := Go.Op.move (Go.Operand.tmp 5), type := 3, pos := "law.go:42", after := #[{ on := 5, ground := Go.Ground.guard }], guard := some (5, false) }) (v := ?vv5) rfl (by kernel_rfl) (by kernel_rfl) (by kernel_rfl) (fun _ _ _ h => h) (Or.inl ⟨by rfl, ?hy5⟩) (by assumption) ?rr5
    case hy5 => intro w hSw; (try dsimp only at hSw); go_simp; all_goals with_reducible rfl
    try simp only [Act.put, List.setIfInBounds_toArray, List.set_cons_zero, List.set_cons_succ]
    refine wpAnyH_take (i := 7) (oi := { dst := some 72, op := Go.Op.move (Go.Operand.tmp 7), type := 3, pos := "law.go:42", after := #[{ on := 5, ground := Go.Ground.guard }], guard := some (5, false) }) (v := ?vv6) rfl (by kernel_rfl) (by kernel_rfl) (by kernel_rfl) (fun _ _ _ h => h) (Or.inl ⟨by rfl, ?hy6⟩) (by assumption) ?rr6
    case hy6 => intro w hSw; (try dsimp only at hSw); go_simp; all_goals with_reducible rfl
    try simp only [Act.put, List.setIfInBounds_toArray, List.set_cons_zero, List.set_cons_succ]
    refine wpAnyH_take (i := 8) (oi := { dst := some 73, op := Go.Op.binOp Go.BinOp.neq 3 (Go.Operand.tmp 71) (Go.Operand.tmp 72) 3, type := 4, pos := "law.go:42", after := #[{ on := 6, ground := Go.Ground.data }, { on := 7, ground := Go.Ground.data }, { on := 5, ground := Go.Ground.guard }], guard := some (5, false) }) (v := ?vv7) rfl (by kernel_rfl) (by kernel_rfl) (by kernel_rfl) (fun _ _ _ h => h) (Or.inl ⟨by rfl, ?hy7⟩) (by assumption) ?rr7
    case hy7 => intro w hSw; (try dsimp only at hSw); go_simp; all_goals with_reducible rfl
    try simp only [Act.put, List.setIfInBounds_toArray, List.set_cons_zero, List.set_cons_succ]
    refine wpAnyH_take (i := 9) (oi := { dst := some 74, op := Go.Op.pick (Go.Operand.tmp 70) (Go.Operand.const (Go.Value.bool true)) (Go.Operand.tmp 73), type := 4, pos := "law.go:42", after := #[{ on := 5, ground := Go.Ground.data }, { on := 8, ground := Go.Ground.data }], guard := none }) (v := ?vv8) rfl (by kernel_rfl) (by kernel_rfl) (by kernel_rfl) (fun _ _ _ h => h) (Or.inl ⟨by rfl, ?hy8⟩) (by assumption) ?rr8
    case hy8 => intro w hSw; (try dsimp only at hSw); go_simp; all_goals with_reducible rfl
    try simp only [Act.put, List.setIfInBounds_toArray, List.set_cons_zero, List.set_cons_succ]
    refine wpAnyH_take (i := 10) (oi := { dst := some 75, op := Go.Op.move (Go.Operand.tmp 74), type := 4, pos := "law.go:42", after := #[{ on := 9, ground := Go.Ground.data }, { on := 5, ground := Go.Ground.chain }], guard := none }) (v := ?vv9) rfl (by kernel_rfl) (by kernel_rfl) (by kernel_rfl) (fun _ _ _ h => h) (Or.inl ⟨by rfl, ?hy9⟩) (by assumption) ?rr9
    case hy9 => intro w hSw; (try dsimp only at hSw); go_simp; all_goals with_reducible rfl
    try simp only [Act.put, List.setIfInBounds_toArray, List.set_cons_zero, List.set_cons_succ]
    refine wpAnyH_take (i := 11) (oi := { dst := some 76, op := Go.Op.move (Go.Operand.tmp 6), type := 29, pos := "law.go:42", after := #[{ on := 10, ground := Go.Ground.guard }], guard := some (10, false) }) (v := ?vv10) rfl (by kernel_rfl) (by kernel_rfl) (by kernel_rfl) (fun _ _ _ h => h) (Or.inl ⟨by rfl, ?hy10⟩) (by assumption) ?rr10
    case hy10 => intro w hSw; (try dsimp only at hSw); go_simp; all_goals with_reducible rfl
    try simp only [Act.put, List.setIfInBounds_toArray, List.set_cons_zero, List.set_cons_succ]
    refine wpAnyH_take (i := 12) (oi := { dst := some 77, op := Go.Op.move (Go.Operand.tmp 8), type := 29, pos := "law.go:42", after := #[{ on := 10, ground := Go.Ground.guard }], guard := some (10, false) }) (v := ?vv11) rfl (by kernel_rfl) (by kernel_rfl) (by kernel_rfl) (fun _ _ _ h => h) (Or.inl ⟨by rfl, ?hy11⟩) (by assumption) ?rr11
    case hy11 => intro w hSw; (try dsimp only at hSw); go_simp; all_goals with_reducible rfl
    try simp only [Act.put, List.setIfInBounds_toArray, List.set_cons_zero, List.set_cons_succ]
    refine wpAnyH_take (i := 13) (oi := { dst := some 78, op := Go.Op.binOp Go.BinOp.neq 29 (Go.Operand.tmp 76) (Go.Operand.tmp 77) 29, type := 4, pos := "law.go:42", after := #[{ on := 11, ground := Go.Ground.data }, { on := 12, ground := Go.Ground.data }, { on := 10, ground := Go.Ground.guard }], guard := some (10, false) }) (v := ?vv12) rfl (by kernel_rfl) (by kernel_rfl) (by kernel_rfl) (fun _ _ _ h => h) (Or.inl ⟨by rfl, ?hy12⟩) (by assumption) ?rr12
    case hy12 => intro w hSw; (try dsimp only at hSw); go_simp; all_goals with_reducible rfl
    try simp only [Act.put, List.setIfInBounds_toArray, List.set_cons_zero, List.set_cons_succ]
    refine wpAnyH_take (i := 14) (oi := { dst := some 79, op := Go.Op.pick (Go.Operand.tmp 75) (Go.Operand.const (Go.Value.bool true)) (Go.Operand.tmp 78), type := 4, pos := "law.go:42", after := #[{ on := 10, ground := Go.Ground.data }, { on := 13, ground := Go.Ground.data }], guard := none }) (v := ?vv13) rfl (by kernel_rfl) (by kernel_rfl) (by kernel_rfl) (fun _ _ _ h => h) (Or.inl ⟨by rfl, ?hy13⟩) (by assumption) ?rr13
    case hy13 => intro w hSw; (try dsimp only at hSw); go_simp; all_goals with_reducible rfl
    try simp only [Act.put, List.setIfInBounds_toArray, List.set_cons_zero, List.set_cons_succ]
    refine wpAnyH_take (i := 15) (oi := { dst := some 80, op := Go.Op.move (Go.Operand.tmp 79), type := 4, pos := "law.go:42", after := #[{ on := 14, ground := Go.Ground.data }, { on := 10, ground := Go.Ground.chain }], guard := none }) (v := ?vv14) rfl (by kernel_rfl) (by kernel_rfl) (by kernel_rfl) (fun _ _ _ h => h) (Or.inl ⟨by rfl, ?hy14⟩) (by assumption) ?rr14
    case hy14 => intro w hSw; (try dsimp only at hSw); go_simp; all_goals with_reducible rfl
    try simp only [Act.put, List.setIfInBounds_toArray, List.set_cons_zero, List.set_cons_succ]
    refine wpAnyH_take (i := 16) (oi := { dst := some 81, op := Go.Op.move (Go.Operand.tmp 9), type := 3, pos := "law.go:42", after := #[{ on := 15, ground := Go.Ground.guard }], guard := some (15, false) }) (v := ?vv15) rfl (by kernel_rfl) (by kernel_rfl) (by kernel_rfl) (fun _ _ _ h => h) (Or.inl ⟨by rfl, ?hy15⟩) (by assumption) ?rr15
    case hy15 => intro w hSw; (try dsimp only at hSw); go_simp; all_goals with_reducible rfl
    try simp only [Act.put, List.setIfInBounds_toArray, List.set_cons_zero, List.set_cons_succ]
    refine wpAnyH_take (i := 17) (oi := { dst := some 82, op := Go.Op.move (Go.Operand.tmp 11), type := 3, pos := "law.go:42", after := #[{ on := 15, ground := Go.Ground.guard }], guard := some (15, false) }) (v := ?vv16) rfl (by kernel_rfl) (by kernel_rfl) (by kernel_rfl) (fun _ _ _ h => h) (Or.inl ⟨by rfl, ?hy16⟩) (by assumption) ?rr16
    case hy16 => intro w hSw; (try dsimp only at hSw); go_simp; all_goals with_reducible rfl
    try simp only [Act.put, List.setIfInBounds_toArray, List.set_cons_zero, List.set_cons_succ]
    refine wpAnyH_take (i := 18) (oi := { dst := some 83, op := Go.Op.binOp Go.BinOp.neq 3 (Go.Operand.tmp 81) (Go.Operand.tmp 82) 3, type := 4, pos := "law.go:42", after := #[{ on := 16, ground := Go.Ground.data }, { on := 17, ground := Go.Ground.data }, { on := 15, ground := Go.Ground.guard }], guard := some (15, false) }) (v := ?vv17) rfl (by kernel_rfl) (by kernel_rfl) (by kernel_rfl) (fun _ _ _ h => h) (Or.inl ⟨by rfl, ?hy17⟩) (by assumption) ?rr17
    case hy17 => intro w hSw; (try dsimp only at hSw); go_simp; all_goals with_reducible rfl
    try simp only [Act.put, List.setIfInBounds_toArray, List.set_cons_zero, List.set_cons_succ]
    refine wpAnyH_take (i := 19) (oi := { dst := some 84, op := Go.Op.pick (Go.Operand.tmp 80) (Go.Operand.const (Go.Value.bool true)) (Go.Operand.tmp 83), type := 4, pos := "law.go:42", after := #[{ on := 15, ground := Go.Ground.data }, { on := 18, ground := Go.Ground.data }], guard := none }) (v := ?vv18) rfl (by kernel_rfl) (by kernel_rfl) (by kernel_rfl) (fun _ _ _ h => h) (Or.inl ⟨by rfl, ?hy18⟩) (by assumption) ?rr18
    case hy18 => intro w hSw; (try dsimp only at hSw); go_simp; all_goals with_reducible rfl
    try simp only [Act.put, List.setIfInBounds_toArray, List.set_cons_zero, List.set_cons_succ]
    refine wpAnyH_take (i := 20) (oi := { dst := some 85, op := Go.Op.move (Go.Operand.tmp 84), type := 4, pos := "law.go:42", after := #[{ on := 19, ground := Go.Ground.data }, { on := 15, ground := Go.Ground.chain }], guard := none }) (v := ?vv19) rfl (by kernel_rfl) (by kernel_rfl) (by kernel_rfl) (fun _ _ _ h => h) (Or.inl ⟨by rfl, ?hy19⟩) (by assumption) ?rr19
    case hy19 => intro w hSw; (try dsimp only at hSw); go_simp; all_goals with_reducible rfl
    try simp only [Act.put, List.setIfInBounds_toArray, List.set_cons_zero, List.set_cons_succ]
    refine wpAnyH_take (i := 21) (oi := { dst := some 86, op := Go.Op.move (Go.Operand.tmp 10), type := 29, pos := "law.go:42", after := #[{ on := 20, ground := Go.Ground.guard }], guard := some (20, false) }) (v := ?vv20) rfl (by kernel_rfl) (by kernel_rfl) (by kernel_rfl) (fun _ _ _ h => h) (Or.inl ⟨by rfl, ?hy20⟩) (by assumption) ?rr20
    case hy20 => intro w hSw; (try dsimp only at hSw); go_simp; all_goals with_reducible rfl
    try simp only [Act.put, List.setIfInBounds_toArray, List.set_cons_zero, List.set_cons_succ]
    refine wpAnyH_take (i := 22) (oi := { dst := some 87, op := Go.Op.move (Go.Operand.tmp 12), type := 29, pos := "law.go:42", after := #[{ on := 20, ground := Go.Ground.guard }], guard := some (20, false) }) (v := ?vv21) rfl (by kernel_rfl) (by kernel_rfl) (by kernel_rfl) (fun _ _ _ h => h) (Or.inl ⟨by rfl, ?hy21⟩) (by assumption) ?rr21
    case hy21 => intro w hSw; (try dsimp only at hSw); go_simp; all_goals with_reducible rfl
    try simp only [Act.put, List.setIfInBounds_toArray, List.set_cons_zero, List.set_cons_succ]
    refine wpAnyH_take (i := 23) (oi := { dst := some 88, op := Go.Op.binOp Go.BinOp.neq 29 (Go.Operand.tmp 86) (Go.Operand.tmp 87) 29, type := 4, pos := "law.go:42", after := #[{ on := 21, ground := Go.Ground.data }, { on := 22, ground := Go.Ground.data }, { on := 20, ground := Go.Ground.guard }], guard := some (20, false) }) (v := ?vv22) rfl (by kernel_rfl) (by kernel_rfl) (by kernel_rfl) (fun _ _ _ h => h) (Or.inl ⟨by rfl, ?hy22⟩) (by assumption) ?rr22
    case hy22 => intro w hSw; (try dsimp only at hSw); go_simp; all_goals with_reducible rfl
    try simp only [Act.put, List.setIfInBounds_toArray, List.set_cons_zero, List.set_cons_succ]
    refine wpAnyH_take (i := 24) (oi := { dst := some 89, op := Go.Op.pick (Go.Operand.tmp 85) (Go.Operand.const (Go.Value.bool true)) (Go.Operand.tmp 88), type := 4, pos := "law.go:42", after := #[{ on := 20, ground := Go.Ground.data }, { on := 23, ground := Go.Ground.data }], guard := none }) (v := ?vv23) rfl (by kernel_rfl) (by kernel_rfl) (by kernel_rfl) (fun _ _ _ h => h) (Or.inl ⟨by rfl, ?hy23⟩) (by assumption) ?rr23
    case hy23 => intro w hSw; (try dsimp only at hSw); go_simp; all_goals with_reducible rfl
    try simp only [Act.put, List.setIfInBounds_toArray, List.set_cons_zero, List.set_cons_succ]
    refine wpAnyH_done (by kernel_rfl) ?_ _
    have hHeldB := hHeld.2.2.2
    rename World => w6
    have HB6 := hid (HB5.out.trans (hHeldB.mono HB5.out.size))
    have X6 := hid (X5.out.later hHeldB)
    have Y6 := hid (Y5.out.later hHeldB)
    have O6 := hid (O5.out.below hHeldB)
    clear hHeld hHeldB hH1 hH2 x0 x1 x2 y0 y1 y2
    have x0 := X6.out.cell 0
    have x1 := X6.out.cell 1
    have x2 := X6.out.cell 2
    have y0 := Y6.out.cell 0
    have y1 := Y6.out.cell 1
    have y2 := Y6.out.cell 2
    simp only [List.getElem?_toArray, List.getElem?_cons_zero, List.getElem?_cons_succ] at x0 x1 x2 y0 y1 y2
    go_wp2_with fail
    refine (set_any h a b d A c _ O6.out HF.out).mono ?_
    rintro e w7 ⟨A7, c7, ls, rfl, hls, hown, hb⟩
    rw [← Nk1.out, ← Ne1.out]
    rw [← Nk1.out] at hls
    have ho := own_obs hown hls
    clear hls hown
    have HAL := hid (below_alloc w7 (.cells #[Value.slice A7 k1.objs.length c7, Value.int .i64 k1.cap, Value.int .i64 k1.last] 24))
    have HB7 := hid ((HB6.out.trans (hb.mono HB6.out.size)).trans (HAL.out.mono (Nat.le_trans HB6.out.size hb.size)))
    have X7 := hid ((X6.out.later hb).later HAL.out)
    have Y7 := hid ((Y6.out.later hb).later HAL.out)
    have O7 := hid ((O6.out.below hb).below HAL.out)
    have Ga7 := hid (Lies.new w7 24 #[Value.slice A7 k1.objs.length c7, Value.int .i64 k1.cap, Value.int .i64 k1.last])
    have Pa7 := hid (ho.below HAL.out)
    clear x0 x1 x2 y0 y1 y2
    clear hb
    clear ho HAL
    have x0 := X7.out.cell 0
    have x1 := X7.out.cell 1
    have x2 := X7.out.cell 2
    have y0 := Y7.out.cell 0
    have y1 := Y7.out.cell 1
    have y2 := Y7.out.cell 2
    have ga0 := Ga7.out.cell 0
    have ga1 := Ga7.out.cell 1
    have ga2 := Ga7.out.cell 2
    simp only [List.getElem?_toArray, List.getElem?_cons_zero, List.getElem?_cons_succ] at x0 x1 x2 y0 y1 y2 ga0 ga1 ga2
    go_wp2_with fail
    refine (rset_any h a b d A c _ O7.out HF.out).mono ?_
    rintro e w8 ⟨A8, c8, rfl, ho, hb⟩
    rw [← Nk1.out, ← Ne1.out]
    rw [← Nk1.out] at ho
    have HAL := hid (below_alloc w8 (.cells #[Value.slice A8 k1.objs.length c8, Value.int .i64 k1.cap, Value.int .i64 k1.last] 24))
    have HB8 := hid ((HB7.out.trans (hb.mono HB7.out.size)).trans (HAL.out.mono (Nat.le_trans HB7.out.size hb.size)))
    have X8 := hid ((X7.out.later hb).later HAL.out)
    have Y8 := hid ((Y7.out.later hb).later HAL.out)
    have Ga8 := hid ((Ga7.out.later hb).later HAL.out)
    have O8 := hid ((O7.out.below hb).below HAL.out)
    have Pa8 := hid ((Pa7.out.below hb).below HAL.out)
    have Gb8 := hid (Lies.new w8 24 #[Value.slice A8 k1.objs.length c8, Value.int .i64 k1.cap, Value.int .i64 k1.last])
    have Pb8 := hid (ho.below HAL.out)
    clear x0 x1 x2 y0 y1 y2 ga0 ga1 ga2
    clear hb
    clear ho HAL
    have x0 := X8.out.cell 0
    have x1 := X8.out.cell 1
    have x2 := X8.out.cell 2
    have y0 := Y8.out.cell 0
    have y1 := Y8.out.cell 1
    have y2 := Y8.out.cell 2
    have ga0 := Ga8.out.cell 0
    have ga1 := Ga8.out.cell 1
    have ga2 := Ga8.out.cell 2
    have gb0 := Gb8.out.cell 0
    have gb1 := Gb8.out.cell 1
    have gb2 := Gb8.out.cell 2
    simp only [List.getElem?_toArray, List.getElem?_cons_zero, List.getElem?_cons_succ] at x0 x1 x2 y0 y1 y2 ga0 ga1 ga2 gb0 gb1 gb2
    go_wp2_with fail
    refine (setbyte_any h a b d A c _ O8.out HF.out).mono ?_
    rintro e w9 ⟨A9, c9, ls, rfl, hls, hown, hb⟩
    rw [← Nk2.out, ← Ne2.out]
    rw [← Nk2.out] at hls
    have ho := own_obs hown hls
    clear hls hown
    have HAL := hid (below_alloc w9 (.cells #[Value.slice A9 k2.objs.length c9, Value.int .i64 k2.cap, Value.int .i64 k2.last] 24))
    have HB9 := hid ((HB8.out.trans (hb.mono HB8.out.size)).trans (HAL.out.mono (Nat.le_trans HB8.out.size hb.size)))
    have X9 := hid ((X8.out.later hb).later HAL.out)
    have Y9 := hid ((Y8.out.later hb).later HAL.out)
    have Ga9 := hid ((Ga8.out.later hb).later HAL.out)
    have Gb9 := hid ((Gb8.out.later hb).later HAL.out)
    have O9 := hid ((O8.out.below hb).below HAL.out)
    have Pa9 := hid ((Pa8.out.below hb).below HAL.out)
    have Pb9 := hid ((Pb8.out.below hb).below HAL.out)
    have Gc9 := hid (Lies.new w9 24 #[Value.slice A9 k2.objs.length c9, Value.int .i64 k2.cap, Value.int .i64 k2.last])
    have Pc9 := hid (ho.below HAL.out)
    clear x0 x1 x2 y0 y1 y2 ga0 ga1 ga2 gb0 gb1 gb2
    clear hb
    clear ho HAL
    have x0 := X9.out.cell 0
    have x1 := X9.out.cell 1
    have x2 := X9.out.cell 2
    have y0 := Y9.out.cell 0
    have y1 := Y9.out.cell 1
    have y2 := Y9.out.cell 2
    have ga0 := Ga9.out.cell 0
    have ga1 := Ga9.out.cell 1
    have ga2 := Ga9.out.cell 2
    have gb0 := Gb9.out.cell 0
    have gb1 := Gb9.out.cell 1
    have gb2 := Gb9.out.cell 2
    have gc0 := Gc9.out.cell 0
    have gc1 := Gc9.out.cell 1
    have gc2 := Gc9.out.cell 2
    simp only [List.getElem?_toArray, List.getElem?_cons_zero, List.getElem?_cons_succ] at x0 x1 x2 y0 y1 y2 ga0 ga1 ga2 gb0 gb1 gb2 gc0 gc1 gc2
    go_wp2_with fail
    refine (rsetbyte_any h a b d A c _ O9.out HF.out).mono ?_
    rintro e w10 ⟨A10, c10, rfl, ho, hb⟩
    rw [← Nk2.out, ← Ne2.out]
    rw [← Nk2.out] at ho
    have HAL := hid (below_alloc w10 (.cells #[Value.slice A10 k2.objs.length c10, Value.int .i64 k2.cap, Value.int .i64 k2.last] 24))
    have HB10 := hid ((HB9.out.trans (hb.mono HB9.out.size)).trans (HAL.out.mono (Nat.le_trans HB9.out.size hb.size)))
    have X10 := hid ((X9.out.later hb).later HAL.out)
    have Y10 := hid ((Y9.out.later hb).later HAL.out)
    have Ga10 := hid ((Ga9.out.later hb).later HAL.out)
    have Gb10 := hid ((Gb9.out.later hb).later HAL.out)
    have Gc10 := hid ((Gc9.out.later hb).later HAL.out)
    have O10 := hid ((O9.out.below hb).below HAL.out)
    have Pa10 := hid ((Pa9.out.below hb).below HAL.out)
    have Pb10 := hid ((Pb9.out.below hb).below HAL.out)
    have Pc10 := hid ((Pc9.out.below hb).below HAL.out)
    have Gd10 := hid (Lies.new w10 24 #[Value.slice A10 k2.objs.length c10, Value.int .i64 k2.cap, Value.int .i64 k2.last])
    have Pd10 := hid (ho.below HAL.out)
    clear x0 x1 x2 y0 y1 y2 ga0 ga1 ga2 gb0 gb1 gb2 gc0 gc1 gc2
    clear hb
    clear ho HAL
    have x0 := X10.out.cell 0
    have x1 := X10.out.cell 1
    have x2 := X10.out.cell 2
    have y0 := Y10.out.cell 0
    have y1 := Y10.out.cell 1
    have y2 := Y10.out.cell 2
    have ga0 := Ga10.out.cell 0
    have ga1 := Ga10.out.cell 1
    have ga2 := Ga10.out.cell 2
    have gb0 := Gb10.out.cell 0
    have gb1 := Gb10.out.cell 1
    have gb2 := Gb10.out.cell 2
    have gc0 := Gc10.out.cell 0
    have gc1 := Gc10.out.cell 1
    have gc2 := Gc10.out.cell 2
    have gd0 := Gd10.out.cell 0
    have gd1 := Gd10.out.cell 1
    have gd2 := Gd10.out.cell 2
    simp only [List.getElem?_toArray, List.getElem?_cons_zero, List.getElem?_cons_succ] at x0 x1 x2 y0 y1 y2 ga0 ga1 ga2 gb0 gb1 gb2 gc0 gc1 gc2 gd0 gd1 gd2
    go_wp2_with fail
    refine (become_any h a d A c _ O10.out HF.out).mono ?_
    rintro e w11 ⟨A11, c11, ls, rfl, hls, hown, hb⟩
    rw [← Nk3.out, ← Ne3.out]
    rw [← Nk3.out] at hls
    have ho := own_obs hown hls
    clear hls hown
    have HAL := hid (below_alloc w11 (.cells #[Value.slice A11 k3.objs.length c11, Value.int .i64 k3.cap, Value.int .i64 k3.last] 24))
    have HB11 := hid ((HB10.out.trans (hb.mono HB10.out.size)).trans (HAL.out.mono (Nat.le_trans HB10.out.size hb.size)))
    have X11 := hid ((X10.out.later hb).later HAL.out)
    have Y11 := hid ((Y10.out.later hb).later HAL.out)
    have Ga11 := hid ((Ga10.out.later hb).later HAL.out)
    have Gb11 := hid ((Gb10.out.later hb).later HAL.out)
    have Gc11 := hid ((Gc10.out.later hb).later HAL.out)
    have Gd11 := hid ((Gd10.out.later hb).later HAL.out)
    have O11 := hid ((O10.out.below hb).below HAL.out)
    have Pa11 := hid ((Pa10.out.below hb).below HAL.out)
    have Pb11 := hid ((Pb10.out.below hb).below HAL.out)
    have Pc11 := hid ((Pc10.out.below hb).below HAL.out)
    have Pd11 := hid ((Pd10.out.below hb).below HAL.out)
    have Ge11 := hid (Lies.new w11 24 #[Value.slice A11 k3.objs.length c11, Value.int .i64 k3.cap, Value.int .i64 k3.last])
    have Pe11 := hid (ho.below HAL.out)
    clear x0 x1 x2 y0 y1 y2 ga0 ga1 ga2 gb0 gb1 gb2 gc0 gc1 gc2 gd0 gd1 gd2
    clear hb
    clear ho HAL
    have x0 := X11.out.cell 0
    have x1 := X11.out.cell 1
    have x2 := X11.out.cell 2
    have y0 := Y11.out.cell 0
    have y1 := Y11.out.cell 1
    have y2 := Y11.out.cell 2
    have ga0 := Ga11.out.cell 0
    have ga1 := Ga11.out.cell 1
    have ga2 := Ga11.out.cell 2
    have gb0 := Gb11.out.cell 0
    have gb1 := Gb11.out.cell 1
    have gb2 := Gb11.out.cell 2
    have gc0 := Gc11.out.cell 0
    have gc1 := Gc11.out.cell 1
    have gc2 := Gc11.out.cell 2
    have gd0 := Gd11.out.cell 0
    have gd1 := Gd11.out.cell 1
    have gd2 := Gd11.out.cell 2
    have ge0 := Ge11.out.cell 0
    have ge1 := Ge11.out.cell 1
    have ge2 := Ge11.out.cell 2
    simp only [List.getElem?_toArray, List.getElem?_cons_zero, List.getElem?_cons_succ] at x0 x1 x2 y0 y1 y2 ga0 ga1 ga2 gb0 gb1 gb2 gc0 gc1 gc2 gd0 gd1 gd2 ge0 ge1 ge2
    go_wp2_with fail
    refine (rbecome_any h a d A c _ O11.out HF.out).mono ?_
    rintro e w12 ⟨A12, c12, rfl, ho, hb⟩
    rw [← Nk3.out, ← Ne3.out]
    rw [← Nk3.out] at ho
    have HAL := hid (below_alloc w12 (.cells #[Value.slice A12 k3.objs.length c12, Value.int .i64 k3.cap, Value.int .i64 k3.last] 24))
    have HB12 := hid ((HB11.out.trans (hb.mono HB11.out.size)).trans (HAL.out.mono (Nat.le_trans HB11.out.size hb.size)))
    have X12 := hid ((X11.out.later hb).later HAL.out)
    have Y12 := hid ((Y11.out.later hb).later HAL.out)
    have Ga12 := hid ((Ga11.out.later hb).later HAL.out)
    have Gb12 := hid ((Gb11.out.later hb).later HAL.out)
    have Gc12 := hid ((Gc11.out.later hb).later HAL.out)
    have Gd12 := hid ((Gd11.out.later hb).later HAL.out)
    have Ge12 := hid ((Ge11.out.later hb).later HAL.out)
    have O12 := hid ((O11.out.below hb).below HAL.out)
    have Pa12 := hid ((Pa11.out.below hb).below HAL.out)
    have Pb12 := hid ((Pb11.out.below hb).below HAL.out)
    have Pc12 := hid ((Pc11.out.below hb).below HAL.out)
    have Pd12 := hid ((Pd11.out.below hb).below HAL.out)
    have Pe12 := hid ((Pe11.out.below hb).below HAL.out)
    have Gf12 := hid (Lies.new w12 24 #[Value.slice A12 k3.objs.length c12, Value.int .i64 k3.cap, Value.int .i64 k3.last])
    have Pf12 := hid (ho.below HAL.out)
    clear x0 x1 x2 y0 y1 y2 ga0 ga1 ga2 gb0 gb1 gb2 gc0 gc1 gc2 gd0 gd1 gd2 ge0 ge1 ge2
    clear hb
    clear ho HAL
    have x0 := X12.out.cell 0
    have x1 := X12.out.cell 1
    have x2 := X12.out.cell 2
    have y0 := Y12.out.cell 0
    have y1 := Y12.out.cell 1
    have y2 := Y12.out.cell 2
    have ga0 := Ga12.out.cell 0
    have ga1 := Ga12.out.cell 1
    have ga2 := Ga12.out.cell 2
    have gb0 := Gb12.out.cell 0
    have gb1 := Gb12.out.cell 1
    have gb2 := Gb12.out.cell 2
    have gc0 := Gc12.out.cell 0
    have gc1 := Gc12.out.cell 1
    have gc2 := Gc12.out.cell 2
    have gd0 := Gd12.out.cell 0
    have gd1 := Gd12.out.cell 1
    have gd2 := Gd12.out.cell 2
    have ge0 := Ge12.out.cell 0
    have ge1 := Ge12.out.cell 1
    have ge2 := Ge12.out.cell 2
    have gf0 := Gf12.out.cell 0
    have gf1 := Gf12.out.cell 1
    have gf2 := Gf12.out.cell 2
    simp only [List.getElem?_toArray, List.getElem?_cons_zero, List.getElem?_cons_succ] at x0 x1 x2 y0 y1 y2 ga0 ga1 ga2 gb0 gb1 gb2 gc0 gc1 gc2 gd0 gd1 gd2 ge0 ge1 ge2 gf0 gf1 gf2
    go_wp2_with fail
    refine (fixed_any _).mono ?_
    rintro e w13 ⟨rfl, hb⟩
    have HB13 := hid (HB12.out.trans (hb.mono HB12.out.size))
    have X13 := hid (X12.out.later hb)
    have Y13 := hid (Y12.out.later hb)
    have Ga13 := hid (Ga12.out.later hb)
    have Gb13 := hid (Gb12.out.later hb)
    have Gc13 := hid (Gc12.out.later hb)
    have Gd13 := hid (Gd12.out.later hb)
    have Ge13 := hid (Ge12.out.later hb)
    have Gf13 := hid (Gf12.out.later hb)
    have O13 := hid (O12.out.below hb)
    have Pa13 := hid (Pa12.out.below hb)
    have Pb13 := hid (Pb12.out.below hb)
    have Pc13 := hid (Pc12.out.below hb)
    have Pd13 := hid (Pd12.out.below hb)
    have Pe13 := hid (Pe12.out.below hb)
    have Pf13 := hid (Pf12.out.below hb)
    clear x0 x1 x2 y0 y1 y2 ga0 ga1 ga2 gb0 gb1 gb2 gc0 gc1 gc2 gd0 gd1 gd2 ge0 ge1 ge2 gf0 gf1 gf2
    clear hb
    have x0 := X13.out.cell 0
    have x1 := X13.out.cell 1
    have x2 := X13.out.cell 2
    have y0 := Y13.out.cell 0
    have y1 := Y13.out.cell 1
    have y2 := Y13.out.cell 2
    have ga0 := Ga13.out.cell 0
    have ga1 := Ga13.out.cell 1
    have ga2 := Ga13.out.cell 2
    have gb0 := Gb13.out.cell 0
    have gb1 := Gb13.out.cell 1
    have gb2 := Gb13.out.cell 2
    have gc0 := Gc13.out.cell 0
    have gc1 := Gc13.out.cell 1
    have gc2 := Gc13.out.cell 2
    have gd0 := Gd13.out.cell 0
    have gd1 := Gd13.out.cell 1
    have gd2 := Gd13.out.cell 2
    have ge0 := Ge13.out.cell 0
    have ge1 := Ge13.out.cell 1
    have ge2 := Ge13.out.cell 2
    have gf0 := Gf13.out.cell 0
    have gf1 := Gf13.out.cell 1
    have gf2 := Gf13.out.cell 2
    simp only [List.getElem?_toArray, List.getElem?_cons_zero, List.getElem?_cons_succ] at x0 x1 x2 y0 y1 y2 ga0 ga1 ga2 gb0 gb1 gb2 gc0 gc1 gc2 gd0 gd1 gd2 ge0 ge1 ge2 gf0 gf1 gf2
    go_wp2_with fail
    refine (same_any k1 A7 A8 c7 c8 _ Pa13.out Pb13.out HF1.out).mono ?_
    rintro e w14 ⟨rfl, hb⟩
    have HB14 := hid (HB13.out.trans (hb.mono HB13.out.size))
    have X14 := hid (X13.out.later hb)
    have Y14 := hid (Y13.out.later hb)
    have Ga14 := hid (Ga13.out.later hb)
    have Gb14 := hid (Gb13.out.later hb)
    have Gc14 := hid (Gc13.out.later hb)
    have Gd14 := hid (Gd13.out.later hb)
    have Ge14 := hid (Ge13.out.later hb)
    have Gf14 := hid (Gf13.out.later hb)
    have O14 := hid (O13.out.below hb)
    have Pa14 := hid (Pa13.out.below hb)
    have Pb14 := hid (Pb13.out.below hb)
    have Pc14 := hid (Pc13.out.below hb)
    have Pd14 := hid (Pd13.out.below hb)
    have Pe14 := hid (Pe13.out.below hb)
    have Pf14 := hid (Pf13.out.below hb)
    clear x0 x1 x2 y0 y1 y2 ga0 ga1 ga2 gb0 gb1 gb2 gc0 gc1 gc2 gd0 gd1 gd2 ge0 ge1 ge2 gf0 gf1 gf2
    clear hb
    have x0 := X14.out.cell 0
    have x1 := X14.out.cell 1
    have x2 := X14.out.cell 2
    have y0 := Y14.out.cell 0
    have y1 := Y14.out.cell 1
    have y2 := Y14.out.cell 2
    have ga0 := Ga14.out.cell 0
    have ga1 := Ga14.out.cell 1
    have ga2 := Ga14.out.cell 2
    have gb0 := Gb14.out.cell 0
    have gb1 := Gb14.out.cell 1
    have gb2 := Gb14.out.cell 2
    have gc0 := Gc14.out.cell 0
    have gc1 := Gc14.out.cell 1
    have gc2 := Gc14.out.cell 2
    have gd0 := Gd14.out.cell 0
    have gd1 := Gd14.out.cell 1
    have gd2 := Gd14.out.cell 2
    have ge0 := Ge14.out.cell 0
    have ge1 := Ge14.out.cell 1
    have ge2 := Ge14.out.cell 2
    have gf0 := Gf14.out.cell 0
    have gf1 := Gf14.out.cell 1
    have gf2 := Gf14.out.cell 2
    simp only [List.getElem?_toArray, List.getElem?_cons_zero, List.getElem?_cons_succ] at x0 x1 x2 y0 y1 y2 ga0 ga1 ga2 gb0 gb1 gb2 gc0 gc1 gc2 gd0 gd1 gd2 ge0 ge1 ge2 gf0 gf1 gf2
    go_wp2_with fail
    refine (same_any k2 A9 A10 c9 c10 _ Pc14.out Pd14.out HF2.out).mono ?_
    rintro e w15 ⟨rfl, hb⟩
    have HB15 := hid (HB14.out.trans (hb.mono HB14.out.size))
    have X15 := hid (X14.out.later hb)
    have Y15 := hid (Y14.out.later hb)
    have Ga15 := hid (Ga14.out.later hb)
    have Gb15 := hid (Gb14.out.later hb)
    have Gc15 := hid (Gc14.out.later hb)
    have Gd15 := hid (Gd14.out.later hb)
    have Ge15 := hid (Ge14.out.later hb)
    have Gf15 := hid (Gf14.out.later hb)
    have O15 := hid (O14.out.below hb)
    have Pa15 := hid (Pa14.out.below hb)
    have Pb15 := hid (Pb14.out.below hb)
    have Pc15 := hid (Pc14.out.below hb)
    have Pd15 := hid (Pd14.out.below hb)
    have Pe15 := hid (Pe14.out.below hb)
    have Pf15 := hid (Pf14.out.below hb)
    clear x0 x1 x2 y0 y1 y2 ga0 ga1 ga2 gb0 gb1 gb2 gc0 gc1 gc2 gd0 gd1 gd2 ge0 ge1 ge2 gf0 gf1 gf2
    clear hb
    have x0 := X15.out.cell 0
    have x1 := X15.out.cell 1
    have x2 := X15.out.cell 2
    have y0 := Y15.out.cell 0
    have y1 := Y15.out.cell 1
    have y2 := Y15.out.cell 2
    have ga0 := Ga15.out.cell 0
    have ga1 := Ga15.out.cell 1
    have ga2 := Ga15.out.cell 2
    have gb0 := Gb15.out.cell 0
    have gb1 := Gb15.out.cell 1
    have gb2 := Gb15.out.cell 2
    have gc0 := Gc15.out.cell 0
    have gc1 := Gc15.out.cell 1
    have gc2 := Gc15.out.cell 2
    have gd0 := Gd15.out.cell 0
    have gd1 := Gd15.out.cell 1
    have gd2 := Gd15.out.cell 2
    have ge0 := Ge15.out.cell 0
    have ge1 := Ge15.out.cell 1
    have ge2 := Ge15.out.cell 2
    have gf0 := Gf15.out.cell 0
    have gf1 := Gf15.out.cell 1
    have gf2 := Gf15.out.cell 2
    simp only [List.getElem?_toArray, List.getElem?_cons_zero, List.getElem?_cons_succ] at x0 x1 x2 y0 y1 y2 ga0 ga1 ga2 gb0 gb1 gb2 gc0 gc1 gc2 gd0 gd1 gd2 ge0 ge1 ge2 gf0 gf1 gf2
    go_wp2_with fail
    refine (same_any k3 A11 A12 c11 c12 _ Pe15.out Pf15.out HF3.out).mono ?_
    rintro e w16 ⟨rfl, hb⟩
    have HB16 := hid (HB15.out.trans (hb.mono HB15.out.size))
    have X16 := hid (X15.out.later hb)
    have Y16 := hid (Y15.out.later hb)
    have Ga16 := hid (Ga15.out.later hb)
    have Gb16 := hid (Gb15.out.later hb)
    have Gc16 := hid (Gc15.out.later hb)
    have Gd16 := hid (Gd15.out.later hb)
    have Ge16 := hid (Ge15.out.later hb)
    have Gf16 := hid (Gf15.out.later hb)
    have O16 := hid (O15.out.below hb)
    have Pa16 := hid (Pa15.out.below hb)
    have Pb16 := hid (Pb15.out.below hb)
    have Pc16 := hid (Pc15.out.below hb)
    have Pd16 := hid (Pd15.out.below hb)
    have Pe16 := hid (Pe15.out.below hb)
    have Pf16 := hid (Pf15.out.below hb)
    clear x0 x1 x2 y0 y1 y2 ga0 ga1 ga2 gb0 gb1 gb2 gc0 gc1 gc2 gd0 gd1 gd2 ge0 ge1 ge2 gf0 gf1 gf2
    clear hb
    have x0 := X16.out.cell 0
    have x1 := X16.out.cell 1
    have x2 := X16.out.cell 2
    have y0 := Y16.out.cell 0
    have y1 := Y16.out.cell 1
    have y2 := Y16.out.cell 2
    have ga0 := Ga16.out.cell 0
    have ga1 := Ga16.out.cell 1
    have ga2 := Ga16.out.cell 2
    have gb0 := Gb16.out.cell 0
    have gb1 := Gb16.out.cell 1
    have gb2 := Gb16.out.cell 2
    have gc0 := Gc16.out.cell 0
    have gc1 := Gc16.out.cell 1
    have gc2 := Gc16.out.cell 2
    have gd0 := Gd16.out.cell 0
    have gd1 := Gd16.out.cell 1
    have gd2 := Gd16.out.cell 2
    have ge0 := Ge16.out.cell 0
    have ge1 := Ge16.out.cell 1
    have ge2 := Ge16.out.cell 2
    have gf0 := Gf16.out.cell 0
    have gf1 := Gf16.out.cell 1
    have gf2 := Gf16.out.cell 2
    simp only [List.getElem?_toArray, List.getElem?_cons_zero, List.getElem?_cons_succ] at x0 x1 x2 y0 y1 y2 ga0 ga1 ga2 gb0 gb1 gb2 gc0 gc1 gc2 gd0 gd1 gd2 ge0 ge1 ge2 gf0 gf1 gf2
    go_wp2_with fail
    go_ret
    exact ⟨rfl, HB16.out⟩
end Go.Proofs.Ytelljlmjhnjpiaa
