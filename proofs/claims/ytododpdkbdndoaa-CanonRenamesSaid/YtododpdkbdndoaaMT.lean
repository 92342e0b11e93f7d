/- The document's met, turned and Values walked. -/
import Derived.Test.YtododpdkbdndoaaPL
import Derived.Test.YtododpdkbdndoaaNX
namespace Go.Proofs.Ytododpdkbdndoaa
open Go.RowKit
set_option maxRecDepth 100000
theorem refI_m1 {n : Nat} {v : Int} (h : refB n v = false) : refI n v = -1 := by unfold refI; rw [if_neg (by rw [h]; decide)]
/-- numbers met so far -/
def metK (h : Hp) (L : List Nat) (vs : List Int) (k : Nat) : List Int := iL (meets h L (vs.take k))
theorem metK_all (h : Hp) (L : List Nat) (vs : List Int) : metK h L vs vs.length = iL (meets h L vs) := by unfold metK; rw [List.take_length]
theorem metK_zero (h : Hp) (L : List Nat) (vs : List Int) : metK h L vs 0 = iL L := rfl
theorem metK_len {h : Hp} {L : List Nat} (ok : Okay h L) (vs : List Int) (k : Nat) : (metK h L vs k).length ≤ h.objs.length := by unfold metK; rw [cast_len]; exact (ok.meets _).len
theorem metK_old {h : Hp} {L : List Nat} {vs : List Int} {k : Nat} (hk : k < vs.length) (hm : refB h.objs.length vs[k] = true → ¬ plZ (metK h L vs k) (atV vs[k]) < 0) : metK h L vs (k + 1) = metK h L vs k := by
  unfold metK at hm ⊢
  rw [meets_take hk, meetL_old fun hr => ?_]
  have := hm hr
  rw [pl_new hr] at this
  exact Classical.not_not.1 this
theorem metK_new {h : Hp} {L : List Nat} {vs : List Int} {k : Nat} (hk : k < vs.length) (hr : refB h.objs.length vs[k] = true) (hm : plZ (metK h L vs k) (atV vs[k]) < 0) : metK h L vs (k + 1) = metK h L vs k ++ [atV vs[k]] := by
  unfold metK at hm ⊢
  rw [meets_take hk, meetL_new hr ((pl_new hr).1 hm)]
set_option maxHeartbeats 1500000 in
theorem met_any (h : Hp) (L : List Nat) (vs : List Int) (A B D : Option Addr) (c b d : Nat) (w : World) (hl : IntsR w B (iL L)) (hbn : B = none → b = 0) (hv : IntsR w D vs) (ok : Okay h L) (hn : h.objs.length ≤ 256) (hvl : vs.length ≤ 100000) :
    Calls Try.prog 71 #[.agg #[.slice A h.objs.length c, .int .i64 h.cap, .int .i64 h.last], .slice B (iL L).length b, .slice D vs.length d] w (IntsOwn w (iL (meets h L vs))) := by
  have HB0 := hid (below_alloc w (.cells #[Value.slice A h.objs.length c, Value.int .i64 h.cap, Value.int .i64 h.last] 24))
  have X0 := hid (Lies.new w 24 #[Value.slice A h.objs.length c, Value.int .i64 h.cap, Value.int .i64 h.last])
  have HL := hid hl
  have HV := hid hv
  have HLE : Hid (∀ k, k ≤ vs.length → (metK h L vs k).length ≤ 256) := fun k _ => Nat.le_trans (metK_len ok vs k) hn
  have hL0 := HLE.out 0 (Nat.zero_le _)
  rw [metK_zero] at hL0
  have HALL := hid (metK_all h L vs)
  have HZ := hid (metK_zero h L vs)
  clear hl hv ok
  obtain ⟨i0, hi0, hz0, hz1, hz2⟩ := info_parts int_info
  have EE : Hid (((w.alloc (.cells #[Value.slice A h.objs.length c, Value.int .i64 h.cap, Value.int .i64 h.last] 24)).alloc (.cells #[] 3)).ownsRow (w.heap.size + 1) 3 1 (.slice (some ⟨w.heap.size + 1, 0, none⟩) 0 0) 0 (([] : List Int).map (Value.int .i64))) := by
    have := own_empty (w.alloc (.cells #[Value.slice A h.objs.length c, Value.int .i64 h.cap, Value.int .i64 h.last] 24))
    simpa [Hid] using this
  have EB := hid (below_alloc (w.alloc (.cells #[Value.slice A h.objs.length c, Value.int .i64 h.cap, Value.int .i64 h.last] 24)) (.cells #[] 3))
  have HLL := hid ((HL.out.below HB0.out).below EB.out)
  have XE := hid (X0.out.later EB.out)
  have HBE := hid (then_b HB0.out EB.out)
  go_enter Try.func71, Try.ntmps71
  go_wp2_with (at_builtin; refine wpList_append_ints rfl (.tmp 10) (.tmp 11) 44 rfl (w.heap.size + 1) i0 Try.underlying44 hi0 hz0 hz1 hz2 _ 0 _ rfl EE.out B b (iL L) rfl HLL.out hbn (by omega) (by simp) ?_)
  intro v' w1 h1 h2
  obtain ⟨A1, c1, rfl⟩ := own_form h1
  have h1 : w1.ownsRow (w.heap.size + 1) 3 1 (.slice A1 (metK h L vs 0).length c1) (metK h L vs 0).length ((metK h L vs 0).map (Value.int .i64)) := by rw [HZ.out]; simpa using h1
  have hb1 := HBE.out.grown h2 HBE.out.size (fun q hq => by have := (EE.out.lt q hq).1; omega)
  have hx1 := XE.out.grown h2 (fun e => own_blk_ne EE.out XE.out (by decide) e.symm)
  have hlz : (Value.slice A1 (0 + (iL L).length) c1) = .slice A1 (metK h L vs 0).length c1 := by rw [HZ.out, Nat.zero_add]
  have hlz2 : (0 + (iL L).length) = (iL L).length := Nat.zero_add _
  have H1 := hid h1
  have HB1 := hid hb1
  have HX1 := hid hx1
  have HLZ := hid hlz
  clear h1 h2 hb1 hx1 EE EB XE HBE HLL hlz
  go_wp2_with fail
  go_loopw [8, 7] (fun i s wr => ∃ (k : Nat) (A3 : Option Addr) (c3 : Nat), k ≤ vs.length ∧ i = .int .i64 k ∧ s = .slice A3 (metK h L vs k).length c3 ∧ wr.ownsRow (w.heap.size + 1) 3 1 (.slice A3 (metK h L vs k).length c3) (metK h L vs k).length ((metK h L vs k).map (Value.int .i64)) ∧ Lies wr w.heap.size 24 #[Value.slice A h.objs.length c, Value.int .i64 h.cap, Value.int .i64 h.last] ∧ Below w.heap.size w wr) (fun i _ _ => vs.length - (intOf i).toNat)
  case atStart => exact ⟨0, A1, c1, Nat.zero_le _, rfl, by first | rfl | (rw [← HLZ.out]) | (rw [HZ.out]), H1.out, HX1.out, HB1.out⟩
  case round =>
    obtain ⟨k, A3, c3, hk, rfl, rfl, hown, hbox, hbw⟩ := hrel
    rename World => wo
    have HW := hid hbw
    have HO := hid hown
    have HX := hid hbox
    have x0 := hbox.cell 0
    have x1 := hbox.cell 1
    have x2 := hbox.cell 2
    simp only [List.getElem?_toArray, List.getElem?_cons_zero, List.getElem?_cons_succ] at x0 x1 x2
    clear hown hbw hbox
    have hpl := HLE.out k hk
    by_cases hlt : k < vs.length
    · obtain ⟨bs, os, rfl, hbs, hcs⟩ := HV.out (by omega)
      have rc := (HW.out.cell (p := ⟨bs, os + k, none⟩) hbs).trans (hcs k _ (List.getElem?_eq_getElem hlt))
      obtain ⟨v, hv⟩ : ∃ v, v = vs[k] := ⟨_, rfl⟩
      rw [← hv] at rc
      clear hcs
      have HOLD : Hid ((refB h.objs.length v = true → ¬ plZ (metK h L vs k) (atV v) < 0) → metK h L vs (k + 1) = metK h L vs k) := fun g => metK_old hlt (by rw [← hv]; exact g)
      have HNEW : Hid (refB h.objs.length v = true → plZ (metK h L vs k) (atV v) < 0 → metK h L vs (k + 1) = metK h L vs k ++ [atV v]) := fun g1 g2 => by rw [hv]; exact metK_new hlt (by rw [← hv]; exact g1) (by rw [← hv]; exact g2)
      clear hv
      cases hr : refB h.objs.length v
      · have rv : refI h.objs.length v = -1 := refI_m1 hr
        have HRS := hid (HOLD.out (fun g => by rw [hr] at g; cases g))
        clear HOLD HNEW
        go_wp2_with fail
        refine wp_region_held_drew (S := (fun w' => w'.cell? ⟨w.heap.size, 0, none⟩ = some (.slice A h.objs.length c) ∧ w'.cell? ⟨w.heap.size, 1, none⟩ = some (.int .i64 h.cap) ∧ w'.cell? ⟨w.heap.size, 2, none⟩ = some (.int .i64 h.last) ∧ w'.cell? ⟨bs, os + k, none⟩ = some (.int .i64 v) ∧ Below w.heap.size w w')) (by kernel_rfl) ?_ (fun hHeld => ?_)
        · exact ⟨x0, x1, x2, rc, HW.out.drew⟩
        refine wpAnyH_take (i := 0) (oi := { dst := some 19, op := Go.Op.load 24 (Go.Operand.tmp 3), type := 24, pos := "ref.go:25", after := #[], guard := none }) (v := ?vv1) rfl (by kernel_rfl) (by kernel_rfl) (by kernel_rfl) (fun _ _ _ h => h) (Or.inl ⟨by rfl, ?hy1⟩) (by assumption) ?rr1
        case hy1 => intro w hSw; (try dsimp only at hSw); go_simp; all_goals with_reducible rfl
        try simp only [Act.put, List.setIfInBounds_toArray, List.set_cons_zero, List.set_cons_succ]
        refine wpAnyH_take (i := 1) (oi := { dst := some 20, op := Go.Op.move (Go.Operand.tmp 2), type := 44, pos := "ref.go:25", after := #[], guard := none }) (v := ?vv2) rfl (by kernel_rfl) (by kernel_rfl) (by kernel_rfl) (fun _ _ _ h => h) (Or.inl ⟨by rfl, ?hy2⟩) (by assumption) ?rr2
        case hy2 => intro w hSw; (try dsimp only at hSw); go_simp; all_goals with_reducible rfl
        try simp only [Act.put, List.setIfInBounds_toArray, List.set_cons_zero, List.set_cons_succ]
        refine wpAnyH_take (i := 2) (oi := { dst := some 21, op := Go.Op.move (Go.Operand.tmp 8), type := 3, pos := "ref.go:25", after := #[], guard := none }) (v := ?vv3) rfl (by kernel_rfl) (by kernel_rfl) (by kernel_rfl) (fun _ _ _ h => h) (Or.inl ⟨by rfl, ?hy3⟩) (by assumption) ?rr3
        case hy3 => intro w hSw; (try dsimp only at hSw); go_simp; all_goals with_reducible rfl
        try simp only [Act.put, List.setIfInBounds_toArray, List.set_cons_zero, List.set_cons_succ]
        refine wpAnyH_take (i := 3) (oi := { dst := some 22, op := Go.Op.indexAddr 44 (Go.Operand.tmp 20) (Go.Operand.tmp 21), type := 0, pos := "ref.go:25", after := #[{ on := 1, ground := Go.Ground.data }, { on := 2, ground := Go.Ground.data }], guard := none }) (v := ?vv4) rfl (by kernel_rfl) (by kernel_rfl) (by kernel_rfl) (fun _ _ _ h => h) (Or.inl ⟨by rfl, ?hy4⟩) (by assumption) ?rr4
        case hy4 => intro w hSw; (try dsimp only at hSw); go_simp; all_goals with_reducible rfl
        try simp only [Act.put, List.setIfInBounds_toArray, List.set_cons_zero, List.set_cons_succ]
        refine wpAnyH_take (i := 4) (oi := { dst := some 23, op := Go.Op.load 3 (Go.Operand.tmp 22), type := 3, pos := "ref.go:25", after := #[{ on := 3, ground := Go.Ground.data }], guard := none }) (v := ?vv5) rfl (by kernel_rfl) (by kernel_rfl) (by kernel_rfl) (fun _ _ _ h => h) (Or.inl ⟨by rfl, ?hy5⟩) (by assumption) ?rr5
        case hy5 => intro w hSw; (try dsimp only at hSw); go_simp; all_goals with_reducible rfl
        try simp only [Act.put, List.setIfInBounds_toArray, List.set_cons_zero, List.set_cons_succ]
        refine wpAnyH_ready (rs := [5]) (by kernel_rfl) (by simp) ?_
        refine AllReadyH.cons (i := 5) (o := { dst := some 24, op := Go.Op.call { callee := Go.Callee.value (Go.Operand.func 35), args := #[Go.Operand.tmp 19, Go.Operand.tmp 23], argTypes := #[24, 3] }, type := 3, pos := "ref.go:25", after := #[{ on := 0, ground := Go.Ground.data }, { on := 4, ground := Go.Ground.data }], guard := none }) rfl (fun K hK => ?_) AllReadyH.nil
        go_simp
        go_at_call 35
        refine (rref_any h v A c _).mono ?_
        rintro e w' ⟨rfl, hb⟩
        rw [rv]
        have HBr := hid hb
        refine hK.out _ _ ?_ (fun hHeld => ?_)
        · exact ⟨cell_later hb x0, cell_later hb x1, cell_later hb x2, cell_later hb rc, then_b HW.out.drew hb⟩
        clear hK K
        try simp only [Act.put, List.setIfInBounds_toArray, List.set_cons_zero, List.set_cons_succ]
        have hH1 := hHeld
        clear hHeld hb
        have hHeld := hH1
        refine wpAnyH_take (i := 6) (oi := { dst := some 9, op := Go.Op.assign (Go.Operand.tmp 24), type := 3, pos := "ref.go:25", after := #[{ on := 5, ground := Go.Ground.data }, { on := 5, ground := Go.Ground.chain }, { on := 0, ground := Go.Ground.phase }, { on := 1, ground := Go.Ground.phase }, { on := 2, ground := Go.Ground.phase }, { on := 3, ground := Go.Ground.phase }, { on := 4, ground := Go.Ground.phase }, { on := 5, ground := Go.Ground.phase }], guard := none }) (v := ?vv6) rfl (by kernel_rfl) (by kernel_rfl) (by kernel_rfl) (fun _ _ _ h => h) (Or.inl ⟨by rfl, ?hy6⟩) (by assumption) ?rr6
        case hy6 => intro w hSw; (try dsimp only at hSw); go_simp; all_goals with_reducible rfl
        try simp only [Act.put, List.setIfInBounds_toArray, List.set_cons_zero, List.set_cons_succ]
        refine wpAnyH_done (by kernel_rfl) ?_ _
        have hHeldB := hHeld.2.2.2.2
        have rc2 := hHeld.2.2.2.1
        have HW2 := hid hHeldB
        have HX2 := hid (HX.out.later (then_b (Below.refl _ wo).drew HBr.out))
        have HO2 := hid (own_later HO.out.drew HBr.out)
        clear hHeld hH1 hHeldB HBr x0 x1 x2 rc
        rename World => w2
        go_wp2_with fail
        go_roundw
        case rel => exact ⟨k + 1, A3, c3, by omega, by go_num, by rw [HRS.out], by rw [HRS.out]; exact HO2.out, HX2.out, HW2.out⟩
        case measure => simp [intOf]; omega
      · have rv : refI h.objs.length v = atV v := refI_nonneg hr
        obtain ⟨q, hq⟩ : ∃ q, q = atV v := ⟨_, rfl⟩
        have hq0 : 0 ≤ q := by rw [hq]; exact (refB_no hr).2.1
        rw [← hq] at rv HOLD HNEW
        clear hq
        obtain ⟨p, hp⟩ : ∃ p, p = plZ (metK h L vs k) q := ⟨_, rfl⟩
        rw [← hp] at HOLD HNEW
        have HP := hid hp
        clear hp
        by_cases hp0 : p < 0
        · have HRS := hid (HNEW.out hr hp0)
          clear HOLD HNEW
          go_wp2_with fail
          refine wp_region_held_drew (S := (fun w' => w'.cell? ⟨w.heap.size, 0, none⟩ = some (.slice A h.objs.length c) ∧ w'.cell? ⟨w.heap.size, 1, none⟩ = some (.int .i64 h.cap) ∧ w'.cell? ⟨w.heap.size, 2, none⟩ = some (.int .i64 h.last) ∧ w'.cell? ⟨bs, os + k, none⟩ = some (.int .i64 v) ∧ Below w.heap.size w w')) (by kernel_rfl) ?_ (fun hHeld => ?_)
          · exact ⟨x0, x1, x2, rc, HW.out.drew⟩
          refine wpAnyH_take (i := 0) (oi := { dst := some 19, op := Go.Op.load 24 (Go.Operand.tmp 3), type := 24, pos := "ref.go:25", after := #[], guard := none }) (v := ?vv7) rfl (by kernel_rfl) (by kernel_rfl) (by kernel_rfl) (fun _ _ _ h => h) (Or.inl ⟨by rfl, ?hy7⟩) (by assumption) ?rr7
          case hy7 => intro w hSw; (try dsimp only at hSw); go_simp; all_goals with_reducible rfl
          try simp only [Act.put, List.setIfInBounds_toArray, List.set_cons_zero, List.set_cons_succ]
          refine wpAnyH_take (i := 1) (oi := { dst := some 20, op := Go.Op.move (Go.Operand.tmp 2), type := 44, pos := "ref.go:25", after := #[], guard := none }) (v := ?vv8) rfl (by kernel_rfl) (by kernel_rfl) (by kernel_rfl) (fun _ _ _ h => h) (Or.inl ⟨by rfl, ?hy8⟩) (by assumption) ?rr8
          case hy8 => intro w hSw; (try dsimp only at hSw); go_simp; all_goals with_reducible rfl
          try simp only [Act.put, List.setIfInBounds_toArray, List.set_cons_zero, List.set_cons_succ]
          refine wpAnyH_take (i := 2) (oi := { dst := some 21, op := Go.Op.move (Go.Operand.tmp 8), type := 3, pos := "ref.go:25", after := #[], guard := none }) (v := ?vv9) rfl (by kernel_rfl) (by kernel_rfl) (by kernel_rfl) (fun _ _ _ h => h) (Or.inl ⟨by rfl, ?hy9⟩) (by assumption) ?rr9
          case hy9 => intro w hSw; (try dsimp only at hSw); go_simp; all_goals with_reducible rfl
          try simp only [Act.put, List.setIfInBounds_toArray, List.set_cons_zero, List.set_cons_succ]
          refine wpAnyH_take (i := 3) (oi := { dst := some 22, op := Go.Op.indexAddr 44 (Go.Operand.tmp 20) (Go.Operand.tmp 21), type := 0, pos := "ref.go:25", after := #[{ on := 1, ground := Go.Ground.data }, { on := 2, ground := Go.Ground.data }], guard := none }) (v := ?vv10) rfl (by kernel_rfl) (by kernel_rfl) (by kernel_rfl) (fun _ _ _ h => h) (Or.inl ⟨by rfl, ?hy10⟩) (by assumption) ?rr10
          case hy10 => intro w hSw; (try dsimp only at hSw); go_simp; all_goals with_reducible rfl
          try simp only [Act.put, List.setIfInBounds_toArray, List.set_cons_zero, List.set_cons_succ]
          refine wpAnyH_take (i := 4) (oi := { dst := some 23, op := Go.Op.load 3 (Go.Operand.tmp 22), type := 3, pos := "ref.go:25", after := #[{ on := 3, ground := Go.Ground.data }], guard := none }) (v := ?vv11) rfl (by kernel_rfl) (by kernel_rfl) (by kernel_rfl) (fun _ _ _ h => h) (Or.inl ⟨by rfl, ?hy11⟩) (by assumption) ?rr11
          case hy11 => intro w hSw; (try dsimp only at hSw); go_simp; all_goals with_reducible rfl
          try simp only [Act.put, List.setIfInBounds_toArray, List.set_cons_zero, List.set_cons_succ]
          refine wpAnyH_ready (rs := [5]) (by kernel_rfl) (by simp) ?_
          refine AllReadyH.cons (i := 5) (o := { dst := some 24, op := Go.Op.call { callee := Go.Callee.value (Go.Operand.func 35), args := #[Go.Operand.tmp 19, Go.Operand.tmp 23], argTypes := #[24, 3] }, type := 3, pos := "ref.go:25", after := #[{ on := 0, ground := Go.Ground.data }, { on := 4, ground := Go.Ground.data }], guard := none }) rfl (fun K hK => ?_) AllReadyH.nil
          go_simp
          go_at_call 35
          refine (rref_any h v A c _).mono ?_
          rintro e w' ⟨rfl, hb⟩
          rw [rv]
          have HBr := hid hb
          refine hK.out _ _ ?_ (fun hHeld => ?_)
          · exact ⟨cell_later hb x0, cell_later hb x1, cell_later hb x2, cell_later hb rc, then_b HW.out.drew hb⟩
          clear hK K
          try simp only [Act.put, List.setIfInBounds_toArray, List.set_cons_zero, List.set_cons_succ]
          have hH1 := hHeld
          clear hHeld hb
          have hHeld := hH1
          refine wpAnyH_take (i := 6) (oi := { dst := some 9, op := Go.Op.assign (Go.Operand.tmp 24), type := 3, pos := "ref.go:25", after := #[{ on := 5, ground := Go.Ground.data }, { on := 5, ground := Go.Ground.chain }, { on := 0, ground := Go.Ground.phase }, { on := 1, ground := Go.Ground.phase }, { on := 2, ground := Go.Ground.phase }, { on := 3, ground := Go.Ground.phase }, { on := 4, ground := Go.Ground.phase }, { on := 5, ground := Go.Ground.phase }], guard := none }) (v := ?vv12) rfl (by kernel_rfl) (by kernel_rfl) (by kernel_rfl) (fun _ _ _ h => h) (Or.inl ⟨by rfl, ?hy12⟩) (by assumption) ?rr12
          case hy12 => intro w hSw; (try dsimp only at hSw); go_simp; all_goals with_reducible rfl
          try simp only [Act.put, List.setIfInBounds_toArray, List.set_cons_zero, List.set_cons_succ]
          refine wpAnyH_done (by kernel_rfl) ?_ _
          have hHeldB := hHeld.2.2.2.2
          have rc2 := hHeld.2.2.2.1
          have HW2 := hid hHeldB
          have HX2 := hid (HX.out.later (then_b (Below.refl _ wo).drew HBr.out))
          have HO2 := hid (own_later HO.out.drew HBr.out)
          clear hHeld hH1 hHeldB HBr x0 x1 x2 rc
          rename World => w2
          go_wp2_with fail
          refine (place6_any (metK h L vs k) q A3 c3 w2 (own_ints HO2.out) (by omega)).mono ?_
          rintro e w' ⟨rfl, rfl⟩
          rw [← HP.out]
          have hz := HW2.out.size
          have HAL := hid (below_alloc w2 (.cells #[.int .i64 q] 3))
          have HO3 := hid (own_later HO2.out HAL.out)
          have HN := hid (Lies.new w2 3 #[.int .i64 q])
          have hzx := HX2.out.lt
          have hz2 : w.heap.size + 1 ≤ (w2.alloc (.cells #[.int .i64 q] 3)).heap.size := by simp; omega
          go_wp2_with (at_builtin; refine wpList_append_one rfl (.tmp 33) (.tmp 35) rfl (w.heap.size + 1) _ _ _ rfl HO3.out _ _ rfl HN.out (by omega) hz2 ?_)
          intro v' w' h1 h2
          obtain ⟨A4, c4, rfl⟩ := own_form h1
          have hps := congrArg List.length HRS.out
          rw [List.length_append, List.length_singleton] at hps
          have h1 : w'.ownsRow (w.heap.size + 1) 3 1 (.slice A4 (metK h L vs (k + 1)).length c4) (metK h L vs (k + 1)).length ((metK h L vs (k + 1)).map (Value.int .i64)) := by rw [hps, HRS.out, List.map_append]; exact h1
          have hb2 := HW2.out.trans ((HAL.out.mono hz).grown h2 (by simp; omega) (fun q hq => by have := (HO3.out.lt q hq).1; omega))
          have hx4 := (HX2.out.later HAL.out).grown h2 (fun e => own_blk_ne HO3.out (HX2.out.later HAL.out) (by decide) e.symm)
          have H1 := hid h1
          have HB2 := hid hb2
          have HX4 := hid hx4
          have HPL := hid hps
          clear h1 h2 hb2 hps hx4
          go_wp2_with fail
          go_roundw
          case rel => exact ⟨k + 1, A4, c4, by omega, by go_num, by rw [HPL.out], H1.out, HX4.out, HB2.out⟩
          case measure => simp [intOf]; omega
        · have HRS := hid (HOLD.out (fun _ => hp0))
          have hp1 : 0 ≤ p := by omega
          clear HOLD HNEW hp0
          go_wp2_with fail
          refine wp_region_held_drew (S := (fun w' => w'.cell? ⟨w.heap.size, 0, none⟩ = some (.slice A h.objs.length c) ∧ w'.cell? ⟨w.heap.size, 1, none⟩ = some (.int .i64 h.cap) ∧ w'.cell? ⟨w.heap.size, 2, none⟩ = some (.int .i64 h.last) ∧ w'.cell? ⟨bs, os + k, none⟩ = some (.int .i64 v) ∧ Below w.heap.size w w')) (by kernel_rfl) ?_ (fun hHeld => ?_)
          · exact ⟨x0, x1, x2, rc, HW.out.drew⟩
          refine wpAnyH_take (i := 0) (oi := { dst := some 19, op := Go.Op.load 24 (Go.Operand.tmp 3), type := 24, pos := "ref.go:25", after := #[], guard := none }) (v := ?vv13) rfl (by kernel_rfl) (by kernel_rfl) (by kernel_rfl) (fun _ _ _ h => h) (Or.inl ⟨by rfl, ?hy13⟩) (by assumption) ?rr13
          case hy13 => intro w hSw; (try dsimp only at hSw); go_simp; all_goals with_reducible rfl
          try simp only [Act.put, List.setIfInBounds_toArray, List.set_cons_zero, List.set_cons_succ]
          refine wpAnyH_take (i := 1) (oi := { dst := some 20, op := Go.Op.move (Go.Operand.tmp 2), type := 44, pos := "ref.go:25", after := #[], guard := none }) (v := ?vv14) rfl (by kernel_rfl) (by kernel_rfl) (by kernel_rfl) (fun _ _ _ h => h) (Or.inl ⟨by rfl, ?hy14⟩) (by assumption) ?rr14
          case hy14 => intro w hSw; (try dsimp only at hSw); go_simp; all_goals with_reducible rfl
          try simp only [Act.put, List.setIfInBounds_toArray, List.set_cons_zero, List.set_cons_succ]
          refine wpAnyH_take (i := 2) (oi := { dst := some 21, op := Go.Op.move (Go.Operand.tmp 8), type := 3, pos := "ref.go:25", after := #[], guard := none }) (v := ?vv15) rfl (by kernel_rfl) (by kernel_rfl) (by kernel_rfl) (fun _ _ _ h => h) (Or.inl ⟨by rfl, ?hy15⟩) (by assumption) ?rr15
          case hy15 => intro w hSw; (try dsimp only at hSw); go_simp; all_goals with_reducible rfl
          try simp only [Act.put, List.setIfInBounds_toArray, List.set_cons_zero, List.set_cons_succ]
          refine wpAnyH_take (i := 3) (oi := { dst := some 22, op := Go.Op.indexAddr 44 (Go.Operand.tmp 20) (Go.Operand.tmp 21), type := 0, pos := "ref.go:25", after := #[{ on := 1, ground := Go.Ground.data }, { on := 2, ground := Go.Ground.data }], guard := none }) (v := ?vv16) rfl (by kernel_rfl) (by kernel_rfl) (by kernel_rfl) (fun _ _ _ h => h) (Or.inl ⟨by rfl, ?hy16⟩) (by assumption) ?rr16
          case hy16 => intro w hSw; (try dsimp only at hSw); go_simp; all_goals with_reducible rfl
          try simp only [Act.put, List.setIfInBounds_toArray, List.set_cons_zero, List.set_cons_succ]
          refine wpAnyH_take (i := 4) (oi := { dst := some 23, op := Go.Op.load 3 (Go.Operand.tmp 22), type := 3, pos := "ref.go:25", after := #[{ on := 3, ground := Go.Ground.data }], guard := none }) (v := ?vv17) rfl (by kernel_rfl) (by kernel_rfl) (by kernel_rfl) (fun _ _ _ h => h) (Or.inl ⟨by rfl, ?hy17⟩) (by assumption) ?rr17
          case hy17 => intro w hSw; (try dsimp only at hSw); go_simp; all_goals with_reducible rfl
          try simp only [Act.put, List.setIfInBounds_toArray, List.set_cons_zero, List.set_cons_succ]
          refine wpAnyH_ready (rs := [5]) (by kernel_rfl) (by simp) ?_
          refine AllReadyH.cons (i := 5) (o := { dst := some 24, op := Go.Op.call { callee := Go.Callee.value (Go.Operand.func 35), args := #[Go.Operand.tmp 19, Go.Operand.tmp 23], argTypes := #[24, 3] }, type := 3, pos := "ref.go:25", after := #[{ on := 0, ground := Go.Ground.data }, { on := 4, ground := Go.Ground.data }], guard := none }) rfl (fun K hK => ?_) AllReadyH.nil
          go_simp
          go_at_call 35
          refine (rref_any h v A c _).mono ?_
          rintro e w' ⟨rfl, hb⟩
          rw [rv]
          have HBr := hid hb
          refine hK.out _ _ ?_ (fun hHeld => ?_)
          · exact ⟨cell_later hb x0, cell_later hb x1, cell_later hb x2, cell_later hb rc, then_b HW.out.drew hb⟩
          clear hK K
          try simp only [Act.put, List.setIfInBounds_toArray, List.set_cons_zero, List.set_cons_succ]
          have hH1 := hHeld
          clear hHeld hb
          have hHeld := hH1
          refine wpAnyH_take (i := 6) (oi := { dst := some 9, op := Go.Op.assign (Go.Operand.tmp 24), type := 3, pos := "ref.go:25", after := #[{ on := 5, ground := Go.Ground.data }, { on := 5, ground := Go.Ground.chain }, { on := 0, ground := Go.Ground.phase }, { on := 1, ground := Go.Ground.phase }, { on := 2, ground := Go.Ground.phase }, { on := 3, ground := Go.Ground.phase }, { on := 4, ground := Go.Ground.phase }, { on := 5, ground := Go.Ground.phase }], guard := none }) (v := ?vv18) rfl (by kernel_rfl) (by kernel_rfl) (by kernel_rfl) (fun _ _ _ h => h) (Or.inl ⟨by rfl, ?hy18⟩) (by assumption) ?rr18
          case hy18 => intro w hSw; (try dsimp only at hSw); go_simp; all_goals with_reducible rfl
          try simp only [Act.put, List.setIfInBounds_toArray, List.set_cons_zero, List.set_cons_succ]
          refine wpAnyH_done (by kernel_rfl) ?_ _
          have hHeldB := hHeld.2.2.2.2
          have rc2 := hHeld.2.2.2.1
          have HW2 := hid hHeldB
          have HX2 := hid (HX.out.later (then_b (Below.refl _ wo).drew HBr.out))
          have HO2 := hid (own_later HO.out.drew HBr.out)
          clear hHeld hH1 hHeldB HBr x0 x1 x2 rc
          rename World => w2
          go_wp2_with fail
          refine (place6_any (metK h L vs k) q A3 c3 w2 (own_ints HO2.out) (by omega)).mono ?_
          rintro e w' ⟨rfl, rfl⟩
          rw [← HP.out]
          go_wp2_with fail
          go_roundw
          case rel => exact ⟨k + 1, A3, c3, by omega, by go_num, by rw [HRS.out], by rw [HRS.out]; exact HO2.out, HX2.out, HW2.out⟩
          case measure => simp [intOf]; omega
    · obtain rfl : k = vs.length := by omega
      go_wp2_with fail
      go_ret
      have hO := HO.out
      rw [HALL.out] at hO
      exact ⟨A3, c3, by rw [HALL.out]; rfl, own_lower hO (by omega), HW.out⟩
set_option maxHeartbeats 1500000 in
theorem turned_any (h : Hp) (L : List Int) (vs : List Int) (A B D : Option Addr) (c b d : Nat) (w : World) (hl : IntsR w B L) (hv : IntsR w D vs) (hll : L.length ≤ 100000) (hvl : vs.length ≤ 100000) :
    Calls Try.prog 72 #[.agg #[.slice A h.objs.length c, .int .i64 h.cap, .int .i64 h.last], .slice B L.length b, .slice D vs.length d] w (IntsOwn w (vs.map (tuV h.objs.length L))) := by
  have HB0 := hid (below_alloc w (.cells #[Value.slice A h.objs.length c, Value.int .i64 h.cap, Value.int .i64 h.last] 24))
  have X0 := hid (Lies.new w 24 #[Value.slice A h.objs.length c, Value.int .i64 h.cap, Value.int .i64 h.last])
  have HL := hid hl
  have HV := hid hv
  have HLE : Hid (∀ k, k ≤ vs.length → (takeG (tuV h.objs.length L) vs k).length ≤ k) := fun k _ => by unfold takeG; rw [List.length_map, List.length_take]; omega
  have HALL := hid (takeG_all (tuV h.objs.length L) vs)
  clear hl hv
  have EE : Hid (((w.alloc (.cells #[Value.slice A h.objs.length c, Value.int .i64 h.cap, Value.int .i64 h.last] 24)).alloc (.cells #[] 3)).ownsRow (w.heap.size + 1) 3 1 (.slice (some ⟨w.heap.size + 1, 0, none⟩) 0 0) 0 (([] : List Int).map (Value.int .i64))) := by
    have := own_empty (w.alloc (.cells #[Value.slice A h.objs.length c, Value.int .i64 h.cap, Value.int .i64 h.last] 24))
    simpa [Hid] using this
  have EB := hid (below_alloc (w.alloc (.cells #[Value.slice A h.objs.length c, Value.int .i64 h.cap, Value.int .i64 h.last] 24)) (.cells #[] 3))
  have XE := hid (X0.out.later EB.out)
  have HBE := hid (then_b HB0.out EB.out)
  go_enter Try.func72, Try.ntmps72
  go_wp2_with fail
  go_loopw [8, 7] (fun i s wr => ∃ (k : Nat) (A3 : Option Addr) (c3 : Nat), k ≤ vs.length ∧ i = .int .i64 k ∧ s = .slice A3 (takeG (tuV h.objs.length L) vs k).length c3 ∧ wr.ownsRow (w.heap.size + 1) 3 1 (.slice A3 (takeG (tuV h.objs.length L) vs k).length c3) (takeG (tuV h.objs.length L) vs k).length ((takeG (tuV h.objs.length L) vs k).map (Value.int .i64)) ∧ Lies wr w.heap.size 24 #[Value.slice A h.objs.length c, Value.int .i64 h.cap, Value.int .i64 h.last] ∧ Below w.heap.size w wr) (fun i _ _ => vs.length - (intOf i).toNat)
  case atStart => exact ⟨0, _, _, Nat.zero_le _, rfl, rfl, EE.out, XE.out, HBE.out⟩
  case round =>
    obtain ⟨k, A3, c3, hk, rfl, rfl, hown, hbox, hbw⟩ := hrel
    rename World => wo
    have HW := hid hbw
    have HO := hid hown
    have HX := hid hbox
    have x0 := hbox.cell 0
    have x1 := hbox.cell 1
    have x2 := hbox.cell 2
    simp only [List.getElem?_toArray, List.getElem?_cons_zero, List.getElem?_cons_succ] at x0 x1 x2
    clear hown hbw hbox
    have hpl := HLE.out k hk
    by_cases hlt : k < vs.length
    · obtain ⟨bs, os, rfl, hbs, hcs⟩ := HV.out (by omega)
      have rc := (HW.out.cell (p := ⟨bs, os + k, none⟩) hbs).trans (hcs k _ (List.getElem?_eq_getElem hlt))
      obtain ⟨v, hv⟩ : ∃ v, v = vs[k] := ⟨_, rfl⟩
      rw [← hv] at rc
      clear hcs
      have htm := takeG_map (tuV h.objs.length L) vs k hlt
      rw [← hv] at htm
      clear hv
      cases hr : refB h.objs.length v
      · have rv : refI h.objs.length v = -1 := refI_m1 hr
        have htv : tuV h.objs.length L v = v := by unfold tuV; rw [if_neg (by rw [hr]; decide)]
        rw [htv] at htm
        have HRS := hid htm
        clear htm htv
        go_wp2_with fail
        refine wp_region_held_drew (S := (fun w' => w'.cell? ⟨w.heap.size, 0, none⟩ = some (.slice A h.objs.length c) ∧ w'.cell? ⟨w.heap.size, 1, none⟩ = some (.int .i64 h.cap) ∧ w'.cell? ⟨w.heap.size, 2, none⟩ = some (.int .i64 h.last) ∧ w'.cell? ⟨bs, os + k, none⟩ = some (.int .i64 v) ∧ Below w.heap.size w w')) (by kernel_rfl) ?_ (fun hHeld => ?_)
        · exact ⟨x0, x1, x2, rc, HW.out.drew⟩
        refine wpAnyH_take (i := 0) (oi := { dst := some 17, op := Go.Op.load 24 (Go.Operand.tmp 3), type := 24, pos := "ref.go:37", after := #[], guard := none }) (v := ?vv19) rfl (by kernel_rfl) (by kernel_rfl) (by kernel_rfl) (fun _ _ _ h => h) (Or.inl ⟨by rfl, ?hy19⟩) (by assumption) ?rr19
        case hy19 => intro w hSw; (try dsimp only at hSw); go_simp; all_goals with_reducible rfl
        try simp only [Act.put, List.setIfInBounds_toArray, List.set_cons_zero, List.set_cons_succ]
        refine wpAnyH_take (i := 1) (oi := { dst := some 18, op := Go.Op.move (Go.Operand.tmp 2), type := 44, pos := "ref.go:37", after := #[], guard := none }) (v := ?vv20) rfl (by kernel_rfl) (by kernel_rfl) (by kernel_rfl) (fun _ _ _ h => h) (Or.inl ⟨by rfl, ?hy20⟩) (by assumption) ?rr20
        case hy20 => intro w hSw; (try dsimp only at hSw); go_simp; all_goals with_reducible rfl
        try simp only [Act.put, List.setIfInBounds_toArray, List.set_cons_zero, List.set_cons_succ]
        refine wpAnyH_take (i := 2) (oi := { dst := some 19, op := Go.Op.move (Go.Operand.tmp 8), type := 3, pos := "ref.go:37", after := #[], guard := none }) (v := ?vv21) rfl (by kernel_rfl) (by kernel_rfl) (by kernel_rfl) (fun _ _ _ h => h) (Or.inl ⟨by rfl, ?hy21⟩) (by assumption) ?rr21
        case hy21 => intro w hSw; (try dsimp only at hSw); go_simp; all_goals with_reducible rfl
        try simp only [Act.put, List.setIfInBounds_toArray, List.set_cons_zero, List.set_cons_succ]
        refine wpAnyH_take (i := 3) (oi := { dst := some 20, op := Go.Op.indexAddr 44 (Go.Operand.tmp 18) (Go.Operand.tmp 19), type := 0, pos := "ref.go:37", after := #[{ on := 1, ground := Go.Ground.data }, { on := 2, ground := Go.Ground.data }], guard := none }) (v := ?vv22) rfl (by kernel_rfl) (by kernel_rfl) (by kernel_rfl) (fun _ _ _ h => h) (Or.inl ⟨by rfl, ?hy22⟩) (by assumption) ?rr22
        case hy22 => intro w hSw; (try dsimp only at hSw); go_simp; all_goals with_reducible rfl
        try simp only [Act.put, List.setIfInBounds_toArray, List.set_cons_zero, List.set_cons_succ]
        refine wpAnyH_take (i := 4) (oi := { dst := some 21, op := Go.Op.load 3 (Go.Operand.tmp 20), type := 3, pos := "ref.go:37", after := #[{ on := 3, ground := Go.Ground.data }], guard := none }) (v := ?vv23) rfl (by kernel_rfl) (by kernel_rfl) (by kernel_rfl) (fun _ _ _ h => h) (Or.inl ⟨by rfl, ?hy23⟩) (by assumption) ?rr23
        case hy23 => intro w hSw; (try dsimp only at hSw); go_simp; all_goals with_reducible rfl
        try simp only [Act.put, List.setIfInBounds_toArray, List.set_cons_zero, List.set_cons_succ]
        refine wpAnyH_ready (rs := [5]) (by kernel_rfl) (by simp) ?_
        refine AllReadyH.cons (i := 5) (o := { dst := some 22, op := Go.Op.call { callee := Go.Callee.value (Go.Operand.func 35), args := #[Go.Operand.tmp 17, Go.Operand.tmp 21], argTypes := #[24, 3] }, type := 3, pos := "ref.go:37", after := #[{ on := 0, ground := Go.Ground.data }, { on := 4, ground := Go.Ground.data }], guard := none }) rfl (fun K hK => ?_) AllReadyH.nil
        go_simp
        go_at_call 35
        refine (rref_any h v A c _).mono ?_
        rintro e w' ⟨rfl, hb⟩
        rw [rv]
        have HBr := hid hb
        refine hK.out _ _ ?_ (fun hHeld => ?_)
        · exact ⟨cell_later hb x0, cell_later hb x1, cell_later hb x2, cell_later hb rc, then_b HW.out.drew hb⟩
        clear hK K
        try simp only [Act.put, List.setIfInBounds_toArray, List.set_cons_zero, List.set_cons_succ]
        have hH1 := hHeld
        clear hHeld hb
        have hHeld := hH1
        refine wpAnyH_take (i := 6) (oi := { dst := some 9, op := Go.Op.assign (Go.Operand.tmp 22), type := 3, pos := "ref.go:37", after := #[{ on := 5, ground := Go.Ground.data }, { on := 5, ground := Go.Ground.chain }, { on := 0, ground := Go.Ground.phase }, { on := 1, ground := Go.Ground.phase }, { on := 2, ground := Go.Ground.phase }, { on := 3, ground := Go.Ground.phase }, { on := 4, ground := Go.Ground.phase }, { on := 5, ground := Go.Ground.phase }], guard := none }) (v := ?vv24) rfl (by kernel_rfl) (by kernel_rfl) (by kernel_rfl) (fun _ _ _ h => h) (Or.inl ⟨by rfl, ?hy24⟩) (by assumption) ?rr24
        case hy24 => intro w hSw; (try dsimp only at hSw); go_simp; all_goals with_reducible rfl
        try simp only [Act.put, List.setIfInBounds_toArray, List.set_cons_zero, List.set_cons_succ]
        refine wpAnyH_done (by kernel_rfl) ?_ _
        have hHeldB := hHeld.2.2.2.2
        have rc2 := hHeld.2.2.2.1
        have HW2 := hid hHeldB
        have HX2 := hid (HX.out.later (then_b (Below.refl _ wo).drew HBr.out))
        have HO2 := hid (own_later HO.out.drew HBr.out)
        clear hHeld hH1 hHeldB HBr x0 x1 x2 rc
        rename World => w2
        have rc3 := cell_old (ob := .cells #[.int .i64 v] 3) rc2
        have hz := HW2.out.size
        have HAL := hid (below_alloc w2 (.cells #[.int .i64 v] 3))
        have HO3 := hid (own_later HO2.out HAL.out)
        have HN := hid (Lies.new w2 3 #[.int .i64 v])
        have hzx := HX2.out.lt
        have hz2 : w.heap.size + 1 ≤ (w2.alloc (.cells #[.int .i64 v] 3)).heap.size := by simp; omega
        go_wp2_with (at_builtin; refine wpList_append_one rfl (.tmp 25) (.tmp 30) rfl (w.heap.size + 1) _ _ _ rfl HO3.out _ _ rfl HN.out (by omega) hz2 ?_)
        intro v' w' h1 h2
        obtain ⟨A4, c4, rfl⟩ := own_form h1
        have hps := congrArg List.length HRS.out
        rw [List.length_append, List.length_singleton] at hps
        have h1 : w'.ownsRow (w.heap.size + 1) 3 1 (.slice A4 (takeG (tuV h.objs.length L) vs (k + 1)).length c4) (takeG (tuV h.objs.length L) vs (k + 1)).length ((takeG (tuV h.objs.length L) vs (k + 1)).map (Value.int .i64)) := by rw [hps, HRS.out, List.map_append]; exact h1
        have hb2 := HW2.out.trans ((HAL.out.mono hz).grown h2 (by simp; omega) (fun q hq => by have := (HO3.out.lt q hq).1; omega))
        have hx4 := (HX2.out.later HAL.out).grown h2 (fun e => own_blk_ne HO3.out (HX2.out.later HAL.out) (by decide) e.symm)
        have H1 := hid h1
        have HB2 := hid hb2
        have HX4 := hid hx4
        have HPL := hid hps
        clear h1 h2 hb2 hps hx4
        go_wp2_with fail
        go_roundw
        case rel => exact ⟨k + 1, A4, c4, by omega, by go_num, by rw [HPL.out], H1.out, HX4.out, HB2.out⟩
        case measure => simp [intOf]; omega
      · have rv : refI h.objs.length v = atV v := refI_nonneg hr
        obtain ⟨q, hq⟩ : ∃ q, q = atV v := ⟨_, rfl⟩
        have hq0 : 0 ≤ q := by rw [hq]; exact (refB_no hr).2.1
        have htv : tuV h.objs.length L v = 2 * plZ L q := by unfold tuV; rw [if_pos hr, hq]
        rw [← hq] at rv
        obtain ⟨p, hp⟩ : ∃ p, p = plZ L q := ⟨_, rfl⟩
        have hpr := plZ_range L q
        rw [← hp] at htv hpr
        have HPR : Hid (-1 ≤ p ∧ p ≤ 100000) := by show _ ∧ _; omega
        have hp1 := HPR.out.1
        have hp2 := HPR.out.2
        have HP := hid hp
        rw [htv] at htm
        clear hp hpr hq
        have HRS := hid htm
        clear htm htv
        go_wp2_with fail
        refine wp_region_held_drew (S := (fun w' => w'.cell? ⟨w.heap.size, 0, none⟩ = some (.slice A h.objs.length c) ∧ w'.cell? ⟨w.heap.size, 1, none⟩ = some (.int .i64 h.cap) ∧ w'.cell? ⟨w.heap.size, 2, none⟩ = some (.int .i64 h.last) ∧ w'.cell? ⟨bs, os + k, none⟩ = some (.int .i64 v) ∧ Below w.heap.size w w')) (by kernel_rfl) ?_ (fun hHeld => ?_)
        · exact ⟨x0, x1, x2, rc, HW.out.drew⟩
        refine wpAnyH_take (i := 0) (oi := { dst := some 17, op := Go.Op.load 24 (Go.Operand.tmp 3), type := 24, pos := "ref.go:37", after := #[], guard := none }) (v := ?vv25) rfl (by kernel_rfl) (by kernel_rfl) (by kernel_rfl) (fun _ _ _ h => h) (Or.inl ⟨by rfl, ?hy25⟩) (by assumption) ?rr25
        case hy25 => intro w hSw; (try dsimp only at hSw); go_simp; all_goals with_reducible rfl
        try simp only [Act.put, List.setIfInBounds_toArray, List.set_cons_zero, List.set_cons_succ]
        refine wpAnyH_take (i := 1) (oi := { dst := some 18, op := Go.Op.move (Go.Operand.tmp 2), type := 44, pos := "ref.go:37", after := #[], guard := none }) (v := ?vv26) rfl (by kernel_rfl) (by kernel_rfl) (by kernel_rfl) (fun _ _ _ h => h) (Or.inl ⟨by rfl, ?hy26⟩) (by assumption) ?rr26
        case hy26 => intro w hSw; (try dsimp only at hSw); go_simp; all_goals with_reducible rfl
        try simp only [Act.put, List.setIfInBounds_toArray, List.set_cons_zero, List.set_cons_succ]
        refine wpAnyH_take (i := 2) (oi := { dst := some 19, op := Go.Op.move (Go.Operand.tmp 8), type := 3, pos := "ref.go:37", after := #[], guard := none }) (v := ?vv27) rfl (by kernel_rfl) (by kernel_rfl) (by kernel_rfl) (fun _ _ _ h => h) (Or.inl ⟨by rfl, ?hy27⟩) (by assumption) ?rr27
        case hy27 => intro w hSw; (try dsimp only at hSw); go_simp; all_goals with_reducible rfl
        try simp only [Act.put, List.setIfInBounds_toArray, List.set_cons_zero, List.set_cons_succ]
        refine wpAnyH_take (i := 3) (oi := { dst := some 20, op := Go.Op.indexAddr 44 (Go.Operand.tmp 18) (Go.Operand.tmp 19), type := 0, pos := "ref.go:37", after := #[{ on := 1, ground := Go.Ground.data }, { on := 2, ground := Go.Ground.data }], guard := none }) (v := ?vv28) rfl (by kernel_rfl) (by kernel_rfl) (by kernel_rfl) (fun _ _ _ h => h) (Or.inl ⟨by rfl, ?hy28⟩) (by assumption) ?rr28
        case hy28 => intro w hSw; (try dsimp only at hSw); go_simp; all_goals with_reducible rfl
        try simp only [Act.put, List.setIfInBounds_toArray, List.set_cons_zero, List.set_cons_succ]
        refine wpAnyH_take (i := 4) (oi := { dst := some 21, op := Go.Op.load 3 (Go.Operand.tmp 20), type := 3, pos := "ref.go:37", after := #[{ on := 3, ground := Go.Ground.data }], guard := none }) (v := ?vv29) rfl (by kernel_rfl) (by kernel_rfl) (by kernel_rfl) (fun _ _ _ h => h) (Or.inl ⟨by rfl, ?hy29⟩) (by assumption) ?rr29
        case hy29 => intro w hSw; (try dsimp only at hSw); go_simp; all_goals with_reducible rfl
        try simp only [Act.put, List.setIfInBounds_toArray, List.set_cons_zero, List.set_cons_succ]
        refine wpAnyH_ready (rs := [5]) (by kernel_rfl) (by simp) ?_
        refine AllReadyH.cons (i := 5) (o := { dst := some 22, op := Go.Op.call { callee := Go.Callee.value (Go.Operand.func 35), args := #[Go.Operand.tmp 17, Go.Operand.tmp 21], argTypes := #[24, 3] }, type := 3, pos := "ref.go:37", after := #[{ on := 0, ground := Go.Ground.data }, { on := 4, ground := Go.Ground.data }], guard := none }) rfl (fun K hK => ?_) AllReadyH.nil
        go_simp
        go_at_call 35
        refine (rref_any h v A c _).mono ?_
        rintro e w' ⟨rfl, hb⟩
        rw [rv]
        have HBr := hid hb
        refine hK.out _ _ ?_ (fun hHeld => ?_)
        · exact ⟨cell_later hb x0, cell_later hb x1, cell_later hb x2, cell_later hb rc, then_b HW.out.drew hb⟩
        clear hK K
        try simp only [Act.put, List.setIfInBounds_toArray, List.set_cons_zero, List.set_cons_succ]
        have hH1 := hHeld
        clear hHeld hb
        have hHeld := hH1
        refine wpAnyH_take (i := 6) (oi := { dst := some 9, op := Go.Op.assign (Go.Operand.tmp 22), type := 3, pos := "ref.go:37", after := #[{ on := 5, ground := Go.Ground.data }, { on := 5, ground := Go.Ground.chain }, { on := 0, ground := Go.Ground.phase }, { on := 1, ground := Go.Ground.phase }, { on := 2, ground := Go.Ground.phase }, { on := 3, ground := Go.Ground.phase }, { on := 4, ground := Go.Ground.phase }, { on := 5, ground := Go.Ground.phase }], guard := none }) (v := ?vv30) rfl (by kernel_rfl) (by kernel_rfl) (by kernel_rfl) (fun _ _ _ h => h) (Or.inl ⟨by rfl, ?hy30⟩) (by assumption) ?rr30
        case hy30 => intro w hSw; (try dsimp only at hSw); go_simp; all_goals with_reducible rfl
        try simp only [Act.put, List.setIfInBounds_toArray, List.set_cons_zero, List.set_cons_succ]
        refine wpAnyH_done (by kernel_rfl) ?_ _
        have hHeldB := hHeld.2.2.2.2
        have rc2 := hHeld.2.2.2.1
        have HW2 := hid hHeldB
        have HX2 := hid (HX.out.later (then_b (Below.refl _ wo).drew HBr.out))
        have HO2 := hid (own_later HO.out.drew HBr.out)
        clear hHeld hH1 hHeldB HBr x0 x1 x2 rc
        rename World => w2
        go_wp2_with fail
        refine (place6_any L q B b w2 (HL.out.below HW2.out) (by omega)).mono ?_
        rintro e w' ⟨rfl, rfl⟩
        rw [← HP.out]
        have hz := HW2.out.size
        have HAL := hid (below_alloc w2 (.cells #[.int .i64 (2 * p)] 3))
        have HO3 := hid (own_later HO2.out HAL.out)
        have HN := hid (Lies.new w2 3 #[.int .i64 (2 * p)])
        have hzx := HX2.out.lt
        have hz2 : w.heap.size + 1 ≤ (w2.alloc (.cells #[.int .i64 (2 * p)] 3)).heap.size := by simp; omega
        go_wp2_with (at_builtin; refine wpList_append_one rfl (.tmp 32) (.tmp 37) rfl (w.heap.size + 1) _ _ _ rfl HO3.out _ _ rfl HN.out (by omega) hz2 ?_)
        intro v' w' h1 h2
        obtain ⟨A4, c4, rfl⟩ := own_form h1
        have hps := congrArg List.length HRS.out
        rw [List.length_append, List.length_singleton] at hps
        have h1 : w'.ownsRow (w.heap.size + 1) 3 1 (.slice A4 (takeG (tuV h.objs.length L) vs (k + 1)).length c4) (takeG (tuV h.objs.length L) vs (k + 1)).length ((takeG (tuV h.objs.length L) vs (k + 1)).map (Value.int .i64)) := by rw [hps, HRS.out, List.map_append]; exact h1
        have hb2 := HW2.out.trans ((HAL.out.mono hz).grown h2 (by simp; omega) (fun q hq => by have := (HO3.out.lt q hq).1; omega))
        have hx4 := (HX2.out.later HAL.out).grown h2 (fun e => own_blk_ne HO3.out (HX2.out.later HAL.out) (by decide) e.symm)
        have H1 := hid h1
        have HB2 := hid hb2
        have HX4 := hid hx4
        have HPL := hid hps
        clear h1 h2 hb2 hps hx4
        go_wp2_with fail
        go_roundw
        case rel => exact ⟨k + 1, A4, c4, by omega, by go_num, by rw [HPL.out], H1.out, HX4.out, HB2.out⟩
        case measure => simp [intOf]; omega
    · obtain rfl : k = vs.length := by omega
      go_wp2_with fail
      go_ret
      have hO := HO.out
      rw [HALL.out] at hO
      exact ⟨A3, c3, by rw [HALL.out]; rfl, own_lower hO (by omega), HW.out⟩
set_option maxHeartbeats 1500000 in
theorem values_ref_any (h : Hp) (L : List Int) (vs : List Int) (A B D : Option Addr) (c b d : Nat) (w : World) (hl : IntsR w B L) (hv : IntsR w D vs) (hlen : L.length = h.objs.length) (hpm : ∀ x ∈ L, 0 ≤ x ∧ x ≤ 256) (hvl : vs.length ≤ 100000) :
    Calls Try.prog 46 #[.agg #[.slice A h.objs.length c, .int .i64 h.cap, .int .i64 h.last], .slice B L.length b, .slice D vs.length d] w (IntsOwn w (vs.map (rnV h.objs.length L))) := by
  have HB0 := hid (below_alloc w (.cells #[Value.slice A h.objs.length c, Value.int .i64 h.cap, Value.int .i64 h.last] 24))
  have X0 := hid (Lies.new w 24 #[Value.slice A h.objs.length c, Value.int .i64 h.cap, Value.int .i64 h.last])
  have HL := hid hl
  have HV := hid hv
  have HLE : Hid (∀ k, k ≤ vs.length → (takeG (rnV h.objs.length L) vs k).length ≤ k) := fun k _ => by unfold takeG; rw [List.length_map, List.length_take]; omega
  have HALL := hid (takeG_all (rnV h.objs.length L) vs)
  have hlen1 := Nat.le_of_eq hlen
  have hlen2 := Nat.le_of_eq hlen.symm
  clear hlen
  clear hl hv
  have EE : Hid (((w.alloc (.cells #[Value.slice A h.objs.length c, Value.int .i64 h.cap, Value.int .i64 h.last] 24)).alloc (.cells #[] 3)).ownsRow (w.heap.size + 1) 3 1 (.slice (some ⟨w.heap.size + 1, 0, none⟩) 0 0) 0 (([] : List Int).map (Value.int .i64))) := by
    have := own_empty (w.alloc (.cells #[Value.slice A h.objs.length c, Value.int .i64 h.cap, Value.int .i64 h.last] 24))
    simpa [Hid] using this
  have EB := hid (below_alloc (w.alloc (.cells #[Value.slice A h.objs.length c, Value.int .i64 h.cap, Value.int .i64 h.last] 24)) (.cells #[] 3))
  have XE := hid (X0.out.later EB.out)
  have HBE := hid (then_b HB0.out EB.out)
  go_enter Try.func46, Try.ntmps46
  go_wp2_with fail
  go_loopw [8, 7] (fun i s wr => ∃ (k : Nat) (A3 : Option Addr) (c3 : Nat), k ≤ vs.length ∧ i = .int .i64 k ∧ s = .slice A3 (takeG (rnV h.objs.length L) vs k).length c3 ∧ wr.ownsRow (w.heap.size + 1) 3 1 (.slice A3 (takeG (rnV h.objs.length L) vs k).length c3) (takeG (rnV h.objs.length L) vs k).length ((takeG (rnV h.objs.length L) vs k).map (Value.int .i64)) ∧ Lies wr w.heap.size 24 #[Value.slice A h.objs.length c, Value.int .i64 h.cap, Value.int .i64 h.last] ∧ Below w.heap.size w wr) (fun i _ _ => vs.length - (intOf i).toNat)
  case atStart => exact ⟨0, _, _, Nat.zero_le _, rfl, rfl, EE.out, XE.out, HBE.out⟩
  case round =>
    obtain ⟨k, A3, c3, hk, rfl, rfl, hown, hbox, hbw⟩ := hrel
    rename World => wo
    have HW := hid hbw
    have HO := hid hown
    have HX := hid hbox
    have x0 := hbox.cell 0
    have x1 := hbox.cell 1
    have x2 := hbox.cell 2
    simp only [List.getElem?_toArray, List.getElem?_cons_zero, List.getElem?_cons_succ] at x0 x1 x2
    clear hown hbw hbox
    have hpl := HLE.out k hk
    by_cases hlt : k < vs.length
    · obtain ⟨bs, os, rfl, hbs, hcs⟩ := HV.out (by omega)
      have rc := (HW.out.cell (p := ⟨bs, os + k, none⟩) hbs).trans (hcs k _ (List.getElem?_eq_getElem hlt))
      obtain ⟨v, hv⟩ : ∃ v, v = vs[k] := ⟨_, rfl⟩
      rw [← hv] at rc
      clear hcs
      have htm := takeG_map (rnV h.objs.length L) vs k hlt
      rw [← hv] at htm
      clear hv
      cases hr : refB h.objs.length v
      · have rv : refI h.objs.length v = -1 := refI_m1 hr
        have htv : rnV h.objs.length L v = v := by unfold rnV; rw [if_neg (by rw [hr]; decide)]
        rw [htv] at htm
        have HRS := hid htm
        clear htm htv
        go_wp2_with fail
        refine wp_region_held_drew (S := (fun w' => w'.cell? ⟨w.heap.size, 0, none⟩ = some (.slice A h.objs.length c) ∧ w'.cell? ⟨w.heap.size, 1, none⟩ = some (.int .i64 h.cap) ∧ w'.cell? ⟨w.heap.size, 2, none⟩ = some (.int .i64 h.last) ∧ w'.cell? ⟨bs, os + k, none⟩ = some (.int .i64 v) ∧ Below w.heap.size w w')) (by kernel_rfl) ?_ (fun hHeld => ?_)
        · exact ⟨x0, x1, x2, rc, HW.out.drew⟩
        refine wpAnyH_take (i := 0) (oi := { dst := some 17, op := Go.Op.load 24 (Go.Operand.tmp 3), type := 24, pos := "ref.go:157", after := #[], guard := none }) (v := ?vv31) rfl (by kernel_rfl) (by kernel_rfl) (by kernel_rfl) (fun _ _ _ h => h) (Or.inl ⟨by rfl, ?hy31⟩) (by assumption) ?rr31
        case hy31 => intro w hSw; (try dsimp only at hSw); go_simp; all_goals with_reducible rfl
        try simp only [Act.put, List.setIfInBounds_toArray, List.set_cons_zero, List.set_cons_succ]
        refine wpAnyH_take (i := 1) (oi := { dst := some 18, op := Go.Op.move (Go.Operand.tmp 2), type := 44, pos := "ref.go:157", after := #[], guard := none }) (v := ?vv32) rfl (by kernel_rfl) (by kernel_rfl) (by kernel_rfl) (fun _ _ _ h => h) (Or.inl ⟨by rfl, ?hy32⟩) (by assumption) ?rr32
        case hy32 => intro w hSw; (try dsimp only at hSw); go_simp; all_goals with_reducible rfl
        try simp only [Act.put, List.setIfInBounds_toArray, List.set_cons_zero, List.set_cons_succ]
        refine wpAnyH_take (i := 2) (oi := { dst := some 19, op := Go.Op.move (Go.Operand.tmp 8), type := 3, pos := "ref.go:157", after := #[], guard := none }) (v := ?vv33) rfl (by kernel_rfl) (by kernel_rfl) (by kernel_rfl) (fun _ _ _ h => h) (Or.inl ⟨by rfl, ?hy33⟩) (by assumption) ?rr33
        case hy33 => intro w hSw; (try dsimp only at hSw); go_simp; all_goals with_reducible rfl
        try simp only [Act.put, List.setIfInBounds_toArray, List.set_cons_zero, List.set_cons_succ]
        refine wpAnyH_take (i := 3) (oi := { dst := some 20, op := Go.Op.indexAddr 44 (Go.Operand.tmp 18) (Go.Operand.tmp 19), type := 0, pos := "ref.go:157", after := #[{ on := 1, ground := Go.Ground.data }, { on := 2, ground := Go.Ground.data }], guard := none }) (v := ?vv34) rfl (by kernel_rfl) (by kernel_rfl) (by kernel_rfl) (fun _ _ _ h => h) (Or.inl ⟨by rfl, ?hy34⟩) (by assumption) ?rr34
        case hy34 => intro w hSw; (try dsimp only at hSw); go_simp; all_goals with_reducible rfl
        try simp only [Act.put, List.setIfInBounds_toArray, List.set_cons_zero, List.set_cons_succ]
        refine wpAnyH_take (i := 4) (oi := { dst := some 21, op := Go.Op.load 3 (Go.Operand.tmp 20), type := 3, pos := "ref.go:157", after := #[{ on := 3, ground := Go.Ground.data }], guard := none }) (v := ?vv35) rfl (by kernel_rfl) (by kernel_rfl) (by kernel_rfl) (fun _ _ _ h => h) (Or.inl ⟨by rfl, ?hy35⟩) (by assumption) ?rr35
        case hy35 => intro w hSw; (try dsimp only at hSw); go_simp; all_goals with_reducible rfl
        try simp only [Act.put, List.setIfInBounds_toArray, List.set_cons_zero, List.set_cons_succ]
        refine wpAnyH_ready (rs := [5]) (by kernel_rfl) (by simp) ?_
        refine AllReadyH.cons (i := 5) (o := { dst := some 22, op := Go.Op.call { callee := Go.Callee.value (Go.Operand.func 35), args := #[Go.Operand.tmp 17, Go.Operand.tmp 21], argTypes := #[24, 3] }, type := 3, pos := "ref.go:157", after := #[{ on := 0, ground := Go.Ground.data }, { on := 4, ground := Go.Ground.data }], guard := none }) rfl (fun K hK => ?_) AllReadyH.nil
        go_simp
        go_at_call 35
        refine (rref_any h v A c _).mono ?_
        rintro e w' ⟨rfl, hb⟩
        rw [rv]
        have HBr := hid hb
        refine hK.out _ _ ?_ (fun hHeld => ?_)
        · exact ⟨cell_later hb x0, cell_later hb x1, cell_later hb x2, cell_later hb rc, then_b HW.out.drew hb⟩
        clear hK K
        try simp only [Act.put, List.setIfInBounds_toArray, List.set_cons_zero, List.set_cons_succ]
        have hH1 := hHeld
        clear hHeld hb
        have hHeld := hH1
        refine wpAnyH_take (i := 6) (oi := { dst := some 9, op := Go.Op.assign (Go.Operand.tmp 22), type := 3, pos := "ref.go:157", after := #[{ on := 5, ground := Go.Ground.data }, { on := 5, ground := Go.Ground.chain }, { on := 0, ground := Go.Ground.phase }, { on := 1, ground := Go.Ground.phase }, { on := 2, ground := Go.Ground.phase }, { on := 3, ground := Go.Ground.phase }, { on := 4, ground := Go.Ground.phase }, { on := 5, ground := Go.Ground.phase }], guard := none }) (v := ?vv36) rfl (by kernel_rfl) (by kernel_rfl) (by kernel_rfl) (fun _ _ _ h => h) (Or.inl ⟨by rfl, ?hy36⟩) (by assumption) ?rr36
        case hy36 => intro w hSw; (try dsimp only at hSw); go_simp; all_goals with_reducible rfl
        try simp only [Act.put, List.setIfInBounds_toArray, List.set_cons_zero, List.set_cons_succ]
        refine wpAnyH_done (by kernel_rfl) ?_ _
        have hHeldB := hHeld.2.2.2.2
        have rc2 := hHeld.2.2.2.1
        have HW2 := hid hHeldB
        have HX2 := hid (HX.out.later (then_b (Below.refl _ wo).drew HBr.out))
        have HO2 := hid (own_later HO.out.drew HBr.out)
        clear hHeld hH1 hHeldB HBr x0 x1 x2 rc
        rename World => w2
        have rc3 := cell_old (ob := .cells #[.int .i64 v] 3) rc2
        have hz := HW2.out.size
        have HAL := hid (below_alloc w2 (.cells #[.int .i64 v] 3))
        have HO3 := hid (own_later HO2.out HAL.out)
        have HN := hid (Lies.new w2 3 #[.int .i64 v])
        have hzx := HX2.out.lt
        have hz2 : w.heap.size + 1 ≤ (w2.alloc (.cells #[.int .i64 v] 3)).heap.size := by simp; omega
        go_wp2_with (at_builtin; refine wpList_append_one rfl (.tmp 25) (.tmp 30) rfl (w.heap.size + 1) _ _ _ rfl HO3.out _ _ rfl HN.out (by omega) hz2 ?_)
        intro v' w' h1 h2
        obtain ⟨A4, c4, rfl⟩ := own_form h1
        have hps := congrArg List.length HRS.out
        rw [List.length_append, List.length_singleton] at hps
        have h1 : w'.ownsRow (w.heap.size + 1) 3 1 (.slice A4 (takeG (rnV h.objs.length L) vs (k + 1)).length c4) (takeG (rnV h.objs.length L) vs (k + 1)).length ((takeG (rnV h.objs.length L) vs (k + 1)).map (Value.int .i64)) := by rw [hps, HRS.out, List.map_append]; exact h1
        have hb2 := HW2.out.trans ((HAL.out.mono hz).grown h2 (by simp; omega) (fun q hq => by have := (HO3.out.lt q hq).1; omega))
        have hx4 := (HX2.out.later HAL.out).grown h2 (fun e => own_blk_ne HO3.out (HX2.out.later HAL.out) (by decide) e.symm)
        have H1 := hid h1
        have HB2 := hid hb2
        have HX4 := hid hx4
        have HPL := hid hps
        clear h1 h2 hb2 hps hx4
        go_wp2_with fail
        go_roundw
        case rel => exact ⟨k + 1, A4, c4, by omega, by go_num, by rw [HPL.out], H1.out, HX4.out, HB2.out⟩
        case measure => simp [intOf]; omega
      · have rv : refI h.objs.length v = atV v := refI_nonneg hr
        obtain ⟨hqn, hqa⟩ := refB_nat hr
        obtain ⟨q, hq⟩ : ∃ q, q = (atV v).toNat := ⟨_, rfl⟩
        have hq0 : q < L.length := by omega
        rw [← hqa, ← hq] at rv
        obtain ⟨bl, ol, rfl, hbl, hcl⟩ := HL.out (by omega)
        obtain ⟨p, hp⟩ : ∃ p, p = L[q] := ⟨_, rfl⟩
        have hpr := hpm _ (List.getElem_mem hq0)
        have htv : rnV h.objs.length L v = 2 * p := by unfold rnV; rw [if_pos hr, ← hq, List.getD_eq_getElem?_getD, List.getElem?_eq_getElem hq0, hp]; rfl
        have pc := hcl q _ (List.getElem?_eq_getElem hq0)
        rw [← hp] at hpr pc
        obtain ⟨hp1, hp2⟩ := hpr
        rw [htv] at htm
        have HPC := hid pc
        have HBL := hid hbl
        clear hp hq hqn hqa hcl pc hbl
        have HRS := hid htm
        clear htm htv
        go_wp2_with fail
        refine wp_region_held_drew (S := (fun w' => w'.cell? ⟨w.heap.size, 0, none⟩ = some (.slice A h.objs.length c) ∧ w'.cell? ⟨w.heap.size, 1, none⟩ = some (.int .i64 h.cap) ∧ w'.cell? ⟨w.heap.size, 2, none⟩ = some (.int .i64 h.last) ∧ w'.cell? ⟨bs, os + k, none⟩ = some (.int .i64 v) ∧ Below w.heap.size w w')) (by kernel_rfl) ?_ (fun hHeld => ?_)
        · exact ⟨x0, x1, x2, rc, HW.out.drew⟩
        refine wpAnyH_take (i := 0) (oi := { dst := some 17, op := Go.Op.load 24 (Go.Operand.tmp 3), type := 24, pos := "ref.go:157", after := #[], guard := none }) (v := ?vv37) rfl (by kernel_rfl) (by kernel_rfl) (by kernel_rfl) (fun _ _ _ h => h) (Or.inl ⟨by rfl, ?hy37⟩) (by assumption) ?rr37
        case hy37 => intro w hSw; (try dsimp only at hSw); go_simp; all_goals with_reducible rfl
        try simp only [Act.put, List.setIfInBounds_toArray, List.set_cons_zero, List.set_cons_succ]
        refine wpAnyH_take (i := 1) (oi := { dst := some 18, op := Go.Op.move (Go.Operand.tmp 2), type := 44, pos := "ref.go:157", after := #[], guard := none }) (v := ?vv38) rfl (by kernel_rfl) (by kernel_rfl) (by kernel_rfl) (fun _ _ _ h => h) (Or.inl ⟨by rfl, ?hy38⟩) (by assumption) ?rr38
        case hy38 => intro w hSw; (try dsimp only at hSw); go_simp; all_goals with_reducible rfl
        try simp only [Act.put, List.setIfInBounds_toArray, List.set_cons_zero, List.set_cons_succ]
        refine wpAnyH_take (i := 2) (oi := { dst := some 19, op := Go.Op.move (Go.Operand.tmp 8), type := 3, pos := "ref.go:157", after := #[], guard := none }) (v := ?vv39) rfl (by kernel_rfl) (by kernel_rfl) (by kernel_rfl) (fun _ _ _ h => h) (Or.inl ⟨by rfl, ?hy39⟩) (by assumption) ?rr39
        case hy39 => intro w hSw; (try dsimp only at hSw); go_simp; all_goals with_reducible rfl
        try simp only [Act.put, List.setIfInBounds_toArray, List.set_cons_zero, List.set_cons_succ]
        refine wpAnyH_take (i := 3) (oi := { dst := some 20, op := Go.Op.indexAddr 44 (Go.Operand.tmp 18) (Go.Operand.tmp 19), type := 0, pos := "ref.go:157", after := #[{ on := 1, ground := Go.Ground.data }, { on := 2, ground := Go.Ground.data }], guard := none }) (v := ?vv40) rfl (by kernel_rfl) (by kernel_rfl) (by kernel_rfl) (fun _ _ _ h => h) (Or.inl ⟨by rfl, ?hy40⟩) (by assumption) ?rr40
        case hy40 => intro w hSw; (try dsimp only at hSw); go_simp; all_goals with_reducible rfl
        try simp only [Act.put, List.setIfInBounds_toArray, List.set_cons_zero, List.set_cons_succ]
        refine wpAnyH_take (i := 4) (oi := { dst := some 21, op := Go.Op.load 3 (Go.Operand.tmp 20), type := 3, pos := "ref.go:157", after := #[{ on := 3, ground := Go.Ground.data }], guard := none }) (v := ?vv41) rfl (by kernel_rfl) (by kernel_rfl) (by kernel_rfl) (fun _ _ _ h => h) (Or.inl ⟨by rfl, ?hy41⟩) (by assumption) ?rr41
        case hy41 => intro w hSw; (try dsimp only at hSw); go_simp; all_goals with_reducible rfl
        try simp only [Act.put, List.setIfInBounds_toArray, List.set_cons_zero, List.set_cons_succ]
        refine wpAnyH_ready (rs := [5]) (by kernel_rfl) (by simp) ?_
        refine AllReadyH.cons (i := 5) (o := { dst := some 22, op := Go.Op.call { callee := Go.Callee.value (Go.Operand.func 35), args := #[Go.Operand.tmp 17, Go.Operand.tmp 21], argTypes := #[24, 3] }, type := 3, pos := "ref.go:157", after := #[{ on := 0, ground := Go.Ground.data }, { on := 4, ground := Go.Ground.data }], guard := none }) rfl (fun K hK => ?_) AllReadyH.nil
        go_simp
        go_at_call 35
        refine (rref_any h v A c _).mono ?_
        rintro e w' ⟨rfl, hb⟩
        rw [rv]
        have HBr := hid hb
        refine hK.out _ _ ?_ (fun hHeld => ?_)
        · exact ⟨cell_later hb x0, cell_later hb x1, cell_later hb x2, cell_later hb rc, then_b HW.out.drew hb⟩
        clear hK K
        try simp only [Act.put, List.setIfInBounds_toArray, List.set_cons_zero, List.set_cons_succ]
        have hH1 := hHeld
        clear hHeld hb
        have hHeld := hH1
        refine wpAnyH_take (i := 6) (oi := { dst := some 9, op := Go.Op.assign (Go.Operand.tmp 22), type := 3, pos := "ref.go:157", after := #[{ on := 5, ground := Go.Ground.data }, { on := 5, ground := Go.Ground.chain }, { on := 0, ground := Go.Ground.phase }, { on := 1, ground := Go.Ground.phase }, { on := 2, ground := Go.Ground.phase }, { on := 3, ground := Go.Ground.phase }, { on := 4, ground := Go.Ground.phase }, { on := 5, ground := Go.Ground.phase }], guard := none }) (v := ?vv42) rfl (by kernel_rfl) (by kernel_rfl) (by kernel_rfl) (fun _ _ _ h => h) (Or.inl ⟨by rfl, ?hy42⟩) (by assumption) ?rr42
        case hy42 => intro w hSw; (try dsimp only at hSw); go_simp; all_goals with_reducible rfl
        try simp only [Act.put, List.setIfInBounds_toArray, List.set_cons_zero, List.set_cons_succ]
        refine wpAnyH_done (by kernel_rfl) ?_ _
        have hHeldB := hHeld.2.2.2.2
        have rc2 := hHeld.2.2.2.1
        have HW2 := hid hHeldB
        have HX2 := hid (HX.out.later (then_b (Below.refl _ wo).drew HBr.out))
        have HO2 := hid (own_later HO.out.drew HBr.out)
        clear hHeld hH1 hHeldB HBr x0 x1 x2 rc
        rename World => w2
        have pc2 := (HW2.out.cell (p := ⟨bl, ol + q, none⟩) HBL.out).trans HPC.out
        have hz := HW2.out.size
        have HAL := hid (below_alloc w2 (.cells #[.int .i64 (2 * p)] 3))
        have HO3 := hid (own_later HO2.out HAL.out)
        have HN := hid (Lies.new w2 3 #[.int .i64 (2 * p)])
        have hzx := HX2.out.lt
        have hz2 : w.heap.size + 1 ≤ (w2.alloc (.cells #[.int .i64 (2 * p)] 3)).heap.size := by simp; omega
        go_wp2_with (at_builtin; refine wpList_append_one rfl (.tmp 32) (.tmp 38) rfl (w.heap.size + 1) _ _ _ rfl HO3.out _ _ rfl HN.out (by omega) hz2 ?_)
        intro v' w' h1 h2
        obtain ⟨A4, c4, rfl⟩ := own_form h1
        have hps := congrArg List.length HRS.out
        rw [List.length_append, List.length_singleton] at hps
        have h1 : w'.ownsRow (w.heap.size + 1) 3 1 (.slice A4 (takeG (rnV h.objs.length L) vs (k + 1)).length c4) (takeG (rnV h.objs.length L) vs (k + 1)).length ((takeG (rnV h.objs.length L) vs (k + 1)).map (Value.int .i64)) := by rw [hps, HRS.out, List.map_append]; exact h1
        have hb2 := HW2.out.trans ((HAL.out.mono hz).grown h2 (by simp; omega) (fun q hq => by have := (HO3.out.lt q hq).1; omega))
        have hx4 := (HX2.out.later HAL.out).grown h2 (fun e => own_blk_ne HO3.out (HX2.out.later HAL.out) (by decide) e.symm)
        have H1 := hid h1
        have HB2 := hid hb2
        have HX4 := hid hx4
        have HPL := hid hps
        clear h1 h2 hb2 hps hx4
        go_wp2_with fail
        go_roundw
        case rel => exact ⟨k + 1, A4, c4, by omega, by go_num, by rw [HPL.out], H1.out, HX4.out, HB2.out⟩
        case measure => simp [intOf]; omega
    · obtain rfl : k = vs.length := by omega
      go_wp2_with fail
      go_ret
      have hO := HO.out
      rw [HALL.out] at hO
      exact ⟨A3, c3, by rw [HALL.out]; rfl, own_lower hO (by omega), HW.out⟩
end Go.Proofs.Ytododpdkbdndoaa
