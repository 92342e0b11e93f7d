/- The document's round of marking walked. -/
import Derived.Test.YtnilempeldlieaaGreatM13
import Derived.Test.YtnilempeldlieaaGreatM04
import Derived.BigQuiet
namespace Go.Proofs.YtnilempeldlieaaGreat
open Go.RowKit
set_option maxRecDepth 100000
theorem far_cell {w : World} {g j g' o : Nat} {u v : Value} (hne : g' ≠ g) (h : w.cell? ⟨g', o, none⟩ = some v) : (w.setCell ⟨g, j, none⟩ u).cell? ⟨g', o, none⟩ = some v :=
  (World.cell?_setCell_other _ _ _ _ (by intro e; injection e with e1; exact hne e1.symm)).trans h
theorem draw_up {w v w' : World} (h : Below w.heap.size w v) (hb : Below v.heap.size v w') : Below w.heap.size w w' := h.trans (hb.mono h.size)
theorem refI_neg {n : Nat} {v : Int} (h : refB n v = false) : refI n v = -1 := by unfold refI; rw [if_neg (by rw [h]; decide)]
theorem own_set {w : World} {base g c n q : Nat} {out : List Bool} (h : w.ownsRow base 4 1 (.slice (some ⟨g, 0, none⟩) n c) n (out.map Value.bool)) : (w.setCell ⟨g, q, none⟩ (.bool true)).ownsRow base 4 1 (.slice (some ⟨g, 0, none⟩) n c) n ((out.set q true).map Value.bool) := by
  rw [← map_set]; exact (h.stored q (.bool true)).1
set_option maxHeartbeats 2000000 in
theorem near_any (h : Hp) (m : List Bool) (A Am : Option Addr) (c cm : Nat) (w : World) (hs : ObsR w A h.objs) (hm : mayB h = true) (hl : m.length = h.objs.length) (hmr : BoolsR w Am m) (hn : Am = none → cm = 0) :
    Calls Tryz.prog 36 #[.agg #[.slice A h.objs.length c, .int .i64 h.cap, .int .i64 h.last], .slice Am h.objs.length cm] w fun e w' => ∃ A' c', e = .returned (.slice A' h.objs.length c') ∧ w'.ownsRow w.heap.size 4 1 (.slice A' h.objs.length c') h.objs.length ((nearB h m).map Value.bool) ∧ Below w.heap.size w w' := by
  have hle := may_len hm
  have HS := hid hs
  have HM := hid hm
  have HMR := hid hmr
  have HB0 := hid (below_alloc w (.cells #[Value.slice A h.objs.length c, Value.int .i64 h.cap, Value.int .i64 h.last] 24))
  have HB1 := hid (below_alloc2 w (.cells #[Value.slice A h.objs.length c, Value.int .i64 h.cap, Value.int .i64 h.last] 24) (.cells #[] 4))
  have K0 := hid ((Lies.new w 24 #[Value.slice A h.objs.length c, Value.int .i64 h.cap, Value.int .i64 h.last]).alloc (.cells #[] 4))
  have E0 := own_no_bools (w.alloc (.cells #[Value.slice A h.objs.length c, Value.int .i64 h.cap, Value.int .i64 h.last] 24))
  rw [show (w.alloc (.cells #[Value.slice A h.objs.length c, Value.int .i64 h.cap, Value.int .i64 h.last] 24)).heap.size = w.heap.size + 1 by simp] at E0
  have HE0 := hid E0
  have hz0 : w.heap.size + 1 ≤ ((w.alloc (.cells #[Value.slice A h.objs.length c, Value.int .i64 h.cap, Value.int .i64 h.last] 24)).alloc (.cells #[] 4)).heap.size := by simp
  clear hs hm hmr E0
  go_enter Tryz.func36, Tryz.ntmps36
  go_wp2_with (at_builtin; refine wpList_append_bools rfl (.tmp 9) (.tmp 10) rfl (w.heap.size + 1) _ _ _ rfl HE0.out Am cm _ m hl rfl (HMR.out.below HB1.out) hn (by omega) hz0 ?_)
  intro v1 w1 h1 h2
  obtain ⟨A1, c1, rfl⟩ := own_form h1
  have hB := HB1.out.grown h2 (by simp; omega) (fun k hk => by simp [Value.ownBlock] at hk; omega)
  have HB2 := hid hB
  have HO1 := hid h1
  have HK1 := hid (K0.out.grown h2 (fun e => by simp [Value.ownBlock] at e))
  clear h1 h2 hB HE0 K0 HB1 hz0
  go_wp2_with fail
  go_loopw [6] (fun i wr => ∃ (k : Nat) (out : List Bool), k ≤ h.objs.length ∧ i = .int .i64 k ∧ wr.ownsRow (w.heap.size + 1) 4 1 (.slice A1 h.objs.length c1) h.objs.length (out.map Value.bool) ∧ Near h m out k ∧ Lies wr w.heap.size 24 #[Value.slice A h.objs.length c, Value.int .i64 h.cap, Value.int .i64 h.last] ∧ Below w.heap.size w wr) (fun i _ => h.objs.length - (intOf i).toNat)
  case atStart => exact ⟨0, m, Nat.zero_le _, rfl, HO1.out, Near.start h m hl, HK1.out, HB2.out⟩
  case round =>
    clear HO1 HK1 HB2
    obtain ⟨k, out, hk, rfl, hown, hnear, hbox, hbw⟩ := hrel
    rename World => wo
    have HW := hid hbw
    have HX := hid hbox
    have HO := hid hown
    have HN := hid hnear
    have x0 := hbox.cell 0
    have x1 := hbox.cell 1
    have x2 := hbox.cell 2
    simp only [List.getElem?_toArray, List.getElem?_cons_zero, List.getElem?_cons_succ] at x0 x1 x2
    clear hown hnear hbox hbw
    by_cases hlt : k < h.objs.length
    · obtain ⟨bm, om, rfl, hbm, hcm⟩ := HMR.out (by omega)
      have hkm : k < m.length := by omega
      have mc := (HW.out.cell (p := ⟨bm, om + k, none⟩) hbm).trans (hcm k _ (List.getElem?_eq_getElem hkm))
      have hmk : m.getD k false = m[k] := by rw [List.getD_eq_getElem?_getD, List.getElem?_eq_getElem hkm]; rfl
      have HMK := hid hmk
      clear hcm hmk
      cases hv : m[k]
      · rw [hv] at mc
        go_wp2_with fail
        go_roundw
        case rel => exact ⟨k + 1, out, by omega, by go_num, HO.out, HN.out.skip (by rw [HMK.out, hv]), HX.out, HW.out⟩
        case measure => simp [intOf]; omega
      · rw [hv] at mc
        have HMT : Hid (m.getD k false = true) := by show _ = _; rw [HMK.out, hv]
        obtain ⟨b, off, rfl, hb, hc⟩ := HS.out (by omega)
        have hoi := List.getElem?_eq_getElem hlt
        obtain ⟨S, ds, hob, hin2, -, -⟩ := hc k _ hoi
        have hok := may_all HM.out _ (List.getElem_mem hlt)
        obtain ⟨o, ho⟩ : ∃ o, o = h.objs[k] := ⟨_, rfl⟩
        rw [← ho] at hob hin2 hok hoi
        have hol := (kind_len (ob_kind hok)).1
        have HOB := hid hob
        obtain ⟨e0, e1, e2, e3, e4, e5⟩ := hob.below hb HW.out
        obtain ⟨hcls, hslv⟩ := ob_vals hok
        obtain ⟨q, hq⟩ : ∃ q : Nat, atV o.cls = q := ⟨_, (refB_nat hcls).2.symm⟩
        have rv : refI h.objs.length o.cls = q := by rw [refI_nonneg hcls, hq]
        have hqn : q < h.objs.length := by have := (refB_nat hcls).1; omega
        obtain ⟨g, cg, hvg, hg0, hgl⟩ := HO.out.form (by omega)
        simp only [Value.slice.injEq, true_and] at hvg
        obtain ⟨rfl, rfl⟩ := hvg
        have hon : out.length = h.objs.length := HN.out.len
        have gq0 := HO.out.cellAt q (by omega)
        rw [List.getElem?_map, List.getElem?_eq_getElem (by omega)] at gq0
        simp only [Option.map_some] at gq0
        have fq0 := HO.out.frozenAt q
        have ne0 : w.heap.size ≠ g := by omega
        have ne1 : b ≠ g := by omega
        have HCL := hid hcls
        have HQ := hid hq
        have HOI := hid hoi
        have HIN := hid hin2
        have HOL := hid hok
        clear hc hob hin2 hok hoi ho hcls hslv hq e1 e3 e4 e5
        go_wp2_with fail
        refine wp_region_held_drew (S := (fun w' => w'.cell? ⟨w.heap.size, 0, none⟩ = some (.slice (some ⟨b, off, none⟩) h.objs.length c) ∧ w'.cell? ⟨w.heap.size, 1, none⟩ = some (.int .i64 h.cap) ∧ w'.cell? ⟨w.heap.size, 2, none⟩ = some (.int .i64 h.last) ∧ w'.cell? ⟨b, off + k * 6, none⟩ = some (.int .i64 o.cls) ∧ Below w.heap.size w w')) (by kernel_rfl) ?_ (fun hHeld => ?_)
        · exact ⟨x0, x1, x2, e0, HW.out.drew⟩
        refine wpAnyH_take (i := 0) (oi := { dst := some 24, op := Go.Op.move (Go.Operand.tmp 5), type := 55, pos := "ref.go:16", after := #[], guard := none }) (v := ?vv1) rfl (by kernel_rfl) (by kernel_rfl) (by kernel_rfl) (fun _ _ _ h => h) (Or.inl ⟨by rfl, ?hy1⟩) (by assumption) ?rr1
        case hy1 => intro w hSw; (try dsimp only at hSw); go_simp; all_goals with_reducible rfl
        try simp only [Act.put, List.setIfInBounds_toArray, List.set_cons_zero, List.set_cons_succ]
        refine wpAnyH_take (i := 1) (oi := { dst := some 25, op := Go.Op.load 24 (Go.Operand.tmp 2), type := 24, pos := "ref.go:16", after := #[], guard := none }) (v := ?vv2) rfl (by kernel_rfl) (by kernel_rfl) (by kernel_rfl) (fun _ _ _ h => h) (Or.inl ⟨by rfl, ?hy2⟩) (by assumption) ?rr2
        case hy2 => intro w hSw; (try dsimp only at hSw); go_simp; all_goals with_reducible rfl
        try simp only [Act.put, List.setIfInBounds_toArray, List.set_cons_zero, List.set_cons_succ]
        refine wpAnyH_take (i := 2) (oi := { dst := some 26, op := Go.Op.fieldAddr 24 (Go.Operand.tmp 2) 0, type := 0, pos := "ref.go:16", after := #[], guard := none }) (v := ?vv3) rfl (by kernel_rfl) (by kernel_rfl) (by kernel_rfl) (fun _ _ _ h => h) (Or.inl ⟨by rfl, ?hy3⟩) (by assumption) ?rr3
        case hy3 => intro w hSw; (try dsimp only at hSw); go_simp; all_goals with_reducible rfl
        try simp only [Act.put, List.setIfInBounds_toArray, List.set_cons_zero, List.set_cons_succ]
        refine wpAnyH_take (i := 3) (oi := { dst := some 27, op := Go.Op.load 22 (Go.Operand.tmp 26), type := 22, pos := "ref.go:16", after := #[{ on := 2, ground := Go.Ground.data }], guard := none }) (v := ?vv4) rfl (by kernel_rfl) (by kernel_rfl) (by kernel_rfl) (fun _ _ _ h => h) (Or.inl ⟨by rfl, ?hy4⟩) (by assumption) ?rr4
        case hy4 => intro w hSw; (try dsimp only at hSw); go_simp; all_goals with_reducible rfl
        try simp only [Act.put, List.setIfInBounds_toArray, List.set_cons_zero, List.set_cons_succ]
        refine wpAnyH_take (i := 4) (oi := { dst := some 28, op := Go.Op.move (Go.Operand.tmp 6), type := 3, pos := "ref.go:16", after := #[], guard := none }) (v := ?vv5) rfl (by kernel_rfl) (by kernel_rfl) (by kernel_rfl) (fun _ _ _ h => h) (Or.inl ⟨by rfl, ?hy5⟩) (by assumption) ?rr5
        case hy5 => intro w hSw; (try dsimp only at hSw); go_simp; all_goals with_reducible rfl
        try simp only [Act.put, List.setIfInBounds_toArray, List.set_cons_zero, List.set_cons_succ]
        refine wpAnyH_take (i := 5) (oi := { dst := some 29, op := Go.Op.indexAddr 22 (Go.Operand.tmp 27) (Go.Operand.tmp 28), type := 0, pos := "ref.go:16", after := #[{ on := 3, ground := Go.Ground.data }, { on := 4, ground := Go.Ground.data }], guard := none }) (v := ?vv6) rfl (by kernel_rfl) (by kernel_rfl) (by kernel_rfl) (fun _ _ _ h => h) (Or.inl ⟨by rfl, ?hy6⟩) (by assumption) ?rr6
        case hy6 => intro w hSw; (try dsimp only at hSw); go_simp; all_goals with_reducible rfl
        try simp only [Act.put, List.setIfInBounds_toArray, List.set_cons_zero, List.set_cons_succ]
        refine wpAnyH_take (i := 6) (oi := { dst := some 30, op := Go.Op.fieldAddr 41 (Go.Operand.tmp 29) 0, type := 0, pos := "ref.go:16", after := #[{ on := 5, ground := Go.Ground.data }], guard := none }) (v := ?vv7) rfl (by kernel_rfl) (by kernel_rfl) (by kernel_rfl) (fun _ _ _ h => h) (Or.inl ⟨by rfl, ?hy7⟩) (by assumption) ?rr7
        case hy7 => intro w hSw; (try dsimp only at hSw); go_simp; all_goals with_reducible rfl
        try simp only [Act.put, List.setIfInBounds_toArray, List.set_cons_zero, List.set_cons_succ]
        refine wpAnyH_take (i := 7) (oi := { dst := some 31, op := Go.Op.load 3 (Go.Operand.tmp 30), type := 3, pos := "ref.go:16", after := #[{ on := 6, ground := Go.Ground.data }], guard := none }) (v := ?vv8) rfl (by kernel_rfl) (by kernel_rfl) (by kernel_rfl) (fun _ _ _ h => h) (Or.inl ⟨by rfl, ?hy8⟩) (by assumption) ?rr8
        case hy8 => intro w hSw; (try dsimp only at hSw); go_simp; all_goals with_reducible rfl
        try simp only [Act.put, List.setIfInBounds_toArray, List.set_cons_zero, List.set_cons_succ]
        refine wpAnyH_ready (rs := [8]) (by kernel_rfl) (by simp) ?_
        refine AllReadyH.cons (i := 8) (o := { dst := some 32, op := Go.Op.call { callee := Go.Callee.value (Go.Operand.func 32), args := #[Go.Operand.tmp 25, Go.Operand.tmp 31], argTypes := #[24, 3] }, type := 3, pos := "ref.go:16", after := #[{ on := 1, ground := Go.Ground.data }, { on := 7, ground := Go.Ground.data }], guard := none }) rfl (fun K hK => ?_) AllReadyH.nil
        go_simp
        go_at_call 32
        refine (rref_any h o.cls (some ⟨b, off, none⟩) c _).mono ?_
        rintro e w' ⟨rfl, hb⟩
        rw [rv]
        have gq := cell_later hb gq0
        have fq := frozen_later hb hgl fq0
        have HOr := hid (own_later HO.out.drew hb)
        have HBr := hid hb
        refine hK.out _ _ ?_ (fun hHeld => ?_)
        · exact ⟨cell_later hb x0, cell_later hb x1, cell_later hb x2, cell_later hb e0, draw_up HW.out.drew hb⟩
        clear hK K
        try simp only [Act.put, List.setIfInBounds_toArray, List.set_cons_zero, List.set_cons_succ]
        have hH1 := hHeld
        clear hHeld hb
        have hHeld := hH1
        refine wpAnyH_take (i := 9) (oi := { dst := some 33, op := Go.Op.indexAddr 55 (Go.Operand.tmp 24) (Go.Operand.tmp 32), type := 0, pos := "ref.go:16", after := #[{ on := 0, ground := Go.Ground.data }, { on := 8, ground := Go.Ground.data }, { on := 0, ground := Go.Ground.phase }, { on := 1, ground := Go.Ground.phase }, { on := 2, ground := Go.Ground.phase }, { on := 3, ground := Go.Ground.phase }, { on := 4, ground := Go.Ground.phase }, { on := 5, ground := Go.Ground.phase }, { on := 6, ground := Go.Ground.phase }, { on := 7, ground := Go.Ground.phase }, { on := 8, ground := Go.Ground.phase }], guard := none }) (v := ?vv9) rfl (by kernel_rfl) (by kernel_rfl) (by kernel_rfl) (fun _ _ _ h => h) (Or.inl ⟨by rfl, ?hy9⟩) (by assumption) ?rr9
        case hy9 => intro w hSw; (try dsimp only at hSw); go_simp; all_goals with_reducible rfl
        try simp only [Act.put, List.setIfInBounds_toArray, List.set_cons_zero, List.set_cons_succ]
        refine wpAnyH_ready (rs := [10]) (by kernel_rfl) (by simp) ?_
        refine AllReadyH.cons (i := 10) (o := { dst := none, op := Go.Op.store 4 (Go.Operand.tmp 33) (Go.Operand.const (Go.Value.bool true)), type := 0, pos := "ref.go:16", after := #[{ on := 9, ground := Go.Ground.data }, { on := 8, ground := Go.Ground.chain }, { on := 0, ground := Go.Ground.phase }, { on := 1, ground := Go.Ground.phase }, { on := 2, ground := Go.Ground.phase }, { on := 3, ground := Go.Ground.phase }, { on := 4, ground := Go.Ground.phase }, { on := 5, ground := Go.Ground.phase }, { on := 6, ground := Go.Ground.phase }, { on := 7, ground := Go.Ground.phase }, { on := 8, ground := Go.Ground.phase }], guard := none }) rfl (fun K hK => ?_) AllReadyH.nil
        go_simp
        refine hK.out _ _ ?_ (fun hHeld => ?_)
        · exact ⟨far_cell ne0 hH1.1, far_cell ne0 hH1.2.1, far_cell ne0 hH1.2.2.1, far_cell ne1 hH1.2.2.2.1, hH1.2.2.2.2.setCell (p := ⟨g, q, none⟩) (by simp; omega) _⟩
        clear hK K
        try simp only [Act.put, List.setIfInBounds_toArray, List.set_cons_zero, List.set_cons_succ]
        have hH2 := hHeld
        clear hHeld
        have hHeld := hH2
        refine wpAnyH_done (by kernel_rfl) ?_ _
        have hHeldB := hHeld.2.2.2.2
        have hOw := own_set (q := q) HOr.out
        have hne2 := HN.out.enter (o := o) HCL.out
        rw [HQ.out, Int.toNat_natCast] at hne2
        have hXw : Lies (w'.setCell ⟨g, q, none⟩ (.bool true)) w.heap.size 24 #[Value.slice (some ⟨b, off, none⟩) h.objs.length c, Value.int .i64 h.cap, Value.int .i64 h.last] := (HX.out.later (draw_up (Below.refl _ wo).drew HBr.out)).far (by exact ne0) _
        obtain ⟨w2, hw2⟩ : ∃ w2, w2 = w'.setCell ⟨g, q, none⟩ (.bool true) := ⟨_, rfl⟩
        rw [← hw2] at hOw hXw hHeldB ⊢
        have HO2 := hid hOw
        have HN2 := hid hne2
        have HX2 := hid hXw
        have HW2 := hid hHeldB
        clear hOw hne2 hXw hHeldB hHeld hH1 hH2 gq gq0 fq fq0 HOr HBr HX HO HW x0 x1 x2 e0 e2 hw2
        go_wp2_with fail
        go_loopw [7] (fun i' wr' => ∃ (j : Nat) (out' : List Bool), j ≤ o.slots.length ∧ i' = .int .i64 j ∧ wr'.ownsRow (w.heap.size + 1) 4 1 (.slice (some ⟨g, 0, none⟩) h.objs.length c1) h.objs.length (out'.map Value.bool) ∧ Nears h m out' k o j ∧ Lies wr' w.heap.size 24 #[Value.slice (some ⟨b, off, none⟩) h.objs.length c, Value.int .i64 h.cap, Value.int .i64 h.last] ∧ Below w.heap.size w wr') (fun i' _ => o.slots.length - (intOf i').toNat)
        case atStart => exact ⟨0, _, Nat.zero_le _, rfl, HO2.out, HN2.out, HX2.out, HW2.out⟩
        case round =>
          clear HO2 HN2 HX2 HW2
          obtain ⟨j, out', hj, rfl, hown, hnears, hbox, hbw⟩ := hrel
          rename World => wi
          have HW := hid hbw
          have HX := hid hbox
          have HO := hid hown
          have HNs := hid hnears
          have x0 := hbox.cell 0
          have x1 := hbox.cell 1
          have x2 := hbox.cell 2
          simp only [List.getElem?_toArray, List.getElem?_cons_zero, List.getElem?_cons_succ] at x0 x1 x2
          obtain ⟨e0, e1, e2, e3, e4, e5⟩ := HOB.out.below hb HW.out
          clear e0 e1 e3 e4 e5 hown hnears hbox hbw
          by_cases hjl : j < o.slots.length
          · obtain ⟨bs, os, rfl, hbs, hcs⟩ := HIN.out (by omega)
            have sc := (HW.out.cell (p := ⟨bs, os + j, none⟩) hbs).trans (hcs j _ (List.getElem?_eq_getElem hjl))
            have hpass := HNs.out.pass hjl
            have hput := HNs.out.put hjl
            have hmem := List.getElem_mem hjl
            obtain ⟨v, hv⟩ : ∃ v, v = o.slots[j] := ⟨_, rfl⟩
            rw [← hv] at sc hpass hput hmem
            have HPA := hid hpass
            have HPU := hid hput
            clear hcs hv hpass hput hmem
            go_wp2_with fail
            cases hrv : refB h.objs.length v
            · have rv2 : refI h.objs.length v = -1 := refI_neg hrv
              refine wp_region_held_drew (S := (fun w' => w'.cell? ⟨w.heap.size, 0, none⟩ = some (.slice (some ⟨b, off, none⟩) h.objs.length c) ∧ w'.cell? ⟨w.heap.size, 1, none⟩ = some (.int .i64 h.cap) ∧ w'.cell? ⟨w.heap.size, 2, none⟩ = some (.int .i64 h.last) ∧ w'.cell? ⟨b, off + k * 6 + 2, none⟩ = some (.slice (some ⟨bs, os, none⟩) o.slots.length ds) ∧ w'.cell? ⟨bs, os + j, none⟩ = some (.int .i64 v) ∧ Below w.heap.size w w')) (by kernel_rfl) ?_ (fun hHeld => ?_)
              · exact ⟨x0, x1, x2, e2, sc, HW.out.drew⟩
              refine wpAnyH_take (i := 0) (oi := { dst := some 45, op := Go.Op.load 24 (Go.Operand.tmp 2), type := 24, pos := "ref.go:18", after := #[], guard := none }) (v := ?vv10) rfl (by kernel_rfl) (by kernel_rfl) (by kernel_rfl) (fun _ _ _ h => h) (Or.inl ⟨by rfl, ?hy10⟩) (by assumption) ?rr10
              case hy10 => intro w hSw; (try dsimp only at hSw); go_simp; all_goals with_reducible rfl
              try simp only [Act.put, List.setIfInBounds_toArray, List.set_cons_zero, List.set_cons_succ]
              refine wpAnyH_take (i := 1) (oi := { dst := some 46, op := Go.Op.fieldAddr 24 (Go.Operand.tmp 2) 0, type := 0, pos := "ref.go:18", after := #[], guard := none }) (v := ?vv11) rfl (by kernel_rfl) (by kernel_rfl) (by kernel_rfl) (fun _ _ _ h => h) (Or.inl ⟨by rfl, ?hy11⟩) (by assumption) ?rr11
              case hy11 => intro w hSw; (try dsimp only at hSw); go_simp; all_goals with_reducible rfl
              try simp only [Act.put, List.setIfInBounds_toArray, List.set_cons_zero, List.set_cons_succ]
              refine wpAnyH_take (i := 2) (oi := { dst := some 47, op := Go.Op.load 22 (Go.Operand.tmp 46), type := 22, pos := "ref.go:18", after := #[{ on := 1, ground := Go.Ground.data }], guard := none }) (v := ?vv12) rfl (by kernel_rfl) (by kernel_rfl) (by kernel_rfl) (fun _ _ _ h => h) (Or.inl ⟨by rfl, ?hy12⟩) (by assumption) ?rr12
              case hy12 => intro w hSw; (try dsimp only at hSw); go_simp; all_goals with_reducible rfl
              try simp only [Act.put, List.setIfInBounds_toArray, List.set_cons_zero, List.set_cons_succ]
              refine wpAnyH_take (i := 3) (oi := { dst := some 48, op := Go.Op.move (Go.Operand.tmp 6), type := 3, pos := "ref.go:18", after := #[], guard := none }) (v := ?vv13) rfl (by kernel_rfl) (by kernel_rfl) (by kernel_rfl) (fun _ _ _ h => h) (Or.inl ⟨by rfl, ?hy13⟩) (by assumption) ?rr13
              case hy13 => intro w hSw; (try dsimp only at hSw); go_simp; all_goals with_reducible rfl
              try simp only [Act.put, List.setIfInBounds_toArray, List.set_cons_zero, List.set_cons_succ]
              refine wpAnyH_take (i := 4) (oi := { dst := some 49, op := Go.Op.indexAddr 22 (Go.Operand.tmp 47) (Go.Operand.tmp 48), type := 0, pos := "ref.go:18", after := #[{ on := 2, ground := Go.Ground.data }, { on := 3, ground := Go.Ground.data }], guard := none }) (v := ?vv14) rfl (by kernel_rfl) (by kernel_rfl) (by kernel_rfl) (fun _ _ _ h => h) (Or.inl ⟨by rfl, ?hy14⟩) (by assumption) ?rr14
              case hy14 => intro w hSw; (try dsimp only at hSw); go_simp; all_goals with_reducible rfl
              try simp only [Act.put, List.setIfInBounds_toArray, List.set_cons_zero, List.set_cons_succ]
              refine wpAnyH_take (i := 5) (oi := { dst := some 50, op := Go.Op.fieldAddr 41 (Go.Operand.tmp 49) 2, type := 0, pos := "ref.go:18", after := #[{ on := 4, ground := Go.Ground.data }], guard := none }) (v := ?vv15) rfl (by kernel_rfl) (by kernel_rfl) (by kernel_rfl) (fun _ _ _ h => h) (Or.inl ⟨by rfl, ?hy15⟩) (by assumption) ?rr15
              case hy15 => intro w hSw; (try dsimp only at hSw); go_simp; all_goals with_reducible rfl
              try simp only [Act.put, List.setIfInBounds_toArray, List.set_cons_zero, List.set_cons_succ]
              refine wpAnyH_take (i := 6) (oi := { dst := some 51, op := Go.Op.load 34 (Go.Operand.tmp 50), type := 34, pos := "ref.go:18", after := #[{ on := 5, ground := Go.Ground.data }], guard := none }) (v := ?vv16) rfl (by kernel_rfl) (by kernel_rfl) (by kernel_rfl) (fun _ _ _ h => h) (Or.inl ⟨by rfl, ?hy16⟩) (by assumption) ?rr16
              case hy16 => intro w hSw; (try dsimp only at hSw); go_simp; all_goals with_reducible rfl
              try simp only [Act.put, List.setIfInBounds_toArray, List.set_cons_zero, List.set_cons_succ]
              refine wpAnyH_take (i := 7) (oi := { dst := some 52, op := Go.Op.move (Go.Operand.tmp 7), type := 3, pos := "ref.go:18", after := #[], guard := none }) (v := ?vv17) rfl (by kernel_rfl) (by kernel_rfl) (by kernel_rfl) (fun _ _ _ h => h) (Or.inl ⟨by rfl, ?hy17⟩) (by assumption) ?rr17
              case hy17 => intro w hSw; (try dsimp only at hSw); go_simp; all_goals with_reducible rfl
              try simp only [Act.put, List.setIfInBounds_toArray, List.set_cons_zero, List.set_cons_succ]
              refine wpAnyH_take (i := 8) (oi := { dst := some 53, op := Go.Op.indexAddr 34 (Go.Operand.tmp 51) (Go.Operand.tmp 52), type := 0, pos := "ref.go:18", after := #[{ on := 6, ground := Go.Ground.data }, { on := 7, ground := Go.Ground.data }], guard := none }) (v := ?vv18) rfl (by kernel_rfl) (by kernel_rfl) (by kernel_rfl) (fun _ _ _ h => h) (Or.inl ⟨by rfl, ?hy18⟩) (by assumption) ?rr18
              case hy18 => intro w hSw; (try dsimp only at hSw); go_simp; all_goals with_reducible rfl
              try simp only [Act.put, List.setIfInBounds_toArray, List.set_cons_zero, List.set_cons_succ]
              refine wpAnyH_take (i := 9) (oi := { dst := some 54, op := Go.Op.load 3 (Go.Operand.tmp 53), type := 3, pos := "ref.go:18", after := #[{ on := 8, ground := Go.Ground.data }], guard := none }) (v := ?vv19) rfl (by kernel_rfl) (by kernel_rfl) (by kernel_rfl) (fun _ _ _ h => h) (Or.inl ⟨by rfl, ?hy19⟩) (by assumption) ?rr19
              case hy19 => intro w hSw; (try dsimp only at hSw); go_simp; all_goals with_reducible rfl
              try simp only [Act.put, List.setIfInBounds_toArray, List.set_cons_zero, List.set_cons_succ]
              refine wpAnyH_ready (rs := [10]) (by kernel_rfl) (by simp) ?_
              refine AllReadyH.cons (i := 10) (o := { dst := some 55, op := Go.Op.call { callee := Go.Callee.value (Go.Operand.func 32), args := #[Go.Operand.tmp 45, Go.Operand.tmp 54], argTypes := #[24, 3] }, type := 3, pos := "ref.go:18", after := #[{ on := 0, ground := Go.Ground.data }, { on := 9, ground := Go.Ground.data }], guard := none }) rfl (fun K hK => ?_) AllReadyH.nil
              go_simp
              go_at_call 32
              refine (rref_any h v (some ⟨b, off, none⟩) c _).mono ?_
              rintro e w' ⟨rfl, hb⟩
              rw [rv2]
              have HOr := hid (own_later HO.out.drew hb)
              have HBr := hid hb
              refine hK.out _ _ ?_ (fun hHeld => ?_)
              · exact ⟨cell_later hb x0, cell_later hb x1, cell_later hb x2, cell_later hb e2, cell_later hb sc, draw_up HW.out.drew hb⟩
              clear hK K
              try simp only [Act.put, List.setIfInBounds_toArray, List.set_cons_zero, List.set_cons_succ]
              have hH1 := hHeld
              clear hHeld hb
              have hHeld := hH1
              refine wpAnyH_take (i := 11) (oi := { dst := some 8, op := Go.Op.assign (Go.Operand.tmp 55), type := 3, pos := "ref.go:18", after := #[{ on := 10, ground := Go.Ground.data }, { on := 10, ground := Go.Ground.chain }, { on := 0, ground := Go.Ground.phase }, { on := 1, ground := Go.Ground.phase }, { on := 2, ground := Go.Ground.phase }, { on := 3, ground := Go.Ground.phase }, { on := 4, ground := Go.Ground.phase }, { on := 5, ground := Go.Ground.phase }, { on := 6, ground := Go.Ground.phase }, { on := 7, ground := Go.Ground.phase }, { on := 8, ground := Go.Ground.phase }, { on := 9, ground := Go.Ground.phase }, { on := 10, ground := Go.Ground.phase }], guard := none }) (v := ?vv20) rfl (by kernel_rfl) (by kernel_rfl) (by kernel_rfl) (fun _ _ _ h => h) (Or.inl ⟨by rfl, ?hy20⟩) (by assumption) ?rr20
              case hy20 => intro w hSw; (try dsimp only at hSw); go_simp; all_goals with_reducible rfl
              try simp only [Act.put, List.setIfInBounds_toArray, List.set_cons_zero, List.set_cons_succ]
              refine wpAnyH_done (by kernel_rfl) ?_ _
              have hHeldB := hHeld.2.2.2.2.2
              go_wp2_with fail
              go_roundw
              case rel =>
                have hXw : Lies w' w.heap.size 24 #[Value.slice (some ⟨b, off, none⟩) h.objs.length c, Value.int .i64 h.cap, Value.int .i64 h.last] := HX.out.later (draw_up (Below.refl _ wi).drew HBr.out)
                exact ⟨j + 1, out', by omega, by go_num, HOr.out, HPA.out hrv, hXw, hHeldB⟩
              case measure => simp [intOf]; omega
            · obtain ⟨p, hp⟩ : ∃ p : Nat, atV v = p := ⟨_, (refB_nat hrv).2.symm⟩
              have rv2 : refI h.objs.length v = p := by rw [refI_nonneg hrv, hp]
              have hpn : p < h.objs.length := by have := (refB_nat hrv).1; omega
              have hon' : out'.length = h.objs.length := HNs.out.len
              have gp0 := HO.out.cellAt p (by omega)
              rw [List.getElem?_map, List.getElem?_eq_getElem (by omega)] at gp0
              simp only [Option.map_some] at gp0
              have fp0 := HO.out.frozenAt p
              have hgl' : g < wi.heap.size := (HO.out.lt g rfl).2
              have hpu := HPU.out hrv
              rw [hp, Int.toNat_natCast] at hpu
              have HPU2 := hid hpu
              clear hpu hp
              refine wp_region_held_drew (S := (fun w' => w'.cell? ⟨w.heap.size, 0, none⟩ = some (.slice (some ⟨b, off, none⟩) h.objs.length c) ∧ w'.cell? ⟨w.heap.size, 1, none⟩ = some (.int .i64 h.cap) ∧ w'.cell? ⟨w.heap.size, 2, none⟩ = some (.int .i64 h.last) ∧ w'.cell? ⟨b, off + k * 6 + 2, none⟩ = some (.slice (some ⟨bs, os, none⟩) o.slots.length ds) ∧ w'.cell? ⟨bs, os + j, none⟩ = some (.int .i64 v) ∧ Below w.heap.size w w')) (by kernel_rfl) ?_ (fun hHeld => ?_)
              · exact ⟨x0, x1, x2, e2, sc, HW.out.drew⟩
              refine wpAnyH_take (i := 0) (oi := { dst := some 45, op := Go.Op.load 24 (Go.Operand.tmp 2), type := 24, pos := "ref.go:18", after := #[], guard := none }) (v := ?vv21) rfl (by kernel_rfl) (by kernel_rfl) (by kernel_rfl) (fun _ _ _ h => h) (Or.inl ⟨by rfl, ?hy21⟩) (by assumption) ?rr21
              case hy21 => intro w hSw; (try dsimp only at hSw); go_simp; all_goals with_reducible rfl
              try simp only [Act.put, List.setIfInBounds_toArray, List.set_cons_zero, List.set_cons_succ]
              refine wpAnyH_take (i := 1) (oi := { dst := some 46, op := Go.Op.fieldAddr 24 (Go.Operand.tmp 2) 0, type := 0, pos := "ref.go:18", after := #[], guard := none }) (v := ?vv22) rfl (by kernel_rfl) (by kernel_rfl) (by kernel_rfl) (fun _ _ _ h => h) (Or.inl ⟨by rfl, ?hy22⟩) (by assumption) ?rr22
              case hy22 => intro w hSw; (try dsimp only at hSw); go_simp; all_goals with_reducible rfl
              try simp only [Act.put, List.setIfInBounds_toArray, List.set_cons_zero, List.set_cons_succ]
              refine wpAnyH_take (i := 2) (oi := { dst := some 47, op := Go.Op.load 22 (Go.Operand.tmp 46), type := 22, pos := "ref.go:18", after := #[{ on := 1, ground := Go.Ground.data }], guard := none }) (v := ?vv23) rfl (by kernel_rfl) (by kernel_rfl) (by kernel_rfl) (fun _ _ _ h => h) (Or.inl ⟨by rfl, ?hy23⟩) (by assumption) ?rr23
              case hy23 => intro w hSw; (try dsimp only at hSw); go_simp; all_goals with_reducible rfl
              try simp only [Act.put, List.setIfInBounds_toArray, List.set_cons_zero, List.set_cons_succ]
              refine wpAnyH_take (i := 3) (oi := { dst := some 48, op := Go.Op.move (Go.Operand.tmp 6), type := 3, pos := "ref.go:18", after := #[], guard := none }) (v := ?vv24) rfl (by kernel_rfl) (by kernel_rfl) (by kernel_rfl) (fun _ _ _ h => h) (Or.inl ⟨by rfl, ?hy24⟩) (by assumption) ?rr24
              case hy24 => intro w hSw; (try dsimp only at hSw); go_simp; all_goals with_reducible rfl
              try simp only [Act.put, List.setIfInBounds_toArray, List.set_cons_zero, List.set_cons_succ]
              refine wpAnyH_take (i := 4) (oi := { dst := some 49, op := Go.Op.indexAddr 22 (Go.Operand.tmp 47) (Go.Operand.tmp 48), type := 0, pos := "ref.go:18", after := #[{ on := 2, ground := Go.Ground.data }, { on := 3, ground := Go.Ground.data }], guard := none }) (v := ?vv25) rfl (by kernel_rfl) (by kernel_rfl) (by kernel_rfl) (fun _ _ _ h => h) (Or.inl ⟨by rfl, ?hy25⟩) (by assumption) ?rr25
              case hy25 => intro w hSw; (try dsimp only at hSw); go_simp; all_goals with_reducible rfl
              try simp only [Act.put, List.setIfInBounds_toArray, List.set_cons_zero, List.set_cons_succ]
              refine wpAnyH_take (i := 5) (oi := { dst := some 50, op := Go.Op.fieldAddr 41 (Go.Operand.tmp 49) 2, type := 0, pos := "ref.go:18", after := #[{ on := 4, ground := Go.Ground.data }], guard := none }) (v := ?vv26) rfl (by kernel_rfl) (by kernel_rfl) (by kernel_rfl) (fun _ _ _ h => h) (Or.inl ⟨by rfl, ?hy26⟩) (by assumption) ?rr26
              case hy26 => intro w hSw; (try dsimp only at hSw); go_simp; all_goals with_reducible rfl
              try simp only [Act.put, List.setIfInBounds_toArray, List.set_cons_zero, List.set_cons_succ]
              refine wpAnyH_take (i := 6) (oi := { dst := some 51, op := Go.Op.load 34 (Go.Operand.tmp 50), type := 34, pos := "ref.go:18", after := #[{ on := 5, ground := Go.Ground.data }], guard := none }) (v := ?vv27) rfl (by kernel_rfl) (by kernel_rfl) (by kernel_rfl) (fun _ _ _ h => h) (Or.inl ⟨by rfl, ?hy27⟩) (by assumption) ?rr27
              case hy27 => intro w hSw; (try dsimp only at hSw); go_simp; all_goals with_reducible rfl
              try simp only [Act.put, List.setIfInBounds_toArray, List.set_cons_zero, List.set_cons_succ]
              refine wpAnyH_take (i := 7) (oi := { dst := some 52, op := Go.Op.move (Go.Operand.tmp 7), type := 3, pos := "ref.go:18", after := #[], guard := none }) (v := ?vv28) rfl (by kernel_rfl) (by kernel_rfl) (by kernel_rfl) (fun _ _ _ h => h) (Or.inl ⟨by rfl, ?hy28⟩) (by assumption) ?rr28
              case hy28 => intro w hSw; (try dsimp only at hSw); go_simp; all_goals with_reducible rfl
              try simp only [Act.put, List.setIfInBounds_toArray, List.set_cons_zero, List.set_cons_succ]
              refine wpAnyH_take (i := 8) (oi := { dst := some 53, op := Go.Op.indexAddr 34 (Go.Operand.tmp 51) (Go.Operand.tmp 52), type := 0, pos := "ref.go:18", after := #[{ on := 6, ground := Go.Ground.data }, { on := 7, ground := Go.Ground.data }], guard := none }) (v := ?vv29) rfl (by kernel_rfl) (by kernel_rfl) (by kernel_rfl) (fun _ _ _ h => h) (Or.inl ⟨by rfl, ?hy29⟩) (by assumption) ?rr29
              case hy29 => intro w hSw; (try dsimp only at hSw); go_simp; all_goals with_reducible rfl
              try simp only [Act.put, List.setIfInBounds_toArray, List.set_cons_zero, List.set_cons_succ]
              refine wpAnyH_take (i := 9) (oi := { dst := some 54, op := Go.Op.load 3 (Go.Operand.tmp 53), type := 3, pos := "ref.go:18", after := #[{ on := 8, ground := Go.Ground.data }], guard := none }) (v := ?vv30) rfl (by kernel_rfl) (by kernel_rfl) (by kernel_rfl) (fun _ _ _ h => h) (Or.inl ⟨by rfl, ?hy30⟩) (by assumption) ?rr30
              case hy30 => intro w hSw; (try dsimp only at hSw); go_simp; all_goals with_reducible rfl
              try simp only [Act.put, List.setIfInBounds_toArray, List.set_cons_zero, List.set_cons_succ]
              refine wpAnyH_ready (rs := [10]) (by kernel_rfl) (by simp) ?_
              refine AllReadyH.cons (i := 10) (o := { dst := some 55, op := Go.Op.call { callee := Go.Callee.value (Go.Operand.func 32), args := #[Go.Operand.tmp 45, Go.Operand.tmp 54], argTypes := #[24, 3] }, type := 3, pos := "ref.go:18", after := #[{ on := 0, ground := Go.Ground.data }, { on := 9, ground := Go.Ground.data }], guard := none }) rfl (fun K hK => ?_) AllReadyH.nil
              go_simp
              go_at_call 32
              refine (rref_any h v (some ⟨b, off, none⟩) c _).mono ?_
              rintro e w' ⟨rfl, hb⟩
              rw [rv2]
              have gp := cell_later hb gp0
              have fp := frozen_later hb hgl' fp0
              have HOr := hid (own_later HO.out.drew hb)
              have HBr := hid hb
              refine hK.out _ _ ?_ (fun hHeld => ?_)
              · exact ⟨cell_later hb x0, cell_later hb x1, cell_later hb x2, cell_later hb e2, cell_later hb sc, draw_up HW.out.drew hb⟩
              clear hK K
              try simp only [Act.put, List.setIfInBounds_toArray, List.set_cons_zero, List.set_cons_succ]
              have hH1 := hHeld
              clear hHeld hb
              have hHeld := hH1
              refine wpAnyH_take (i := 11) (oi := { dst := some 8, op := Go.Op.assign (Go.Operand.tmp 55), type := 3, pos := "ref.go:18", after := #[{ on := 10, ground := Go.Ground.data }, { on := 10, ground := Go.Ground.chain }, { on := 0, ground := Go.Ground.phase }, { on := 1, ground := Go.Ground.phase }, { on := 2, ground := Go.Ground.phase }, { on := 3, ground := Go.Ground.phase }, { on := 4, ground := Go.Ground.phase }, { on := 5, ground := Go.Ground.phase }, { on := 6, ground := Go.Ground.phase }, { on := 7, ground := Go.Ground.phase }, { on := 8, ground := Go.Ground.phase }, { on := 9, ground := Go.Ground.phase }, { on := 10, ground := Go.Ground.phase }], guard := none }) (v := ?vv31) rfl (by kernel_rfl) (by kernel_rfl) (by kernel_rfl) (fun _ _ _ h => h) (Or.inl ⟨by rfl, ?hy31⟩) (by assumption) ?rr31
              case hy31 => intro w hSw; (try dsimp only at hSw); go_simp; all_goals with_reducible rfl
              try simp only [Act.put, List.setIfInBounds_toArray, List.set_cons_zero, List.set_cons_succ]
              refine wpAnyH_done (by kernel_rfl) ?_ _
              have hHeldB := hHeld.2.2.2.2.2
              have hOw := own_set (q := p) HOr.out
              have HOw := hid hOw
              have hXw : Lies (w'.setCell ⟨g, p, none⟩ (.bool true)) w.heap.size 24 #[Value.slice (some ⟨b, off, none⟩) h.objs.length c, Value.int .i64 h.cap, Value.int .i64 h.last] := (HX.out.later (draw_up (Below.refl _ wi).drew HBr.out)).far (by exact ne0) _
              have HXw := hid hXw
              have HBw : Hid (Below w.heap.size w (w'.setCell ⟨g, p, none⟩ (.bool true))) := hHeldB.setCell (p := ⟨g, p, none⟩) (by simp; omega) _
              clear hOw hXw hHeldB
              go_wp2_with fail
              go_roundw
              case rel => exact ⟨j + 1, _, by omega, by go_num, HOw.out, HPU2.out, HXw.out, HBw.out⟩
              case measure => simp [intOf]; omega
          · have hjn : j = o.slots.length := by omega
            have hnl := HNs.out
            rw [hjn] at hnl
            have HNL := hid (hnl.leave HOI.out HMT.out)
            clear hnl
            go_wp2_with fail
            go_roundw
            case rel => exact ⟨k + 1, out', by omega, by go_num, HO.out, HNL.out, HX.out, HW.out⟩
            case measure => simp [intOf]; omega
    · obtain rfl : k = h.objs.length := by omega
      have hd := HN.out.done hl
      have HD := hid hd
      clear hd x1 x2
      go_wp2_with fail
      go_ret
      rw [← HD.out]
      exact ⟨A1, c1, rfl, own_lower HO.out (Nat.le_succ _), HW.out⟩
end Go.Proofs.YtnilempeldlieaaGreat
