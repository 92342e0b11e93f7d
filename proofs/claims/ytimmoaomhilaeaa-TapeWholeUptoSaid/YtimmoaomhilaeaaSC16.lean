/- The document's words on tapes: what is left where it diverges. -/
import Derived.Test.YtimmoaomhilaeaaSB16
namespace Go.Proofs.Ytimmoaomhilaeaa
open Go.RowKit
set_option maxRecDepth 100000
/-- the answer: a tape, and an error -/
def TapeA (w : World) (u : Tp) (er : Int) (e : Ending) (w' : World) : Prop :=
  ∃ P p Q q, e = .returned (.tuple #[.agg #[.slice P u.log.length p, .slice Q u.rest.length q], .int .i64 er]) ∧ IntsR w' P u.log ∧ IntsR w' Q u.rest ∧ (P = none → p = 0) ∧ (Q = none → q = 0) ∧ u.log.length ≤ p ∧ u.rest.length ≤ q ∧ Below w.heap.size w w'
theorem ints_nil16 (w : World) (A : Option Addr) : IntsR w A [] := fun h => absurd h (by simp)
theorem far_cell16 {w : World} {g j g' o : Nat} {u v : Value} (hne : g' ≠ g) (h : w.cell? ⟨g', o, none⟩ = some v) : (w.setCell ⟨g, j, none⟩ u).cell? ⟨g', o, none⟩ = some v := cell_far hne h
def dvB (t : Tp) (k : Int) : Bool := mayT t && decide (0 ≤ k) && decide (k ≤ t.log.length)
def dvT (t : Tp) (k : Int) : Tp := if dvB t k = true then ⟨t.log.take k.toNat, t.rest⟩ else ⟨[], []⟩
def dvE (t : Tp) (k : Int) : Int := if dvB t k = true then 0 else 160
theorem dvT_no {t : Tp} {k : Int} (h : dvB t k = false) : dvT t k = ⟨[], []⟩ := by unfold dvT; rw [if_neg (by rw [h]; decide)]
theorem dvE_no {t : Tp} {k : Int} (h : dvB t k = false) : dvE t k = 160 := by unfold dvE; rw [if_neg (by rw [h]; decide)]
theorem dvT_yes {t : Tp} {k : Int} (h : dvB t k = true) : dvT t k = ⟨t.log.take k.toNat, t.rest⟩ := by unfold dvT; rw [if_pos h]
theorem dvE_yes {t : Tp} {k : Int} (h : dvB t k = true) : dvE t k = 0 := by unfold dvE; rw [if_pos h]
set_option maxHeartbeats 4000000 in
theorem rdiverge_any16 (t : Tp) (A B : Option Addr) (c d : Nat) (w : World) (hA : IntsR w A t.log) (hB : IntsR w B t.rest) (nA : A = none → c = 0) (nB : B = none → d = 0) (lA : t.log.length ≤ c) (lB : t.rest.length ≤ d) (k : Int) (hl : t.log.length + t.rest.length ≤ 1048576) :
    Calls Try.prog 11 #[.agg #[.slice A t.log.length c, .slice B t.rest.length d], .int .i64 k] w (TapeA w (dvT t k) (dvE t k)) := by
  obtain ⟨w0, hw0⟩ : ∃ w0, w0 = (w.alloc (.cells #[.slice A t.log.length c, .slice B t.rest.length d] 24)).alloc (.cells #[.slice none 0 0, .slice none 0 0] 24) := ⟨_, rfl⟩
  have HB0 : Hid (Below w.heap.size w w0) := by show Below _ _ _; rw [hw0]; exact below_alloc2 w _ _
  have X0 : Hid (Lies w0 w.heap.size 24 #[.slice A t.log.length c, .slice B t.rest.length d]) := by show Lies _ _ _ _; rw [hw0]; exact (Lies.new w _ _).alloc _
  have K0 : Hid (Lies w0 (w.heap.size + 1) 24 #[.slice none 0 0, .slice none 0 0]) := by
    show Lies _ _ _ _
    rw [hw0]
    have := Lies.new (w.alloc (.cells #[.slice A t.log.length c, .slice B t.rest.length d] 24)) 24 #[.slice none 0 0, .slice none 0 0]
    simpa [Hid] using this
  have RA0 := hid (hA.below HB0.out)
  have RB0 := hid (hB.below HB0.out)
  have NA := hid nA
  have NB := hid nB
  have RB := hid hB
  have RA := hid hA
  have LA := hid lA
  have LB := hid lB
  clear hA hB nA nB lA lB
  go_enter Try.func11, Try.ntmps11
  go_upto_region 1 with fail
  rw [← hw0]
  clear hw0
  have x0 := X0.out.cell 0
  have x1 := X0.out.cell 1
  have y0 := K0.out.cell 0
  have y1 := K0.out.cell 1
  have yf0 := K0.out.frozen 0
  have yf1 := K0.out.frozen 1
  simp only [List.getElem?_toArray, List.getElem?_cons_zero, List.getElem?_cons_succ] at x0 x1 y0 y1
  go_wp2_with fail
  refine (rcheck_any16 t A B c d _ RA0.out RB0.out NA.out NB.out hl).mono ?_
  rintro e w1 ⟨rfl, hb⟩
  have X1 := hid (X0.out.later hb)
  have K1 := hid (K0.out.later hb)
  have HB1 := hid (then_w HB0.out hb)
  have RA1 := hid (RA0.out.below hb)
  have RB1 := hid (RB0.out.below hb)
  clear hb
  clear x0 x1 y0 y1 yf0 yf1
  by_cases hm : mayT t = true
  · by_cases h0 : 0 ≤ k
    · by_cases h1 : k ≤ (t.log.length : Int)
      · have E : Hid (dvB t k = true) := by show _ = _; unfold dvB; rw [hm, decide_eq_true h0, decide_eq_true h1]; rfl
        rw [ckT_yes hm]
        clear hm
        obtain ⟨m, rfl⟩ : ∃ m : Nat, k = m := ⟨k.toNat, by omega⟩
        have hmn : m ≤ t.log.length := by omega
        have hmc : (m : Int) ≤ (c : Int) := by have := LA.out; omega
        have x0 := X1.out.cell 0
        have x1 := X1.out.cell 1
        have y0 := K1.out.cell 0
        have y1 := K1.out.cell 1
        have yf0 := K1.out.frozen 0
        have yf1 := K1.out.frozen 1
        simp only [List.getElem?_toArray, List.getElem?_cons_zero, List.getElem?_cons_succ] at x0 x1 y0 y1
        go_upto_region 3 with fail
        have ne0 : Hid (w.heap.size ≠ w.heap.size + 1) := by show _ ≠ _; omega
        obtain ⟨xs, hxs⟩ : ∃ x, x = t.log.take m := ⟨_, rfl⟩
        have HXL : Hid (xs.length = m) := by show _ = _; rw [hxs, List.length_take]; omega
        obtain ⟨A1, c1, w2, r1, ho, b1⟩ := run_one16 w1.drew xs A c (by rw [hxs]; exact IntsR.take16 RA1.out m) NA.out (by rw [HXL.out]; omega)
        have EV : Hid (dvT t m = ⟨xs, t.rest⟩) := by show _ = _; rw [dvT_yes E.out, hxs]; rfl
        clear hxs
        rw [HXL.out] at r1 ho
        have R1 := hid r1
        have HO := hid ho
        have B1 : Hid (Below w1.heap.size w1 w2) := (Below.refl _ _).drew.trans b1
        clear r1 ho b1
        have K2 := hid (K1.out.later B1.out)
        have X2 := hid (X1.out.later B1.out)
        have z0 := K2.out.cell 0
        have z1 := K2.out.cell 1
        have zf0 := K2.out.frozen 0
        have zf1 := K2.out.frozen 1
        simp only [List.getElem?_toArray, List.getElem?_cons_zero, List.getElem?_cons_succ] at z0 z1
        refine wp_region_held_drew (S := (fun w' => w'.cell? ⟨w.heap.size, 0, none⟩ = some (.slice A t.log.length c) ∧ w'.cell? ⟨w.heap.size, 1, none⟩ = some (.slice B t.rest.length d))) (by kernel_rfl) ?_ (fun hHeld => ?_)
        · exact ⟨x0, x1⟩
        refine wpAnyH_take (i := 1) (oi := { dst := some 22, op := Go.Op.fieldAddr 24 (Go.Operand.tmp 2) 0, type := 0, pos := "ref.go:47", after := #[], guard := none }) (v := ?vv1) rfl (by kernel_rfl) (by kernel_rfl) (by kernel_rfl) (fun _ _ _ h => h) (Or.inl ⟨by rfl, ?hy1⟩) (by assumption) ?rr1
        case hy1 => intro w hSw; (try dsimp only at hSw); go_simp; all_goals with_reducible rfl
        try simp only [Act.put, List.setIfInBounds_toArray, List.set_cons_zero, List.set_cons_succ]
        refine wpAnyH_take (i := 2) (oi := { dst := some 23, op := Go.Op.load 22 (Go.Operand.tmp 22), type := 22, pos := "ref.go:47", after := #[{ on := 1, ground := Go.Ground.data }], guard := none }) (v := ?vv2) rfl (by kernel_rfl) (by kernel_rfl) (by kernel_rfl) (fun _ _ _ h => h) (Or.inl ⟨by rfl, ?hy2⟩) (by assumption) ?rr2
        case hy2 => intro w hSw; (try dsimp only at hSw); go_simp; all_goals with_reducible rfl
        try simp only [Act.put, List.setIfInBounds_toArray, List.set_cons_zero, List.set_cons_succ]
        refine wpAnyH_take (i := 3) (oi := { dst := some 24, op := Go.Op.move (Go.Operand.tmp 1), type := 3, pos := "ref.go:47", after := #[], guard := none }) (v := ?vv3) rfl (by kernel_rfl) (by kernel_rfl) (by kernel_rfl) (fun _ _ _ h => h) (Or.inl ⟨by rfl, ?hy3⟩) (by assumption) ?rr3
        case hy3 => intro w hSw; (try dsimp only at hSw); go_simp; all_goals with_reducible rfl
        try simp only [Act.put, List.setIfInBounds_toArray, List.set_cons_zero, List.set_cons_succ]
        refine wpAnyH_take (i := 4) (oi := { dst := some 25, op := Go.Op.slice 22 (Go.Operand.tmp 23) none (some (Go.Operand.tmp 24)) none, type := 22, pos := "ref.go:47", after := #[{ on := 2, ground := Go.Ground.data }, { on := 3, ground := Go.Ground.data }], guard := none }) (v := ?vv4) rfl (by kernel_rfl) (by kernel_rfl) (by kernel_rfl) (fun _ _ _ h => h) (Or.inl ⟨by rfl, ?hy4⟩) (by assumption) ?rr4
        case hy4 => intro w hSw; (try dsimp only at hSw); go_simp; all_goals with_reducible rfl
        try simp only [Act.put, List.setIfInBounds_toArray, List.set_cons_zero, List.set_cons_succ]
        refine wpAnyH_take (i := 6) (oi := { dst := some 27, op := Go.Op.fieldAddr 24 (Go.Operand.tmp 2) 1, type := 0, pos := "ref.go:47", after := #[], guard := none }) (v := ?vv5) rfl (by kernel_rfl) (by kernel_rfl) (by kernel_rfl) (fun _ _ _ h => h) (Or.inl ⟨by rfl, ?hy5⟩) (by assumption) ?rr5
        case hy5 => intro w hSw; (try dsimp only at hSw); go_simp; all_goals with_reducible rfl
        try simp only [Act.put, List.setIfInBounds_toArray, List.set_cons_zero, List.set_cons_succ]
        refine wpAnyH_take (i := 7) (oi := { dst := some 28, op := Go.Op.load 22 (Go.Operand.tmp 27), type := 22, pos := "ref.go:47", after := #[{ on := 6, ground := Go.Ground.data }], guard := none }) (v := ?vv6) rfl (by kernel_rfl) (by kernel_rfl) (by kernel_rfl) (fun _ _ _ h => h) (Or.inl ⟨by rfl, ?hy6⟩) (by assumption) ?rr6
        case hy6 => intro w hSw; (try dsimp only at hSw); go_simp; all_goals with_reducible rfl
        try simp only [Act.put, List.setIfInBounds_toArray, List.set_cons_zero, List.set_cons_succ]
        refine wpAnyH_ready (rs := [0]) (by kernel_rfl) (by simp) ?_
        refine AllReadyH.cons (i := 0) (o := { dst := some 21, op := Go.Op.buildSlice 22 0 #[], type := 22, pos := "ref.go:47", after := #[], guard := none }) rfl (fun K hK => ?_) AllReadyH.nil
        go_simp
        refine hK.out _ _ ?_ (fun hHeld => ?_)
        · exact ⟨cell_old x0, cell_old x1⟩
        clear hK K
        try simp only [Act.put, List.setIfInBounds_toArray, List.set_cons_zero, List.set_cons_succ]
        have hH1 := hHeld
        clear hHeld
        have hHeld := hH1
        refine wpAnyH_ready (rs := [5]) (by kernel_rfl) (by simp) ?_
        refine AllReadyH.cons (i := 5) (o := { dst := some 26, op := Go.Op.call { callee := Go.Callee.builtin Go.Builtin.append, args := #[Go.Operand.tmp 21, Go.Operand.tmp 25], argTypes := #[22, 22] }, type := 22, pos := "ref.go:47", after := #[{ on := 0, ground := Go.Ground.data }, { on := 4, ground := Go.Ground.data }], guard := none }) rfl (fun K hK => ?_) AllReadyH.nil

        rw [if_pos (by rfl)]
        refine wp_append_run16 (.tmp 21) (.tmp 25) 22 rfl _ _ R1.out ?_
        refine hK.out _ _ ?_ (fun hHeld => ?_)
        · exact ⟨cell_later B1.out x0, cell_later B1.out x1⟩
        clear hK K
        try simp only [Act.put, List.setIfInBounds_toArray, List.set_cons_zero, List.set_cons_succ]
        have hH2 := hHeld
        clear hHeld
        have hHeld := hH2
        refine wpAnyH_take (i := 8) (oi := { dst := some 29, op := Go.Op.build 24 #[(0, Go.Operand.tmp 26), (1, Go.Operand.tmp 28)], type := 24, pos := "ref.go:47", after := #[{ on := 5, ground := Go.Ground.data }, { on := 7, ground := Go.Ground.data }], guard := none }) (v := ?vv7) rfl (by kernel_rfl) (by kernel_rfl) (by kernel_rfl) (fun _ _ _ h => h) (Or.inl ⟨by rfl, ?hy7⟩) (by assumption) ?rr7
        case hy7 => intro w hSw; (try dsimp only at hSw); go_simp; all_goals with_reducible rfl
        try simp only [Act.put, List.setIfInBounds_toArray, List.set_cons_zero, List.set_cons_succ]
        refine wpAnyH_ready (rs := [9]) (by kernel_rfl) (by simp) ?_
        refine AllReadyH.cons (i := 9) (o := { dst := none, op := Go.Op.store 24 (Go.Operand.tmp 4) (Go.Operand.tmp 29), type := 0, pos := "ref.go:47", after := #[{ on := 8, ground := Go.Ground.data }, { on := 5, ground := Go.Ground.chain }, { on := 0, ground := Go.Ground.phase }, { on := 1, ground := Go.Ground.phase }, { on := 2, ground := Go.Ground.phase }, { on := 3, ground := Go.Ground.phase }, { on := 4, ground := Go.Ground.phase }, { on := 5, ground := Go.Ground.phase }, { on := 6, ground := Go.Ground.phase }, { on := 7, ground := Go.Ground.phase }, { on := 8, ground := Go.Ground.phase }], guard := none }) rfl (fun K hK => ?_) AllReadyH.nil
        go_simp
        refine hK.out _ _ ?_ (fun hHeld => ?_)
        · exact ⟨far_cell16 ne0.out (far_cell16 ne0.out hH2.1), far_cell16 ne0.out (far_cell16 ne0.out hH2.2)⟩
        clear hK K
        try simp only [Act.put, List.setIfInBounds_toArray, List.set_cons_zero, List.set_cons_succ]
        have hH3 := hHeld
        clear hHeld
        have hHeld := hH3
        refine wpAnyH_take (i := 10) (oi := { dst := some 5, op := Go.Op.assign (Go.Operand.const (Go.Value.int Go.IntKind.i64 0)), type := 26, pos := "ref.go:47", after := #[{ on := 9, ground := Go.Ground.chain }, { on := 0, ground := Go.Ground.phase }, { on := 1, ground := Go.Ground.phase }, { on := 2, ground := Go.Ground.phase }, { on := 3, ground := Go.Ground.phase }, { on := 4, ground := Go.Ground.phase }, { on := 5, ground := Go.Ground.phase }, { on := 6, ground := Go.Ground.phase }, { on := 7, ground := Go.Ground.phase }, { on := 8, ground := Go.Ground.phase }, { on := 9, ground := Go.Ground.phase }], guard := none }) (v := ?vv8) rfl (by kernel_rfl) (by kernel_rfl) (by kernel_rfl) (fun _ _ _ h => h) (Or.inl ⟨by rfl, ?hy8⟩) (by assumption) ?rr8
        case hy8 => intro w hSw; (try dsimp only at hSw); go_simp; all_goals with_reducible rfl
        try simp only [Act.put, List.setIfInBounds_toArray, List.set_cons_zero, List.set_cons_succ]
        refine wpAnyH_done (by kernel_rfl) ?_ _
        clear x0 x1 y0 y1 yf0 yf1 z0 z1 zf0 zf1
        have KF := (K2.out.set_ 0 (.slice A1 m c1)).set_ 1 (.slice B t.rest.length d)
        have r0 := KF.cell 0
        have r1 := KF.cell 1
        simp only [List.setIfInBounds_toArray, List.set_cons_zero, List.set_cons_succ, List.getElem?_toArray, List.getElem?_cons_zero, List.getElem?_cons_succ] at r0 r1
        go_wp2_with fail
        refine bodyPost_ret (v := .tuple #[.agg #[.slice A1 m c1, .slice B t.rest.length d], .int .i64 0]) (by simp [results, Try.results11, go_sem, r0, r1]) rfl ?_
        clear r0 r1 KF
        have HB2 := hid (then_w HB1.out B1.out)
        have h1 : Below w.heap.size w ((w2.setCell ⟨w.heap.size + 1, 0, none⟩ (.slice A1 m c1)).setCell ⟨w.heap.size + 1, 1, none⟩ (.slice B t.rest.length d)) := (HB2.out.setCell (p := ⟨w.heap.size + 1, 0, none⟩) (by simp) _).setCell (p := ⟨w.heap.size + 1, 1, none⟩) (by simp) _
        have hlt : w.heap.size + 1 < w1.heap.size := K1.out.lt
        have hO : ((w2.setCell ⟨w.heap.size + 1, 0, none⟩ (.slice A1 m c1)).setCell ⟨w.heap.size + 1, 1, none⟩ (.slice B t.rest.length d)).ownsRow w1.heap.size 3 1 (.slice A1 m c1) m (xs.map (Value.int .i64)) := own_far16 (own_far16 HO.out hlt 0 _) hlt 1 _
        have hN := own_nil16 HO.out
        have hC := own_cap HO.out
        refine ⟨A1, c1, B, d, ?_, ?_, ?_, hN, NB.out, ?_, ?_, h1⟩
        · rw [EV.out, dvE_yes E.out]; show _ = Ending.returned (.tuple #[.agg #[.slice A1 xs.length c1, .slice B t.rest.length d], .int .i64 0]); rw [HXL.out]
        · rw [EV.out]; exact own_ints (xs := xs) (c := c1) (by rw [HXL.out]; exact hO)
        · rw [EV.out]; exact RB.out.below h1
        · rw [EV.out]; show xs.length ≤ c1; rw [HXL.out]; exact hC
        · rw [EV.out]; exact LB.out
      · have E : Hid (dvB t k = false) := by show _ = _; unfold dvB; rw [decide_eq_false h1, Bool.and_false]
        rw [ckT_yes hm]
        have x0 := X1.out.cell 0
        have x1 := X1.out.cell 1
        have y0 := K1.out.cell 0
        have y1 := K1.out.cell 1
        have yf0 := K1.out.frozen 0
        have yf1 := K1.out.frozen 1
        simp only [List.getElem?_toArray, List.getElem?_cons_zero, List.getElem?_cons_succ] at x0 x1 y0 y1
        go_wp2_with fail
        clear x0 x1 y0 y1 yf0 yf1
        have KF := (K1.out.set_ 0 (.slice none 0 0)).set_ 1 (.slice none 0 0)
        have r0 := KF.cell 0
        have r1 := KF.cell 1
        simp only [List.setIfInBounds_toArray, List.set_cons_zero, List.set_cons_succ, List.getElem?_toArray, List.getElem?_cons_zero, List.getElem?_cons_succ] at r0 r1
        refine bodyPost_ret (v := .tuple #[.agg #[.slice none 0 0, .slice none 0 0], .int .i64 160]) (by simp [results, Try.results11, go_sem, r0, r1]) rfl ?_
        exact ⟨none, 0, none, 0, by rw [dvT_no E.out, dvE_no E.out]; rfl, by rw [dvT_no E.out]; exact ints_nil16 _ _, by rw [dvT_no E.out]; exact ints_nil16 _ _, fun _ => rfl, fun _ => rfl, by rw [dvT_no E.out]; exact Nat.le_refl _, by rw [dvT_no E.out]; exact Nat.le_refl _, (HB1.out.setCell (p := ⟨w.heap.size + 1, 0, none⟩) (by simp) _).setCell (p := ⟨w.heap.size + 1, 1, none⟩) (by simp) _⟩
    · have E : Hid (dvB t k = false) := by show _ = _; unfold dvB; rw [decide_eq_false h0, Bool.and_false]; rfl
      rw [ckT_yes hm]
      have x0 := X1.out.cell 0
      have x1 := X1.out.cell 1
      have y0 := K1.out.cell 0
      have y1 := K1.out.cell 1
      have yf0 := K1.out.frozen 0
      have yf1 := K1.out.frozen 1
      simp only [List.getElem?_toArray, List.getElem?_cons_zero, List.getElem?_cons_succ] at x0 x1 y0 y1
      go_wp2_with fail
      clear x0 x1 y0 y1 yf0 yf1
      have KF := (K1.out.set_ 0 (.slice none 0 0)).set_ 1 (.slice none 0 0)
      have r0 := KF.cell 0
      have r1 := KF.cell 1
      simp only [List.setIfInBounds_toArray, List.set_cons_zero, List.set_cons_succ, List.getElem?_toArray, List.getElem?_cons_zero, List.getElem?_cons_succ] at r0 r1
      refine bodyPost_ret (v := .tuple #[.agg #[.slice none 0 0, .slice none 0 0], .int .i64 160]) (by simp [results, Try.results11, go_sem, r0, r1]) rfl ?_
      exact ⟨none, 0, none, 0, by rw [dvT_no E.out, dvE_no E.out]; rfl, by rw [dvT_no E.out]; exact ints_nil16 _ _, by rw [dvT_no E.out]; exact ints_nil16 _ _, fun _ => rfl, fun _ => rfl, by rw [dvT_no E.out]; exact Nat.le_refl _, by rw [dvT_no E.out]; exact Nat.le_refl _, (HB1.out.setCell (p := ⟨w.heap.size + 1, 0, none⟩) (by simp) _).setCell (p := ⟨w.heap.size + 1, 1, none⟩) (by simp) _⟩
  · have hm2 : mayT t = false := by simpa using hm
    have E : Hid (dvB t k = false) := by show _ = _; unfold dvB; rw [hm2]; rfl
    rw [ckT_no hm2]
    clear hm hm2
    have x0 := X1.out.cell 0
    have x1 := X1.out.cell 1
    have y0 := K1.out.cell 0
    have y1 := K1.out.cell 1
    have yf0 := K1.out.frozen 0
    have yf1 := K1.out.frozen 1
    simp only [List.getElem?_toArray, List.getElem?_cons_zero, List.getElem?_cons_succ] at x0 x1 y0 y1
    go_wp2_with fail
    clear x0 x1 y0 y1 yf0 yf1
    have KF := (K1.out.set_ 0 (.slice none 0 0)).set_ 1 (.slice none 0 0)
    have r0 := KF.cell 0
    have r1 := KF.cell 1
    simp only [List.setIfInBounds_toArray, List.set_cons_zero, List.set_cons_succ, List.getElem?_toArray, List.getElem?_cons_zero, List.getElem?_cons_succ] at r0 r1
    refine bodyPost_ret (v := .tuple #[.agg #[.slice none 0 0, .slice none 0 0], .int .i64 160]) (by simp [results, Try.results11, go_sem, r0, r1]) rfl ?_
    exact ⟨none, 0, none, 0, by rw [dvT_no E.out, dvE_no E.out]; rfl, by rw [dvT_no E.out]; exact ints_nil16 _ _, by rw [dvT_no E.out]; exact ints_nil16 _ _, fun _ => rfl, fun _ => rfl, by rw [dvT_no E.out]; exact Nat.le_refl _, by rw [dvT_no E.out]; exact Nat.le_refl _, (HB1.out.setCell (p := ⟨w.heap.size + 1, 0, none⟩) (by simp) _).setCell (p := ⟨w.heap.size + 1, 1, none⟩) (by simp) _⟩
end Go.Proofs.Ytimmoaomhilaeaa
