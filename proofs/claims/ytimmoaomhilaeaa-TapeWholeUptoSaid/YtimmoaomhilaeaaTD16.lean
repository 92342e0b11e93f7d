/- The program's Diverge. -/
import Derived.Test.YtimmoaomhilaeaaTC16
import Derived.Test.YtimmoaomhilaeaaMB16
namespace Go.Proofs.Ytimmoaomhilaeaa
open Go.RowKit
set_option maxRecDepth 100000
/-- a list that is read, in memory from base on -/
def RdF (w : World) (base : Nat) (A : Option Addr) (xs : List Int) : Prop := IntsR w A xs ∧ ∀ a, A = some a → base ≤ a.block
theorem RdF.low {w : World} {base B : Nat} {A : Option Addr} {xs : List Int} (h : RdF w base A xs) (hB : B ≤ base) : RdF w B A xs := ⟨h.1, fun a e => Nat.le_trans hB (h.2 a e)⟩
theorem RdF.below {w w' : World} {base : Nat} {A : Option Addr} {xs : List Int} (h : RdF w base A xs) (hb : Below w.heap.size w w') : RdF w' base A xs := ⟨h.1.below hb, h.2⟩
theorem RdF.far {w : World} {base g i : Nat} {A : Option Addr} {xs : List Int} (h : RdF w base A xs) (hg : g < base) (u : Value) : RdF (w.setCell ⟨g, i, none⟩ u) base A xs := by
  refine ⟨fun h0 => ?_, h.2⟩
  obtain ⟨b, o, e, hlt, hc⟩ := h.1 h0
  have hb := h.2 _ e
  refine ⟨b, o, e, by rw [World.size_setCell]; exact hlt, fun j x hj => far_cell16 (fun e2 => ?_) (hc j x hj)⟩
  have : base ≤ b := hb
  omega
theorem rdf_own16 {w : World} {base c : Nat} {A : Option Addr} {xs : List Int} (h : w.ownsRow base 3 1 (.slice A xs.length c) xs.length (xs.map (Value.int .i64))) : RdF w base A xs := by
  refine ⟨own_ints h, fun a e => ?_⟩
  subst e
  exact (own_blk h).choose_spec.2.2.2
theorem rdf_nil16 (w : World) (base : Nat) : RdF w base none [] := ⟨ints_nil16 _ _, fun a e => by cases e⟩
/-- the answer: a tape in memory of the call's own, and an error -/
def TapeO (w : World) (u : Tp) (er : Int) (e : Ending) (w' : World) : Prop :=
  ∃ P p Q q, e = .returned (.tuple #[.agg #[.slice P u.log.length p, .slice Q u.rest.length q], .int .i64 er]) ∧ RdF w' w.heap.size P u.log ∧ RdF w' w.heap.size Q u.rest ∧ (P = none → p = 0) ∧ (Q = none → q = 0) ∧ u.log.length ≤ p ∧ u.rest.length ≤ q ∧ Below w.heap.size w w'
theorem dvB_len16 {t : Tp} {k : Int} (h : dvB t k = true) : t.log.length + t.rest.length ≤ 1000 ∧ 0 ≤ k ∧ k ≤ t.log.length := by
  unfold dvB at h
  rw [mayT_eq16, Bool.and_eq_true, Bool.and_eq_true, Bool.and_eq_true, decide_eq_true_iff, decide_eq_true_iff, decide_eq_true_iff] at h
  exact ⟨h.1.1.2, h.1.2, h.2⟩
set_option maxHeartbeats 4000000 in
theorem pdiverge_any16 (t : Tp) (A B : Option Addr) (c d : Nat) (w : World) (hA : IntsR w A t.log) (hB : IntsR w B t.rest) (nA : A = none → c = 0) (nB : B = none → d = 0) (lA : t.log.length ≤ c) (lB : t.rest.length ≤ d) (k : Int) (hl : t.log.length + t.rest.length ≤ 1048576) :
    Calls Try.prog 10 #[.agg #[.slice A t.log.length c, .slice B t.rest.length d], .int .i64 k] w (TapeO w (dvT t k) (dvE t k)) := by
  obtain ⟨w0, hw0⟩ : ∃ w0, w0 = (w.alloc (.cells #[.slice A t.log.length c, .slice B t.rest.length d] 24)).alloc (.cells #[.slice none 0 0, .slice none 0 0] 24) := ⟨_, rfl⟩
  have HB0 : Hid (Below w.heap.size w w0) := by show Below _ _ _; rw [hw0]; exact below_alloc2 w _ _
  have X0 : Hid (Lies w0 w.heap.size 24 #[.slice A t.log.length c, .slice B t.rest.length d]) := by show Lies _ _ _ _; rw [hw0]; exact (Lies.new w _ _).alloc _
  have K0 : Hid (Lies w0 (w.heap.size + 1) 24 #[.slice none 0 0, .slice none 0 0]) := by
    show Lies _ _ _ _
    rw [hw0]
    have := Lies.new (w.alloc (.cells #[.slice A t.log.length c, .slice B t.rest.length d] 24)) 24 #[.slice none 0 0, .slice none 0 0]
    simpa [Hid] using this
  have RA0 := hid (hA.below HB0.out)
  have RB0 := hid (hB.below HB0.out)
  have NA := hid nA
  have NB := hid nB
  have RB := hid hB
  have RA := hid hA
  have LA := hid lA
  have LB := hid lB
  clear hA hB nA nB lA lB
  go_enter Try.func10, Try.ntmps10
  go_upto_region 1 with fail
  rw [← hw0]
  clear hw0
  have x0 := X0.out.cell 0
  have x1 := X0.out.cell 1
  have y0 := K0.out.cell 0
  have y1 := K0.out.cell 1
  have yf0 := K0.out.frozen 0
  have yf1 := K0.out.frozen 1
  simp only [List.getElem?_toArray, List.getElem?_cons_zero, List.getElem?_cons_succ] at x0 x1 y0 y1
  go_wp2_with fail
  refine (pplace_any16 t A B c d _ RA0.out RB0.out NA.out NB.out k hl).mono ?_
  rintro e w1 ⟨rfl, hb⟩
  have X1 := hid (X0.out.later hb)
  have K1 := hid (K0.out.later hb)
  have HB1 := hid (then_w HB0.out hb)
  have RA1 := hid (RA0.out.below hb)
  have RB1 := hid (RB0.out.below hb)
  clear hb
  clear x0 x1 y0 y1 yf0 yf1
  cases hv : dvB t k
  · have E := hid hv
    clear hv
    have x0 := X1.out.cell 0
    have x1 := X1.out.cell 1
    have y0 := K1.out.cell 0
    have y1 := K1.out.cell 1
    have yf0 := K1.out.frozen 0
    have yf1 := K1.out.frozen 1
    simp only [List.getElem?_toArray, List.getElem?_cons_zero, List.getElem?_cons_succ] at x0 x1 y0 y1
    go_wp2_with fail
    clear x0 x1 y0 y1 yf0 yf1
    have KF := (K1.out.set_ 0 (.slice none 0 0)).set_ 1 (.slice none 0 0)
    have r0 := KF.cell 0
    have r1 := KF.cell 1
    simp only [List.setIfInBounds_toArray, List.set_cons_zero, List.set_cons_succ, List.getElem?_toArray, List.getElem?_cons_zero, List.getElem?_cons_succ] at r0 r1
    refine bodyPost_ret (v := .tuple #[.agg #[.slice none 0 0, .slice none 0 0], .int .i64 160]) (by simp [results, Try.results10, go_sem, r0, r1]) rfl ?_
    exact ⟨none, 0, none, 0, by rw [dvT_no E.out, dvE_no E.out]; rfl, by rw [dvT_no E.out]; exact rdf_nil16 _ _, by rw [dvT_no E.out]; exact rdf_nil16 _ _, fun _ => rfl, fun _ => rfl, by rw [dvT_no E.out]; exact Nat.le_refl _, by rw [dvT_no E.out]; exact Nat.le_refl _, (HB1.out.setCell (p := ⟨w.heap.size + 1, 0, none⟩) (by simp) _).setCell (p := ⟨w.heap.size + 1, 1, none⟩) (by simp) _⟩
  · have E := hid hv
    clear hv
    obtain ⟨hln, h0, h1⟩ := dvB_len16 E.out
    have HLN := hid hln
    clear hln
    obtain ⟨m, rfl⟩ : ∃ m : Nat, k = m := ⟨k.toNat, by omega⟩
    have hmn : m ≤ t.log.length := by omega
    have hmc : (m : Int) ≤ (c : Int) := by have := LA.out; omega
    have x0 := X1.out.cell 0
    have x1 := X1.out.cell 1
    have y0 := K1.out.cell 0
    have y1 := K1.out.cell 1
    have yf0 := K1.out.frozen 0
    have yf1 := K1.out.frozen 1
    simp only [List.getElem?_toArray, List.getElem?_cons_zero, List.getElem?_cons_succ] at x0 x1 y0 y1
    go_upto_region 3 with fail
    have ne0 : Hid (w.heap.size ≠ w.heap.size + 1) := by show _ ≠ _; omega
    obtain ⟨xs, hxs⟩ : ∃ x, x = t.log.take m := ⟨_, rfl⟩
    have HXL : Hid (xs.length = m) := by show _ = _; rw [hxs, List.length_take]; omega
    have EV : Hid (dvT t m = ⟨xs, t.rest⟩) := by show _ = _; rw [dvT_yes E.out, hxs]; rfl
    clear h0 h1
    refine wp_region_held_drew (S := (fun w' => w'.cell? ⟨w.heap.size, 0, none⟩ = some (.slice A t.log.length c) ∧ w'.cell? ⟨w.heap.size, 1, none⟩ = some (.slice B t.rest.length d))) (by kernel_rfl) ?_ (fun hH0 => ?_)
    · exact ⟨x0, x1⟩
    obtain ⟨vd, hvd⟩ : ∃ y_, y_ = w1.drew := ⟨_, rfl⟩
    rw [← hvd] at hH0 ⊢
    have HB_vd : Hid (Below w1.heap.size w1 vd) := by show Below _ _ _; rw [hvd]; exact (Below.refl _ _).drew
    have HC1 : Hid (Calls Try.prog 19 #[.slice A m c] vd fun e w' => Fresh vd w' 3 1 m (xs.map (Value.int .i64)) e) := by
      have := clone1_any A xs c vd ((IntsR.below (by rw [hxs]; exact IntsR.take16 RA1.out m) HB_vd.out)) (by rw [HXL.out]; have := HLN.out; omega)
      rwa [HXL.out] at this
    clear hvd hxs x0 x1 y0 y1 yf0 yf1
    refine wpAnyH_take (i := 0) (oi := { dst := some 11, op := Go.Op.fieldAddr 24 (Go.Operand.tmp 2) 0, type := 0, pos := "tape.go:36", after := #[], guard := none }) (v := ?vv1) rfl (by kernel_rfl) (by kernel_rfl) (by kernel_rfl) (fun _ _ _ h => h) (Or.inl ⟨by rfl, ?hy1⟩) (by assumption) ?rr1
    case hy1 => intro w hSw; (try dsimp only at hSw); go_simp; all_goals with_reducible rfl
    try simp only [Act.put, List.setIfInBounds_toArray, List.set_cons_zero, List.set_cons_succ]
    refine wpAnyH_take (i := 1) (oi := { dst := some 12, op := Go.Op.load 22 (Go.Operand.tmp 11), type := 22, pos := "tape.go:36", after := #[{ on := 0, ground := Go.Ground.data }], guard := none }) (v := ?vv2) rfl (by kernel_rfl) (by kernel_rfl) (by kernel_rfl) (fun _ _ _ h => h) (Or.inl ⟨by rfl, ?hy2⟩) (by assumption) ?rr2
    case hy2 => intro w hSw; (try dsimp only at hSw); go_simp; all_goals with_reducible rfl
    try simp only [Act.put, List.setIfInBounds_toArray, List.set_cons_zero, List.set_cons_succ]
    refine wpAnyH_take (i := 2) (oi := { dst := some 13, op := Go.Op.move (Go.Operand.tmp 1), type := 3, pos := "tape.go:36", after := #[], guard := none }) (v := ?vv3) rfl (by kernel_rfl) (by kernel_rfl) (by kernel_rfl) (fun _ _ _ h => h) (Or.inl ⟨by rfl, ?hy3⟩) (by assumption) ?rr3
    case hy3 => intro w hSw; (try dsimp only at hSw); go_simp; all_goals with_reducible rfl
    try simp only [Act.put, List.setIfInBounds_toArray, List.set_cons_zero, List.set_cons_succ]
    refine wpAnyH_take (i := 3) (oi := { dst := some 14, op := Go.Op.slice 22 (Go.Operand.tmp 12) none (some (Go.Operand.tmp 13)) none, type := 22, pos := "tape.go:36", after := #[{ on := 1, ground := Go.Ground.data }, { on := 2, ground := Go.Ground.data }], guard := none }) (v := ?vv4) rfl (by kernel_rfl) (by kernel_rfl) (by kernel_rfl) (fun _ _ _ h => h) (Or.inl ⟨by rfl, ?hy4⟩) (by assumption) ?rr4
    case hy4 => intro w hSw; (try dsimp only at hSw); go_simp; all_goals with_reducible rfl
    try simp only [Act.put, List.setIfInBounds_toArray, List.set_cons_zero, List.set_cons_succ]
    refine wpAnyH_take (i := 5) (oi := { dst := some 16, op := Go.Op.fieldAddr 24 (Go.Operand.tmp 2) 1, type := 0, pos := "tape.go:36", after := #[], guard := none }) (v := ?vv5) rfl (by kernel_rfl) (by kernel_rfl) (by kernel_rfl) (fun _ _ _ h => h) (Or.inl ⟨by rfl, ?hy5⟩) (by assumption) ?rr5
    case hy5 => intro w hSw; (try dsimp only at hSw); go_simp; all_goals with_reducible rfl
    try simp only [Act.put, List.setIfInBounds_toArray, List.set_cons_zero, List.set_cons_succ]
    refine wpAnyH_take (i := 6) (oi := { dst := some 17, op := Go.Op.load 22 (Go.Operand.tmp 16), type := 22, pos := "tape.go:36", after := #[{ on := 5, ground := Go.Ground.data }], guard := none }) (v := ?vv6) rfl (by kernel_rfl) (by kernel_rfl) (by kernel_rfl) (fun _ _ _ h => h) (Or.inl ⟨by rfl, ?hy6⟩) (by assumption) ?rr6
    case hy6 => intro w hSw; (try dsimp only at hSw); go_simp; all_goals with_reducible rfl
    try simp only [Act.put, List.setIfInBounds_toArray, List.set_cons_zero, List.set_cons_succ]
    refine wpAnyH_ready (rs := [4]) (by kernel_rfl) (by simp) ?_
    refine AllReadyH.cons (i := 4) (o := { dst := some 15, op := Go.Op.call { callee := Go.Callee.value (Go.Operand.func 19), args := #[Go.Operand.tmp 14], argTypes := #[22] }, type := 22, pos := "tape.go:36", after := #[{ on := 3, ground := Go.Ground.data }], guard := none }) rfl (fun K hK => ?_) AllReadyH.nil
    go_simp
    refine HC1.out.mono ?_
    rintro e v4 ⟨A1, c1, rfl, ho, hb⟩
    have BN4 := hid hb
    have HB_v4 : Hid (Below w1.heap.size w1 v4) := dt16 HB_vd.out hb
    have R1_4 := hid ho
    clear ho hb
    refine hK.out _ _ ?_ (fun hH1 => ?_)
    · exact ⟨cell_later BN4.out hH0.1, cell_later BN4.out hH0.2⟩
    clear hK K
    try simp only [Act.put, List.setIfInBounds_toArray, List.set_cons_zero, List.set_cons_succ]
    refine wpAnyH_ready (rs := [7]) (by kernel_rfl) (by simp) ?_
    refine AllReadyH.cons (i := 7) (o := { dst := some 18, op := Go.Op.call { callee := Go.Callee.value (Go.Operand.func 19), args := #[Go.Operand.tmp 17], argTypes := #[22] }, type := 22, pos := "tape.go:36", after := #[{ on := 6, ground := Go.Ground.data }, { on := 4, ground := Go.Ground.chain }], guard := none }) rfl (fun K hK => ?_) AllReadyH.nil
    go_simp
    refine (clone1_any B t.rest d v4 (RB1.out.below HB_v4.out) (by have := HLN.out; omega)).mono ?_
    rintro e v7 ⟨A2, c2, rfl, ho, hb⟩
    have BN7 := hid hb
    have HB_v7 : Hid (Below w1.heap.size w1 v7) := dt16 HB_v4.out hb
    have R1_7 := hid (own_later R1_4.out hb)
    have R2_7 := hid ho
    have HS4 : Hid (w1.heap.size ≤ v4.heap.size) := HB_v4.out.size
    have HSD : Hid (w1.heap.size ≤ vd.heap.size) := HB_vd.out.size
    clear ho hb
    refine hK.out _ _ ?_ (fun hH2 => ?_)
    · exact ⟨cell_later BN7.out hH1.1, cell_later BN7.out hH1.2⟩
    clear hK K
    try simp only [Act.put, List.setIfInBounds_toArray, List.set_cons_zero, List.set_cons_succ]
    refine wpAnyH_take (i := 8) (oi := { dst := some 19, op := Go.Op.build 24 #[(0, Go.Operand.tmp 15), (1, Go.Operand.tmp 18)], type := 24, pos := "tape.go:36", after := #[{ on := 4, ground := Go.Ground.data }, { on := 7, ground := Go.Ground.data }], guard := none }) (v := ?vv7) rfl (by kernel_rfl) (by kernel_rfl) (by kernel_rfl) (fun _ _ _ h => h) (Or.inl ⟨by rfl, ?hy7⟩) (by assumption) ?rr7
    case hy7 => intro w hSw; (try dsimp only at hSw); go_simp; all_goals with_reducible rfl
    try simp only [Act.put, List.setIfInBounds_toArray, List.set_cons_zero, List.set_cons_succ]
    refine wpAnyH_ready (rs := [9]) (by kernel_rfl) (by simp) ?_
    refine AllReadyH.cons (i := 9) (o := { dst := none, op := Go.Op.store 24 (Go.Operand.tmp 4) (Go.Operand.tmp 19), type := 0, pos := "tape.go:36", after := #[{ on := 8, ground := Go.Ground.data }, { on := 7, ground := Go.Ground.chain }, { on := 0, ground := Go.Ground.phase }, { on := 1, ground := Go.Ground.phase }, { on := 2, ground := Go.Ground.phase }, { on := 3, ground := Go.Ground.phase }, { on := 4, ground := Go.Ground.phase }, { on := 5, ground := Go.Ground.phase }, { on := 6, ground := Go.Ground.phase }, { on := 7, ground := Go.Ground.phase }, { on := 8, ground := Go.Ground.phase }], guard := none }) rfl (fun K hK => ?_) AllReadyH.nil
    obtain ⟨z0, z1⟩ := (K1.out.later HB_v7.out).c2
    obtain ⟨zf0, zf1⟩ := (K1.out.later HB_v7.out).f2
    go_simp
    refine hK.out _ _ ?_ (fun hH3 => ?_)
    · exact ⟨far_cell16 ne0.out (far_cell16 ne0.out hH2.1), far_cell16 ne0.out (far_cell16 ne0.out hH2.2)⟩
    clear hK K
    try simp only [Act.put, List.setIfInBounds_toArray, List.set_cons_zero, List.set_cons_succ]
    clear z0 z1 zf0 zf1
    refine wpAnyH_take (i := 10) (oi := { dst := some 5, op := Go.Op.assign (Go.Operand.const (Go.Value.int Go.IntKind.i64 0)), type := 26, pos := "tape.go:36", after := #[{ on := 9, ground := Go.Ground.chain }, { on := 0, ground := Go.Ground.phase }, { on := 1, ground := Go.Ground.phase }, { on := 2, ground := Go.Ground.phase }, { on := 3, ground := Go.Ground.phase }, { on := 4, ground := Go.Ground.phase }, { on := 5, ground := Go.Ground.phase }, { on := 6, ground := Go.Ground.phase }, { on := 7, ground := Go.Ground.phase }, { on := 8, ground := Go.Ground.phase }, { on := 9, ground := Go.Ground.phase }], guard := none }) (v := ?vv8) rfl (by kernel_rfl) (by kernel_rfl) (by kernel_rfl) (fun _ _ _ h => h) (Or.inl ⟨by rfl, ?hy8⟩) (by assumption) ?rr8
    case hy8 => intro w hSw; (try dsimp only at hSw); go_simp; all_goals with_reducible rfl
    try simp only [Act.put, List.setIfInBounds_toArray, List.set_cons_zero, List.set_cons_succ]
    refine wpAnyH_done (by kernel_rfl) ?_ _
    have KF := ((K1.out.later HB_v7.out).set_ 0 (.slice A1 m c1)).set_ 1 (.slice A2 t.rest.length c2)
    have h1 := ((then_w HB1.out HB_v7.out).setCell (p := ⟨w.heap.size + 1, 0, none⟩) (by simp) (.slice A1 m c1)).setCell (p := ⟨w.heap.size + 1, 1, none⟩) (by simp) (.slice A2 t.rest.length c2)
    have hlt : w.heap.size + 1 < w1.heap.size := K1.out.lt
    have r0 := KF.cell 0
    have r1 := KF.cell 1
    simp only [List.setIfInBounds_toArray, List.set_cons_zero, List.set_cons_succ, List.getElem?_toArray, List.getElem?_cons_zero, List.getElem?_cons_succ] at r0 r1
    go_wp2_with fail
    refine bodyPost_ret (v := .tuple #[.agg #[.slice A1 m c1, .slice A2 t.rest.length c2], .int .i64 0]) (by simp [results, Try.results10, go_sem, r0, r1]) rfl ?_
    clear r0 r1 KF
    have o1 := rdf_own16 (xs := xs) (by rw [HXL.out]; exact own_far16 (own_far16 (own_base16 R1_7.out HSD.out) (g := w.heap.size + 1) hlt 0 (.slice A1 m c1)) hlt 1 (.slice A2 t.rest.length c2))
    have o2 := rdf_own16 (xs := t.rest) (own_far16 (own_far16 (own_base16 R2_7.out HS4.out) (g := w.heap.size + 1) hlt 0 (.slice A1 m c1)) hlt 1 (.slice A2 t.rest.length c2))
    refine ⟨A1, c1, A2, c2, ?_, ?_, ?_, own_nil16 R1_7.out, own_nil16 R2_7.out, ?_, ?_, h1⟩
    · rw [EV.out, dvE_yes E.out]; show _ = Ending.returned (.tuple #[.agg #[.slice A1 xs.length c1, .slice A2 t.rest.length c2], .int .i64 0]); rw [HXL.out]
    · rw [EV.out]; exact o1.low (by omega)
    · rw [EV.out]; exact o2.low (by omega)
    · rw [EV.out]; show xs.length ≤ c1; rw [HXL.out]; exact own_cap R1_7.out
    · rw [EV.out]; exact own_cap R2_7.out
end Go.Proofs.Ytimmoaomhilaeaa
