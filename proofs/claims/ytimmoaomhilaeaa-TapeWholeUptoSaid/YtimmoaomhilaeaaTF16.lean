/- The program's Draw. -/
import Derived.Test.YtimmoaomhilaeaaTE16
import Derived.Test.YtimmoaomhilaeaaSD16
namespace Go.Proofs.Ytimmoaomhilaeaa
open Go.RowKit
set_option maxRecDepth 100000
/-- the answer: an input, a tape in memory of the call's own, and an error -/
def DrawO (w : World) (n : Int) (u : Tp) (er : Int) (e : Ending) (w' : World) : Prop :=
  ∃ P p Q q, e = .returned (.tuple #[.int .i64 n, .agg #[.slice P u.log.length p, .slice Q u.rest.length q], .int .i64 er]) ∧ RdF w' w.heap.size P u.log ∧ RdF w' w.heap.size Q u.rest ∧ (P = none → p = 0) ∧ (Q = none → q = 0) ∧ u.log.length ≤ p ∧ u.rest.length ≤ q ∧ Below w.heap.size w w'
theorem RdF.drew16 {w : World} {base : Nat} {A : Option Addr} {xs : List Int} (h : RdF w base A xs) : RdF w.drew base A xs := h.below (Below.refl _ _).drew
set_option maxHeartbeats 4000000 in
theorem pdraw_any16 (t : Tp) (A B : Option Addr) (c d : Nat) (w : World) (hA : IntsR w A t.log) (hB : IntsR w B t.rest) (nA : A = none → c = 0) (nB : B = none → d = 0) (lA : t.log.length ≤ c) (lB : t.rest.length ≤ d) (k : Int) (hl : t.log.length + t.rest.length ≤ 1048576) :
    Calls Try.prog 8 #[.agg #[.slice A t.log.length c, .slice B t.rest.length d], .int .i64 k] w (DrawO w (drN t k) (drT t k) (drE t k)) := by
  obtain ⟨w0, hw0⟩ : ∃ w0, w0 = (w.alloc (.cells #[.slice A t.log.length c, .slice B t.rest.length d] 24)).alloc (.cells #[.slice none 0 0, .slice none 0 0] 24) := ⟨_, rfl⟩
  have HB0 : Hid (Below w.heap.size w w0) := by show Below _ _ _; rw [hw0]; exact below_alloc2 w _ _
  have X0 : Hid (Lies w0 w.heap.size 24 #[.slice A t.log.length c, .slice B t.rest.length d]) := by show Lies _ _ _ _; rw [hw0]; exact (Lies.new w _ _).alloc _
  have K0 : Hid (Lies w0 (w.heap.size + 1) 24 #[.slice none 0 0, .slice none 0 0]) := by
    show Lies _ _ _ _
    rw [hw0]
    have := Lies.new (w.alloc (.cells #[.slice A t.log.length c, .slice B t.rest.length d] 24)) 24 #[.slice none 0 0, .slice none 0 0]
    simpa [Hid] using this
  have RA0 := hid (hA.below HB0.out)
  have RB0 := hid (hB.below HB0.out)
  have NA := hid nA
  have NB := hid nB
  have RB := hid hB
  have RA := hid hA
  have LA := hid lA
  have LB := hid lB
  clear hA hB nA nB lA lB
  go_enter Try.func8, Try.ntmps8
  go_upto_region 1 with fail
  rw [← hw0]
  clear hw0
  have x0 := X0.out.cell 0
  have x1 := X0.out.cell 1
  have y0 := K0.out.cell 0
  have y1 := K0.out.cell 1
  have yf0 := K0.out.frozen 0
  have yf1 := K0.out.frozen 1
  simp only [List.getElem?_toArray, List.getElem?_cons_zero, List.getElem?_cons_succ] at x0 x1 y0 y1
  go_wp2_with fail
  refine (pplace_any16 t A B c d _ RA0.out RB0.out NA.out NB.out k hl).mono ?_
  rintro e w1 ⟨rfl, hb⟩
  have X1 := hid (X0.out.later hb)
  have K1 := hid (K0.out.later hb)
  have HB1 := hid (then_w HB0.out hb)
  have RA1 := hid (RA0.out.below hb)
  have RB1 := hid (RB0.out.below hb)
  clear hb
  clear x0 x1 y0 y1 yf0 yf1
  cases hv : dvB t k
  · have E : Hid (drB t k = false) := by show _ = _; unfold drB; rw [hv]; rfl
    clear hv
    have x0 := X1.out.cell 0
    have x1 := X1.out.cell 1
    have y0 := K1.out.cell 0
    have y1 := K1.out.cell 1
    have yf0 := K1.out.frozen 0
    have yf1 := K1.out.frozen 1
    simp only [List.getElem?_toArray, List.getElem?_cons_zero, List.getElem?_cons_succ] at x0 x1 y0 y1
    go_wp2_with fail
    clear x0 x1 y0 y1 yf0 yf1
    have KF := (K1.out.set_ 0 (.slice none 0 0)).set_ 1 (.slice none 0 0)
    have r0 := KF.cell 0
    have r1 := KF.cell 1
    simp only [List.setIfInBounds_toArray, List.set_cons_zero, List.set_cons_succ, List.getElem?_toArray, List.getElem?_cons_zero, List.getElem?_cons_succ] at r0 r1
    refine bodyPost_ret (v := .tuple #[.int .i64 0, .agg #[.slice none 0 0, .slice none 0 0], .int .i64 160]) (by simp [results, Try.results8, go_sem, r0, r1]) rfl ?_
    exact ⟨none, 0, none, 0, by rw [drN_no E.out, drT_no E.out, drE_no E.out]; rfl, by rw [drT_no E.out]; exact rdf_nil16 _ _, by rw [drT_no E.out]; exact rdf_nil16 _ _, fun _ => rfl, fun _ => rfl, by rw [drT_no E.out]; exact Nat.le_refl _, by rw [drT_no E.out]; exact Nat.le_refl _, (HB1.out.setCell (p := ⟨w.heap.size + 1, 0, none⟩) (by simp) _).setCell (p := ⟨w.heap.size + 1, 1, none⟩) (by simp) _⟩
  · by_cases h2 : k = 1000
    · have E : Hid (drB t k = false) := by show _ = _; unfold drB; rw [decide_eq_false (fun h => h h2), Bool.and_false]
      clear hv
      subst h2
      have x0 := X1.out.cell 0
      have x1 := X1.out.cell 1
      have y0 := K1.out.cell 0
      have y1 := K1.out.cell 1
      have yf0 := K1.out.frozen 0
      have yf1 := K1.out.frozen 1
      simp only [List.getElem?_toArray, List.getElem?_cons_zero, List.getElem?_cons_succ] at x0 x1 y0 y1
      go_wp2_with fail
      clear x0 x1 y0 y1 yf0 yf1
      have KF := (K1.out.set_ 0 (.slice none 0 0)).set_ 1 (.slice none 0 0)
      have r0 := KF.cell 0
      have r1 := KF.cell 1
      simp only [List.setIfInBounds_toArray, List.set_cons_zero, List.set_cons_succ, List.getElem?_toArray, List.getElem?_cons_zero, List.getElem?_cons_succ] at r0 r1
      refine bodyPost_ret (v := .tuple #[.int .i64 0, .agg #[.slice none 0 0, .slice none 0 0], .int .i64 160]) (by simp [results, Try.results8, go_sem, r0, r1]) rfl ?_
      exact ⟨none, 0, none, 0, by rw [drN_no E.out, drT_no E.out, drE_no E.out]; rfl, by rw [drT_no E.out]; exact rdf_nil16 _ _, by rw [drT_no E.out]; exact rdf_nil16 _ _, fun _ => rfl, fun _ => rfl, by rw [drT_no E.out]; exact Nat.le_refl _, by rw [drT_no E.out]; exact Nat.le_refl _, (HB1.out.setCell (p := ⟨w.heap.size + 1, 0, none⟩) (by simp) _).setCell (p := ⟨w.heap.size + 1, 1, none⟩) (by simp) _⟩
    · have E : Hid (drB t k = true) := by show _ = _; unfold drB; rw [hv, decide_eq_true h2]; rfl
      obtain ⟨hln, h0, h1⟩ := dvB_len16 hv
      clear hv
      have HLN := hid hln
      clear hln
      obtain ⟨m, rfl⟩ : ∃ m : Nat, k = m := ⟨k.toNat, by omega⟩
      have hmn : m ≤ t.log.length := by omega
      have hq : ((m : Int) == 1000) = false := by simpa using h2
      clear h0 h1 h2
      have x0 := X1.out.cell 0
      have x1 := X1.out.cell 1
      have y0 := K1.out.cell 0
      have y1 := K1.out.cell 1
      have yf0 := K1.out.frozen 0
      have yf1 := K1.out.frozen 1
      simp only [List.getElem?_toArray, List.getElem?_cons_zero, List.getElem?_cons_succ] at x0 x1 y0 y1
      go_upto_region 3 with fail
      go_cut [7] from 17 to 23 (fun s wx => ∃ (g : Nat) (A1 : Option Addr) (c1 : Nat) (A2 : Option Addr) (c2 : Nat), s = .pointer (some ⟨g, 0, none⟩) ∧ Lies wx g 24 #[.slice A1 t.log.length c1, .slice A2 t.rest.length c2] ∧ wx.ownsRow w1.heap.size 3 1 (.slice A1 t.log.length c1) t.log.length (t.log.map (Value.int .i64)) ∧ wx.ownsRow w1.heap.size 3 1 (.slice A2 t.rest.length c2) t.rest.length (t.rest.map (Value.int .i64)) ∧ Hid (∀ a, A2 = some a → (Value.slice A1 t.log.length c1).ownBlock ≠ some a.block) ∧ Below w1.heap.size w1 wx ∧ Hid (w1.heap.size ≤ g))
      case first =>
        refine wp_region_held_drew (S := (fun w' => w'.cell? ⟨w.heap.size, 0, none⟩ = some (.slice A t.log.length c) ∧ w'.cell? ⟨w.heap.size, 1, none⟩ = some (.slice B t.rest.length d))) (by kernel_rfl) ?_ (fun hH0 => ?_)
        · exact ⟨x0, x1⟩
        obtain ⟨vd, hvd⟩ : ∃ y_, y_ = w1.drew := ⟨_, rfl⟩
        rw [← hvd] at hH0 ⊢
        have HB_vd : Hid (Below w1.heap.size w1 vd) := by show Below _ _ _; rw [hvd]; exact (Below.refl _ _).drew
        clear hvd x0 x1 y0 y1 yf0 yf1
        refine wpAnyH_take (i := 0) (oi := { dst := some 17, op := Go.Op.fieldAddr 24 (Go.Operand.tmp 2) 0, type := 0, pos := "tape.go:24", after := #[], guard := none }) (v := ?vv1) rfl (by kernel_rfl) (by kernel_rfl) (by kernel_rfl) (fun _ _ _ h => h) (Or.inl ⟨by rfl, ?hy1⟩) (by assumption) ?rr1
        case hy1 => intro w hSw; (try dsimp only at hSw); go_simp; all_goals with_reducible rfl
        try simp only [Act.put, List.setIfInBounds_toArray, List.set_cons_zero, List.set_cons_succ]
        refine wpAnyH_take (i := 1) (oi := { dst := some 18, op := Go.Op.load 22 (Go.Operand.tmp 17), type := 22, pos := "tape.go:24", after := #[{ on := 0, ground := Go.Ground.data }], guard := none }) (v := ?vv2) rfl (by kernel_rfl) (by kernel_rfl) (by kernel_rfl) (fun _ _ _ h => h) (Or.inl ⟨by rfl, ?hy2⟩) (by assumption) ?rr2
        case hy2 => intro w hSw; (try dsimp only at hSw); go_simp; all_goals with_reducible rfl
        try simp only [Act.put, List.setIfInBounds_toArray, List.set_cons_zero, List.set_cons_succ]
        refine wpAnyH_take (i := 3) (oi := { dst := some 20, op := Go.Op.fieldAddr 24 (Go.Operand.tmp 2) 1, type := 0, pos := "tape.go:24", after := #[], guard := none }) (v := ?vv3) rfl (by kernel_rfl) (by kernel_rfl) (by kernel_rfl) (fun _ _ _ h => h) (Or.inl ⟨by rfl, ?hy3⟩) (by assumption) ?rr3
        case hy3 => intro w hSw; (try dsimp only at hSw); go_simp; all_goals with_reducible rfl
        try simp only [Act.put, List.setIfInBounds_toArray, List.set_cons_zero, List.set_cons_succ]
        refine wpAnyH_take (i := 4) (oi := { dst := some 21, op := Go.Op.load 22 (Go.Operand.tmp 20), type := 22, pos := "tape.go:24", after := #[{ on := 3, ground := Go.Ground.data }], guard := none }) (v := ?vv4) rfl (by kernel_rfl) (by kernel_rfl) (by kernel_rfl) (fun _ _ _ h => h) (Or.inl ⟨by rfl, ?hy4⟩) (by assumption) ?rr4
        case hy4 => intro w hSw; (try dsimp only at hSw); go_simp; all_goals with_reducible rfl
        try simp only [Act.put, List.setIfInBounds_toArray, List.set_cons_zero, List.set_cons_succ]
        refine wpAnyH_ready (rs := [2, 7]) (by kernel_rfl) (by simp) ?_
        refine AllReadyH.cons (i := 2) (o := { dst := some 19, op := Go.Op.call { callee := Go.Callee.value (Go.Operand.func 19), args := #[Go.Operand.tmp 18], argTypes := #[22] }, type := 22, pos := "tape.go:24", after := #[{ on := 1, ground := Go.Ground.data }], guard := none }) rfl (fun K hK => ?_) (AllReadyH.cons (i := 7) (o := { dst := some 7, op := Go.Op.alloc 24, type := 0, pos := "tape.go:24", after := #[], guard := none }) rfl (fun K hK => ?_) AllReadyH.nil)
        · go_simp
          refine (clone1_any A t.log c vd (RA1.out.below HB_vd.out) (by have := HLN.out; omega)).mono ?_
          rintro e vd_2 ⟨A1, c1, rfl, ho, hb⟩
          have R1_vd_2 : Hid (vd_2.ownsRow w1.heap.size 3 1 (.slice A1 t.log.length c1) t.log.length (t.log.map (Value.int .i64))) := own_base16 ho HB_vd.out.size
          have HB_vd_2 : Hid (Below w1.heap.size w1 vd_2) := dt16 HB_vd.out hb
          clear ho hb
          refine hK.out _ _ ?_ (fun hH1 => ?_)
          · exact (X1.out.later HB_vd_2.out).c2
          clear hK K
          try simp only [Act.put, List.setIfInBounds_toArray, List.set_cons_zero, List.set_cons_succ]
          refine wpAnyH_ready (rs := [5, 7]) (by kernel_rfl) (by simp) ?_
          refine AllReadyH.cons (i := 5) (o := { dst := some 22, op := Go.Op.call { callee := Go.Callee.value (Go.Operand.func 19), args := #[Go.Operand.tmp 21], argTypes := #[22] }, type := 22, pos := "tape.go:24", after := #[{ on := 4, ground := Go.Ground.data }, { on := 2, ground := Go.Ground.chain }], guard := none }) rfl (fun K hK => ?_) (AllReadyH.cons (i := 7) (o := { dst := some 7, op := Go.Op.alloc 24, type := 0, pos := "tape.go:24", after := #[], guard := none }) rfl (fun K hK => ?_) AllReadyH.nil)
          · go_simp
            refine (clone1_any B t.rest d vd_2 (RB1.out.below HB_vd_2.out) (by have := HLN.out; omega)).mono ?_
            rintro e vd_2_5 ⟨A2, c2, rfl, ho, hb⟩
            have R2_vd_2_5 : Hid (vd_2_5.ownsRow w1.heap.size 3 1 (.slice A2 t.rest.length c2) t.rest.length (t.rest.map (Value.int .i64))) := own_base16 ho HB_vd_2.out.size
            have NE12 : Hid (∀ a, A2 = some a → (Value.slice A1 t.log.length c1).ownBlock ≠ some a.block) := fun a e e2 => by
              have h1 := (R1_vd_2.out.lt _ e2).2
              subst e
              obtain ⟨_, _, _, _, h2⟩ := own_blk ho
              have h3 : vd_2.heap.size ≤ a.block := h2
              omega
            have HB_vd_2_5 : Hid (Below w1.heap.size w1 vd_2_5) := dt16 HB_vd_2.out hb
            have R1_vd_2_5 := hid (own_later R1_vd_2.out hb)
            clear ho hb
            refine hK.out _ _ ?_ (fun hH2 => ?_)
            · exact (X1.out.later HB_vd_2_5.out).c2
            clear hK K
            try simp only [Act.put, List.setIfInBounds_toArray, List.set_cons_zero, List.set_cons_succ]
            refine wpAnyH_take (i := 6) (oi := { dst := some 23, op := Go.Op.build 24 #[(0, Go.Operand.tmp 19), (1, Go.Operand.tmp 22)], type := 24, pos := "tape.go:24", after := #[{ on := 2, ground := Go.Ground.data }, { on := 5, ground := Go.Ground.data }], guard := none }) (v := ?vv5) rfl (by kernel_rfl) (by kernel_rfl) (by kernel_rfl) (fun _ _ _ h => h) (Or.inl ⟨by rfl, ?hy5⟩) (by assumption) ?rr5
            case hy5 => intro w hSw; (try dsimp only at hSw); go_simp; all_goals with_reducible rfl
            try simp only [Act.put, List.setIfInBounds_toArray, List.set_cons_zero, List.set_cons_succ]
            refine wpAnyH_ready (rs := [7]) (by kernel_rfl) (by simp) ?_
            refine AllReadyH.cons (i := 7) (o := { dst := some 7, op := Go.Op.alloc 24, type := 0, pos := "tape.go:24", after := #[], guard := none }) rfl (fun K hK => ?_) AllReadyH.nil
            go_simp
            obtain ⟨vd_2_5_7, hw⟩ : ∃ y_, y_ = vd_2_5.alloc (.cells #[.slice none 0 0, .slice none 0 0] 24) := ⟨_, rfl⟩
            obtain ⟨g, hg⟩ : ∃ y_, y_ = vd_2_5.heap.size := ⟨_, rfl⟩
            rw [← hw, ← hg]
            have hb : Below vd_2_5.heap.size vd_2_5 vd_2_5_7 := by rw [hw]; exact below_alloc _ _
            have L_vd_2_5_7 : Hid (Lies vd_2_5_7 g 24 #[.slice none 0 0, .slice none 0 0]) := by show Lies _ _ _ _; rw [hw, hg]; exact Lies.new _ _ _
            have HGE : Hid (w1.heap.size ≤ g) := by show _ ≤ _; rw [hg]; exact HB_vd_2_5.out.size
            have HB_vd_2_5_7 : Hid (Below w1.heap.size w1 vd_2_5_7) := dt16 HB_vd_2_5.out hb
            have R1_vd_2_5_7 := hid (own_later R1_vd_2_5.out hb)
            have R2_vd_2_5_7 := hid (own_later R2_vd_2_5.out hb)
            clear hb hw hg
            refine hK.out _ _ ?_ (fun hH3 => ?_)
            · exact (X1.out.later HB_vd_2_5_7.out).c2
            clear hK K
            try simp only [Act.put, List.setIfInBounds_toArray, List.set_cons_zero, List.set_cons_succ]
            refine wpAnyH_ready (rs := [8]) (by kernel_rfl) (by simp) ?_
            refine AllReadyH.cons (i := 8) (o := { dst := none, op := Go.Op.store 24 (Go.Operand.tmp 7) (Go.Operand.tmp 23), type := 0, pos := "tape.go:24", after := #[{ on := 7, ground := Go.Ground.data }, { on := 6, ground := Go.Ground.data }, { on := 5, ground := Go.Ground.chain }, { on := 0, ground := Go.Ground.phase }, { on := 1, ground := Go.Ground.phase }, { on := 2, ground := Go.Ground.phase }, { on := 3, ground := Go.Ground.phase }, { on := 4, ground := Go.Ground.phase }, { on := 5, ground := Go.Ground.phase }, { on := 6, ground := Go.Ground.phase }, { on := 7, ground := Go.Ground.phase }], guard := none }) rfl (fun K hK => ?_) AllReadyH.nil
            obtain ⟨z0, z1⟩ := L_vd_2_5_7.out.c2
            obtain ⟨zf0, zf1⟩ := L_vd_2_5_7.out.f2
            have hlt : w.heap.size < g := Nat.lt_of_lt_of_le X1.out.lt HGE.out
            have XX := (((X1.out.later HB_vd_2_5_7.out).far (p := ⟨g, 0, none⟩) (by simp; omega) (.slice A1 t.log.length c1)).far (p := ⟨g, 1, none⟩) (by simp; omega) (.slice A2 t.rest.length c2)).c2
            go_simp
            refine hK.out _ _ ?_ (fun hH4 => ?_)
            · exact XX
            clear hK K
            try simp only [Act.put, List.setIfInBounds_toArray, List.set_cons_zero, List.set_cons_succ]
            clear z0 z1 zf0 zf1 XX
            refine wpAnyH_done (by kernel_rfl) ?_ _
            have LF := (L_vd_2_5_7.out.set_ 0 (.slice A1 t.log.length c1)).set_ 1 (.slice A2 t.rest.length c2)
            simp only [List.setIfInBounds_toArray, List.set_cons_zero, List.set_cons_succ] at LF
            go_wp2_with fail
            go_meet
            exact ⟨g, A1, c1, A2, c2, rfl, LF, own_off16 (own_off16 R1_vd_2_5_7.out (own_blk_ne R1_vd_2_5_7.out L_vd_2_5_7.out (by decide)) 0 _) (own_blk_ne R1_vd_2_5_7.out L_vd_2_5_7.out (by decide)) 1 _, own_off16 (own_off16 R2_vd_2_5_7.out (own_blk_ne R2_vd_2_5_7.out L_vd_2_5_7.out (by decide)) 0 _) (own_blk_ne R2_vd_2_5_7.out L_vd_2_5_7.out (by decide)) 1 _, NE12, (HB_vd_2_5_7.out.setCell (p := ⟨g, 0, none⟩) HGE.out _).setCell (p := ⟨g, 1, none⟩) HGE.out _, HGE⟩
          · go_simp
            obtain ⟨vd_2_7, hw⟩ : ∃ y_, y_ = vd_2.alloc (.cells #[.slice none 0 0, .slice none 0 0] 24) := ⟨_, rfl⟩
            obtain ⟨g, hg⟩ : ∃ y_, y_ = vd_2.heap.size := ⟨_, rfl⟩
            rw [← hw, ← hg]
            have hb : Below vd_2.heap.size vd_2 vd_2_7 := by rw [hw]; exact below_alloc _ _
            have L_vd_2_7 : Hid (Lies vd_2_7 g 24 #[.slice none 0 0, .slice none 0 0]) := by show Lies _ _ _ _; rw [hw, hg]; exact Lies.new _ _ _
            have HGE : Hid (w1.heap.size ≤ g) := by show _ ≤ _; rw [hg]; exact HB_vd_2.out.size
            have HB_vd_2_7 : Hid (Below w1.heap.size w1 vd_2_7) := dt16 HB_vd_2.out hb
            have R1_vd_2_7 := hid (own_later R1_vd_2.out hb)
            clear hb hw hg
            refine hK.out _ _ ?_ (fun hH2 => ?_)
            · exact (X1.out.later HB_vd_2_7.out).c2
            clear hK K
            try simp only [Act.put, List.setIfInBounds_toArray, List.set_cons_zero, List.set_cons_succ]
            refine wpAnyH_ready (rs := [5]) (by kernel_rfl) (by simp) ?_
            refine AllReadyH.cons (i := 5) (o := { dst := some 22, op := Go.Op.call { callee := Go.Callee.value (Go.Operand.func 19), args := #[Go.Operand.tmp 21], argTypes := #[22] }, type := 22, pos := "tape.go:24", after := #[{ on := 4, ground := Go.Ground.data }, { on := 2, ground := Go.Ground.chain }], guard := none }) rfl (fun K hK => ?_) AllReadyH.nil
            go_simp
            refine (clone1_any B t.rest d vd_2_7 (RB1.out.below HB_vd_2_7.out) (by have := HLN.out; omega)).mono ?_
            rintro e vd_2_7_5 ⟨A2, c2, rfl, ho, hb⟩
            have R2_vd_2_7_5 : Hid (vd_2_7_5.ownsRow w1.heap.size 3 1 (.slice A2 t.rest.length c2) t.rest.length (t.rest.map (Value.int .i64))) := own_base16 ho HB_vd_2_7.out.size
            have NE12 : Hid (∀ a, A2 = some a → (Value.slice A1 t.log.length c1).ownBlock ≠ some a.block) := fun a e e2 => by
              have h1 := (R1_vd_2_7.out.lt _ e2).2
              subst e
              obtain ⟨_, _, _, _, h2⟩ := own_blk ho
              have h3 : vd_2_7.heap.size ≤ a.block := h2
              omega
            have HB_vd_2_7_5 : Hid (Below w1.heap.size w1 vd_2_7_5) := dt16 HB_vd_2_7.out hb
            have R1_vd_2_7_5 := hid (own_later R1_vd_2_7.out hb)
            have L_vd_2_7_5 := hid (L_vd_2_7.out.later hb)
            clear ho hb
            refine hK.out _ _ ?_ (fun hH3 => ?_)
            · exact (X1.out.later HB_vd_2_7_5.out).c2
            clear hK K
            try simp only [Act.put, List.setIfInBounds_toArray, List.set_cons_zero, List.set_cons_succ]
            refine wpAnyH_take (i := 6) (oi := { dst := some 23, op := Go.Op.build 24 #[(0, Go.Operand.tmp 19), (1, Go.Operand.tmp 22)], type := 24, pos := "tape.go:24", after := #[{ on := 2, ground := Go.Ground.data }, { on := 5, ground := Go.Ground.data }], guard := none }) (v := ?vv6) rfl (by kernel_rfl) (by kernel_rfl) (by kernel_rfl) (fun _ _ _ h => h) (Or.inl ⟨by rfl, ?hy6⟩) (by assumption) ?rr6
            case hy6 => intro w hSw; (try dsimp only at hSw); go_simp; all_goals with_reducible rfl
            try simp only [Act.put, List.setIfInBounds_toArray, List.set_cons_zero, List.set_cons_succ]
            refine wpAnyH_ready (rs := [8]) (by kernel_rfl) (by simp) ?_
            refine AllReadyH.cons (i := 8) (o := { dst := none, op := Go.Op.store 24 (Go.Operand.tmp 7) (Go.Operand.tmp 23), type := 0, pos := "tape.go:24", after := #[{ on := 7, ground := Go.Ground.data }, { on := 6, ground := Go.Ground.data }, { on := 5, ground := Go.Ground.chain }, { on := 0, ground := Go.Ground.phase }, { on := 1, ground := Go.Ground.phase }, { on := 2, ground := Go.Ground.phase }, { on := 3, ground := Go.Ground.phase }, { on := 4, ground := Go.Ground.phase }, { on := 5, ground := Go.Ground.phase }, { on := 6, ground := Go.Ground.phase }, { on := 7, ground := Go.Ground.phase }], guard := none }) rfl (fun K hK => ?_) AllReadyH.nil
            obtain ⟨z0, z1⟩ := L_vd_2_7_5.out.c2
            obtain ⟨zf0, zf1⟩ := L_vd_2_7_5.out.f2
            have hlt : w.heap.size < g := Nat.lt_of_lt_of_le X1.out.lt HGE.out
            have XX := (((X1.out.later HB_vd_2_7_5.out).far (p := ⟨g, 0, none⟩) (by simp; omega) (.slice A1 t.log.length c1)).far (p := ⟨g, 1, none⟩) (by simp; omega) (.slice A2 t.rest.length c2)).c2
            go_simp
            refine hK.out _ _ ?_ (fun hH4 => ?_)
            · exact XX
            clear hK K
            try simp only [Act.put, List.setIfInBounds_toArray, List.set_cons_zero, List.set_cons_succ]
            clear z0 z1 zf0 zf1 XX
            refine wpAnyH_done (by kernel_rfl) ?_ _
            have LF := (L_vd_2_7_5.out.set_ 0 (.slice A1 t.log.length c1)).set_ 1 (.slice A2 t.rest.length c2)
            simp only [List.setIfInBounds_toArray, List.set_cons_zero, List.set_cons_succ] at LF
            go_wp2_with fail
            go_meet
            exact ⟨g, A1, c1, A2, c2, rfl, LF, own_off16 (own_off16 R1_vd_2_7_5.out (own_blk_ne R1_vd_2_7_5.out L_vd_2_7_5.out (by decide)) 0 _) (own_blk_ne R1_vd_2_7_5.out L_vd_2_7_5.out (by decide)) 1 _, own_off16 (own_off16 R2_vd_2_7_5.out (own_blk_ne R2_vd_2_7_5.out L_vd_2_7_5.out (by decide)) 0 _) (own_blk_ne R2_vd_2_7_5.out L_vd_2_7_5.out (by decide)) 1 _, NE12, (HB_vd_2_7_5.out.setCell (p := ⟨g, 0, none⟩) HGE.out _).setCell (p := ⟨g, 1, none⟩) HGE.out _, HGE⟩
        · go_simp
          obtain ⟨vd_7, hw⟩ : ∃ y_, y_ = vd.alloc (.cells #[.slice none 0 0, .slice none 0 0] 24) := ⟨_, rfl⟩
          obtain ⟨g, hg⟩ : ∃ y_, y_ = vd.heap.size := ⟨_, rfl⟩
          rw [← hw, ← hg]
          have hb : Below vd.heap.size vd vd_7 := by rw [hw]; exact below_alloc _ _
          have L_vd_7 : Hid (Lies vd_7 g 24 #[.slice none 0 0, .slice none 0 0]) := by show Lies _ _ _ _; rw [hw, hg]; exact Lies.new _ _ _
          have HGE : Hid (w1.heap.size ≤ g) := by show _ ≤ _; rw [hg]; exact HB_vd.out.size
          have HB_vd_7 : Hid (Below w1.heap.size w1 vd_7) := dt16 HB_vd.out hb
          clear hb hw hg
          refine hK.out _ _ ?_ (fun hH1 => ?_)
          · exact (X1.out.later HB_vd_7.out).c2
          clear hK K
          try simp only [Act.put, List.setIfInBounds_toArray, List.set_cons_zero, List.set_cons_succ]
          refine wpAnyH_ready (rs := [2]) (by kernel_rfl) (by simp) ?_
          refine AllReadyH.cons (i := 2) (o := { dst := some 19, op := Go.Op.call { callee := Go.Callee.value (Go.Operand.func 19), args := #[Go.Operand.tmp 18], argTypes := #[22] }, type := 22, pos := "tape.go:24", after := #[{ on := 1, ground := Go.Ground.data }], guard := none }) rfl (fun K hK => ?_) AllReadyH.nil
          go_simp
          refine (clone1_any A t.log c vd_7 (RA1.out.below HB_vd_7.out) (by have := HLN.out; omega)).mono ?_
          rintro e vd_7_2 ⟨A1, c1, rfl, ho, hb⟩
          have R1_vd_7_2 : Hid (vd_7_2.ownsRow w1.heap.size 3 1 (.slice A1 t.log.length c1) t.log.length (t.log.map (Value.int .i64))) := own_base16 ho HB_vd_7.out.size
          have HB_vd_7_2 : Hid (Below w1.heap.size w1 vd_7_2) := dt16 HB_vd_7.out hb
          have L_vd_7_2 := hid (L_vd_7.out.later hb)
          clear ho hb
          refine hK.out _ _ ?_ (fun hH2 => ?_)
          · exact (X1.out.later HB_vd_7_2.out).c2
          clear hK K
          try simp only [Act.put, List.setIfInBounds_toArray, List.set_cons_zero, List.set_cons_succ]
          refine wpAnyH_ready (rs := [5]) (by kernel_rfl) (by simp) ?_
          refine AllReadyH.cons (i := 5) (o := { dst := some 22, op := Go.Op.call { callee := Go.Callee.value (Go.Operand.func 19), args := #[Go.Operand.tmp 21], argTypes := #[22] }, type := 22, pos := "tape.go:24", after := #[{ on := 4, ground := Go.Ground.data }, { on := 2, ground := Go.Ground.chain }], guard := none }) rfl (fun K hK => ?_) AllReadyH.nil
          go_simp
          refine (clone1_any B t.rest d vd_7_2 (RB1.out.below HB_vd_7_2.out) (by have := HLN.out; omega)).mono ?_
          rintro e vd_7_2_5 ⟨A2, c2, rfl, ho, hb⟩
          have R2_vd_7_2_5 : Hid (vd_7_2_5.ownsRow w1.heap.size 3 1 (.slice A2 t.rest.length c2) t.rest.length (t.rest.map (Value.int .i64))) := own_base16 ho HB_vd_7_2.out.size
          have NE12 : Hid (∀ a, A2 = some a → (Value.slice A1 t.log.length c1).ownBlock ≠ some a.block) := fun a e e2 => by
            have h1 := (R1_vd_7_2.out.lt _ e2).2
            subst e
            obtain ⟨_, _, _, _, h2⟩ := own_blk ho
            have h3 : vd_7_2.heap.size ≤ a.block := h2
            omega
          have HB_vd_7_2_5 : Hid (Below w1.heap.size w1 vd_7_2_5) := dt16 HB_vd_7_2.out hb
          have R1_vd_7_2_5 := hid (own_later R1_vd_7_2.out hb)
          have L_vd_7_2_5 := hid (L_vd_7_2.out.later hb)
          clear ho hb
          refine hK.out _ _ ?_ (fun hH3 => ?_)
          · exact (X1.out.later HB_vd_7_2_5.out).c2
          clear hK K
          try simp only [Act.put, List.setIfInBounds_toArray, List.set_cons_zero, List.set_cons_succ]
          refine wpAnyH_take (i := 6) (oi := { dst := some 23, op := Go.Op.build 24 #[(0, Go.Operand.tmp 19), (1, Go.Operand.tmp 22)], type := 24, pos := "tape.go:24", after := #[{ on := 2, ground := Go.Ground.data }, { on := 5, ground := Go.Ground.data }], guard := none }) (v := ?vv7) rfl (by kernel_rfl) (by kernel_rfl) (by kernel_rfl) (fun _ _ _ h => h) (Or.inl ⟨by rfl, ?hy7⟩) (by assumption) ?rr7
          case hy7 => intro w hSw; (try dsimp only at hSw); go_simp; all_goals with_reducible rfl
          try simp only [Act.put, List.setIfInBounds_toArray, List.set_cons_zero, List.set_cons_succ]
          refine wpAnyH_ready (rs := [8]) (by kernel_rfl) (by simp) ?_
          refine AllReadyH.cons (i := 8) (o := { dst := none, op := Go.Op.store 24 (Go.Operand.tmp 7) (Go.Operand.tmp 23), type := 0, pos := "tape.go:24", after := #[{ on := 7, ground := Go.Ground.data }, { on := 6, ground := Go.Ground.data }, { on := 5, ground := Go.Ground.chain }, { on := 0, ground := Go.Ground.phase }, { on := 1, ground := Go.Ground.phase }, { on := 2, ground := Go.Ground.phase }, { on := 3, ground := Go.Ground.phase }, { on := 4, ground := Go.Ground.phase }, { on := 5, ground := Go.Ground.phase }, { on := 6, ground := Go.Ground.phase }, { on := 7, ground := Go.Ground.phase }], guard := none }) rfl (fun K hK => ?_) AllReadyH.nil
          obtain ⟨z0, z1⟩ := L_vd_7_2_5.out.c2
          obtain ⟨zf0, zf1⟩ := L_vd_7_2_5.out.f2
          have hlt : w.heap.size < g := Nat.lt_of_lt_of_le X1.out.lt HGE.out
          have XX := (((X1.out.later HB_vd_7_2_5.out).far (p := ⟨g, 0, none⟩) (by simp; omega) (.slice A1 t.log.length c1)).far (p := ⟨g, 1, none⟩) (by simp; omega) (.slice A2 t.rest.length c2)).c2
          go_simp
          refine hK.out _ _ ?_ (fun hH4 => ?_)
          · exact XX
          clear hK K
          try simp only [Act.put, List.setIfInBounds_toArray, List.set_cons_zero, List.set_cons_succ]
          clear z0 z1 zf0 zf1 XX
          refine wpAnyH_done (by kernel_rfl) ?_ _
          have LF := (L_vd_7_2_5.out.set_ 0 (.slice A1 t.log.length c1)).set_ 1 (.slice A2 t.rest.length c2)
          simp only [List.setIfInBounds_toArray, List.set_cons_zero, List.set_cons_succ] at LF
          go_wp2_with fail
          go_meet
          exact ⟨g, A1, c1, A2, c2, rfl, LF, own_off16 (own_off16 R1_vd_7_2_5.out (own_blk_ne R1_vd_7_2_5.out L_vd_7_2_5.out (by decide)) 0 _) (own_blk_ne R1_vd_7_2_5.out L_vd_7_2_5.out (by decide)) 1 _, own_off16 (own_off16 R2_vd_7_2_5.out (own_blk_ne R2_vd_7_2_5.out L_vd_7_2_5.out (by decide)) 0 _) (own_blk_ne R2_vd_7_2_5.out L_vd_7_2_5.out (by decide)) 1 _, NE12, (HB_vd_7_2_5.out.setCell (p := ⟨g, 0, none⟩) HGE.out _).setCell (p := ⟨g, 1, none⟩) HGE.out _, HGE⟩
      case rest =>
        rename World => w2
        obtain ⟨g, A1, c1, A2, c2, rfl, hL, hR1, hR2, NE12, hbx, HGE⟩ := hcut
        have L2 := hid hL
        have R1 := hid hR1
        have R2 := hid hR2
        have HBX := hid hbx
        have K2 := hid (K1.out.later hbx)
        have HB2 := hid (then_w HB1.out hbx)
        clear x0 x1 y0 y1 yf0 yf1 hL hR1 hR2 hbx
        have hlt : w.heap.size + 1 < w1.heap.size := K1.out.lt
        by_cases h3 : m < t.log.length
        · obtain ⟨bs, os, rfl, hbs, hcs⟩ := (own_ints R1.out) (by omega)
          have hcell : w2.cell? ⟨bs, os + m, none⟩ = some (.int .i64 t.log[m]) := hcs m _ (List.getElem?_eq_getElem h3)
          have EV : Hid (drT t m = t ∧ drN t m = t.log[m]) := by show _ ∧ _; exact drT_log E.out h3
          have hme : ((m : Int) == (t.log.length : Int)) = false := by simp; omega
          have hme2 : ¬ ((m : Int) = (t.log.length : Int)) := by omega
          clear hcs
          obtain ⟨g0, g1⟩ := L2.out.c2
          obtain ⟨y0, y1⟩ := K2.out.c2
          obtain ⟨yf0, yf1⟩ := K2.out.f2
          go_upto_region 6 with fail
          go_region
          clear y0 y1 yf0 yf1 g0 g1 hcell
          have KF := ((K2.out.set_ 0 (.slice (some ⟨bs, os, none⟩) t.log.length c1)).set_ 1 (.slice A2 t.rest.length c2)).drew
          have h1 := ((HB2.out.setCell (p := ⟨w.heap.size + 1, 0, none⟩) (by simp) (.slice (some ⟨bs, os, none⟩) t.log.length c1)).setCell (p := ⟨w.heap.size + 1, 1, none⟩) (by simp) (.slice A2 t.rest.length c2)).drew
          have r0 := KF.cell 0
          have r1 := KF.cell 1
          simp only [List.setIfInBounds_toArray, List.set_cons_zero, List.set_cons_succ, List.getElem?_toArray, List.getElem?_cons_zero, List.getElem?_cons_succ] at r0 r1
          go_wp2_with fail
          refine bodyPost_ret (v := .tuple #[.int .i64 t.log[m], .agg #[.slice (some ⟨bs, os, none⟩) t.log.length c1, .slice A2 t.rest.length c2], .int .i64 0]) (by simp [results, Try.results8, go_sem, r0, r1]) rfl ?_
          clear r0 r1 KF
          have o1 := ((rdf_own16 R1.out).far (g := w.heap.size + 1) (i := 0) hlt (.slice (some ⟨bs, os, none⟩) t.log.length c1)).far (g := w.heap.size + 1) (i := 1) hlt (.slice A2 t.rest.length c2)
          have o2 := ((rdf_own16 R2.out).far (g := w.heap.size + 1) (i := 0) hlt (.slice (some ⟨bs, os, none⟩) t.log.length c1)).far (g := w.heap.size + 1) (i := 1) hlt (.slice A2 t.rest.length c2)
          exact ⟨some ⟨bs, os, none⟩, c1, A2, c2, by rw [EV.out.1, EV.out.2, drE_yes E.out], by rw [EV.out.1]; exact (o1.low (by omega)).drew16, by rw [EV.out.1]; exact (o2.low (by omega)).drew16, own_nil16 R1.out, own_nil16 R2.out, by rw [EV.out.1]; exact own_cap R1.out, by rw [EV.out.1]; exact own_cap R2.out, h1⟩
        · obtain rfl : m = t.log.length := by omega
          have EV : Hid (drT t t.log.length = ⟨t.log ++ [t.rest.getD 0 0], t.rest.drop 1⟩ ∧ drN t t.log.length = t.rest.getD 0 0) := by show _ ∧ _; exact drT_new E.out rfl
          obtain ⟨g0, g1⟩ := L2.out.c2
          obtain ⟨gf0, gf1⟩ := L2.out.f2
          go_wp2_with fail
          refine (pfurther_any16 t A1 A2 c1 c2 w1.heap.size w2 R1.out (own_ints R2.out) NE12.out (own_cap R2.out) HBX.out.size HLN.out).mono ?_
          rintro e w3 ⟨P, p, Q, q, rfl, hP, hQ, hQB, nQ, lQ, hG⟩
          have L3 := hid (lies_grown16 hG L2.out (own_blk_ne R1.out L2.out (by decide)))
          have K3 := hid (lies_grown16 hG K2.out (own_blk_ne R1.out K2.out (by decide)))
          have RP := hid hP
          have RQ := hid hQ
          have NQ := hid nQ
          have LQ := hid lQ
          have HB3 : Hid (Below w.heap.size w w3) := HB2.out.grown hG HB2.out.size (fun k hk => Nat.le_trans (Nat.le_of_lt (Nat.lt_of_le_of_lt (Nat.le_succ _) hlt)) (R1.out.lt k hk).1)
          have QB : Hid (∀ a, Q = some a → w1.heap.size ≤ a.block ∧ a.block ≠ g) := by
            intro a e
            obtain ⟨a', e', h⟩ := hQB a e
            have := (rdf_own16 R2.out).2 a' e'
            have h2 := own_blk_ne R2.out L2.out (by decide)
            refine ⟨by omega, fun e3 => h2 ?_⟩
            subst e'
            exact congrArg some (h.symm.trans e3)
          clear g0 g1 gf0 gf1 hP hQ hQB nQ lQ hG
          obtain ⟨g0, g1⟩ := L3.out.c2
          obtain ⟨gf0, gf1⟩ := L3.out.f2
          go_upto_region 6 with fail
          clear g0 g1 gf0 gf1
          obtain ⟨w4, hw4⟩ : ∃ y_, y_ = (w3.setCell ⟨g, 0, none⟩ (.slice P (t.log.length + 1) p)).setCell ⟨g, 1, none⟩ (.slice Q (t.rest.length - 1) q) := ⟨_, rfl⟩
          rw [← hw4]
          have hge : w.heap.size + 1 < g := Nat.lt_of_lt_of_le hlt HGE.out
          have L4 : Hid (Lies w4 g 24 #[.slice P (t.log.length + 1) p, .slice Q (t.rest.length - 1) q]) := by show Lies _ _ _ _; rw [hw4]; exact (L3.out.set_ 0 _).set_ 1 _
          have K4 : Hid (Lies w4 (w.heap.size + 1) 24 #[.slice none 0 0, .slice none 0 0]) := by show Lies _ _ _ _; rw [hw4]; exact (K3.out.far (p := ⟨g, 0, none⟩) (by simp; omega) _).far (p := ⟨g, 1, none⟩) (by simp; omega) _
          have HB4 : Hid (Below w.heap.size w w4) := by show Below _ _ _; rw [hw4]; exact (HB3.out.setCell (p := ⟨g, 0, none⟩) (by simp; omega) _).setCell (p := ⟨g, 1, none⟩) (by simp; omega) _
          have RP4 : Hid (w4.ownsRow w1.heap.size 3 1 (.slice P (t.log.length + 1) p) (t.log.length + 1) ((t.log ++ [t.rest.getD 0 0]).map (Value.int .i64))) := by
            show World.ownsRow _ _ _ _ _ _ _
            rw [hw4]; exact own_off16 (own_off16 RP.out (own_blk_ne RP.out L3.out (by decide)) 0 _) (own_blk_ne RP.out L3.out (by decide)) 1 _
          have RQ4 : Hid (IntsR w4 Q (t.rest.drop 1)) := by show IntsR _ _ _; rw [hw4]; exact ints_off16 (ints_off16 RQ.out (fun a e => (QB.out a e).2) 0 _) (fun a e => (QB.out a e).2) 1 _
          clear hw4
          have RI : IntsR w4 P (t.log ++ [t.rest.getD 0 0]) := own_ints (c := p) (by rw [List.length_append]; exact RP4.out)
          obtain ⟨bs, os, rfl, hbs, hcs⟩ := RI (by simp)
          have hcell : w4.cell? ⟨bs, os + t.log.length, none⟩ = some (.int .i64 (t.rest.getD 0 0)) := hcs t.log.length _ (by simp)
          obtain ⟨xv, hxv⟩ : ∃ y_, y_ = t.rest.getD 0 0 := ⟨_, rfl⟩
          have HXV := hid hxv
          rw [← hxv] at hcell
          have hrl : (t.log.length : Int) < (t.log.length : Int) + 1 := by omega
          have hlr : (t.log ++ [t.rest.getD 0 0]).length = t.log.length + 1 := by simp
          have HLR := hid hlr
          obtain ⟨rl, hrl2⟩ : ∃ y_, y_ = t.rest.length - 1 := ⟨_, rfl⟩
          have HRL := hid hrl2
          rw [← hrl2] at L4 ⊢
          clear hcs RI hbs hxv hlr hrl2
          obtain ⟨g0, g1⟩ := L4.out.c2
          obtain ⟨y0, y1⟩ := K4.out.c2
          obtain ⟨yf0, yf1⟩ := K4.out.f2
          go_upto_region 6 with fail
          go_region
          clear y0 y1 yf0 yf1 g0 g1 hcell
          have KF := ((K4.out.set_ 0 (.slice (some ⟨bs, os, none⟩) (t.log.length + 1) p)).set_ 1 (.slice Q rl q)).drew
          have h1 := ((HB4.out.setCell (p := ⟨w.heap.size + 1, 0, none⟩) (by simp) (.slice (some ⟨bs, os, none⟩) (t.log.length + 1) p)).setCell (p := ⟨w.heap.size + 1, 1, none⟩) (by simp) (.slice Q rl q)).drew
          have r0 := KF.cell 0
          have r1 := KF.cell 1
          simp only [List.setIfInBounds_toArray, List.set_cons_zero, List.set_cons_succ, List.getElem?_toArray, List.getElem?_cons_zero, List.getElem?_cons_succ] at r0 r1
          go_wp2_with fail
          refine bodyPost_ret (v := .tuple #[.int .i64 xv, .agg #[.slice (some ⟨bs, os, none⟩) (t.log.length + 1) p, .slice Q rl q], .int .i64 0]) (by simp [results, Try.results8, go_sem, r0, r1]) rfl ?_
          clear r0 r1 KF
          have hlt4 : w.heap.size + 1 < w1.heap.size := hlt
          have o1 := ((rdf_own16 (xs := t.log ++ [t.rest.getD 0 0]) (c := p) (by rw [HLR.out]; exact RP4.out)).far (g := w.heap.size + 1) (i := 0) hlt4 (.slice (some ⟨bs, os, none⟩) (t.log.length + 1) p)).far (g := w.heap.size + 1) (i := 1) hlt4 (.slice Q rl q)
          have o2 := ((show RdF w4 w1.heap.size Q (t.rest.drop 1) from ⟨RQ4.out, fun a e => (QB.out a e).1⟩).far (g := w.heap.size + 1) (i := 0) hlt4 (.slice (some ⟨bs, os, none⟩) (t.log.length + 1) p)).far (g := w.heap.size + 1) (i := 1) hlt4 (.slice Q rl q)
          refine ⟨some ⟨bs, os, none⟩, p, Q, q, ?_, ?_, ?_, own_nil16 RP4.out, NQ.out, ?_, ?_, h1⟩
          · rw [EV.out.1, EV.out.2, drE_yes E.out, ← HXV.out]
            show _ = Ending.returned (.tuple #[.int .i64 xv, .agg #[.slice (some ⟨bs, os, none⟩) (t.log ++ [xv]).length p, .slice Q (t.rest.drop 1).length q], .int .i64 0])
            rw [List.length_drop, ← HRL.out, List.length_append]; rfl
          · rw [EV.out.1]; exact (o1.low (by omega)).drew16
          · rw [EV.out.1]; exact (o2.low (by omega)).drew16
          · rw [EV.out.1]; show (t.log ++ [t.rest.getD 0 0]).length ≤ p; rw [HLR.out]; exact own_cap RP4.out
          · rw [EV.out.1]; show (t.rest.drop 1).length ≤ q; rw [List.length_drop]; exact LQ.out
end Go.Proofs.Ytimmoaomhilaeaa
