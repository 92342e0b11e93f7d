/- TapeWhole walked: whatever tape, and number, it answers true. -/
import Derived.Test.YtimmoaomhilaeaaLM16
namespace Go.Proofs.Ytimmoaomhilaeaa
open Go.RowKit
set_option maxRecDepth 100000
set_option maxHeartbeats 2000000 in
theorem lwhole_any16 (t : Tp) (A B : Option Addr) (c d : Nat) (k : Int) (w : World) (hA : IntsR w A t.log) (hB : IntsR w B t.rest) (nA : A = none → c = 0) (nB : B = none → d = 0) (lA : t.log.length ≤ c) (lB : t.rest.length ≤ d) (hl : t.log.length + t.rest.length ≤ 1048576) :
    Calls Try.prog 6 #[.agg #[.slice A t.log.length c, .slice B t.rest.length d], .int .i64 k] w fun e w' => e = .returned (.bool true) ∧ Below w.heap.size w w' := by
  have LA := hid lA
  have LB := hid lB
  clear lA lB
  obtain ⟨w0, hw0⟩ : ∃ w0, w0 = w.alloc (.cells #[.slice A t.log.length c, .slice B t.rest.length d] 24) := ⟨_, rfl⟩
  have HB0 : Hid (Below w.heap.size w w0) := by show Below _ _ _; rw [hw0]; exact below_alloc _ _
  have X0 : Hid (Lies w0 w.heap.size 24 #[.slice A t.log.length c, .slice B t.rest.length d]) := by show Lies _ _ _ _; rw [hw0]; exact Lies.new _ _ _
  have RA0 := hid (hA.below HB0.out)
  have RB0 := hid (hB.below HB0.out)
  have NA := hid nA
  have NB := hid nB
  clear hA hB nA nB
  go_enter Try.func6, Try.ntmps6
  go_upto_region 1 with fail
  rw [← hw0]
  clear hw0
  have HL : Hid (t.log.length + t.rest.length ≤ 1048576) := hl
  have hw1 : IntKind.i64.wrap ((t.log.length : Int) + (t.rest.length : Int)) = (t.log.length : Int) + (t.rest.length : Int) := IntWalk.i64_in _ (by omega)
  clear hl
  have x0 := X0.out.cell 0
  have x1 := X0.out.cell 1
  simp only [List.getElem?_toArray, List.getElem?_cons_zero, List.getElem?_cons_succ] at x0 x1
  go_wp2_with fail
  refine (fixed16_any _).mono ?_
  rintro e w1 ⟨rfl, hb⟩
  clear x0 x1
  have HB1 := hid (then_w HB0.out hb)
  have X1 := hid (X0.out.later hb)
  have RA1 := hid (RA0.out.below hb)
  have RB1 := hid (RB0.out.below hb)
  clear hb
  clear HB0 X0 RA0 RB0
  cases hm : mayT t
  · have HCK := hid (ckT_no hm)
    clear hm
    have x0 := X1.out.cell 0
    have x1 := X1.out.cell 1
    simp only [List.getElem?_toArray, List.getElem?_cons_zero, List.getElem?_cons_succ] at x0 x1
    go_wp2_with fail
    refine (rcheckE HCK.out rfl rfl A B c d _ RA1.out RB1.out NA.out NB.out HL.out).mono ?_
    rintro e w2 ⟨rfl, hb⟩
    clear x0 x1
    have HB2 := hid (then_w HB1.out hb)
    have X2 := hid (X1.out.later hb)
    have RA2 := hid (RA1.out.below hb)
    have RB2 := hid (RB1.out.below hb)
    clear hb
    clear HB1 X1 RA1 RB1
    have x0 := X2.out.cell 0
    have x1 := X2.out.cell 1
    simp only [List.getElem?_toArray, List.getElem?_cons_zero, List.getElem?_cons_succ] at x0 x1
    go_wp2_with fail
    refine (fixed16_any _).mono ?_
    rintro e w3 ⟨rfl, hb⟩
    clear x0 x1
    have HB3 := hid (then_w HB2.out hb)
    have X3 := hid (X2.out.later hb)
    have RA3 := hid (RA2.out.below hb)
    have RB3 := hid (RB2.out.below hb)
    clear hb
    clear HB2 X2 RA2 RB2
    go_wp2_with fail
    go_ret
    exact ⟨rfl, HB3.out⟩
  · have HM := hid hm
    have HCK := hid (ckT_yes hm)
    clear hm
    have x0 := X1.out.cell 0
    have x1 := X1.out.cell 1
    simp only [List.getElem?_toArray, List.getElem?_cons_zero, List.getElem?_cons_succ] at x0 x1
    go_wp2_with fail
    refine (rcheckE HCK.out rfl rfl A B c d _ RA1.out RB1.out NA.out NB.out HL.out).mono ?_
    rintro e w2 ⟨rfl, hb⟩
    clear x0 x1
    have HB2 := hid (then_w HB1.out hb)
    have X2 := hid (X1.out.later hb)
    have RA2 := hid (RA1.out.below hb)
    have RB2 := hid (RB1.out.below hb)
    clear hb
    clear HB1 X1 RA1 RB1
    by_cases hg : t.log.length + t.rest.length ≤ 100
    · have HG : Hid (t.log.length + t.rest.length ≤ 100) := hg
      have hg2 : ¬ (100 : Int) < (t.log.length : Int) + (t.rest.length : Int) := by omega
      clear hg
      by_cases h0 : k < 0
      · have x0 := X2.out.cell 0
        have x1 := X2.out.cell 1
        simp only [List.getElem?_toArray, List.getElem?_cons_zero, List.getElem?_cons_succ] at x0 x1
        go_wp2_with fail
        refine (fixed16_any _).mono ?_
        rintro e w3 ⟨rfl, hb⟩
        clear x0 x1
        have HB3 := hid (then_w HB2.out hb)
        have X3 := hid (X2.out.later hb)
        have RA3 := hid (RA2.out.below hb)
        have RB3 := hid (RB2.out.below hb)
        clear hb
        clear HB2 X2 RA2 RB2
        go_wp2_with fail
        go_ret
        exact ⟨rfl, HB3.out⟩
      · by_cases h1 : k ≤ 50
        · have h2 : ¬ (50 : Int) < k := by omega
          have x0 := X2.out.cell 0
          have x1 := X2.out.cell 1
          simp only [List.getElem?_toArray, List.getElem?_cons_zero, List.getElem?_cons_succ] at x0 x1
          go_upto_region 3 with fail
          clear hg2 h2
          obtain ⟨m, rfl⟩ : ∃ m : Nat, k = m := ⟨k.toNat, by omega⟩
          have HM50 : Hid (m ≤ 50) := by show _ ≤ _; omega
          obtain ⟨l, hl⟩ : ∃ x, x = allT t := ⟨_, rfl⟩
          have HL_ := hid hl
          obtain ⟨nl, hnl⟩ : ∃ x, x = l.length := ⟨_, rfl⟩
          have HNL : Hid (l.length = nl) := hnl.symm
          have HN2 : Hid (nl = t.log.length + t.rest.length) := by show _ = _; rw [hnl, hl, allT_len]
          clear hl hnl h0 h1
          go_cut [5, 6] from 39 to 41 (fun a p wx => ∃ (Pz : Option Addr) (pz bu : Nat), a = .slice Pz nl pz ∧ p = .pointer (some ⟨bu, 0, none⟩) ∧ Lies wx bu 24 #[.slice A t.log.length c, .slice B t.rest.length d] ∧ RdN wx bu Pz l ∧ nl ≤ pz ∧ Below w2.heap.size w2 wx ∧ Hid (w2.heap.size ≤ bu))
          case first =>
            refine wp_region_held_drew (S := (fun w' => w'.cell? ⟨w.heap.size, 0, none⟩ = some (.slice A t.log.length c) ∧ w'.cell? ⟨w.heap.size, 1, none⟩ = some (.slice B t.rest.length d))) (by kernel_rfl) ?_ (fun hH0 => ?_)
            · exact ⟨x0, x1⟩
            obtain ⟨vd, hvd⟩ : ∃ y_, y_ = w2.drew := ⟨_, rfl⟩
            rw [← hvd] at hH0 ⊢
            have HB_vd : Hid (Below w2.heap.size w2 vd) := by show Below _ _ _; rw [hvd]; exact (Below.refl _ _).drew
            clear hvd x0 x1
            refine wpAnyH_take (i := 0) (oi := { dst := some 39, op := Go.Op.load 24 (Go.Operand.tmp 2), type := 24, pos := "law.go:82", after := #[], guard := none }) (v := ?vv1) rfl (by kernel_rfl) (by kernel_rfl) (by kernel_rfl) (fun _ _ _ h => h) (Or.inl ⟨by rfl, ?hy1⟩) (by assumption) ?rr1
            case hy1 => intro w hSw; (try dsimp only at hSw); go_simp; all_goals with_reducible rfl
            try simp only [Act.put, List.setIfInBounds_toArray, List.set_cons_zero, List.set_cons_succ]
            refine wpAnyH_take (i := 2) (oi := { dst := some 41, op := Go.Op.load 24 (Go.Operand.tmp 2), type := 24, pos := "law.go:82", after := #[{ on := 4, ground := Go.Ground.gcOnly Go.Departure.lateStores }], guard := none }) (v := ?vv2) rfl (by kernel_rfl) (by kernel_rfl) (by kernel_rfl) (fun _ _ _ h => h) (Or.inl ⟨by rfl, ?hy2⟩) (by assumption) ?rr2
            case hy2 => intro w hSw; (try dsimp only at hSw); go_simp; all_goals with_reducible rfl
            try simp only [Act.put, List.setIfInBounds_toArray, List.set_cons_zero, List.set_cons_succ]
            refine wpAnyH_ready (rs := [1, 3]) (by kernel_rfl) (by simp) ?_
            refine AllReadyH.cons (i := 1) (o := { dst := some 40, op := Go.Op.call { callee := Go.Callee.value (Go.Operand.func 16), args := #[Go.Operand.tmp 39], argTypes := #[24] }, type := 22, pos := "law.go:82", after := #[{ on := 0, ground := Go.Ground.data }], guard := none }) rfl (fun K hK => ?_) (AllReadyH.cons (i := 3) (o := { dst := some 6, op := Go.Op.alloc 24, type := 0, pos := "law.go:82", after := #[], guard := none }) rfl (fun K hK => ?_) AllReadyH.nil)
            · go_simp
              go_at_call 16
              refine (pallE HL_.out.symm HNL.out rfl rfl A B c d vd (RA2.out.below HB_vd.out) (RB2.out.below HB_vd.out) NA.out NB.out (Nat.le_trans HG.out (by decide))).mono ?_
              rintro e vd_1 ⟨Pz, pz, rfl, hz, hpz, hb⟩
              have HB_vd_1 : Hid (Below w2.heap.size w2 vd_1) := dt16 HB_vd.out hb
              have HPZ := hid hpz
              have RZ_vd_1 := hid hz
              clear hz hb hpz
              refine hK.out _ _ ?_ (fun hH1 => ?_)
              · exact (X2.out.later HB_vd_1.out).c2
              clear hK K
              try simp only [Act.put, List.setIfInBounds_toArray, List.set_cons_zero, List.set_cons_succ]
              refine wpAnyH_ready (rs := [3]) (by kernel_rfl) (by simp) ?_
              refine AllReadyH.cons (i := 3) (o := { dst := some 6, op := Go.Op.alloc 24, type := 0, pos := "law.go:82", after := #[], guard := none }) rfl (fun K hK => ?_) AllReadyH.nil
              go_simp
              obtain ⟨vd_1_3, hw⟩ : ∃ y_, y_ = vd_1.alloc (.cells #[.slice none 0 0, .slice none 0 0] 24) := ⟨_, rfl⟩
              obtain ⟨bu, hbu⟩ : ∃ y_, y_ = vd_1.heap.size := ⟨_, rfl⟩
              rw [← hw, ← hbu]
              have hb : Below vd_1.heap.size vd_1 vd_1_3 := by rw [hw]; exact below_alloc _ _
              have L_vd_1_3 : Hid (Lies vd_1_3 bu 24 #[.slice none 0 0, .slice none 0 0]) := by show Lies _ _ _ _; rw [hw, hbu]; exact Lies.new _ _ _
              have HGE : Hid (w2.heap.size ≤ bu) := by show _ ≤ _; rw [hbu]; exact HB_vd_1.out.size
              have HB_vd_1_3 : Hid (Below w2.heap.size w2 vd_1_3) := dt16 HB_vd_1.out hb
              have RZ_vd_1_3 : Hid (RdN vd_1_3 bu Pz l) := (rdn_old16 RZ_vd_1.out.1 (Nat.le_of_eq hbu.symm)).below hb
              clear hb hw hbu
              refine hK.out _ _ ?_ (fun hH2 => ?_)
              · exact (X2.out.later HB_vd_1_3.out).c2
              clear hK K
              try simp only [Act.put, List.setIfInBounds_toArray, List.set_cons_zero, List.set_cons_succ]
              refine wpAnyH_take (i := 4) (oi := { dst := some 5, op := Go.Op.assign (Go.Operand.tmp 40), type := 22, pos := "law.go:82", after := #[{ on := 1, ground := Go.Ground.data }, { on := 1, ground := Go.Ground.chain }, { on := 0, ground := Go.Ground.phase }, { on := 1, ground := Go.Ground.phase }, { on := 2, ground := Go.Ground.textOnly Go.Departure.lateStores }, { on := 3, ground := Go.Ground.phase }], guard := none }) (v := ?vv3) rfl (by kernel_rfl) (by kernel_rfl) (by kernel_rfl) (fun _ _ _ h => h) (Or.inl ⟨by rfl, ?hy3⟩) (by assumption) ?rr3
              case hy3 => intro w hSw; (try dsimp only at hSw); go_simp; all_goals with_reducible rfl
              try simp only [Act.put, List.setIfInBounds_toArray, List.set_cons_zero, List.set_cons_succ]
              refine wpAnyH_ready (rs := [5]) (by kernel_rfl) (by simp) ?_
              refine AllReadyH.cons (i := 5) (o := { dst := none, op := Go.Op.store 24 (Go.Operand.tmp 6) (Go.Operand.tmp 41), type := 0, pos := "law.go:82", after := #[{ on := 3, ground := Go.Ground.data }, { on := 2, ground := Go.Ground.data }, { on := 4, ground := Go.Ground.chain }, { on := 0, ground := Go.Ground.phase }, { on := 1, ground := Go.Ground.phase }, { on := 2, ground := Go.Ground.phase }, { on := 3, ground := Go.Ground.phase }, { on := 4, ground := Go.Ground.phase }], guard := none }) rfl (fun K hK => ?_) AllReadyH.nil
              obtain ⟨z0, z1⟩ := L_vd_1_3.out.c2
              obtain ⟨zf0, zf1⟩ := L_vd_1_3.out.f2
              have hlt : w.heap.size < bu := Nat.lt_of_lt_of_le X2.out.lt HGE.out
              have XX := (((X2.out.later HB_vd_1_3.out).far (p := ⟨bu, 0, none⟩) (by simp; omega) (.slice A t.log.length c)).far (p := ⟨bu, 1, none⟩) (by simp; omega) (.slice B t.rest.length d)).c2
              go_simp
              refine hK.out _ _ ?_ (fun hH3 => ?_)
              · exact XX
              clear hK K
              try simp only [Act.put, List.setIfInBounds_toArray, List.set_cons_zero, List.set_cons_succ]
              clear z0 z1 zf0 zf1 XX
              refine wpAnyH_done (by kernel_rfl) ?_ _
              have LF := (L_vd_1_3.out.set_ 0 (.slice A t.log.length c)).set_ 1 (.slice B t.rest.length d)
              simp only [List.setIfInBounds_toArray, List.set_cons_zero, List.set_cons_succ] at LF
              go_wp2_with fail
              go_meet
              exact ⟨Pz, pz, bu, rfl, rfl, LF, (RZ_vd_1_3.out.far _).far _, HPZ.out, (HB_vd_1_3.out.setCell (p := ⟨bu, 0, none⟩) HGE.out _).setCell (p := ⟨bu, 1, none⟩) HGE.out _, HGE⟩
            · go_simp
              obtain ⟨vd_3, hw⟩ : ∃ y_, y_ = vd.alloc (.cells #[.slice none 0 0, .slice none 0 0] 24) := ⟨_, rfl⟩
              obtain ⟨bu, hbu⟩ : ∃ y_, y_ = vd.heap.size := ⟨_, rfl⟩
              rw [← hw, ← hbu]
              have hb : Below vd.heap.size vd vd_3 := by rw [hw]; exact below_alloc _ _
              have L_vd_3 : Hid (Lies vd_3 bu 24 #[.slice none 0 0, .slice none 0 0]) := by show Lies _ _ _ _; rw [hw, hbu]; exact Lies.new _ _ _
              have HGE : Hid (w2.heap.size ≤ bu) := by show _ ≤ _; rw [hbu]; exact HB_vd.out.size
              have HB_vd_3 : Hid (Below w2.heap.size w2 vd_3) := dt16 HB_vd.out hb
              clear hb hw hbu
              refine hK.out _ _ ?_ (fun hH1 => ?_)
              · exact (X2.out.later HB_vd_3.out).c2
              clear hK K
              try simp only [Act.put, List.setIfInBounds_toArray, List.set_cons_zero, List.set_cons_succ]
              refine wpAnyH_ready (rs := [1]) (by kernel_rfl) (by simp) ?_
              refine AllReadyH.cons (i := 1) (o := { dst := some 40, op := Go.Op.call { callee := Go.Callee.value (Go.Operand.func 16), args := #[Go.Operand.tmp 39], argTypes := #[24] }, type := 22, pos := "law.go:82", after := #[{ on := 0, ground := Go.Ground.data }], guard := none }) rfl (fun K hK => ?_) AllReadyH.nil
              go_simp
              go_at_call 16
              refine (pallE HL_.out.symm HNL.out rfl rfl A B c d vd_3 (RA2.out.below HB_vd_3.out) (RB2.out.below HB_vd_3.out) NA.out NB.out (Nat.le_trans HG.out (by decide))).mono ?_
              rintro e vd_3_1 ⟨Pz, pz, rfl, hz, hpz, hb⟩
              have HB_vd_3_1 : Hid (Below w2.heap.size w2 vd_3_1) := dt16 HB_vd_3.out hb
              have HPZ := hid hpz
              have L_vd_3_1 := hid (L_vd_3.out.later hb)
              have RZ_vd_3_1 : Hid (RdN vd_3_1 bu Pz l) := rdn_new16 hz L_vd_3.out.lt
              clear hz hb hpz
              refine hK.out _ _ ?_ (fun hH2 => ?_)
              · exact (X2.out.later HB_vd_3_1.out).c2
              clear hK K
              try simp only [Act.put, List.setIfInBounds_toArray, List.set_cons_zero, List.set_cons_succ]
              refine wpAnyH_take (i := 4) (oi := { dst := some 5, op := Go.Op.assign (Go.Operand.tmp 40), type := 22, pos := "law.go:82", after := #[{ on := 1, ground := Go.Ground.data }, { on := 1, ground := Go.Ground.chain }, { on := 0, ground := Go.Ground.phase }, { on := 1, ground := Go.Ground.phase }, { on := 2, ground := Go.Ground.textOnly Go.Departure.lateStores }, { on := 3, ground := Go.Ground.phase }], guard := none }) (v := ?vv4) rfl (by kernel_rfl) (by kernel_rfl) (by kernel_rfl) (fun _ _ _ h => h) (Or.inl ⟨by rfl, ?hy4⟩) (by assumption) ?rr4
              case hy4 => intro w hSw; (try dsimp only at hSw); go_simp; all_goals with_reducible rfl
              try simp only [Act.put, List.setIfInBounds_toArray, List.set_cons_zero, List.set_cons_succ]
              refine wpAnyH_ready (rs := [5]) (by kernel_rfl) (by simp) ?_
              refine AllReadyH.cons (i := 5) (o := { dst := none, op := Go.Op.store 24 (Go.Operand.tmp 6) (Go.Operand.tmp 41), type := 0, pos := "law.go:82", after := #[{ on := 3, ground := Go.Ground.data }, { on := 2, ground := Go.Ground.data }, { on := 4, ground := Go.Ground.chain }, { on := 0, ground := Go.Ground.phase }, { on := 1, ground := Go.Ground.phase }, { on := 2, ground := Go.Ground.phase }, { on := 3, ground := Go.Ground.phase }, { on := 4, ground := Go.Ground.phase }], guard := none }) rfl (fun K hK => ?_) AllReadyH.nil
              obtain ⟨z0, z1⟩ := L_vd_3_1.out.c2
              obtain ⟨zf0, zf1⟩ := L_vd_3_1.out.f2
              have hlt : w.heap.size < bu := Nat.lt_of_lt_of_le X2.out.lt HGE.out
              have XX := (((X2.out.later HB_vd_3_1.out).far (p := ⟨bu, 0, none⟩) (by simp; omega) (.slice A t.log.length c)).far (p := ⟨bu, 1, none⟩) (by simp; omega) (.slice B t.rest.length d)).c2
              go_simp
              refine hK.out _ _ ?_ (fun hH3 => ?_)
              · exact XX
              clear hK K
              try simp only [Act.put, List.setIfInBounds_toArray, List.set_cons_zero, List.set_cons_succ]
              clear z0 z1 zf0 zf1 XX
              refine wpAnyH_done (by kernel_rfl) ?_ _
              have LF := (L_vd_3_1.out.set_ 0 (.slice A t.log.length c)).set_ 1 (.slice B t.rest.length d)
              simp only [List.setIfInBounds_toArray, List.set_cons_zero, List.set_cons_succ] at LF
              go_wp2_with fail
              go_meet
              exact ⟨Pz, pz, bu, rfl, rfl, LF, (RZ_vd_3_1.out.far _).far _, HPZ.out, (HB_vd_3_1.out.setCell (p := ⟨bu, 0, none⟩) HGE.out _).setCell (p := ⟨bu, 1, none⟩) HGE.out _, HGE⟩
          case rest =>
            rename World => w3
            obtain ⟨Pz, pz, bu, rfl, rfl, hL, hZ, hpz, hb, HGE⟩ := hcut
            clear x0 x1
            have HPZ := hid hpz
            have U3 := hid hL
            have HXU : Hid (w.heap.size ≠ bu) := by show _ ≠ _; have := X2.out.lt; have := HGE.out; omega
            have HBU : Hid (w.heap.size ≤ bu) := Nat.le_trans HB2.out.size HGE.out
            have NRA : Hid (RdN w3 bu A t.log) := (rdn_old16 RA2.out HGE.out).below hb
            have NRB : Hid (RdN w3 bu B t.rest) := (rdn_old16 RB2.out HGE.out).below hb
            have NRZ := hid hZ
            have HB3 := hid (then_w HB2.out hb)
            have X3 := hid (X2.out.later hb)
            have RA3 := hid (RA2.out.below hb)
            have RB3 := hid (RB2.out.below hb)
            clear hb hL hZ hpz
            have hn2 : (nl : Int) = (t.log.length : Int) + (t.rest.length : Int) := by have := HN2.out; omega
            have hn3 : ((nl : Int) == (t.log.length : Int) + (t.rest.length : Int)) = true := beq_iff_eq.2 hn2
            have hn4 : ((nl : Int) != (t.log.length : Int) + (t.rest.length : Int)) = false := by rw [bne, hn3]; rfl
            clear hn2
            have x0 := X3.out.cell 0
            have x1 := X3.out.cell 1
            simp only [List.getElem?_toArray, List.getElem?_cons_zero, List.getElem?_cons_succ] at x0 x1
            go_upto_region 6 with fail
            clear x0 x1
            clear hn3 hn4 hw1
            go_wp2_with fail
            have NABH : Hid ((A = none → c = 0) ∧ (B = none → d = 0) ∧ t.log.length ≤ c ∧ t.rest.length ≤ d) := ⟨NA.out, NB.out, LA.out, LB.out⟩
            go_loopw [7, 9, 10] (fun i _ _ wr => ∃ (j : Nat) (u : Tp) (P Q : Option Addr) (p q : Nat), j ≤ m ∧ i = .int .i64 (j : Int) ∧ Hid (Go16 t j u) ∧ Hid (Lies wr bu 24 #[.slice P u.log.length p, .slice Q u.rest.length q]) ∧ Hid (RdN wr bu P u.log) ∧ Hid (RdN wr bu Q u.rest) ∧ Hid ((P = none → p = 0) ∧ (Q = none → q = 0) ∧ u.log.length ≤ p ∧ u.rest.length ≤ q) ∧ Hid (Lies wr w.heap.size 24 #[.slice A t.log.length c, .slice B t.rest.length d]) ∧ Hid (RdN wr bu Pz l) ∧ Hid (Below w.heap.size w wr)) (fun i _ _ _ => m - (intOf i).toNat)
            case atStart => exact ⟨0, t, A, B, c, d, Nat.zero_le _, rfl, Go16.start HM.out, U3, NRA, NRB, NABH, X3, NRZ, HB3⟩
            case round =>
              rename World => w20
              obtain ⟨j, u, P, Q, p, q, hjm, rfl, HGO, U20, RP20, RQ20, NPQ, X20, RZ20, HB20⟩ := hrel
              by_cases hlt : j < m
              · obtain ⟨xv, hxv⟩ : ∃ y_, y_ = (allT t).getD j 0 := ⟨_, rfl⟩
                obtain ⟨v, hdr, hgo⟩ := HGO.out.step HG.out (by have := HM50.out; omega) hxv.symm
                have HDR := hid hdr
                have HGN := hid hgo
                have HXV := hid hxv
                have HUL : Hid (u.log.length + u.rest.length ≤ 1048576) := by show _ ≤ _; have := HGO.out.lens; have := HG.out; have := HM50.out; omega
                have hm50 : m ≤ 50 := HM50.out
                have HLT := hid hlt
                have U20LT := hid U20.out.lt
                clear hdr hgo hxv
                have u_0 := U20.out.cell 0
                have u_1 := U20.out.cell 1
                simp only [List.getElem?_toArray, List.getElem?_cons_zero, List.getElem?_cons_succ] at u_0 u_1
                go_wp2_with fail
                refine (pdrawE HDR.out rfl rfl rfl rfl P Q p q _ RP20.out.1 RQ20.out.1 NPQ.out.1 NPQ.out.2.1 NPQ.out.2.2.1 NPQ.out.2.2.2 HUL.out).mono ?_
                rintro e w21 ⟨Pw, pw, Qw, qw, rfl, hP, hQ, nP, nQ, lP, lQ, hb⟩
                clear u_0 u_1
                have HB21 := hid (then_w HB20.out hb)
                have X21 := hid (X20.out.later hb)
                have U21 := hid (U20.out.later hb)
                have RP21 := hid (RP20.out.below hb)
                have RQ21 := hid (RQ20.out.below hb)
                have RZ21 := hid (RZ20.out.below hb)
                clear hb
                clear HB20 X20 U20 RP20 RQ20 RZ20
                have RPw_21 := hid hP
                clear hP
                have RQw_21 := hid hQ
                clear hQ
                have NPw := hid nP
                have NQw := hid nQ
                have LPw := hid lP
                have LQw := hid lQ
                clear nP nQ lP lQ
                go_upto_region 10 with fail
                obtain ⟨w22, hw⟩ : ∃ x, x = w21.alloc (.cells #[.slice Pw v.log.length pw, .slice Qw v.rest.length qw] 24) := ⟨_, rfl⟩
                obtain ⟨bw, hbx⟩ : ∃ x, x = w21.heap.size := ⟨_, rfl⟩
                have W22 : Hid (Lies w22 bw 24 #[.slice Pw v.log.length pw, .slice Qw v.rest.length qw]) := by show Lies _ _ _ _; rw [hw, hbx]; exact Lies.new _ _ _
                have hb : Below w21.heap.size w21 w22 := by rw [hw]; exact below_alloc _ _
                rw [← hw, ← hbx]
                have ne_X_W : Hid ((w.heap.size) ≠ bw) := by show _ ≠ _; rw [hbx]; exact Nat.ne_of_lt X21.out.lt
                have ne_U_W : Hid (bu ≠ bw) := by show _ ≠ _; rw [hbx]; exact Nat.ne_of_lt U21.out.lt
                have at_W : Hid (bw = w21.heap.size) := hbx
                have le_HB_W : Hid (w.heap.size ≤ bw) := by show _ ≤ _; rw [hbx]; exact HB21.out.size
                clear hbx hw
                have HALW := hid hb
                have HB22 := hid (then_w HB21.out hb)
                have X22 := hid (X21.out.later hb)
                have U22 := hid (U21.out.later hb)
                have RP22 := hid (RP21.out.below hb)
                have RQ22 := hid (RQ21.out.below hb)
                have RZ22 := hid (RZ21.out.below hb)
                have RPw_22 := hid (RPw_21.out.below hb)
                have RQw_22 := hid (RQw_21.out.below hb)
                clear hb
                clear HB21 X21 U21 RP21 RQ21 RZ21 RPw_21 RQw_21
                have BUX : Hid (w.heap.size ≠ bu) := HXU.out
                have w_0 := W22.out.cell 0
                have w_1 := W22.out.cell 1
                simp only [List.getElem?_toArray, List.getElem?_cons_zero, List.getElem?_cons_succ] at w_0 w_1
                have u_0 := U22.out.cell 0
                have u_1 := U22.out.cell 1
                have u_f0 := U22.out.frozen 0
                have u_f1 := U22.out.frozen 1
                simp only [List.getElem?_toArray, List.getElem?_cons_zero, List.getElem?_cons_succ] at u_0 u_1
                go_wp2_with fail
                go_roundw
                case rel =>
                  exact ⟨j + 1, v, Pw, Qw, pw, qw, HLT.out, by go_num, HGN, (U22.out.set_ 0 _).set_ 1 _, ((rdn_new16 RPw_22.out (base := w20.heap.size) U20LT.out).far _).far _, ((rdn_new16 RQw_22.out (base := w20.heap.size) U20LT.out).far _).far _, ⟨NPw.out, NQw.out, LPw.out, LQw.out⟩, (X22.out.far (p := ⟨bu, 0, none⟩) BUX.out _).far (p := ⟨bu, 1, none⟩) BUX.out _, (RZ22.out.far _).far _, (HB22.out.setCell (p := ⟨bu, 0, none⟩) HBU.out _).setCell (p := ⟨bu, 1, none⟩) HBU.out _⟩
                case measure => simp [intOf]; omega
              · obtain rfl : j = m := by omega
                clear hlt
                obtain ⟨l2, hl2⟩ : ∃ x, x = allT u := ⟨_, rfl⟩
                have HL2 := hid hl2
                obtain ⟨n2, hn2⟩ : ∃ x, x = l2.length := ⟨_, rfl⟩
                have HN2_ : Hid (l2.length = n2) := hn2.symm
                have HNN : Hid (n2 = max nl j ∧ n2 ≤ 150) := by show _ ∧ _; rw [hn2, hl2, allT_len]; have := HGO.out.lens; have := HN2.out; have := HG.out; have := HM50.out; omega
                have HTK : Hid (l2.take nl = l) := by
                  show _ = _
                  rw [hl2, HGO.out.all, ← HL_.out, ← HNL.out, List.take_left']
                  rfl
                have HZR : Hid (∀ i, nl ≤ i → i < n2 → l2[i]? = some 0) := fun i h1 h2 => by
                  rw [hl2, HGO.out.all, ← HL_.out, List.getElem?_append_right (by rw [HNL.out]; exact h1), List.getElem?_replicate, if_pos]
                  have := HNL.out
                  rw [hn2, hl2, HGO.out.all, ← HL_.out, List.length_append, List.length_replicate] at h2
                  omega
                have HULN : Hid (u.log.length + u.rest.length ≤ 150) := by show _ ≤ _; have := HGO.out.lens; have := HG.out; have := HM50.out; omega
                have HCU : Hid (ckT u = 0) := ckT_yes HGO.out.may
                clear hl2 hn2
                have u_0 := U20.out.cell 0
                have u_1 := U20.out.cell 1
                simp only [List.getElem?_toArray, List.getElem?_cons_zero, List.getElem?_cons_succ] at u_0 u_1
                go_wp2_with fail
                refine (pallE HL2.out.symm HN2_.out rfl rfl P Q p q _ RP20.out.1 RQ20.out.1 NPQ.out.1 NPQ.out.2.1 (Nat.le_trans HULN.out (by decide))).mono ?_
                rintro e w21 ⟨P2, p2, rfl, hz, hp2, hb⟩
                clear u_0 u_1
                have HB21 := hid (then_w HB20.out hb)
                have X21 := hid (X20.out.later hb)
                have U21 := hid (U20.out.later hb)
                have RP21 := hid (RP20.out.below hb)
                have RQ21 := hid (RQ20.out.below hb)
                have RZ21 := hid (RZ20.out.below hb)
                clear hb
                clear HB20 X20 U20 RP20 RQ20 RZ20
                have R221 := hid hz
                clear hz
                have HP2 := hid hp2
                clear hp2
                have hmx : max (nl : Int) (j : Int) = (n2 : Int) := by have := HNN.out.1; omega
                have hcn : (nl : Int) ≤ (p2 : Int) := by have := HP2.out; have := HNN.out.1; omega
                have hnn : nl ≤ n2 := by have := HNN.out.1; omega
                have HNLE := hid hnn
                by_cases hjn : nl < j
                · have hj2 : (nl : Int) < (j : Int) := by omega
                  have HN2E : Hid (n2 = j) := by show _ = _; have := HNN.out.1; omega
                  have hj3 : ((n2 : Int) == (j : Int)) = true := beq_iff_eq.2 (by have := HN2E.out; omega)
                  have hj4 : ((n2 : Int) != (j : Int)) = false := by rw [bne, hj3]; rfl
                  clear hmx hjn
                  go_wp2_with fail
                  refine (rintsE (x := l) (y := l) (r := true) (decide_eq_true rfl) HNL.out HNL.out P2 Pz p2 pz _ (by rw [← HTK.out]; exact IntsR.take16 R221.out.1 nl) RZ21.out.1 (by have := HNN.out; have := HNLE.out; omega)).mono ?_
                  rintro e w22 ⟨rfl, hb⟩
                  have HB22 := hid (then_w HB21.out hb)
                  have X22 := hid (X21.out.later hb)
                  have U22 := hid (U21.out.later hb)
                  have RP22 := hid (RP21.out.below hb)
                  have RQ22 := hid (RQ21.out.below hb)
                  have RZ22 := hid (RZ21.out.below hb)
                  have R222 := hid (R221.out.below hb)
                  clear hb
                  clear HB21 X21 U21 RP21 RQ21 RZ21 R221
                  clear hj2 hj3 hj4 hcn hnn
                  have u_0 := U22.out.cell 0
                  have u_1 := U22.out.cell 1
                  simp only [List.getElem?_toArray, List.getElem?_cons_zero, List.getElem?_cons_succ] at u_0 u_1
                  go_wp2_with fail
                  refine (pcheckE HCU.out rfl rfl P Q p q _ RP22.out.1 RQ22.out.1 NPQ.out.1 NPQ.out.2.1 (Nat.le_trans HULN.out (by decide))).mono ?_
                  rintro e w23 ⟨rfl, hb⟩
                  clear u_0 u_1
                  have HB23 := hid (then_w HB22.out hb)
                  have X23 := hid (X22.out.later hb)
                  have U23 := hid (U22.out.later hb)
                  have RP23 := hid (RP22.out.below hb)
                  have RQ23 := hid (RQ22.out.below hb)
                  have RZ23 := hid (RZ22.out.below hb)
                  have R223 := hid (R222.out.below hb)
                  clear hb
                  clear HB22 X22 U22 RP22 RQ22 RZ22 R222
                  go_wp2_with fail
                  go_loopw [12] (fun i wr => ∃ i1 : Nat, nl ≤ i1 ∧ i1 ≤ n2 ∧ i = .int .i64 (i1 : Int) ∧ wr = w23) (fun i _ => n2 - (intOf i).toNat)
                  case atStart => exact ⟨nl, Nat.le_refl _, HNLE.out, rfl, rfl⟩
                  case round =>
                    obtain ⟨i1, hi0, hi1, rfl, rfl⟩ := hrel
                    by_cases hlt : i1 < n2
                    · obtain ⟨bz, oz, hPe, hbz, hcz⟩ := R223.out.1 (by rw [HN2_.out]; omega)
                      subst hPe
                      have hcell := hcz i1 0 (HZR.out i1 hi0 hlt)
                      have h150 := HNN.out.2
                      clear hcz hbz
                      go_wp2_with fail
                      go_roundw
                      case rel => exact ⟨i1 + 1, by omega, by omega, by go_num, by first | trivial | rfl⟩
                      case measure => simp [intOf]; omega
                    · go_wp2_with fail
                      go_ret
                      exact ⟨rfl, HB23.out⟩
                · have hj2 : ¬ (nl : Int) < (j : Int) := by omega
                  have HN2E : Hid (n2 = nl) := by show _ = _; have := HNN.out.1; omega
                  have hj3 : ((n2 : Int) == (nl : Int)) = true := beq_iff_eq.2 (by have := HN2E.out; omega)
                  have hj4 : ((n2 : Int) != (nl : Int)) = false := by rw [bne, hj3]; rfl
                  clear hmx hjn
                  go_wp2_with fail
                  refine (rintsE (x := l) (y := l) (r := true) (decide_eq_true rfl) HNL.out HNL.out P2 Pz p2 pz _ (by rw [← HTK.out]; exact IntsR.take16 R221.out.1 nl) RZ21.out.1 (by have := HNN.out; have := HNLE.out; omega)).mono ?_
                  rintro e w22 ⟨rfl, hb⟩
                  have HB22 := hid (then_w HB21.out hb)
                  have X22 := hid (X21.out.later hb)
                  have U22 := hid (U21.out.later hb)
                  have RP22 := hid (RP21.out.below hb)
                  have RQ22 := hid (RQ21.out.below hb)
                  have RZ22 := hid (RZ21.out.below hb)
                  have R222 := hid (R221.out.below hb)
                  clear hb
                  clear HB21 X21 U21 RP21 RQ21 RZ21 R221
                  clear hj2 hj3 hj4 hcn hnn
                  have u_0 := U22.out.cell 0
                  have u_1 := U22.out.cell 1
                  simp only [List.getElem?_toArray, List.getElem?_cons_zero, List.getElem?_cons_succ] at u_0 u_1
                  go_wp2_with fail
                  refine (pcheckE HCU.out rfl rfl P Q p q _ RP22.out.1 RQ22.out.1 NPQ.out.1 NPQ.out.2.1 (Nat.le_trans HULN.out (by decide))).mono ?_
                  rintro e w23 ⟨rfl, hb⟩
                  clear u_0 u_1
                  have HB23 := hid (then_w HB22.out hb)
                  have X23 := hid (X22.out.later hb)
                  have U23 := hid (U22.out.later hb)
                  have RP23 := hid (RP22.out.below hb)
                  have RQ23 := hid (RQ22.out.below hb)
                  have RZ23 := hid (RZ22.out.below hb)
                  have R223 := hid (R222.out.below hb)
                  clear hb
                  clear HB22 X22 U22 RP22 RQ22 RZ22 R222
                  go_wp2_with fail
                  go_loopw [12] (fun i wr => ∃ i1 : Nat, nl ≤ i1 ∧ i1 ≤ n2 ∧ i = .int .i64 (i1 : Int) ∧ wr = w23) (fun i _ => n2 - (intOf i).toNat)
                  case atStart => exact ⟨nl, Nat.le_refl _, HNLE.out, rfl, rfl⟩
                  case round =>
                    obtain ⟨i1, hi0, hi1, rfl, rfl⟩ := hrel
                    by_cases hlt : i1 < n2
                    · obtain ⟨bz, oz, hPe, hbz, hcz⟩ := R223.out.1 (by rw [HN2_.out]; omega)
                      subst hPe
                      have hcell := hcz i1 0 (HZR.out i1 hi0 hlt)
                      have h150 := HNN.out.2
                      clear hcz hbz
                      go_wp2_with fail
                      go_roundw
                      case rel => exact ⟨i1 + 1, by omega, by omega, by go_num, by first | trivial | rfl⟩
                      case measure => simp [intOf]; omega
                    · go_wp2_with fail
                      go_ret
                      exact ⟨rfl, HB23.out⟩
        · have h2 : (50 : Int) < k := by omega
          clear h1
          have x0 := X2.out.cell 0
          have x1 := X2.out.cell 1
          simp only [List.getElem?_toArray, List.getElem?_cons_zero, List.getElem?_cons_succ] at x0 x1
          go_wp2_with fail
          refine (fixed16_any _).mono ?_
          rintro e w3 ⟨rfl, hb⟩
          clear x0 x1
          have HB3 := hid (then_w HB2.out hb)
          have X3 := hid (X2.out.later hb)
          have RA3 := hid (RA2.out.below hb)
          have RB3 := hid (RB2.out.below hb)
          clear hb
          clear HB2 X2 RA2 RB2
          go_wp2_with fail
          go_ret
          exact ⟨rfl, HB3.out⟩
    · have hg2 : (100 : Int) < (t.log.length : Int) + (t.rest.length : Int) := by omega
      clear hg
      have x0 := X2.out.cell 0
      have x1 := X2.out.cell 1
      simp only [List.getElem?_toArray, List.getElem?_cons_zero, List.getElem?_cons_succ] at x0 x1
      go_wp2_with fail
      refine (fixed16_any _).mono ?_
      rintro e w3 ⟨rfl, hb⟩
      clear x0 x1
      have HB3 := hid (then_w HB2.out hb)
      have X3 := hid (X2.out.later hb)
      have RA3 := hid (RA2.out.below hb)
      have RB3 := hid (RB2.out.below hb)
      clear hb
      clear HB2 X2 RA2 RB2
      go_wp2_with fail
      go_ret
      exact ⟨rfl, HB3.out⟩
end Go.Proofs.Ytimmoaomhilaeaa
