/- The document's Same walked: it pairs what must be paired. -/
import Derived.Test.YtnilempeldlieaaGreatWPF
import Derived.Test.YtnilempeldlieaaGreatWPL
import Derived.Test.YtnilempeldlieaaGreatM14
import Derived.Test.YtnilempeldlieaaGreatWNL
namespace Go.Proofs.YtnilempeldlieaaGreat
open Go.RowKit
set_option maxRecDepth 100000
section
variable {a b : Hp} {p q : List Int} {s s1 : Pr}
theorem prR_none {k n : Nat} (h : prR a b (k + 1) s = none) (hn : k + 1 ≤ n) : prR a b n s = none := by
  induction n with
  | zero => omega
  | succ m ih =>
    by_cases g : m = k
    · rw [g]; exact h
    · show (prR a b m s).bind _ = _
      rw [ih (by omega)]; rfl
theorem prR_at {k : Nat} (h : prR a b k s = some s1) : prR a b (k + 1) s = prF a b a.objs.length s1 := by
  show (prR a b k s).bind _ = _
  rw [h]; rfl
theorem not_same (h : prS a p b q = none) : saB a p b q = false := saB_no fun g => by
  obtain ⟨_, _, s, e⟩ := same_pairs.1 g
  rw [h] at e; cases e
theorem prS_len (h : p.length ≠ q.length) : prS a p b q = none := by unfold prS; rw [if_neg h]
theorem prS_take {i : Nat} (hl : p.length = q.length) (h : prL a b (pr0 a b) (p.take i) (q.take i) = none) : prS a p b q = none := by
  unfold prS; rw [if_pos hl, prL_none hl h]; rfl
theorem prS_rest (hl : p.length = q.length) (h : prL a b (pr0 a b) p q = some s) : prS a p b q = prR a b (a.objs.length + 1) s := by
  unfold prS; rw [if_pos hl, h]; rfl
end
theorem none_off {w : World} {x y : Nat} {S A : Option Addr} {n m c d : Nat} {xs ys : List Value} (h1 : w.ownsRow x 3 1 (.slice S n c) n xs) (h2 : w.ownsRow y 3 1 (.slice A m d) m ys) (u : World) (hu : u.ownsRow x 3 1 (.slice S n c) n xs) (hy : u.heap.size ≤ y) : Off S A := fun a b ha hb => by
  subst ha hb
  have e1 := (hu.lt a.block rfl).2
  have e2 := (h2.lt b.block rfl).1
  have _ := h1
  omega
set_option maxHeartbeats 2000000 in
theorem rsame6_any (a b : Hp) (p q : List Int) (A B P Q : Option Addr) (c d dp dq : Nat) (w : World) (hsa : ObsR w A a.objs) (fa : a.Fit) (hp : IntsR w P p) (hpl : p.length ≤ 100000) (hsb : ObsR w B b.objs) (fb : b.Fit) (hq : IntsR w Q q) (hql : q.length ≤ 100000) :
    Calls Tryz.prog 33 #[.agg #[.slice A a.objs.length c, .int .i64 a.cap, .int .i64 a.last], .slice P p.length dp, .agg #[.slice B b.objs.length d, .int .i64 b.cap, .int .i64 b.last], .slice Q q.length dq] w fun e w' => e = .returned (.bool (saB a p b q)) ∧ Below w.heap.size w w' := by
  have HB0 := hid (below_alloc2 w (.cells #[Value.slice A a.objs.length c, Value.int .i64 a.cap, Value.int .i64 a.last] 24) (.cells #[Value.slice B b.objs.length d, Value.int .i64 b.cap, Value.int .i64 b.last] 24))
  have X0 := hid ((Lies.new w 24 #[Value.slice A a.objs.length c, Value.int .i64 a.cap, Value.int .i64 a.last]).alloc (.cells #[Value.slice B b.objs.length d, Value.int .i64 b.cap, Value.int .i64 b.last] 24))
  have Y0 : Hid (Lies ((w.alloc (.cells #[Value.slice A a.objs.length c, Value.int .i64 a.cap, Value.int .i64 a.last] 24)).alloc (.cells #[Value.slice B b.objs.length d, Value.int .i64 b.cap, Value.int .i64 b.last] 24)) (w.heap.size + 1) 24 #[Value.slice B b.objs.length d, Value.int .i64 b.cap, Value.int .i64 b.last]) := by
    have := Lies.new (w.alloc (.cells #[Value.slice A a.objs.length c, Value.int .i64 a.cap, Value.int .i64 a.last] 24)) 24 #[Value.slice B b.objs.length d, Value.int .i64 b.cap, Value.int .i64 b.last]
    simpa [Hid] using this
  have HSA := hid hsa
  have HFA0 := hid fa
  have HP := hid hp
  have HSB0 := hid hsb
  have HFB0 := hid fb
  have HQ := hid hq
  clear hsa fa hp hsb fb hq
  obtain ⟨sb, hsb⟩ : ∃ sb, sb = saB a p b q := ⟨_, rfl⟩
  rw [← hsb]
  have HSB := hid hsb
  obtain ⟨ea, hea⟩ : ∃ ea, ea = liE a p := ⟨_, rfl⟩
  obtain ⟨eb, heb⟩ : ∃ eb, eb = liE b q := ⟨_, rfl⟩
  have HEA := hid hea
  have HEB := hid heb
  clear hsb hea heb
  go_enter Tryz.func33, Tryz.ntmps33
  go_wp2_with fail
  refine (rlive_any a p A P c dp _ (HSA.out.below HB0.out) HFA0.out (HP.out.below HB0.out) (by omega)).mono ?_
  rintro e w1 ⟨A1, c1, rfl, -, -, -, hb1⟩
  rw [← HEA.out]
  have HB1 := hid (HB0.out.trans (hb1.mono HB0.out.size))
  have X1 := hid (X0.out.later hb1)
  have Y1 := hid (Y0.out.later hb1)
  clear hb1 X0 Y0 HB0
  have x0 := X1.out.cell 0
  have x1 := X1.out.cell 1
  have x2 := X1.out.cell 2
  simp only [List.getElem?_toArray, List.getElem?_cons_zero, List.getElem?_cons_succ] at x0 x1 x2
  have y0 := Y1.out.cell 0
  have y1 := Y1.out.cell 1
  have y2 := Y1.out.cell 2
  simp only [List.getElem?_toArray, List.getElem?_cons_zero, List.getElem?_cons_succ] at y0 y1 y2
  go_wp2_with fail
  refine (rlive_any b q B Q d dq _ (HSB0.out.below HB1.out) HFB0.out (HQ.out.below HB1.out) (by omega)).mono ?_
  rintro e w2 ⟨A2, c2, rfl, -, -, -, hb2⟩
  rw [← HEB.out]
  have HB2 := hid (HB1.out.trans (hb2.mono HB1.out.size))
  have X2 := hid (X1.out.later hb2)
  have Y2 := hid (Y1.out.later hb2)
  clear hb2 X1 Y1 HB1 x0 x1 x2 y0 y1 y2
  by_cases ha : ea = 0
  · have ta : (ea != 0) = false := by simp [ha]
    by_cases hb : eb = 0
    · have tb : (eb != 0) = false := by simp [hb]
      have HHA : Hid (liE a p = 0) := by show _ = _; rw [← HEA.out]; exact ha
      have HHB : Hid (liE b q = 0) := by show _ = _; rw [← HEB.out]; exact hb
      clear ha hb
      by_cases hlm : p.length = q.length
      · have tc : ((p.length : Int) != (q.length : Int)) = false := by simp [hlm]
        have HLM := hid hlm
        have hlm1 := Nat.le_of_eq hlm
        have hlm2 := Nat.le_of_eq hlm.symm
        have hmA := (li_ok HHA.out).1
        have hmB := (li_ok HHB.out).1
        have HMA := hid hmA
        have HMB := hid hmB
        have ha256 := may_len hmA
        have hb256 := may_len hmB
        have x0 := X2.out.cell 0
        have y0 := Y2.out.cell 0
        simp only [List.getElem?_toArray, List.getElem?_cons_zero] at x0 y0
        have hy2 := Y2.out.lt
        clear hlm hmA hmB
        go_wp2_with fail
        clear tc
        refine wp_region_held_drew (S := (fun w' => w'.cell? ⟨w.heap.size, 0, none⟩ = some (.slice A a.objs.length c) ∧ w'.cell? ⟨w.heap.size + 1, 0, none⟩ = some (.slice B b.objs.length d))) (by kernel_rfl) ?_ (fun hH0 => ?_)
        · exact ⟨x0, y0⟩
        refine wpAnyH_take (i := 0) (oi := { dst := some 41, op := Go.Op.fieldAddr 24 (Go.Operand.tmp 4) 0, type := 0, pos := "ref.go:127", after := #[], guard := none }) (v := ?vv1) rfl (by kernel_rfl) (by kernel_rfl) (by kernel_rfl) (fun _ _ _ h => h) (Or.inl ⟨by rfl, ?hy1⟩) (by assumption) ?rr1
        case hy1 => intro w hSw; (try dsimp only at hSw); go_simp; all_goals with_reducible rfl
        try simp only [Act.put, List.setIfInBounds_toArray, List.set_cons_zero, List.set_cons_succ]
        refine wpAnyH_take (i := 1) (oi := { dst := some 42, op := Go.Op.load 22 (Go.Operand.tmp 41), type := 22, pos := "ref.go:127", after := #[{ on := 0, ground := Go.Ground.data }], guard := none }) (v := ?vv2) rfl (by kernel_rfl) (by kernel_rfl) (by kernel_rfl) (fun _ _ _ h => h) (Or.inl ⟨by rfl, ?hy2⟩) (by assumption) ?rr2
        case hy2 => intro w hSw; (try dsimp only at hSw); go_simp; all_goals with_reducible rfl
        try simp only [Act.put, List.setIfInBounds_toArray, List.set_cons_zero, List.set_cons_succ]
        refine wpAnyH_take (i := 2) (oi := { dst := some 43, op := Go.Op.call { callee := Go.Callee.builtin Go.Builtin.len, args := #[Go.Operand.tmp 42], argTypes := #[22] }, type := 3, pos := "ref.go:127", after := #[{ on := 1, ground := Go.Ground.data }], guard := none }) (v := ?vv3) rfl (by kernel_rfl) (by kernel_rfl) (by kernel_rfl) (fun _ _ _ h => h) (Or.inl ⟨by rfl, ?hy3⟩) (by assumption) ?rr3
        case hy3 => intro w hSw; (try dsimp only at hSw); go_simp; all_goals with_reducible rfl
        try simp only [Act.put, List.setIfInBounds_toArray, List.set_cons_zero, List.set_cons_succ]
        refine wpAnyH_take (i := 4) (oi := { dst := some 45, op := Go.Op.fieldAddr 24 (Go.Operand.tmp 6) 0, type := 0, pos := "ref.go:127", after := #[], guard := none }) (v := ?vv4) rfl (by kernel_rfl) (by kernel_rfl) (by kernel_rfl) (fun _ _ _ h => h) (Or.inl ⟨by rfl, ?hy4⟩) (by assumption) ?rr4
        case hy4 => intro w hSw; (try dsimp only at hSw); go_simp; all_goals with_reducible rfl
        try simp only [Act.put, List.setIfInBounds_toArray, List.set_cons_zero, List.set_cons_succ]
        refine wpAnyH_take (i := 5) (oi := { dst := some 46, op := Go.Op.load 22 (Go.Operand.tmp 45), type := 22, pos := "ref.go:127", after := #[{ on := 4, ground := Go.Ground.data }], guard := none }) (v := ?vv5) rfl (by kernel_rfl) (by kernel_rfl) (by kernel_rfl) (fun _ _ _ h => h) (Or.inl ⟨by rfl, ?hy5⟩) (by assumption) ?rr5
        case hy5 => intro w hSw; (try dsimp only at hSw); go_simp; all_goals with_reducible rfl
        try simp only [Act.put, List.setIfInBounds_toArray, List.set_cons_zero, List.set_cons_succ]
        refine wpAnyH_take (i := 6) (oi := { dst := some 47, op := Go.Op.call { callee := Go.Callee.builtin Go.Builtin.len, args := #[Go.Operand.tmp 46], argTypes := #[22] }, type := 3, pos := "ref.go:127", after := #[{ on := 5, ground := Go.Ground.data }], guard := none }) (v := ?vv6) rfl (by kernel_rfl) (by kernel_rfl) (by kernel_rfl) (fun _ _ _ h => h) (Or.inl ⟨by rfl, ?hy6⟩) (by assumption) ?rr6
        case hy6 => intro w hSw; (try dsimp only at hSw); go_simp; all_goals with_reducible rfl
        try simp only [Act.put, List.setIfInBounds_toArray, List.set_cons_zero, List.set_cons_succ]
        refine wpAnyH_ready (rs := [3]) (by kernel_rfl) (by simp) ?_
        refine AllReadyH.cons (i := 3) (o := { dst := some 44, op := Go.Op.call { callee := Go.Callee.value (Go.Operand.func 61), args := #[Go.Operand.tmp 43], argTypes := #[3] }, type := 34, pos := "ref.go:127", after := #[{ on := 2, ground := Go.Ground.data }], guard := none }) rfl (fun K hK => ?_) AllReadyH.nil
        go_simp
        go_at_call 61
        refine (none_any a.objs.length ha256 _).mono ?_
        rintro e w3 ⟨AT, cT, rfl, hoT, hb⟩
        have hb3 : Below w2.heap.size w2 w3 := then_b (Below.refl _ w2).drew hb
        refine hK.out _ _ ?_ (fun hH1 => ?_)
        · exact ⟨cell_later hb hH0.1, cell_later hb hH0.2⟩
        clear hK K
        try simp only [Act.put, List.setIfInBounds_toArray, List.set_cons_zero, List.set_cons_succ]
        clear hb
        refine wpAnyH_ready (rs := [7]) (by kernel_rfl) (by simp) ?_
        refine AllReadyH.cons (i := 7) (o := { dst := some 48, op := Go.Op.call { callee := Go.Callee.value (Go.Operand.func 61), args := #[Go.Operand.tmp 47], argTypes := #[3] }, type := 34, pos := "ref.go:127", after := #[{ on := 6, ground := Go.Ground.data }, { on := 3, ground := Go.Ground.chain }], guard := none }) rfl (fun K hK => ?_) AllReadyH.nil
        go_simp
        go_at_call 61
        refine (none_any b.objs.length hb256 _).mono ?_
        rintro e w4 ⟨AF, cF, rfl, hoF, hb⟩
        have hbE : Below w2.heap.size w2 w4 := then_b hb3 hb
        have hoT' := own_later hoT hb
        refine hK.out _ _ ?_ (fun hH2 => ?_)
        · exact ⟨cell_later hb hH1.1, cell_later hb hH1.2⟩
        clear hK K
        try simp only [Act.put, List.setIfInBounds_toArray, List.set_cons_zero, List.set_cons_succ]
        refine wpAnyH_take (i := 8) (oi := { dst := some 49, op := Go.Op.build 81 #[(0, Go.Operand.tmp 44), (1, Go.Operand.tmp 48)], type := 81, pos := "ref.go:127", after := #[{ on := 3, ground := Go.Ground.data }, { on := 7, ground := Go.Ground.data }], guard := none }) (v := ?vv7) rfl (by kernel_rfl) (by kernel_rfl) (by kernel_rfl) (fun _ _ _ h => h) (Or.inl ⟨by rfl, ?hy7⟩) (by assumption) ?rr7
        case hy7 => intro w hSw; (try dsimp only at hSw); go_simp; all_goals with_reducible rfl
        try simp only [Act.put, List.setIfInBounds_toArray, List.set_cons_zero, List.set_cons_succ]
        refine wpAnyH_ready (rs := [9]) (by kernel_rfl) (by simp) ?_
        refine AllReadyH.cons (i := 9) (o := { dst := some 50, op := Go.Op.box 81 (Go.Operand.tmp 49), type := 78, pos := "ref.go:127", after := #[{ on := 8, ground := Go.Ground.data }], guard := none }) rfl (fun K hK => ?_) AllReadyH.nil
        go_simp
        refine hK.out _ _ ?_ (fun hH3 => ?_)
        · exact ⟨cell_old hH2.1, cell_old hH2.2⟩
        clear hK K
        try simp only [Act.put, List.setIfInBounds_toArray, List.set_cons_zero, List.set_cons_succ]
        refine wpAnyH_take (i := 10) (oi := { dst := some 13, op := Go.Op.assign (Go.Operand.tmp 50), type := 78, pos := "ref.go:127", after := #[{ on := 9, ground := Go.Ground.data }, { on := 7, ground := Go.Ground.chain }, { on := 0, ground := Go.Ground.phase }, { on := 1, ground := Go.Ground.phase }, { on := 2, ground := Go.Ground.phase }, { on := 3, ground := Go.Ground.phase }, { on := 4, ground := Go.Ground.phase }, { on := 5, ground := Go.Ground.phase }, { on := 6, ground := Go.Ground.phase }, { on := 7, ground := Go.Ground.phase }, { on := 8, ground := Go.Ground.phase }, { on := 9, ground := Go.Ground.phase }], guard := none }) (v := ?vv8) rfl (by kernel_rfl) (by kernel_rfl) (by kernel_rfl) (fun _ _ _ h => h) (Or.inl ⟨by rfl, ?hy8⟩) (by assumption) ?rr8
        case hy8 => intro w hSw; (try dsimp only at hSw); go_simp; all_goals with_reducible rfl
        try simp only [Act.put, List.setIfInBounds_toArray, List.set_cons_zero, List.set_cons_succ]
        refine wpAnyH_done (by kernel_rfl) ?_ _
        have hoff : Off AT AF := none_off hoT' hoF w3 hoT (Nat.le_refl _)
        have hoT := hoT'
        have hoF := own_lower (base' := w2.heap.size) hoF hb3.size
        clear hoT' hb hb3
        obtain ⟨pb, hpb⟩ : ∃ n, n = w4.heap.size := ⟨_, rfl⟩
        obtain ⟨W, hW⟩ : ∃ W, W = w4.alloc (.cells #[.slice AT (nones a.objs.length).length cT, .slice AF (nones b.objs.length).length cF] 81) := ⟨_, rfl⟩
        have hBW : Below w2.heap.size w2 W := by rw [hW]; exact hbE.trans ((below_alloc _ _).mono hbE.size)
        have hPW : PrW W w2.heap.size pb AT AF cT cF (pr0 a b) := by
          rw [hW, hpb]
          exact ⟨Lies.new w4 81 _, hoT.alloc _, hoF.alloc _, hoff⟩
        rw [← hW, ← hpb]
        have HPW := hid hPW
        have HBW := hid hBW
        have HOFF := hid hoff
        have HUT : Hid (∀ ad, AT = some ad → w2.heap.size ≤ ad.block) := fun ad e => by subst e; exact (hoT.lt ad.block rfl).1
        have HUF : Hid (∀ ad, AF = some ad → w2.heap.size ≤ ad.block) := fun ad e => by subst e; exact (hoF.lt ad.block rfl).1
        have HNT : Hid ((∀ ad, AT = some ad → w.heap.size ≠ ad.block) ∧ (∀ ad, AT = some ad → w.heap.size + 1 ≠ ad.block)) := ⟨fun ad e => by have := HUT.out ad e; omega, fun ad e => by have := HUT.out ad e; omega⟩
        have HNF : Hid ((∀ ad, AF = some ad → w.heap.size ≠ ad.block) ∧ (∀ ad, AF = some ad → w.heap.size + 1 ≠ ad.block)) := ⟨fun ad e => by have := HUF.out ad e; omega, fun ad e => by have := HUF.out ad e; omega⟩
        have HBZ := hid (HB2.out.trans (hBW.mono HB2.out.size))
        have XW := hid (X2.out.later hBW)
        have YW := hid (Y2.out.later hBW)
        clear hW hpb hBW hPW hoff hoT hoF hbE x0 y0
        go_wp2_with fail
        go_loopw [14] (fun v wr => ∃ (i : Nat) (s1 : Pr), i ≤ p.length ∧ v = .int .i64 i ∧ prL a b (pr0 a b) (p.take i) (q.take i) = some s1 ∧ Good a b s1 ∧ PrW wr w2.heap.size pb AT AF cT cF s1 ∧ Below w.heap.size w wr ∧ Lies wr w.heap.size 24 #[Value.slice A a.objs.length c, Value.int .i64 a.cap, Value.int .i64 a.last] ∧ Lies wr (w.heap.size + 1) 24 #[Value.slice B b.objs.length d, Value.int .i64 b.cap, Value.int .i64 b.last]) (fun v _ => p.length - (intOf v).toNat)
        case atStart => exact ⟨0, pr0 a b, Nat.zero_le _, rfl, rfl, pr0_good a b, HPW.out, HBZ.out, XW.out, YW.out⟩
        case round =>
          clear HPW HBW HBZ XW YW
          obtain ⟨i, s1, hi, rfl, hpl, hg1, hp1, hbz, hxa, hya⟩ := hrel
          rename World => wi
          have HPL := hid hpl
          have HG1 := hid hg1
          have HP1 := hid hp1
          have HBZ := hid hbz
          have HXA := hid hxa
          have HYA := hid hya
          clear hpl hg1 hp1 hbz hxa hya
          have x0 := HXA.out.cell 0
          have x1 := HXA.out.cell 1
          have x2 := HXA.out.cell 2
          simp only [List.getElem?_toArray, List.getElem?_cons_zero, List.getElem?_cons_succ] at x0 x1 x2
          have y0 := HYA.out.cell 0
          have y1 := HYA.out.cell 1
          have y2 := HYA.out.cell 2
          simp only [List.getElem?_toArray, List.getElem?_cons_zero, List.getElem?_cons_succ] at y0 y1 y2
          by_cases hlt : i < p.length
          · have hlt2 : i < q.length := by omega
            obtain ⟨bs, os, rfl, hbs, hcs⟩ := HP.out (by omega)
            obtain ⟨bt, ot, rfl, hbt, hct⟩ := HQ.out (by omega)
            have sc := (HBZ.out.cell (p := ⟨bs, os + i, none⟩) hbs).trans (hcs i _ (List.getElem?_eq_getElem hlt))
            have uc := (HBZ.out.cell (p := ⟨bt, ot + i, none⟩) hbt).trans (hct i _ (List.getElem?_eq_getElem hlt2))
            have htk := prL_take (a := a) (b := b) (s := pr0 a b) HLM.out hlt
            obtain ⟨v, hv⟩ : ∃ v, v = p[i] := ⟨_, rfl⟩
            obtain ⟨u, hu⟩ : ∃ u, u = q[i] := ⟨_, rfl⟩
            rw [← hv] at sc htk
            rw [← hu] at uc htk
            rw [HPL.out] at htk
            have HTK3 : Hid (prL a b (pr0 a b) (p.take (i + 1)) (q.take (i + 1)) = prV a b s1 v u) := htk
            have hw2 : w.heap.size ≤ w2.heap.size := HB2.out.size
            have n0 : ∀ ad, AT = some ad → bs ≠ ad.block := fun ad e => by have := HUT.out ad e; omega
            have n1 : ∀ ad, AF = some ad → bs ≠ ad.block := fun ad e => by have := HUF.out ad e; omega
            have n2 : ∀ ad, AT = some ad → bt ≠ ad.block := fun ad e => by have := HUT.out ad e; omega
            have n3 : ∀ ad, AF = some ad → bt ≠ ad.block := fun ad e => by have := HUF.out ad e; omega
            have N0 := hid n0
            have N1 := hid n1
            have N2 := hid n2
            have N3 := hid n3
            clear hcs hct htk hv hu n0 n1 n2 n3
            cases hpv : prV a b s1 v u
            · have HFA : Hid (sb = false) := by
                show _ = _
                rw [HSB.out]
                exact not_same (prS_take (i := i + 1) HLM.out (by rw [HTK3.out]; exact hpv))
              go_wp2_with fail
              refine wp_region_held_drew (S := (fun w' => w'.cell? ⟨w.heap.size, 0, none⟩ = some (.slice A a.objs.length c) ∧ w'.cell? ⟨w.heap.size, 1, none⟩ = some (.int .i64 a.cap) ∧ w'.cell? ⟨w.heap.size, 2, none⟩ = some (.int .i64 a.last) ∧ w'.cell? ⟨w.heap.size + 1, 0, none⟩ = some (.slice B b.objs.length d) ∧ w'.cell? ⟨w.heap.size + 1, 1, none⟩ = some (.int .i64 b.cap) ∧ w'.cell? ⟨w.heap.size + 1, 2, none⟩ = some (.int .i64 b.last) ∧ w'.cell? ⟨bs, os + i, none⟩ = some (.int .i64 v) ∧ w'.cell? ⟨bt, ot + i, none⟩ = some (.int .i64 u))) (by kernel_rfl) ?_ (fun hH0 => ?_)
              · exact ⟨x0, x1, x2, y0, y1, y2, sc, uc⟩
              refine wpAnyH_take (i := 0) (oi := { dst := some 57, op := Go.Op.move (Go.Operand.tmp 13), type := 78, pos := "ref.go:129", after := #[], guard := none }) (v := ?vv9) rfl (by kernel_rfl) (by kernel_rfl) (by kernel_rfl) (fun _ _ _ h => h) (Or.inl ⟨by rfl, ?hy9⟩) (by assumption) ?rr9
              case hy9 => intro w hSw; (try dsimp only at hSw); go_simp; all_goals with_reducible rfl
              try simp only [Act.put, List.setIfInBounds_toArray, List.set_cons_zero, List.set_cons_succ]
              refine wpAnyH_take (i := 1) (oi := { dst := some 58, op := Go.Op.load 24 (Go.Operand.tmp 4), type := 24, pos := "ref.go:129", after := #[], guard := none }) (v := ?vv10) rfl (by kernel_rfl) (by kernel_rfl) (by kernel_rfl) (fun _ _ _ h => h) (Or.inl ⟨by rfl, ?hy10⟩) (by assumption) ?rr10
              case hy10 => intro w hSw; (try dsimp only at hSw); go_simp; all_goals with_reducible rfl
              try simp only [Act.put, List.setIfInBounds_toArray, List.set_cons_zero, List.set_cons_succ]
              refine wpAnyH_take (i := 2) (oi := { dst := some 59, op := Go.Op.load 24 (Go.Operand.tmp 6), type := 24, pos := "ref.go:129", after := #[], guard := none }) (v := ?vv11) rfl (by kernel_rfl) (by kernel_rfl) (by kernel_rfl) (fun _ _ _ h => h) (Or.inl ⟨by rfl, ?hy11⟩) (by assumption) ?rr11
              case hy11 => intro w hSw; (try dsimp only at hSw); go_simp; all_goals with_reducible rfl
              try simp only [Act.put, List.setIfInBounds_toArray, List.set_cons_zero, List.set_cons_succ]
              refine wpAnyH_take (i := 3) (oi := { dst := some 60, op := Go.Op.move (Go.Operand.tmp 1), type := 34, pos := "ref.go:129", after := #[], guard := none }) (v := ?vv12) rfl (by kernel_rfl) (by kernel_rfl) (by kernel_rfl) (fun _ _ _ h => h) (Or.inl ⟨by rfl, ?hy12⟩) (by assumption) ?rr12
              case hy12 => intro w hSw; (try dsimp only at hSw); go_simp; all_goals with_reducible rfl
              try simp only [Act.put, List.setIfInBounds_toArray, List.set_cons_zero, List.set_cons_succ]
              refine wpAnyH_take (i := 4) (oi := { dst := some 61, op := Go.Op.move (Go.Operand.tmp 14), type := 3, pos := "ref.go:129", after := #[], guard := none }) (v := ?vv13) rfl (by kernel_rfl) (by kernel_rfl) (by kernel_rfl) (fun _ _ _ h => h) (Or.inl ⟨by rfl, ?hy13⟩) (by assumption) ?rr13
              case hy13 => intro w hSw; (try dsimp only at hSw); go_simp; all_goals with_reducible rfl
              try simp only [Act.put, List.setIfInBounds_toArray, List.set_cons_zero, List.set_cons_succ]
              refine wpAnyH_take (i := 5) (oi := { dst := some 62, op := Go.Op.indexAddr 34 (Go.Operand.tmp 60) (Go.Operand.tmp 61), type := 0, pos := "ref.go:129", after := #[{ on := 3, ground := Go.Ground.data }, { on := 4, ground := Go.Ground.data }], guard := none }) (v := ?vv14) rfl (by kernel_rfl) (by kernel_rfl) (by kernel_rfl) (fun _ _ _ h => h) (Or.inl ⟨by rfl, ?hy14⟩) (by assumption) ?rr14
              case hy14 => intro w hSw; (try dsimp only at hSw); go_simp; all_goals with_reducible rfl
              try simp only [Act.put, List.setIfInBounds_toArray, List.set_cons_zero, List.set_cons_succ]
              refine wpAnyH_take (i := 6) (oi := { dst := some 63, op := Go.Op.load 3 (Go.Operand.tmp 62), type := 3, pos := "ref.go:129", after := #[{ on := 5, ground := Go.Ground.data }], guard := none }) (v := ?vv15) rfl (by kernel_rfl) (by kernel_rfl) (by kernel_rfl) (fun _ _ _ h => h) (Or.inl ⟨by rfl, ?hy15⟩) (by assumption) ?rr15
              case hy15 => intro w hSw; (try dsimp only at hSw); go_simp; all_goals with_reducible rfl
              try simp only [Act.put, List.setIfInBounds_toArray, List.set_cons_zero, List.set_cons_succ]
              refine wpAnyH_take (i := 7) (oi := { dst := some 64, op := Go.Op.move (Go.Operand.tmp 3), type := 34, pos := "ref.go:129", after := #[], guard := none }) (v := ?vv16) rfl (by kernel_rfl) (by kernel_rfl) (by kernel_rfl) (fun _ _ _ h => h) (Or.inl ⟨by rfl, ?hy16⟩) (by assumption) ?rr16
              case hy16 => intro w hSw; (try dsimp only at hSw); go_simp; all_goals with_reducible rfl
              try simp only [Act.put, List.setIfInBounds_toArray, List.set_cons_zero, List.set_cons_succ]
              refine wpAnyH_take (i := 8) (oi := { dst := some 65, op := Go.Op.move (Go.Operand.tmp 14), type := 3, pos := "ref.go:129", after := #[], guard := none }) (v := ?vv17) rfl (by kernel_rfl) (by kernel_rfl) (by kernel_rfl) (fun _ _ _ h => h) (Or.inl ⟨by rfl, ?hy17⟩) (by assumption) ?rr17
              case hy17 => intro w hSw; (try dsimp only at hSw); go_simp; all_goals with_reducible rfl
              try simp only [Act.put, List.setIfInBounds_toArray, List.set_cons_zero, List.set_cons_succ]
              refine wpAnyH_take (i := 9) (oi := { dst := some 66, op := Go.Op.indexAddr 34 (Go.Operand.tmp 64) (Go.Operand.tmp 65), type := 0, pos := "ref.go:129", after := #[{ on := 7, ground := Go.Ground.data }, { on := 8, ground := Go.Ground.data }], guard := none }) (v := ?vv18) rfl (by kernel_rfl) (by kernel_rfl) (by kernel_rfl) (fun _ _ _ h => h) (Or.inl ⟨by rfl, ?hy18⟩) (by assumption) ?rr18
              case hy18 => intro w hSw; (try dsimp only at hSw); go_simp; all_goals with_reducible rfl
              try simp only [Act.put, List.setIfInBounds_toArray, List.set_cons_zero, List.set_cons_succ]
              refine wpAnyH_take (i := 10) (oi := { dst := some 67, op := Go.Op.load 3 (Go.Operand.tmp 66), type := 3, pos := "ref.go:129", after := #[{ on := 9, ground := Go.Ground.data }], guard := none }) (v := ?vv19) rfl (by kernel_rfl) (by kernel_rfl) (by kernel_rfl) (fun _ _ _ h => h) (Or.inl ⟨by rfl, ?hy19⟩) (by assumption) ?rr19
              case hy19 => intro w hSw; (try dsimp only at hSw); go_simp; all_goals with_reducible rfl
              try simp only [Act.put, List.setIfInBounds_toArray, List.set_cons_zero, List.set_cons_succ]
              refine wpAnyH_ready (rs := [11]) (by kernel_rfl) (by simp) ?_
              refine AllReadyH.cons (i := 11) (o := { dst := some 68, op := Go.Op.call { callee := Go.Callee.value (Go.Operand.func 62), args := #[Go.Operand.tmp 57, Go.Operand.tmp 58, Go.Operand.tmp 59, Go.Operand.tmp 63, Go.Operand.tmp 67], argTypes := #[78, 24, 24, 3, 3] }, type := 4, pos := "ref.go:129", after := #[{ on := 0, ground := Go.Ground.data }, { on := 1, ground := Go.Ground.data }, { on := 2, ground := Go.Ground.data }, { on := 6, ground := Go.Ground.data }, { on := 10, ground := Go.Ground.data }], guard := none }) rfl (fun K hK => ?_) AllReadyH.nil
              go_simp
              go_at_call 62
              refine (pair_any a b s1 v u w2.heap.size pb AT AF A B cT cF c d _ (HP1.out.later (Below.refl _ _).drew) HG1.out ha256 hb256).mono ?_
              rintro e w7 ⟨ht7, hr7⟩
              rw [hpv] at hr7
              rcases hr7 with ⟨_, g, -⟩ | ⟨-, rfl⟩
              · cases g
              have HB8 := hid (HBZ.out.trans (((Turn2.of_below (Below.refl _ wi).drew _ _).trans ht7).below (b := w.heap.size) HBZ.out.size (fun ad e => by have := HUT.out ad e; omega) (fun ad e => by have := HUF.out ad e; omega)))
              refine hK.out _ _ ?_ (fun hH1 => ?_)
              · exact ⟨ht7.cell hH0.1 HNT.out.1 HNF.out.1, ht7.cell hH0.2.1 HNT.out.1 HNF.out.1, ht7.cell hH0.2.2.1 HNT.out.1 HNF.out.1, ht7.cell hH0.2.2.2.1 HNT.out.2 HNF.out.2, ht7.cell hH0.2.2.2.2.1 HNT.out.2 HNF.out.2, ht7.cell hH0.2.2.2.2.2.1 HNT.out.2 HNF.out.2, ht7.cell hH0.2.2.2.2.2.2.1 N0.out N1.out, ht7.cell hH0.2.2.2.2.2.2.2 N2.out N3.out⟩
              clear hK K
              try simp only [Act.put, List.setIfInBounds_toArray, List.set_cons_zero, List.set_cons_succ]
              clear ht7
              refine wpAnyH_take (i := 12) (oi := { dst := some 69, op := Go.Op.unOp Go.UnOp.not 4 (Go.Operand.tmp 68), type := 4, pos := "ref.go:129", after := #[{ on := 11, ground := Go.Ground.data }], guard := none }) (v := ?vv20) rfl (by kernel_rfl) (by kernel_rfl) (by kernel_rfl) (fun _ _ _ h => h) (Or.inl ⟨by rfl, ?hy20⟩) (by assumption) ?rr20
              case hy20 => intro w hSw; (try dsimp only at hSw); go_simp; all_goals with_reducible rfl
              try simp only [Act.put, List.setIfInBounds_toArray, List.set_cons_zero, List.set_cons_succ]
              refine wpAnyH_done (by kernel_rfl) ?_ _
              go_wp2_with fail
              go_ret
              exact ⟨by rw [HFA.out]; rfl, HB8.out⟩
            · rename_i s4
              have HG4 := hid (prV_goes HG1.out hpv).1.good
              have HTK4 : Hid (prL a b (pr0 a b) (p.take (i + 1)) (q.take (i + 1)) = some s4) := by show _ = _; rw [HTK3.out]; exact hpv
              go_wp2_with fail
              refine wp_region_held_drew (S := (fun w' => w'.cell? ⟨w.heap.size, 0, none⟩ = some (.slice A a.objs.length c) ∧ w'.cell? ⟨w.heap.size, 1, none⟩ = some (.int .i64 a.cap) ∧ w'.cell? ⟨w.heap.size, 2, none⟩ = some (.int .i64 a.last) ∧ w'.cell? ⟨w.heap.size + 1, 0, none⟩ = some (.slice B b.objs.length d) ∧ w'.cell? ⟨w.heap.size + 1, 1, none⟩ = some (.int .i64 b.cap) ∧ w'.cell? ⟨w.heap.size + 1, 2, none⟩ = some (.int .i64 b.last) ∧ w'.cell? ⟨bs, os + i, none⟩ = some (.int .i64 v) ∧ w'.cell? ⟨bt, ot + i, none⟩ = some (.int .i64 u))) (by kernel_rfl) ?_ (fun hH0 => ?_)
              · exact ⟨x0, x1, x2, y0, y1, y2, sc, uc⟩
              refine wpAnyH_take (i := 0) (oi := { dst := some 57, op := Go.Op.move (Go.Operand.tmp 13), type := 78, pos := "ref.go:129", after := #[], guard := none }) (v := ?vv21) rfl (by kernel_rfl) (by kernel_rfl) (by kernel_rfl) (fun _ _ _ h => h) (Or.inl ⟨by rfl, ?hy21⟩) (by assumption) ?rr21
              case hy21 => intro w hSw; (try dsimp only at hSw); go_simp; all_goals with_reducible rfl
              try simp only [Act.put, List.setIfInBounds_toArray, List.set_cons_zero, List.set_cons_succ]
              refine wpAnyH_take (i := 1) (oi := { dst := some 58, op := Go.Op.load 24 (Go.Operand.tmp 4), type := 24, pos := "ref.go:129", after := #[], guard := none }) (v := ?vv22) rfl (by kernel_rfl) (by kernel_rfl) (by kernel_rfl) (fun _ _ _ h => h) (Or.inl ⟨by rfl, ?hy22⟩) (by assumption) ?rr22
              case hy22 => intro w hSw; (try dsimp only at hSw); go_simp; all_goals with_reducible rfl
              try simp only [Act.put, List.setIfInBounds_toArray, List.set_cons_zero, List.set_cons_succ]
              refine wpAnyH_take (i := 2) (oi := { dst := some 59, op := Go.Op.load 24 (Go.Operand.tmp 6), type := 24, pos := "ref.go:129", after := #[], guard := none }) (v := ?vv23) rfl (by kernel_rfl) (by kernel_rfl) (by kernel_rfl) (fun _ _ _ h => h) (Or.inl ⟨by rfl, ?hy23⟩) (by assumption) ?rr23
              case hy23 => intro w hSw; (try dsimp only at hSw); go_simp; all_goals with_reducible rfl
              try simp only [Act.put, List.setIfInBounds_toArray, List.set_cons_zero, List.set_cons_succ]
              refine wpAnyH_take (i := 3) (oi := { dst := some 60, op := Go.Op.move (Go.Operand.tmp 1), type := 34, pos := "ref.go:129", after := #[], guard := none }) (v := ?vv24) rfl (by kernel_rfl) (by kernel_rfl) (by kernel_rfl) (fun _ _ _ h => h) (Or.inl ⟨by rfl, ?hy24⟩) (by assumption) ?rr24
              case hy24 => intro w hSw; (try dsimp only at hSw); go_simp; all_goals with_reducible rfl
              try simp only [Act.put, List.setIfInBounds_toArray, List.set_cons_zero, List.set_cons_succ]
              refine wpAnyH_take (i := 4) (oi := { dst := some 61, op := Go.Op.move (Go.Operand.tmp 14), type := 3, pos := "ref.go:129", after := #[], guard := none }) (v := ?vv25) rfl (by kernel_rfl) (by kernel_rfl) (by kernel_rfl) (fun _ _ _ h => h) (Or.inl ⟨by rfl, ?hy25⟩) (by assumption) ?rr25
              case hy25 => intro w hSw; (try dsimp only at hSw); go_simp; all_goals with_reducible rfl
              try simp only [Act.put, List.setIfInBounds_toArray, List.set_cons_zero, List.set_cons_succ]
              refine wpAnyH_take (i := 5) (oi := { dst := some 62, op := Go.Op.indexAddr 34 (Go.Operand.tmp 60) (Go.Operand.tmp 61), type := 0, pos := "ref.go:129", after := #[{ on := 3, ground := Go.Ground.data }, { on := 4, ground := Go.Ground.data }], guard := none }) (v := ?vv26) rfl (by kernel_rfl) (by kernel_rfl) (by kernel_rfl) (fun _ _ _ h => h) (Or.inl ⟨by rfl, ?hy26⟩) (by assumption) ?rr26
              case hy26 => intro w hSw; (try dsimp only at hSw); go_simp; all_goals with_reducible rfl
              try simp only [Act.put, List.setIfInBounds_toArray, List.set_cons_zero, List.set_cons_succ]
              refine wpAnyH_take (i := 6) (oi := { dst := some 63, op := Go.Op.load 3 (Go.Operand.tmp 62), type := 3, pos := "ref.go:129", after := #[{ on := 5, ground := Go.Ground.data }], guard := none }) (v := ?vv27) rfl (by kernel_rfl) (by kernel_rfl) (by kernel_rfl) (fun _ _ _ h => h) (Or.inl ⟨by rfl, ?hy27⟩) (by assumption) ?rr27
              case hy27 => intro w hSw; (try dsimp only at hSw); go_simp; all_goals with_reducible rfl
              try simp only [Act.put, List.setIfInBounds_toArray, List.set_cons_zero, List.set_cons_succ]
              refine wpAnyH_take (i := 7) (oi := { dst := some 64, op := Go.Op.move (Go.Operand.tmp 3), type := 34, pos := "ref.go:129", after := #[], guard := none }) (v := ?vv28) rfl (by kernel_rfl) (by kernel_rfl) (by kernel_rfl) (fun _ _ _ h => h) (Or.inl ⟨by rfl, ?hy28⟩) (by assumption) ?rr28
              case hy28 => intro w hSw; (try dsimp only at hSw); go_simp; all_goals with_reducible rfl
              try simp only [Act.put, List.setIfInBounds_toArray, List.set_cons_zero, List.set_cons_succ]
              refine wpAnyH_take (i := 8) (oi := { dst := some 65, op := Go.Op.move (Go.Operand.tmp 14), type := 3, pos := "ref.go:129", after := #[], guard := none }) (v := ?vv29) rfl (by kernel_rfl) (by kernel_rfl) (by kernel_rfl) (fun _ _ _ h => h) (Or.inl ⟨by rfl, ?hy29⟩) (by assumption) ?rr29
              case hy29 => intro w hSw; (try dsimp only at hSw); go_simp; all_goals with_reducible rfl
              try simp only [Act.put, List.setIfInBounds_toArray, List.set_cons_zero, List.set_cons_succ]
              refine wpAnyH_take (i := 9) (oi := { dst := some 66, op := Go.Op.indexAddr 34 (Go.Operand.tmp 64) (Go.Operand.tmp 65), type := 0, pos := "ref.go:129", after := #[{ on := 7, ground := Go.Ground.data }, { on := 8, ground := Go.Ground.data }], guard := none }) (v := ?vv30) rfl (by kernel_rfl) (by kernel_rfl) (by kernel_rfl) (fun _ _ _ h => h) (Or.inl ⟨by rfl, ?hy30⟩) (by assumption) ?rr30
              case hy30 => intro w hSw; (try dsimp only at hSw); go_simp; all_goals with_reducible rfl
              try simp only [Act.put, List.setIfInBounds_toArray, List.set_cons_zero, List.set_cons_succ]
              refine wpAnyH_take (i := 10) (oi := { dst := some 67, op := Go.Op.load 3 (Go.Operand.tmp 66), type := 3, pos := "ref.go:129", after := #[{ on := 9, ground := Go.Ground.data }], guard := none }) (v := ?vv31) rfl (by kernel_rfl) (by kernel_rfl) (by kernel_rfl) (fun _ _ _ h => h) (Or.inl ⟨by rfl, ?hy31⟩) (by assumption) ?rr31
              case hy31 => intro w hSw; (try dsimp only at hSw); go_simp; all_goals with_reducible rfl
              try simp only [Act.put, List.setIfInBounds_toArray, List.set_cons_zero, List.set_cons_succ]
              refine wpAnyH_ready (rs := [11]) (by kernel_rfl) (by simp) ?_
              refine AllReadyH.cons (i := 11) (o := { dst := some 68, op := Go.Op.call { callee := Go.Callee.value (Go.Operand.func 62), args := #[Go.Operand.tmp 57, Go.Operand.tmp 58, Go.Operand.tmp 59, Go.Operand.tmp 63, Go.Operand.tmp 67], argTypes := #[78, 24, 24, 3, 3] }, type := 4, pos := "ref.go:129", after := #[{ on := 0, ground := Go.Ground.data }, { on := 1, ground := Go.Ground.data }, { on := 2, ground := Go.Ground.data }, { on := 6, ground := Go.Ground.data }, { on := 10, ground := Go.Ground.data }], guard := none }) rfl (fun K hK => ?_) AllReadyH.nil
              go_simp
              go_at_call 62
              refine (pair_any a b s1 v u w2.heap.size pb AT AF A B cT cF c d _ (HP1.out.later (Below.refl _ _).drew) HG1.out ha256 hb256).mono ?_
              rintro e w7 ⟨ht7, hr7⟩
              rw [hpv] at hr7
              rcases hr7 with ⟨_, g, rfl, hp7⟩ | ⟨g, -⟩
              case inr => cases g
              obtain rfl := Option.some.inj g
              have HP8 := hid hp7
              clear hp7 g
              have HB8 := hid (HBZ.out.trans (((Turn2.of_below (Below.refl _ wi).drew _ _).trans ht7).below (b := w.heap.size) HBZ.out.size (fun ad e => by have := HUT.out ad e; omega) (fun ad e => by have := HUF.out ad e; omega)))
              have HXA8 := hid (ht7.lies HXA.out.drew HNT.out.1 HNF.out.1)
              have HYA8 := hid (ht7.lies HYA.out.drew HNT.out.2 HNF.out.2)
              refine hK.out _ _ ?_ (fun hH1 => ?_)
              · exact ⟨ht7.cell hH0.1 HNT.out.1 HNF.out.1, ht7.cell hH0.2.1 HNT.out.1 HNF.out.1, ht7.cell hH0.2.2.1 HNT.out.1 HNF.out.1, ht7.cell hH0.2.2.2.1 HNT.out.2 HNF.out.2, ht7.cell hH0.2.2.2.2.1 HNT.out.2 HNF.out.2, ht7.cell hH0.2.2.2.2.2.1 HNT.out.2 HNF.out.2, ht7.cell hH0.2.2.2.2.2.2.1 N0.out N1.out, ht7.cell hH0.2.2.2.2.2.2.2 N2.out N3.out⟩
              clear hK K
              try simp only [Act.put, List.setIfInBounds_toArray, List.set_cons_zero, List.set_cons_succ]
              clear ht7
              refine wpAnyH_take (i := 12) (oi := { dst := some 69, op := Go.Op.unOp Go.UnOp.not 4 (Go.Operand.tmp 68), type := 4, pos := "ref.go:129", after := #[{ on := 11, ground := Go.Ground.data }], guard := none }) (v := ?vv32) rfl (by kernel_rfl) (by kernel_rfl) (by kernel_rfl) (fun _ _ _ h => h) (Or.inl ⟨by rfl, ?hy32⟩) (by assumption) ?rr32
              case hy32 => intro w hSw; (try dsimp only at hSw); go_simp; all_goals with_reducible rfl
              try simp only [Act.put, List.setIfInBounds_toArray, List.set_cons_zero, List.set_cons_succ]
              refine wpAnyH_done (by kernel_rfl) ?_ _
              go_wp2_with fail
              go_roundw
              case rel => exact ⟨i + 1, s4, by omega, by go_num, HTK4.out, HG4.out, HP8.out, HB8.out, HXA8.out, HYA8.out⟩
              case measure => simp [intOf]; omega
          · have hie : i = p.length := by omega
            have HRS : Hid (prS a p b q = prR a b (a.objs.length + 1) s1) := by
              show _ = _
              refine prS_rest HLM.out ?_
              have := HPL.out
              rw [hie, List.take_length, HLM.out, List.take_length] at this
              exact this
            have hnl : ¬ i < p.length := hlt
            clear hie HPL
            go_wp2_with fail
            go_loopw [15] (fun v wr => ∃ (k : Nat) (s5 : Pr), k ≤ a.objs.length + 1 ∧ v = .int .i64 k ∧ prR a b k s1 = some s5 ∧ Good a b s5 ∧ PrW wr w2.heap.size pb AT AF cT cF s5 ∧ Below w.heap.size w wr ∧ Lies wr w.heap.size 24 #[Value.slice A a.objs.length c, Value.int .i64 a.cap, Value.int .i64 a.last] ∧ Lies wr (w.heap.size + 1) 24 #[Value.slice B b.objs.length d, Value.int .i64 b.cap, Value.int .i64 b.last]) (fun v _ => a.objs.length + 1 - (intOf v).toNat)
            case atStart => exact ⟨0, s1, Nat.zero_le _, rfl, rfl, HG1.out, HP1.out, HBZ.out, HXA.out, HYA.out⟩
            case round =>
              clear HP1 HBZ HXA HYA x0 x1 x2 y0 y1 y2
              obtain ⟨k, s5, hk, rfl, hpr, hg5, hp5, hbz, hxa, hya⟩ := hrel
              rename World => wk
              have HPR := hid hpr
              have HG5 := hid hg5
              have HP5 := hid hp5
              have HBZ := hid hbz
              have HXA := hid hxa
              have HYA := hid hya
              clear hpr hg5 hp5 hbz hxa hya
              have x0 := HXA.out.cell 0
              have x1 := HXA.out.cell 1
              have x2 := HXA.out.cell 2
              simp only [List.getElem?_toArray, List.getElem?_cons_zero, List.getElem?_cons_succ] at x0 x1 x2
              have y0 := HYA.out.cell 0
              have y1 := HYA.out.cell 1
              have y2 := HYA.out.cell 2
              simp only [List.getElem?_toArray, List.getElem?_cons_zero, List.getElem?_cons_succ] at y0 y1 y2
              by_cases hkl : k ≤ a.objs.length
              · have HAT := hid (prR_at HPR.out)
                cases hpf : prF a b a.objs.length s5
                · have HFA : Hid (sb = false) := by
                    show _ = _
                    rw [HSB.out]
                    exact not_same (by rw [HRS.out]; exact prR_none (k := k) (by rw [HAT.out]; exact hpf) (by omega))
                  go_wp2_with fail
                  refine (fits_any a b s5 w2.heap.size pb AT AF A B cT cF c d w wk HBZ.out HB2.out.size HSA.out HSB0.out HMA.out HMB.out HP5.out HG5.out).mono ?_
                  rintro e w8 ⟨ht8, hr8⟩
                  rw [hpf] at hr8
                  rcases hr8 with ⟨_, g, -⟩ | ⟨-, rfl⟩
                  · cases g
                  have HB8 := hid (HBZ.out.trans (ht8.below (b := w.heap.size) HBZ.out.size (fun ad e => by have := HUT.out ad e; have := HB2.out.size; omega) (fun ad e => by have := HUF.out ad e; have := HB2.out.size; omega)))
                  clear ht8
                  go_wp2_with fail
                  go_ret
                  exact ⟨by rw [HFA.out]; rfl, HB8.out⟩
                · rename_i s6
                  have HG6 := hid (prF_goes HG5.out hpf).1.good
                  have HAT2 : Hid (prR a b (k + 1) s1 = some s6) := by show _ = _; rw [HAT.out]; exact hpf
                  go_wp2_with fail
                  refine (fits_any a b s5 w2.heap.size pb AT AF A B cT cF c d w wk HBZ.out HB2.out.size HSA.out HSB0.out HMA.out HMB.out HP5.out HG5.out).mono ?_
                  rintro e w8 ⟨ht8, hr8⟩
                  rw [hpf] at hr8
                  rcases hr8 with ⟨_, g, rfl, hp8⟩ | ⟨g, -⟩
                  case inr => cases g
                  obtain rfl := Option.some.inj g
                  have HB8 := hid (HBZ.out.trans (ht8.below (b := w.heap.size) HBZ.out.size (fun ad e => by have := HUT.out ad e; have := HB2.out.size; omega) (fun ad e => by have := HUF.out ad e; have := HB2.out.size; omega)))
                  have HP8 := hid hp8
                  have HXA8 := hid (ht8.lies HXA.out HNT.out.1 HNF.out.1)
                  have HYA8 := hid (ht8.lies HYA.out HNT.out.2 HNF.out.2)
                  clear ht8 hp8 g hpf
                  go_wp2_with fail
                  go_roundw
                  case rel => exact ⟨k + 1, _, by omega, by go_num, HAT2.out, HG6.out, HP8.out, HB8.out, HXA8.out, HYA8.out⟩
                  case measure => simp [intOf]; omega
              · have hke : k = a.objs.length + 1 := by omega
                have HTR : Hid (sb = true) := by
                  show _ = _
                  rw [HSB.out]
                  exact saB_yes (same_pairs.2 ⟨HHA.out, HHB.out, s5, by rw [HRS.out, ← hke]; exact HPR.out⟩)
                clear hke
                go_wp2_with fail
                go_ret
                exact ⟨by rw [HTR.out]; rfl, HBZ.out⟩
      · have tc : ((p.length : Int) != (q.length : Int)) = true := by simp; omega
        have HFA : Hid (sb = false) := by show _ = _; rw [HSB.out]; exact not_same (prS_len hlm)
        clear hlm
        go_wp2_with fail
        go_ret
        exact ⟨by rw [HFA.out]; rfl, HB2.out⟩
    · have tb : (eb != 0) = true := by simpa using hb
      have HFA : Hid (sb = false) := by
        show _ = _
        rw [HSB.out]
        exact saB_no fun g => hb (by rw [HEB.out]; exact g.2.1)
      clear hb ha
      go_wp2_with fail
      go_ret
      exact ⟨by rw [HFA.out]; rfl, HB2.out⟩
  · have ta : (ea != 0) = true := by simpa using ha
    have HFA : Hid (sb = false) := by
      show _ = _
      rw [HSB.out]
      exact saB_no fun g => ha (by rw [HEA.out]; exact g.1)
    clear ha
    go_wp2_with fail
    go_ret
    exact ⟨by rw [HFA.out]; rfl, HB2.out⟩
end Go.Proofs.YtnilempeldlieaaGreat
