/- TapeTells walked: whatever tape, and place, it answers true. -/
import Derived.Test.YtimmoaomhilaeaaLA16
namespace Go.Proofs.Ytimmoaomhilaeaa
open Go.RowKit
set_option maxRecDepth 100000
set_option maxHeartbeats 4000000 in
theorem ltells_any16 (t : Tp) (A B : Option Addr) (c d : Nat) (k : Int) (w : World) (hA : IntsR w A t.log) (hB : IntsR w B t.rest) (nA : A = none → c = 0) (nB : B = none → d = 0) (lA : t.log.length ≤ c) (lB : t.rest.length ≤ d) (hl1 : t.log.length ≤ 17592186044416) (hl2 : t.rest.length ≤ 17592186044416) :
    Calls Try.prog 3 #[.agg #[.slice A t.log.length c, .slice B t.rest.length d], .int .i64 k] w fun e w' => e = .returned (.bool true) ∧ Below w.heap.size w w' := by
  have LA := hid lA
  have LB := hid lB
  clear lA lB
  obtain ⟨w0, hw0⟩ : ∃ w0, w0 = w.alloc (.cells #[.slice A t.log.length c, .slice B t.rest.length d] 24) := ⟨_, rfl⟩
  have HB0 : Hid (Below w.heap.size w w0) := by show Below _ _ _; rw [hw0]; exact below_alloc _ _
  have X0 : Hid (Lies w0 w.heap.size 24 #[.slice A t.log.length c, .slice B t.rest.length d]) := by show Lies _ _ _ _; rw [hw0]; exact Lies.new _ _ _
  have RA0 := hid (hA.below HB0.out)
  have RB0 := hid (hB.below HB0.out)
  have NA := hid nA
  have NB := hid nB
  clear hA hB nA nB
  go_enter Try.func3, Try.ntmps3
  go_upto_region 1 with fail
  rw [← hw0]
  clear hw0
  have hw1 : IntKind.i64.wrap ((t.log.length : Int) + (t.rest.length : Int)) = (t.log.length : Int) + (t.rest.length : Int) := IntWalk.i64_in _ (by omega)
  clear hl1 hl2
  by_cases hg : t.log.length + t.rest.length ≤ 1100
  · have hg2 : ¬ (1100 : Int) < (t.log.length : Int) + (t.rest.length : Int) := by omega
    have HL : Hid (t.log.length + t.rest.length ≤ 1100) := hg
    have HL2 : Hid (t.log.length + t.rest.length ≤ 1048576) := Nat.le_trans hg (by decide)
    clear hg
    obtain ⟨u, hu⟩ : ∃ x, x = drT t k := ⟨_, rfl⟩
    obtain ⟨n, hn⟩ : ∃ x, x = drN t k := ⟨_, rfl⟩
    obtain ⟨er, he⟩ : ∃ x, x = drE t k := ⟨_, rfl⟩
    obtain ⟨v, hv⟩ : ∃ x, x = dvT t k := ⟨_, rfl⟩
    obtain ⟨ev, hev⟩ : ∃ x, x = dvE t k := ⟨_, rfl⟩
    obtain ⟨ck, hck⟩ : ∃ x, x = ckT t := ⟨_, rfl⟩
    have HD : Hid (drN t k = n ∧ drT t k = u ∧ drE t k = er) := ⟨hn.symm, hu.symm, he.symm⟩
    have HV : Hid (dvT t k = v ∧ dvE t k = ev) := ⟨hv.symm, hev.symm⟩
    have HC : Hid (ckT t = ck) := hck.symm
    have HUL : Hid (u.log.length ≤ 1101 ∧ u.rest.length ≤ 1100) := by show _ ∧ _; rw [hu]; exact drT_len16 t k HL.out
    have HVL : Hid (v.log.length ≤ 1101 ∧ v.rest.length ≤ 1100) := by show _ ∧ _; rw [hv]; exact dvT_len16 t k HL.out
    clear hu hn he hv hev hck
    have x0 := X0.out.cell 0
    have x1 := X0.out.cell 1
    simp only [List.getElem?_toArray, List.getElem?_cons_zero, List.getElem?_cons_succ] at x0 x1
    go_upto_region 3 with fail
    clear x0 x1
    clear hw1 hg2
    have x0 := X0.out.cell 0
    have x1 := X0.out.cell 1
    simp only [List.getElem?_toArray, List.getElem?_cons_zero, List.getElem?_cons_succ] at x0 x1
    go_wp2_with fail
    refine (pdrawE HD.out rfl rfl rfl rfl A B c d _ RA0.out RB0.out NA.out NB.out LA.out LB.out HL2.out).mono ?_
    rintro e w1 ⟨Pu, pu, Qu, qu, rfl, hP, hQ, nP, nQ, lP, lQ, hb⟩
    clear x0 x1
    have HB1 := hid (then_w HB0.out hb)
    have X1 := hid (X0.out.later hb)
    have RA1 := hid (RA0.out.below hb)
    have RB1 := hid (RB0.out.below hb)
    clear hb
    clear HB0 X0 RA0 RB0
    have RPu_1 := hid hP
    clear hP
    have RQu_1 := hid hQ
    clear hQ
    have NPu := hid nP
    have NQu := hid nQ
    have LPu := hid lP
    have LQu := hid lQ
    clear nP nQ lP lQ
    go_upto_region 4 with fail
    obtain ⟨w2, hw⟩ : ∃ x, x = w1.alloc (.cells #[.slice Pu u.log.length pu, .slice Qu u.rest.length qu] 24) := ⟨_, rfl⟩
    obtain ⟨bu, hbx⟩ : ∃ x, x = w1.heap.size := ⟨_, rfl⟩
    have U2 : Hid (Lies w2 bu 24 #[.slice Pu u.log.length pu, .slice Qu u.rest.length qu]) := by show Lies _ _ _ _; rw [hw, hbx]; exact Lies.new _ _ _
    have hb : Below w1.heap.size w1 w2 := by rw [hw]; exact below_alloc _ _
    rw [← hw, ← hbx]
    have ne_X_U : Hid ((w.heap.size) ≠ bu) := by show _ ≠ _; rw [hbx]; exact Nat.ne_of_lt X1.out.lt
    have at_U : Hid (bu = w1.heap.size) := hbx
    have le_HB_U : Hid (w.heap.size ≤ bu) := by show _ ≤ _; rw [hbx]; exact HB1.out.size
    clear hbx hw
    have HALU := hid hb
    have HB2 := hid (then_w HB1.out hb)
    have X2 := hid (X1.out.later hb)
    have RA2 := hid (RA1.out.below hb)
    have RB2 := hid (RB1.out.below hb)
    have RPu_2 := hid (RPu_1.out.below hb)
    have RQu_2 := hid (RQu_1.out.below hb)
    clear hb
    clear HB1 X1 RA1 RB1 RPu_1 RQu_1
    have x0 := X2.out.cell 0
    have x1 := X2.out.cell 1
    simp only [List.getElem?_toArray, List.getElem?_cons_zero, List.getElem?_cons_succ] at x0 x1
    go_wp2_with fail
    refine (rdrawE HD.out rfl rfl rfl rfl A B c d _ RA2.out RB2.out NA.out NB.out LA.out LB.out HL2.out).mono ?_
    rintro e w3 ⟨Ps, ps, Qs, qs, rfl, hP, hQ, nP, nQ, lP, lQ, hb⟩
    clear x0 x1
    have HB3 := hid (then_w HB2.out hb)
    have X3 := hid (X2.out.later hb)
    have U3 := hid (U2.out.later hb)
    have RA3 := hid (RA2.out.below hb)
    have RB3 := hid (RB2.out.below hb)
    have RPu_3 := hid (RPu_2.out.below hb)
    have RQu_3 := hid (RQu_2.out.below hb)
    clear hb
    clear HB2 X2 U2 RA2 RB2 RPu_2 RQu_2
    have RPs_3 := hid hP
    clear hP
    have RQs_3 := hid hQ
    clear hQ
    have NPs := hid nP
    have NQs := hid nQ
    have LPs := hid lP
    have LQs := hid lQ
    clear nP nQ lP lQ
    go_upto_region 5 with fail
    obtain ⟨w4, hw⟩ : ∃ x, x = w3.alloc (.cells #[.slice Ps u.log.length ps, .slice Qs u.rest.length qs] 24) := ⟨_, rfl⟩
    obtain ⟨bs, hbx⟩ : ∃ x, x = w3.heap.size := ⟨_, rfl⟩
    have S4 : Hid (Lies w4 bs 24 #[.slice Ps u.log.length ps, .slice Qs u.rest.length qs]) := by show Lies _ _ _ _; rw [hw, hbx]; exact Lies.new _ _ _
    have hb : Below w3.heap.size w3 w4 := by rw [hw]; exact below_alloc _ _
    rw [← hw, ← hbx]
    have ne_X_S : Hid ((w.heap.size) ≠ bs) := by show _ ≠ _; rw [hbx]; exact Nat.ne_of_lt X3.out.lt
    have ne_U_S : Hid (bu ≠ bs) := by show _ ≠ _; rw [hbx]; exact Nat.ne_of_lt U3.out.lt
    have at_S : Hid (bs = w3.heap.size) := hbx
    have le_HB_S : Hid (w.heap.size ≤ bs) := by show _ ≤ _; rw [hbx]; exact HB3.out.size
    clear hbx hw
    have HALS := hid hb
    have HB4 := hid (then_w HB3.out hb)
    have X4 := hid (X3.out.later hb)
    have U4 := hid (U3.out.later hb)
    have RA4 := hid (RA3.out.below hb)
    have RB4 := hid (RB3.out.below hb)
    have RPu_4 := hid (RPu_3.out.below hb)
    have RQu_4 := hid (RQu_3.out.below hb)
    have RPs_4 := hid (RPs_3.out.below hb)
    have RQs_4 := hid (RQs_3.out.below hb)
    clear hb
    clear HB3 X3 U3 RA3 RB3 RPu_3 RQu_3 RPs_3 RQs_3
    have x0 := X4.out.cell 0
    have x1 := X4.out.cell 1
    simp only [List.getElem?_toArray, List.getElem?_cons_zero, List.getElem?_cons_succ] at x0 x1
    go_wp2_with fail
    refine (pdivE HV.out rfl rfl rfl rfl A B c d _ RA4.out RB4.out NA.out NB.out LA.out LB.out HL2.out).mono ?_
    rintro e w5 ⟨Pv, pv, Qv, qv, rfl, hP, hQ, nP, nQ, lP, lQ, hb⟩
    clear x0 x1
    have HB5 := hid (then_w HB4.out hb)
    have X5 := hid (X4.out.later hb)
    have U5 := hid (U4.out.later hb)
    have S5 := hid (S4.out.later hb)
    have RA5 := hid (RA4.out.below hb)
    have RB5 := hid (RB4.out.below hb)
    have RPu_5 := hid (RPu_4.out.below hb)
    have RQu_5 := hid (RQu_4.out.below hb)
    have RPs_5 := hid (RPs_4.out.below hb)
    have RQs_5 := hid (RQs_4.out.below hb)
    clear hb
    clear HB4 X4 U4 S4 RA4 RB4 RPu_4 RQu_4 RPs_4 RQs_4
    have RPv_5 := hid hP
    clear hP
    have RQv_5 := hid hQ
    clear hQ
    have NPv := hid nP
    have NQv := hid nQ
    have LPv := hid lP
    have LQv := hid lQ
    clear nP nQ lP lQ
    go_upto_region 6 with fail
    obtain ⟨w6, hw⟩ : ∃ x, x = w5.alloc (.cells #[.slice Pv v.log.length pv, .slice Qv v.rest.length qv] 24) := ⟨_, rfl⟩
    obtain ⟨bv, hbx⟩ : ∃ x, x = w5.heap.size := ⟨_, rfl⟩
    have V6 : Hid (Lies w6 bv 24 #[.slice Pv v.log.length pv, .slice Qv v.rest.length qv]) := by show Lies _ _ _ _; rw [hw, hbx]; exact Lies.new _ _ _
    have hb : Below w5.heap.size w5 w6 := by rw [hw]; exact below_alloc _ _
    rw [← hw, ← hbx]
    have ne_X_V : Hid ((w.heap.size) ≠ bv) := by show _ ≠ _; rw [hbx]; exact Nat.ne_of_lt X5.out.lt
    have ne_U_V : Hid (bu ≠ bv) := by show _ ≠ _; rw [hbx]; exact Nat.ne_of_lt U5.out.lt
    have ne_S_V : Hid (bs ≠ bv) := by show _ ≠ _; rw [hbx]; exact Nat.ne_of_lt S5.out.lt
    have at_V : Hid (bv = w5.heap.size) := hbx
    have le_HB_V : Hid (w.heap.size ≤ bv) := by show _ ≤ _; rw [hbx]; exact HB5.out.size
    clear hbx hw
    have HALV := hid hb
    have HB6 := hid (then_w HB5.out hb)
    have X6 := hid (X5.out.later hb)
    have U6 := hid (U5.out.later hb)
    have S6 := hid (S5.out.later hb)
    have RA6 := hid (RA5.out.below hb)
    have RB6 := hid (RB5.out.below hb)
    have RPu_6 := hid (RPu_5.out.below hb)
    have RQu_6 := hid (RQu_5.out.below hb)
    have RPs_6 := hid (RPs_5.out.below hb)
    have RQs_6 := hid (RQs_5.out.below hb)
    have RPv_6 := hid (RPv_5.out.below hb)
    have RQv_6 := hid (RQv_5.out.below hb)
    clear hb
    clear HB5 X5 U5 S5 RA5 RB5 RPu_5 RQu_5 RPs_5 RQs_5 RPv_5 RQv_5
    have x0 := X6.out.cell 0
    have x1 := X6.out.cell 1
    simp only [List.getElem?_toArray, List.getElem?_cons_zero, List.getElem?_cons_succ] at x0 x1
    go_wp2_with fail
    refine (rdivE HV.out rfl rfl rfl rfl A B c d _ RA6.out RB6.out NA.out NB.out LA.out LB.out HL2.out).mono ?_
    rintro e w7 ⟨Pr, pr, Qr, qr, rfl, hP, hQ, nP, nQ, lP, lQ, hb⟩
    clear x0 x1
    have HB7 := hid (then_w HB6.out hb)
    have X7 := hid (X6.out.later hb)
    have U7 := hid (U6.out.later hb)
    have S7 := hid (S6.out.later hb)
    have V7 := hid (V6.out.later hb)
    have RA7 := hid (RA6.out.below hb)
    have RB7 := hid (RB6.out.below hb)
    have RPu_7 := hid (RPu_6.out.below hb)
    have RQu_7 := hid (RQu_6.out.below hb)
    have RPs_7 := hid (RPs_6.out.below hb)
    have RQs_7 := hid (RQs_6.out.below hb)
    have RPv_7 := hid (RPv_6.out.below hb)
    have RQv_7 := hid (RQv_6.out.below hb)
    clear hb
    clear HB6 X6 U6 S6 V6 RA6 RB6 RPu_6 RQu_6 RPs_6 RQs_6 RPv_6 RQv_6
    have RPr_7 := hid hP
    clear hP
    have RQr_7 := hid hQ
    clear hQ
    have NPr := hid nP
    have NQr := hid nQ
    have LPr := hid lP
    have LQr := hid lQ
    clear nP nQ lP lQ
    go_upto_region 7 with fail
    obtain ⟨w8, hw⟩ : ∃ x, x = w7.alloc (.cells #[.slice Pr v.log.length pr, .slice Qr v.rest.length qr] 24) := ⟨_, rfl⟩
    obtain ⟨br, hbx⟩ : ∃ x, x = w7.heap.size := ⟨_, rfl⟩
    have R8 : Hid (Lies w8 br 24 #[.slice Pr v.log.length pr, .slice Qr v.rest.length qr]) := by show Lies _ _ _ _; rw [hw, hbx]; exact Lies.new _ _ _
    have hb : Below w7.heap.size w7 w8 := by rw [hw]; exact below_alloc _ _
    rw [← hw, ← hbx]
    have ne_X_R : Hid ((w.heap.size) ≠ br) := by show _ ≠ _; rw [hbx]; exact Nat.ne_of_lt X7.out.lt
    have ne_U_R : Hid (bu ≠ br) := by show _ ≠ _; rw [hbx]; exact Nat.ne_of_lt U7.out.lt
    have ne_S_R : Hid (bs ≠ br) := by show _ ≠ _; rw [hbx]; exact Nat.ne_of_lt S7.out.lt
    have ne_V_R : Hid (bv ≠ br) := by show _ ≠ _; rw [hbx]; exact Nat.ne_of_lt V7.out.lt
    have at_R : Hid (br = w7.heap.size) := hbx
    have le_HB_R : Hid (w.heap.size ≤ br) := by show _ ≤ _; rw [hbx]; exact HB7.out.size
    clear hbx hw
    have HALR := hid hb
    have HB8 := hid (then_w HB7.out hb)
    have X8 := hid (X7.out.later hb)
    have U8 := hid (U7.out.later hb)
    have S8 := hid (S7.out.later hb)
    have V8 := hid (V7.out.later hb)
    have RA8 := hid (RA7.out.below hb)
    have RB8 := hid (RB7.out.below hb)
    have RPu_8 := hid (RPu_7.out.below hb)
    have RQu_8 := hid (RQu_7.out.below hb)
    have RPs_8 := hid (RPs_7.out.below hb)
    have RQs_8 := hid (RQs_7.out.below hb)
    have RPv_8 := hid (RPv_7.out.below hb)
    have RQv_8 := hid (RQv_7.out.below hb)
    have RPr_8 := hid (RPr_7.out.below hb)
    have RQr_8 := hid (RQr_7.out.below hb)
    clear hb
    clear HB7 X7 U7 S7 V7 RA7 RB7 RPu_7 RQu_7 RPs_7 RQs_7 RPv_7 RQv_7 RPr_7 RQr_7
    have x0 := X8.out.cell 0
    have x1 := X8.out.cell 1
    simp only [List.getElem?_toArray, List.getElem?_cons_zero, List.getElem?_cons_succ] at x0 x1
    have u_0 := U8.out.cell 0
    have u_1 := U8.out.cell 1
    simp only [List.getElem?_toArray, List.getElem?_cons_zero, List.getElem?_cons_succ] at u_0 u_1
    have s_0 := S8.out.cell 0
    have s_1 := S8.out.cell 1
    simp only [List.getElem?_toArray, List.getElem?_cons_zero, List.getElem?_cons_succ] at s_0 s_1
    have v_0 := V8.out.cell 0
    have v_1 := V8.out.cell 1
    simp only [List.getElem?_toArray, List.getElem?_cons_zero, List.getElem?_cons_succ] at v_0 v_1
    have r_0 := R8.out.cell 0
    have r_1 := R8.out.cell 1
    simp only [List.getElem?_toArray, List.getElem?_cons_zero, List.getElem?_cons_succ] at r_0 r_1
    go_upto_region 7 with fail
    refine wp_region_held_drew (S := (fun w' => w'.cell? ⟨(w.heap.size), 0, none⟩ = some (.slice A t.log.length c) ∧ w'.cell? ⟨(w.heap.size), 1, none⟩ = some (.slice B t.rest.length d) ∧ w'.cell? ⟨bu, 0, none⟩ = some (.slice Pu u.log.length pu) ∧ w'.cell? ⟨bu, 1, none⟩ = some (.slice Qu u.rest.length qu) ∧ w'.cell? ⟨bs, 0, none⟩ = some (.slice Ps u.log.length ps) ∧ w'.cell? ⟨bs, 1, none⟩ = some (.slice Qs u.rest.length qs) ∧ w'.cell? ⟨bv, 0, none⟩ = some (.slice Pv v.log.length pv) ∧ w'.cell? ⟨bv, 1, none⟩ = some (.slice Qv v.rest.length qv) ∧ w'.cell? ⟨br, 0, none⟩ = some (.slice Pr v.log.length pr) ∧ w'.cell? ⟨br, 1, none⟩ = some (.slice Qr v.rest.length qr))) (by kernel_rfl) ?_ (fun hH0 => ?_)
    · exact ⟨x0, x1, u_0, u_1, s_0, s_1, v_0, v_1, r_0, r_1⟩
    refine wpAnyH_ready (rs := [0]) (by kernel_rfl) (by simp) ?_
    refine AllReadyH.cons (i := 0) (o := { dst := some 50, op := Go.Op.call { callee := Go.Callee.value (Go.Operand.func 7), args := #[], argTypes := #[] }, type := 4, pos := "law.go:31", after := #[], guard := none }) rfl (fun K hK => ?_) AllReadyH.nil
    go_simp
    go_at_call 7
    refine (fixed16_any _).mono ?_
    rintro e v1 ⟨rfl, hb⟩
    have HV1 := hid (dt16 (Below.refl _ w8).drew hb)
    refine hK.out _ _ ?_ (fun hH1 => ?_)
    · exact ⟨cell_later hb hH0.1, cell_later hb hH0.2.1, cell_later hb hH0.2.2.1, cell_later hb hH0.2.2.2.1, cell_later hb hH0.2.2.2.2.1, cell_later hb hH0.2.2.2.2.2.1, cell_later hb hH0.2.2.2.2.2.2.1, cell_later hb hH0.2.2.2.2.2.2.2.1, cell_later hb hH0.2.2.2.2.2.2.2.2.1, cell_later hb hH0.2.2.2.2.2.2.2.2.2⟩
    clear hK K
    try simp only [Act.put, List.setIfInBounds_toArray, List.set_cons_zero, List.set_cons_succ]
    clear hb
    refine wpAnyH_take (i := 1) (oi := { dst := some 51, op := Go.Op.move (Go.Operand.tmp 50), type := 4, pos := "law.go:31", after := #[{ on := 0, ground := Go.Ground.data }, { on := 0, ground := Go.Ground.chain }], guard := none }) (v := ?vv1) rfl (by kernel_rfl) (by kernel_rfl) (by kernel_rfl) (fun _ _ _ h => h) (Or.inl ⟨by rfl, ?hy1⟩) (by assumption) ?rr1
    case hy1 => intro w hSw; (try dsimp only at hSw); go_simp; all_goals with_reducible rfl
    try simp only [Act.put, List.setIfInBounds_toArray, List.set_cons_zero, List.set_cons_succ]
    refine wpAnyH_take (i := 2) (oi := { dst := some 52, op := Go.Op.move (Go.Operand.tmp 5), type := 3, pos := "law.go:31", after := #[{ on := 1, ground := Go.Ground.guard }], guard := some (1, true) }) (v := ?vv2) rfl (by kernel_rfl) (by kernel_rfl) (by kernel_rfl) (fun _ _ _ h => h) (Or.inl ⟨by rfl, ?hy2⟩) (by assumption) ?rr2
    case hy2 => intro w hSw; (try dsimp only at hSw); go_simp; all_goals with_reducible rfl
    try simp only [Act.put, List.setIfInBounds_toArray, List.set_cons_zero, List.set_cons_succ]
    refine wpAnyH_take (i := 3) (oi := { dst := some 53, op := Go.Op.move (Go.Operand.tmp 8), type := 3, pos := "law.go:31", after := #[{ on := 1, ground := Go.Ground.guard }], guard := some (1, true) }) (v := ?vv3) rfl (by kernel_rfl) (by kernel_rfl) (by kernel_rfl) (fun _ _ _ h => h) (Or.inl ⟨by rfl, ?hy3⟩) (by assumption) ?rr3
    case hy3 => intro w hSw; (try dsimp only at hSw); go_simp; all_goals with_reducible rfl
    try simp only [Act.put, List.setIfInBounds_toArray, List.set_cons_zero, List.set_cons_succ]
    refine wpAnyH_take (i := 4) (oi := { dst := some 54, op := Go.Op.binOp Go.BinOp.eql 3 (Go.Operand.tmp 52) (Go.Operand.tmp 53) 3, type := 4, pos := "law.go:31", after := #[{ on := 2, ground := Go.Ground.data }, { on := 3, ground := Go.Ground.data }, { on := 1, ground := Go.Ground.guard }], guard := some (1, true) }) (v := ?vv4) rfl (by kernel_rfl) (by kernel_rfl) (by kernel_rfl) (fun _ _ _ h => h) (Or.inl ⟨by rfl, ?hy4⟩) (by assumption) ?rr4
    case hy4 => intro w hSw; (try dsimp only at hSw); go_simp; all_goals with_reducible rfl
    try simp only [Act.put, List.setIfInBounds_toArray, List.set_cons_zero, List.set_cons_succ]
    refine wpAnyH_take (i := 5) (oi := { dst := some 55, op := Go.Op.pick (Go.Operand.tmp 51) (Go.Operand.tmp 54) (Go.Operand.const (Go.Value.bool false)), type := 4, pos := "law.go:31", after := #[{ on := 1, ground := Go.Ground.data }, { on := 4, ground := Go.Ground.data }], guard := none }) (v := ?vv5) rfl (by kernel_rfl) (by kernel_rfl) (by kernel_rfl) (fun _ _ _ h => h) (Or.inl ⟨by rfl, ?hy5⟩) (by assumption) ?rr5
    case hy5 => intro w hSw; (try dsimp only at hSw); go_simp; all_goals with_reducible rfl
    try simp only [Act.put, List.setIfInBounds_toArray, List.set_cons_zero, List.set_cons_succ]
    refine wpAnyH_take (i := 6) (oi := { dst := some 56, op := Go.Op.move (Go.Operand.tmp 55), type := 4, pos := "law.go:31", after := #[{ on := 5, ground := Go.Ground.data }, { on := 1, ground := Go.Ground.chain }], guard := none }) (v := ?vv6) rfl (by kernel_rfl) (by kernel_rfl) (by kernel_rfl) (fun _ _ _ h => h) (Or.inl ⟨by rfl, ?hy6⟩) (by assumption) ?rr6
    case hy6 => intro w hSw; (try dsimp only at hSw); go_simp; all_goals with_reducible rfl
    try simp only [Act.put, List.setIfInBounds_toArray, List.set_cons_zero, List.set_cons_succ]
    refine wpAnyH_take (i := 7) (oi := { dst := some 57, op := Go.Op.load 24 (Go.Operand.tmp 6), type := 24, pos := "law.go:31", after := #[{ on := 6, ground := Go.Ground.guard }], guard := some (6, true) }) (v := ?vv7) rfl (by kernel_rfl) (by kernel_rfl) (by kernel_rfl) (fun _ _ _ h => h) (Or.inl ⟨by rfl, ?hy7⟩) (by assumption) ?rr7
    case hy7 => intro w hSw; (try dsimp only at hSw); go_simp; all_goals with_reducible rfl
    try simp only [Act.put, List.setIfInBounds_toArray, List.set_cons_zero, List.set_cons_succ]
    refine wpAnyH_take (i := 8) (oi := { dst := some 58, op := Go.Op.load 24 (Go.Operand.tmp 9), type := 24, pos := "law.go:31", after := #[{ on := 6, ground := Go.Ground.guard }], guard := some (6, true) }) (v := ?vv8) rfl (by kernel_rfl) (by kernel_rfl) (by kernel_rfl) (fun _ _ _ h => h) (Or.inl ⟨by rfl, ?hy8⟩) (by assumption) ?rr8
    case hy8 => intro w hSw; (try dsimp only at hSw); go_simp; all_goals with_reducible rfl
    try simp only [Act.put, List.setIfInBounds_toArray, List.set_cons_zero, List.set_cons_succ]
    refine wpAnyH_ready (rs := [9]) (by kernel_rfl) (by simp) ?_
    refine AllReadyH.cons (i := 9) (o := { dst := some 59, op := Go.Op.call { callee := Go.Callee.value (Go.Operand.func 12), args := #[Go.Operand.tmp 57, Go.Operand.tmp 58], argTypes := #[24, 24] }, type := 4, pos := "law.go:31", after := #[{ on := 7, ground := Go.Ground.data }, { on := 8, ground := Go.Ground.data }, { on := 6, ground := Go.Ground.chain }, { on := 6, ground := Go.Ground.guard }], guard := some (6, true) }) rfl (fun K hK => ?_) AllReadyH.nil
    go_simp
    go_at_call 12
    refine (rsameE (t := u) (u := u) (r := true) (saT_iff.2 rfl) rfl rfl rfl rfl Pu Qu pu qu Ps Qs ps qs _ (RPu_8.out.1.below HV1.out) (RQu_8.out.1.below HV1.out) (RPs_8.out.below HV1.out) (RQs_8.out.below HV1.out) (Nat.le_trans HUL.out.1 (by decide)) (Nat.le_trans HUL.out.2 (by decide))).mono ?_
    rintro e v2 ⟨rfl, hb⟩
    have HV2 := hid (dt16 HV1.out hb)
    refine hK.out _ _ ?_ (fun hH2 => ?_)
    · exact ⟨cell_later hb hH1.1, cell_later hb hH1.2.1, cell_later hb hH1.2.2.1, cell_later hb hH1.2.2.2.1, cell_later hb hH1.2.2.2.2.1, cell_later hb hH1.2.2.2.2.2.1, cell_later hb hH1.2.2.2.2.2.2.1, cell_later hb hH1.2.2.2.2.2.2.2.1, cell_later hb hH1.2.2.2.2.2.2.2.2.1, cell_later hb hH1.2.2.2.2.2.2.2.2.2⟩
    clear hK K
    try simp only [Act.put, List.setIfInBounds_toArray, List.set_cons_zero, List.set_cons_succ]
    clear hb
    refine wpAnyH_take (i := 10) (oi := { dst := some 60, op := Go.Op.pick (Go.Operand.tmp 56) (Go.Operand.tmp 59) (Go.Operand.const (Go.Value.bool false)), type := 4, pos := "law.go:31", after := #[{ on := 6, ground := Go.Ground.data }, { on := 9, ground := Go.Ground.data }], guard := none }) (v := ?vv9) rfl (by kernel_rfl) (by kernel_rfl) (by kernel_rfl) (fun _ _ _ h => h) (Or.inl ⟨by rfl, ?hy9⟩) (by assumption) ?rr9
    case hy9 => intro w hSw; (try dsimp only at hSw); go_simp; all_goals with_reducible rfl
    try simp only [Act.put, List.setIfInBounds_toArray, List.set_cons_zero, List.set_cons_succ]
    refine wpAnyH_take (i := 11) (oi := { dst := some 61, op := Go.Op.move (Go.Operand.tmp 60), type := 4, pos := "law.go:31", after := #[{ on := 10, ground := Go.Ground.data }, { on := 9, ground := Go.Ground.chain }], guard := none }) (v := ?vv10) rfl (by kernel_rfl) (by kernel_rfl) (by kernel_rfl) (fun _ _ _ h => h) (Or.inl ⟨by rfl, ?hy10⟩) (by assumption) ?rr10
    case hy10 => intro w hSw; (try dsimp only at hSw); go_simp; all_goals with_reducible rfl
    try simp only [Act.put, List.setIfInBounds_toArray, List.set_cons_zero, List.set_cons_succ]
    refine wpAnyH_take (i := 12) (oi := { dst := some 62, op := Go.Op.move (Go.Operand.tmp 7), type := 26, pos := "law.go:31", after := #[{ on := 11, ground := Go.Ground.guard }], guard := some (11, true) }) (v := ?vv11) rfl (by kernel_rfl) (by kernel_rfl) (by kernel_rfl) (fun _ _ _ h => h) (Or.inl ⟨by rfl, ?hy11⟩) (by assumption) ?rr11
    case hy11 => intro w hSw; (try dsimp only at hSw); go_simp; all_goals with_reducible rfl
    try simp only [Act.put, List.setIfInBounds_toArray, List.set_cons_zero, List.set_cons_succ]
    refine wpAnyH_take (i := 13) (oi := { dst := some 63, op := Go.Op.move (Go.Operand.tmp 10), type := 26, pos := "law.go:31", after := #[{ on := 11, ground := Go.Ground.guard }], guard := some (11, true) }) (v := ?vv12) rfl (by kernel_rfl) (by kernel_rfl) (by kernel_rfl) (fun _ _ _ h => h) (Or.inl ⟨by rfl, ?hy12⟩) (by assumption) ?rr12
    case hy12 => intro w hSw; (try dsimp only at hSw); go_simp; all_goals with_reducible rfl
    try simp only [Act.put, List.setIfInBounds_toArray, List.set_cons_zero, List.set_cons_succ]
    refine wpAnyH_take (i := 14) (oi := { dst := some 64, op := Go.Op.binOp Go.BinOp.eql 26 (Go.Operand.tmp 62) (Go.Operand.tmp 63) 26, type := 4, pos := "law.go:31", after := #[{ on := 12, ground := Go.Ground.data }, { on := 13, ground := Go.Ground.data }, { on := 11, ground := Go.Ground.guard }], guard := some (11, true) }) (v := ?vv13) rfl (by kernel_rfl) (by kernel_rfl) (by kernel_rfl) (fun _ _ _ h => h) (Or.inl ⟨by rfl, ?hy13⟩) (by assumption) ?rr13
    case hy13 => intro w hSw; (try dsimp only at hSw); go_simp; all_goals with_reducible rfl
    try simp only [Act.put, List.setIfInBounds_toArray, List.set_cons_zero, List.set_cons_succ]
    refine wpAnyH_take (i := 15) (oi := { dst := some 65, op := Go.Op.pick (Go.Operand.tmp 61) (Go.Operand.tmp 64) (Go.Operand.const (Go.Value.bool false)), type := 4, pos := "law.go:31", after := #[{ on := 11, ground := Go.Ground.data }, { on := 14, ground := Go.Ground.data }], guard := none }) (v := ?vv14) rfl (by kernel_rfl) (by kernel_rfl) (by kernel_rfl) (fun _ _ _ h => h) (Or.inl ⟨by rfl, ?hy14⟩) (by assumption) ?rr14
    case hy14 => intro w hSw; (try dsimp only at hSw); go_simp; all_goals with_reducible rfl
    try simp only [Act.put, List.setIfInBounds_toArray, List.set_cons_zero, List.set_cons_succ]
    refine wpAnyH_take (i := 16) (oi := { dst := some 66, op := Go.Op.move (Go.Operand.tmp 65), type := 4, pos := "law.go:31", after := #[{ on := 15, ground := Go.Ground.data }, { on := 11, ground := Go.Ground.chain }], guard := none }) (v := ?vv15) rfl (by kernel_rfl) (by kernel_rfl) (by kernel_rfl) (fun _ _ _ h => h) (Or.inl ⟨by rfl, ?hy15⟩) (by assumption) ?rr15
    case hy15 => intro w hSw; (try dsimp only at hSw); go_simp; all_goals with_reducible rfl
    try simp only [Act.put, List.setIfInBounds_toArray, List.set_cons_zero, List.set_cons_succ]
    refine wpAnyH_take (i := 17) (oi := { dst := some 67, op := Go.Op.load 24 (Go.Operand.tmp 11), type := 24, pos := "law.go:31", after := #[{ on := 16, ground := Go.Ground.guard }], guard := some (16, true) }) (v := ?vv16) rfl (by kernel_rfl) (by kernel_rfl) (by kernel_rfl) (fun _ _ _ h => h) (Or.inl ⟨by rfl, ?hy16⟩) (by assumption) ?rr16
    case hy16 => intro w hSw; (try dsimp only at hSw); go_simp; all_goals with_reducible rfl
    try simp only [Act.put, List.setIfInBounds_toArray, List.set_cons_zero, List.set_cons_succ]
    refine wpAnyH_take (i := 18) (oi := { dst := some 68, op := Go.Op.load 24 (Go.Operand.tmp 13), type := 24, pos := "law.go:31", after := #[{ on := 16, ground := Go.Ground.guard }], guard := some (16, true) }) (v := ?vv17) rfl (by kernel_rfl) (by kernel_rfl) (by kernel_rfl) (fun _ _ _ h => h) (Or.inl ⟨by rfl, ?hy17⟩) (by assumption) ?rr17
    case hy17 => intro w hSw; (try dsimp only at hSw); go_simp; all_goals with_reducible rfl
    try simp only [Act.put, List.setIfInBounds_toArray, List.set_cons_zero, List.set_cons_succ]
    refine wpAnyH_ready (rs := [19]) (by kernel_rfl) (by simp) ?_
    refine AllReadyH.cons (i := 19) (o := { dst := some 69, op := Go.Op.call { callee := Go.Callee.value (Go.Operand.func 12), args := #[Go.Operand.tmp 67, Go.Operand.tmp 68], argTypes := #[24, 24] }, type := 4, pos := "law.go:31", after := #[{ on := 17, ground := Go.Ground.data }, { on := 18, ground := Go.Ground.data }, { on := 16, ground := Go.Ground.chain }, { on := 16, ground := Go.Ground.guard }], guard := some (16, true) }) rfl (fun K hK => ?_) AllReadyH.nil
    go_simp
    go_at_call 12
    refine (rsameE (t := v) (u := v) (r := true) (saT_iff.2 rfl) rfl rfl rfl rfl Pv Qv pv qv Pr Qr pr qr _ (RPv_8.out.1.below HV2.out) (RQv_8.out.1.below HV2.out) (RPr_8.out.below HV2.out) (RQr_8.out.below HV2.out) (Nat.le_trans HVL.out.1 (by decide)) (Nat.le_trans HVL.out.2 (by decide))).mono ?_
    rintro e v3 ⟨rfl, hb⟩
    have HV3 := hid (dt16 HV2.out hb)
    refine hK.out _ _ ?_ (fun hH3 => ?_)
    · exact ⟨cell_later hb hH2.1, cell_later hb hH2.2.1, cell_later hb hH2.2.2.1, cell_later hb hH2.2.2.2.1, cell_later hb hH2.2.2.2.2.1, cell_later hb hH2.2.2.2.2.2.1, cell_later hb hH2.2.2.2.2.2.2.1, cell_later hb hH2.2.2.2.2.2.2.2.1, cell_later hb hH2.2.2.2.2.2.2.2.2.1, cell_later hb hH2.2.2.2.2.2.2.2.2.2⟩
    clear hK K
    try simp only [Act.put, List.setIfInBounds_toArray, List.set_cons_zero, List.set_cons_succ]
    clear hb
    refine wpAnyH_take (i := 20) (oi := { dst := some 70, op := Go.Op.pick (Go.Operand.tmp 66) (Go.Operand.tmp 69) (Go.Operand.const (Go.Value.bool false)), type := 4, pos := "law.go:31", after := #[{ on := 16, ground := Go.Ground.data }, { on := 19, ground := Go.Ground.data }], guard := none }) (v := ?vv18) rfl (by kernel_rfl) (by kernel_rfl) (by kernel_rfl) (fun _ _ _ h => h) (Or.inl ⟨by rfl, ?hy18⟩) (by assumption) ?rr18
    case hy18 => intro w hSw; (try dsimp only at hSw); go_simp; all_goals with_reducible rfl
    try simp only [Act.put, List.setIfInBounds_toArray, List.set_cons_zero, List.set_cons_succ]
    refine wpAnyH_take (i := 21) (oi := { dst := some 71, op := Go.Op.move (Go.Operand.tmp 70), type := 4, pos := "law.go:31", after := #[{ on := 20, ground := Go.Ground.data }, { on := 19, ground := Go.Ground.chain }], guard := none }) (v := ?vv19) rfl (by kernel_rfl) (by kernel_rfl) (by kernel_rfl) (fun _ _ _ h => h) (Or.inl ⟨by rfl, ?hy19⟩) (by assumption) ?rr19
    case hy19 => intro w hSw; (try dsimp only at hSw); go_simp; all_goals with_reducible rfl
    try simp only [Act.put, List.setIfInBounds_toArray, List.set_cons_zero, List.set_cons_succ]
    refine wpAnyH_take (i := 22) (oi := { dst := some 72, op := Go.Op.move (Go.Operand.tmp 12), type := 26, pos := "law.go:31", after := #[{ on := 21, ground := Go.Ground.guard }], guard := some (21, true) }) (v := ?vv20) rfl (by kernel_rfl) (by kernel_rfl) (by kernel_rfl) (fun _ _ _ h => h) (Or.inl ⟨by rfl, ?hy20⟩) (by assumption) ?rr20
    case hy20 => intro w hSw; (try dsimp only at hSw); go_simp; all_goals with_reducible rfl
    try simp only [Act.put, List.setIfInBounds_toArray, List.set_cons_zero, List.set_cons_succ]
    refine wpAnyH_take (i := 23) (oi := { dst := some 73, op := Go.Op.move (Go.Operand.tmp 14), type := 26, pos := "law.go:31", after := #[{ on := 21, ground := Go.Ground.guard }], guard := some (21, true) }) (v := ?vv21) rfl (by kernel_rfl) (by kernel_rfl) (by kernel_rfl) (fun _ _ _ h => h) (Or.inl ⟨by rfl, ?hy21⟩) (by assumption) ?rr21
    case hy21 => intro w hSw; (try dsimp only at hSw); go_simp; all_goals with_reducible rfl
    try simp only [Act.put, List.setIfInBounds_toArray, List.set_cons_zero, List.set_cons_succ]
    refine wpAnyH_take (i := 24) (oi := { dst := some 74, op := Go.Op.binOp Go.BinOp.eql 26 (Go.Operand.tmp 72) (Go.Operand.tmp 73) 26, type := 4, pos := "law.go:31", after := #[{ on := 22, ground := Go.Ground.data }, { on := 23, ground := Go.Ground.data }, { on := 21, ground := Go.Ground.guard }], guard := some (21, true) }) (v := ?vv22) rfl (by kernel_rfl) (by kernel_rfl) (by kernel_rfl) (fun _ _ _ h => h) (Or.inl ⟨by rfl, ?hy22⟩) (by assumption) ?rr22
    case hy22 => intro w hSw; (try dsimp only at hSw); go_simp; all_goals with_reducible rfl
    try simp only [Act.put, List.setIfInBounds_toArray, List.set_cons_zero, List.set_cons_succ]
    refine wpAnyH_take (i := 25) (oi := { dst := some 75, op := Go.Op.pick (Go.Operand.tmp 71) (Go.Operand.tmp 74) (Go.Operand.const (Go.Value.bool false)), type := 4, pos := "law.go:31", after := #[{ on := 21, ground := Go.Ground.data }, { on := 24, ground := Go.Ground.data }], guard := none }) (v := ?vv23) rfl (by kernel_rfl) (by kernel_rfl) (by kernel_rfl) (fun _ _ _ h => h) (Or.inl ⟨by rfl, ?hy23⟩) (by assumption) ?rr23
    case hy23 => intro w hSw; (try dsimp only at hSw); go_simp; all_goals with_reducible rfl
    try simp only [Act.put, List.setIfInBounds_toArray, List.set_cons_zero, List.set_cons_succ]
    refine wpAnyH_take (i := 26) (oi := { dst := some 76, op := Go.Op.move (Go.Operand.tmp 75), type := 4, pos := "law.go:31", after := #[{ on := 25, ground := Go.Ground.data }, { on := 21, ground := Go.Ground.chain }], guard := none }) (v := ?vv24) rfl (by kernel_rfl) (by kernel_rfl) (by kernel_rfl) (fun _ _ _ h => h) (Or.inl ⟨by rfl, ?hy24⟩) (by assumption) ?rr24
    case hy24 => intro w hSw; (try dsimp only at hSw); go_simp; all_goals with_reducible rfl
    try simp only [Act.put, List.setIfInBounds_toArray, List.set_cons_zero, List.set_cons_succ]
    refine wpAnyH_take (i := 27) (oi := { dst := some 77, op := Go.Op.load 24 (Go.Operand.tmp 2), type := 24, pos := "law.go:31", after := #[{ on := 26, ground := Go.Ground.guard }], guard := some (26, true) }) (v := ?vv25) rfl (by kernel_rfl) (by kernel_rfl) (by kernel_rfl) (fun _ _ _ h => h) (Or.inl ⟨by rfl, ?hy25⟩) (by assumption) ?rr25
    case hy25 => intro w hSw; (try dsimp only at hSw); go_simp; all_goals with_reducible rfl
    try simp only [Act.put, List.setIfInBounds_toArray, List.set_cons_zero, List.set_cons_succ]
    refine wpAnyH_take (i := 29) (oi := { dst := some 79, op := Go.Op.load 24 (Go.Operand.tmp 2), type := 24, pos := "law.go:31", after := #[{ on := 26, ground := Go.Ground.guard }], guard := some (26, true) }) (v := ?vv26) rfl (by kernel_rfl) (by kernel_rfl) (by kernel_rfl) (fun _ _ _ h => h) (Or.inl ⟨by rfl, ?hy26⟩) (by assumption) ?rr26
    case hy26 => intro w hSw; (try dsimp only at hSw); go_simp; all_goals with_reducible rfl
    try simp only [Act.put, List.setIfInBounds_toArray, List.set_cons_zero, List.set_cons_succ]
    refine wpAnyH_ready (rs := [28]) (by kernel_rfl) (by simp) ?_
    refine AllReadyH.cons (i := 28) (o := { dst := some 78, op := Go.Op.call { callee := Go.Callee.value (Go.Operand.func 13), args := #[Go.Operand.tmp 77], argTypes := #[24] }, type := 26, pos := "law.go:31", after := #[{ on := 27, ground := Go.Ground.data }, { on := 26, ground := Go.Ground.chain }, { on := 26, ground := Go.Ground.guard }], guard := some (26, true) }) rfl (fun K hK => ?_) AllReadyH.nil
    go_simp
    go_at_call 13
    refine (pcheckE HC.out rfl rfl A B c d _ (RA8.out.below HV3.out) (RB8.out.below HV3.out) NA.out NB.out HL2.out).mono ?_
    rintro e v4 ⟨rfl, hb⟩
    have HV4 := hid (dt16 HV3.out hb)
    refine hK.out _ _ ?_ (fun hH4 => ?_)
    · exact ⟨cell_later hb hH3.1, cell_later hb hH3.2.1, cell_later hb hH3.2.2.1, cell_later hb hH3.2.2.2.1, cell_later hb hH3.2.2.2.2.1, cell_later hb hH3.2.2.2.2.2.1, cell_later hb hH3.2.2.2.2.2.2.1, cell_later hb hH3.2.2.2.2.2.2.2.1, cell_later hb hH3.2.2.2.2.2.2.2.2.1, cell_later hb hH3.2.2.2.2.2.2.2.2.2⟩
    clear hK K
    try simp only [Act.put, List.setIfInBounds_toArray, List.set_cons_zero, List.set_cons_succ]
    clear hb
    refine wpAnyH_ready (rs := [30]) (by kernel_rfl) (by simp) ?_
    refine AllReadyH.cons (i := 30) (o := { dst := some 80, op := Go.Op.call { callee := Go.Callee.value (Go.Operand.func 14), args := #[Go.Operand.tmp 79], argTypes := #[24] }, type := 26, pos := "law.go:31", after := #[{ on := 29, ground := Go.Ground.data }, { on := 28, ground := Go.Ground.chain }, { on := 26, ground := Go.Ground.guard }], guard := some (26, true) }) rfl (fun K hK => ?_) AllReadyH.nil
    go_simp
    go_at_call 14
    refine (rcheckE HC.out rfl rfl A B c d _ (RA8.out.below HV4.out) (RB8.out.below HV4.out) NA.out NB.out HL2.out).mono ?_
    rintro e v5 ⟨rfl, hb⟩
    have HV5 := hid (dt16 HV4.out hb)
    refine hK.out _ _ ?_ (fun hH5 => ?_)
    · exact ⟨cell_later hb hH4.1, cell_later hb hH4.2.1, cell_later hb hH4.2.2.1, cell_later hb hH4.2.2.2.1, cell_later hb hH4.2.2.2.2.1, cell_later hb hH4.2.2.2.2.2.1, cell_later hb hH4.2.2.2.2.2.2.1, cell_later hb hH4.2.2.2.2.2.2.2.1, cell_later hb hH4.2.2.2.2.2.2.2.2.1, cell_later hb hH4.2.2.2.2.2.2.2.2.2⟩
    clear hK K
    try simp only [Act.put, List.setIfInBounds_toArray, List.set_cons_zero, List.set_cons_succ]
    clear hb
    refine wpAnyH_take (i := 31) (oi := { dst := some 81, op := Go.Op.binOp Go.BinOp.eql 26 (Go.Operand.tmp 78) (Go.Operand.tmp 80) 26, type := 4, pos := "law.go:31", after := #[{ on := 28, ground := Go.Ground.data }, { on := 30, ground := Go.Ground.data }, { on := 26, ground := Go.Ground.guard }], guard := some (26, true) }) (v := ?vv27) rfl (by kernel_rfl) (by kernel_rfl) (by kernel_rfl) (fun _ _ _ h => h) (Or.inl ⟨by rfl, ?hy27⟩) (by assumption) ?rr27
    case hy27 => intro w hSw; (try dsimp only at hSw); go_simp; all_goals with_reducible rfl
    try simp only [Act.put, List.setIfInBounds_toArray, List.set_cons_zero, List.set_cons_succ]
    refine wpAnyH_take (i := 32) (oi := { dst := some 82, op := Go.Op.pick (Go.Operand.tmp 76) (Go.Operand.tmp 81) (Go.Operand.const (Go.Value.bool false)), type := 4, pos := "law.go:31", after := #[{ on := 26, ground := Go.Ground.data }, { on := 31, ground := Go.Ground.data }], guard := none }) (v := ?vv28) rfl (by kernel_rfl) (by kernel_rfl) (by kernel_rfl) (fun _ _ _ h => h) (Or.inl ⟨by rfl, ?hy28⟩) (by assumption) ?rr28
    case hy28 => intro w hSw; (try dsimp only at hSw); go_simp; all_goals with_reducible rfl
    try simp only [Act.put, List.setIfInBounds_toArray, List.set_cons_zero, List.set_cons_succ]
    refine wpAnyH_take (i := 33) (oi := { dst := some 83, op := Go.Op.move (Go.Operand.tmp 82), type := 4, pos := "law.go:31", after := #[{ on := 32, ground := Go.Ground.data }, { on := 30, ground := Go.Ground.chain }], guard := none }) (v := ?vv29) rfl (by kernel_rfl) (by kernel_rfl) (by kernel_rfl) (fun _ _ _ h => h) (Or.inl ⟨by rfl, ?hy29⟩) (by assumption) ?rr29
    case hy29 => intro w hSw; (try dsimp only at hSw); go_simp; all_goals with_reducible rfl
    try simp only [Act.put, List.setIfInBounds_toArray, List.set_cons_zero, List.set_cons_succ]
    refine wpAnyH_take (i := 34) (oi := { dst := some 84, op := Go.Op.load 24 (Go.Operand.tmp 2), type := 24, pos := "law.go:31", after := #[{ on := 33, ground := Go.Ground.guard }], guard := some (33, true) }) (v := ?vv30) rfl (by kernel_rfl) (by kernel_rfl) (by kernel_rfl) (fun _ _ _ h => h) (Or.inl ⟨by rfl, ?hy30⟩) (by assumption) ?rr30
    case hy30 => intro w hSw; (try dsimp only at hSw); go_simp; all_goals with_reducible rfl
    try simp only [Act.put, List.setIfInBounds_toArray, List.set_cons_zero, List.set_cons_succ]
    refine wpAnyH_take (i := 36) (oi := { dst := some 86, op := Go.Op.load 24 (Go.Operand.tmp 2), type := 24, pos := "law.go:31", after := #[{ on := 33, ground := Go.Ground.guard }], guard := some (33, true) }) (v := ?vv31) rfl (by kernel_rfl) (by kernel_rfl) (by kernel_rfl) (fun _ _ _ h => h) (Or.inl ⟨by rfl, ?hy31⟩) (by assumption) ?rr31
    case hy31 => intro w hSw; (try dsimp only at hSw); go_simp; all_goals with_reducible rfl
    try simp only [Act.put, List.setIfInBounds_toArray, List.set_cons_zero, List.set_cons_succ]
    refine wpAnyH_ready (rs := [35]) (by kernel_rfl) (by simp) ?_
    refine AllReadyH.cons (i := 35) (o := { dst := some 85, op := Go.Op.call { callee := Go.Callee.value (Go.Operand.func 16), args := #[Go.Operand.tmp 84], argTypes := #[24] }, type := 22, pos := "law.go:31", after := #[{ on := 34, ground := Go.Ground.data }, { on := 33, ground := Go.Ground.chain }, { on := 33, ground := Go.Ground.guard }], guard := some (33, true) }) rfl (fun K hK => ?_) AllReadyH.nil
    go_simp
    go_at_call 16
    refine (pallE rfl rfl rfl rfl A B c d _ (RA8.out.below HV5.out) (RB8.out.below HV5.out) NA.out NB.out (Nat.le_trans HL.out (by decide))).mono ?_
    rintro e v6 ⟨Pz, pz, rfl, hz, -, hb⟩
    have HV6 := hid (dt16 HV5.out hb)
    have RZ := hid hz.1
    clear hz
    refine hK.out _ _ ?_ (fun hH6 => ?_)
    · exact ⟨cell_later hb hH5.1, cell_later hb hH5.2.1, cell_later hb hH5.2.2.1, cell_later hb hH5.2.2.2.1, cell_later hb hH5.2.2.2.2.1, cell_later hb hH5.2.2.2.2.2.1, cell_later hb hH5.2.2.2.2.2.2.1, cell_later hb hH5.2.2.2.2.2.2.2.1, cell_later hb hH5.2.2.2.2.2.2.2.2.1, cell_later hb hH5.2.2.2.2.2.2.2.2.2⟩
    clear hK K
    try simp only [Act.put, List.setIfInBounds_toArray, List.set_cons_zero, List.set_cons_succ]
    clear hb
    refine wpAnyH_ready (rs := [37]) (by kernel_rfl) (by simp) ?_
    refine AllReadyH.cons (i := 37) (o := { dst := some 87, op := Go.Op.call { callee := Go.Callee.value (Go.Operand.func 17), args := #[Go.Operand.tmp 86], argTypes := #[24] }, type := 22, pos := "law.go:31", after := #[{ on := 36, ground := Go.Ground.data }, { on := 35, ground := Go.Ground.chain }, { on := 33, ground := Go.Ground.guard }], guard := some (33, true) }) rfl (fun K hK => ?_) AllReadyH.nil
    go_simp
    go_at_call 17
    refine (rallE rfl rfl rfl rfl A B c d _ (RA8.out.below HV6.out) (RB8.out.below HV6.out) NA.out NB.out HL2.out).mono ?_
    rintro e v7 ⟨Py, py, rfl, hz, -, hb⟩
    have HV7 := hid (dt16 HV6.out hb)
    have RY := hid hz.1
    replace RZ := hid (RZ.out.below hb)
    clear hz
    refine hK.out _ _ ?_ (fun hH7 => ?_)
    · exact ⟨cell_later hb hH6.1, cell_later hb hH6.2.1, cell_later hb hH6.2.2.1, cell_later hb hH6.2.2.2.1, cell_later hb hH6.2.2.2.2.1, cell_later hb hH6.2.2.2.2.2.1, cell_later hb hH6.2.2.2.2.2.2.1, cell_later hb hH6.2.2.2.2.2.2.2.1, cell_later hb hH6.2.2.2.2.2.2.2.2.1, cell_later hb hH6.2.2.2.2.2.2.2.2.2⟩
    clear hK K
    try simp only [Act.put, List.setIfInBounds_toArray, List.set_cons_zero, List.set_cons_succ]
    clear hb
    refine wpAnyH_ready (rs := [38]) (by kernel_rfl) (by simp) ?_
    refine AllReadyH.cons (i := 38) (o := { dst := some 88, op := Go.Op.call { callee := Go.Callee.value (Go.Operand.func 15), args := #[Go.Operand.tmp 85, Go.Operand.tmp 87], argTypes := #[22, 22] }, type := 4, pos := "law.go:31", after := #[{ on := 35, ground := Go.Ground.data }, { on := 37, ground := Go.Ground.data }, { on := 37, ground := Go.Ground.chain }, { on := 33, ground := Go.Ground.guard }], guard := some (33, true) }) rfl (fun K hK => ?_) AllReadyH.nil
    go_simp
    go_at_call 15
    refine (rintsE (x := allT t) (y := allT t) (r := true) (decide_eq_true rfl) rfl rfl Pz Py pz py _ RZ.out RY.out (by rw [allT_len]; exact HL2.out)).mono ?_
    rintro e v8 ⟨rfl, hb⟩
    have HV8 := hid (dt16 HV7.out hb)
    refine hK.out _ _ ?_ (fun hH8 => ?_)
    · exact ⟨cell_later hb hH7.1, cell_later hb hH7.2.1, cell_later hb hH7.2.2.1, cell_later hb hH7.2.2.2.1, cell_later hb hH7.2.2.2.2.1, cell_later hb hH7.2.2.2.2.2.1, cell_later hb hH7.2.2.2.2.2.2.1, cell_later hb hH7.2.2.2.2.2.2.2.1, cell_later hb hH7.2.2.2.2.2.2.2.2.1, cell_later hb hH7.2.2.2.2.2.2.2.2.2⟩
    clear hK K
    try simp only [Act.put, List.setIfInBounds_toArray, List.set_cons_zero, List.set_cons_succ]
    clear hb
    refine wpAnyH_take (i := 39) (oi := { dst := some 89, op := Go.Op.pick (Go.Operand.tmp 83) (Go.Operand.tmp 88) (Go.Operand.const (Go.Value.bool false)), type := 4, pos := "law.go:31", after := #[{ on := 33, ground := Go.Ground.data }, { on := 38, ground := Go.Ground.data }], guard := none }) (v := ?vv32) rfl (by kernel_rfl) (by kernel_rfl) (by kernel_rfl) (fun _ _ _ h => h) (Or.inl ⟨by rfl, ?hy32⟩) (by assumption) ?rr32
    case hy32 => intro w hSw; (try dsimp only at hSw); go_simp; all_goals with_reducible rfl
    try simp only [Act.put, List.setIfInBounds_toArray, List.set_cons_zero, List.set_cons_succ]
    refine wpAnyH_take (i := 40) (oi := { dst := some 4, op := Go.Op.assign (Go.Operand.tmp 89), type := 4, pos := "law.go:31", after := #[{ on := 39, ground := Go.Ground.data }, { on := 38, ground := Go.Ground.chain }, { on := 0, ground := Go.Ground.phase }, { on := 1, ground := Go.Ground.phase }, { on := 2, ground := Go.Ground.phase }, { on := 3, ground := Go.Ground.phase }, { on := 4, ground := Go.Ground.phase }, { on := 5, ground := Go.Ground.phase }, { on := 6, ground := Go.Ground.phase }, { on := 7, ground := Go.Ground.phase }, { on := 8, ground := Go.Ground.phase }, { on := 9, ground := Go.Ground.phase }, { on := 10, ground := Go.Ground.phase }, { on := 11, ground := Go.Ground.phase }, { on := 12, ground := Go.Ground.phase }, { on := 13, ground := Go.Ground.phase }, { on := 14, ground := Go.Ground.phase }, { on := 15, ground := Go.Ground.phase }, { on := 16, ground := Go.Ground.phase }, { on := 17, ground := Go.Ground.phase }, { on := 18, ground := Go.Ground.phase }, { on := 19, ground := Go.Ground.phase }, { on := 20, ground := Go.Ground.phase }, { on := 21, ground := Go.Ground.phase }, { on := 22, ground := Go.Ground.phase }, { on := 23, ground := Go.Ground.phase }, { on := 24, ground := Go.Ground.phase }, { on := 25, ground := Go.Ground.phase }, { on := 26, ground := Go.Ground.phase }, { on := 27, ground := Go.Ground.phase }, { on := 28, ground := Go.Ground.phase }, { on := 29, ground := Go.Ground.phase }, { on := 30, ground := Go.Ground.phase }, { on := 31, ground := Go.Ground.phase }, { on := 32, ground := Go.Ground.phase }, { on := 33, ground := Go.Ground.phase }, { on := 34, ground := Go.Ground.phase }, { on := 35, ground := Go.Ground.phase }, { on := 36, ground := Go.Ground.phase }, { on := 37, ground := Go.Ground.phase }, { on := 38, ground := Go.Ground.phase }, { on := 39, ground := Go.Ground.phase }], guard := none }) (v := ?vv33) rfl (by kernel_rfl) (by kernel_rfl) (by kernel_rfl) (fun _ _ _ h => h) (Or.inl ⟨by rfl, ?hy33⟩) (by assumption) ?rr33
    case hy33 => intro w hSw; (try dsimp only at hSw); go_simp; all_goals with_reducible rfl
    try simp only [Act.put, List.setIfInBounds_toArray, List.set_cons_zero, List.set_cons_succ]
    refine wpAnyH_done (by kernel_rfl) ?_ _
    go_wp2_with fail
    go_ret
    exact ⟨by simp, (then_w HB8.out HV8.out)⟩
  · have hg2 : (1100 : Int) < (t.log.length : Int) + (t.rest.length : Int) := by omega
    clear hg
    have x0 := X0.out.cell 0
    have x1 := X0.out.cell 1
    simp only [List.getElem?_toArray, List.getElem?_cons_zero, List.getElem?_cons_succ] at x0 x1
    go_wp2_with fail
    refine (fixed16_any _).mono ?_
    rintro e w1 ⟨rfl, hb⟩
    clear x0 x1
    have HB1 := hid (then_w HB0.out hb)
    have X1 := hid (X0.out.later hb)
    have RA1 := hid (RA0.out.below hb)
    have RB1 := hid (RB0.out.below hb)
    clear hb
    clear HB0 X0 RA0 RB0
    clear hg2 hw1
    go_wp2_with fail
    go_ret
    exact ⟨rfl, HB1.out⟩
end Go.Proofs.Ytimmoaomhilaeaa
