/- TapeAgain walked: whatever tape, and number, it answers true. -/
import Derived.Test.YtimmoaomhilaeaaLM16
namespace Go.Proofs.Ytimmoaomhilaeaa
open Go.RowKit
set_option maxRecDepth 100000
set_option maxHeartbeats 2000000 in
theorem lagain_any16 (t : Tp) (A B : Option Addr) (c d : Nat) (k : Int) (w : World) (hA : IntsR w A t.log) (hB : IntsR w B t.rest) (nA : A = none → c = 0) (nB : B = none → d = 0) (lA : t.log.length ≤ c) (lB : t.rest.length ≤ d) (hl : t.log.length + t.rest.length ≤ 1048576) :
    Calls Try.prog 4 #[.agg #[.slice A t.log.length c, .slice B t.rest.length d], .int .i64 k] w fun e w' => e = .returned (.bool true) ∧ Below w.heap.size w w' := by
  have LA := hid lA
  have LB := hid lB
  clear lA lB
  obtain ⟨w0, hw0⟩ : ∃ w0, w0 = w.alloc (.cells #[.slice A t.log.length c, .slice B t.rest.length d] 24) := ⟨_, rfl⟩
  have HB0 : Hid (Below w.heap.size w w0) := by show Below _ _ _; rw [hw0]; exact below_alloc _ _
  have X0 : Hid (Lies w0 w.heap.size 24 #[.slice A t.log.length c, .slice B t.rest.length d]) := by show Lies _ _ _ _; rw [hw0]; exact Lies.new _ _ _
  have RA0 := hid (hA.below HB0.out)
  have RB0 := hid (hB.below HB0.out)
  have NA := hid nA
  have NB := hid nB
  clear hA hB nA nB
  go_enter Try.func4, Try.ntmps4
  go_upto_region 1 with fail
  rw [← hw0]
  clear hw0
  have HL : Hid (t.log.length + t.rest.length ≤ 1048576) := hl
  have hw1 : IntKind.i64.wrap ((t.log.length : Int) + (t.rest.length : Int)) = (t.log.length : Int) + (t.rest.length : Int) := IntWalk.i64_in _ (by omega)
  clear hl
  have x0 := X0.out.cell 0
  have x1 := X0.out.cell 1
  simp only [List.getElem?_toArray, List.getElem?_cons_zero, List.getElem?_cons_succ] at x0 x1
  go_wp2_with fail
  refine (fixed16_any _).mono ?_
  rintro e w1 ⟨rfl, hb⟩
  clear x0 x1
  have HB1 := hid (then_w HB0.out hb)
  have X1 := hid (X0.out.later hb)
  have RA1 := hid (RA0.out.below hb)
  have RB1 := hid (RB0.out.below hb)
  clear hb
  clear HB0 X0 RA0 RB0
  cases hm : mayT t
  · have HCK := hid (ckT_no hm)
    clear hm
    have x0 := X1.out.cell 0
    have x1 := X1.out.cell 1
    simp only [List.getElem?_toArray, List.getElem?_cons_zero, List.getElem?_cons_succ] at x0 x1
    go_wp2_with fail
    refine (rcheckE HCK.out rfl rfl A B c d _ RA1.out RB1.out NA.out NB.out HL.out).mono ?_
    rintro e w2 ⟨rfl, hb⟩
    clear x0 x1
    have HB2 := hid (then_w HB1.out hb)
    have X2 := hid (X1.out.later hb)
    have RA2 := hid (RA1.out.below hb)
    have RB2 := hid (RB1.out.below hb)
    clear hb
    clear HB1 X1 RA1 RB1
    have x0 := X2.out.cell 0
    have x1 := X2.out.cell 1
    simp only [List.getElem?_toArray, List.getElem?_cons_zero, List.getElem?_cons_succ] at x0 x1
    go_wp2_with fail
    refine (fixed16_any _).mono ?_
    rintro e w3 ⟨rfl, hb⟩
    clear x0 x1
    have HB3 := hid (then_w HB2.out hb)
    have X3 := hid (X2.out.later hb)
    have RA3 := hid (RA2.out.below hb)
    have RB3 := hid (RB2.out.below hb)
    clear hb
    clear HB2 X2 RA2 RB2
    go_wp2_with fail
    go_ret
    exact ⟨rfl, HB3.out⟩
  · have HM := hid hm
    have HCK := hid (ckT_yes hm)
    clear hm
    have x0 := X1.out.cell 0
    have x1 := X1.out.cell 1
    simp only [List.getElem?_toArray, List.getElem?_cons_zero, List.getElem?_cons_succ] at x0 x1
    go_wp2_with fail
    refine (rcheckE HCK.out rfl rfl A B c d _ RA1.out RB1.out NA.out NB.out HL.out).mono ?_
    rintro e w2 ⟨rfl, hb⟩
    clear x0 x1
    have HB2 := hid (then_w HB1.out hb)
    have X2 := hid (X1.out.later hb)
    have RA2 := hid (RA1.out.below hb)
    have RB2 := hid (RB1.out.below hb)
    clear hb
    clear HB1 X1 RA1 RB1
    by_cases hg : t.log.length + t.rest.length ≤ 100
    · have HG : Hid (t.log.length + t.rest.length ≤ 100) := hg
      have hg2 : ¬ (100 : Int) < (t.log.length : Int) + (t.rest.length : Int) := by omega
      clear hg
      by_cases h0 : k < 0
      · have x0 := X2.out.cell 0
        have x1 := X2.out.cell 1
        simp only [List.getElem?_toArray, List.getElem?_cons_zero, List.getElem?_cons_succ] at x0 x1
        go_wp2_with fail
        refine (fixed16_any _).mono ?_
        rintro e w3 ⟨rfl, hb⟩
        clear x0 x1
        have HB3 := hid (then_w HB2.out hb)
        have X3 := hid (X2.out.later hb)
        have RA3 := hid (RA2.out.below hb)
        have RB3 := hid (RB2.out.below hb)
        clear hb
        clear HB2 X2 RA2 RB2
        go_wp2_with fail
        go_ret
        exact ⟨rfl, HB3.out⟩
      · by_cases h1 : k ≤ 50
        · have h2 : ¬ (50 : Int) < k := by omega
          have x0 := X2.out.cell 0
          have x1 := X2.out.cell 1
          simp only [List.getElem?_toArray, List.getElem?_cons_zero, List.getElem?_cons_succ] at x0 x1
          go_upto_region 3 with fail
          clear x0 x1
          clear hw1 hg2 h2
          obtain ⟨m, rfl⟩ : ∃ m : Nat, k = m := ⟨k.toNat, by omega⟩
          have HM50 : Hid (m ≤ 50) := by show _ ≤ _; omega
          obtain ⟨l, hl⟩ : ∃ x, x = allT t := ⟨_, rfl⟩
          have HL_ := hid hl
          obtain ⟨nl, hnl⟩ : ∃ x, x = l.length := ⟨_, rfl⟩
          have HNL : Hid (l.length = nl) := hnl.symm
          have HN2 : Hid (nl = t.log.length + t.rest.length) := by show _ = _; rw [hnl, hl, allT_len]
          clear hl hnl h0 h1
          have x0 := X2.out.cell 0
          have x1 := X2.out.cell 1
          simp only [List.getElem?_toArray, List.getElem?_cons_zero, List.getElem?_cons_succ] at x0 x1
          go_wp2_with fail
          refine (rallE HL_.out.symm HNL.out rfl rfl A B c d _ RA2.out RB2.out NA.out NB.out HL.out).mono ?_
          rintro e w3 ⟨Pz, pz, rfl, hz, -, hb⟩
          clear x0 x1
          have HB3 := hid (then_w HB2.out hb)
          have X3 := hid (X2.out.later hb)
          have RA3 := hid (RA2.out.below hb)
          have RB3 := hid (RB2.out.below hb)
          clear hb
          clear HB2 X2 RA2 RB2
          have RZ3 := hid hz
          clear hz
          have x0 := X3.out.cell 0
          have x1 := X3.out.cell 1
          simp only [List.getElem?_toArray, List.getElem?_cons_zero, List.getElem?_cons_succ] at x0 x1
          go_upto_region 5 with fail
          clear x0 x1
          obtain ⟨w4, hw⟩ : ∃ x, x = w3.alloc (.cells #[.slice A t.log.length c, .slice B t.rest.length d] 24) := ⟨_, rfl⟩
          obtain ⟨bu, hbx⟩ : ∃ x, x = w3.heap.size := ⟨_, rfl⟩
          have U4 : Hid (Lies w4 bu 24 #[.slice A t.log.length c, .slice B t.rest.length d]) := by show Lies _ _ _ _; rw [hw, hbx]; exact Lies.new _ _ _
          have hb : Below w3.heap.size w3 w4 := by rw [hw]; exact below_alloc _ _
          rw [← hw, ← hbx]
          have ne_X_U : Hid ((w.heap.size) ≠ bu) := by show _ ≠ _; rw [hbx]; exact Nat.ne_of_lt X3.out.lt
          have at_U : Hid (bu = w3.heap.size) := hbx
          have le_HB_U : Hid (w.heap.size ≤ bu) := by show _ ≤ _; rw [hbx]; exact HB3.out.size
          clear hbx hw
          have HALU := hid hb
          have HB4 := hid (then_w HB3.out hb)
          have X4 := hid (X3.out.later hb)
          have RA4 := hid (RA3.out.below hb)
          have RB4 := hid (RB3.out.below hb)
          have RZ4 := hid (RZ3.out.below hb)
          clear hb
          clear HB3 X3
          have HBU : Hid (w.heap.size ≤ bu) := le_HB_U
          have HXU : Hid (w.heap.size ≠ bu) := ne_X_U
          have NRA : Hid (RdN w4 bu A t.log) := (rdn_old16 RA3.out (Nat.le_of_eq at_U.out.symm)).below HALU.out
          have NRB : Hid (RdN w4 bu B t.rest) := (rdn_old16 RB3.out (Nat.le_of_eq at_U.out.symm)).below HALU.out
          have NRZ : Hid (RdN w4 bu Pz l) := (rdn_old16 RZ3.out.1 (Nat.le_of_eq at_U.out.symm)).below HALU.out
          clear RA3 RB3 RZ3
          go_wp2_with fail
          have NABH : Hid ((A = none → c = 0) ∧ (B = none → d = 0) ∧ t.log.length ≤ c ∧ t.rest.length ≤ d) := ⟨NA.out, NB.out, LA.out, LB.out⟩
          go_loopw [7, 8, 9, 10, 11] (fun i _ _ _ _ wr => ∃ (j : Nat) (u : Tp) (P Q : Option Addr) (p q : Nat), j ≤ m ∧ i = .int .i64 (j : Int) ∧ Hid (Go16 t j u) ∧ Hid (Lies wr bu 24 #[.slice P u.log.length p, .slice Q u.rest.length q]) ∧ Hid (RdN wr bu P u.log) ∧ Hid (RdN wr bu Q u.rest) ∧ Hid ((P = none → p = 0) ∧ (Q = none → q = 0) ∧ u.log.length ≤ p ∧ u.rest.length ≤ q) ∧ Hid (Lies wr w.heap.size 24 #[.slice A t.log.length c, .slice B t.rest.length d]) ∧ Hid (RdN wr bu Pz l) ∧ Hid (Below w.heap.size w wr)) (fun i _ _ _ _ _ => m - (intOf i).toNat)
          case atStart => exact ⟨0, t, A, B, c, d, Nat.zero_le _, rfl, Go16.start HM.out, U4, NRA, NRB, NABH, X4, NRZ, HB4⟩
          case round =>
            rename World => w20
            obtain ⟨j, u, P, Q, p, q, hjm, rfl, HGO, U20, RP20, RQ20, NPQ, X20, RZ20, HB20⟩ := hrel
            by_cases hlt : j < m
            · obtain ⟨xv, hxv⟩ : ∃ y_, y_ = (allT t).getD j 0 := ⟨_, rfl⟩
              obtain ⟨v, hdr, hgo⟩ := HGO.out.step HG.out (by have := HM50.out; omega) hxv.symm
              have HDR := hid hdr
              have HGN := hid hgo
              have HXV := hid hxv
              have HUL : Hid (u.log.length + u.rest.length ≤ 1048576) := by show _ ≤ _; have := HGO.out.lens; have := HG.out; have := HM50.out; omega
              have hm50 : m ≤ 50 := HM50.out
              have HLT := hid hlt
              have U20LT := hid U20.out.lt
              clear hdr hgo hxv
              have u_0 := U20.out.cell 0
              have u_1 := U20.out.cell 1
              simp only [List.getElem?_toArray, List.getElem?_cons_zero, List.getElem?_cons_succ] at u_0 u_1
              go_wp2_with fail
              refine (pdrawE HDR.out rfl rfl rfl rfl P Q p q _ RP20.out.1 RQ20.out.1 NPQ.out.1 NPQ.out.2.1 NPQ.out.2.2.1 NPQ.out.2.2.2 HUL.out).mono ?_
              rintro e w21 ⟨Pw, pw, Qw, qw, rfl, hP, hQ, nP, nQ, lP, lQ, hb⟩
              clear u_0 u_1
              have HB21 := hid (then_w HB20.out hb)
              have X21 := hid (X20.out.later hb)
              have U21 := hid (U20.out.later hb)
              have RP21 := hid (RP20.out.below hb)
              have RQ21 := hid (RQ20.out.below hb)
              have RZ21 := hid (RZ20.out.below hb)
              clear hb
              clear HB20 X20 U20 RP20 RQ20 RZ20
              have RPw_21 := hid hP
              clear hP
              have RQw_21 := hid hQ
              clear hQ
              have NPw := hid nP
              have NQw := hid nQ
              have LPw := hid lP
              have LQw := hid lQ
              clear nP nQ lP lQ
              go_upto_region 9 with fail
              obtain ⟨w22, hw⟩ : ∃ x, x = w21.alloc (.cells #[.slice Pw v.log.length pw, .slice Qw v.rest.length qw] 24) := ⟨_, rfl⟩
              obtain ⟨bw, hbx⟩ : ∃ x, x = w21.heap.size := ⟨_, rfl⟩
              have W22 : Hid (Lies w22 bw 24 #[.slice Pw v.log.length pw, .slice Qw v.rest.length qw]) := by show Lies _ _ _ _; rw [hw, hbx]; exact Lies.new _ _ _
              have hb : Below w21.heap.size w21 w22 := by rw [hw]; exact below_alloc _ _
              rw [← hw, ← hbx]
              have ne_X_W : Hid ((w.heap.size) ≠ bw) := by show _ ≠ _; rw [hbx]; exact Nat.ne_of_lt X21.out.lt
              have ne_U_W : Hid (bu ≠ bw) := by show _ ≠ _; rw [hbx]; exact Nat.ne_of_lt U21.out.lt
              have at_W : Hid (bw = w21.heap.size) := hbx
              have le_HB_W : Hid (w.heap.size ≤ bw) := by show _ ≤ _; rw [hbx]; exact HB21.out.size
              clear hbx hw
              have HALW := hid hb
              have HB22 := hid (then_w HB21.out hb)
              have X22 := hid (X21.out.later hb)
              have U22 := hid (U21.out.later hb)
              have RP22 := hid (RP21.out.below hb)
              have RQ22 := hid (RQ21.out.below hb)
              have RZ22 := hid (RZ21.out.below hb)
              have RPw_22 := hid (RPw_21.out.below hb)
              have RQw_22 := hid (RQw_21.out.below hb)
              clear hb
              clear HB21 X21 U21 RP21 RQ21 RZ21 RPw_21 RQw_21
              by_cases hz : j < nl
              · obtain ⟨bz, oz, hPe, hbz, hcz⟩ := RZ22.out.1 (by rw [HNL.out]; omega)
                subst hPe
                have hcell : w22.cell? ⟨bz, oz + j, none⟩ = some (.int .i64 xv) := hcz j xv (by
                  have h1 : j < (allT t).length := by rw [← HL_.out, HNL.out]; exact hz
                  rw [HL_.out, HXV.out, List.getD_eq_getElem?_getD, List.getElem?_eq_getElem h1]; rfl)
                clear hcz hbz
                have BUX : Hid (w.heap.size ≠ bu) := HXU.out
                have w_0 := W22.out.cell 0
                have w_1 := W22.out.cell 1
                simp only [List.getElem?_toArray, List.getElem?_cons_zero, List.getElem?_cons_succ] at w_0 w_1
                have u_0 := U22.out.cell 0
                have u_1 := U22.out.cell 1
                have u_f0 := U22.out.frozen 0
                have u_f1 := U22.out.frozen 1
                simp only [List.getElem?_toArray, List.getElem?_cons_zero, List.getElem?_cons_succ] at u_0 u_1
                go_wp2_with fail
                go_roundw
                case rel =>
                  exact ⟨j + 1, v, Pw, Qw, pw, qw, HLT.out, by go_num, HGN, (U22.out.set_ 0 _).set_ 1 _, ((rdn_new16 RPw_22.out (base := w20.heap.size) U20LT.out).far _).far _, ((rdn_new16 RQw_22.out (base := w20.heap.size) U20LT.out).far _).far _, ⟨NPw.out, NQw.out, LPw.out, LQw.out⟩, (X22.out.far (p := ⟨bu, 0, none⟩) BUX.out _).far (p := ⟨bu, 1, none⟩) BUX.out _, (RZ22.out.far _).far _, (HB22.out.setCell (p := ⟨bu, 0, none⟩) HBU.out _).setCell (p := ⟨bu, 1, none⟩) HBU.out _⟩
                case measure => simp [intOf]; omega
              · obtain rfl : xv = 0 := by
                  rw [HXV.out, List.getD_eq_getElem?_getD, List.getElem?_eq_none (by rw [← HL_.out, HNL.out]; omega)]; rfl
                have BUX : Hid (w.heap.size ≠ bu) := HXU.out
                have w_0 := W22.out.cell 0
                have w_1 := W22.out.cell 1
                simp only [List.getElem?_toArray, List.getElem?_cons_zero, List.getElem?_cons_succ] at w_0 w_1
                have u_0 := U22.out.cell 0
                have u_1 := U22.out.cell 1
                have u_f0 := U22.out.frozen 0
                have u_f1 := U22.out.frozen 1
                simp only [List.getElem?_toArray, List.getElem?_cons_zero, List.getElem?_cons_succ] at u_0 u_1
                go_wp2_with fail
                go_roundw
                case rel =>
                  exact ⟨j + 1, v, Pw, Qw, pw, qw, HLT.out, by go_num, HGN, (U22.out.set_ 0 _).set_ 1 _, ((rdn_new16 RPw_22.out (base := w20.heap.size) U20LT.out).far _).far _, ((rdn_new16 RQw_22.out (base := w20.heap.size) U20LT.out).far _).far _, ⟨NPw.out, NQw.out, LPw.out, LQw.out⟩, (X22.out.far (p := ⟨bu, 0, none⟩) BUX.out _).far (p := ⟨bu, 1, none⟩) BUX.out _, (RZ22.out.far _).far _, (HB22.out.setCell (p := ⟨bu, 0, none⟩) HBU.out _).setCell (p := ⟨bu, 1, none⟩) HBU.out _⟩
                case measure => simp [intOf]; omega
            · obtain rfl : j = m := by omega
              clear hlt
              go_wp2_with fail
              have HULN : Hid (u.log.length ≤ 150 ∧ u.rest.length ≤ 150) := by show _ ∧ _; have := HGO.out.lens; have := HG.out; have := HM50.out; omega
              go_loopw [12, 13, 14, 15] (fun i _ _ _ wr => ∃ i1 : Nat, i1 ≤ j ∧ i = .int .i64 (i1 : Int) ∧ Hid (Below w20.heap.size w20 wr)) (fun i _ _ _ _ => j - (intOf i).toNat)
              case atStart => exact ⟨0, Nat.zero_le _, rfl, Below.refl _ _⟩
              case round =>
                rename World => w30
                obtain ⟨i1, hi1, rfl, HBW⟩ := hrel
                have hb := HBW.out
                have HB30 := hid (then_w HB20.out hb)
                have X30 := hid (X20.out.later hb)
                have U30 := hid (U20.out.later hb)
                have RP30 := hid (RP20.out.below hb)
                have RQ30 := hid (RQ20.out.below hb)
                have RZ30 := hid (RZ20.out.below hb)
                clear hb
                have BQ30 := HBW
                by_cases hlt : i1 < j
                · obtain ⟨xv, hxv⟩ : ∃ y_, y_ = (allT t).getD i1 0 := ⟨_, rfl⟩
                  have HDR := hid (HGO.out.again hlt HM50.out hxv.symm)
                  have HXV := hid hxv
                  have hm50 : j ≤ 50 := HM50.out
                  have HLT := hid hlt
                  clear hxv
                  have u_0 := U30.out.cell 0
                  have u_1 := U30.out.cell 1
                  simp only [List.getElem?_toArray, List.getElem?_cons_zero, List.getElem?_cons_succ] at u_0 u_1
                  go_wp2_with fail
                  refine (pdrawE HDR.out rfl rfl rfl rfl P Q p q _ RP30.out.1 RQ30.out.1 NPQ.out.1 NPQ.out.2.1 NPQ.out.2.2.1 NPQ.out.2.2.2 (by have := HULN.out; omega)).mono ?_
                  rintro e w31 ⟨Pw, pw, Qw, qw, rfl, hP, hQ, nP, nQ, lP, lQ, hb⟩
                  clear u_0 u_1
                  have HB31 := hid (then_w HB30.out hb)
                  have BQ31 := hid (then_w BQ30.out hb)
                  have X31 := hid (X30.out.later hb)
                  have U31 := hid (U30.out.later hb)
                  have RP31 := hid (RP30.out.below hb)
                  have RQ31 := hid (RQ30.out.below hb)
                  have RZ31 := hid (RZ30.out.below hb)
                  clear hb
                  clear HB30 BQ30 X30 U30 RP30 RQ30 RZ30
                  have RPw_31 := hid hP
                  clear hP
                  have RQw_31 := hid hQ
                  clear hQ
                  have NPw := hid nP
                  have NQw := hid nQ
                  have LPw := hid lP
                  have LQw := hid lQ
                  clear nP nQ lP lQ
                  go_upto_region 19 with fail
                  obtain ⟨w32, hw⟩ : ∃ x, x = w31.alloc (.cells #[.slice Pw u.log.length pw, .slice Qw u.rest.length qw] 24) := ⟨_, rfl⟩
                  obtain ⟨bw, hbx⟩ : ∃ x, x = w31.heap.size := ⟨_, rfl⟩
                  have W32 : Hid (Lies w32 bw 24 #[.slice Pw u.log.length pw, .slice Qw u.rest.length qw]) := by show Lies _ _ _ _; rw [hw, hbx]; exact Lies.new _ _ _
                  have hb : Below w31.heap.size w31 w32 := by rw [hw]; exact below_alloc _ _
                  rw [← hw, ← hbx]
                  have ne_X_W : Hid ((w.heap.size) ≠ bw) := by show _ ≠ _; rw [hbx]; exact Nat.ne_of_lt X31.out.lt
                  have ne_U_W : Hid (bu ≠ bw) := by show _ ≠ _; rw [hbx]; exact Nat.ne_of_lt U31.out.lt
                  have at_W : Hid (bw = w31.heap.size) := hbx
                  have le_BQ_W : Hid (w20.heap.size ≤ bw) := by show _ ≤ _; rw [hbx]; exact BQ31.out.size
                  have le_HB_W : Hid (w.heap.size ≤ bw) := by show _ ≤ _; rw [hbx]; exact HB31.out.size
                  clear hbx hw
                  have HALW := hid hb
                  have HB32 := hid (then_w HB31.out hb)
                  have BQ32 := hid (then_w BQ31.out hb)
                  have X32 := hid (X31.out.later hb)
                  have U32 := hid (U31.out.later hb)
                  have RP32 := hid (RP31.out.below hb)
                  have RQ32 := hid (RQ31.out.below hb)
                  have RZ32 := hid (RZ31.out.below hb)
                  have RPw_32 := hid (RPw_31.out.below hb)
                  have RQw_32 := hid (RQw_31.out.below hb)
                  clear hb
                  clear HB31 BQ31 X31 U31 RP31 RQ31 RZ31 RPw_31 RQw_31
                  by_cases hz : i1 < nl
                  · obtain ⟨bz, oz, hPe, hbz, hcz⟩ := RZ32.out.1 (by rw [HNL.out]; omega)
                    subst hPe
                    have hcell : w32.cell? ⟨bz, oz + i1, none⟩ = some (.int .i64 xv) := hcz i1 xv (by
                      have h1 : i1 < (allT t).length := by rw [← HL_.out, HNL.out]; exact hz
                      rw [HL_.out, HXV.out, List.getD_eq_getElem?_getD, List.getElem?_eq_getElem h1]; rfl)
                    clear hcz hbz
                    have u_0 := U32.out.cell 0
                    have u_1 := U32.out.cell 1
                    simp only [List.getElem?_toArray, List.getElem?_cons_zero, List.getElem?_cons_succ] at u_0 u_1
                    have w_0 := W32.out.cell 0
                    have w_1 := W32.out.cell 1
                    simp only [List.getElem?_toArray, List.getElem?_cons_zero, List.getElem?_cons_succ] at w_0 w_1
                    clear u_0 u_1 w_0 w_1
                    have u_0 := U32.out.cell 0
                    have u_1 := U32.out.cell 1
                    simp only [List.getElem?_toArray, List.getElem?_cons_zero, List.getElem?_cons_succ] at u_0 u_1
                    have w_0 := W32.out.cell 0
                    have w_1 := W32.out.cell 1
                    simp only [List.getElem?_toArray, List.getElem?_cons_zero, List.getElem?_cons_succ] at w_0 w_1
                    go_wp2_with fail
                    refine (rsameE (t := u) (u := u) (r := true) (saT_iff.2 rfl) rfl rfl rfl rfl Pw Qw pw qw P Q p q _ RPw_32.out.1 RQw_32.out.1 RP32.out.1 RQ32.out.1 (Nat.le_trans HULN.out.1 (by decide)) (Nat.le_trans HULN.out.2 (by decide))).mono ?_
                    rintro e w33 ⟨rfl, hb⟩
                    clear u_0 u_1 w_0 w_1
                    have HB33 := hid (then_w HB32.out hb)
                    have BQ33 := hid (then_w BQ32.out hb)
                    have X33 := hid (X32.out.later hb)
                    have U33 := hid (U32.out.later hb)
                    have W33 := hid (W32.out.later hb)
                    have RP33 := hid (RP32.out.below hb)
                    have RQ33 := hid (RQ32.out.below hb)
                    have RZ33 := hid (RZ32.out.below hb)
                    have RPw_33 := hid (RPw_32.out.below hb)
                    have RQw_33 := hid (RQw_32.out.below hb)
                    clear hb
                    clear HB32 BQ32 X32 U32 W32 RP32 RQ32 RZ32 RPw_32 RQw_32
                    go_wp2_with fail
                    go_roundw
                    case rel => exact ⟨i1 + 1, HLT.out, by go_num, BQ33⟩
                    case measure => simp [intOf]; omega
                  · have u_0 := U32.out.cell 0
                    have u_1 := U32.out.cell 1
                    simp only [List.getElem?_toArray, List.getElem?_cons_zero, List.getElem?_cons_succ] at u_0 u_1
                    have w_0 := W32.out.cell 0
                    have w_1 := W32.out.cell 1
                    simp only [List.getElem?_toArray, List.getElem?_cons_zero, List.getElem?_cons_succ] at w_0 w_1
                    clear u_0 u_1 w_0 w_1
                    have u_0 := U32.out.cell 0
                    have u_1 := U32.out.cell 1
                    simp only [List.getElem?_toArray, List.getElem?_cons_zero, List.getElem?_cons_succ] at u_0 u_1
                    have w_0 := W32.out.cell 0
                    have w_1 := W32.out.cell 1
                    simp only [List.getElem?_toArray, List.getElem?_cons_zero, List.getElem?_cons_succ] at w_0 w_1
                    go_wp2_with fail
                    refine (rsameE (t := u) (u := u) (r := true) (saT_iff.2 rfl) rfl rfl rfl rfl Pw Qw pw qw P Q p q _ RPw_32.out.1 RQw_32.out.1 RP32.out.1 RQ32.out.1 (Nat.le_trans HULN.out.1 (by decide)) (Nat.le_trans HULN.out.2 (by decide))).mono ?_
                    rintro e w33 ⟨rfl, hb⟩
                    clear u_0 u_1 w_0 w_1
                    have HB33 := hid (then_w HB32.out hb)
                    have BQ33 := hid (then_w BQ32.out hb)
                    have X33 := hid (X32.out.later hb)
                    have U33 := hid (U32.out.later hb)
                    have W33 := hid (W32.out.later hb)
                    have RP33 := hid (RP32.out.below hb)
                    have RQ33 := hid (RQ32.out.below hb)
                    have RZ33 := hid (RZ32.out.below hb)
                    have RPw_33 := hid (RPw_32.out.below hb)
                    have RQw_33 := hid (RQw_32.out.below hb)
                    clear hb
                    clear HB32 BQ32 X32 U32 W32 RP32 RQ32 RZ32 RPw_32 RQw_32
                    go_wp2_with fail
                    go_roundw
                    case rel => exact ⟨i1 + 1, HLT.out, by go_num, BQ33⟩
                    case measure => simp [intOf]; omega
                · obtain rfl : i1 = j := by omega
                  clear hlt
                  have HMX2 : Hid ((u.log.length : Int) = max (i1 : Int) (t.log.length : Int)) := by show _ = _; have := HGO.out.len; omega
                  have x0 := X30.out.cell 0
                  have x1 := X30.out.cell 1
                  simp only [List.getElem?_toArray, List.getElem?_cons_zero, List.getElem?_cons_succ] at x0 x1
                  have u_0 := U30.out.cell 0
                  have u_1 := U30.out.cell 1
                  simp only [List.getElem?_toArray, List.getElem?_cons_zero, List.getElem?_cons_succ] at u_0 u_1
                  go_wp2_with fail
                  all_goals go_ret
                  all_goals
                    refine ⟨congrArg (fun b => Ending.returned (Value.bool b)) ?_, HB30.out⟩
                    have e2 := HGO.out.len
                    have e3 := HGO.out.lens
                    have e4 := HM50.out
                    have e5 := HG.out
                    first
                      | rfl
                      | (refine beq_iff_eq.2 ?_; (try unfold wrap64 at *); omega)
                      | (simp; (try unfold wrap64 at *); omega)
        · have h2 : (50 : Int) < k := by omega
          clear h1
          have x0 := X2.out.cell 0
          have x1 := X2.out.cell 1
          simp only [List.getElem?_toArray, List.getElem?_cons_zero, List.getElem?_cons_succ] at x0 x1
          go_wp2_with fail
          refine (fixed16_any _).mono ?_
          rintro e w3 ⟨rfl, hb⟩
          clear x0 x1
          have HB3 := hid (then_w HB2.out hb)
          have X3 := hid (X2.out.later hb)
          have RA3 := hid (RA2.out.below hb)
          have RB3 := hid (RB2.out.below hb)
          clear hb
          clear HB2 X2 RA2 RB2
          go_wp2_with fail
          go_ret
          exact ⟨rfl, HB3.out⟩
    · have hg2 : (100 : Int) < (t.log.length : Int) + (t.rest.length : Int) := by omega
      clear hg
      have x0 := X2.out.cell 0
      have x1 := X2.out.cell 1
      simp only [List.getElem?_toArray, List.getElem?_cons_zero, List.getElem?_cons_succ] at x0 x1
      go_wp2_with fail
      refine (fixed16_any _).mono ?_
      rintro e w3 ⟨rfl, hb⟩
      clear x0 x1
      have HB3 := hid (then_w HB2.out hb)
      have X3 := hid (X2.out.later hb)
      have RA3 := hid (RA2.out.below hb)
      have RB3 := hid (RB2.out.below hb)
      clear hb
      clear HB2 X2 RA2 RB2
      go_wp2_with fail
      go_ret
      exact ⟨rfl, HB3.out⟩
end Go.Proofs.Ytimmoaomhilaeaa
