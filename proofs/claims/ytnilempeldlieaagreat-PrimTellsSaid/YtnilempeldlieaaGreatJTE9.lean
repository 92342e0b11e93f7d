/- The program's word on what is a class. -/
import Derived.Test.YtnilempeldlieaaGreatJ04
import Derived.Test.YtnilempeldlieaaGreatJ12
namespace Go.Proofs.YtnilempeldlieaaGreat
abbrev oTE90 : Oper := ⟨some 25, .move (.tmp 31), 153, "look.go:91", #[⟨5, .data⟩], none⟩
abbrev oTE91 : Oper := ⟨some 32, .extract (.tmp 25) 0, 41, "look.go:91", #[⟨6, .data⟩], none⟩
abbrev oTE92 : Oper := ⟨some 33, .extract (.tmp 25) 1, 4, "look.go:91", #[⟨6, .data⟩, ⟨10, .gcOnly .lateStores⟩], none⟩
abbrev oTE93 : Oper := ⟨none, .store 41 (.tmp 7) (.tmp 32), 0, "look.go:91", #[⟨9, .data⟩, ⟨7, .data⟩, ⟨5, .chain⟩, ⟨0, .phase⟩, ⟨1, .phase⟩, ⟨2, .phase⟩, ⟨3, .phase⟩, ⟨4, .phase⟩, ⟨5, .phase⟩, ⟨6, .phase⟩, ⟨7, .phase⟩, ⟨8, .textOnly .lateStores⟩, ⟨9, .phase⟩], none⟩
abbrev oTE94 : Oper := ⟨some 8, .assign (.tmp 33), 4, "look.go:91", #[⟨8, .data⟩, ⟨10, .chain⟩, ⟨0, .phase⟩, ⟨1, .phase⟩, ⟨2, .phase⟩, ⟨3, .phase⟩, ⟨4, .phase⟩, ⟨5, .phase⟩, ⟨6, .phase⟩, ⟨7, .phase⟩, ⟨8, .phase⟩, ⟨9, .phase⟩, ⟨10, .phase⟩], none⟩
abbrev oTE95 : Oper := ⟨some 42, .move (.tmp 8), 4, "look.go:93", #[], none⟩
abbrev oTE96 : Oper := ⟨some 43, .move (.tmp 42), 4, "look.go:93", #[⟨0, .data⟩], none⟩
abbrev oTE97 : Oper := ⟨some 44, .load 24 (.tmp 2), 24, "look.go:93", #[⟨1, .guard⟩], some (1, true)⟩
abbrev oTE98 : Oper := ⟨some 45, .fieldAddr 41 (.tmp 5) 2, 0, "look.go:93", #[⟨1, .guard⟩], some (1, true)⟩
abbrev oTE99 : Oper := ⟨some 46, .load 34 (.tmp 45), 34, "look.go:93", #[⟨3, .data⟩, ⟨1, .guard⟩], some (1, true)⟩
abbrev oTE910 : Oper := ⟨some 47, .indexAddr 34 (.tmp 46) (.const (Go.Value.int .i64 1)), 0, "look.go:93", #[⟨4, .data⟩, ⟨1, .guard⟩], some (1, true)⟩
abbrev oTE911 : Oper := ⟨some 48, .load 3 (.tmp 47), 3, "look.go:93", #[⟨5, .data⟩, ⟨1, .guard⟩], some (1, true)⟩
abbrev oTE912 : Oper := ⟨some 49, .call { callee := .value (.func 243), args := #[.tmp 44, .tmp 48], argTypes := #[24, 3] }, 4, "look.go:93", #[⟨2, .data⟩, ⟨6, .data⟩, ⟨1, .chain⟩, ⟨1, .guard⟩], some (1, true)⟩
abbrev oTE913 : Oper := ⟨some 50, .pick (.tmp 43) (.tmp 49) (.const (Go.Value.bool false)), 4, "look.go:93", #[⟨1, .data⟩, ⟨7, .data⟩], none⟩
abbrev oTE914 : Oper := ⟨some 51, .move (.tmp 50), 4, "look.go:93", #[⟨8, .data⟩, ⟨7, .chain⟩], none⟩
abbrev oTE915 : Oper := ⟨some 52, .move (.tmp 10), 4, "look.go:93", #[⟨9, .guard⟩], some (9, true)⟩
abbrev oTE916 : Oper := ⟨some 53, .pick (.tmp 51) (.tmp 52) (.const (Go.Value.bool false)), 4, "look.go:93", #[⟨9, .data⟩, ⟨10, .data⟩], none⟩
abbrev oTE917 : Oper := ⟨some 54, .move (.tmp 53), 4, "look.go:93", #[⟨11, .data⟩, ⟨9, .chain⟩], none⟩
abbrev oTE918 : Oper := ⟨some 55, .move (.tmp 9), 3, "look.go:93", #[⟨12, .guard⟩], some (12, true)⟩
abbrev oTE919 : Oper := ⟨some 56, .binOp .leq 3 (.const (Go.Value.int .i64 0)) (.tmp 55) 3, 4, "look.go:93", #[⟨13, .data⟩, ⟨12, .guard⟩], some (12, true)⟩
abbrev oTE920 : Oper := ⟨some 57, .pick (.tmp 54) (.tmp 56) (.const (Go.Value.bool false)), 4, "look.go:93", #[⟨12, .data⟩, ⟨14, .data⟩], none⟩
abbrev oTE921 : Oper := ⟨some 58, .move (.tmp 57), 4, "look.go:93", #[⟨15, .data⟩, ⟨12, .chain⟩], none⟩
abbrev oTE922 : Oper := ⟨some 59, .move (.tmp 9), 3, "look.go:93", #[⟨16, .guard⟩], some (16, true)⟩
abbrev oTE923 : Oper := ⟨some 60, .binOp .leq 3 (.tmp 59) (.const (Go.Value.int .i64 64)) 3, 4, "look.go:93", #[⟨17, .data⟩, ⟨16, .guard⟩], some (16, true)⟩
abbrev oTE924 : Oper := ⟨some 61, .pick (.tmp 58) (.tmp 60) (.const (Go.Value.bool false)), 4, "look.go:93", #[⟨16, .data⟩, ⟨18, .data⟩], none⟩
abbrev oTE925 : Oper := ⟨some 4, .assign (.tmp 61), 4, "look.go:93", #[⟨19, .data⟩, ⟨16, .chain⟩, ⟨0, .phase⟩, ⟨1, .phase⟩, ⟨2, .phase⟩, ⟨3, .phase⟩, ⟨4, .phase⟩, ⟨5, .phase⟩, ⟨6, .phase⟩, ⟨7, .phase⟩, ⟨8, .phase⟩, ⟨9, .phase⟩, ⟨10, .phase⟩, ⟨11, .phase⟩, ⟨12, .phase⟩, ⟨13, .phase⟩, ⟨14, .phase⟩, ⟨15, .phase⟩, ⟨16, .phase⟩, ⟨17, .phase⟩, ⟨18, .phase⟩, ⟨19, .phase⟩], none⟩
open Go.RowKit
set_option maxRecDepth 100000
theorem kind0_9 {o : Ob} (h : kiB o = true) (hl : 0 < o.slots.length) : o.kind = 0 := by
  unfold kiB at h
  split at h
  next =>
   assumption
  next =>
   split at h
   next =>
    simp only [Bool.and_eq_true, decide_eq_true_eq] at h
    rw [h.1.1] at hl; simp at hl
   next =>
    split at h
    next =>
     simp only [Bool.and_eq_true, decide_eq_true_eq] at h
     rw [h.1.1] at hl; simp at hl
    next =>
     cases h
theorem pl9_ref {h : Hp} {c : Int} (hr : refB h.objs.length c = false) : clB9 h c = false := by unfold clB9; rw [hr]; simp
theorem pl9_len {h : Hp} {c : Int} (_hr : refB h.objs.length c = true) (hl : (obAt h c).slots.length < 3) : clB9 h c = false := by unfold clB9; rw [decide_eq_false (show ¬ 3 ≤ (obAt h c).slots.length by omega)]; simp
theorem pl9_all {h : Hp} {c : Int} (hm : mayB h = true) (hr : refB h.objs.length c = true) (hl : 3 ≤ (obAt h c).slots.length) (hk : (obAt h c).kind = 0) :
    clB9 h c = (refB h.objs.length (sl9 h c 0) && (paB9 h (sl9 h c 1) && (nB (sl9 h c 2) && decide (0 ≤ nV (sl9 h c 2) ∧ nV (sl9 h c 2) ≤ 64)))) := by
  unfold clB9; rw [hm, hr, decide_eq_true hk, decide_eq_true hl]; rfl
set_option maxHeartbeats 2000000 in
theorem pclass_any9 (h : Hp) (c : Int) (A : Option Addr) (d : Nat) (u w : World) (hs : ObsR u A h.objs) (hu : Below u.heap.size u w) (hm : mayB h = true) :
    Calls Tryz.prog 232 #[.agg #[.slice A h.objs.length d, .int .i64 h.cap, .int .i64 h.last], .int .i64 c] w fun e w' => e = .returned (.bool (clB9 h c)) ∧ Below w.heap.size w w' := by
  obtain ⟨w0, hw0⟩ : ∃ w0, w0 = w.alloc (.cells #[Value.slice A h.objs.length d, Value.int .i64 h.cap, Value.int .i64 h.last] 24) := ⟨_, rfl⟩
  have HB0 : Hid (Below w.heap.size w w0) := by show Below _ _ _; rw [hw0]; exact below_alloc _ _
  have HX0 : Hid (Lies w0 w.heap.size 24 #[Value.slice A h.objs.length d, Value.int .i64 h.cap, Value.int .i64 h.last]) := by
    show Lies _ _ _ _
    rw [hw0]; exact Lies.new _ _ _
  have HS := hid hs
  have HU0 : Hid (Below u.heap.size u w0) := hu.trans (HB0.out.mono hu.size)
  have HC0 : ∀ W : World, Below u.heap.size u W → Calls Tryz.prog 217 #[.agg #[.slice A h.objs.length d, .int .i64 h.cap, .int .i64 h.last], .int .i64 c] W (OjP9 u W (obD9 h c) (refB h.objs.length c)) := fun W hW => pobj_any9 h c A d u W hs hW
  have HC : ∀ (v : Int) (W : World), Below u.heap.size u W → Calls Tryz.prog 217 #[.agg #[.slice A h.objs.length d, .int .i64 h.cap, .int .i64 h.last], .int .i64 v] W (OjP9 u W (obD9 h v) (refB h.objs.length v)) := fun v W hW => pobj_any9 h v A d u W hs hW
  have HD : ∀ (v : Int) (W : World), Below u.heap.size u W → Calls Tryz.prog 243 #[.agg #[.slice A h.objs.length d, .int .i64 h.cap, .int .i64 h.last], .int .i64 v] W (fun e w' => e = .returned (.bool (paB9 h v)) ∧ Below W.heap.size W w') := fun v W hW => pdict_any9 h v A d u W hs hW
  clear hs hu
  go_enter Tryz.func232, Tryz.ntmps232
  go_upto_region 1 with fail
  rw [← hw0]
  clear hw0
  obtain ⟨x0, x1, x2⟩ := HX0.out.c3
  cases hr : refB h.objs.length c
  next =>
   have E := pl9_ref hr
   rw [hr] at HC0
   have EE := hid E
   clear E hr
   go_wp2_with fail
   refine (HC0 _ HU0.out).mono ?_
   rintro e w1 ⟨S, dd, rfl, -, -, hb⟩
   have HB1 := hid (HB0.out.trans (hb.mono HB0.out.size))
   clear hb x0 x1 x2
   go_wp2_with fail
   go_ret
   exact ⟨by rw [EE.out]; rfl, HB1.out.alloc HB1.out.size _⟩
  next =>
   rw [hr, obD9_yes hr] at HC0
   have hki : (obAt h c).slots.length ≤ 64 ∧ (0 < (obAt h c).slots.length → (obAt h c).kind = 0) := by
     obtain ⟨i, -, -, ho⟩ := obAt_get hr
     have := ob_kind (may_all hm _ (List.mem_of_getElem? ho))
     exact ⟨(kind_len this).1, kind0_9 this⟩
   have HKI := hid hki
   have HM := hid hm
   have HR := hid hr
   go_wp2_with fail
   refine (HC0 _ HU0.out).mono ?_
   rintro e w1 ⟨S, dd, rfl, hin, -, hb⟩
   have HIN := hid hin
   obtain ⟨w1_, hw1⟩ : ∃ W, W = w1.alloc (.cells #[.int .i64 (obAt h c).cls, .int .i64 (obAt h c).kind, .slice S (obAt h c).slots.length dd, .string (obAt h c).text, .int .i64 (obAt h c).bits, .int .i64 (obAt h c).hash] 41) := ⟨_, rfl⟩
   obtain ⟨g, hg⟩ : ∃ g, g = w1.heap.size := ⟨_, rfl⟩
   have HG : Hid (Lies w1_ g 41 #[.int .i64 (obAt h c).cls, .int .i64 (obAt h c).kind, .slice S (obAt h c).slots.length dd, .string (obAt h c).text, .int .i64 (obAt h c).bits, .int .i64 (obAt h c).hash]) := by
     show Lies _ _ _ _
     rw [hw1, hg]; exact Lies.new _ _ _
   have hb1 : Below w0.heap.size w0 w1_ := by rw [hw1]; exact then_w hb (below_alloc _ _)
   have HW1 := hid (HB0.out.trans (hb1.mono HB0.out.size))
   have HU_ := hid (HU0.out.trans (hb1.mono HU0.out.size))
   have HX1 := hid (HX0.out.later hb1)
   have hgx : w.heap.size ≠ g := by
     have := HX0.out.lt
     have := hb.size
     omega
   clear hb hb1 hin x0 x1 x2 hki hm hr
   have x0 := HX1.out.cell 0
   have x1 := HX1.out.cell 1
   have x2 := HX1.out.cell 2
   have y2 := HG.out.cell 2
   simp only [List.getElem?_toArray, List.getElem?_cons_zero, List.getElem?_cons_succ] at x0 x1 x2 y2
   go_upto_region 2 with fail
   rw [← hw1, ← hg]
   clear hw1 hg
   by_cases hl : (obAt h c).slots.length < 3
   next =>
    have hlI : ((obAt h c).slots.length : Int) < 3 := by omega
    have EE : Hid (clB9 h c = false) := pl9_len HR.out hl
    go_wp2_with fail
    go_ret
    exact ⟨by rw [EE.out]; rfl, HW1.out⟩
   next =>
    have hlI : ¬ ((obAt h c).slots.length : Int) < 3 := by omega
    obtain ⟨bs, os, rfl, hbs, hcs⟩ := HIN.out (by omega)
    have EE := hid (pl9_all (h := h) (c := c) HM.out HR.out (by omega) (HKI.out.2 (by omega)))
    have S0 := hid (hcs 0 _ (sl_at9 (by omega)))
    have S1 := hid (hcs 1 _ (sl_at9 (by omega)))
    have S2 := hid (hcs 2 _ (sl_at9 (by omega)))
    rw [Nat.add_zero] at S0
    obtain ⟨v0, hv0⟩ : ∃ v, v = sl9 h c 0 := ⟨_, rfl⟩
    obtain ⟨v1, hv1⟩ : ∃ v, v = sl9 h c 1 := ⟨_, rfl⟩
    obtain ⟨v2, hv2⟩ : ∃ v, v = sl9 h c 2 := ⟨_, rfl⟩
    rw [← hv0, ← hv1, ← hv2] at EE
    rw [← hv0] at S0
    rw [← hv1] at S1
    rw [← hv2] at S2
    have HCA := HC v0
    have HDB := HD v1
    obtain ⟨oa, hoa⟩ : ∃ o, o = obD9 h v0 := ⟨_, rfl⟩
    obtain ⟨ba, hba⟩ : ∃ b, b = refB h.objs.length v0 := ⟨_, rfl⟩
    obtain ⟨bb, hbb⟩ : ∃ b, b = paB9 h v1 := ⟨_, rfl⟩
    rw [← hoa, ← hba] at HCA
    rw [← hbb] at HDB
    rw [← hba, ← hbb] at EE
    obtain ⟨n, hn⟩ : ∃ n, n = (obAt h c).slots.length := ⟨_, rfl⟩
    rw [← hn] at hl hlI y2 HG
    have k0 : 0 < n := by omega
    have k1 : 1 < n := by omega
    have k2 : 2 < n := by omega
    have g0 : (0 : Int) < (n : Int) := by omega
    have g1 : (1 : Int) < (n : Int) := by omega
    have g2 : (2 : Int) < (n : Int) := by omega
    clear hcs hv0 hv1 hv2 hoa hba hbb hn hl HC HC0 HD
    have hnx : w.heap.size ≠ w1_.heap.size := Nat.ne_of_lt HX1.out.lt
    have hng : g ≠ w1_.heap.size := Nat.ne_of_lt HG.out.lt
    have hnb : bs ≠ w1_.heap.size := Nat.ne_of_lt (Nat.lt_of_lt_of_le hbs HU_.out.size)
    have s0 := cell_later HU_.out S0.out
    go_upto_region 4 with fail
    go_cut [7, 8] from 25 to 33 (fun p q wx => ∃ (g : Nat) (S : Option Addr) (dd : Nat), p = .pointer (some ⟨g, 0, none⟩) ∧ q = .bool ba ∧ Lies wx g 41 #[.int .i64 oa.cls, .int .i64 oa.kind, .slice S oa.slots.length dd, .string oa.text, .int .i64 oa.bits, .int .i64 oa.hash] ∧ IntsR u S oa.slots ∧ Below w1_.heap.size w1_ wx)
    case first =>
      refine wp_region_held_drew (S := (fun w' => w'.cell? ⟨w.heap.size, 0, none⟩ = some (.slice A h.objs.length d) ∧ w'.cell? ⟨w.heap.size, 1, none⟩ = some (.int .i64 h.cap) ∧ w'.cell? ⟨w.heap.size, 2, none⟩ = some (.int .i64 h.last) ∧ w'.cell? ⟨g, 2, none⟩ = some (.slice (some ⟨bs, os, none⟩) n dd) ∧ w'.cell? ⟨bs, os, none⟩ = some (.int .i64 v0))) (by kernel_rfl) ?_ (fun hH0 => ?_)
      next =>
       exact ⟨x0, x1, x2, y2, s0⟩
      refine tkJ 0 ⟨some 26, .load 24 (.tmp 2), 24, "look.go:91", #[], none⟩ ?_
      refine tkJ 1 ⟨some 27, .fieldAddr 41 (.tmp 5) 2, 0, "look.go:91", #[], none⟩ ?_
      refine tkJ 2 ⟨some 28, .load 34 (.tmp 27), 34, "look.go:91", #[⟨1, .data⟩], none⟩ ?_
      refine tkJ 3 ⟨some 29, .indexAddr 34 (.tmp 28) (.const (Go.Value.int .i64 0)), 0, "look.go:91", #[⟨2, .data⟩], none⟩ ?_
      refine tkJ 4 ⟨some 30, .load 3 (.tmp 29), 3, "look.go:91", #[⟨3, .data⟩], none⟩ ?_
      refine wpAnyH_ready (rs := [5, 9]) (by kernel_rfl) (by simp) ?_
      refine AllReadyH.cons (i := 5) (o := ⟨some 31, .call { callee := .value (.func 217), args := #[.tmp 26, .tmp 30], argTypes := #[24, 3] }, 153, "look.go:91", #[⟨0, .data⟩, ⟨4, .data⟩], none⟩) rfl (fun K hK => ?_) (AllReadyH.cons (i := 9) (o := ⟨some 7, .alloc 41, 0, "look.go:91", #[], none⟩) rfl (fun K hK => ?_) AllReadyH.nil)
      next =>
       go_simp
       go_at_call 217
       refine (HCA _ (HU_.out.trans ((Below.refl w1_.heap.size w1_).drew.mono HU_.out.size))).mono ?_
       rintro e w' ⟨S1, d1, rfl, hin, -, hb⟩
       have hB0_ : Below w1_.heap.size w1_ w' := then_w (Below.refl _ _).drew hb
       refine hK.out _ _ ?_ (fun hH1 => ?_)
       next =>
        exact ⟨cell_later hb hH0.1, cell_later hb hH0.2.1, cell_later hb hH0.2.2.1, cell_later hb hH0.2.2.2.1, cell_later hb hH0.2.2.2.2⟩
       clear hK K
       try simp only [apt12]
       clear hb
       refine tkJ 6 oTE90 ?_
       refine tkJ 7 oTE91 ?_
       refine tkJ 8 oTE92 ?_
       refine rdJ 9 ⟨some 7, .alloc 41, 0, "look.go:91", #[], none⟩ fun K hK => ?_
       go_simp
       refine hK.out _ _ ?_ (fun hH2 => ?_)
       next =>
        exact ⟨cell_old hH1.1, cell_old hH1.2.1, cell_old hH1.2.2.1, cell_old hH1.2.2.2.1, cell_old hH1.2.2.2.2⟩
       clear hK K
       try simp only [apt12]
       refine rdJ 10 oTE93 fun K hK => ?_
       go_simp
       refine hK.out _ _ ?_ (fun hH3 => ?_)
       next =>
        exact ⟨cell_old hH1.1, cell_old hH1.2.1, cell_old hH1.2.2.1, cell_old hH1.2.2.2.1, cell_old hH1.2.2.2.2⟩
       clear hK K
       try simp only [apt12]
       refine tkJ 11 oTE94 ?_
       refine wpAnyH_done (by kernel_rfl) ?_ _
       obtain ⟨nb_, hN⟩ : ∃ n, n = w'.heap.size := ⟨_, rfl⟩
       rw [← hN]
       obtain ⟨V_, hV⟩ : ∃ V, V = w'.alloc (.cells #[.int .i64 oa.cls, .int .i64 oa.kind, .slice S1 oa.slots.length d1, .string oa.text, .int .i64 oa.bits, .int .i64 oa.hash] 41) := ⟨_, rfl⟩
       have hLV : Lies V_ nb_ 41 #[.int .i64 oa.cls, .int .i64 oa.kind, .slice S1 oa.slots.length d1, .string oa.text, .int .i64 oa.bits, .int .i64 oa.hash] := by rw [hV, hN]; exact Lies.new _ _ _
       have hBV : Below w1_.heap.size w1_ V_ := by rw [hV]; exact then_w hB0_ (below_alloc _ _)
       rw [← hV]
       clear hV hN
       have L_ := hid hLV
       clear hLV hB0_
       go_wp2_with fail
       go_meet
       exact ⟨nb_, S1, d1, rfl, rfl, L_.out, hin, hBV⟩
      next =>
       go_simp
       refine hK.out _ _ ?_ (fun hH1 => ?_)
       next =>
        exact ⟨cell_old hH0.1, cell_old hH0.2.1, cell_old hH0.2.2.1, cell_old hH0.2.2.2.1, cell_old hH0.2.2.2.2⟩
       clear hK K
       try simp only [apt12]
       refine rdJ 5 ⟨some 31, .call { callee := .value (.func 217), args := #[.tmp 26, .tmp 30], argTypes := #[24, 3] }, 153, "look.go:91", #[⟨0, .data⟩, ⟨4, .data⟩], none⟩ fun K hK => ?_
       go_simp
       go_at_call 217
       refine (HCA _ (HU_.out.trans ((below_alloc w1_ (.cells #[.int .i64 0, .int .i64 0, .slice none 0 0, .string ⟨#[]⟩, .int .i64 0, .int .i64 0] 41)).drew.mono HU_.out.size))).mono ?_
       rintro e w' ⟨S1, d1, rfl, hin, -, hb⟩
       have hL0 := ((Lies.new w1_ 41 #[.int .i64 0, .int .i64 0, .slice none 0 0, .string ⟨#[]⟩, .int .i64 0, .int .i64 0]).drew).later hb
       have hB0_ : Below w1_.heap.size w1_ w' := then_w (below_alloc w1_ (.cells #[.int .i64 0, .int .i64 0, .slice none 0 0, .string ⟨#[]⟩, .int .i64 0, .int .i64 0] 41)).drew hb
       obtain ⟨k0, k1, k2, k3, k4, k5⟩ := hL0.c6
       obtain ⟨kf0, kf1, kf2, kf3, kf4, kf5⟩ := hL0.f6
       refine hK.out _ _ ?_ (fun hH2 => ?_)
       next =>
        exact ⟨cell_later hb hH1.1, cell_later hb hH1.2.1, cell_later hb hH1.2.2.1, cell_later hb hH1.2.2.2.1, cell_later hb hH1.2.2.2.2⟩
       clear hK K
       try simp only [apt12]
       clear hb
       refine tkJ 6 oTE90 ?_
       refine tkJ 7 oTE91 ?_
       refine tkJ 8 oTE92 ?_
       refine rdJ 10 oTE93 fun K hK => ?_
       go_simp
       refine hK.out _ _ ?_ (fun hH3 => ?_)
       next =>
        exact ⟨far69 hnx hH2.1, far69 hnx hH2.2.1, far69 hnx hH2.2.2.1, far69 hng hH2.2.2.2.1, far69 hnb hH2.2.2.2.2⟩
       clear hK K
       try simp only [apt12]
       refine tkJ 11 oTE94 ?_
       refine wpAnyH_done (by kernel_rfl) ?_ _
       obtain ⟨V_, hV⟩ : ∃ V, V = ((((((w'.setCell ⟨w1_.heap.size, 0, none⟩ (.int .i64 oa.cls)).setCell ⟨w1_.heap.size, 1, none⟩ (.int .i64 oa.kind)).setCell ⟨w1_.heap.size, 2, none⟩ (.slice S1 oa.slots.length d1)).setCell ⟨w1_.heap.size, 3, none⟩ (.string oa.text)).setCell ⟨w1_.heap.size, 4, none⟩ (.int .i64 oa.bits)).setCell ⟨w1_.heap.size, 5, none⟩ (.int .i64 oa.hash)) := ⟨_, rfl⟩
       have hLV : Lies V_ w1_.heap.size 41 #[.int .i64 oa.cls, .int .i64 oa.kind, .slice S1 oa.slots.length d1, .string oa.text, .int .i64 oa.bits, .int .i64 oa.hash] := by
         rw [hV]
         have := ((((((hL0.set_ 0 (.int .i64 oa.cls)).set_ 1 (.int .i64 oa.kind)).set_ 2 (.slice S1 oa.slots.length d1)).set_ 3 (.string oa.text)).set_ 4 (.int .i64 oa.bits)).set_ 5 (.int .i64 oa.hash))
         simpa using this
       have hBV : Below w1_.heap.size w1_ V_ := by rw [hV]; exact ((((((hB0_.setCell (p := ⟨w1_.heap.size, 0, none⟩) (Nat.le_refl _) (.int .i64 oa.cls)).setCell (p := ⟨w1_.heap.size, 1, none⟩) (Nat.le_refl _) (.int .i64 oa.kind)).setCell (p := ⟨w1_.heap.size, 2, none⟩) (Nat.le_refl _) (.slice S1 oa.slots.length d1)).setCell (p := ⟨w1_.heap.size, 3, none⟩) (Nat.le_refl _) (.string oa.text)).setCell (p := ⟨w1_.heap.size, 4, none⟩) (Nat.le_refl _) (.int .i64 oa.bits)).setCell (p := ⟨w1_.heap.size, 5, none⟩) (Nat.le_refl _) (.int .i64 oa.hash))
       rw [← hV]
       clear hV hL0 k0 k1 k2 k3 k4 k5 kf0 kf1 kf2 kf3 kf4 kf5
       have L_ := hid hLV
       clear hLV hB0_
       go_wp2_with fail
       go_meet
       exact ⟨w1_.heap.size, S1, d1, rfl, rfl, L_.out, hin, hBV⟩
    case rest =>
      rename World => w2_
      obtain ⟨ga, Sa, da, rfl, rfl, -, -, hb⟩ := hcut
      have HG2 := hid (HG.out.later hb)
      have HW2 := hid (HW1.out.trans (hb.mono HW1.out.size))
      have HU2 := hid (HU_.out.trans (hb.mono HU_.out.size))
      have HX2 := hid (HX1.out.later hb)
      clear hb x0 x1 x2 y2 s0 hnx hng hnb
      have x0 := HX2.out.cell 0
      have x1 := HX2.out.cell 1
      have x2 := HX2.out.cell 2
      have y2 := HG2.out.cell 2
      simp only [List.getElem?_toArray, List.getElem?_cons_zero, List.getElem?_cons_succ] at x0 x1 x2 y2
      have s1 := cell_later HU2.out S1.out
      have s2 := cell_later HU2.out S2.out
      go_wp2_with fail
      refine (n_any v2 _).mono ?_
      rintro e w4 ⟨rfl, rfl⟩
      cases ba
      next =>
       have E : Hid (clB9 h c = false) := by show _ = _; rw [EE.out]; rfl
       go_upto_region 6 with fail
       refine wp_region_held_drew (S := (fun w' => w'.cell? ⟨w.heap.size, 0, none⟩ = some (.slice A h.objs.length d) ∧ w'.cell? ⟨w.heap.size, 1, none⟩ = some (.int .i64 h.cap) ∧ w'.cell? ⟨w.heap.size, 2, none⟩ = some (.int .i64 h.last) ∧ w'.cell? ⟨g, 2, none⟩ = some (.slice (some ⟨bs, os, none⟩) n dd) ∧ w'.cell? ⟨bs, os + 1, none⟩ = some (.int .i64 v1))) (by kernel_rfl) ?_ (fun hH0 => ?_)
       next =>
        exact ⟨x0, x1, x2, y2, s1⟩
       refine tkJ 0 oTE95 ?_
       refine tkJ 1 oTE96 ?_
       refine tkP 2 oTE97 ?_
       refine tkP 3 oTE98 ?_
       refine tkP 4 oTE99 ?_
       refine tkP 5 oTE910 ?_
       refine tkP 6 oTE911 ?_
       refine tkP 7 oTE912 ?_
       refine tkJ 8 oTE913 ?_
       refine tkJ 9 oTE914 ?_
       refine tkP 10 oTE915 ?_
       refine tkJ 11 oTE916 ?_
       refine tkJ 12 oTE917 ?_
       refine tkP 13 oTE918 ?_
       refine tkP 14 oTE919 ?_
       refine tkJ 15 oTE920 ?_
       refine tkJ 16 oTE921 ?_
       refine tkP 17 oTE922 ?_
       refine tkP 18 oTE923 ?_
       refine tkJ 19 oTE924 ?_
       refine tkJ 20 oTE925 ?_
       refine wpAnyH_done (by kernel_rfl) ?_ _
       go_wp2_with fail
       go_ret
       exact ⟨by rw [E.out]; rfl, HW2.out.drew⟩
      next =>
       cases bb
       next =>
        have E : Hid (clB9 h c = false) := by show _ = _; rw [EE.out]; rfl
        go_upto_region 6 with fail
        refine wp_region_held_drew (S := (fun w' => w'.cell? ⟨w.heap.size, 0, none⟩ = some (.slice A h.objs.length d) ∧ w'.cell? ⟨w.heap.size, 1, none⟩ = some (.int .i64 h.cap) ∧ w'.cell? ⟨w.heap.size, 2, none⟩ = some (.int .i64 h.last) ∧ w'.cell? ⟨g, 2, none⟩ = some (.slice (some ⟨bs, os, none⟩) n dd) ∧ w'.cell? ⟨bs, os + 1, none⟩ = some (.int .i64 v1))) (by kernel_rfl) ?_ (fun hH0 => ?_)
        next =>
         exact ⟨x0, x1, x2, y2, s1⟩
        refine tkJ 0 oTE95 ?_
        refine tkJ 1 oTE96 ?_
        refine tkJ 2 oTE97 ?_
        refine tkJ 3 oTE98 ?_
        refine tkJ 4 oTE99 ?_
        refine tkJ 5 oTE910 ?_
        refine tkJ 6 oTE911 ?_
        refine rdJ 7 oTE912 fun K hK => ?_
        go_simp
        go_at_call 243
        refine (HDB _ (HU2.out.trans ((Below.refl w2_.heap.size w2_).drew.mono HU2.out.size))).mono ?_
        rintro e u2 ⟨rfl, hb⟩
        have HV2 := hid (then_w (Below.refl w2_.heap.size w2_).drew hb)
        refine hK.out _ _ ?_ (fun hH1 => ?_)
        next =>
         exact ⟨cell_later hb hH0.1, cell_later hb hH0.2.1, cell_later hb hH0.2.2.1, cell_later hb hH0.2.2.2.1, cell_later hb hH0.2.2.2.2⟩
        clear hK K
        try simp only [apt12]
        clear hb
        refine tkJ 8 oTE913 ?_
        refine tkJ 9 oTE914 ?_
        refine tkP 10 oTE915 ?_
        refine tkJ 11 oTE916 ?_
        refine tkJ 12 oTE917 ?_
        refine tkP 13 oTE918 ?_
        refine tkP 14 oTE919 ?_
        refine tkJ 15 oTE920 ?_
        refine tkJ 16 oTE921 ?_
        refine tkP 17 oTE922 ?_
        refine tkP 18 oTE923 ?_
        refine tkJ 19 oTE924 ?_
        refine tkJ 20 oTE925 ?_
        refine wpAnyH_done (by kernel_rfl) ?_ _
        go_wp2_with fail
        go_ret
        exact ⟨by rw [E.out]; rfl, HW2.out.trans (HV2.out.mono HW2.out.size)⟩
       next =>
        cases h2 : nB v2
        next =>
         rw [h2] at EE
         clear h2
         have E : Hid (clB9 h c = false) := by show _ = _; rw [EE.out]; rfl
         go_upto_region 6 with fail
         refine wp_region_held_drew (S := (fun w' => w'.cell? ⟨w.heap.size, 0, none⟩ = some (.slice A h.objs.length d) ∧ w'.cell? ⟨w.heap.size, 1, none⟩ = some (.int .i64 h.cap) ∧ w'.cell? ⟨w.heap.size, 2, none⟩ = some (.int .i64 h.last) ∧ w'.cell? ⟨g, 2, none⟩ = some (.slice (some ⟨bs, os, none⟩) n dd) ∧ w'.cell? ⟨bs, os + 1, none⟩ = some (.int .i64 v1))) (by kernel_rfl) ?_ (fun hH0 => ?_)
         next =>
          exact ⟨x0, x1, x2, y2, s1⟩
         refine tkJ 0 oTE95 ?_
         refine tkJ 1 oTE96 ?_
         refine tkJ 2 oTE97 ?_
         refine tkJ 3 oTE98 ?_
         refine tkJ 4 oTE99 ?_
         refine tkJ 5 oTE910 ?_
         refine tkJ 6 oTE911 ?_
         refine rdJ 7 oTE912 fun K hK => ?_
         go_simp
         go_at_call 243
         refine (HDB _ (HU2.out.trans ((Below.refl w2_.heap.size w2_).drew.mono HU2.out.size))).mono ?_
         rintro e u2 ⟨rfl, hb⟩
         have HV2 := hid (then_w (Below.refl w2_.heap.size w2_).drew hb)
         refine hK.out _ _ ?_ (fun hH1 => ?_)
         next =>
          exact ⟨cell_later hb hH0.1, cell_later hb hH0.2.1, cell_later hb hH0.2.2.1, cell_later hb hH0.2.2.2.1, cell_later hb hH0.2.2.2.2⟩
         clear hK K
         try simp only [apt12]
         clear hb
         refine tkJ 8 oTE913 ?_
         refine tkJ 9 oTE914 ?_
         refine tkJ 10 oTE915 ?_
         refine tkJ 11 oTE916 ?_
         refine tkJ 12 oTE917 ?_
         refine tkP 13 oTE918 ?_
         refine tkP 14 oTE919 ?_
         refine tkJ 15 oTE920 ?_
         refine tkJ 16 oTE921 ?_
         refine tkP 17 oTE922 ?_
         refine tkP 18 oTE923 ?_
         refine tkJ 19 oTE924 ?_
         refine tkJ 20 oTE925 ?_
         refine wpAnyH_done (by kernel_rfl) ?_ _
         go_wp2_with fail
         go_ret
         exact ⟨by rw [E.out]; rfl, HW2.out.trans (HV2.out.mono HW2.out.size)⟩
        next =>
         rw [h2] at EE
         clear h2
         obtain ⟨m, hm⟩ : ∃ m, m = nV v2 := ⟨_, rfl⟩
         rw [← hm] at EE ⊢
         clear hm
         by_cases h3 : 0 ≤ m
         next =>
          have h3D : decide (0 ≤ m) = true := decide_eq_true h3
          by_cases h4 : m ≤ 64
          next =>
           have h4D : decide (m ≤ 64) = true := decide_eq_true h4
           have E : Hid (clB9 h c = true) := by show _ = _; rw [EE.out, decide_eq_true (And.intro h3 h4)]; rfl
           go_upto_region 6 with fail
           refine wp_region_held_drew (S := (fun w' => w'.cell? ⟨w.heap.size, 0, none⟩ = some (.slice A h.objs.length d) ∧ w'.cell? ⟨w.heap.size, 1, none⟩ = some (.int .i64 h.cap) ∧ w'.cell? ⟨w.heap.size, 2, none⟩ = some (.int .i64 h.last) ∧ w'.cell? ⟨g, 2, none⟩ = some (.slice (some ⟨bs, os, none⟩) n dd) ∧ w'.cell? ⟨bs, os + 1, none⟩ = some (.int .i64 v1))) (by kernel_rfl) ?_ (fun hH0 => ?_)
           next =>
            exact ⟨x0, x1, x2, y2, s1⟩
           refine tkJ 0 oTE95 ?_
           refine tkJ 1 oTE96 ?_
           refine tkJ 2 oTE97 ?_
           refine tkJ 3 oTE98 ?_
           refine tkJ 4 oTE99 ?_
           refine tkJ 5 oTE910 ?_
           refine tkJ 6 oTE911 ?_
           refine rdJ 7 oTE912 fun K hK => ?_
           go_simp
           go_at_call 243
           refine (HDB _ (HU2.out.trans ((Below.refl w2_.heap.size w2_).drew.mono HU2.out.size))).mono ?_
           rintro e u2 ⟨rfl, hb⟩
           have HV2 := hid (then_w (Below.refl w2_.heap.size w2_).drew hb)
           refine hK.out _ _ ?_ (fun hH1 => ?_)
           next =>
            exact ⟨cell_later hb hH0.1, cell_later hb hH0.2.1, cell_later hb hH0.2.2.1, cell_later hb hH0.2.2.2.1, cell_later hb hH0.2.2.2.2⟩
           clear hK K
           try simp only [apt12]
           clear hb
           refine tkJ 8 oTE913 ?_
           refine tkJ 9 oTE914 ?_
           refine tkJ 10 oTE915 ?_
           refine tkJ 11 oTE916 ?_
           refine tkJ 12 oTE917 ?_
           refine tkJ 13 oTE918 ?_
           refine tkJ 14 oTE919 ?_
           refine tkJ 15 oTE920 ?_
           refine tkJ 16 oTE921 ?_
           refine tkJ 17 oTE922 ?_
           refine tkJ 18 oTE923 ?_
           refine tkJ 19 oTE924 ?_
           refine tkJ 20 oTE925 ?_
           refine wpAnyH_done (by kernel_rfl) ?_ _
           go_wp2_with fail
           go_ret
           exact ⟨by rw [E.out]; rfl, HW2.out.trans (HV2.out.mono HW2.out.size)⟩
          next =>
           have h4D : decide (m ≤ 64) = false := decide_eq_false h4
           have E : Hid (clB9 h c = false) := by show _ = _; rw [EE.out, decide_eq_false (fun f : 0 ≤ m ∧ m ≤ 64 => h4 f.2)]; rfl
           go_upto_region 6 with fail
           refine wp_region_held_drew (S := (fun w' => w'.cell? ⟨w.heap.size, 0, none⟩ = some (.slice A h.objs.length d) ∧ w'.cell? ⟨w.heap.size, 1, none⟩ = some (.int .i64 h.cap) ∧ w'.cell? ⟨w.heap.size, 2, none⟩ = some (.int .i64 h.last) ∧ w'.cell? ⟨g, 2, none⟩ = some (.slice (some ⟨bs, os, none⟩) n dd) ∧ w'.cell? ⟨bs, os + 1, none⟩ = some (.int .i64 v1))) (by kernel_rfl) ?_ (fun hH0 => ?_)
           next =>
            exact ⟨x0, x1, x2, y2, s1⟩
           refine tkJ 0 oTE95 ?_
           refine tkJ 1 oTE96 ?_
           refine tkJ 2 oTE97 ?_
           refine tkJ 3 oTE98 ?_
           refine tkJ 4 oTE99 ?_
           refine tkJ 5 oTE910 ?_
           refine tkJ 6 oTE911 ?_
           refine rdJ 7 oTE912 fun K hK => ?_
           go_simp
           go_at_call 243
           refine (HDB _ (HU2.out.trans ((Below.refl w2_.heap.size w2_).drew.mono HU2.out.size))).mono ?_
           rintro e u2 ⟨rfl, hb⟩
           have HV2 := hid (then_w (Below.refl w2_.heap.size w2_).drew hb)
           refine hK.out _ _ ?_ (fun hH1 => ?_)
           next =>
            exact ⟨cell_later hb hH0.1, cell_later hb hH0.2.1, cell_later hb hH0.2.2.1, cell_later hb hH0.2.2.2.1, cell_later hb hH0.2.2.2.2⟩
           clear hK K
           try simp only [apt12]
           clear hb
           refine tkJ 8 oTE913 ?_
           refine tkJ 9 oTE914 ?_
           refine tkJ 10 oTE915 ?_
           refine tkJ 11 oTE916 ?_
           refine tkJ 12 oTE917 ?_
           refine tkJ 13 oTE918 ?_
           refine tkJ 14 oTE919 ?_
           refine tkJ 15 oTE920 ?_
           refine tkJ 16 oTE921 ?_
           refine tkJ 17 oTE922 ?_
           refine tkJ 18 oTE923 ?_
           refine tkJ 19 oTE924 ?_
           refine tkJ 20 oTE925 ?_
           refine wpAnyH_done (by kernel_rfl) ?_ _
           go_wp2_with fail
           go_ret
           exact ⟨by rw [E.out]; rfl, HW2.out.trans (HV2.out.mono HW2.out.size)⟩
         next =>
          have h3D : decide (0 ≤ m) = false := decide_eq_false h3
          have E : Hid (clB9 h c = false) := by show _ = _; rw [EE.out, decide_eq_false (fun f : 0 ≤ m ∧ m ≤ 64 => h3 f.1)]; rfl
          go_upto_region 6 with fail
          refine wp_region_held_drew (S := (fun w' => w'.cell? ⟨w.heap.size, 0, none⟩ = some (.slice A h.objs.length d) ∧ w'.cell? ⟨w.heap.size, 1, none⟩ = some (.int .i64 h.cap) ∧ w'.cell? ⟨w.heap.size, 2, none⟩ = some (.int .i64 h.last) ∧ w'.cell? ⟨g, 2, none⟩ = some (.slice (some ⟨bs, os, none⟩) n dd) ∧ w'.cell? ⟨bs, os + 1, none⟩ = some (.int .i64 v1))) (by kernel_rfl) ?_ (fun hH0 => ?_)
          next =>
           exact ⟨x0, x1, x2, y2, s1⟩
          refine tkJ 0 oTE95 ?_
          refine tkJ 1 oTE96 ?_
          refine tkJ 2 oTE97 ?_
          refine tkJ 3 oTE98 ?_
          refine tkJ 4 oTE99 ?_
          refine tkJ 5 oTE910 ?_
          refine tkJ 6 oTE911 ?_
          refine rdJ 7 oTE912 fun K hK => ?_
          go_simp
          go_at_call 243
          refine (HDB _ (HU2.out.trans ((Below.refl w2_.heap.size w2_).drew.mono HU2.out.size))).mono ?_
          rintro e u2 ⟨rfl, hb⟩
          have HV2 := hid (then_w (Below.refl w2_.heap.size w2_).drew hb)
          refine hK.out _ _ ?_ (fun hH1 => ?_)
          next =>
           exact ⟨cell_later hb hH0.1, cell_later hb hH0.2.1, cell_later hb hH0.2.2.1, cell_later hb hH0.2.2.2.1, cell_later hb hH0.2.2.2.2⟩
          clear hK K
          try simp only [apt12]
          clear hb
          refine tkJ 8 oTE913 ?_
          refine tkJ 9 oTE914 ?_
          refine tkJ 10 oTE915 ?_
          refine tkJ 11 oTE916 ?_
          refine tkJ 12 oTE917 ?_
          refine tkJ 13 oTE918 ?_
          refine tkJ 14 oTE919 ?_
          refine tkJ 15 oTE920 ?_
          refine tkJ 16 oTE921 ?_
          refine tkP 17 oTE922 ?_
          refine tkP 18 oTE923 ?_
          refine tkJ 19 oTE924 ?_
          refine tkJ 20 oTE925 ?_
          refine wpAnyH_done (by kernel_rfl) ?_ _
          go_wp2_with fail
          go_ret
          exact ⟨by rw [E.out]; rfl, HW2.out.trans (HV2.out.mono HW2.out.size)⟩
end Go.Proofs.YtnilempeldlieaaGreat
