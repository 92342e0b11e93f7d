/- CanonRenames walked: whatever heap with roots and renaming, it answers true. -/
import Derived.Deep.CutRange
import Derived.Test.YtododpdkbdndoaaFX6
import Derived.Test.YtododpdkbdndoaaR
import Derived.Test.YtododpdkbdndoaaN
import Derived.Test.YtododpdkbdndoaaNL
import Derived.Test.YtododpdkbdndoaaRN
import Derived.Test.YtododpdkbdndoaaMT
namespace Go.Proofs.Ytododpdkbdndoaa
open Go.RowKit
set_option maxRecDepth 100000
theorem cnh_fit (h : Hp) (rs : List Int) : (cnH h rs).Fit := by
  obtain ⟨h1, h2⟩ := cn_fit h rs
  exact ⟨by omega, fun o ho => by have := h2 o ho; show o.slots.length ≤ _; omega⟩
theorem cnl_le (h : Hp) (rs : List Int) : (cnL h rs).length ≤ rs.length := by
  unfold cnL; split <;> simp
theorem may_fit6 {h : Hp} (hm : mayB h = true) : h.Fit := by
  refine ⟨by have := may_len hm; omega, fun o ho => ?_⟩
  have := (kind_len (ob_kind (may_all hm _ ho))).1
  exact Nat.le_trans (by exact_mod_cast this) (by decide)
theorem own_off {w : World} {base g : Nat} {e : TypeId} {size n : Nat} {v : Value} {xs : List Value} {cs : Array Value} (h : w.ownsRow base e size v n xs) (hB : Lies w g 24 cs) (o : Nat) (u : Value) (he : e ≠ 24 := by decide) : (w.setCell ⟨g, o, none⟩ u).ownsRow base e size v n xs := ownsRow_setCell_other h (own_blk_ne h hB he) _
theorem ren6 {h k : Hp} {pm : List Int} (hk : (⟨rnK h pm h.objs.length, h.cap, h.last⟩ : Hp) = k) (A B : Option Addr) (c d : Nat) (w : World) (hs : ObsR w A h.objs) (hm : mayB h = true) (hp : IntsR w B pm) (P : PermL pm h.objs.length) :
    Calls Try.prog 45 #[.agg #[.slice A h.objs.length c, .int .i64 h.cap, .int .i64 h.last], .slice B pm.length d] w (HeapOwn w k) := by subst hk; exact renamed_any h pm A B c d w hs hm hp P
theorem val6 {h : Hp} {pm rs r : List Int} (hr : rs.map (rnV h.objs.length pm) = r) (A B D : Option Addr) (c b d : Nat) (w : World) (hl : IntsR w B pm) (hv : IntsR w D rs) (hlen : pm.length = h.objs.length) (hpm : ∀ x ∈ pm, 0 ≤ x ∧ x ≤ 256) (hvl : rs.length ≤ 100000) :
    Calls Try.prog 46 #[.agg #[.slice A h.objs.length c, .int .i64 h.cap, .int .i64 h.last], .slice B pm.length b, .slice D rs.length d] w (IntsOwn w r) := by subst hr; exact values_ref_any h pm rs A B D c b d w hl hv hlen hpm hvl
set_option maxHeartbeats 3000000 in
theorem crenames_any (h : Hp) (rs : List Int) (pm : List Int) (B : Option Addr) (e : Nat) (A P : Option Addr) (c dp : Nat) (w : World) (hs0 : ObsR w A h.objs) (ft0 : h.Fit) (hr0 : IntsR w P rs) (hl0 : rs.length ≤ 9223372036854775807) (hrp : IntsR w B pm) (hlp : pm.length ≤ 9223372036854775807) :
    Calls Try.prog 11 #[.agg #[.slice A h.objs.length c, .int .i64 h.cap, .int .i64 h.last, .slice P rs.length dp], .slice B pm.length e] w fun e w' => e = .returned (.bool true) ∧ Below w.heap.size w w' := by
  obtain ⟨w0, hw0⟩ : ∃ w0, w0 = (w.alloc (.cells #[.slice A h.objs.length c, .int .i64 h.cap, .int .i64 h.last, .slice P rs.length dp] 53)) := ⟨_, rfl⟩
  have HB0 : Hid (Below w.heap.size w w0) := by show Below _ _ _; rw [hw0]; exact below_alloc w _
  have X0 : Hid (Lies w0 (w.heap.size) 53 #[.slice A h.objs.length c, .int .i64 h.cap, .int .i64 h.last, .slice P rs.length dp]) := by
    show Lies _ _ _ _
    rw [hw0]
    have := Lies.new w 53 #[.slice A h.objs.length c, .int .i64 h.cap, .int .i64 h.last, .slice P rs.length dp]
    simpa using this
  have OX0 := hid (hs0.below HB0.out)
  have RX0 := hid (hr0.below HB0.out)
  have HFX := hid ft0
  have hfl0 := ft0.1
  have PM0 := hid (hrp.below HB0.out)
  clear hs0 ft0 hr0 hrp
  go_enter Try.func11, Try.ntmps11
  go_upto_region 1 with fail
  rw [← hw0]
  clear hw0
  have x0 := X0.out.cell 0
  have x1 := X0.out.cell 1
  have x2 := X0.out.cell 2
  have x3 := X0.out.cell 3
  simp only [List.getElem?_toArray, List.getElem?_cons_zero, List.getElem?_cons_succ] at x0 x1 x2 x3
  go_wp2_with fail
  refine (fixed6_any _).mono ?_
  rintro e w1 ⟨rfl, hb⟩
  have HB1 := hid (HB0.out.trans (hb.mono HB0.out.size))
  have X1 := hid (X0.out.later hb)
  have OX1 := hid (OX0.out.below hb)
  have RX1 := hid (RX0.out.below hb)
  have PM1 := hid (PM0.out.below hb)
  clear x0 x1 x2 x3
  clear hb
  have x0 := X1.out.cell 0
  have x1 := X1.out.cell 1
  have x2 := X1.out.cell 2
  have x3 := X1.out.cell 3
  simp only [List.getElem?_toArray, List.getElem?_cons_zero, List.getElem?_cons_succ] at x0 x1 x2 x3
  go_wp2_with fail
  refine (small_ok h A c _ OX1.out HFX.out).mono ?_
  rintro e w2 ⟨sm, rfl, hb⟩
  have HB2 := hid (HB1.out.trans (hb.mono HB1.out.size))
  have X2 := hid (X1.out.later hb)
  have OX2 := hid (OX1.out.below hb)
  have RX2 := hid (RX1.out.below hb)
  have PM2 := hid (PM1.out.below hb)
  clear x0 x1 x2 x3
  clear hb
  have x0 := X2.out.cell 0
  have x1 := X2.out.cell 1
  have x2 := X2.out.cell 2
  have x3 := X2.out.cell 3
  simp only [List.getElem?_toArray, List.getElem?_cons_zero, List.getElem?_cons_succ] at x0 x1 x2 x3
  cases sm
  · go_wp2_with fail
    refine (fixed6_any _).mono ?_
    rintro e w3 ⟨rfl, hb⟩
    have HB3 := hid (HB2.out.trans (hb.mono HB2.out.size))
    have X3 := hid (X2.out.later hb)
    have OX3 := hid (OX2.out.below hb)
    have RX3 := hid (RX2.out.below hb)
    have PM3 := hid (PM2.out.below hb)
    clear x0 x1 x2 x3
    clear hb
    have x0 := X3.out.cell 0
    have x1 := X3.out.cell 1
    have x2 := X3.out.cell 2
    have x3 := X3.out.cell 3
    simp only [List.getElem?_toArray, List.getElem?_cons_zero, List.getElem?_cons_succ] at x0 x1 x2 x3
    go_wp2_with fail
    go_ret
    exact ⟨rfl, HB3.out⟩
  · go_wp2_with fail
    refine (rmay_any h A c _ OX2.out HFX.out).mono ?_
    rintro e w3 ⟨rfl, hb⟩
    have HB3 := hid (HB2.out.trans (hb.mono HB2.out.size))
    have X3 := hid (X2.out.later hb)
    have OX3 := hid (OX2.out.below hb)
    have RX3 := hid (RX2.out.below hb)
    have PM3 := hid (PM2.out.below hb)
    clear x0 x1 x2 x3
    clear hb
    have x0 := X3.out.cell 0
    have x1 := X3.out.cell 1
    have x2 := X3.out.cell 2
    have x3 := X3.out.cell 3
    simp only [List.getElem?_toArray, List.getElem?_cons_zero, List.getElem?_cons_succ] at x0 x1 x2 x3
    cases hmX : mayB h
    · go_wp2_with fail
      refine (fixed6_any _).mono ?_
      rintro e w4 ⟨rfl, hb⟩
      have HB4 := hid (HB3.out.trans (hb.mono HB3.out.size))
      have X4 := hid (X3.out.later hb)
      have OX4 := hid (OX3.out.below hb)
      have RX4 := hid (RX3.out.below hb)
      have PM4 := hid (PM3.out.below hb)
      clear x0 x1 x2 x3
      clear hb
      have x0 := X4.out.cell 0
      have x1 := X4.out.cell 1
      have x2 := X4.out.cell 2
      have x3 := X4.out.cell 3
      simp only [List.getElem?_toArray, List.getElem?_cons_zero, List.getElem?_cons_succ] at x0 x1 x2 x3
      go_wp2_with fail
      go_ret
      exact ⟨rfl, HB4.out⟩
    · have HMX := hid hmX
      clear hmX
      by_cases q1 : 40 < h.objs.length
      · go_wp2_with fail
        refine (fixed6_any _).mono ?_
        rintro e w4 ⟨rfl, hb⟩
        have HB4 := hid (HB3.out.trans (hb.mono HB3.out.size))
        have X4 := hid (X3.out.later hb)
        have OX4 := hid (OX3.out.below hb)
        have RX4 := hid (RX3.out.below hb)
        have PM4 := hid (PM3.out.below hb)
        clear x0 x1 x2 x3
        clear hb
        have x0 := X4.out.cell 0
        have x1 := X4.out.cell 1
        have x2 := X4.out.cell 2
        have x3 := X4.out.cell 3
        simp only [List.getElem?_toArray, List.getElem?_cons_zero, List.getElem?_cons_succ] at x0 x1 x2 x3
        go_wp2_with fail
        go_ret
        exact ⟨rfl, HB4.out⟩
      · by_cases q2 : 100 < rs.length
        · go_wp2_with fail
          refine (fixed6_any _).mono ?_
          rintro e w4 ⟨rfl, hb⟩
          have HB4 := hid (HB3.out.trans (hb.mono HB3.out.size))
          have X4 := hid (X3.out.later hb)
          have OX4 := hid (OX3.out.below hb)
          have RX4 := hid (RX3.out.below hb)
          have PM4 := hid (PM3.out.below hb)
          clear x0 x1 x2 x3
          clear hb
          have x0 := X4.out.cell 0
          have x1 := X4.out.cell 1
          have x2 := X4.out.cell 2
          have x3 := X4.out.cell 3
          simp only [List.getElem?_toArray, List.getElem?_cons_zero, List.getElem?_cons_succ] at x0 x1 x2 x3
          go_wp2_with fail
          go_ret
          exact ⟨rfl, HB4.out⟩
        · go_wp2_with fail
          refine (perm_any pm h.objs.length B e _ PM3.out hlp (by omega)).mono ?_
          rintro e2 w2 ⟨rfl, rfl⟩
          cases hpm : pmB pm h.objs.length
          · go_wp2_with fail
            refine (fixed6_any _).mono ?_
            rintro e w4 ⟨rfl, hb⟩
            have HB4 := hid (HB3.out.trans (hb.mono HB3.out.size))
            have X4 := hid (X3.out.later hb)
            have OX4 := hid (OX3.out.below hb)
            have RX4 := hid (RX3.out.below hb)
            have PM4 := hid (PM3.out.below hb)
            clear x0 x1 x2 x3
            clear hb
            have x0 := X4.out.cell 0
            have x1 := X4.out.cell 1
            have x2 := X4.out.cell 2
            have x3 := X4.out.cell 3
            simp only [List.getElem?_toArray, List.getElem?_cons_zero, List.getElem?_cons_succ] at x0 x1 x2 x3
            go_wp2_with fail
            go_ret
            exact ⟨rfl, HB4.out⟩
          · have HPM := hid (pmB_iff.1 hpm)
            clear hpm
            have hlen := HPM.out.1
            have HLN := hid hlen
            have hbd : ∀ x ∈ pm, 0 ≤ x ∧ x ≤ 256 := fun v hv => by
              have := (count_one _ pm (Nat.le_of_eq HLN.out) HPM.out.2).2 v hv
              omega
            have HBD := hid hbd
            clear hlen hbd
            obtain ⟨en, hen⟩ : ∃ en, en = liE h rs := ⟨_, rfl⟩
            have HQen := hid hen
            clear hen
            go_wp2_with fail
            refine (rlive_any h rs A P c dp _ OX3.out HFX.out RX3.out (by omega)).mono ?_
            rintro e w4 ⟨Al, cl, rfl, -, -, -, hb⟩
            rw [← HQen.out]
            have HB4 := hid (HB3.out.trans (hb.mono HB3.out.size))
            have X4 := hid (X3.out.later hb)
            have OX4 := hid (OX3.out.below hb)
            have RX4 := hid (RX3.out.below hb)
            have PM4 := hid (PM3.out.below hb)
            clear x0 x1 x2 x3
            clear hb
            have x0 := X4.out.cell 0
            have x1 := X4.out.cell 1
            have x2 := X4.out.cell 2
            have x3 := X4.out.cell 3
            simp only [List.getElem?_toArray, List.getElem?_cons_zero, List.getElem?_cons_succ] at x0 x1 x2 x3
            by_cases he : en = 0
            · subst he
              have KF := hid (cnh_fit h rs)
              have hkl := cnl_le h rs
              obtain ⟨k, hk⟩ : ∃ k, k = cnH h rs := ⟨_, rfl⟩
              obtain ⟨L, hL⟩ : ∃ L, L = cnL h rs := ⟨_, rfl⟩
              rw [← hk] at KF
              rw [← hL] at hkl
              have HQk := hid hk
              have HQL := hid hL
              clear hk hL
              obtain ⟨k1, hk1⟩ : ∃ k1 : Hp, k1 = ⟨rnK h pm h.objs.length, h.cap, h.last⟩ := ⟨_, rfl⟩
              obtain ⟨r, hr⟩ : ∃ r, r = rs.map (rnV h.objs.length pm) := ⟨_, rfl⟩
              have HRen : Hid (Ren h k1 pm) := by show Ren _ _ _; rw [hk1]; exact rn_ren HPM.out
              have HF1 := hid (may_fit6 (HRen.out.may HMX.out))
              have hf1 := HF1.out.1
              have hrl : r.length ≤ 100 := by rw [hr, List.length_map]; omega
              have HK1 := hid hk1
              have HR1 := hid hr
              have HSA : Hid (SameP h rs k1 r) := by show SameP _ _ _ _; rw [hr]; exact HRen.out.same HQen.out.symm
              have HT1 : Hid (cnH k1 r = k) := by show _ = _; rw [hr, HQk.out]; exact (HRen.out.told HQen.out.symm).1
              have HT2 : Hid (cnL k1 r = L) := by show _ = _; rw [hr, HQL.out]; exact (HRen.out.told HQen.out.symm).2
              have HT3 : Hid (liE k1 r = 0) := HSA.out.2.1
              clear hk1 hr
              go_upto_region 6 with fail
              go_cut [7, 8] from 72 to 81 (fun a b wx => ∃ (g : Nat) (A1 A2 : Option Addr) (c1 c2 : Nat), a = .pointer (some ⟨g, 0, none⟩) ∧ b = .slice A2 r.length c2 ∧ Lies wx g 24 #[Value.slice A1 k1.objs.length c1, Value.int .i64 k1.cap, Value.int .i64 k1.last] ∧ ObsR wx A1 k1.objs ∧ IntsR wx A2 r ∧ Below w4.heap.size w4 wx)
              case first =>
                refine wp_region_held_drew (S := (fun w' => w'.cell? ⟨w.heap.size, 0, none⟩ = some (.slice A h.objs.length c) ∧ w'.cell? ⟨w.heap.size, 1, none⟩ = some (.int .i64 h.cap) ∧ w'.cell? ⟨w.heap.size, 2, none⟩ = some (.int .i64 h.last) ∧ w'.cell? ⟨w.heap.size, 3, none⟩ = some (.slice P rs.length dp))) (by kernel_rfl) ?_ (fun hH0 => ?_)
                · exact ⟨x0, x1, x2, x3⟩
                refine wpAnyH_take (i := 0) (oi := { dst := some 72, op := Go.Op.fieldAddr 53 (Go.Operand.tmp 2) 0, type := 0, pos := "law.go:55", after := #[], guard := none }) (v := ?vv1) rfl (by kernel_rfl) (by kernel_rfl) (by kernel_rfl) (fun _ _ _ h => h) (Or.inl ⟨by rfl, ?hy1⟩) (by assumption) ?rr1
                case hy1 => intro w hSw; (try dsimp only at hSw); go_simp; all_goals with_reducible rfl
                try simp only [Act.put, List.setIfInBounds_toArray, List.set_cons_zero, List.set_cons_succ]
                refine wpAnyH_take (i := 1) (oi := { dst := some 73, op := Go.Op.load 24 (Go.Operand.tmp 72), type := 24, pos := "law.go:55", after := #[{ on := 0, ground := Go.Ground.data }], guard := none }) (v := ?vv2) rfl (by kernel_rfl) (by kernel_rfl) (by kernel_rfl) (fun _ _ _ h => h) (Or.inl ⟨by rfl, ?hy2⟩) (by assumption) ?rr2
                case hy2 => intro w hSw; (try dsimp only at hSw); go_simp; all_goals with_reducible rfl
                try simp only [Act.put, List.setIfInBounds_toArray, List.set_cons_zero, List.set_cons_succ]
                refine wpAnyH_take (i := 2) (oi := { dst := some 74, op := Go.Op.move (Go.Operand.tmp 1), type := 44, pos := "law.go:55", after := #[], guard := none }) (v := ?vv3) rfl (by kernel_rfl) (by kernel_rfl) (by kernel_rfl) (fun _ _ _ h => h) (Or.inl ⟨by rfl, ?hy3⟩) (by assumption) ?rr3
                case hy3 => intro w hSw; (try dsimp only at hSw); go_simp; all_goals with_reducible rfl
                try simp only [Act.put, List.setIfInBounds_toArray, List.set_cons_zero, List.set_cons_succ]
                refine wpAnyH_take (i := 4) (oi := { dst := some 76, op := Go.Op.fieldAddr 53 (Go.Operand.tmp 2) 0, type := 0, pos := "law.go:55", after := #[], guard := none }) (v := ?vv4) rfl (by kernel_rfl) (by kernel_rfl) (by kernel_rfl) (fun _ _ _ h => h) (Or.inl ⟨by rfl, ?hy4⟩) (by assumption) ?rr4
                case hy4 => intro w hSw; (try dsimp only at hSw); go_simp; all_goals with_reducible rfl
                try simp only [Act.put, List.setIfInBounds_toArray, List.set_cons_zero, List.set_cons_succ]
                refine wpAnyH_take (i := 5) (oi := { dst := some 77, op := Go.Op.load 24 (Go.Operand.tmp 76), type := 24, pos := "law.go:55", after := #[{ on := 4, ground := Go.Ground.data }], guard := none }) (v := ?vv5) rfl (by kernel_rfl) (by kernel_rfl) (by kernel_rfl) (fun _ _ _ h => h) (Or.inl ⟨by rfl, ?hy5⟩) (by assumption) ?rr5
                case hy5 => intro w hSw; (try dsimp only at hSw); go_simp; all_goals with_reducible rfl
                try simp only [Act.put, List.setIfInBounds_toArray, List.set_cons_zero, List.set_cons_succ]
                refine wpAnyH_take (i := 6) (oi := { dst := some 78, op := Go.Op.move (Go.Operand.tmp 1), type := 44, pos := "law.go:55", after := #[], guard := none }) (v := ?vv6) rfl (by kernel_rfl) (by kernel_rfl) (by kernel_rfl) (fun _ _ _ h => h) (Or.inl ⟨by rfl, ?hy6⟩) (by assumption) ?rr6
                case hy6 => intro w hSw; (try dsimp only at hSw); go_simp; all_goals with_reducible rfl
                try simp only [Act.put, List.setIfInBounds_toArray, List.set_cons_zero, List.set_cons_succ]
                refine wpAnyH_take (i := 7) (oi := { dst := some 79, op := Go.Op.fieldAddr 53 (Go.Operand.tmp 2) 1, type := 0, pos := "law.go:55", after := #[], guard := none }) (v := ?vv7) rfl (by kernel_rfl) (by kernel_rfl) (by kernel_rfl) (fun _ _ _ h => h) (Or.inl ⟨by rfl, ?hy7⟩) (by assumption) ?rr7
                case hy7 => intro w hSw; (try dsimp only at hSw); go_simp; all_goals with_reducible rfl
                try simp only [Act.put, List.setIfInBounds_toArray, List.set_cons_zero, List.set_cons_succ]
                refine wpAnyH_take (i := 8) (oi := { dst := some 80, op := Go.Op.load 44 (Go.Operand.tmp 79), type := 44, pos := "law.go:55", after := #[{ on := 7, ground := Go.Ground.data }], guard := none }) (v := ?vv8) rfl (by kernel_rfl) (by kernel_rfl) (by kernel_rfl) (fun _ _ _ h => h) (Or.inl ⟨by rfl, ?hy8⟩) (by assumption) ?rr8
                case hy8 => intro w hSw; (try dsimp only at hSw); go_simp; all_goals with_reducible rfl
                try simp only [Act.put, List.setIfInBounds_toArray, List.set_cons_zero, List.set_cons_succ]
                refine wpAnyH_ready (rs := [3, 10]) (by kernel_rfl) (by simp) ?_
                refine AllReadyH.cons (i := 3) (o := { dst := some 75, op := Go.Op.call { callee := Go.Callee.value (Go.Operand.func 45), args := #[Go.Operand.tmp 73, Go.Operand.tmp 74], argTypes := #[24, 44] }, type := 24, pos := "law.go:55", after := #[{ on := 1, ground := Go.Ground.data }, { on := 2, ground := Go.Ground.data }], guard := none }) rfl (fun K hK => ?_) (AllReadyH.cons (i := 10) (o := { dst := some 7, op := Go.Op.alloc 24, type := 0, pos := "law.go:55", after := #[], guard := none }) rfl (fun K hK => ?_) AllReadyH.nil)
                · go_simp
                  go_at_call 45
                  refine (ren6 HK1.out.symm A B c e _ (OX4.out.below (Below.refl _ w4).drew) HMX.out (PM4.out.below (Below.refl _ w4).drew) HPM.out).mono ?_
                  rintro e1 v1 ⟨A1, c1, ls, rfl, hls, hob, hb⟩
                  have HO1 := hid hob
                  have HLS := hid hls
                  clear hob hls
                  have HV1 := hid (then_b (Below.refl _ w4).drew hb)
                  refine hK.out _ _ ?_ (fun hH1 => ?_)
                  · exact ⟨cell_later hb hH0.1, cell_later hb hH0.2.1, cell_later hb hH0.2.2.1, cell_later hb hH0.2.2.2⟩
                  clear hK K
                  try simp only [Act.put, List.setIfInBounds_toArray, List.set_cons_zero, List.set_cons_succ]
                  clear hb
                  refine wpAnyH_ready (rs := [9, 10]) (by kernel_rfl) (by simp) ?_
                  refine AllReadyH.cons (i := 9) (o := { dst := some 81, op := Go.Op.call { callee := Go.Callee.value (Go.Operand.func 46), args := #[Go.Operand.tmp 77, Go.Operand.tmp 78, Go.Operand.tmp 80], argTypes := #[24, 44, 44] }, type := 44, pos := "law.go:55", after := #[{ on := 5, ground := Go.Ground.data }, { on := 6, ground := Go.Ground.data }, { on := 8, ground := Go.Ground.data }, { on := 3, ground := Go.Ground.chain }], guard := none }) rfl (fun K hK => ?_) (AllReadyH.cons (i := 10) (o := { dst := some 7, op := Go.Op.alloc 24, type := 0, pos := "law.go:55", after := #[], guard := none }) rfl (fun K hK => ?_) AllReadyH.nil)
                  · go_simp
                    go_at_call 46
                    refine (val6 HR1.out.symm A B P c e dp _ (PM4.out.below HV1.out) (RX4.out.below HV1.out) HLN.out HBD.out (by omega)).mono ?_
                    rintro e1 v2 ⟨A2, c2, rfl, hown, hb⟩
                    have HI1 := hid hown
                    clear hown
                    have HO2 := hid (HO1.out.later hb)
                    have HV2 := hid (then_b HV1.out hb)
                    refine hK.out _ _ ?_ (fun hH2 => ?_)
                    · exact ⟨cell_later hb hH1.1, cell_later hb hH1.2.1, cell_later hb hH1.2.2.1, cell_later hb hH1.2.2.2⟩
                    clear hK K
                    try simp only [Act.put, List.setIfInBounds_toArray, List.set_cons_zero, List.set_cons_succ]
                    clear hb
                    refine wpAnyH_ready (rs := [10]) (by kernel_rfl) (by simp) ?_
                    refine AllReadyH.cons (i := 10) (o := { dst := some 7, op := Go.Op.alloc 24, type := 0, pos := "law.go:55", after := #[], guard := none }) rfl (fun K hK => ?_) AllReadyH.nil
                    go_simp
                    refine hK.out _ _ ?_ (fun hH3 => ?_)
                    · exact ⟨cell_old hH2.1, cell_old hH2.2.1, cell_old hH2.2.2.1, cell_old hH2.2.2.2⟩
                    clear hK K
                    try simp only [Act.put, List.setIfInBounds_toArray, List.set_cons_zero, List.set_cons_succ]
                    have HAL := hid (below_alloc v2 (.cells #[.slice none 0 0, .int .i64 0, .int .i64 0] 24))
                    have HV3 := hid (HV2.out.trans (HAL.out.mono HV2.out.size))
                    have HG3 := hid (Lies.new v2 24 #[.slice none 0 0, .int .i64 0, .int .i64 0])
                    refine wpAnyH_ready (rs := [11]) (by kernel_rfl) (by simp) ?_
                    refine AllReadyH.cons (i := 11) (o := { dst := none, op := Go.Op.store 24 (Go.Operand.tmp 7) (Go.Operand.tmp 75), type := 0, pos := "law.go:55", after := #[{ on := 10, ground := Go.Ground.data }, { on := 3, ground := Go.Ground.data }, { on := 9, ground := Go.Ground.chain }, { on := 0, ground := Go.Ground.phase }, { on := 1, ground := Go.Ground.phase }, { on := 2, ground := Go.Ground.phase }, { on := 3, ground := Go.Ground.phase }, { on := 4, ground := Go.Ground.textOnly Go.Departure.lateStores }, { on := 5, ground := Go.Ground.textOnly Go.Departure.lateStores }, { on := 6, ground := Go.Ground.textOnly Go.Departure.lateStores }, { on := 7, ground := Go.Ground.textOnly Go.Departure.lateStores }, { on := 8, ground := Go.Ground.textOnly Go.Departure.lateStores }, { on := 9, ground := Go.Ground.textOnly Go.Departure.lateStoresUnsure }, { on := 10, ground := Go.Ground.phase }], guard := none }) rfl (fun K hK => ?_) AllReadyH.nil
                    go_simp
                    have HV4 := hid (HV2.out.trans ((below_alloc v2 (.cells #[Value.slice A1 k1.objs.length c1, Value.int .i64 k1.cap, Value.int .i64 k1.last] 24)).mono HV2.out.size))
                    have HL := hid (Lies.new v2 24 #[Value.slice A1 k1.objs.length c1, Value.int .i64 k1.cap, Value.int .i64 k1.last])
                    obtain ⟨W, hW⟩ : ∃ W, W = v2.alloc (.cells #[Value.slice A1 k1.objs.length c1, Value.int .i64 k1.cap, Value.int .i64 k1.last] 24) := ⟨_, rfl⟩
                    have hBW : Below v2.heap.size v2 W := by rw [hW]; exact below_alloc _ _
                    rw [← hW] at HV4 HL ⊢
                    obtain ⟨g, hg⟩ : ∃ g, g = v2.heap.size := ⟨_, rfl⟩
                    rw [← hg] at HL ⊢
                    have HO4 := hid (HO2.out.later hBW)
                    have HI4 := hid (own_later HI1.out hBW)
                    clear hW hg hBW
                    refine hK.out _ _ ?_ (fun hH4 => ?_)
                    · exact ⟨cell_later HV4.out x0, cell_later HV4.out x1, cell_later HV4.out x2, cell_later HV4.out x3⟩
                    clear hK K
                    try simp only [Act.put, List.setIfInBounds_toArray, List.set_cons_zero, List.set_cons_succ]
                    refine wpAnyH_take (i := 12) (oi := { dst := some 8, op := Go.Op.assign (Go.Operand.tmp 81), type := 44, pos := "law.go:55", after := #[{ on := 9, ground := Go.Ground.data }, { on := 11, ground := Go.Ground.chain }, { on := 0, ground := Go.Ground.phase }, { on := 1, ground := Go.Ground.phase }, { on := 2, ground := Go.Ground.phase }, { on := 3, ground := Go.Ground.phase }, { on := 4, ground := Go.Ground.phase }, { on := 5, ground := Go.Ground.phase }, { on := 6, ground := Go.Ground.phase }, { on := 7, ground := Go.Ground.phase }, { on := 8, ground := Go.Ground.phase }, { on := 9, ground := Go.Ground.phase }, { on := 10, ground := Go.Ground.phase }, { on := 11, ground := Go.Ground.phase }], guard := none }) (v := ?vv9) rfl (by kernel_rfl) (by kernel_rfl) (by kernel_rfl) (fun _ _ _ h => h) (Or.inl ⟨by rfl, ?hy9⟩) (by assumption) ?rr9
                    case hy9 => intro w hSw; (try dsimp only at hSw); go_simp; all_goals with_reducible rfl
                    try simp only [Act.put, List.setIfInBounds_toArray, List.set_cons_zero, List.set_cons_succ]
                    refine wpAnyH_done (by kernel_rfl) ?_ _
                    go_wp2_with fail
                    go_meet
                    exact ⟨g, A1, A2, c1, c2, rfl, rfl, HL.out, own_obs HO4.out HLS.out, own_ints HI4.out, HV4.out⟩
                  · go_simp
                    refine hK.out _ _ ?_ (fun hH2 => ?_)
                    · exact ⟨cell_old hH1.1, cell_old hH1.2.1, cell_old hH1.2.2.1, cell_old hH1.2.2.2⟩
                    clear hK K
                    try simp only [Act.put, List.setIfInBounds_toArray, List.set_cons_zero, List.set_cons_succ]
                    have HAL := hid (below_alloc v1 (.cells #[.slice none 0 0, .int .i64 0, .int .i64 0] 24))
                    have HV2 := hid (HV1.out.trans (HAL.out.mono HV1.out.size))
                    have HG2 := hid (Lies.new v1 24 #[.slice none 0 0, .int .i64 0, .int .i64 0])
                    obtain ⟨g, hg⟩ : ∃ g, g = v1.heap.size := ⟨_, rfl⟩
                    have hgg : w4.heap.size ≤ g := by
                      rw [hg]
                      exact HV1.out.size
                    rw [← hg] at HG2 ⊢
                    clear hg
                    refine wpAnyH_ready (rs := [9]) (by kernel_rfl) (by simp) ?_
                    refine AllReadyH.cons (i := 9) (o := { dst := some 81, op := Go.Op.call { callee := Go.Callee.value (Go.Operand.func 46), args := #[Go.Operand.tmp 77, Go.Operand.tmp 78, Go.Operand.tmp 80], argTypes := #[24, 44, 44] }, type := 44, pos := "law.go:55", after := #[{ on := 5, ground := Go.Ground.data }, { on := 6, ground := Go.Ground.data }, { on := 8, ground := Go.Ground.data }, { on := 3, ground := Go.Ground.chain }], guard := none }) rfl (fun K hK => ?_) AllReadyH.nil
                    go_simp
                    go_at_call 46
                    refine (val6 HR1.out.symm A B P c e dp _ (PM4.out.below HV2.out) (RX4.out.below HV2.out) HLN.out HBD.out (by omega)).mono ?_
                    rintro e1 v2 ⟨A2, c2, rfl, hown, hb⟩
                    have HI1 := hid hown
                    clear hown
                    have HO2 := hid ((HO1.out.later HAL.out).later hb)
                    have HV3 := hid (then_b HV2.out hb)
                    have HG3 := hid (HG2.out.later hb)
                    refine hK.out _ _ ?_ (fun hH3 => ?_)
                    · exact ⟨cell_later hb hH2.1, cell_later hb hH2.2.1, cell_later hb hH2.2.2.1, cell_later hb hH2.2.2.2⟩
                    clear hK K
                    try simp only [Act.put, List.setIfInBounds_toArray, List.set_cons_zero, List.set_cons_succ]
                    clear hb
                    refine wpAnyH_ready (rs := [11]) (by kernel_rfl) (by simp) ?_
                    refine AllReadyH.cons (i := 11) (o := { dst := none, op := Go.Op.store 24 (Go.Operand.tmp 7) (Go.Operand.tmp 75), type := 0, pos := "law.go:55", after := #[{ on := 10, ground := Go.Ground.data }, { on := 3, ground := Go.Ground.data }, { on := 9, ground := Go.Ground.chain }, { on := 0, ground := Go.Ground.phase }, { on := 1, ground := Go.Ground.phase }, { on := 2, ground := Go.Ground.phase }, { on := 3, ground := Go.Ground.phase }, { on := 4, ground := Go.Ground.textOnly Go.Departure.lateStores }, { on := 5, ground := Go.Ground.textOnly Go.Departure.lateStores }, { on := 6, ground := Go.Ground.textOnly Go.Departure.lateStores }, { on := 7, ground := Go.Ground.textOnly Go.Departure.lateStores }, { on := 8, ground := Go.Ground.textOnly Go.Departure.lateStores }, { on := 9, ground := Go.Ground.textOnly Go.Departure.lateStoresUnsure }, { on := 10, ground := Go.Ground.phase }], guard := none }) rfl (fun K hK => ?_) AllReadyH.nil
                    have r0 := HG3.out.cell 0
                    have r1 := HG3.out.cell 1
                    have r2 := HG3.out.cell 2
                    have f0 := HG3.out.frozen 0
                    have f1 := HG3.out.frozen 1
                    have f2 := HG3.out.frozen 2
                    simp only [List.getElem?_toArray, List.getElem?_cons_zero, List.getElem?_cons_succ] at r0 r1 r2
                    go_simp
                    have HV4 := hid (((HV3.out.setCell (p := ⟨g, 0, none⟩) hgg (.slice A1 k1.objs.length c1)).setCell (p := ⟨g, 1, none⟩) hgg (.int .i64 k1.cap)).setCell (p := ⟨g, 2, none⟩) hgg (.int .i64 k1.last))
                    have HL := hid (((HG3.out.set_ 0 (.slice A1 k1.objs.length c1)).set_ 1 (.int .i64 k1.cap)).set_ 2 (.int .i64 k1.last))
                    have HO4 := hid (((HO2.out.off HG3.out 0 (.slice A1 k1.objs.length c1)).off (HG3.out.set_ 0 (.slice A1 k1.objs.length c1)) 1 (.int .i64 k1.cap)).off ((HG3.out.set_ 0 (.slice A1 k1.objs.length c1)).set_ 1 (.int .i64 k1.cap)) 2 (.int .i64 k1.last))
                    have HI4 := hid (((own_off HI1.out HG3.out 0 (.slice A1 k1.objs.length c1)) |> fun z => own_off z (HG3.out.set_ 0 (.slice A1 k1.objs.length c1)) 1 (.int .i64 k1.cap)) |> fun z => own_off z ((HG3.out.set_ 0 (.slice A1 k1.objs.length c1)).set_ 1 (.int .i64 k1.cap)) 2 (.int .i64 k1.last))
                    simp only [List.setIfInBounds_toArray, List.set_cons_zero, List.set_cons_succ] at HL
                    obtain ⟨W, hW⟩ : ∃ W, W = ((v2.setCell ⟨g, 0, none⟩ (.slice A1 k1.objs.length c1)).setCell ⟨g, 1, none⟩ (.int .i64 k1.cap)).setCell ⟨g, 2, none⟩ (.int .i64 k1.last) := ⟨_, rfl⟩
                    rw [← hW] at HV4 HL HO4 HI4 ⊢
                    clear hW
                    refine hK.out _ _ ?_ (fun hH4 => ?_)
                    · exact ⟨cell_later HV4.out x0, cell_later HV4.out x1, cell_later HV4.out x2, cell_later HV4.out x3⟩
                    clear hK K
                    try simp only [Act.put, List.setIfInBounds_toArray, List.set_cons_zero, List.set_cons_succ]
                    refine wpAnyH_take (i := 12) (oi := { dst := some 8, op := Go.Op.assign (Go.Operand.tmp 81), type := 44, pos := "law.go:55", after := #[{ on := 9, ground := Go.Ground.data }, { on := 11, ground := Go.Ground.chain }, { on := 0, ground := Go.Ground.phase }, { on := 1, ground := Go.Ground.phase }, { on := 2, ground := Go.Ground.phase }, { on := 3, ground := Go.Ground.phase }, { on := 4, ground := Go.Ground.phase }, { on := 5, ground := Go.Ground.phase }, { on := 6, ground := Go.Ground.phase }, { on := 7, ground := Go.Ground.phase }, { on := 8, ground := Go.Ground.phase }, { on := 9, ground := Go.Ground.phase }, { on := 10, ground := Go.Ground.phase }, { on := 11, ground := Go.Ground.phase }], guard := none }) (v := ?vv10) rfl (by kernel_rfl) (by kernel_rfl) (by kernel_rfl) (fun _ _ _ h => h) (Or.inl ⟨by rfl, ?hy10⟩) (by assumption) ?rr10
                    case hy10 => intro w hSw; (try dsimp only at hSw); go_simp; all_goals with_reducible rfl
                    try simp only [Act.put, List.setIfInBounds_toArray, List.set_cons_zero, List.set_cons_succ]
                    refine wpAnyH_done (by kernel_rfl) ?_ _
                    go_wp2_with fail
                    go_meet
                    exact ⟨g, A1, A2, c1, c2, rfl, rfl, HL.out, own_obs HO4.out HLS.out, own_ints HI4.out, HV4.out⟩
                · go_simp
                  refine hK.out _ _ ?_ (fun hH1 => ?_)
                  · exact ⟨cell_old hH0.1, cell_old hH0.2.1, cell_old hH0.2.2.1, cell_old hH0.2.2.2⟩
                  clear hK K
                  try simp only [Act.put, List.setIfInBounds_toArray, List.set_cons_zero, List.set_cons_succ]
                  have HAL := hid (below_alloc w4 (.cells #[.slice none 0 0, .int .i64 0, .int .i64 0] 24))
                  have HV1 := hid (HAL.out.drew)
                  have HG1 := hid ((Lies.new w4 24 #[.slice none 0 0, .int .i64 0, .int .i64 0]).drew)
                  obtain ⟨g, hg⟩ : ∃ g, g = w4.heap.size := ⟨_, rfl⟩
                  have hgg : w4.heap.size ≤ g := by
                    rw [hg]
                    exact Nat.le_refl _
                  rw [← hg] at HG1 ⊢
                  clear hg
                  refine wpAnyH_ready (rs := [3]) (by kernel_rfl) (by simp) ?_
                  refine AllReadyH.cons (i := 3) (o := { dst := some 75, op := Go.Op.call { callee := Go.Callee.value (Go.Operand.func 45), args := #[Go.Operand.tmp 73, Go.Operand.tmp 74], argTypes := #[24, 44] }, type := 24, pos := "law.go:55", after := #[{ on := 1, ground := Go.Ground.data }, { on := 2, ground := Go.Ground.data }], guard := none }) rfl (fun K hK => ?_) AllReadyH.nil
                  go_simp
                  go_at_call 45
                  refine (ren6 HK1.out.symm A B c e _ (OX4.out.below HV1.out) HMX.out (PM4.out.below HV1.out) HPM.out).mono ?_
                  rintro e1 v1 ⟨A1, c1, ls, rfl, hls, hob, hb⟩
                  have HO1 := hid hob
                  have HLS := hid hls
                  clear hob hls
                  have HV2 := hid (then_b HV1.out hb)
                  have HG2 := hid (HG1.out.later hb)
                  refine hK.out _ _ ?_ (fun hH2 => ?_)
                  · exact ⟨cell_later hb hH1.1, cell_later hb hH1.2.1, cell_later hb hH1.2.2.1, cell_later hb hH1.2.2.2⟩
                  clear hK K
                  try simp only [Act.put, List.setIfInBounds_toArray, List.set_cons_zero, List.set_cons_succ]
                  clear hb
                  refine wpAnyH_ready (rs := [9]) (by kernel_rfl) (by simp) ?_
                  refine AllReadyH.cons (i := 9) (o := { dst := some 81, op := Go.Op.call { callee := Go.Callee.value (Go.Operand.func 46), args := #[Go.Operand.tmp 77, Go.Operand.tmp 78, Go.Operand.tmp 80], argTypes := #[24, 44, 44] }, type := 44, pos := "law.go:55", after := #[{ on := 5, ground := Go.Ground.data }, { on := 6, ground := Go.Ground.data }, { on := 8, ground := Go.Ground.data }, { on := 3, ground := Go.Ground.chain }], guard := none }) rfl (fun K hK => ?_) AllReadyH.nil
                  go_simp
                  go_at_call 46
                  refine (val6 HR1.out.symm A B P c e dp _ (PM4.out.below HV2.out) (RX4.out.below HV2.out) HLN.out HBD.out (by omega)).mono ?_
                  rintro e1 v2 ⟨A2, c2, rfl, hown, hb⟩
                  have HI1 := hid hown
                  clear hown
                  have HO2 := hid (HO1.out.later hb)
                  have HV3 := hid (then_b HV2.out hb)
                  have HG3 := hid (HG2.out.later hb)
                  refine hK.out _ _ ?_ (fun hH3 => ?_)
                  · exact ⟨cell_later hb hH2.1, cell_later hb hH2.2.1, cell_later hb hH2.2.2.1, cell_later hb hH2.2.2.2⟩
                  clear hK K
                  try simp only [Act.put, List.setIfInBounds_toArray, List.set_cons_zero, List.set_cons_succ]
                  clear hb
                  refine wpAnyH_ready (rs := [11]) (by kernel_rfl) (by simp) ?_
                  refine AllReadyH.cons (i := 11) (o := { dst := none, op := Go.Op.store 24 (Go.Operand.tmp 7) (Go.Operand.tmp 75), type := 0, pos := "law.go:55", after := #[{ on := 10, ground := Go.Ground.data }, { on := 3, ground := Go.Ground.data }, { on := 9, ground := Go.Ground.chain }, { on := 0, ground := Go.Ground.phase }, { on := 1, ground := Go.Ground.phase }, { on := 2, ground := Go.Ground.phase }, { on := 3, ground := Go.Ground.phase }, { on := 4, ground := Go.Ground.textOnly Go.Departure.lateStores }, { on := 5, ground := Go.Ground.textOnly Go.Departure.lateStores }, { on := 6, ground := Go.Ground.textOnly Go.Departure.lateStores }, { on := 7, ground := Go.Ground.textOnly Go.Departure.lateStores }, { on := 8, ground := Go.Ground.textOnly Go.Departure.lateStores }, { on := 9, ground := Go.Ground.textOnly Go.Departure.lateStoresUnsure }, { on := 10, ground := Go.Ground.phase }], guard := none }) rfl (fun K hK => ?_) AllReadyH.nil
                  have r0 := HG3.out.cell 0
                  have r1 := HG3.out.cell 1
                  have r2 := HG3.out.cell 2
                  have f0 := HG3.out.frozen 0
                  have f1 := HG3.out.frozen 1
                  have f2 := HG3.out.frozen 2
                  simp only [List.getElem?_toArray, List.getElem?_cons_zero, List.getElem?_cons_succ] at r0 r1 r2
                  go_simp
                  have HV4 := hid (((HV3.out.setCell (p := ⟨g, 0, none⟩) hgg (.slice A1 k1.objs.length c1)).setCell (p := ⟨g, 1, none⟩) hgg (.int .i64 k1.cap)).setCell (p := ⟨g, 2, none⟩) hgg (.int .i64 k1.last))
                  have HL := hid (((HG3.out.set_ 0 (.slice A1 k1.objs.length c1)).set_ 1 (.int .i64 k1.cap)).set_ 2 (.int .i64 k1.last))
                  have HO4 := hid (((HO2.out.off HG3.out 0 (.slice A1 k1.objs.length c1)).off (HG3.out.set_ 0 (.slice A1 k1.objs.length c1)) 1 (.int .i64 k1.cap)).off ((HG3.out.set_ 0 (.slice A1 k1.objs.length c1)).set_ 1 (.int .i64 k1.cap)) 2 (.int .i64 k1.last))
                  have HI4 := hid (((own_off HI1.out HG3.out 0 (.slice A1 k1.objs.length c1)) |> fun z => own_off z (HG3.out.set_ 0 (.slice A1 k1.objs.length c1)) 1 (.int .i64 k1.cap)) |> fun z => own_off z ((HG3.out.set_ 0 (.slice A1 k1.objs.length c1)).set_ 1 (.int .i64 k1.cap)) 2 (.int .i64 k1.last))
                  simp only [List.setIfInBounds_toArray, List.set_cons_zero, List.set_cons_succ] at HL
                  obtain ⟨W, hW⟩ : ∃ W, W = ((v2.setCell ⟨g, 0, none⟩ (.slice A1 k1.objs.length c1)).setCell ⟨g, 1, none⟩ (.int .i64 k1.cap)).setCell ⟨g, 2, none⟩ (.int .i64 k1.last) := ⟨_, rfl⟩
                  rw [← hW] at HV4 HL HO4 HI4 ⊢
                  clear hW
                  refine hK.out _ _ ?_ (fun hH4 => ?_)
                  · exact ⟨cell_later HV4.out x0, cell_later HV4.out x1, cell_later HV4.out x2, cell_later HV4.out x3⟩
                  clear hK K
                  try simp only [Act.put, List.setIfInBounds_toArray, List.set_cons_zero, List.set_cons_succ]
                  refine wpAnyH_take (i := 12) (oi := { dst := some 8, op := Go.Op.assign (Go.Operand.tmp 81), type := 44, pos := "law.go:55", after := #[{ on := 9, ground := Go.Ground.data }, { on := 11, ground := Go.Ground.chain }, { on := 0, ground := Go.Ground.phase }, { on := 1, ground := Go.Ground.phase }, { on := 2, ground := Go.Ground.phase }, { on := 3, ground := Go.Ground.phase }, { on := 4, ground := Go.Ground.phase }, { on := 5, ground := Go.Ground.phase }, { on := 6, ground := Go.Ground.phase }, { on := 7, ground := Go.Ground.phase }, { on := 8, ground := Go.Ground.phase }, { on := 9, ground := Go.Ground.phase }, { on := 10, ground := Go.Ground.phase }, { on := 11, ground := Go.Ground.phase }], guard := none }) (v := ?vv11) rfl (by kernel_rfl) (by kernel_rfl) (by kernel_rfl) (fun _ _ _ h => h) (Or.inl ⟨by rfl, ?hy11⟩) (by assumption) ?rr11
                  case hy11 => intro w hSw; (try dsimp only at hSw); go_simp; all_goals with_reducible rfl
                  try simp only [Act.put, List.setIfInBounds_toArray, List.set_cons_zero, List.set_cons_succ]
                  refine wpAnyH_done (by kernel_rfl) ?_ _
                  go_wp2_with fail
                  go_meet
                  exact ⟨g, A1, A2, c1, c2, rfl, rfl, HL.out, own_obs HO4.out HLS.out, own_ints HI4.out, HV4.out⟩
              case rest =>
                obtain ⟨g, A1, A2, c1, c2, rfl, rfl, hL, hO, hI, hb⟩ := hcut
                have HB5 := hid (HB4.out.trans (hb.mono HB4.out.size))
                have X5 := hid (X4.out.later hb)
                have OX5 := hid (OX4.out.below hb)
                have RX5 := hid (RX4.out.below hb)
                have PM5 := hid (PM4.out.below hb)
                have N5 := hid hL
                have ON5 := hid hO
                have RN5 := hid hI
                clear hb hL hO hI x0 x1 x2 x3
                have x0 := X5.out.cell 0
                have x1 := X5.out.cell 1
                have x2 := X5.out.cell 2
                have x3 := X5.out.cell 3
                have n0 := N5.out.cell 0
                have n1 := N5.out.cell 1
                have n2 := N5.out.cell 2
                simp only [List.getElem?_toArray, List.getElem?_cons_zero, List.getElem?_cons_succ] at x0 x1 x2 x3 n0 n1 n2
                go_wp2_with fail
                refine (of_any h rs A P c dp _ OX5.out HFX.out RX5.out (by omega)).mono ?_
                rintro e w6 ⟨A6, c6, P6, d6, rfl, ho, hi, hb⟩
                rw [← HQen.out, ← HQk.out, ← HQL.out]
                rw [← HQk.out] at ho
                rw [← HQL.out] at hi
                have HAL := hid (below_alloc w6 (.cells #[Value.slice A6 k.objs.length c6, Value.int .i64 k.cap, Value.int .i64 k.last] 24))
                have HB6 := hid ((HB5.out.trans (hb.mono HB5.out.size)).trans (HAL.out.mono (Nat.le_trans HB5.out.size hb.size)))
                have X6 := hid ((X5.out.later hb).later HAL.out)
                have N6 := hid ((N5.out.later hb).later HAL.out)
                have OX6 := hid ((OX5.out.below hb).below HAL.out)
                have RX6 := hid ((RX5.out.below hb).below HAL.out)
                have PM6 := hid ((PM5.out.below hb).below HAL.out)
                have ON6 := hid ((ON5.out.below hb).below HAL.out)
                have RN6 := hid ((RN5.out.below hb).below HAL.out)
                have G6 := hid (Lies.new w6 24 #[Value.slice A6 k.objs.length c6, Value.int .i64 k.cap, Value.int .i64 k.last])
                have OK6 := hid (ho.below HAL.out)
                have LL6 := hid (hi.below HAL.out)
                clear x0 x1 x2 x3 n0 n1 n2
                clear hb
                clear ho hi HAL
                have x0 := X6.out.cell 0
                have x1 := X6.out.cell 1
                have x2 := X6.out.cell 2
                have x3 := X6.out.cell 3
                have n0 := N6.out.cell 0
                have n1 := N6.out.cell 1
                have n2 := N6.out.cell 2
                have g0 := G6.out.cell 0
                have g1 := G6.out.cell 1
                have g2 := G6.out.cell 2
                simp only [List.getElem?_toArray, List.getElem?_cons_zero, List.getElem?_cons_succ] at x0 x1 x2 x3 n0 n1 n2 g0 g1 g2
                go_wp2_with fail
                refine (of6 HT1.out HT2.out HT3.out A1 A2 c1 c2 _ ON6.out HF1.out RN6.out (by omega)).mono ?_
                rintro e w7 ⟨A7, c7, P7, d7, rfl, ho, hi, hb⟩
                have HAL := hid (below_alloc w7 (.cells #[Value.slice A7 k.objs.length c7, Value.int .i64 k.cap, Value.int .i64 k.last] 24))
                have HB7 := hid ((HB6.out.trans (hb.mono HB6.out.size)).trans (HAL.out.mono (Nat.le_trans HB6.out.size hb.size)))
                have X7 := hid ((X6.out.later hb).later HAL.out)
                have N7 := hid ((N6.out.later hb).later HAL.out)
                have G7 := hid ((G6.out.later hb).later HAL.out)
                have OX7 := hid ((OX6.out.below hb).below HAL.out)
                have RX7 := hid ((RX6.out.below hb).below HAL.out)
                have PM7 := hid ((PM6.out.below hb).below HAL.out)
                have ON7 := hid ((ON6.out.below hb).below HAL.out)
                have RN7 := hid ((RN6.out.below hb).below HAL.out)
                have OK7 := hid ((OK6.out.below hb).below HAL.out)
                have LL7 := hid ((LL6.out.below hb).below HAL.out)
                have H7 := hid (Lies.new w7 24 #[Value.slice A7 k.objs.length c7, Value.int .i64 k.cap, Value.int .i64 k.last])
                have OL7 := hid (ho.below HAL.out)
                have LM7 := hid (hi.below HAL.out)
                clear x0 x1 x2 x3 n0 n1 n2 g0 g1 g2
                clear hb
                clear ho hi HAL
                have x0 := X7.out.cell 0
                have x1 := X7.out.cell 1
                have x2 := X7.out.cell 2
                have x3 := X7.out.cell 3
                have n0 := N7.out.cell 0
                have n1 := N7.out.cell 1
                have n2 := N7.out.cell 2
                have g0 := G7.out.cell 0
                have g1 := G7.out.cell 1
                have g2 := G7.out.cell 2
                have h0 := H7.out.cell 0
                have h1 := H7.out.cell 1
                have h2 := H7.out.cell 2
                simp only [List.getElem?_toArray, List.getElem?_cons_zero, List.getElem?_cons_succ] at x0 x1 x2 x3 n0 n1 n2 g0 g1 g2 h0 h1 h2
                go_wp2_with fail
                refine (same_any k A6 A7 c6 c7 _ OK7.out OL7.out KF.out).mono ?_
                rintro e w8 ⟨rfl, hb⟩
                have HB8 := hid (HB7.out.trans (hb.mono HB7.out.size))
                have X8 := hid (X7.out.later hb)
                have N8 := hid (N7.out.later hb)
                have G8 := hid (G7.out.later hb)
                have H8 := hid (H7.out.later hb)
                have OX8 := hid (OX7.out.below hb)
                have RX8 := hid (RX7.out.below hb)
                have PM8 := hid (PM7.out.below hb)
                have ON8 := hid (ON7.out.below hb)
                have RN8 := hid (RN7.out.below hb)
                have OK8 := hid (OK7.out.below hb)
                have LL8 := hid (LL7.out.below hb)
                have OL8 := hid (OL7.out.below hb)
                have LM8 := hid (LM7.out.below hb)
                clear x0 x1 x2 x3 n0 n1 n2 g0 g1 g2 h0 h1 h2
                clear hb
                have x0 := X8.out.cell 0
                have x1 := X8.out.cell 1
                have x2 := X8.out.cell 2
                have x3 := X8.out.cell 3
                have n0 := N8.out.cell 0
                have n1 := N8.out.cell 1
                have n2 := N8.out.cell 2
                have g0 := G8.out.cell 0
                have g1 := G8.out.cell 1
                have g2 := G8.out.cell 2
                have h0 := H8.out.cell 0
                have h1 := H8.out.cell 1
                have h2 := H8.out.cell 2
                simp only [List.getElem?_toArray, List.getElem?_cons_zero, List.getElem?_cons_succ] at x0 x1 x2 x3 n0 n1 n2 g0 g1 g2 h0 h1 h2
                go_wp2_with fail
                refine (ints6 (rfl : L = L) P6 P7 d6 d7 _ LL8.out LM8.out (by omega)).mono ?_
                rintro e w9 ⟨rfl, hb⟩
                have HB9 := hid (HB8.out.trans (hb.mono HB8.out.size))
                have X9 := hid (X8.out.later hb)
                have N9 := hid (N8.out.later hb)
                have G9 := hid (G8.out.later hb)
                have H9 := hid (H8.out.later hb)
                have OX9 := hid (OX8.out.below hb)
                have RX9 := hid (RX8.out.below hb)
                have PM9 := hid (PM8.out.below hb)
                have ON9 := hid (ON8.out.below hb)
                have RN9 := hid (RN8.out.below hb)
                have OK9 := hid (OK8.out.below hb)
                have LL9 := hid (LL8.out.below hb)
                have OL9 := hid (OL8.out.below hb)
                have LM9 := hid (LM8.out.below hb)
                clear x0 x1 x2 x3 n0 n1 n2 g0 g1 g2 h0 h1 h2
                clear hb
                have x0 := X9.out.cell 0
                have x1 := X9.out.cell 1
                have x2 := X9.out.cell 2
                have x3 := X9.out.cell 3
                have n0 := N9.out.cell 0
                have n1 := N9.out.cell 1
                have n2 := N9.out.cell 2
                have g0 := G9.out.cell 0
                have g1 := G9.out.cell 1
                have g2 := G9.out.cell 2
                have h0 := H9.out.cell 0
                have h1 := H9.out.cell 1
                have h2 := H9.out.cell 2
                simp only [List.getElem?_toArray, List.getElem?_cons_zero, List.getElem?_cons_succ] at x0 x1 x2 x3 n0 n1 n2 g0 g1 g2 h0 h1 h2
                go_wp2_with fail
                refine (same6 (saB_yes HSA.out) A A1 P A2 c c1 dp c2 _ OX9.out HFX.out RX9.out (by omega) ON9.out HF1.out RN9.out (by omega)).mono ?_
                rintro e w10 ⟨rfl, hb⟩
                have HB10 := hid (HB9.out.trans (hb.mono HB9.out.size))
                have X10 := hid (X9.out.later hb)
                have N10 := hid (N9.out.later hb)
                have G10 := hid (G9.out.later hb)
                have H10 := hid (H9.out.later hb)
                have OX10 := hid (OX9.out.below hb)
                have RX10 := hid (RX9.out.below hb)
                have PM10 := hid (PM9.out.below hb)
                have ON10 := hid (ON9.out.below hb)
                have RN10 := hid (RN9.out.below hb)
                have OK10 := hid (OK9.out.below hb)
                have LL10 := hid (LL9.out.below hb)
                have OL10 := hid (OL9.out.below hb)
                have LM10 := hid (LM9.out.below hb)
                clear x0 x1 x2 x3 n0 n1 n2 g0 g1 g2 h0 h1 h2
                clear hb
                have x0 := X10.out.cell 0
                have x1 := X10.out.cell 1
                have x2 := X10.out.cell 2
                have x3 := X10.out.cell 3
                have n0 := N10.out.cell 0
                have n1 := N10.out.cell 1
                have n2 := N10.out.cell 2
                have g0 := G10.out.cell 0
                have g1 := G10.out.cell 1
                have g2 := G10.out.cell 2
                have h0 := H10.out.cell 0
                have h1 := H10.out.cell 1
                have h2 := H10.out.cell 2
                simp only [List.getElem?_toArray, List.getElem?_cons_zero, List.getElem?_cons_succ] at x0 x1 x2 x3 n0 n1 n2 g0 g1 g2 h0 h1 h2
                go_wp2_with fail
                refine (same6 (saB_yes HSA.out.turn) A1 A A2 P c1 c c2 dp _ ON10.out HF1.out RN10.out (by omega) OX10.out HFX.out RX10.out (by omega)).mono ?_
                rintro e w11 ⟨rfl, hb⟩
                have HB11 := hid (HB10.out.trans (hb.mono HB10.out.size))
                have X11 := hid (X10.out.later hb)
                have N11 := hid (N10.out.later hb)
                have G11 := hid (G10.out.later hb)
                have H11 := hid (H10.out.later hb)
                have OX11 := hid (OX10.out.below hb)
                have RX11 := hid (RX10.out.below hb)
                have PM11 := hid (PM10.out.below hb)
                have ON11 := hid (ON10.out.below hb)
                have RN11 := hid (RN10.out.below hb)
                have OK11 := hid (OK10.out.below hb)
                have LL11 := hid (LL10.out.below hb)
                have OL11 := hid (OL10.out.below hb)
                have LM11 := hid (LM10.out.below hb)
                clear x0 x1 x2 x3 n0 n1 n2 g0 g1 g2 h0 h1 h2
                clear hb
                have x0 := X11.out.cell 0
                have x1 := X11.out.cell 1
                have x2 := X11.out.cell 2
                have x3 := X11.out.cell 3
                have n0 := N11.out.cell 0
                have n1 := N11.out.cell 1
                have n2 := N11.out.cell 2
                have g0 := G11.out.cell 0
                have g1 := G11.out.cell 1
                have g2 := G11.out.cell 2
                have h0 := H11.out.cell 0
                have h1 := H11.out.cell 1
                have h2 := H11.out.cell 2
                simp only [List.getElem?_toArray, List.getElem?_cons_zero, List.getElem?_cons_succ] at x0 x1 x2 x3 n0 n1 n2 g0 g1 g2 h0 h1 h2
                go_wp2_with fail
                go_ret
                exact ⟨rfl, HB11.out⟩
            · have HNS : Hid (saB h rs h rs = false) := saB_no fun g => he (HQen.out.trans g.1)
              go_wp2_with fail
              refine (same6 HNS.out A A P P c c dp dp _ OX4.out HFX.out RX4.out (by omega) OX4.out HFX.out RX4.out (by omega)).mono ?_
              rintro e w5 ⟨rfl, hb⟩
              have HB5 := hid (HB4.out.trans (hb.mono HB4.out.size))
              have X5 := hid (X4.out.later hb)
              have OX5 := hid (OX4.out.below hb)
              have RX5 := hid (RX4.out.below hb)
              have PM5 := hid (PM4.out.below hb)
              clear x0 x1 x2 x3
              clear hb
              have x0 := X5.out.cell 0
              have x1 := X5.out.cell 1
              have x2 := X5.out.cell 2
              have x3 := X5.out.cell 3
              simp only [List.getElem?_toArray, List.getElem?_cons_zero, List.getElem?_cons_succ] at x0 x1 x2 x3
              go_wp2_with fail
              go_ret
              exact ⟨rfl, HB5.out⟩
end Go.Proofs.Ytododpdkbdndoaa
