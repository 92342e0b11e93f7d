/- The document's word on what is a class. The document on primitives: how large. -/
import Derived.Test.YtnilempeldlieaaGreatJ04
import Derived.Test.YtnilempeldlieaaGreatJ11
import Derived.Test.YtnilempeldlieaaGreatJ10
import Derived.Test.YtnilempeldlieaaGreatJ13
namespace Go.Proofs.YtnilempeldlieaaGreat
abbrev oSD90 : Oper := ⟨some 61, .load 24 (.tmp 2), 24, "ref.go:31", #[], none⟩
abbrev oSD91 : Oper := ⟨some 62, .move (.tmp 6), 34, "ref.go:31", #[], none⟩
abbrev oSD92 : Oper := ⟨some 63, .indexAddr 34 (.tmp 62) (.const (Go.Value.int .i64 0)), 0, "ref.go:31", #[⟨1, .data⟩], none⟩
abbrev oSD93 : Oper := ⟨some 64, .load 3 (.tmp 63), 3, "ref.go:31", #[⟨2, .data⟩], none⟩
abbrev oSD94 : Oper := ⟨some 65, .call { callee := .value (.func 32), args := #[.tmp 61, .tmp 64], argTypes := #[24, 3] }, 3, "ref.go:31", #[⟨0, .data⟩, ⟨3, .data⟩], none⟩
abbrev oSD95 : Oper := ⟨some 66, .binOp .geq 3 (.tmp 65) (.const (Go.Value.int .i64 0)) 3, 4, "ref.go:31", #[⟨4, .data⟩], none⟩
abbrev oSD96 : Oper := ⟨some 67, .move (.tmp 66), 4, "ref.go:31", #[⟨5, .data⟩, ⟨4, .chain⟩], none⟩
abbrev oSD97 : Oper := ⟨some 68, .move (.tmp 8), 4, "ref.go:31", #[⟨6, .guard⟩], some (6, true)⟩
abbrev oSD98 : Oper := ⟨some 69, .pick (.tmp 67) (.tmp 68) (.const (Go.Value.bool false)), 4, "ref.go:31", #[⟨6, .data⟩, ⟨7, .data⟩], none⟩
abbrev oSD99 : Oper := ⟨some 70, .move (.tmp 69), 4, "ref.go:31", #[⟨8, .data⟩, ⟨6, .chain⟩], none⟩
abbrev oSD910 : Oper := ⟨some 71, .move (.tmp 10), 4, "ref.go:31", #[⟨9, .guard⟩], some (9, true)⟩
abbrev oSD911 : Oper := ⟨some 72, .pick (.tmp 70) (.tmp 71) (.const (Go.Value.bool false)), 4, "ref.go:31", #[⟨9, .data⟩, ⟨10, .data⟩], none⟩
abbrev oSD912 : Oper := ⟨some 73, .move (.tmp 72), 4, "ref.go:31", #[⟨11, .data⟩, ⟨9, .chain⟩], none⟩
abbrev oSD913 : Oper := ⟨some 74, .move (.tmp 9), 3, "ref.go:31", #[⟨12, .guard⟩], some (12, true)⟩
abbrev oSD914 : Oper := ⟨some 75, .binOp .geq 3 (.tmp 74) (.const (Go.Value.int .i64 0)) 3, 4, "ref.go:31", #[⟨13, .data⟩, ⟨12, .guard⟩], some (12, true)⟩
abbrev oSD915 : Oper := ⟨some 76, .pick (.tmp 73) (.tmp 75) (.const (Go.Value.bool false)), 4, "ref.go:31", #[⟨12, .data⟩, ⟨14, .data⟩], none⟩
abbrev oSD916 : Oper := ⟨some 77, .move (.tmp 76), 4, "ref.go:31", #[⟨15, .data⟩, ⟨12, .chain⟩], none⟩
abbrev oSD917 : Oper := ⟨some 78, .move (.tmp 9), 3, "ref.go:31", #[⟨16, .guard⟩], some (16, true)⟩
abbrev oSD918 : Oper := ⟨some 79, .binOp .leq 3 (.tmp 78) (.const (Go.Value.int .i64 64)) 3, 4, "ref.go:31", #[⟨17, .data⟩, ⟨16, .guard⟩], some (16, true)⟩
abbrev oSD919 : Oper := ⟨some 80, .pick (.tmp 77) (.tmp 79) (.const (Go.Value.bool false)), 4, "ref.go:31", #[⟨16, .data⟩, ⟨18, .data⟩], none⟩
abbrev oSD920 : Oper := ⟨some 4, .assign (.tmp 80), 4, "ref.go:31", #[⟨19, .data⟩, ⟨16, .chain⟩, ⟨0, .phase⟩, ⟨1, .phase⟩, ⟨2, .phase⟩, ⟨3, .phase⟩, ⟨4, .phase⟩, ⟨5, .phase⟩, ⟨6, .phase⟩, ⟨7, .phase⟩, ⟨8, .phase⟩, ⟨9, .phase⟩, ⟨10, .phase⟩, ⟨11, .phase⟩, ⟨12, .phase⟩, ⟨13, .phase⟩, ⟨14, .phase⟩, ⟨15, .phase⟩, ⟨16, .phase⟩, ⟨17, .phase⟩, ⟨18, .phase⟩, ⟨19, .phase⟩], none⟩
open Go.RowKit
set_option maxRecDepth 100000
theorem refI_neg9 {n : Nat} {v : Int} (h : refB n v = false) : refI n v = -1 := by unfold refI; rw [if_neg (by rw [h]; decide)]
set_option maxHeartbeats 2000000 in
theorem rclass_any9 (h : Hp) (c : Int) (A : Option Addr) (d : Nat) (w : World) (hs : ObsR w A h.objs) (fit : h.Fit) :
    Calls Tryz.prog 83 #[.agg #[.slice A h.objs.length d, .int .i64 h.cap, .int .i64 h.last], .int .i64 c] w fun e w' => e = .returned (.bool (clB9 h c)) ∧ Below w.heap.size w w' := by
  obtain ⟨w0, hw0⟩ : ∃ w0, w0 = w.alloc (.cells #[Value.slice A h.objs.length d, Value.int .i64 h.cap, Value.int .i64 h.last] 24) := ⟨_, rfl⟩
  have HB0 : Hid (Below w.heap.size w w0) := by show Below _ _ _; rw [hw0]; exact below_alloc _ _
  have HX0 : Hid (Lies w0 w.heap.size 24 #[Value.slice A h.objs.length d, Value.int .i64 h.cap, Value.int .i64 h.last]) := by
    show Lies _ _ _ _
    rw [hw0]; exact Lies.new _ _ _
  have HS := hid hs
  have HF := hid fit
  have HS0 := hid (hs.below HB0.out)
  clear hs fit
  go_enter Tryz.func83, Tryz.ntmps83
  go_upto_region 1 with fail
  rw [← hw0]
  clear hw0
  obtain ⟨x0, x1, x2⟩ := HX0.out.c3
  go_wp2_with fail
  refine (rref_any h c A d _).mono ?_
  rintro e w1 ⟨rfl, hb⟩
  have HB1 := hid (HB0.out.trans (hb.mono HB0.out.size))
  have HX1 := hid (HX0.out.later hb)
  have HS1 := hid (HS0.out.below hb)
  clear hb x0 x1 x2
  obtain ⟨x0, x1, x2⟩ := HX1.out.c3
  go_wp2_with fail
  refine (rmay_any h A d _ HS1.out HF.out).mono ?_
  rintro e w2 ⟨rfl, hb⟩
  have HB2 := hid (HB1.out.trans (hb.mono HB1.out.size))
  have HX2 := hid (HX1.out.later hb)
  have HS2 := hid (HS1.out.below hb)
  clear hb x0 x1 x2
  obtain ⟨x0, x1, x2⟩ := HX2.out.c3
  cases hm : mayB h
  next =>
   have E : Hid (clB9 h c = false) := by show _ = _; unfold clB9; rw [hm]; rfl
   clear hm
   go_wp2_with fail
   go_ret
   exact ⟨by rw [E.out]; rfl, HB2.out⟩
  next =>
   cases hr : refB h.objs.length c
   next =>
    have E : Hid (clB9 h c = false) := by show _ = _; unfold clB9; rw [hr]; simp
    have e1 := refI_neg9 hr
    rw [e1]
    clear hm hr
    go_wp2_with fail
    go_ret
    exact ⟨by rw [E.out]; rfl, HB2.out⟩
   next =>
    obtain ⟨i, b, off, S, dd, hi, hil, rfl, hc, hint, -⟩ := ob_read9 HS.out HB2.out hr
    have hlI : (i : Int) < (h.objs.length : Int) := by omega
    have hng : ¬ (i : Int) < 0 := by omega
    have hngD : decide ((i : Int) < 0) = false := decide_eq_false hng
    have c1 := hc.c1
    have c2 := hc.c2
    rw [hi]
    by_cases hk : (obAt h c).kind = 0
    next =>
     by_cases hl : (obAt h c).slots.length < 3
     next =>
      have E : Hid (clB9 h c = false) := by show _ = _; unfold clB9; rw [decide_eq_false (show ¬ 3 ≤ (obAt h c).slots.length by omega)]; simp
      have hlI3 : ((obAt h c).slots.length : Int) < 3 := by omega
      rw [hk] at c1
      clear hm hr hi hc hint hk hl
      go_wp2_with fail
      go_ret
      exact ⟨by rw [E.out]; rfl, HB2.out⟩
     next =>
      have hlI3 : ¬ ((obAt h c).slots.length : Int) < 3 := by omega
      have E : Hid (clB9 h c = (refB h.objs.length (sl9 h c 0) && (paB9 h (sl9 h c 1) && (nB (sl9 h c 2) && decide (0 ≤ nV (sl9 h c 2) ∧ nV (sl9 h c 2) ≤ 64))))) := by
        show _ = _
        unfold clB9
        rw [hm, hr, decide_eq_true hk, decide_eq_true (show 3 ≤ (obAt h c).slots.length by omega)]; rfl
      obtain ⟨bs, os, rfl, hbs, hcs⟩ := hint (by omega)
      have s0 := hcs 0 _ (sl_at9 (by omega))
      have s1 := hcs 1 _ (sl_at9 (by omega))
      have s2 := hcs 2 _ (sl_at9 (by omega))
      rw [Nat.add_zero] at s0
      obtain ⟨v0, hv0⟩ : ∃ v, v = sl9 h c 0 := ⟨_, rfl⟩
      obtain ⟨v1, hv1⟩ : ∃ v, v = sl9 h c 1 := ⟨_, rfl⟩
      obtain ⟨v2, hv2⟩ : ∃ v, v = sl9 h c 2 := ⟨_, rfl⟩
      rw [← hv0, ← hv1, ← hv2] at E
      rw [← hv0] at s0
      rw [← hv1] at s1
      rw [← hv2] at s2
      obtain ⟨n, hn⟩ : ∃ n, n = (obAt h c).slots.length := ⟨_, rfl⟩
      have hn3 : 3 ≤ n := by omega
      have k0 : 0 < n := by omega
      have k1 : 1 < n := by omega
      have k2 : 2 < n := by omega
      have g0 : (0 : Int) < (n : Int) := by omega
      have g1 : (1 : Int) < (n : Int) := by omega
      have g2 : (2 : Int) < (n : Int) := by omega
      rw [← hn] at c2 hlI3
      rw [hk] at c1
      clear hm hr hi hc hint hcs hk hl hv0 hv1 hv2 hn
      go_upto_region 5 with fail
      refine wp_region_held_drew (S := (fun w' => w'.cell? ⟨w.heap.size, 0, none⟩ = some (.slice (some ⟨b, off, none⟩) h.objs.length d) ∧ w'.cell? ⟨w.heap.size, 1, none⟩ = some (.int .i64 h.cap) ∧ w'.cell? ⟨w.heap.size, 2, none⟩ = some (.int .i64 h.last) ∧ w'.cell? ⟨bs, os, none⟩ = some (.int .i64 v0) ∧ w'.cell? ⟨bs, os + 1, none⟩ = some (.int .i64 v1) ∧ w'.cell? ⟨bs, os + 2, none⟩ = some (.int .i64 v2))) (by kernel_rfl) ?_ (fun hH0 => ?_)
      next =>
       exact ⟨x0, x1, x2, s0, s1, s2⟩
      refine tkJ 0 ⟨some 47, .load 24 (.tmp 2), 24, "ref.go:29", #[], none⟩ ?_
      refine tkJ 1 ⟨some 48, .move (.tmp 6), 34, "ref.go:29", #[], none⟩ ?_
      refine tkJ 2 ⟨some 49, .indexAddr 34 (.tmp 48) (.const (Go.Value.int .i64 1)), 0, "ref.go:29", #[⟨1, .data⟩], none⟩ ?_
      refine tkJ 3 ⟨some 50, .load 3 (.tmp 49), 3, "ref.go:29", #[⟨2, .data⟩], none⟩ ?_
      refine rdJ 4 ⟨some 51, .call { callee := .value (.func 120), args := #[.tmp 47, .tmp 50], argTypes := #[24, 3] }, 118, "ref.go:29", #[⟨0, .data⟩, ⟨3, .data⟩], none⟩ fun K hK => ?_
      go_simp
      go_at_call 120
      refine (rpairs_any9 h v1 (some ⟨b, off, none⟩) d _ (HS2.out.below (Below.refl w2.heap.size w2).drew) HF.out).mono ?_
      rintro e u1 ⟨S1, d1, rfl, -, hb⟩
      have HV1 := hid (then_w (Below.refl w2.heap.size w2).drew hb)
      refine hK.out _ _ ?_ (fun hH1 => ?_)
      next =>
       exact ⟨cell_later hb hH0.1, cell_later hb hH0.2.1, cell_later hb hH0.2.2.1, cell_later hb hH0.2.2.2.1, cell_later hb hH0.2.2.2.2.1, cell_later hb hH0.2.2.2.2.2⟩
      clear hK K
      try simp only [apt12]
      clear hb
      refine tkJ 5 ⟨some 46, .move (.tmp 51), 118, "ref.go:29", #[⟨4, .data⟩], none⟩ ?_
      refine tkJ 6 ⟨some 52, .extract (.tmp 46) 0, 34, "ref.go:29", #[⟨5, .data⟩], none⟩ ?_
      refine tkJ 7 ⟨some 53, .extract (.tmp 46) 1, 4, "ref.go:29", #[⟨5, .data⟩, ⟨8, .gcOnly .lateStores⟩], none⟩ ?_
      refine tkJ 8 ⟨some 7, .assign (.tmp 52), 34, "ref.go:29", #[⟨6, .data⟩, ⟨4, .chain⟩, ⟨0, .phase⟩, ⟨1, .phase⟩, ⟨2, .phase⟩, ⟨3, .phase⟩, ⟨4, .phase⟩, ⟨5, .phase⟩, ⟨6, .phase⟩, ⟨7, .textOnly .lateStores⟩], none⟩ ?_
      refine tkJ 9 ⟨some 8, .assign (.tmp 53), 4, "ref.go:29", #[⟨7, .data⟩, ⟨8, .chain⟩, ⟨0, .phase⟩, ⟨1, .phase⟩, ⟨2, .phase⟩, ⟨3, .phase⟩, ⟨4, .phase⟩, ⟨5, .phase⟩, ⟨6, .phase⟩, ⟨7, .phase⟩, ⟨8, .phase⟩], none⟩ ?_
      refine wpAnyH_done (by kernel_rfl) ?_ _
      obtain ⟨w3, hw3⟩ : ∃ u, u = u1 := ⟨_, rfl⟩
      rw [← hw3] at HV1 hH1 ⊢
      have HB3 := hid (HB2.out.trans (HV1.out.mono HB2.out.size))
      have HX3 := hid (HX2.out.later HV1.out)
      have HS3 := hid (HS2.out.below HV1.out)
      obtain ⟨x0, x1, x2, s0, s1, s2⟩ := hH1
      clear hw3 HV1 hH0
      go_wp2_with fail
      refine (rn_any v2 _).mono ?_
      rintro e w4 ⟨rfl, rfl⟩
      cases h0 : refB h.objs.length v0
      next =>
       rw [h0] at E
       have R0 := refI_neg9 h0
       clear h0
       go_upto_region 7 with fail
       refine wp_region_held_drew (S := (fun w' => w'.cell? ⟨w.heap.size, 0, none⟩ = some (.slice (some ⟨b, off, none⟩) h.objs.length d) ∧ w'.cell? ⟨w.heap.size, 1, none⟩ = some (.int .i64 h.cap) ∧ w'.cell? ⟨w.heap.size, 2, none⟩ = some (.int .i64 h.last) ∧ w'.cell? ⟨bs, os, none⟩ = some (.int .i64 v0) ∧ w'.cell? ⟨bs, os + 1, none⟩ = some (.int .i64 v1) ∧ w'.cell? ⟨bs, os + 2, none⟩ = some (.int .i64 v2))) (by kernel_rfl) ?_ (fun hH0 => ?_)
       next =>
        exact ⟨x0, x1, x2, s0, s1, s2⟩
       refine tkJ 0 oSD90 ?_
       refine tkJ 1 oSD91 ?_
       refine tkJ 2 oSD92 ?_
       refine tkJ 3 oSD93 ?_
       refine rdJ 4 oSD94 fun K hK => ?_
       go_simp
       go_at_call 32
       refine (rref_any h v0 (some ⟨b, off, none⟩) d _).mono ?_
       rintro e u2 ⟨rfl, hb⟩
       rw [R0]
       have HV2 := hid (then_w (Below.refl w3.heap.size w3).drew hb)
       refine hK.out _ _ ?_ (fun hH1 => ?_)
       next =>
        exact ⟨cell_later hb hH0.1, cell_later hb hH0.2.1, cell_later hb hH0.2.2.1, cell_later hb hH0.2.2.2.1, cell_later hb hH0.2.2.2.2.1, cell_later hb hH0.2.2.2.2.2⟩
       clear hK K
       try simp only [apt12]
       clear hb
       refine tkJ 5 oSD95 ?_
       refine tkJ 6 oSD96 ?_
       refine tkP 7 oSD97 ?_
       refine tkJ 8 oSD98 ?_
       refine tkJ 9 oSD99 ?_
       refine tkP 10 oSD910 ?_
       refine tkJ 11 oSD911 ?_
       refine tkJ 12 oSD912 ?_
       refine tkP 13 oSD913 ?_
       refine tkP 14 oSD914 ?_
       refine tkJ 15 oSD915 ?_
       refine tkJ 16 oSD916 ?_
       refine tkP 17 oSD917 ?_
       refine tkP 18 oSD918 ?_
       refine tkJ 19 oSD919 ?_
       refine tkJ 20 oSD920 ?_
       refine wpAnyH_done (by kernel_rfl) ?_ _
       go_wp2_with fail
       go_ret
       exact ⟨by rw [E.out]; rfl, HB3.out.trans (HV2.out.mono HB3.out.size)⟩
      next =>
       have R0 := refI_nonneg h0
       have hp0 := (refB_no h0).2.1
       obtain ⟨z, hz⟩ : ∃ z, z = atV v0 := ⟨_, rfl⟩
       rw [← hz] at R0 hp0
       have hz1 : ¬ z < 0 := by omega
       rw [h0] at E
       clear h0 hz
       cases h1 : paB9 h v1
       next =>
        rw [h1] at E
        clear h1
        go_upto_region 7 with fail
        refine wp_region_held_drew (S := (fun w' => w'.cell? ⟨w.heap.size, 0, none⟩ = some (.slice (some ⟨b, off, none⟩) h.objs.length d) ∧ w'.cell? ⟨w.heap.size, 1, none⟩ = some (.int .i64 h.cap) ∧ w'.cell? ⟨w.heap.size, 2, none⟩ = some (.int .i64 h.last) ∧ w'.cell? ⟨bs, os, none⟩ = some (.int .i64 v0) ∧ w'.cell? ⟨bs, os + 1, none⟩ = some (.int .i64 v1) ∧ w'.cell? ⟨bs, os + 2, none⟩ = some (.int .i64 v2))) (by kernel_rfl) ?_ (fun hH0 => ?_)
        next =>
         exact ⟨x0, x1, x2, s0, s1, s2⟩
        refine tkJ 0 oSD90 ?_
        refine tkJ 1 oSD91 ?_
        refine tkJ 2 oSD92 ?_
        refine tkJ 3 oSD93 ?_
        refine rdJ 4 oSD94 fun K hK => ?_
        go_simp
        go_at_call 32
        refine (rref_any h v0 (some ⟨b, off, none⟩) d _).mono ?_
        rintro e u2 ⟨rfl, hb⟩
        rw [R0]
        have HV2 := hid (then_w (Below.refl w3.heap.size w3).drew hb)
        refine hK.out _ _ ?_ (fun hH1 => ?_)
        next =>
         exact ⟨cell_later hb hH0.1, cell_later hb hH0.2.1, cell_later hb hH0.2.2.1, cell_later hb hH0.2.2.2.1, cell_later hb hH0.2.2.2.2.1, cell_later hb hH0.2.2.2.2.2⟩
        clear hK K
        try simp only [apt12]
        clear hb
        refine tkJ 5 oSD95 ?_
        refine tkJ 6 oSD96 ?_
        refine tkJ 7 oSD97 ?_
        refine tkJ 8 oSD98 ?_
        refine tkJ 9 oSD99 ?_
        refine tkP 10 oSD910 ?_
        refine tkJ 11 oSD911 ?_
        refine tkJ 12 oSD912 ?_
        refine tkP 13 oSD913 ?_
        refine tkP 14 oSD914 ?_
        refine tkJ 15 oSD915 ?_
        refine tkJ 16 oSD916 ?_
        refine tkP 17 oSD917 ?_
        refine tkP 18 oSD918 ?_
        refine tkJ 19 oSD919 ?_
        refine tkJ 20 oSD920 ?_
        refine wpAnyH_done (by kernel_rfl) ?_ _
        go_wp2_with fail
        go_ret
        exact ⟨by rw [E.out]; rfl, HB3.out.trans (HV2.out.mono HB3.out.size)⟩
       next =>
        rw [h1] at E
        clear h1
        cases h2 : nB v2
        next =>
         rw [h2] at E
         clear h2
         go_upto_region 7 with fail
         refine wp_region_held_drew (S := (fun w' => w'.cell? ⟨w.heap.size, 0, none⟩ = some (.slice (some ⟨b, off, none⟩) h.objs.length d) ∧ w'.cell? ⟨w.heap.size, 1, none⟩ = some (.int .i64 h.cap) ∧ w'.cell? ⟨w.heap.size, 2, none⟩ = some (.int .i64 h.last) ∧ w'.cell? ⟨bs, os, none⟩ = some (.int .i64 v0) ∧ w'.cell? ⟨bs, os + 1, none⟩ = some (.int .i64 v1) ∧ w'.cell? ⟨bs, os + 2, none⟩ = some (.int .i64 v2))) (by kernel_rfl) ?_ (fun hH0 => ?_)
         next =>
          exact ⟨x0, x1, x2, s0, s1, s2⟩
         refine tkJ 0 oSD90 ?_
         refine tkJ 1 oSD91 ?_
         refine tkJ 2 oSD92 ?_
         refine tkJ 3 oSD93 ?_
         refine rdJ 4 oSD94 fun K hK => ?_
         go_simp
         go_at_call 32
         refine (rref_any h v0 (some ⟨b, off, none⟩) d _).mono ?_
         rintro e u2 ⟨rfl, hb⟩
         rw [R0]
         have HV2 := hid (then_w (Below.refl w3.heap.size w3).drew hb)
         refine hK.out _ _ ?_ (fun hH1 => ?_)
         next =>
          exact ⟨cell_later hb hH0.1, cell_later hb hH0.2.1, cell_later hb hH0.2.2.1, cell_later hb hH0.2.2.2.1, cell_later hb hH0.2.2.2.2.1, cell_later hb hH0.2.2.2.2.2⟩
         clear hK K
         try simp only [apt12]
         clear hb
         refine tkJ 5 oSD95 ?_
         refine tkJ 6 oSD96 ?_
         refine tkJ 7 oSD97 ?_
         refine tkJ 8 oSD98 ?_
         refine tkJ 9 oSD99 ?_
         refine tkJ 10 oSD910 ?_
         refine tkJ 11 oSD911 ?_
         refine tkJ 12 oSD912 ?_
         refine tkP 13 oSD913 ?_
         refine tkP 14 oSD914 ?_
         refine tkJ 15 oSD915 ?_
         refine tkJ 16 oSD916 ?_
         refine tkP 17 oSD917 ?_
         refine tkP 18 oSD918 ?_
         refine tkJ 19 oSD919 ?_
         refine tkJ 20 oSD920 ?_
         refine wpAnyH_done (by kernel_rfl) ?_ _
         go_wp2_with fail
         go_ret
         exact ⟨by rw [E.out]; rfl, HB3.out.trans (HV2.out.mono HB3.out.size)⟩
        next =>
         rw [h2] at E
         clear h2
         obtain ⟨m, hm⟩ : ∃ m, m = nV v2 := ⟨_, rfl⟩
         rw [← hm] at E ⊢
         clear hm
         by_cases h3 : 0 ≤ m
         next =>
          have h3D : decide (0 ≤ m) = true := decide_eq_true h3
          by_cases h4 : m ≤ 64
          next =>
           have h4D : decide (m ≤ 64) = true := decide_eq_true h4
           rw [decide_eq_true (And.intro h3 h4)] at E
           go_upto_region 7 with fail
           refine wp_region_held_drew (S := (fun w' => w'.cell? ⟨w.heap.size, 0, none⟩ = some (.slice (some ⟨b, off, none⟩) h.objs.length d) ∧ w'.cell? ⟨w.heap.size, 1, none⟩ = some (.int .i64 h.cap) ∧ w'.cell? ⟨w.heap.size, 2, none⟩ = some (.int .i64 h.last) ∧ w'.cell? ⟨bs, os, none⟩ = some (.int .i64 v0) ∧ w'.cell? ⟨bs, os + 1, none⟩ = some (.int .i64 v1) ∧ w'.cell? ⟨bs, os + 2, none⟩ = some (.int .i64 v2))) (by kernel_rfl) ?_ (fun hH0 => ?_)
           next =>
            exact ⟨x0, x1, x2, s0, s1, s2⟩
           refine tkJ 0 oSD90 ?_
           refine tkJ 1 oSD91 ?_
           refine tkJ 2 oSD92 ?_
           refine tkJ 3 oSD93 ?_
           refine rdJ 4 oSD94 fun K hK => ?_
           go_simp
           go_at_call 32
           refine (rref_any h v0 (some ⟨b, off, none⟩) d _).mono ?_
           rintro e u2 ⟨rfl, hb⟩
           rw [R0]
           have HV2 := hid (then_w (Below.refl w3.heap.size w3).drew hb)
           refine hK.out _ _ ?_ (fun hH1 => ?_)
           next =>
            exact ⟨cell_later hb hH0.1, cell_later hb hH0.2.1, cell_later hb hH0.2.2.1, cell_later hb hH0.2.2.2.1, cell_later hb hH0.2.2.2.2.1, cell_later hb hH0.2.2.2.2.2⟩
           clear hK K
           try simp only [apt12]
           clear hb
           refine tkJ 5 oSD95 ?_
           refine tkJ 6 oSD96 ?_
           refine tkJ 7 oSD97 ?_
           refine tkJ 8 oSD98 ?_
           refine tkJ 9 oSD99 ?_
           refine tkJ 10 oSD910 ?_
           refine tkJ 11 oSD911 ?_
           refine tkJ 12 oSD912 ?_
           refine tkJ 13 oSD913 ?_
           refine tkJ 14 oSD914 ?_
           refine tkJ 15 oSD915 ?_
           refine tkJ 16 oSD916 ?_
           refine tkJ 17 oSD917 ?_
           refine tkJ 18 oSD918 ?_
           refine tkJ 19 oSD919 ?_
           refine tkJ 20 oSD920 ?_
           refine wpAnyH_done (by kernel_rfl) ?_ _
           go_wp2_with fail
           go_ret
           exact ⟨by rw [E.out]; rfl, HB3.out.trans (HV2.out.mono HB3.out.size)⟩
          next =>
           have h4D : decide (m ≤ 64) = false := decide_eq_false h4
           rw [decide_eq_false (fun f : 0 ≤ m ∧ m ≤ 64 => h4 f.2)] at E
           go_upto_region 7 with fail
           refine wp_region_held_drew (S := (fun w' => w'.cell? ⟨w.heap.size, 0, none⟩ = some (.slice (some ⟨b, off, none⟩) h.objs.length d) ∧ w'.cell? ⟨w.heap.size, 1, none⟩ = some (.int .i64 h.cap) ∧ w'.cell? ⟨w.heap.size, 2, none⟩ = some (.int .i64 h.last) ∧ w'.cell? ⟨bs, os, none⟩ = some (.int .i64 v0) ∧ w'.cell? ⟨bs, os + 1, none⟩ = some (.int .i64 v1) ∧ w'.cell? ⟨bs, os + 2, none⟩ = some (.int .i64 v2))) (by kernel_rfl) ?_ (fun hH0 => ?_)
           next =>
            exact ⟨x0, x1, x2, s0, s1, s2⟩
           refine tkJ 0 oSD90 ?_
           refine tkJ 1 oSD91 ?_
           refine tkJ 2 oSD92 ?_
           refine tkJ 3 oSD93 ?_
           refine rdJ 4 oSD94 fun K hK => ?_
           go_simp
           go_at_call 32
           refine (rref_any h v0 (some ⟨b, off, none⟩) d _).mono ?_
           rintro e u2 ⟨rfl, hb⟩
           rw [R0]
           have HV2 := hid (then_w (Below.refl w3.heap.size w3).drew hb)
           refine hK.out _ _ ?_ (fun hH1 => ?_)
           next =>
            exact ⟨cell_later hb hH0.1, cell_later hb hH0.2.1, cell_later hb hH0.2.2.1, cell_later hb hH0.2.2.2.1, cell_later hb hH0.2.2.2.2.1, cell_later hb hH0.2.2.2.2.2⟩
           clear hK K
           try simp only [apt12]
           clear hb
           refine tkJ 5 oSD95 ?_
           refine tkJ 6 oSD96 ?_
           refine tkJ 7 oSD97 ?_
           refine tkJ 8 oSD98 ?_
           refine tkJ 9 oSD99 ?_
           refine tkJ 10 oSD910 ?_
           refine tkJ 11 oSD911 ?_
           refine tkJ 12 oSD912 ?_
           refine tkJ 13 oSD913 ?_
           refine tkJ 14 oSD914 ?_
           refine tkJ 15 oSD915 ?_
           refine tkJ 16 oSD916 ?_
           refine tkJ 17 oSD917 ?_
           refine tkJ 18 oSD918 ?_
           refine tkJ 19 oSD919 ?_
           refine tkJ 20 oSD920 ?_
           refine wpAnyH_done (by kernel_rfl) ?_ _
           go_wp2_with fail
           go_ret
           exact ⟨by rw [E.out]; rfl, HB3.out.trans (HV2.out.mono HB3.out.size)⟩
         next =>
          have h3D : decide (0 ≤ m) = false := decide_eq_false h3
          rw [decide_eq_false (fun f : 0 ≤ m ∧ m ≤ 64 => h3 f.1)] at E
          go_upto_region 7 with fail
          refine wp_region_held_drew (S := (fun w' => w'.cell? ⟨w.heap.size, 0, none⟩ = some (.slice (some ⟨b, off, none⟩) h.objs.length d) ∧ w'.cell? ⟨w.heap.size, 1, none⟩ = some (.int .i64 h.cap) ∧ w'.cell? ⟨w.heap.size, 2, none⟩ = some (.int .i64 h.last) ∧ w'.cell? ⟨bs, os, none⟩ = some (.int .i64 v0) ∧ w'.cell? ⟨bs, os + 1, none⟩ = some (.int .i64 v1) ∧ w'.cell? ⟨bs, os + 2, none⟩ = some (.int .i64 v2))) (by kernel_rfl) ?_ (fun hH0 => ?_)
          next =>
           exact ⟨x0, x1, x2, s0, s1, s2⟩
          refine tkJ 0 oSD90 ?_
          refine tkJ 1 oSD91 ?_
          refine tkJ 2 oSD92 ?_
          refine tkJ 3 oSD93 ?_
          refine rdJ 4 oSD94 fun K hK => ?_
          go_simp
          go_at_call 32
          refine (rref_any h v0 (some ⟨b, off, none⟩) d _).mono ?_
          rintro e u2 ⟨rfl, hb⟩
          rw [R0]
          have HV2 := hid (then_w (Below.refl w3.heap.size w3).drew hb)
          refine hK.out _ _ ?_ (fun hH1 => ?_)
          next =>
           exact ⟨cell_later hb hH0.1, cell_later hb hH0.2.1, cell_later hb hH0.2.2.1, cell_later hb hH0.2.2.2.1, cell_later hb hH0.2.2.2.2.1, cell_later hb hH0.2.2.2.2.2⟩
          clear hK K
          try simp only [apt12]
          clear hb
          refine tkJ 5 oSD95 ?_
          refine tkJ 6 oSD96 ?_
          refine tkJ 7 oSD97 ?_
          refine tkJ 8 oSD98 ?_
          refine tkJ 9 oSD99 ?_
          refine tkJ 10 oSD910 ?_
          refine tkJ 11 oSD911 ?_
          refine tkJ 12 oSD912 ?_
          refine tkJ 13 oSD913 ?_
          refine tkJ 14 oSD914 ?_
          refine tkJ 15 oSD915 ?_
          refine tkJ 16 oSD916 ?_
          refine tkP 17 oSD917 ?_
          refine tkP 18 oSD918 ?_
          refine tkJ 19 oSD919 ?_
          refine tkJ 20 oSD920 ?_
          refine wpAnyH_done (by kernel_rfl) ?_ _
          go_wp2_with fail
          go_ret
          exact ⟨by rw [E.out]; rfl, HB3.out.trans (HV2.out.mono HB3.out.size)⟩
    next =>
     have hkB : ((obAt h c).kind == 0) = false := beq_eq_false_iff_ne.2 hk
     have E : Hid (clB9 h c = false) := by show _ = _; unfold clB9; rw [decide_eq_false hk]; simp
     clear hm hr hi hc hint
     go_wp2_with fail
     go_ret
     exact ⟨by rw [E.out]; rfl, HB2.out⟩
end Go.Proofs.YtnilempeldlieaaGreat
namespace Go.Proofs.YtnilempeldlieaaGreat
open Go.RowKit Flt
set_option maxRecDepth 100000
set_option maxHeartbeats 1000000 in
theorem rparts10_any13 (h : Hp) (s a b : Int) (AL : Value) (A : Option Addr) (c : Nat) (w : World) (hs : ObsR w A h.objs) (hm : mayB h = true) :
    Calls Tryz.prog 43 #[.agg #[.slice A h.objs.length c, .int .i64 h.cap, .int .i64 h.last], .int .i64 10, .int .i64 s, AL] w (RsH13 w h A c (pa13 h 10 s a b)) := by
  have HS := hid hs
  have HM := hid hm
  clear hs hm
  obtain ⟨r, hr⟩ : ∃ r, r = pa13 h 10 s a b := ⟨_, rfl⟩
  rw [← hr]
  have HRR : Hid (r = if refB h.objs.length s = false ∨ (obAt h s).kind = 2 then fa13 h else in13 h ((obAt h s).slots.length + (obAt h s).text.size)) := by show _ = _; rw [hr]; unfold pa13; rw [if_pos rfl]
  clear hr
  obtain ⟨w0, hw0⟩ : ∃ u, u = (w.alloc (.cells #[Value.slice A h.objs.length c, Value.int .i64 h.cap, Value.int .i64 h.last] 24)).alloc (.cells #[.slice none 0 0, .int .i64 0, .int .i64 0] 24) := ⟨_, rfl⟩
  obtain ⟨bR, hbR⟩ : ∃ x, x = w.heap.size + 1 := ⟨_, rfl⟩
  have HB0 : Hid (Below w.heap.size w w0) := by show Below _ _ _; rw [hw0]; exact below_alloc2 w _ _
  have HX0 : Hid (Lies w0 w.heap.size 24 #[Value.slice A h.objs.length c, Value.int .i64 h.cap, Value.int .i64 h.last]) := by
    show Lies _ _ _ _
    rw [hw0]; exact (Lies.new _ _ _).alloc _
  have HR0 : Hid (Lies w0 bR 24 #[.slice none 0 0, .int .i64 0, .int .i64 0]) := by
    show Lies _ _ _ _
    have := Lies.new (w.alloc (.cells #[Value.slice A h.objs.length c, Value.int .i64 h.cap, Value.int .i64 h.last] 24)) 24 #[.slice none 0 0, .int .i64 0, .int .i64 0]
    rw [hw0, hbR]; simpa using this
  have HRW : Hid (w.heap.size ≤ bR) := by show _ ≤ _; omega
  have HNE : Hid (w.heap.size ≠ bR) := by show _ ≠ _; omega
  go_enter Tryz.func43, Tryz.ntmps43
  go_upto_region 1 with fail
  rw [← hw0, ← hbR]
  clear hw0 hbR
  obtain ⟨x0, x1, x2⟩ := HX0.out.c3
  go_wp2_with fail
  refine (rref_any h s A c w0).mono ?_
  rintro e w1 ⟨rfl, hb⟩
  have HB1 := hid (then_w HB0.out hb)
  have HX1 := hid (HX0.out.later hb)
  have HR1 := hid (HR0.out.later hb)
  clear hb x0 x1 x2
  cases hrf : refB h.objs.length s
  next =>
   have HE : Hid (r = fa13 h) := by show _ = _; rw [HRR.out, if_pos (.inl hrf)]
   rw [refI_neg9 hrf]
   clear hrf
   obtain ⟨x0, x1, x2⟩ := HX1.out.c3
   go_wp2_with fail
   refine (rfail_any13 h A c w1).mono ?_
   rintro e w2 ⟨rfl, hb⟩
   have HB2 := hid (then_w HB1.out hb)
   have HX2 := hid (HX1.out.later hb)
   have HR2 := hid (HR1.out.later hb)
   clear hb x0 x1 x2
   obtain ⟨x0, x1, x2⟩ := HX2.out.c3
   obtain ⟨k0, k1, k2⟩ := HR2.out.c3
   obtain ⟨f0, f1, f2⟩ := HR2.out.f3
   go_wp2_with fail
   have HK := HR2.out.s3 (.slice A h.objs.length c) (.int .i64 h.cap) (.int .i64 h.last)
   obtain ⟨r0, r1, r2⟩ := HK
   have HBE := below_s3 HB2.out HRW.out (.slice A h.objs.length c) (.int .i64 h.cap) (.int .i64 h.last)
   refine bodyPost_ret (v := .tuple #[.agg #[.slice A h.objs.length c, .int .i64 h.cap, .int .i64 h.last], .int .i64 (fa13 h).2.1, .int .i64 (fa13 h).2.2]) (by simp [results, Tryz.results43, go_sem, r0, r1, r2]) rfl ?_
   exact ⟨by rw [HE.out], HBE⟩
  next =>
   obtain ⟨i, b, off, S, dd, hi, hil, rfl, hc, -, -, hlt⟩ := ob_read12 HS.out (Below.refl _ _) hrf
   rw [hi]
   have Y1 := hid hc.c1
   have Y2 := hid hc.c2
   have Y3 := hid hc.c3
   have HLT := hid hlt
   have hilI : (i : Int) < (h.objs.length : Int) := by omega
   have hi0 : (0 : Int) ≤ (i : Int) := by omega
   have hin : ¬ (i : Int) < 0 := by omega
   have hbd : (obAt h s).slots.length ≤ 64 ∧ (obAt h s).text.size ≤ 64 := by
     obtain ⟨j, hj, -, ho⟩ := obAt_get hrf
     have := kind_len (ob_kind (may_all HM.out _ (List.mem_of_getElem? ho)))
     exact ⟨this.1, this.2.1⟩
   obtain ⟨kk, hkk⟩ : ∃ k, k = (obAt h s).kind := ⟨_, rfl⟩
   obtain ⟨n1, hn1⟩ : ∃ k, k = (obAt h s).slots.length := ⟨_, rfl⟩
   obtain ⟨tx, htx⟩ : ∃ k, k = (obAt h s).text := ⟨_, rfl⟩
   rw [← hkk] at Y1 HRR
   rw [← hn1] at Y2 HRR hbd
   rw [← htx] at Y3 HRR hbd
   have HRF := hid hrf
   obtain ⟨h64, ht64⟩ := hbd
   have hw1 : IntKind.i64.wrap ((n1 : Int) + (tx.size : Int)) = (n1 : Int) + (tx.size : Int) := IntWalk.i64_in _ (by omega)
   have y1 := (HB1.out.cell (p := ⟨b, off + i * 6 + 1, none⟩) HLT.out).trans Y1.out
   clear hi hc hkk hn1 htx hrf h64 ht64 hlt
   by_cases hk2 : kk = 2
   next =>
    have HE : Hid (r = fa13 h) := by show _ = _; rw [HRR.out, if_pos (.inr hk2)]
    have hkb : (kk == 2) = true := by simpa using hk2
    clear hk2
    obtain ⟨x0, x1, x2⟩ := HX1.out.c3
    go_wp2_with fail
    refine (rfail_any13 h (some ⟨b, off, none⟩) c w1).mono ?_
    rintro e w2 ⟨rfl, hb⟩
    have HB2 := hid (then_w HB1.out hb)
    have HX2 := hid (HX1.out.later hb)
    have HR2 := hid (HR1.out.later hb)
    clear hb x0 x1 x2
    obtain ⟨x0, x1, x2⟩ := HX2.out.c3
    obtain ⟨k0, k1, k2⟩ := HR2.out.c3
    obtain ⟨f0, f1, f2⟩ := HR2.out.f3
    go_wp2_with fail
    have HK := HR2.out.s3 (.slice (some ⟨b, off, none⟩) h.objs.length c) (.int .i64 h.cap) (.int .i64 h.last)
    obtain ⟨r0, r1, r2⟩ := HK
    have HBE := below_s3 HB2.out HRW.out (.slice (some ⟨b, off, none⟩) h.objs.length c) (.int .i64 h.cap) (.int .i64 h.last)
    refine bodyPost_ret (v := .tuple #[.agg #[.slice (some ⟨b, off, none⟩) h.objs.length c, .int .i64 h.cap, .int .i64 h.last], .int .i64 (fa13 h).2.1, .int .i64 (fa13 h).2.2]) (by simp [results, Tryz.results43, go_sem, r0, r1, r2]) rfl ?_
    exact ⟨by rw [HE.out], HBE⟩
   next =>
    have HE : Hid (r = in13 h ((n1 : Int) + (tx.size : Int))) := by
      show _ = _
      rw [HRR.out, if_neg]
      rintro (g | g)
      next =>
       rw [HRF.out] at g; cases g
      next =>
       exact hk2 g
    have hkb : (kk == 2) = false := by simpa using hk2
    clear hk2
    obtain ⟨x0, x1, x2⟩ := HX1.out.c3
    have y2 := (HB1.out.cell (p := ⟨b, off + i * 6 + 2, none⟩) HLT.out).trans Y2.out
    have y3 := (HB1.out.cell (p := ⟨b, off + i * 6 + 3, none⟩) HLT.out).trans Y3.out
    go_upto_region 5 with fail
    refine wp_region_held_drew (S := (fun w' => w'.cell? ⟨w.heap.size, 0, none⟩ = some (.slice (some ⟨b, off, none⟩) h.objs.length c) ∧ w'.cell? ⟨w.heap.size, 1, none⟩ = some (.int .i64 h.cap) ∧ w'.cell? ⟨w.heap.size, 2, none⟩ = some (.int .i64 h.last) ∧ w'.cell? ⟨b, off + i * 6 + 2, none⟩ = some (.slice S n1 dd) ∧ w'.cell? ⟨b, off + i * 6 + 3, none⟩ = some (.string tx))) (by kernel_rfl) ?_ (fun hH0 => ?_)
    next =>
     exact ⟨dcJ x0, dcJ x1, dcJ x2, dcJ y2, dcJ y3⟩
    refine tkJ 0 ⟨some 45, .load 24 (.tmp 4), 24, "ref.go:89", #[], none⟩ ?_
    refine tkJ 1 ⟨some 46, .fieldAddr 24 (.tmp 4) 0, 0, "ref.go:89", #[], none⟩ ?_
    refine tkJ 2 ⟨some 47, .load 22 (.tmp 46), 22, "ref.go:89", #[⟨1, .data⟩], none⟩ ?_
    refine tkJ 3 ⟨some 48, .move (.tmp 11), 3, "ref.go:89", #[], none⟩ ?_
    refine tkJ 4 ⟨some 49, .indexAddr 22 (.tmp 47) (.tmp 48), 0, "ref.go:89", #[⟨2, .data⟩, ⟨3, .data⟩], none⟩ ?_
    refine tkJ 5 ⟨some 50, .fieldAddr 41 (.tmp 49) 2, 0, "ref.go:89", #[⟨4, .data⟩], none⟩ ?_
    refine tkJ 6 ⟨some 51, .load 34 (.tmp 50), 34, "ref.go:89", #[⟨5, .data⟩], none⟩ ?_
    refine tkJ 7 ⟨some 52, .call { callee := .builtin .len, args := #[.tmp 51], argTypes := #[34] }, 3, "ref.go:89", #[⟨6, .data⟩], none⟩ ?_
    refine tkJ 8 ⟨some 53, .fieldAddr 24 (.tmp 4) 0, 0, "ref.go:89", #[], none⟩ ?_
    refine tkJ 9 ⟨some 54, .load 22 (.tmp 53), 22, "ref.go:89", #[⟨8, .data⟩], none⟩ ?_
    refine tkJ 10 ⟨some 55, .move (.tmp 11), 3, "ref.go:89", #[], none⟩ ?_
    refine tkJ 11 ⟨some 56, .indexAddr 22 (.tmp 54) (.tmp 55), 0, "ref.go:89", #[⟨9, .data⟩, ⟨10, .data⟩], none⟩ ?_
    refine tkJ 12 ⟨some 57, .fieldAddr 41 (.tmp 56) 3, 0, "ref.go:89", #[⟨11, .data⟩], none⟩ ?_
    refine tkJ 13 ⟨some 58, .load 9 (.tmp 57), 9, "ref.go:89", #[⟨12, .data⟩], none⟩ ?_
    refine tkJ 14 ⟨some 59, .call { callee := .builtin .len, args := #[.tmp 58], argTypes := #[9] }, 3, "ref.go:89", #[⟨13, .data⟩], none⟩ ?_
    refine tkJ 15 ⟨some 60, .binOp .add 3 (.tmp 52) (.tmp 59) 3, 3, "ref.go:89", #[⟨7, .data⟩, ⟨14, .data⟩], none⟩ ?_
    refine rdJ 16 ⟨some 61, .call { callee := .value (.func 75), args := #[.tmp 45, .tmp 60], argTypes := #[24, 3] }, 44, "ref.go:89", #[⟨0, .data⟩, ⟨15, .data⟩], none⟩ fun K hK => ?_
    go_simp
    go_at_call 75
    obtain ⟨wd, hd⟩ : ∃ x, x = w1.drew := ⟨_, rfl⟩
    rw [← hd]
    have hbd : Below w1.heap.size w1 wd := by rw [hd]; exact (Below.refl _ _).drew
    have HBd := hid (then_w HB1.out hbd)
    have HXd := hid (HX1.out.later hbd)
    have HRd := hid (HR1.out.later hbd)
    clear hd hbd
    refine (rinteger_any13 h ((n1 : Int) + (tx.size : Int)) (some ⟨b, off, none⟩) c wd).mono ?_
    rintro e w2 ⟨rfl, hb⟩
    have HB2 := hid (then_w HBd.out hb)
    have HX2 := hid (HXd.out.later hb)
    have HR2 := hid (HRd.out.later hb)
    clear hb
    obtain ⟨u0, u1, u2⟩ := HX2.out.c3
    have u3 := (HB2.out.cell (p := ⟨b, off + i * 6 + 2, none⟩) HLT.out).trans Y2.out
    have u4 := (HB2.out.cell (p := ⟨b, off + i * 6 + 3, none⟩) HLT.out).trans Y3.out
    refine hK.out _ _ ?_ (fun hH1 => ?_)
    next =>
     exact ⟨u0, u1, u2, u3, u4⟩
    clear hK K
    try simp only [apt12]
    clear u0 u1 u2 u3 u4
    refine tkJ 17 ⟨some 62, .extract (.tmp 61) 0, 24, "ref.go:89", #[⟨16, .data⟩], none⟩ ?_
    refine tkJ 18 ⟨some 63, .extract (.tmp 61) 1, 3, "ref.go:89", #[⟨16, .data⟩], none⟩ ?_
    refine tkJ 19 ⟨some 64, .extract (.tmp 61) 2, 25, "ref.go:89", #[⟨16, .data⟩], none⟩ ?_
    refine rdJ 20 ⟨none, .store 24 (.tmp 8) (.tmp 62), 0, "ref.go:89", #[⟨17, .data⟩, ⟨16, .chain⟩, ⟨0, .phase⟩, ⟨1, .phase⟩, ⟨2, .phase⟩, ⟨3, .phase⟩, ⟨4, .phase⟩, ⟨5, .phase⟩, ⟨6, .phase⟩, ⟨7, .phase⟩, ⟨8, .phase⟩, ⟨9, .phase⟩, ⟨10, .phase⟩, ⟨11, .phase⟩, ⟨12, .phase⟩, ⟨13, .phase⟩, ⟨14, .phase⟩, ⟨15, .phase⟩, ⟨16, .phase⟩, ⟨17, .phase⟩, ⟨18, .phase⟩, ⟨19, .phase⟩], none⟩ fun K hK => ?_
    obtain ⟨k0, k1, k2⟩ := HR2.out.c3
    obtain ⟨f0, f1, f2⟩ := HR2.out.f3
    go_simp
    clear k0 k1 k2 f0 f1 f2
    have HBE := below_s3 HB2.out HRW.out (.slice (some ⟨b, off, none⟩) h.objs.length c) (.int .i64 h.cap) (.int .i64 h.last)
    have HXV := ((HX2.out.far (p := ⟨bR, 0, none⟩) HNE.out (.slice (some ⟨b, off, none⟩) h.objs.length c)).far (p := ⟨bR, 1, none⟩) HNE.out (.int .i64 h.cap)).far (p := ⟨bR, 2, none⟩) HNE.out (.int .i64 h.last)
    obtain ⟨u0, u1, u2⟩ := HXV.c3
    have u3 := (HBE.cell (p := ⟨b, off + i * 6 + 2, none⟩) HLT.out).trans Y2.out
    have u4 := (HBE.cell (p := ⟨b, off + i * 6 + 3, none⟩) HLT.out).trans Y3.out
    refine hK.out _ _ ?_ (fun hH2 => ?_)
    next =>
     exact ⟨u0, u1, u2, u3, u4⟩
    clear hK K
    try simp only [apt12]
    clear u0 u1 u2 u3 u4 HXV
    refine tkJ 21 ⟨some 9, .assign (.tmp 63), 3, "ref.go:89", #[⟨18, .data⟩, ⟨20, .chain⟩, ⟨0, .phase⟩, ⟨1, .phase⟩, ⟨2, .phase⟩, ⟨3, .phase⟩, ⟨4, .phase⟩, ⟨5, .phase⟩, ⟨6, .phase⟩, ⟨7, .phase⟩, ⟨8, .phase⟩, ⟨9, .phase⟩, ⟨10, .phase⟩, ⟨11, .phase⟩, ⟨12, .phase⟩, ⟨13, .phase⟩, ⟨14, .phase⟩, ⟨15, .phase⟩, ⟨16, .phase⟩, ⟨17, .phase⟩, ⟨18, .phase⟩, ⟨19, .phase⟩, ⟨20, .phase⟩], none⟩ ?_
    refine tkJ 22 ⟨some 10, .assign (.tmp 64), 25, "ref.go:89", #[⟨19, .data⟩, ⟨21, .chain⟩, ⟨0, .phase⟩, ⟨1, .phase⟩, ⟨2, .phase⟩, ⟨3, .phase⟩, ⟨4, .phase⟩, ⟨5, .phase⟩, ⟨6, .phase⟩, ⟨7, .phase⟩, ⟨8, .phase⟩, ⟨9, .phase⟩, ⟨10, .phase⟩, ⟨11, .phase⟩, ⟨12, .phase⟩, ⟨13, .phase⟩, ⟨14, .phase⟩, ⟨15, .phase⟩, ⟨16, .phase⟩, ⟨17, .phase⟩, ⟨18, .phase⟩, ⟨19, .phase⟩, ⟨20, .phase⟩, ⟨21, .phase⟩], none⟩ ?_
    refine wpAnyH_done (by kernel_rfl) ?_ _
    have HK := HR2.out.s3 (.slice (some ⟨b, off, none⟩) h.objs.length c) (.int .i64 h.cap) (.int .i64 h.last)
    obtain ⟨r0, r1, r2⟩ := HK
    go_wp2_with fail
    refine bodyPost_ret (v := .tuple #[.agg #[.slice (some ⟨b, off, none⟩) h.objs.length c, .int .i64 h.cap, .int .i64 h.last], .int .i64 (in13 h ((n1 : Int) + (tx.size : Int))).2.1, .int .i64 (in13 h ((n1 : Int) + (tx.size : Int))).2.2]) (by simp [results, Tryz.results43, go_sem, r0, r1, r2]) rfl ?_
    exact ⟨by rw [HE.out], HBE⟩
end Go.Proofs.YtnilempeldlieaaGreat
