/- The program's look: is it a class; of which class it is. What primitives share: an object, a class wanted, a heap made the heap, an object more. -/
import Derived.Test.YtnilempeldlieaaGreatJ04
import Derived.Test.YtnilempeldlieaaGreatJTE9
import Derived.Test.YtnilempeldlieaaGreatJ06
import Derived.Test.YtnilempeldlieaaGreatJPC13
namespace Go.Proofs.YtnilempeldlieaaGreat
abbrev oPE130 : Oper := ⟨some 5, .move (.tmp 0), 86, "prim.go:246", #[], none⟩
abbrev oPE131 : Oper := ⟨some 6, .nilCheck (.tmp 5), 0, "prim.go:246", #[⟨0, .data⟩], none⟩
abbrev oPE132 : Oper := ⟨some 7, .fieldAddr 62 (.tmp 6) 0, 0, "prim.go:246", #[⟨1, .data⟩], none⟩
abbrev oPE133 : Oper := ⟨some 8, .fieldAddr 24 (.tmp 7) 0, 0, "prim.go:246", #[⟨2, .data⟩], none⟩
abbrev oPE134 : Oper := ⟨some 9, .load 22 (.tmp 8), 22, "prim.go:246", #[⟨3, .data⟩], none⟩
abbrev oPE135 : Oper := ⟨some 10, .move (.tmp 1), 3, "prim.go:246", #[], none⟩
abbrev oPE136 : Oper := ⟨some 11, .call { callee := .value (.func 190), args := #[.tmp 10], argTypes := #[3] }, 3, "prim.go:246", #[⟨5, .data⟩], none⟩
abbrev oPE137 : Oper := ⟨some 12, .indexAddr 22 (.tmp 9) (.tmp 11), 0, "prim.go:246", #[⟨4, .data⟩, ⟨6, .data⟩], none⟩
abbrev oPE138 : Oper := ⟨some 13, .load 41 (.tmp 12), 41, "prim.go:246", #[⟨7, .data⟩], none⟩
abbrev oPE139 : Oper := ⟨none, .store 41 (.tmp 4) (.tmp 13), 0, "prim.go:246", #[⟨8, .data⟩, ⟨6, .chain⟩, ⟨0, .phase⟩, ⟨1, .phase⟩, ⟨2, .phase⟩, ⟨3, .phase⟩, ⟨4, .phase⟩, ⟨5, .phase⟩, ⟨6, .phase⟩, ⟨7, .phase⟩, ⟨8, .phase⟩], none⟩
abbrev oPE1310 : Oper := ⟨some 2, .move (.tmp 0), 86, "prim.go:226", #[], none⟩
abbrev oPE1311 : Oper := ⟨some 3, .nilCheck (.tmp 2), 0, "prim.go:226", #[⟨0, .data⟩], none⟩
abbrev oPE1312 : Oper := ⟨some 4, .fieldAddr 62 (.tmp 3) 0, 0, "prim.go:226", #[⟨1, .data⟩], none⟩
abbrev oPE1313 : Oper := ⟨some 5, .load 24 (.tmp 4), 24, "prim.go:226", #[⟨2, .data⟩], none⟩
abbrev oPE1314 : Oper := ⟨some 6, .move (.tmp 0), 86, "prim.go:226", #[], none⟩
abbrev oPE1315 : Oper := ⟨some 7, .nilCheck (.tmp 6), 0, "prim.go:226", #[⟨4, .data⟩], none⟩
abbrev oPE1316 : Oper := ⟨some 8, .fieldAddr 62 (.tmp 7) 1, 0, "prim.go:226", #[⟨5, .data⟩], none⟩
abbrev oPE1317 : Oper := ⟨some 9, .load 3 (.tmp 8), 3, "prim.go:226", #[⟨6, .data⟩], none⟩
abbrev oPE1318 : Oper := ⟨some 10, .call { callee := .value (.func 215), args := #[.tmp 5, .tmp 9], argTypes := #[24, 3] }, 4, "prim.go:226", #[⟨3, .data⟩, ⟨7, .data⟩], none⟩
abbrev oPE1319 : Oper := ⟨some 11, .unOp .not 4 (.tmp 10), 4, "prim.go:226", #[⟨8, .data⟩], none⟩
open Go.RowKit
set_option maxRecDepth 100000
theorem cl9_may {h : Hp} {c : Int} (hm : mayB h = false) : clB9 h c = false := by unfold clB9; rw [hm]; rfl
set_option maxHeartbeats 1000000 in
theorem lclass_any9 (h : Hp) (c : Int) (A : Option Addr) (d : Nat) (w : World) (hs : ObsR w A h.objs) (fit : h.Fit) :
    Calls Tryz.prog 215 #[.agg #[.slice A h.objs.length d, .int .i64 h.cap, .int .i64 h.last], .int .i64 c] w fun e w' => e = .returned (.bool (clB9 h c)) ∧ Below w.heap.size w w' := by
  obtain ⟨w0, hw0⟩ : ∃ w0, w0 = w.alloc (.cells #[Value.slice A h.objs.length d, Value.int .i64 h.cap, Value.int .i64 h.last] 24) := ⟨_, rfl⟩
  have HB0 : Hid (Below w.heap.size w w0) := by show Below _ _ _; rw [hw0]; exact below_alloc _ _
  have HX0 : Hid (Lies w0 w.heap.size 24 #[Value.slice A h.objs.length d, Value.int .i64 h.cap, Value.int .i64 h.last]) := by
    show Lies _ _ _ _
    rw [hw0]; exact Lies.new _ _ _
  have HS := hid hs
  have HSM := hid (may_any h A d w0 (hs.below HB0.out) fit)
  clear hs fit
  go_enter Tryz.func215, Tryz.ntmps215
  go_wp2_with fail
  rw [← hw0]
  clear hw0
  refine HSM.out.mono ?_
  rintro e1 w1 ⟨rfl, hb⟩
  have HB1 := hid (HB0.out.trans (hb.mono HB0.out.size))
  have HX1 := hid (HX0.out.later hb)
  clear hb HSM
  cases hm : mayB h
  · have E : Hid (clB9 h c = false) := cl9_may hm
    clear hm
    go_wp2_with fail
    go_ret
    exact ⟨by rw [E.out]; rfl, HB1.out⟩
  · have HM := hid hm
    obtain ⟨x0, x1, x2⟩ := HX1.out.c3
    clear hm
    go_wp2_with fail
    refine (pclass_any9 h c A d w _ HS.out HB1.out HM.out).mono ?_
    rintro e2 w2 ⟨rfl, hb⟩
    have HB2 := hid (HB1.out.trans (hb.mono HB1.out.size))
    clear hb x0 x1 x2
    go_wp2_with fail
    go_ret
    exact ⟨rfl, HB2.out⟩
set_option maxHeartbeats 1000000 in
theorem lof_any9 (h : Hp) (v : Int) (A : Option Addr) (d : Nat) (w : World) (hs : ObsR w A h.objs) (fit : h.Fit) :
    Calls Tryz.prog 189 #[.agg #[.slice A h.objs.length d, .int .i64 h.cap, .int .i64 h.last], .int .i64 v] w fun e w' => e = .returned (.tuple #[.int .i64 (lf9 h v).1, .int .i64 (lf9 h v).2]) ∧ Below w.heap.size w w' := by
  obtain ⟨w0, hw0⟩ : ∃ w0, w0 = w.alloc (.cells #[Value.slice A h.objs.length d, Value.int .i64 h.cap, Value.int .i64 h.last] 24) := ⟨_, rfl⟩
  have HB0 : Hid (Below w.heap.size w w0) := by show Below _ _ _; rw [hw0]; exact below_alloc _ _
  have HX0 : Hid (Lies w0 w.heap.size 24 #[Value.slice A h.objs.length d, Value.int .i64 h.cap, Value.int .i64 h.last]) := by
    show Lies _ _ _ _
    rw [hw0]; exact Lies.new _ _ _
  have HS := hid hs
  have HSM := hid (may_any h A d w0 (hs.below HB0.out) fit)
  clear hs fit
  go_enter Tryz.func189, Tryz.ntmps189
  go_wp2_with fail
  rw [← hw0]
  clear hw0
  refine HSM.out.mono ?_
  rintro e1 w1 ⟨rfl, hb⟩
  have HB1 := hid (HB0.out.trans (hb.mono HB0.out.size))
  have HX1 := hid (HX0.out.later hb)
  clear hb HSM
  cases hm : mayB h
  · have E : Hid (lf9 h v = (0, 1)) := by show _ = _; unfold lf9; rw [if_pos hm]
    clear hm
    go_wp2_with fail
    go_ret2
    exact ⟨by rw [E.out]; rfl, HB1.out⟩
  · cases hn : nB v
    · obtain ⟨x0, x1, x2⟩ := HX1.out.c3
      have E : Hid (lf9 h v = if refB h.objs.length v then ((obAt h v).cls, 0) else (0, 31)) := by
        show _ = _
        unfold lf9; rw [if_neg (by rw [hm]; decide), if_neg (by rw [hn]; decide)]
      clear hm
      go_wp2_with (go_at_call 164; refine (n_any _ _).mono ?_; rintro e w' ⟨rfl, rfl⟩)
      refine (pobj_any9 h v A d w w1 HS.out HB1.out).mono ?_
      rintro e2 w2 ⟨S, dd, rfl, -, -, hb⟩
      have HB2 := hid (HB1.out.trans (hb.mono HB1.out.size))
      clear hb x0 x1 x2 hn
      cases hr : refB h.objs.length v
      · have E2 : Hid (lf9 h v = (0, 31)) := by show _ = _; rw [E.out, hr]; rfl
        clear hr
        go_wp2_with fail
        go_ret2
        exact ⟨by rw [E2.out]; rfl, HB2.out.alloc HB2.out.size _⟩
      · have E2 : Hid (lf9 h v = ((obD9 h v).cls, 0)) := by show _ = _; rw [E.out, obD9_yes hr, hr]; rfl
        clear hr
        go_wp2_with fail
        go_ret2
        exact ⟨by rw [E2.out]; rfl, HB2.out.alloc HB2.out.size _⟩
    · have E : Hid (lf9 h v = (6, 0)) := by
        show _ = _
        unfold lf9; rw [if_neg (by rw [hm]; decide), if_pos hn]
      have hr3 : reV 3 = 6 := by decide
      clear hm
      go_wp2_with (first | (go_at_call 164; refine (n_any _ _).mono ?_; rintro e w' ⟨rfl, rfl⟩) | (go_at_call 52; refine (ref_any _ _).mono ?_; rintro e w' ⟨rfl, rfl⟩))
      go_ret2
      exact ⟨by rw [E.out]; rfl, HB1.out⟩
end Go.Proofs.YtnilempeldlieaaGreat
namespace Go.Proofs.YtnilempeldlieaaGreat
open Go.RowKit Flt
set_option maxRecDepth 100000
theorem below_s6 {n g : Nat} {w w' : World} (h : Below n w w') (hg : n ≤ g) (v0 v1 v2 v3 v4 v5 : Value) :
    Below n w ((((((w'.setCell ⟨g, 0, none⟩ v0).setCell ⟨g, 1, none⟩ v1).setCell ⟨g, 2, none⟩ v2).setCell ⟨g, 3, none⟩ v3).setCell ⟨g, 4, none⟩ v4).setCell ⟨g, 5, none⟩ v5) :=
  (((((h.setCell (p := ⟨g, 0, none⟩) hg v0).setCell (p := ⟨g, 1, none⟩) hg v1).setCell (p := ⟨g, 2, none⟩) hg v2).setCell (p := ⟨g, 3, none⟩) hg v3).setCell (p := ⟨g, 4, none⟩) hg v4).setCell (p := ⟨g, 5, none⟩) hg v5
theorem Lies.s6 {w : World} {g : Nat} {t : TypeId} {a0 b0 c0 d0 e0 f0 : Value} (h : Lies w g t #[a0, b0, c0, d0, e0, f0]) (v0 v1 v2 v3 v4 v5 : Value) :
    Lies ((((((w.setCell ⟨g, 0, none⟩ v0).setCell ⟨g, 1, none⟩ v1).setCell ⟨g, 2, none⟩ v2).setCell ⟨g, 3, none⟩ v3).setCell ⟨g, 4, none⟩ v4).setCell ⟨g, 5, none⟩ v5) g t #[v0, v1, v2, v3, v4, v5] :=
  (((((h.set_ 0 v0).set_ 1 v1).set_ 2 v2).set_ 3 v3).set_ 4 v4).set_ 5 v5
set_option maxHeartbeats 1000000 in
theorem object_no13 (b base : Nat) (h : Hp) (A : Option Addr) (c : Nat) (s : Int) (args : List Int) (SA : Option Addr) (da : Nat) (w : World) (I : In13 w b base h A c s args SA da) {v : Int} (hv : atB v = false) : Calls Tryz.prog 185 #[.pointer (some ⟨b, 0, none⟩), .int .i64 v] w fun e w' => e = .panicked (stop13 130) ∧ Below w.heap.size w w' := by
  obtain ⟨x0, x1, x2, x3, x4⟩ := I.box.c5
  have hbl := I.box.lt
  have HB0 := hid (below_alloc w (.cells #[.int .i64 0, .int .i64 0, .slice none 0 0, .string ⟨#[]⟩, .int .i64 0, .int .i64 0] 41))
  obtain ⟨w0, hw0⟩ : ∃ w0, w0 = w.alloc (.cells #[.int .i64 0, .int .i64 0, .slice none 0 0, .string ⟨#[]⟩, .int .i64 0, .int .i64 0] 41) := ⟨_, rfl⟩
  rw [← hw0] at HB0
  have K0 : Hid (Lies w0 w.heap.size 41 #[.int .i64 0, .int .i64 0, .slice none 0 0, .string ⟨#[]⟩, .int .i64 0, .int .i64 0]) := by show Lies _ _ _ _; rw [hw0]; exact Lies.new _ _ _
  have y0 := cell_later HB0.out x0
  clear I x0 x1 x2 x3 x4
  go_enter Tryz.func185, Tryz.ntmps185
  go_upto_region 1 with fail
  rw [← hw0]
  clear hw0
  refine wp_region_held_drew (S := (fun w' => w'.cell? ⟨b, 0, none⟩ = some (.slice A h.objs.length c) ∧ Below w0.heap.size w0 w')) (by kernel_rfl) ?_ (fun hH0 => ?_)
  · exact ⟨dcJ y0, (Below.refl _ _).drew⟩
  refine tkJ 0 oPE130 ?_
  refine tkJ 1 oPE131 ?_
  refine tkJ 2 oPE132 ?_
  refine tkJ 3 oPE133 ?_
  refine tkJ 4 oPE134 ?_
  refine tkJ 5 oPE135 ?_
  refine rdJ 6 oPE136 fun K hK => ?_
  go_simp
  go_at_call 190
  refine (at_no13 hv _).mono ?_
  rintro e u1 ⟨rfl, rfl⟩
  exact ⟨rfl, rfl, HB0.out.drew⟩
set_option maxHeartbeats 1000000 in
theorem object_ok13 (b base : Nat) (h : Hp) (A : Option Addr) (c : Nat) (s : Int) (args : List Int) (SA : Option Addr) (da : Nat) (w : World) (I : In13 w b base h A c s args SA da) {v : Int} (hv : refB h.objs.length v = true) : Calls Tryz.prog 185 #[.pointer (some ⟨b, 0, none⟩), .int .i64 v] w fun e w' => (∃ S d, e = .returned (.agg #[.int .i64 (obAt h v).cls, .int .i64 (obAt h v).kind, .slice S (obAt h v).slots.length d, .string (obAt h v).text, .int .i64 (obAt h v).bits, .int .i64 (obAt h v).hash])) ∧ Below w.heap.size w w' := by
  obtain ⟨x0, x1, x2, x3, x4⟩ := I.box.c5
  have hbl := I.box.lt
  have HB0 := hid (below_alloc w (.cells #[.int .i64 0, .int .i64 0, .slice none 0 0, .string ⟨#[]⟩, .int .i64 0, .int .i64 0] 41))
  obtain ⟨w0, hw0⟩ : ∃ w0, w0 = w.alloc (.cells #[.int .i64 0, .int .i64 0, .slice none 0 0, .string ⟨#[]⟩, .int .i64 0, .int .i64 0] 41) := ⟨_, rfl⟩
  rw [← hw0] at HB0
  have K0 : Hid (Lies w0 w.heap.size 41 #[.int .i64 0, .int .i64 0, .slice none 0 0, .string ⟨#[]⟩, .int .i64 0, .int .i64 0]) := by show Lies _ _ _ _; rw [hw0]; exact Lies.new _ _ _
  have y0 := cell_later HB0.out x0
  obtain ⟨i, hi, hat, ho⟩ := obAt_get hv
  obtain ⟨ob, hob⟩ : ∃ o, o = obAt h v := ⟨_, rfl⟩
  rw [← hob] at ho ⊢
  have hav : atB v = true := by unfold refB at hv; simp only [Bool.and_eq_true] at hv; exact hv.1
  have HAT := hid hat
  obtain ⟨bb, oo, hA, hbb, hcc⟩ := I.own.obs (by omega)
  obtain ⟨S, d, ⟨m0, m1, m2, m3, m4, m5⟩, -, -, -⟩ := hcc i ob ho
  subst hA
  have n0 := cell_later HB0.out m0
  have n1 := cell_later HB0.out m1
  have n2 := cell_later HB0.out m2
  have n3 := cell_later HB0.out m3
  have n4 := cell_later HB0.out m4
  have n5 := cell_later HB0.out m5
  have hiI : (i : Int) < (h.objs.length : Int) := by omega
  have hi0 : (0 : Int) ≤ (i : Int) := by omega
  clear hcc ho hob m0 m1 m2 m3 m4 m5 hat hv
  clear I x0 x1 x2 x3 x4
  go_enter Tryz.func185, Tryz.ntmps185
  go_upto_region 1 with fail
  rw [← hw0]
  clear hw0
  refine wp_region_held_drew (S := (fun _ => True)) (by kernel_rfl) ?_ (fun hH0 => ?_)
  · trivial
  refine tkJ 0 oPE130 ?_
  refine tkJ 1 oPE131 ?_
  refine tkJ 2 oPE132 ?_
  refine tkJ 3 oPE133 ?_
  refine tkJ 5 oPE135 ?_
  refine wpAnyH_ready (rs := [4, 6]) (by kernel_rfl) (by simp) ?_
  refine AllReadyH.cons (i := 4) (o := ⟨some 9, .load 22 (.tmp 8), 22, "prim.go:246", #[⟨3, .data⟩], none⟩) rfl (fun K hK => ?_) (AllReadyH.cons (i := 6) (o := ⟨some 11, .call { callee := .value (.func 190), args := #[.tmp 10], argTypes := #[3] }, 3, "prim.go:246", #[⟨5, .data⟩], none⟩) rfl (fun K hK => ?_) AllReadyH.nil)
  · have z0 := dcJ y0
    go_simp
    refine hK.out _ _ ?_ (fun hH1 => ?_)
    · trivial
    clear hK K
    try simp only [apt12]
    clear z0
    refine rdJ 6 oPE136 fun K hK => ?_
    go_simp
    go_at_call 190
    refine (at_ok13 hav _).mono ?_
    rintro e u1 ⟨rfl, rfl⟩
    rw [HAT.out]
    refine hK.out _ _ ?_ (fun hH2 => ?_)
    · trivial
    clear hK K
    try simp only [apt12]
    refine tkJ 7 oPE137 ?_
    refine rdJ 8 oPE138 fun K hK => ?_
    have z0 := dcJ n0
    have z1 := dcJ n1
    have z2 := dcJ n2
    have z3 := dcJ n3
    have z4 := dcJ n4
    have z5 := dcJ n5
    go_simp
    refine hK.out _ _ ?_ (fun hH3 => ?_)
    · trivial
    clear hK K
    try simp only [apt12]
    clear z0 z1 z2 z3 z4 z5
    refine rdJ 9 oPE139 fun K hK => ?_
    obtain ⟨r0, r1, r2, r3, r4, r5⟩ := K0.out.c6
    obtain ⟨f0, f1, f2, f3, f4, f5⟩ := K0.out.f6
    have KF := hid (K0.out.s6 (.int .i64 ob.cls) (.int .i64 ob.kind) (.slice S ob.slots.length d) (.string ob.text) (.int .i64 ob.bits) (.int .i64 ob.hash))
    have BF := hid (below_s6 HB0.out (Nat.le_refl w.heap.size) (.int .i64 ob.cls) (.int .i64 ob.kind) (.slice S ob.slots.length d) (.string ob.text) (.int .i64 ob.bits) (.int .i64 ob.hash))
    go_simp
    refine hK.out _ _ ?_ (fun hH4 => ?_)
    · trivial
    clear hK K
    try simp only [apt12]
    clear r0 r1 r2 r3 r4 r5 f0 f1 f2 f3 f4 f5
    refine wpAnyH_done (by kernel_rfl) ?_ _
    obtain ⟨V, hV⟩ : ∃ V, V = ((((((w0.setCell ⟨w.heap.size, 0, none⟩ (.int .i64 ob.cls)).setCell ⟨w.heap.size, 1, none⟩ (.int .i64 ob.kind)).setCell ⟨w.heap.size, 2, none⟩ (.slice S ob.slots.length d)).setCell ⟨w.heap.size, 3, none⟩ (.string ob.text)).setCell ⟨w.heap.size, 4, none⟩ (.int .i64 ob.bits)).setCell ⟨w.heap.size, 5, none⟩ (.int .i64 ob.hash)) := ⟨_, rfl⟩
    rw [← hV] at KF BF
    rw [← hV]
    clear hV
    obtain ⟨q0, q1, q2, q3, q4, q5⟩ := KF.out.c6
    go_wp2_with fail
    refine bodyPost_ret (v := .agg #[.int .i64 ob.cls, .int .i64 ob.kind, .slice S ob.slots.length d, .string ob.text, .int .i64 ob.bits, .int .i64 ob.hash]) (by simp [results, Tryz.results185, go_sem, q0, q1, q2, q3, q4, q5]) rfl ?_
    exact ⟨⟨S, d, rfl⟩, BF.out.drew⟩
  · go_simp
    go_at_call 190
    refine (at_ok13 hav _).mono ?_
    rintro e u1 ⟨rfl, rfl⟩
    rw [HAT.out]
    refine hK.out _ _ ?_ (fun hH1 => ?_)
    · trivial
    clear hK K
    try simp only [apt12]
    refine rdJ 4 oPE134 fun K hK => ?_
    have z0 := dcJ y0
    go_simp
    refine hK.out _ _ ?_ (fun hH2 => ?_)
    · trivial
    clear hK K
    try simp only [apt12]
    clear z0
    refine tkJ 7 oPE137 ?_
    refine rdJ 8 oPE138 fun K hK => ?_
    have z0 := dcJ n0
    have z1 := dcJ n1
    have z2 := dcJ n2
    have z3 := dcJ n3
    have z4 := dcJ n4
    have z5 := dcJ n5
    go_simp
    refine hK.out _ _ ?_ (fun hH3 => ?_)
    · trivial
    clear hK K
    try simp only [apt12]
    clear z0 z1 z2 z3 z4 z5
    refine rdJ 9 oPE139 fun K hK => ?_
    obtain ⟨r0, r1, r2, r3, r4, r5⟩ := K0.out.c6
    obtain ⟨f0, f1, f2, f3, f4, f5⟩ := K0.out.f6
    have KF := hid (K0.out.s6 (.int .i64 ob.cls) (.int .i64 ob.kind) (.slice S ob.slots.length d) (.string ob.text) (.int .i64 ob.bits) (.int .i64 ob.hash))
    have BF := hid (below_s6 HB0.out (Nat.le_refl w.heap.size) (.int .i64 ob.cls) (.int .i64 ob.kind) (.slice S ob.slots.length d) (.string ob.text) (.int .i64 ob.bits) (.int .i64 ob.hash))
    go_simp
    refine hK.out _ _ ?_ (fun hH4 => ?_)
    · trivial
    clear hK K
    try simp only [apt12]
    clear r0 r1 r2 r3 r4 r5 f0 f1 f2 f3 f4 f5
    refine wpAnyH_done (by kernel_rfl) ?_ _
    obtain ⟨V, hV⟩ : ∃ V, V = ((((((w0.setCell ⟨w.heap.size, 0, none⟩ (.int .i64 ob.cls)).setCell ⟨w.heap.size, 1, none⟩ (.int .i64 ob.kind)).setCell ⟨w.heap.size, 2, none⟩ (.slice S ob.slots.length d)).setCell ⟨w.heap.size, 3, none⟩ (.string ob.text)).setCell ⟨w.heap.size, 4, none⟩ (.int .i64 ob.bits)).setCell ⟨w.heap.size, 5, none⟩ (.int .i64 ob.hash)) := ⟨_, rfl⟩
    rw [← hV] at KF BF
    rw [← hV]
    clear hV
    obtain ⟨q0, q1, q2, q3, q4, q5⟩ := KF.out.c6
    go_wp2_with fail
    refine bodyPost_ret (v := .agg #[.int .i64 ob.cls, .int .i64 ob.kind, .slice S ob.slots.length d, .string ob.text, .int .i64 ob.bits, .int .i64 ob.hash]) (by simp [results, Tryz.results185, go_sem, q0, q1, q2, q3, q4, q5]) rfl ?_
    exact ⟨⟨S, d, rfl⟩, BF.out.drew⟩
set_option maxHeartbeats 1000000 in
theorem need_ok13 (b base : Nat) (h : Hp) (A : Option Addr) (c : Nat) (s : Int) (args : List Int) (SA : Option Addr) (da : Nat) (w : World) (I : In13 w b base h A c s args SA da) (hc : clB9 h s = true) :
    Calls Tryz.prog 186 #[.pointer (some ⟨b, 0, none⟩)] w fun e w' => e = .returned (.tuple #[]) ∧ Below w.heap.size w w' := by
  obtain ⟨x0, x1, x2, x3, x4⟩ := I.box.c5
  have HI := hid I
  have HC := hid hc
  clear I hc
  go_enter Tryz.func186, Tryz.ntmps186
  go_upto_region 0 with fail
  refine wp_region_held_drew (S := (fun w' => w'.cell? ⟨b, 0, none⟩ = some (.slice A h.objs.length c) ∧ w'.cell? ⟨b, 1, none⟩ = some (.int .i64 h.cap) ∧ w'.cell? ⟨b, 2, none⟩ = some (.int .i64 h.last) ∧ w'.cell? ⟨b, 3, none⟩ = some (.int .i64 s) ∧ w'.cell? ⟨b, 4, none⟩ = some (.slice SA args.length da) ∧ Below w.heap.size w w')) (by kernel_rfl) ?_ (fun hH0 => ?_)
  · exact ⟨dcJ x0, dcJ x1, dcJ x2, dcJ x3, dcJ x4, (Below.refl _ _).drew⟩
  refine tkJ 0 oPE1310 ?_
  refine tkJ 1 oPE1311 ?_
  refine tkJ 2 oPE1312 ?_
  refine tkJ 3 oPE1313 ?_
  refine tkJ 4 oPE1314 ?_
  refine tkJ 5 oPE1315 ?_
  refine tkJ 6 oPE1316 ?_
  refine tkJ 7 oPE1317 ?_
  refine rdJ 8 oPE1318 fun K hK => ?_
  go_simp
  go_at_call 215
  refine (lclass_any9 h s A c _ (HI.out.own.obs.below (Below.refl _ _).drew) HI.out.fit).mono ?_
  rintro e u1 ⟨rfl, hb⟩
  have HBq := hid (then_w (Below.refl w.heap.size w).drew hb)
  rw [HC.out]
  refine hK.out _ _ ?_ (fun hH1 => ?_)
  · exact ⟨cell_later hb hH0.1, cell_later hb hH0.2.1, cell_later hb hH0.2.2.1, cell_later hb hH0.2.2.2.1, cell_later hb hH0.2.2.2.2.1, then_w hH0.2.2.2.2.2 hb⟩
  clear hK K
  try simp only [apt12]
  clear hb
  refine tkJ 9 oPE1319 ?_
  refine wpAnyH_done (by kernel_rfl) ?_ _
  go_wp2_with fail
  exact ⟨rfl, .tuple #[], by simp [results, Tryz.results186], rfl, HBq.out⟩
set_option maxHeartbeats 1000000 in
theorem need_no13 (b base : Nat) (h : Hp) (A : Option Addr) (c : Nat) (s : Int) (args : List Int) (SA : Option Addr) (da : Nat) (w : World) (I : In13 w b base h A c s args SA da) (hc : clB9 h s = false) :
    Calls Tryz.prog 186 #[.pointer (some ⟨b, 0, none⟩)] w fun e w' => e = .panicked (stop13 130) ∧ Below w.heap.size w w' := by
  obtain ⟨x0, x1, x2, x3, x4⟩ := I.box.c5
  have HI := hid I
  have HC := hid hc
  clear I hc
  go_enter Tryz.func186, Tryz.ntmps186
  go_upto_region 0 with fail
  refine wp_region_held_drew (S := (fun w' => w'.cell? ⟨b, 0, none⟩ = some (.slice A h.objs.length c) ∧ w'.cell? ⟨b, 1, none⟩ = some (.int .i64 h.cap) ∧ w'.cell? ⟨b, 2, none⟩ = some (.int .i64 h.last) ∧ w'.cell? ⟨b, 3, none⟩ = some (.int .i64 s) ∧ w'.cell? ⟨b, 4, none⟩ = some (.slice SA args.length da) ∧ Below w.heap.size w w')) (by kernel_rfl) ?_ (fun hH0 => ?_)
  · exact ⟨dcJ x0, dcJ x1, dcJ x2, dcJ x3, dcJ x4, (Below.refl _ _).drew⟩
  refine tkJ 0 oPE1310 ?_
  refine tkJ 1 oPE1311 ?_
  refine tkJ 2 oPE1312 ?_
  refine tkJ 3 oPE1313 ?_
  refine tkJ 4 oPE1314 ?_
  refine tkJ 5 oPE1315 ?_
  refine tkJ 6 oPE1316 ?_
  refine tkJ 7 oPE1317 ?_
  refine rdJ 8 oPE1318 fun K hK => ?_
  go_simp
  go_at_call 215
  refine (lclass_any9 h s A c _ (HI.out.own.obs.below (Below.refl _ _).drew) HI.out.fit).mono ?_
  rintro e u1 ⟨rfl, hb⟩
  have HBq := hid (then_w (Below.refl w.heap.size w).drew hb)
  rw [HC.out]
  refine hK.out _ _ ?_ (fun hH1 => ?_)
  · exact ⟨cell_later hb hH0.1, cell_later hb hH0.2.1, cell_later hb hH0.2.2.1, cell_later hb hH0.2.2.2.1, cell_later hb hH0.2.2.2.2.1, then_w hH0.2.2.2.2.2 hb⟩
  clear hK K
  try simp only [apt12]
  clear hb
  refine tkJ 9 oPE1319 ?_
  refine wpAnyH_done (by kernel_rfl) ?_ _
  go_wp2_with (go_at_call 74; refine (fail_any13 _).mono ?_; rintro e w9 ⟨rfl, rfl⟩)
  exact ⟨rfl, rfl, HBq.out⟩
set_option maxHeartbeats 1000000 in
theorem change_no13 (b : Nat) (g : Hp) (A : Option Addr) (c : Nat) {en : Int} (he : en ≠ 0) (w : World) :
    Calls Tryz.prog 183 #[.pointer (some ⟨b, 0, none⟩), .agg #[.slice A g.objs.length c, .int .i64 g.cap, .int .i64 g.last], .int .i64 en] w fun e w' => e = .panicked (stop13 (go13 en)) ∧ Below w.heap.size w w' := by
  have HB := hid (below_alloc w (.cells #[Value.slice A g.objs.length c, Value.int .i64 g.cap, Value.int .i64 g.last] 24))
  go_enter Tryz.func183, Tryz.ntmps183
  go_wp2_with (go_at_call 211; refine (goon_no13 he _).mono ?_; rintro e w' ⟨rfl, rfl⟩)
  exact ⟨rfl, rfl, HB.out⟩
set_option maxHeartbeats 1000000 in
theorem change_ok13 (b base : Nat) {X0 X1 X2 : Value} {s : Int} {n : Nat} {SA : Option Addr} {da : Nat} (g : Hp) (A : Option Addr) (c : Nat) (w : World) (hb : Lies w b 62 #[X0, X1, X2, .int .i64 s, .slice SA n da]) (ho : Fr13 w base A c g.objs) :
    Calls Tryz.prog 183 #[.pointer (some ⟨b, 0, none⟩), .agg #[.slice A g.objs.length c, .int .i64 g.cap, .int .i64 g.last], .int .i64 0] w fun e w' => e = .returned (.tuple #[]) ∧ CL13 w' b g A c s n SA da ∧ Fr13 w' base A c g.objs ∧ Onl13 b w w' := by
  obtain ⟨w0, hw0⟩ : ∃ w0, w0 = w.alloc (.cells #[Value.slice A g.objs.length c, Value.int .i64 g.cap, Value.int .i64 g.last] 24) := ⟨_, rfl⟩
  have hbl : Below w.heap.size w w0 := by rw [hw0]; exact below_alloc w _
  have K0 : Lies w0 w.heap.size 24 #[Value.slice A g.objs.length c, Value.int .i64 g.cap, Value.int .i64 g.last] := by rw [hw0]; exact Lies.new _ _ _
  have B0 : Lies w0 b 62 #[X0, X1, X2, .int .i64 s, .slice SA n da] := hb.later hbl
  have O0 := ho.later hbl
  obtain ⟨k0, k1, k2⟩ := K0.c3
  obtain ⟨x0, x1, x2, x3, x4⟩ := B0.c5
  obtain ⟨f0, f1, f2, f3, f4⟩ := B0.f5
  have BF := hid (B0.h3 (.slice A g.objs.length c) (.int .i64 g.cap) (.int .i64 g.last))
  have OF := hid (O0.s3 B0 (.slice A g.objs.length c) (.int .i64 g.cap) (.int .i64 g.last))
  have NF := hid ((onl_below13 (g := b) hbl).trans (onl_s3_13 w0 b (.slice A g.objs.length c) (.int .i64 g.cap) (.int .i64 g.last)))
  clear hb ho hbl B0 O0 K0
  go_enter Tryz.func183, Tryz.ntmps183
  go_upto_region 2 with (go_at_call 211; refine (goon_ok13 _).mono ?_; rintro e w' ⟨rfl, rfl⟩)
  rw [← hw0]
  clear hw0
  go_wp2_with fail
  exact ⟨rfl, .tuple #[], by simp [results, Tryz.results183], rfl, BF.out, OF.out, NF.out⟩
end Go.Proofs.YtnilempeldlieaaGreat
