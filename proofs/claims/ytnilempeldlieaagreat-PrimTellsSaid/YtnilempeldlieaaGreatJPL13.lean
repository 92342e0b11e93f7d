/- Primitives 1 to 5, 12, 17 to 22, 27: the closures of the table. -/
import Derived.Test.YtnilempeldlieaaGreatJ04
import Derived.Test.YtnilempeldlieaaGreatJPK13
namespace Go.Proofs.YtnilempeldlieaaGreat
abbrev oPL130 : Oper := ⟨some 6, .move (.tmp 0), 86, "prim.go:145", #[], none⟩
abbrev oPL131 : Oper := ⟨some 7, .move (.tmp 0), 86, "prim.go:145", #[], none⟩
abbrev oPL132 : Oper := ⟨some 8, .nilCheck (.tmp 7), 0, "prim.go:145", #[⟨1, .data⟩], none⟩
abbrev oPL133 : Oper := ⟨some 9, .fieldAddr 62 (.tmp 8) 1, 0, "prim.go:145", #[⟨2, .data⟩], none⟩
abbrev oPL134 : Oper := ⟨some 10, .load 3 (.tmp 9), 3, "prim.go:145", #[⟨3, .data⟩], none⟩
abbrev oPL135 : Oper := ⟨some 11, .load 3 (.tmp 1), 3, "prim.go:145", #[], none⟩
abbrev oPL136 : Oper := ⟨some 12, .move (.tmp 0), 86, "prim.go:145", #[], none⟩
abbrev oPL137 : Oper := ⟨some 13, .nilCheck (.tmp 12), 0, "prim.go:145", #[⟨6, .data⟩], none⟩
abbrev oPL138 : Oper := ⟨some 14, .fieldAddr 62 (.tmp 13) 2, 0, "prim.go:145", #[⟨7, .data⟩], none⟩
abbrev oPL139 : Oper := ⟨some 15, .load 34 (.tmp 14), 34, "prim.go:145", #[⟨8, .data⟩], none⟩
abbrev oPL1310 : Oper := ⟨some 16, .indexAddr 34 (.tmp 15) (.const (Go.Value.int .i64 0)), 0, "prim.go:145", #[⟨9, .data⟩], none⟩
abbrev oPL1311 : Oper := ⟨some 17, .load 3 (.tmp 16), 3, "prim.go:145", #[⟨10, .data⟩], none⟩
abbrev oPL1312 : Oper := ⟨some 18, .call { callee := .value (.func 178), args := #[.tmp 17], argTypes := #[3] }, 3, "prim.go:145", #[⟨11, .data⟩], none⟩
abbrev oPL1313 : Oper := ⟨some 19, .call { callee := .value (.func 187), args := #[.tmp 6, .tmp 10, .tmp 11, .tmp 18], argTypes := #[86, 3, 3, 3] }, 3, "prim.go:145", #[⟨0, .data⟩, ⟨4, .data⟩, ⟨5, .data⟩, ⟨12, .data⟩, ⟨12, .chain⟩], none⟩
abbrev oPL1314 : Oper := ⟨some 4, .move (.tmp 0), 86, "prim.go:133", #[], none⟩
abbrev oPL1315 : Oper := ⟨some 5, .load 3 (.tmp 1), 3, "prim.go:133", #[], none⟩
abbrev oPL1316 : Oper := ⟨some 6, .move (.tmp 0), 86, "prim.go:133", #[], none⟩
abbrev oPL1317 : Oper := ⟨some 7, .move (.tmp 0), 86, "prim.go:133", #[], none⟩
abbrev oPL1318 : Oper := ⟨some 8, .nilCheck (.tmp 7), 0, "prim.go:133", #[⟨3, .data⟩], none⟩
abbrev oPL1319 : Oper := ⟨some 9, .fieldAddr 62 (.tmp 8) 1, 0, "prim.go:133", #[⟨4, .data⟩], none⟩
abbrev oPL1320 : Oper := ⟨some 10, .load 3 (.tmp 9), 3, "prim.go:133", #[⟨5, .data⟩], none⟩
abbrev oPL1321 : Oper := ⟨some 12, .move (.tmp 0), 86, "prim.go:133", #[], none⟩
abbrev oPL1322 : Oper := ⟨some 13, .move (.tmp 0), 86, "prim.go:133", #[], none⟩
abbrev oPL1323 : Oper := ⟨some 14, .nilCheck (.tmp 13), 0, "prim.go:133", #[⟨9, .data⟩], none⟩
abbrev oPL1324 : Oper := ⟨some 15, .fieldAddr 62 (.tmp 14) 2, 0, "prim.go:133", #[⟨10, .data⟩], none⟩
abbrev oPL1325 : Oper := ⟨some 16, .load 34 (.tmp 15), 34, "prim.go:133", #[⟨11, .data⟩], none⟩
abbrev oPL1326 : Oper := ⟨some 17, .indexAddr 34 (.tmp 16) (.const (Go.Value.int .i64 0)), 0, "prim.go:133", #[⟨12, .data⟩], none⟩
abbrev oPL1327 : Oper := ⟨some 18, .load 3 (.tmp 17), 3, "prim.go:133", #[⟨13, .data⟩], none⟩
abbrev oPL1328 : Oper := ⟨some 11, .call { callee := .value (.func 195), args := #[.tmp 6, .tmp 10], argTypes := #[86, 3] }, 3, "prim.go:133", #[⟨2, .data⟩, ⟨6, .data⟩], none⟩
abbrev oPL1329 : Oper := ⟨some 19, .call { callee := .value (.func 195), args := #[.tmp 12, .tmp 18], argTypes := #[86, 3] }, 3, "prim.go:133", #[⟨8, .data⟩, ⟨14, .data⟩, ⟨7, .chain⟩], none⟩
abbrev oPL1330 : Oper := ⟨some 20, .call { callee := .value (.func 194), args := #[.tmp 5, .tmp 11, .tmp 19], argTypes := #[3, 3, 3] }, 3, "prim.go:133", #[⟨1, .data⟩, ⟨7, .data⟩, ⟨15, .data⟩, ⟨15, .chain⟩], none⟩
abbrev oPL1331 : Oper := ⟨some 21, .call { callee := .value (.func 193), args := #[.tmp 4, .tmp 20], argTypes := #[86, 3] }, 3, "prim.go:133", #[⟨0, .data⟩, ⟨16, .data⟩, ⟨16, .chain⟩], none⟩
abbrev oPL1332 : Oper := ⟨some 4, .load 75 (.tmp 1), 75, "prim.go:138", #[], none⟩
abbrev oPL1333 : Oper := ⟨some 5, .move (.tmp 0), 86, "prim.go:138", #[], none⟩
abbrev oPL1334 : Oper := ⟨some 6, .move (.tmp 0), 86, "prim.go:138", #[], none⟩
abbrev oPL1335 : Oper := ⟨some 7, .nilCheck (.tmp 6), 0, "prim.go:138", #[⟨2, .data⟩], none⟩
abbrev oPL1336 : Oper := ⟨some 8, .fieldAddr 62 (.tmp 7) 1, 0, "prim.go:138", #[⟨3, .data⟩], none⟩
abbrev oPL1337 : Oper := ⟨some 9, .load 3 (.tmp 8), 3, "prim.go:138", #[⟨4, .data⟩], none⟩
abbrev oPL1338 : Oper := ⟨some 11, .move (.tmp 0), 86, "prim.go:138", #[], none⟩
abbrev oPL1339 : Oper := ⟨some 12, .move (.tmp 0), 86, "prim.go:138", #[], none⟩
abbrev oPL1340 : Oper := ⟨some 13, .nilCheck (.tmp 12), 0, "prim.go:138", #[⟨8, .data⟩], none⟩
abbrev oPL1341 : Oper := ⟨some 14, .fieldAddr 62 (.tmp 13) 2, 0, "prim.go:138", #[⟨9, .data⟩], none⟩
abbrev oPL1342 : Oper := ⟨some 15, .load 34 (.tmp 14), 34, "prim.go:138", #[⟨10, .data⟩], none⟩
abbrev oPL1343 : Oper := ⟨some 16, .indexAddr 34 (.tmp 15) (.const (Go.Value.int .i64 0)), 0, "prim.go:138", #[⟨11, .data⟩], none⟩
abbrev oPL1344 : Oper := ⟨some 17, .load 3 (.tmp 16), 3, "prim.go:138", #[⟨12, .data⟩], none⟩
abbrev oPL1345 : Oper := ⟨some 10, .call { callee := .value (.func 195), args := #[.tmp 5, .tmp 9], argTypes := #[86, 3] }, 3, "prim.go:138", #[⟨1, .data⟩, ⟨5, .data⟩], none⟩
abbrev oPL1346 : Oper := ⟨some 18, .call { callee := .value (.func 195), args := #[.tmp 11, .tmp 17], argTypes := #[86, 3] }, 3, "prim.go:138", #[⟨7, .data⟩, ⟨13, .data⟩, ⟨6, .chain⟩], none⟩
abbrev oPL1347 : Oper := ⟨some 19, .call { callee := .value (.tmp 4), args := #[.tmp 10, .tmp 18], argTypes := #[3, 3] }, 4, "prim.go:138", #[⟨0, .data⟩, ⟨6, .data⟩, ⟨14, .data⟩, ⟨14, .chain⟩], none⟩
abbrev oPL1348 : Oper := ⟨some 20, .call { callee := .value (.func 179), args := #[.tmp 19], argTypes := #[4] }, 3, "prim.go:138", #[⟨15, .data⟩, ⟨15, .chain⟩], none⟩
abbrev oPL1349 : Oper := ⟨some 3, .assign (.tmp 20), 3, "prim.go:138", #[⟨16, .data⟩, ⟨16, .chain⟩, ⟨0, .phase⟩, ⟨1, .phase⟩, ⟨2, .phase⟩, ⟨3, .phase⟩, ⟨4, .phase⟩, ⟨5, .phase⟩, ⟨6, .phase⟩, ⟨7, .phase⟩, ⟨8, .phase⟩, ⟨9, .phase⟩, ⟨10, .phase⟩, ⟨11, .phase⟩, ⟨12, .phase⟩, ⟨13, .phase⟩, ⟨14, .phase⟩, ⟨15, .phase⟩, ⟨16, .phase⟩], none⟩
open Go.RowKit Flt
set_option maxRecDepth 100000
set_option maxHeartbeats 1000000 in
theorem instanceof_any13 (b base : Nat) (h : Hp) (A : Option Addr) (c : Nat) (s : Int) (args : List Int) (SA : Option Addr) (da : Nat) (w : World) (I : In13 w b base h A c s args SA da) (hn : 0 < args.length) (kb : Nat) (kind : Int) (hk : w.cell? ⟨kb, 0, none⟩ = some (.int .i64 kind)) (hkb : kb ≠ b) :
    Calls Tryz.prog 188 #[.pointer (some ⟨b, 0, none⟩), .pointer (some ⟨kb, 0, none⟩)] w (Po13 w b h A c s args.length SA da (if clB9 h s = false then fa13 h else if nB (args.getD 0 0) = false then fa13 h else al13 h s kind (nV (args.getD 0 0)))) := by
  obtain ⟨a0, ha0⟩ : ∃ a, a = args.getD 0 0 := ⟨_, rfl⟩
  rw [← ha0]
  have HI := hid I
  have HLA := hid (fun k => has_arg13 I.hall (k := k))
  obtain ⟨p, o, hSA, q0, hpb⟩ := I.arg (k := 0) (by omega)
  subst hSA
  rw [← ha0] at q0
  simp only [Nat.add_zero] at q0
  have hn0 : 0 < args.length := by omega
  have hn0I : (0 : Int) < (args.length : Int) := by omega
  have HPB := hid hpb
  obtain ⟨x0, x1, x2, x3, x4⟩ := I.box.c5
  have HA0 := hid ha0
  clear I hpb ha0
  have HPBK := hid hkb
  clear hkb
  obtain ⟨rr, hrr⟩ : ∃ r : Rs, r = (if clB9 h s = false then fa13 h else if nB a0 = false then fa13 h else al13 h s kind (nV a0)) := ⟨_, rfl⟩
  rw [← hrr]
  have HRR := hid hrr
  clear hrr
  cases hc : clB9 h s
  · go_enter Tryz.func188, Tryz.ntmps188
    go_wp2_with fail
    refine (need_no13 b base h A c s args _ da w HI.out hc).mono ?_
    rintro e w1 ⟨rfl, hb⟩
    exact ⟨rfl, pr_stop13 hb (by rw [HRR.out, if_pos hc]; rfl) (by decide)⟩
  clear x0 x1 x2 x3 x4 q0
  have HK := hid hk
  clear hk
  go_enter Tryz.func188, Tryz.ntmps188
  go_wp2_with fail
  refine (need_ok13 b base h A c s args _ da w HI.out hc).mono ?_
  rintro e w1 ⟨rfl, hb⟩
  have I1 := hid (HI.out.later hb)
  have HB := hid hb
  have k0 := cell_later hb HK.out
  obtain ⟨pp, oo, hSA2, q0, -⟩ := I1.out.arg (k := 0) hn0
  obtain ⟨rfl, rfl⟩ : p = pp ∧ o = oo := by
    injection hSA2 with h1
    injection h1 with h1 h2
    exact ⟨h1, h2⟩
  rw [← HA0.out] at q0
  simp only [Nat.add_zero] at q0
  clear hb hSA2
  obtain ⟨x0, x1, x2, x3, x4⟩ := I1.out.box.c5
  cases ha : nB a0
  · go_upto_region 2 with fail
    have BB0 := hid ((Below.refl w1.heap.size w1).drew)
    refine wp_region_held_drew (S := (fun w' => w'.cell? ⟨b, 3, none⟩ = some (.int .i64 s) ∧ w'.cell? ⟨b, 4, none⟩ = some (.slice (some ⟨p, o, none⟩) args.length da) ∧ w'.cell? ⟨p, o, none⟩ = some (.int .i64 a0) ∧ w'.cell? ⟨kb, 0, none⟩ = some (.int .i64 kind) ∧ Onl13 b w1 w')) (by kernel_rfl) ?_ (fun hH0 => ?_)
    · exact ⟨dcJ x3, dcJ x4, dcJ q0, dcJ k0, onl_below13 (Below.refl _ _).drew⟩
    refine tkJ 0 oPL130 ?_
    refine tkJ 1 oPL131 ?_
    refine tkJ 2 oPL132 ?_
    refine tkJ 3 oPL133 ?_
    refine tkJ 4 oPL134 ?_
    refine tkJ 5 oPL135 ?_
    refine tkJ 6 oPL136 ?_
    refine tkJ 7 oPL137 ?_
    refine tkJ 8 oPL138 ?_
    refine tkJ 9 oPL139 ?_
    refine tkJ 10 oPL1310 ?_
    refine tkJ 11 oPL1311 ?_
    refine rdJ 12 oPL1312 fun K hK => ?_
    go_simp
    go_at_call 178
    refine (num_no13 ha _).mono ?_
    rintro e u9 ⟨rfl, rfl⟩
    exact ⟨rfl, pr_then13 HB.out (pr_stop13 BB0.out (by rw [HRR.out, if_neg (by rw [hc]; decide), if_pos ha]; rfl) (by decide))⟩
  have HR2 : Hid (rr = al13 h s kind (nV a0)) := by show _ = _; rw [HRR.out, if_neg (by rw [hc]; decide), if_neg (by rw [ha]; decide)]
  have HE0 : Hid ((al13 h s kind (nV a0)).2.2 = rr.2.2) := by show _ = _; rw [HR2.out]
  by_cases h0 : rr.2.2 = 0
  · go_upto_region 2 with fail
    have BB0 := hid ((Below.refl w1.heap.size w1).drew)
    refine wp_region_held_drew (S := (fun w' => w'.cell? ⟨b, 3, none⟩ = some (.int .i64 s) ∧ w'.cell? ⟨b, 4, none⟩ = some (.slice (some ⟨p, o, none⟩) args.length da) ∧ w'.cell? ⟨p, o, none⟩ = some (.int .i64 a0) ∧ w'.cell? ⟨kb, 0, none⟩ = some (.int .i64 kind) ∧ Onl13 b w1 w')) (by kernel_rfl) ?_ (fun hH0 => ?_)
    · exact ⟨dcJ x3, dcJ x4, dcJ q0, dcJ k0, onl_below13 (Below.refl _ _).drew⟩
    refine tkJ 0 oPL130 ?_
    refine tkJ 1 oPL131 ?_
    refine tkJ 2 oPL132 ?_
    refine tkJ 3 oPL133 ?_
    refine tkJ 4 oPL134 ?_
    refine tkJ 5 oPL135 ?_
    refine tkJ 6 oPL136 ?_
    refine tkJ 7 oPL137 ?_
    refine tkJ 8 oPL138 ?_
    refine tkJ 9 oPL139 ?_
    refine tkJ 10 oPL1310 ?_
    refine tkJ 11 oPL1311 ?_
    refine rdJ 12 oPL1312 fun K hK => ?_
    go_simp
    go_at_call 178
    refine (num_ok13 ha _).mono ?_
    rintro e u1 ⟨rfl, rfl⟩
    refine hK.out _ _ ?_ (fun hH1 => ?_)
    · exact hH0
    clear hK K
    try simp only [apt12]
    refine rdJ 13 oPL1313 fun K hK => ?_
    go_simp
    go_at_call 187
    refine (palloc_any13 b base h A c s args _ da _ (I1.out.later BB0.out) s kind (nV a0)).mono ?_
    rintro e u2 PP
    have PQ := hid (pr_after13 (h := h) (A := A) (c := c) BB0.out I1.out.low PP)
    obtain ⟨rfl, A2, c2, kc, kf⟩ := PP.2.2 (by rw [HE0.out]; exact h0)
    refine hK.out _ _ ?_ (fun hH2 => ?_)
    · exact ⟨kc.cell 3, kc.cell 4, PP.1.cell (hH1.2.2.1) (fun e => by injection e with e; exact HPB.out e), PP.1.cell (hH1.2.2.2.1) (fun e => by injection e with e; exact HPBK.out e), (hH1.2.2.2.2).trans PP.1⟩
    clear hK K
    try simp only [apt12]
    clear PP kc kf
    refine tkJ 14 ⟨some 3, .assign (.tmp 19), 3, "prim.go:145", #[⟨13, .data⟩, ⟨13, .chain⟩, ⟨0, .phase⟩, ⟨1, .phase⟩, ⟨2, .phase⟩, ⟨3, .phase⟩, ⟨4, .phase⟩, ⟨5, .phase⟩, ⟨6, .phase⟩, ⟨7, .phase⟩, ⟨8, .phase⟩, ⟨9, .phase⟩, ⟨10, .phase⟩, ⟨11, .phase⟩, ⟨12, .phase⟩, ⟨13, .phase⟩], none⟩ ?_
    refine wpAnyH_done (by kernel_rfl) ?_ _
    go_wp2_with fail
    go_ret
    rw [HR2.out]
    exact pr_then13 HB.out PQ.out
  go_upto_region 2 with fail
  have BB0 := hid ((Below.refl w1.heap.size w1).drew)
  refine wp_region_held_drew (S := (fun w' => w'.cell? ⟨b, 3, none⟩ = some (.int .i64 s) ∧ w'.cell? ⟨b, 4, none⟩ = some (.slice (some ⟨p, o, none⟩) args.length da) ∧ w'.cell? ⟨p, o, none⟩ = some (.int .i64 a0) ∧ w'.cell? ⟨kb, 0, none⟩ = some (.int .i64 kind) ∧ Onl13 b w1 w')) (by kernel_rfl) ?_ (fun hH0 => ?_)
  · exact ⟨dcJ x3, dcJ x4, dcJ q0, dcJ k0, onl_below13 (Below.refl _ _).drew⟩
  refine tkJ 0 oPL130 ?_
  refine tkJ 1 oPL131 ?_
  refine tkJ 2 oPL132 ?_
  refine tkJ 3 oPL133 ?_
  refine tkJ 4 oPL134 ?_
  refine tkJ 5 oPL135 ?_
  refine tkJ 6 oPL136 ?_
  refine tkJ 7 oPL137 ?_
  refine tkJ 8 oPL138 ?_
  refine tkJ 9 oPL139 ?_
  refine tkJ 10 oPL1310 ?_
  refine tkJ 11 oPL1311 ?_
  refine rdJ 12 oPL1312 fun K hK => ?_
  go_simp
  go_at_call 178
  refine (num_ok13 ha _).mono ?_
  rintro e u1 ⟨rfl, rfl⟩
  refine hK.out _ _ ?_ (fun hH1 => ?_)
  · exact hH0
  clear hK K
  try simp only [apt12]
  refine rdJ 13 oPL1313 fun K hK => ?_
  go_simp
  go_at_call 187
  refine (palloc_any13 b base h A c s args _ da _ (I1.out.later BB0.out) s kind (nV a0)).mono ?_
  rintro e u2 PP
  have PQ := hid (pr_after13 (h := h) (A := A) (c := c) BB0.out I1.out.low PP)
  obtain rfl := PP.2.1 (by rw [HE0.out]; exact h0)
  exact ⟨rfl, (by rw [HR2.out]; exact pr_then13 HB.out PQ.out)⟩
set_option maxHeartbeats 1000000 in
theorem offloats_any13 (b base : Nat) (h : Hp) (A : Option Addr) (c : Nat) (s : Int) (args : List Int) (SA : Option Addr) (da : Nat) (w : World) (I : In13 w b base h A c s args SA da) (hn : 0 < args.length) (kb : Nat) (doo : Int) (hk : w.cell? ⟨kb, 0, none⟩ = some (.int .i64 doo)) (hkb : kb ≠ b) :
    Calls Tryz.prog 192 #[.pointer (some ⟨b, 0, none⟩), .pointer (some ⟨kb, 0, none⟩)] w (Po13 w b h A c s args.length SA da (match fl13 h s with | none => fa13 h | some x => match fl13 h (args.getD 0 0) with | none => fa13 h | some y => nf13 h (fOp doo x y))) := by
  obtain ⟨a0, ha0⟩ : ∃ a, a = args.getD 0 0 := ⟨_, rfl⟩
  rw [← ha0]
  have HI := hid I
  have HLA := hid (fun k => has_arg13 I.hall (k := k))
  obtain ⟨p, o, hSA, q0, hpb⟩ := I.arg (k := 0) (by omega)
  subst hSA
  rw [← ha0] at q0
  simp only [Nat.add_zero] at q0
  have hn0 : 0 < args.length := by omega
  have hn0I : (0 : Int) < (args.length : Int) := by omega
  have HPB := hid hpb
  obtain ⟨x0, x1, x2, x3, x4⟩ := I.box.c5
  have HA0 := hid ha0
  clear I hpb ha0
  have HPBK := hid hkb
  clear hkb
  have k0 := hk
  clear hk
  obtain ⟨rr, hrr⟩ : ∃ r : Rs, r = (match fl13 h s with | none => fa13 h | some x => match fl13 h a0 with | none => fa13 h | some y => nf13 h (fOp doo x y)) := ⟨_, rfl⟩
  rw [← hrr]
  have HRR := hid hrr
  clear hrr
  rcases hx : fl13 h s with _ | x
  · have HX := hid hx
    clear hx
    go_enter Tryz.func192, Tryz.ntmps192
    go_upto_region 1 with fail
    have BB0 := hid ((Below.refl w.heap.size w).drew)
    refine wp_region_held_drew (S := (fun w' => w'.cell? ⟨b, 3, none⟩ = some (.int .i64 s) ∧ w'.cell? ⟨b, 4, none⟩ = some (.slice (some ⟨p, o, none⟩) args.length da) ∧ w'.cell? ⟨p, o, none⟩ = some (.int .i64 a0) ∧ w'.cell? ⟨kb, 0, none⟩ = some (.int .i64 doo) ∧ Onl13 b w w')) (by kernel_rfl) ?_ (fun hH0 => ?_)
    · exact ⟨dcJ x3, dcJ x4, dcJ q0, dcJ k0, onl_below13 (Below.refl _ _).drew⟩
    refine tkJ 0 oPL1314 ?_
    refine tkJ 1 oPL1315 ?_
    refine tkJ 2 oPL1316 ?_
    refine tkJ 3 oPL1317 ?_
    refine tkJ 4 oPL1318 ?_
    refine tkJ 5 oPL1319 ?_
    refine tkJ 6 oPL1320 ?_
    refine tkJ 8 oPL1321 ?_
    refine tkJ 9 oPL1322 ?_
    refine tkJ 10 oPL1323 ?_
    refine tkJ 11 oPL1324 ?_
    refine tkJ 12 oPL1325 ?_
    refine tkJ 13 oPL1326 ?_
    refine tkJ 14 oPL1327 ?_
    refine rdJ 7 oPL1328 fun K hK => ?_
    go_simp
    go_at_call 195
    refine (fltd_any13 b base h A c s args _ da _ (HI.out.later BB0.out) HI.out.has).mono ?_
    rintro e u9 ⟨hb, k1, -⟩
    obtain rfl := k1 HX.out
    exact ⟨rfl, pr_stop13 (then_w BB0.out hb) (by rw [HRR.out, HX.out]; rfl) (by decide)⟩
  have HX := hid hx
  clear hx
  rcases hy : fl13 h a0 with _ | y
  · have HY := hid hy
    clear hy
    go_enter Tryz.func192, Tryz.ntmps192
    go_upto_region 1 with fail
    have BB0 := hid ((Below.refl w.heap.size w).drew)
    refine wp_region_held_drew (S := (fun w' => w'.cell? ⟨b, 3, none⟩ = some (.int .i64 s) ∧ w'.cell? ⟨b, 4, none⟩ = some (.slice (some ⟨p, o, none⟩) args.length da) ∧ w'.cell? ⟨p, o, none⟩ = some (.int .i64 a0) ∧ w'.cell? ⟨kb, 0, none⟩ = some (.int .i64 doo) ∧ Onl13 b w w')) (by kernel_rfl) ?_ (fun hH0 => ?_)
    · exact ⟨dcJ x3, dcJ x4, dcJ q0, dcJ k0, onl_below13 (Below.refl _ _).drew⟩
    refine tkJ 0 oPL1314 ?_
    refine tkJ 1 oPL1315 ?_
    refine tkJ 2 oPL1316 ?_
    refine tkJ 3 oPL1317 ?_
    refine tkJ 4 oPL1318 ?_
    refine tkJ 5 oPL1319 ?_
    refine tkJ 6 oPL1320 ?_
    refine tkJ 8 oPL1321 ?_
    refine tkJ 9 oPL1322 ?_
    refine tkJ 10 oPL1323 ?_
    refine tkJ 11 oPL1324 ?_
    refine tkJ 12 oPL1325 ?_
    refine tkJ 13 oPL1326 ?_
    refine tkJ 14 oPL1327 ?_
    refine rdJ 7 oPL1328 fun K hK => ?_
    go_simp
    go_at_call 195
    refine (fltd_any13 b base h A c s args _ da _ (HI.out.later BB0.out) HI.out.has).mono ?_
    rintro e u1 ⟨hb, k1, k2⟩
    obtain rfl := k2 _ HX.out
    clear k1 k2
    have BB1 := hid (then_w BB0.out hb)
    refine hK.out _ _ ?_ (fun hH1 => ?_)
    · exact ⟨cell_later hb hH0.1, cell_later hb hH0.2.1, cell_later hb hH0.2.2.1, cell_later hb hH0.2.2.2.1, (hH0.2.2.2.2).trans (onl_below13 hb)⟩
    clear hK K
    try simp only [apt12]
    clear hb
    refine rdJ 15 oPL1329 fun K hK => ?_
    go_simp
    go_at_call 195
    refine (fltd_any13 b base h A c s args _ da _ (HI.out.later BB1.out) (v := a0) (by rw [HA0.out]; exact HLA.out 0 hn0)).mono ?_
    rintro e u9 ⟨hb, k1, -⟩
    obtain rfl := k1 HY.out
    exact ⟨rfl, pr_stop13 (then_w BB1.out hb) (by rw [HRR.out, HX.out, HY.out]; rfl) (by decide)⟩
  have HY := hid hy
  clear hy
  have HR2 : Hid (rr = nf13 h (fOp doo x y)) := by show _ = _; rw [HRR.out, HX.out, HY.out]
  have HE0 : Hid ((nf13 h (fOp doo x y)).2.2 = rr.2.2) := by show _ = _; rw [HR2.out]
  by_cases h0 : rr.2.2 = 0
  · go_enter Tryz.func192, Tryz.ntmps192
    go_upto_region 1 with fail
    have BB0 := hid ((Below.refl w.heap.size w).drew)
    refine wp_region_held_drew (S := (fun w' => w'.cell? ⟨b, 3, none⟩ = some (.int .i64 s) ∧ w'.cell? ⟨b, 4, none⟩ = some (.slice (some ⟨p, o, none⟩) args.length da) ∧ w'.cell? ⟨p, o, none⟩ = some (.int .i64 a0) ∧ w'.cell? ⟨kb, 0, none⟩ = some (.int .i64 doo) ∧ Onl13 b w w')) (by kernel_rfl) ?_ (fun hH0 => ?_)
    · exact ⟨dcJ x3, dcJ x4, dcJ q0, dcJ k0, onl_below13 (Below.refl _ _).drew⟩
    refine tkJ 0 oPL1314 ?_
    refine tkJ 1 oPL1315 ?_
    refine tkJ 2 oPL1316 ?_
    refine tkJ 3 oPL1317 ?_
    refine tkJ 4 oPL1318 ?_
    refine tkJ 5 oPL1319 ?_
    refine tkJ 6 oPL1320 ?_
    refine tkJ 8 oPL1321 ?_
    refine tkJ 9 oPL1322 ?_
    refine tkJ 10 oPL1323 ?_
    refine tkJ 11 oPL1324 ?_
    refine tkJ 12 oPL1325 ?_
    refine tkJ 13 oPL1326 ?_
    refine tkJ 14 oPL1327 ?_
    refine rdJ 7 oPL1328 fun K hK => ?_
    go_simp
    go_at_call 195
    refine (fltd_any13 b base h A c s args _ da _ (HI.out.later BB0.out) HI.out.has).mono ?_
    rintro e u1 ⟨hb, k1, k2⟩
    obtain rfl := k2 _ HX.out
    clear k1 k2
    have BB1 := hid (then_w BB0.out hb)
    refine hK.out _ _ ?_ (fun hH1 => ?_)
    · exact ⟨cell_later hb hH0.1, cell_later hb hH0.2.1, cell_later hb hH0.2.2.1, cell_later hb hH0.2.2.2.1, (hH0.2.2.2.2).trans (onl_below13 hb)⟩
    clear hK K
    try simp only [apt12]
    clear hb
    refine rdJ 15 oPL1329 fun K hK => ?_
    go_simp
    go_at_call 195
    refine (fltd_any13 b base h A c s args _ da _ (HI.out.later BB1.out) (v := a0) (by rw [HA0.out]; exact HLA.out 0 hn0)).mono ?_
    rintro e u2 ⟨hb, k1, k2⟩
    obtain rfl := k2 _ HY.out
    clear k1 k2
    have BB2 := hid (then_w BB1.out hb)
    refine hK.out _ _ ?_ (fun hH2 => ?_)
    · exact ⟨cell_later hb hH1.1, cell_later hb hH1.2.1, cell_later hb hH1.2.2.1, cell_later hb hH1.2.2.2.1, (hH1.2.2.2.2).trans (onl_below13 hb)⟩
    clear hK K
    try simp only [apt12]
    clear hb
    refine rdJ 16 oPL1330 fun K hK => ?_
    go_simp
    go_at_call 194
    refine (fop_any doo x y _).mono ?_
    rintro e u3 ⟨rfl, hb⟩
    have BB3 := hid (then_w BB2.out hb)
    refine hK.out _ _ ?_ (fun hH3 => ?_)
    · exact ⟨cell_later hb hH2.1, cell_later hb hH2.2.1, cell_later hb hH2.2.2.1, cell_later hb hH2.2.2.2.1, (hH2.2.2.2.2).trans (onl_below13 hb)⟩
    clear hK K
    try simp only [apt12]
    clear hb
    refine rdJ 17 oPL1331 fun K hK => ?_
    go_simp
    go_at_call 193
    refine (newfloat_any13 b base h A c s args _ da _ (HI.out.later BB3.out) (fOp doo x y)).mono ?_
    rintro e u4 PP
    have PQ := hid (pr_after13 (h := h) (A := A) (c := c) BB3.out HI.out.low PP)
    obtain ⟨rfl, A2, c2, kc, kf⟩ := PP.2.2 (by rw [HE0.out]; exact h0)
    refine hK.out _ _ ?_ (fun hH4 => ?_)
    · exact ⟨kc.cell 3, kc.cell 4, PP.1.cell (hH3.2.2.1) (fun e => by injection e with e; exact HPB.out e), PP.1.cell (hH3.2.2.2.1) (fun e => by injection e with e; exact HPBK.out e), (hH3.2.2.2.2).trans PP.1⟩
    clear hK K
    try simp only [apt12]
    clear PP kc kf
    refine tkJ 18 ⟨some 3, .assign (.tmp 21), 3, "prim.go:133", #[⟨17, .data⟩, ⟨17, .chain⟩, ⟨0, .phase⟩, ⟨1, .phase⟩, ⟨2, .phase⟩, ⟨3, .phase⟩, ⟨4, .phase⟩, ⟨5, .phase⟩, ⟨6, .phase⟩, ⟨7, .phase⟩, ⟨8, .phase⟩, ⟨9, .phase⟩, ⟨10, .phase⟩, ⟨11, .phase⟩, ⟨12, .phase⟩, ⟨13, .phase⟩, ⟨14, .phase⟩, ⟨15, .phase⟩, ⟨16, .phase⟩, ⟨17, .phase⟩], none⟩ ?_
    refine wpAnyH_done (by kernel_rfl) ?_ _
    go_wp2_with fail
    go_ret
    rw [HR2.out]
    exact PQ.out
  go_enter Tryz.func192, Tryz.ntmps192
  go_upto_region 1 with fail
  have BB0 := hid ((Below.refl w.heap.size w).drew)
  refine wp_region_held_drew (S := (fun w' => w'.cell? ⟨b, 3, none⟩ = some (.int .i64 s) ∧ w'.cell? ⟨b, 4, none⟩ = some (.slice (some ⟨p, o, none⟩) args.length da) ∧ w'.cell? ⟨p, o, none⟩ = some (.int .i64 a0) ∧ w'.cell? ⟨kb, 0, none⟩ = some (.int .i64 doo) ∧ Onl13 b w w')) (by kernel_rfl) ?_ (fun hH0 => ?_)
  · exact ⟨dcJ x3, dcJ x4, dcJ q0, dcJ k0, onl_below13 (Below.refl _ _).drew⟩
  refine tkJ 0 oPL1314 ?_
  refine tkJ 1 oPL1315 ?_
  refine tkJ 2 oPL1316 ?_
  refine tkJ 3 oPL1317 ?_
  refine tkJ 4 oPL1318 ?_
  refine tkJ 5 oPL1319 ?_
  refine tkJ 6 oPL1320 ?_
  refine tkJ 8 oPL1321 ?_
  refine tkJ 9 oPL1322 ?_
  refine tkJ 10 oPL1323 ?_
  refine tkJ 11 oPL1324 ?_
  refine tkJ 12 oPL1325 ?_
  refine tkJ 13 oPL1326 ?_
  refine tkJ 14 oPL1327 ?_
  refine rdJ 7 oPL1328 fun K hK => ?_
  go_simp
  go_at_call 195
  refine (fltd_any13 b base h A c s args _ da _ (HI.out.later BB0.out) HI.out.has).mono ?_
  rintro e u1 ⟨hb, k1, k2⟩
  obtain rfl := k2 _ HX.out
  clear k1 k2
  have BB1 := hid (then_w BB0.out hb)
  refine hK.out _ _ ?_ (fun hH1 => ?_)
  · exact ⟨cell_later hb hH0.1, cell_later hb hH0.2.1, cell_later hb hH0.2.2.1, cell_later hb hH0.2.2.2.1, (hH0.2.2.2.2).trans (onl_below13 hb)⟩
  clear hK K
  try simp only [apt12]
  clear hb
  refine rdJ 15 oPL1329 fun K hK => ?_
  go_simp
  go_at_call 195
  refine (fltd_any13 b base h A c s args _ da _ (HI.out.later BB1.out) (v := a0) (by rw [HA0.out]; exact HLA.out 0 hn0)).mono ?_
  rintro e u2 ⟨hb, k1, k2⟩
  obtain rfl := k2 _ HY.out
  clear k1 k2
  have BB2 := hid (then_w BB1.out hb)
  refine hK.out _ _ ?_ (fun hH2 => ?_)
  · exact ⟨cell_later hb hH1.1, cell_later hb hH1.2.1, cell_later hb hH1.2.2.1, cell_later hb hH1.2.2.2.1, (hH1.2.2.2.2).trans (onl_below13 hb)⟩
  clear hK K
  try simp only [apt12]
  clear hb
  refine rdJ 16 oPL1330 fun K hK => ?_
  go_simp
  go_at_call 194
  refine (fop_any doo x y _).mono ?_
  rintro e u3 ⟨rfl, hb⟩
  have BB3 := hid (then_w BB2.out hb)
  refine hK.out _ _ ?_ (fun hH3 => ?_)
  · exact ⟨cell_later hb hH2.1, cell_later hb hH2.2.1, cell_later hb hH2.2.2.1, cell_later hb hH2.2.2.2.1, (hH2.2.2.2.2).trans (onl_below13 hb)⟩
  clear hK K
  try simp only [apt12]
  clear hb
  refine rdJ 17 oPL1331 fun K hK => ?_
  go_simp
  go_at_call 193
  refine (newfloat_any13 b base h A c s args _ da _ (HI.out.later BB3.out) (fOp doo x y)).mono ?_
  rintro e u4 PP
  have PQ := hid (pr_after13 (h := h) (A := A) (c := c) BB3.out HI.out.low PP)
  obtain rfl := PP.2.1 (by rw [HE0.out]; exact h0)
  exact ⟨rfl, (by rw [HR2.out]; exact PQ.out)⟩
set_option maxHeartbeats 1000000 in
theorem cmpless_any13 (b base : Nat) (h : Hp) (A : Option Addr) (c : Nat) (s : Int) (args : List Int) (SA : Option Addr) (da : Nat) (w : World) (I : In13 w b base h A c s args SA da) (hn : 0 < args.length) (kb : Nat) (hk : w.cell? ⟨kb, 0, none⟩ = some (.func (.func 153) #[] #[])) (hkb : kb ≠ b) :
    Calls Tryz.prog 196 #[.pointer (some ⟨b, 0, none⟩), .pointer (some ⟨kb, 0, none⟩)] w (Po13 w b h A c s args.length SA da (match fl13 h s with | none => fa13 h | some x => match fl13 h (args.getD 0 0) with | none => fa13 h | some y => tr13 h (fLess x y))) := by
  obtain ⟨a0, ha0⟩ : ∃ a, a = args.getD 0 0 := ⟨_, rfl⟩
  rw [← ha0]
  have HI := hid I
  have HLA := hid (fun k => has_arg13 I.hall (k := k))
  obtain ⟨p, o, hSA, q0, hpb⟩ := I.arg (k := 0) (by omega)
  subst hSA
  rw [← ha0] at q0
  simp only [Nat.add_zero] at q0
  have hn0 : 0 < args.length := by omega
  have hn0I : (0 : Int) < (args.length : Int) := by omega
  have HPB := hid hpb
  obtain ⟨x0, x1, x2, x3, x4⟩ := I.box.c5
  have HA0 := hid ha0
  clear I hpb ha0
  have HPBK := hid hkb
  clear hkb
  have k0 := hk
  clear hk
  obtain ⟨rr, hrr⟩ : ∃ r : Rs, r = (match fl13 h s with | none => fa13 h | some x => match fl13 h a0 with | none => fa13 h | some y => tr13 h (fLess x y)) := ⟨_, rfl⟩
  rw [← hrr]
  have HRR := hid hrr
  clear hrr
  rcases hx : fl13 h s with _ | x
  · have HX := hid hx
    clear hx
    go_enter Tryz.func196, Tryz.ntmps196
    go_upto_region 1 with fail
    have BB0 := hid ((Below.refl w.heap.size w).drew)
    refine wp_region_held_drew (S := (fun w' => w'.cell? ⟨b, 3, none⟩ = some (.int .i64 s) ∧ w'.cell? ⟨b, 4, none⟩ = some (.slice (some ⟨p, o, none⟩) args.length da) ∧ w'.cell? ⟨p, o, none⟩ = some (.int .i64 a0) ∧ w'.cell? ⟨kb, 0, none⟩ = some (.func (.func 153) #[] #[]) ∧ Onl13 b w w')) (by kernel_rfl) ?_ (fun hH0 => ?_)
    · exact ⟨dcJ x3, dcJ x4, dcJ q0, dcJ k0, onl_below13 (Below.refl _ _).drew⟩
    refine tkJ 0 oPL1332 ?_
    refine tkJ 1 oPL1333 ?_
    refine tkJ 2 oPL1334 ?_
    refine tkJ 3 oPL1335 ?_
    refine tkJ 4 oPL1336 ?_
    refine tkJ 5 oPL1337 ?_
    refine tkJ 7 oPL1338 ?_
    refine tkJ 8 oPL1339 ?_
    refine tkJ 9 oPL1340 ?_
    refine tkJ 10 oPL1341 ?_
    refine tkJ 11 oPL1342 ?_
    refine tkJ 12 oPL1343 ?_
    refine tkJ 13 oPL1344 ?_
    refine rdJ 6 oPL1345 fun K hK => ?_
    go_simp
    go_at_call 195
    refine (fltd_any13 b base h A c s args _ da _ (HI.out.later BB0.out) HI.out.has).mono ?_
    rintro e u9 ⟨hb, k1, -⟩
    obtain rfl := k1 HX.out
    exact ⟨rfl, pr_stop13 (then_w BB0.out hb) (by rw [HRR.out, HX.out]; rfl) (by decide)⟩
  have HX := hid hx
  clear hx
  rcases hy : fl13 h a0 with _ | y
  · have HY := hid hy
    clear hy
    go_enter Tryz.func196, Tryz.ntmps196
    go_upto_region 1 with fail
    have BB0 := hid ((Below.refl w.heap.size w).drew)
    refine wp_region_held_drew (S := (fun w' => w'.cell? ⟨b, 3, none⟩ = some (.int .i64 s) ∧ w'.cell? ⟨b, 4, none⟩ = some (.slice (some ⟨p, o, none⟩) args.length da) ∧ w'.cell? ⟨p, o, none⟩ = some (.int .i64 a0) ∧ w'.cell? ⟨kb, 0, none⟩ = some (.func (.func 153) #[] #[]) ∧ Onl13 b w w')) (by kernel_rfl) ?_ (fun hH0 => ?_)
    · exact ⟨dcJ x3, dcJ x4, dcJ q0, dcJ k0, onl_below13 (Below.refl _ _).drew⟩
    refine tkJ 0 oPL1332 ?_
    refine tkJ 1 oPL1333 ?_
    refine tkJ 2 oPL1334 ?_
    refine tkJ 3 oPL1335 ?_
    refine tkJ 4 oPL1336 ?_
    refine tkJ 5 oPL1337 ?_
    refine tkJ 7 oPL1338 ?_
    refine tkJ 8 oPL1339 ?_
    refine tkJ 9 oPL1340 ?_
    refine tkJ 10 oPL1341 ?_
    refine tkJ 11 oPL1342 ?_
    refine tkJ 12 oPL1343 ?_
    refine tkJ 13 oPL1344 ?_
    refine rdJ 6 oPL1345 fun K hK => ?_
    go_simp
    go_at_call 195
    refine (fltd_any13 b base h A c s args _ da _ (HI.out.later BB0.out) HI.out.has).mono ?_
    rintro e u1 ⟨hb, k1, k2⟩
    obtain rfl := k2 _ HX.out
    clear k1 k2
    have BB1 := hid (then_w BB0.out hb)
    refine hK.out _ _ ?_ (fun hH1 => ?_)
    · exact ⟨cell_later hb hH0.1, cell_later hb hH0.2.1, cell_later hb hH0.2.2.1, cell_later hb hH0.2.2.2.1, (hH0.2.2.2.2).trans (onl_below13 hb)⟩
    clear hK K
    try simp only [apt12]
    clear hb
    refine rdJ 14 oPL1346 fun K hK => ?_
    go_simp
    go_at_call 195
    refine (fltd_any13 b base h A c s args _ da _ (HI.out.later BB1.out) (v := a0) (by rw [HA0.out]; exact HLA.out 0 hn0)).mono ?_
    rintro e u9 ⟨hb, k1, -⟩
    obtain rfl := k1 HY.out
    exact ⟨rfl, pr_stop13 (then_w BB1.out hb) (by rw [HRR.out, HX.out, HY.out]; rfl) (by decide)⟩
  have HY := hid hy
  clear hy
  have HR2 : Hid (rr = (h, tv13 (fLess x y), 0)) := by show _ = _; rw [HRR.out, HX.out, HY.out]; rfl
  go_enter Tryz.func196, Tryz.ntmps196
  go_upto_region 1 with fail
  have BB0 := hid ((Below.refl w.heap.size w).drew)
  refine wp_region_held_drew (S := (fun w' => w'.cell? ⟨b, 3, none⟩ = some (.int .i64 s) ∧ w'.cell? ⟨b, 4, none⟩ = some (.slice (some ⟨p, o, none⟩) args.length da) ∧ w'.cell? ⟨p, o, none⟩ = some (.int .i64 a0) ∧ w'.cell? ⟨kb, 0, none⟩ = some (.func (.func 153) #[] #[]) ∧ Onl13 b w w')) (by kernel_rfl) ?_ (fun hH0 => ?_)
  · exact ⟨dcJ x3, dcJ x4, dcJ q0, dcJ k0, onl_below13 (Below.refl _ _).drew⟩
  refine tkJ 0 oPL1332 ?_
  refine tkJ 1 oPL1333 ?_
  refine tkJ 2 oPL1334 ?_
  refine tkJ 3 oPL1335 ?_
  refine tkJ 4 oPL1336 ?_
  refine tkJ 5 oPL1337 ?_
  refine tkJ 7 oPL1338 ?_
  refine tkJ 8 oPL1339 ?_
  refine tkJ 9 oPL1340 ?_
  refine tkJ 10 oPL1341 ?_
  refine tkJ 11 oPL1342 ?_
  refine tkJ 12 oPL1343 ?_
  refine tkJ 13 oPL1344 ?_
  refine rdJ 6 oPL1345 fun K hK => ?_
  go_simp
  go_at_call 195
  refine (fltd_any13 b base h A c s args _ da _ (HI.out.later BB0.out) HI.out.has).mono ?_
  rintro e u1 ⟨hb, k1, k2⟩
  obtain rfl := k2 _ HX.out
  clear k1 k2
  have BB1 := hid (then_w BB0.out hb)
  refine hK.out _ _ ?_ (fun hH1 => ?_)
  · exact ⟨cell_later hb hH0.1, cell_later hb hH0.2.1, cell_later hb hH0.2.2.1, cell_later hb hH0.2.2.2.1, (hH0.2.2.2.2).trans (onl_below13 hb)⟩
  clear hK K
  try simp only [apt12]
  clear hb
  refine rdJ 14 oPL1346 fun K hK => ?_
  go_simp
  go_at_call 195
  refine (fltd_any13 b base h A c s args _ da _ (HI.out.later BB1.out) (v := a0) (by rw [HA0.out]; exact HLA.out 0 hn0)).mono ?_
  rintro e u2 ⟨hb, k1, k2⟩
  obtain rfl := k2 _ HY.out
  clear k1 k2
  have BB2 := hid (then_w BB1.out hb)
  refine hK.out _ _ ?_ (fun hH2 => ?_)
  · exact ⟨cell_later hb hH1.1, cell_later hb hH1.2.1, cell_later hb hH1.2.2.1, cell_later hb hH1.2.2.2.1, (hH1.2.2.2.2).trans (onl_below13 hb)⟩
  clear hK K
  try simp only [apt12]
  clear hb
  refine rdJ 15 oPL1347 fun K hK => ?_
  go_simp
  go_at_call 153
  refine (fless_any x y _).mono ?_
  rintro e u3 ⟨rfl, rfl⟩
  refine hK.out _ _ ?_ (fun hH3 => ?_)
  · exact hH2
  clear hK K
  try simp only [apt12]
  refine rdJ 16 oPL1348 fun K hK => ?_
  go_simp
  go_at_call 179
  refine (truth_any13 _ _).mono ?_
  rintro e u4 ⟨rfl, rfl⟩
  refine hK.out _ _ ?_ (fun hH4 => ?_)
  · exact hH3
  clear hK K
  try simp only [apt12]
  refine tkJ 17 oPL1349 ?_
  refine wpAnyH_done (by kernel_rfl) ?_ _
  go_wp2_with fail
  go_ret
  exact pr_keep13 HI.out BB2.out HR2.out
set_option maxHeartbeats 1000000 in
theorem cmpeq_any13 (b base : Nat) (h : Hp) (A : Option Addr) (c : Nat) (s : Int) (args : List Int) (SA : Option Addr) (da : Nat) (w : World) (I : In13 w b base h A c s args SA da) (hn : 0 < args.length) (kb : Nat) (hk : w.cell? ⟨kb, 0, none⟩ = some (.func (.func 154) #[] #[])) (hkb : kb ≠ b) :
    Calls Tryz.prog 196 #[.pointer (some ⟨b, 0, none⟩), .pointer (some ⟨kb, 0, none⟩)] w (Po13 w b h A c s args.length SA da (match fl13 h s with | none => fa13 h | some x => match fl13 h (args.getD 0 0) with | none => fa13 h | some y => tr13 h (fEqual x y))) := by
  obtain ⟨a0, ha0⟩ : ∃ a, a = args.getD 0 0 := ⟨_, rfl⟩
  rw [← ha0]
  have HI := hid I
  have HLA := hid (fun k => has_arg13 I.hall (k := k))
  obtain ⟨p, o, hSA, q0, hpb⟩ := I.arg (k := 0) (by omega)
  subst hSA
  rw [← ha0] at q0
  simp only [Nat.add_zero] at q0
  have hn0 : 0 < args.length := by omega
  have hn0I : (0 : Int) < (args.length : Int) := by omega
  have HPB := hid hpb
  obtain ⟨x0, x1, x2, x3, x4⟩ := I.box.c5
  have HA0 := hid ha0
  clear I hpb ha0
  have HPBK := hid hkb
  clear hkb
  have k0 := hk
  clear hk
  obtain ⟨rr, hrr⟩ : ∃ r : Rs, r = (match fl13 h s with | none => fa13 h | some x => match fl13 h a0 with | none => fa13 h | some y => tr13 h (fEqual x y)) := ⟨_, rfl⟩
  rw [← hrr]
  have HRR := hid hrr
  clear hrr
  rcases hx : fl13 h s with _ | x
  · have HX := hid hx
    clear hx
    go_enter Tryz.func196, Tryz.ntmps196
    go_upto_region 1 with fail
    have BB0 := hid ((Below.refl w.heap.size w).drew)
    refine wp_region_held_drew (S := (fun w' => w'.cell? ⟨b, 3, none⟩ = some (.int .i64 s) ∧ w'.cell? ⟨b, 4, none⟩ = some (.slice (some ⟨p, o, none⟩) args.length da) ∧ w'.cell? ⟨p, o, none⟩ = some (.int .i64 a0) ∧ w'.cell? ⟨kb, 0, none⟩ = some (.func (.func 154) #[] #[]) ∧ Onl13 b w w')) (by kernel_rfl) ?_ (fun hH0 => ?_)
    · exact ⟨dcJ x3, dcJ x4, dcJ q0, dcJ k0, onl_below13 (Below.refl _ _).drew⟩
    refine tkJ 0 oPL1332 ?_
    refine tkJ 1 oPL1333 ?_
    refine tkJ 2 oPL1334 ?_
    refine tkJ 3 oPL1335 ?_
    refine tkJ 4 oPL1336 ?_
    refine tkJ 5 oPL1337 ?_
    refine tkJ 7 oPL1338 ?_
    refine tkJ 8 oPL1339 ?_
    refine tkJ 9 oPL1340 ?_
    refine tkJ 10 oPL1341 ?_
    refine tkJ 11 oPL1342 ?_
    refine tkJ 12 oPL1343 ?_
    refine tkJ 13 oPL1344 ?_
    refine rdJ 6 oPL1345 fun K hK => ?_
    go_simp
    go_at_call 195
    refine (fltd_any13 b base h A c s args _ da _ (HI.out.later BB0.out) HI.out.has).mono ?_
    rintro e u9 ⟨hb, k1, -⟩
    obtain rfl := k1 HX.out
    exact ⟨rfl, pr_stop13 (then_w BB0.out hb) (by rw [HRR.out, HX.out]; rfl) (by decide)⟩
  have HX := hid hx
  clear hx
  rcases hy : fl13 h a0 with _ | y
  · have HY := hid hy
    clear hy
    go_enter Tryz.func196, Tryz.ntmps196
    go_upto_region 1 with fail
    have BB0 := hid ((Below.refl w.heap.size w).drew)
    refine wp_region_held_drew (S := (fun w' => w'.cell? ⟨b, 3, none⟩ = some (.int .i64 s) ∧ w'.cell? ⟨b, 4, none⟩ = some (.slice (some ⟨p, o, none⟩) args.length da) ∧ w'.cell? ⟨p, o, none⟩ = some (.int .i64 a0) ∧ w'.cell? ⟨kb, 0, none⟩ = some (.func (.func 154) #[] #[]) ∧ Onl13 b w w')) (by kernel_rfl) ?_ (fun hH0 => ?_)
    · exact ⟨dcJ x3, dcJ x4, dcJ q0, dcJ k0, onl_below13 (Below.refl _ _).drew⟩
    refine tkJ 0 oPL1332 ?_
    refine tkJ 1 oPL1333 ?_
    refine tkJ 2 oPL1334 ?_
    refine tkJ 3 oPL1335 ?_
    refine tkJ 4 oPL1336 ?_
    refine tkJ 5 oPL1337 ?_
    refine tkJ 7 oPL1338 ?_
    refine tkJ 8 oPL1339 ?_
    refine tkJ 9 oPL1340 ?_
    refine tkJ 10 oPL1341 ?_
    refine tkJ 11 oPL1342 ?_
    refine tkJ 12 oPL1343 ?_
    refine tkJ 13 oPL1344 ?_
    refine rdJ 6 oPL1345 fun K hK => ?_
    go_simp
    go_at_call 195
    refine (fltd_any13 b base h A c s args _ da _ (HI.out.later BB0.out) HI.out.has).mono ?_
    rintro e u1 ⟨hb, k1, k2⟩
    obtain rfl := k2 _ HX.out
    clear k1 k2
    have BB1 := hid (then_w BB0.out hb)
    refine hK.out _ _ ?_ (fun hH1 => ?_)
    · exact ⟨cell_later hb hH0.1, cell_later hb hH0.2.1, cell_later hb hH0.2.2.1, cell_later hb hH0.2.2.2.1, (hH0.2.2.2.2).trans (onl_below13 hb)⟩
    clear hK K
    try simp only [apt12]
    clear hb
    refine rdJ 14 oPL1346 fun K hK => ?_
    go_simp
    go_at_call 195
    refine (fltd_any13 b base h A c s args _ da _ (HI.out.later BB1.out) (v := a0) (by rw [HA0.out]; exact HLA.out 0 hn0)).mono ?_
    rintro e u9 ⟨hb, k1, -⟩
    obtain rfl := k1 HY.out
    exact ⟨rfl, pr_stop13 (then_w BB1.out hb) (by rw [HRR.out, HX.out, HY.out]; rfl) (by decide)⟩
  have HY := hid hy
  clear hy
  have HR2 : Hid (rr = (h, tv13 (fEqual x y), 0)) := by show _ = _; rw [HRR.out, HX.out, HY.out]; rfl
  go_enter Tryz.func196, Tryz.ntmps196
  go_upto_region 1 with fail
  have BB0 := hid ((Below.refl w.heap.size w).drew)
  refine wp_region_held_drew (S := (fun w' => w'.cell? ⟨b, 3, none⟩ = some (.int .i64 s) ∧ w'.cell? ⟨b, 4, none⟩ = some (.slice (some ⟨p, o, none⟩) args.length da) ∧ w'.cell? ⟨p, o, none⟩ = some (.int .i64 a0) ∧ w'.cell? ⟨kb, 0, none⟩ = some (.func (.func 154) #[] #[]) ∧ Onl13 b w w')) (by kernel_rfl) ?_ (fun hH0 => ?_)
  · exact ⟨dcJ x3, dcJ x4, dcJ q0, dcJ k0, onl_below13 (Below.refl _ _).drew⟩
  refine tkJ 0 oPL1332 ?_
  refine tkJ 1 oPL1333 ?_
  refine tkJ 2 oPL1334 ?_
  refine tkJ 3 oPL1335 ?_
  refine tkJ 4 oPL1336 ?_
  refine tkJ 5 oPL1337 ?_
  refine tkJ 7 oPL1338 ?_
  refine tkJ 8 oPL1339 ?_
  refine tkJ 9 oPL1340 ?_
  refine tkJ 10 oPL1341 ?_
  refine tkJ 11 oPL1342 ?_
  refine tkJ 12 oPL1343 ?_
  refine tkJ 13 oPL1344 ?_
  refine rdJ 6 oPL1345 fun K hK => ?_
  go_simp
  go_at_call 195
  refine (fltd_any13 b base h A c s args _ da _ (HI.out.later BB0.out) HI.out.has).mono ?_
  rintro e u1 ⟨hb, k1, k2⟩
  obtain rfl := k2 _ HX.out
  clear k1 k2
  have BB1 := hid (then_w BB0.out hb)
  refine hK.out _ _ ?_ (fun hH1 => ?_)
  · exact ⟨cell_later hb hH0.1, cell_later hb hH0.2.1, cell_later hb hH0.2.2.1, cell_later hb hH0.2.2.2.1, (hH0.2.2.2.2).trans (onl_below13 hb)⟩
  clear hK K
  try simp only [apt12]
  clear hb
  refine rdJ 14 oPL1346 fun K hK => ?_
  go_simp
  go_at_call 195
  refine (fltd_any13 b base h A c s args _ da _ (HI.out.later BB1.out) (v := a0) (by rw [HA0.out]; exact HLA.out 0 hn0)).mono ?_
  rintro e u2 ⟨hb, k1, k2⟩
  obtain rfl := k2 _ HY.out
  clear k1 k2
  have BB2 := hid (then_w BB1.out hb)
  refine hK.out _ _ ?_ (fun hH2 => ?_)
  · exact ⟨cell_later hb hH1.1, cell_later hb hH1.2.1, cell_later hb hH1.2.2.1, cell_later hb hH1.2.2.2.1, (hH1.2.2.2.2).trans (onl_below13 hb)⟩
  clear hK K
  try simp only [apt12]
  clear hb
  refine rdJ 15 oPL1347 fun K hK => ?_
  go_simp
  go_at_call 154
  refine (fequal_any x y _).mono ?_
  rintro e u3 ⟨rfl, rfl⟩
  refine hK.out _ _ ?_ (fun hH3 => ?_)
  · exact hH2
  clear hK K
  try simp only [apt12]
  refine rdJ 16 oPL1348 fun K hK => ?_
  go_simp
  go_at_call 179
  refine (truth_any13 _ _).mono ?_
  rintro e u4 ⟨rfl, rfl⟩
  refine hK.out _ _ ?_ (fun hH4 => ?_)
  · exact hH3
  clear hK K
  try simp only [apt12]
  refine tkJ 17 oPL1349 ?_
  refine wpAnyH_done (by kernel_rfl) ?_ _
  go_wp2_with fail
  go_ret
  exact pr_keep13 HI.out BB2.out HR2.out
theorem n_bd13 {v : Int} (h : nB v = true) : -1073741824 ≤ nV v ∧ nV v ≤ 1073741823 := by
  have := nB_iff.1 h
  unfold nV
  rw [if_pos h]
  omega
theorem add_any13 {m n : Int} (hm : -1073741824 ≤ m ∧ m ≤ 1073741823) (hn : -1073741824 ≤ n ∧ n ≤ 1073741823) (w : World) : Calls Tryz.prog 135 #[.int .i64 m, .int .i64 n] w fun e w' => e = .returned (.int .i64 (m + n)) ∧ w = w' := by
  have hw : IntKind.i64.wrap (m + n) = m + n := IntWalk.i64_in _ (by omega)
  go_enter Tryz.func135, Tryz.ntmps135
  go_wp2
  go_ret
  exact ⟨rfl, rfl⟩
theorem sub_any13 {m n : Int} (hm : -1073741824 ≤ m ∧ m ≤ 1073741823) (hn : -1073741824 ≤ n ∧ n ≤ 1073741823) (w : World) : Calls Tryz.prog 136 #[.int .i64 m, .int .i64 n] w fun e w' => e = .returned (.int .i64 (m - n)) ∧ w = w' := by
  have hw : IntKind.i64.wrap (m - n) = m - n := IntWalk.i64_in _ (by omega)
  go_enter Tryz.func136, Tryz.ntmps136
  go_wp2
  go_ret
  exact ⟨rfl, rfl⟩
theorem mul_bd13 {m n : Int} (hm : -1073741824 ≤ m ∧ m ≤ 1073741823) (hn : -1073741824 ≤ n ∧ n ≤ 1073741823) : -1152921504606846976 ≤ m * n ∧ m * n ≤ 1152921504606846976 := by
  have h : (m * n).natAbs ≤ 1073741824 * 1073741824 := by
    rw [Int.natAbs_mul]
    exact Nat.mul_le_mul (by omega) (by omega)
  omega
theorem mul_any13 {m n : Int} (hm : -1073741824 ≤ m ∧ m ≤ 1073741823) (hn : -1073741824 ≤ n ∧ n ≤ 1073741823) (w : World) : Calls Tryz.prog 137 #[.int .i64 m, .int .i64 n] w fun e w' => e = .returned (.int .i64 (m * n)) ∧ w = w' := by
  have hw : IntKind.i64.wrap (m * n) = m * n := IntWalk.i64_in _ (by have := mul_bd13 hm hn; omega)
  clear hm hn
  go_enter Tryz.func137, Tryz.ntmps137
  go_wp2
  go_ret
  exact ⟨rfl, rfl⟩
end Go.Proofs.YtnilempeldlieaaGreat
