/- Primitives 9, 16, 26: a slot set, two become each other, a byte set. -/
import Derived.Test.YtnilempeldlieaaGreatJ04
import Derived.Test.YtnilempeldlieaaGreatJPH13
import Derived.Test.YtnilempeldlieaaGreatJ07
import Derived.Test.YtnilempeldlieaaGreatJ08
import Derived.Test.YtnilempeldlieaaGreatJ09
namespace Go.Proofs.YtnilempeldlieaaGreat
abbrev oPI130 : Oper := ⟨some 3, .move (.tmp 0), 86, "prim.go:172", #[], none⟩
abbrev oPI131 : Oper := ⟨some 4, .move (.tmp 0), 86, "prim.go:172", #[], none⟩
abbrev oPI132 : Oper := ⟨some 5, .nilCheck (.tmp 4), 0, "prim.go:172", #[⟨1, .data⟩], none⟩
abbrev oPI133 : Oper := ⟨some 6, .fieldAddr 62 (.tmp 5) 0, 0, "prim.go:172", #[⟨2, .data⟩], none⟩
abbrev oPI134 : Oper := ⟨some 8, .move (.tmp 0), 86, "prim.go:172", #[], none⟩
abbrev oPI135 : Oper := ⟨some 9, .nilCheck (.tmp 8), 0, "prim.go:172", #[⟨5, .data⟩], none⟩
abbrev oPI136 : Oper := ⟨some 10, .fieldAddr 62 (.tmp 9) 1, 0, "prim.go:172", #[⟨6, .data⟩], none⟩
abbrev oPI137 : Oper := ⟨some 11, .load 3 (.tmp 10), 3, "prim.go:172", #[⟨7, .data⟩], none⟩
abbrev oPI138 : Oper := ⟨some 12, .move (.tmp 0), 86, "prim.go:172", #[], none⟩
abbrev oPI139 : Oper := ⟨some 13, .nilCheck (.tmp 12), 0, "prim.go:172", #[⟨9, .data⟩], none⟩
abbrev oPI1310 : Oper := ⟨some 14, .fieldAddr 62 (.tmp 13) 2, 0, "prim.go:172", #[⟨10, .data⟩], none⟩
abbrev oPI1311 : Oper := ⟨some 15, .load 34 (.tmp 14), 34, "prim.go:172", #[⟨11, .data⟩], none⟩
abbrev oPI1312 : Oper := ⟨some 16, .indexAddr 34 (.tmp 15) (.const (Go.Value.int .i64 0)), 0, "prim.go:172", #[⟨12, .data⟩], none⟩
abbrev oPI1313 : Oper := ⟨some 17, .load 3 (.tmp 16), 3, "prim.go:172", #[⟨13, .data⟩], none⟩
abbrev oPI1314 : Oper := ⟨some 19, .move (.tmp 0), 86, "prim.go:172", #[], none⟩
abbrev oPI1315 : Oper := ⟨some 20, .nilCheck (.tmp 19), 0, "prim.go:172", #[⟨16, .data⟩], none⟩
abbrev oPI1316 : Oper := ⟨some 21, .fieldAddr 62 (.tmp 20) 2, 0, "prim.go:172", #[⟨17, .data⟩], none⟩
abbrev oPI1317 : Oper := ⟨some 22, .load 34 (.tmp 21), 34, "prim.go:172", #[⟨18, .data⟩], none⟩
abbrev oPI1318 : Oper := ⟨some 23, .indexAddr 34 (.tmp 22) (.const (Go.Value.int .i64 1)), 0, "prim.go:172", #[⟨19, .data⟩], none⟩
abbrev oPI1319 : Oper := ⟨some 24, .load 3 (.tmp 23), 3, "prim.go:172", #[⟨20, .data⟩], none⟩
abbrev oPI1320 : Oper := ⟨some 18, .call { callee := .value (.func 182), args := #[.tmp 17], argTypes := #[3] }, 3, "prim.go:172", #[⟨14, .data⟩], none⟩
abbrev oPI1321 : Oper := ⟨some 25, .call { callee := .value (.func 184), args := #[.tmp 7, .tmp 11, .tmp 18, .tmp 24], argTypes := #[24, 3, 3, 3] }, 93, "prim.go:172", #[⟨4, .data⟩, ⟨8, .data⟩, ⟨15, .data⟩, ⟨21, .data⟩, ⟨15, .chain⟩], none⟩
abbrev oPI1322 : Oper := ⟨some 26, .extract (.tmp 25) 0, 24, "prim.go:172", #[⟨22, .data⟩], none⟩
abbrev oPI1323 : Oper := ⟨some 27, .extract (.tmp 25) 1, 25, "prim.go:172", #[⟨22, .data⟩], none⟩
abbrev oPI1324 : Oper := ⟨some 28, .call { callee := .value (.func 183), args := #[.tmp 3, .tmp 26, .tmp 27], argTypes := #[86, 24, 25] }, 0, "prim.go:172", #[⟨0, .data⟩, ⟨23, .data⟩, ⟨24, .data⟩, ⟨22, .chain⟩], none⟩
abbrev oPI1325 : Oper := ⟨some 7, .load 24 (.tmp 6), 24, "prim.go:172", #[⟨3, .data⟩], none⟩
abbrev oPI1326 : Oper := ⟨some 3, .move (.tmp 0), 86, "prim.go:179", #[], none⟩
abbrev oPI1327 : Oper := ⟨some 4, .move (.tmp 0), 86, "prim.go:179", #[], none⟩
abbrev oPI1328 : Oper := ⟨some 5, .nilCheck (.tmp 4), 0, "prim.go:179", #[⟨1, .data⟩], none⟩
abbrev oPI1329 : Oper := ⟨some 6, .fieldAddr 62 (.tmp 5) 0, 0, "prim.go:179", #[⟨2, .data⟩], none⟩
abbrev oPI1330 : Oper := ⟨some 8, .move (.tmp 0), 86, "prim.go:179", #[], none⟩
abbrev oPI1331 : Oper := ⟨some 9, .nilCheck (.tmp 8), 0, "prim.go:179", #[⟨5, .data⟩], none⟩
abbrev oPI1332 : Oper := ⟨some 10, .fieldAddr 62 (.tmp 9) 1, 0, "prim.go:179", #[⟨6, .data⟩], none⟩
abbrev oPI1333 : Oper := ⟨some 11, .load 3 (.tmp 10), 3, "prim.go:179", #[⟨7, .data⟩], none⟩
abbrev oPI1334 : Oper := ⟨some 12, .move (.tmp 0), 86, "prim.go:179", #[], none⟩
abbrev oPI1335 : Oper := ⟨some 13, .nilCheck (.tmp 12), 0, "prim.go:179", #[⟨9, .data⟩], none⟩
abbrev oPI1336 : Oper := ⟨some 14, .fieldAddr 62 (.tmp 13) 2, 0, "prim.go:179", #[⟨10, .data⟩], none⟩
abbrev oPI1337 : Oper := ⟨some 15, .load 34 (.tmp 14), 34, "prim.go:179", #[⟨11, .data⟩], none⟩
abbrev oPI1338 : Oper := ⟨some 16, .indexAddr 34 (.tmp 15) (.const (Go.Value.int .i64 0)), 0, "prim.go:179", #[⟨12, .data⟩], none⟩
abbrev oPI1339 : Oper := ⟨some 17, .load 3 (.tmp 16), 3, "prim.go:179", #[⟨13, .data⟩], none⟩
abbrev oPI1340 : Oper := ⟨some 19, .move (.tmp 0), 86, "prim.go:179", #[], none⟩
abbrev oPI1341 : Oper := ⟨some 20, .nilCheck (.tmp 19), 0, "prim.go:179", #[⟨16, .data⟩], none⟩
abbrev oPI1342 : Oper := ⟨some 21, .fieldAddr 62 (.tmp 20) 2, 0, "prim.go:179", #[⟨17, .data⟩], none⟩
abbrev oPI1343 : Oper := ⟨some 22, .load 34 (.tmp 21), 34, "prim.go:179", #[⟨18, .data⟩], none⟩
abbrev oPI1344 : Oper := ⟨some 23, .indexAddr 34 (.tmp 22) (.const (Go.Value.int .i64 1)), 0, "prim.go:179", #[⟨19, .data⟩], none⟩
abbrev oPI1345 : Oper := ⟨some 24, .load 3 (.tmp 23), 3, "prim.go:179", #[⟨20, .data⟩], none⟩
abbrev oPI1346 : Oper := ⟨some 18, .call { callee := .value (.func 182), args := #[.tmp 17], argTypes := #[3] }, 3, "prim.go:179", #[⟨14, .data⟩], none⟩
abbrev oPI1347 : Oper := ⟨some 25, .call { callee := .value (.func 178), args := #[.tmp 24], argTypes := #[3] }, 3, "prim.go:179", #[⟨21, .data⟩, ⟨15, .chain⟩], none⟩
abbrev oPI1348 : Oper := ⟨some 26, .call { callee := .value (.func 200), args := #[.tmp 7, .tmp 11, .tmp 18, .tmp 25], argTypes := #[24, 3, 3, 3] }, 93, "prim.go:179", #[⟨4, .data⟩, ⟨8, .data⟩, ⟨15, .data⟩, ⟨22, .data⟩, ⟨22, .chain⟩], none⟩
abbrev oPI1349 : Oper := ⟨some 27, .extract (.tmp 26) 0, 24, "prim.go:179", #[⟨23, .data⟩], none⟩
abbrev oPI1350 : Oper := ⟨some 28, .extract (.tmp 26) 1, 25, "prim.go:179", #[⟨23, .data⟩], none⟩
abbrev oPI1351 : Oper := ⟨some 29, .call { callee := .value (.func 183), args := #[.tmp 3, .tmp 27, .tmp 28], argTypes := #[86, 24, 25] }, 0, "prim.go:179", #[⟨0, .data⟩, ⟨24, .data⟩, ⟨25, .data⟩, ⟨23, .chain⟩], none⟩
abbrev oPI1352 : Oper := ⟨some 7, .load 24 (.tmp 6), 24, "prim.go:179", #[⟨3, .data⟩], none⟩
open Go.RowKit Flt
set_option maxRecDepth 100000
theorem pr_ok13 {w w' : World} {b : Nat} {h : Hp} {A0 : Option Addr} {c0 : Nat} {s : Int} {n : Nat} {SA : Option Addr} {da : Nat} {r : Rs} {g : Hp} {v : Int} {A : Option Addr} {c : Nat} (hb : Onl13 b w w') (hr : r = (g, v, 0)) (hc : CL13 w' b g A c s n SA da) (hf : Fr13 w' w.heap.size A c g.objs) :
    Po13 w b h A0 c0 s n SA da r (.returned (.int .i64 v)) w' := by
  subst hr
  exact ⟨hb, fun hh => absurd rfl hh, fun _ => ⟨rfl, A, c, hc, .inr hf⟩⟩
theorem set_30_13 (h : Hp) (v k x : Int) : setE h v k x = 0 ∨ go13 (setE h v k x) = 130 := by
  unfold setE
  rcases pl_30_13 h v 0 k with e | e
  next =>
   rw [if_pos e]
   split
   next =>
    exact .inl rfl
   next =>
    right; decide
  next =>
   by_cases e0 : plE h v 0 k = 0
   next =>
    rw [if_pos e0]
    split
    next =>
     exact .inl rfl
    next =>
     right; decide
   next =>
    rw [if_neg e0]; exact .inr e
theorem sb_30_13 (h : Hp) (v k x : Int) : sbE h v k x = 0 ∨ go13 (sbE h v k x) = 130 := by
  unfold sbE
  rcases pl_30_13 h v 1 k with e | e
  next =>
   rw [if_pos e]
   split
   next =>
    exact .inl rfl
   next =>
    right; decide
  next =>
   by_cases e0 : plE h v 1 k = 0
   next =>
    rw [if_pos e0]
    split
    next =>
     exact .inl rfl
    next =>
     right; decide
   next =>
    rw [if_neg e0]; exact .inr e
set_option maxHeartbeats 1000000 in
theorem setslot_any13 (b base : Nat) (h : Hp) (A : Option Addr) (c : Nat) (s : Int) (args : List Int) (SA : Option Addr) (da : Nat) (w : World) (I : In13 w b base h A c s args SA da) (hn : 1 < args.length) :
    Calls Tryz.prog 143 #[.pointer (some ⟨b, 0, none⟩)] w (Po13 w b h A c s args.length SA da (if nB (args.getD 0 0) = false then fa13 h else if setE h s (nV (args.getD 0 0) - 1) (args.getD 1 0) ≠ 0 then fa13 h else (setR h s (nV (args.getD 0 0) - 1) (args.getD 1 0), args.getD 1 0, 0))) := by
  obtain ⟨a0, ha0⟩ : ∃ a, a = args.getD 0 0 := ⟨_, rfl⟩
  rw [← ha0]
  obtain ⟨a1, ha1⟩ : ∃ a, a = args.getD 1 0 := ⟨_, rfl⟩
  rw [← ha1]
  have HI := hid I
  have HLA := hid (fun k => has_arg13 I.hall (k := k))
  obtain ⟨p, o, hSA, q0, hpb⟩ := I.arg (k := 0) (by omega)
  obtain ⟨pp, oo, hSA2, q1, -⟩ := I.arg (k := 1) (by omega)
  obtain ⟨rfl, rfl⟩ : p = pp ∧ o = oo := by
    rw [hSA] at hSA2
    injection hSA2 with h1
    injection h1 with h1 h2
    exact ⟨h1, h2⟩
  clear hSA2
  subst hSA
  rw [← ha0] at q0
  simp only [Nat.add_zero] at q0
  rw [← ha1] at q1
  have hn1 : 1 < args.length := by omega
  have hn1I : (1 : Int) < (args.length : Int) := by omega
  have hn0 : 0 < args.length := by omega
  have hn0I : (0 : Int) < (args.length : Int) := by omega
  have HPB := hid hpb
  obtain ⟨x0, x1, x2, x3, x4⟩ := I.box.c5
  have HA0 := hid ha0
  have HA1 := hid ha1
  clear I hpb ha0 ha1
  cases ha : nB a0
  next =>
   go_enter Tryz.func143, Tryz.ntmps143
   go_upto_region 1 with fail
   refine wp_region_held_drew (S := (fun w' => w'.cell? ⟨b, 3, none⟩ = some (.int .i64 s) ∧ w'.cell? ⟨b, 4, none⟩ = some (.slice (some ⟨p, o, none⟩) args.length da) ∧ w'.cell? ⟨p, o, none⟩ = some (.int .i64 a0) ∧ w'.cell? ⟨p, o + 1, none⟩ = some (.int .i64 a1) ∧ Onl13 b w w')) (by kernel_rfl) ?_ (fun hH0 => ?_)
   next =>
    exact ⟨dcJ x3, dcJ x4, dcJ q0, dcJ q1, onl_below13 (Below.refl _ _).drew⟩
   refine tkJ 0 oPI130 ?_
   refine tkJ 1 oPI131 ?_
   refine tkJ 2 oPI132 ?_
   refine tkJ 3 oPI133 ?_
   refine tkJ 5 oPI134 ?_
   refine tkJ 6 oPI135 ?_
   refine tkJ 7 oPI136 ?_
   refine tkJ 8 oPI137 ?_
   refine tkJ 9 oPI138 ?_
   refine tkJ 10 oPI139 ?_
   refine tkJ 11 oPI1310 ?_
   refine tkJ 12 oPI1311 ?_
   refine tkJ 13 oPI1312 ?_
   refine tkJ 14 oPI1313 ?_
   refine tkJ 16 oPI1314 ?_
   refine tkJ 17 oPI1315 ?_
   refine tkJ 18 oPI1316 ?_
   refine tkJ 19 oPI1317 ?_
   refine tkJ 20 oPI1318 ?_
   refine tkJ 21 oPI1319 ?_
   refine wpAnyH_ready (rs := [4, 15]) (by kernel_rfl) (by simp) ?_
   refine AllReadyH.cons (i := 4) (o := ⟨some 7, .load 24 (.tmp 6), 24, "prim.go:172", #[⟨3, .data⟩], none⟩) rfl (fun K hK => ?_) (AllReadyH.cons (i := 15) (o := ⟨some 18, .call { callee := .value (.func 182), args := #[.tmp 17], argTypes := #[3] }, 3, "prim.go:172", #[⟨14, .data⟩], none⟩) rfl (fun K hK => ?_) AllReadyH.nil)
   next =>
    have z0 := dcJ x0
    have z1 := dcJ x1
    have z2 := dcJ x2
    go_simp
    refine hK.out _ _ ?_ (fun hH1 => ?_)
    next =>
     exact hH0
    clear hK K
    try simp only [apt12]
    clear z0 z1 z2
    refine rdJ 15 oPI1320 fun K hK => ?_
    go_simp
    go_at_call 182
    refine (place_no13 ha _).mono ?_
    rintro e u9 ⟨rfl, rfl⟩
    exact ⟨rfl, pr_stop13 (Below.refl w.heap.size w).drew (by first | rfl | simp [fa13]) (by decide)⟩
   next =>
    go_simp
    go_at_call 182
    refine (place_no13 ha _).mono ?_
    rintro e u9 ⟨rfl, rfl⟩
    exact ⟨rfl, pr_stop13 (Below.refl w.heap.size w).drew (by first | rfl | simp [fa13]) (by decide)⟩
  obtain ⟨en, hen⟩ : ∃ e, e = setE h s (nV a0 - 1) a1 := ⟨_, rfl⟩
  obtain ⟨g, hg⟩ : ∃ e, e = setR h s (nV a0 - 1) a1 := ⟨_, rfl⟩
  have G30 := hid (set_30_13 h s (nV a0 - 1) a1)
  rw [← hen, ← hg]
  rw [← hen] at G30
  have EN := hid hen
  have HG := hid hg
  clear hen hg
  by_cases he : en = 0
  next =>
   subst he
   go_enter Tryz.func143, Tryz.ntmps143
   go_upto_region 1 with fail
   refine wp_region_held_drew (S := (fun w' => w'.cell? ⟨b, 3, none⟩ = some (.int .i64 s) ∧ w'.cell? ⟨b, 4, none⟩ = some (.slice (some ⟨p, o, none⟩) args.length da) ∧ w'.cell? ⟨p, o, none⟩ = some (.int .i64 a0) ∧ w'.cell? ⟨p, o + 1, none⟩ = some (.int .i64 a1) ∧ Onl13 b w w')) (by kernel_rfl) ?_ (fun hH0 => ?_)
   next =>
    exact ⟨dcJ x3, dcJ x4, dcJ q0, dcJ q1, onl_below13 (Below.refl _ _).drew⟩
   refine tkJ 0 oPI130 ?_
   refine tkJ 1 oPI131 ?_
   refine tkJ 2 oPI132 ?_
   refine tkJ 3 oPI133 ?_
   refine tkJ 5 oPI134 ?_
   refine tkJ 6 oPI135 ?_
   refine tkJ 7 oPI136 ?_
   refine tkJ 8 oPI137 ?_
   refine tkJ 9 oPI138 ?_
   refine tkJ 10 oPI139 ?_
   refine tkJ 11 oPI1310 ?_
   refine tkJ 12 oPI1311 ?_
   refine tkJ 13 oPI1312 ?_
   refine tkJ 14 oPI1313 ?_
   refine tkJ 16 oPI1314 ?_
   refine tkJ 17 oPI1315 ?_
   refine tkJ 18 oPI1316 ?_
   refine tkJ 19 oPI1317 ?_
   refine tkJ 20 oPI1318 ?_
   refine tkJ 21 oPI1319 ?_
   refine wpAnyH_ready (rs := [4, 15]) (by kernel_rfl) (by simp) ?_
   refine AllReadyH.cons (i := 4) (o := ⟨some 7, .load 24 (.tmp 6), 24, "prim.go:172", #[⟨3, .data⟩], none⟩) rfl (fun K hK => ?_) (AllReadyH.cons (i := 15) (o := ⟨some 18, .call { callee := .value (.func 182), args := #[.tmp 17], argTypes := #[3] }, 3, "prim.go:172", #[⟨14, .data⟩], none⟩) rfl (fun K hK => ?_) AllReadyH.nil)
   next =>
    have z0 := dcJ x0
    have z1 := dcJ x1
    have z2 := dcJ x2
    go_simp
    refine hK.out _ _ ?_ (fun hH1 => ?_)
    next =>
     exact hH0
    clear hK K
    try simp only [apt12]
    clear z0 z1 z2
    refine rdJ 15 oPI1320 fun K hK => ?_
    go_simp
    go_at_call 182
    refine (place_ok13 ha _).mono ?_
    rintro e u2 ⟨rfl, rfl⟩
    refine hK.out _ _ ?_ (fun hH2 => ?_)
    next =>
     exact hH1
    clear hK K
    try simp only [apt12]
    refine rdJ 22 oPI1321 fun K hK => ?_
    go_simp
    go_at_call 184
    refine (set_any h s (nV a0 - 1) a1 A c _ (HI.out.own.obs.below (Below.refl w.heap.size w).drew) HI.out.fit).mono ?_
    rintro e u3 ⟨A2, c2, l2, rfl, hm2, ho2, hb⟩
    rw [← HG.out] at hm2
    rw [← HG.out, ← EN.out]
    have HBS : Hid (Below w.heap.size w u3) := hid (then_w (Below.refl w.heap.size w).drew hb)
    have FO : Hid (Fr13 u3 w.heap.size A2 c2 g.objs) := hid ⟨l2, ho2, hm2⟩
    have BX : Hid (CL13 u3 b h A c s args.length (some ⟨p, o, none⟩) da) := hid (HI.out.box.later HBS.out)
    refine hK.out _ _ ?_ (fun hH3 => ?_)
    next =>
     exact ⟨cell_later hb hH2.1, cell_later hb hH2.2.1, cell_later hb hH2.2.2.1, cell_later hb hH2.2.2.2.1, (hH2.2.2.2.2).trans (onl_below13 hb)⟩
    clear hK K
    try simp only [apt12]
    clear hb hm2 ho2
    refine tkJ 23 oPI1322 ?_
    refine tkJ 24 oPI1323 ?_
    refine rdJ 25 oPI1324 fun K hK => ?_
    go_simp
    go_at_call 183
    refine (change_ok13 b w.heap.size g A2 c2 _ BX.out FO.out).mono ?_
    rintro e u4 ⟨rfl, k1, k2, k3⟩
    have K1 := hid k1
    have K2 := hid k2
    refine hK.out _ _ ?_ (fun hH4 => ?_)
    next =>
     exact ⟨k1.cell 3, k1.cell 4, k3.cell (hH3.2.2.1) (fun e => by injection e with e; exact HPB.out e), k3.cell (hH3.2.2.2.1) (fun e => by injection e with e; exact HPB.out e), (hH3.2.2.2.2).trans k3⟩
    clear hK K
    try simp only [apt12]
    clear k1 k2 k3
    refine wpAnyH_done (by kernel_rfl) ?_ _
    have y3 := hH4.1
    have y4 := hH4.2.1
    have y5 := hH4.2.2.2.1
    have KN := hid (hH4.2.2.2.2)
    go_wp2_with fail
    go_ret
    exact ⟨KN.out, fun hh => absurd rfl hh, fun _ => ⟨rfl, A2, c2, K1.out, .inr K2.out⟩⟩
   next =>
    go_simp
    go_at_call 182
    refine (place_ok13 ha _).mono ?_
    rintro e u1 ⟨rfl, rfl⟩
    refine hK.out _ _ ?_ (fun hH1 => ?_)
    next =>
     exact hH0
    clear hK K
    try simp only [apt12]
    refine rdJ 4 oPI1325 fun K hK => ?_
    have z0 := dcJ x0
    have z1 := dcJ x1
    have z2 := dcJ x2
    go_simp
    refine hK.out _ _ ?_ (fun hH2 => ?_)
    next =>
     exact hH1
    clear hK K
    try simp only [apt12]
    clear z0 z1 z2
    refine rdJ 22 oPI1321 fun K hK => ?_
    go_simp
    go_at_call 184
    refine (set_any h s (nV a0 - 1) a1 A c _ (HI.out.own.obs.below (Below.refl w.heap.size w).drew) HI.out.fit).mono ?_
    rintro e u3 ⟨A2, c2, l2, rfl, hm2, ho2, hb⟩
    rw [← HG.out] at hm2
    rw [← HG.out, ← EN.out]
    have HBS : Hid (Below w.heap.size w u3) := hid (then_w (Below.refl w.heap.size w).drew hb)
    have FO : Hid (Fr13 u3 w.heap.size A2 c2 g.objs) := hid ⟨l2, ho2, hm2⟩
    have BX : Hid (CL13 u3 b h A c s args.length (some ⟨p, o, none⟩) da) := hid (HI.out.box.later HBS.out)
    refine hK.out _ _ ?_ (fun hH3 => ?_)
    next =>
     exact ⟨cell_later hb hH2.1, cell_later hb hH2.2.1, cell_later hb hH2.2.2.1, cell_later hb hH2.2.2.2.1, (hH2.2.2.2.2).trans (onl_below13 hb)⟩
    clear hK K
    try simp only [apt12]
    clear hb hm2 ho2
    refine tkJ 23 oPI1322 ?_
    refine tkJ 24 oPI1323 ?_
    refine rdJ 25 oPI1324 fun K hK => ?_
    go_simp
    go_at_call 183
    refine (change_ok13 b w.heap.size g A2 c2 _ BX.out FO.out).mono ?_
    rintro e u4 ⟨rfl, k1, k2, k3⟩
    have K1 := hid k1
    have K2 := hid k2
    refine hK.out _ _ ?_ (fun hH4 => ?_)
    next =>
     exact ⟨k1.cell 3, k1.cell 4, k3.cell (hH3.2.2.1) (fun e => by injection e with e; exact HPB.out e), k3.cell (hH3.2.2.2.1) (fun e => by injection e with e; exact HPB.out e), (hH3.2.2.2.2).trans k3⟩
    clear hK K
    try simp only [apt12]
    clear k1 k2 k3
    refine wpAnyH_done (by kernel_rfl) ?_ _
    have y3 := hH4.1
    have y4 := hH4.2.1
    have y5 := hH4.2.2.2.1
    have KN := hid (hH4.2.2.2.2)
    go_wp2_with fail
    go_ret
    exact ⟨KN.out, fun hh => absurd rfl hh, fun _ => ⟨rfl, A2, c2, K1.out, .inr K2.out⟩⟩
  have G130 : Hid (go13 en = 130) := G30.out.resolve_left he
  go_enter Tryz.func143, Tryz.ntmps143
  go_upto_region 1 with fail
  refine wp_region_held_drew (S := (fun w' => w'.cell? ⟨b, 3, none⟩ = some (.int .i64 s) ∧ w'.cell? ⟨b, 4, none⟩ = some (.slice (some ⟨p, o, none⟩) args.length da) ∧ w'.cell? ⟨p, o, none⟩ = some (.int .i64 a0) ∧ w'.cell? ⟨p, o + 1, none⟩ = some (.int .i64 a1) ∧ Onl13 b w w')) (by kernel_rfl) ?_ (fun hH0 => ?_)
  next =>
   exact ⟨dcJ x3, dcJ x4, dcJ q0, dcJ q1, onl_below13 (Below.refl _ _).drew⟩
  refine tkJ 0 oPI130 ?_
  refine tkJ 1 oPI131 ?_
  refine tkJ 2 oPI132 ?_
  refine tkJ 3 oPI133 ?_
  refine tkJ 5 oPI134 ?_
  refine tkJ 6 oPI135 ?_
  refine tkJ 7 oPI136 ?_
  refine tkJ 8 oPI137 ?_
  refine tkJ 9 oPI138 ?_
  refine tkJ 10 oPI139 ?_
  refine tkJ 11 oPI1310 ?_
  refine tkJ 12 oPI1311 ?_
  refine tkJ 13 oPI1312 ?_
  refine tkJ 14 oPI1313 ?_
  refine tkJ 16 oPI1314 ?_
  refine tkJ 17 oPI1315 ?_
  refine tkJ 18 oPI1316 ?_
  refine tkJ 19 oPI1317 ?_
  refine tkJ 20 oPI1318 ?_
  refine tkJ 21 oPI1319 ?_
  refine wpAnyH_ready (rs := [4, 15]) (by kernel_rfl) (by simp) ?_
  refine AllReadyH.cons (i := 4) (o := ⟨some 7, .load 24 (.tmp 6), 24, "prim.go:172", #[⟨3, .data⟩], none⟩) rfl (fun K hK => ?_) (AllReadyH.cons (i := 15) (o := ⟨some 18, .call { callee := .value (.func 182), args := #[.tmp 17], argTypes := #[3] }, 3, "prim.go:172", #[⟨14, .data⟩], none⟩) rfl (fun K hK => ?_) AllReadyH.nil)
  next =>
   have z0 := dcJ x0
   have z1 := dcJ x1
   have z2 := dcJ x2
   go_simp
   refine hK.out _ _ ?_ (fun hH1 => ?_)
   next =>
    exact hH0
   clear hK K
   try simp only [apt12]
   clear z0 z1 z2
   refine rdJ 15 oPI1320 fun K hK => ?_
   go_simp
   go_at_call 182
   refine (place_ok13 ha _).mono ?_
   rintro e u2 ⟨rfl, rfl⟩
   refine hK.out _ _ ?_ (fun hH2 => ?_)
   next =>
    exact hH1
   clear hK K
   try simp only [apt12]
   refine rdJ 22 oPI1321 fun K hK => ?_
   go_simp
   go_at_call 184
   refine (set_any h s (nV a0 - 1) a1 A c _ (HI.out.own.obs.below (Below.refl w.heap.size w).drew) HI.out.fit).mono ?_
   rintro e u3 ⟨A2, c2, l2, rfl, hm2, ho2, hb⟩
   rw [← HG.out] at hm2
   rw [← HG.out, ← EN.out]
   have HBS : Hid (Below w.heap.size w u3) := hid (then_w (Below.refl w.heap.size w).drew hb)
   have FO : Hid (Fr13 u3 w.heap.size A2 c2 g.objs) := hid ⟨l2, ho2, hm2⟩
   have BX : Hid (CL13 u3 b h A c s args.length (some ⟨p, o, none⟩) da) := hid (HI.out.box.later HBS.out)
   refine hK.out _ _ ?_ (fun hH3 => ?_)
   next =>
    exact ⟨cell_later hb hH2.1, cell_later hb hH2.2.1, cell_later hb hH2.2.2.1, cell_later hb hH2.2.2.2.1, (hH2.2.2.2.2).trans (onl_below13 hb)⟩
   clear hK K
   try simp only [apt12]
   clear hb hm2 ho2
   refine tkJ 23 oPI1322 ?_
   refine tkJ 24 oPI1323 ?_
   refine rdJ 25 oPI1324 fun K hK => ?_
   go_simp
   go_at_call 183
   refine (change_no13 b g A2 c2 he _).mono ?_
   rintro e u9 ⟨rfl, hb⟩
   rw [G130.out]
   exact ⟨rfl, pr_stop13 (then_w HBS.out hb) (by first | rfl | simp [fa13]) (by decide)⟩
  next =>
   go_simp
   go_at_call 182
   refine (place_ok13 ha _).mono ?_
   rintro e u1 ⟨rfl, rfl⟩
   refine hK.out _ _ ?_ (fun hH1 => ?_)
   next =>
    exact hH0
   clear hK K
   try simp only [apt12]
   refine rdJ 4 oPI1325 fun K hK => ?_
   have z0 := dcJ x0
   have z1 := dcJ x1
   have z2 := dcJ x2
   go_simp
   refine hK.out _ _ ?_ (fun hH2 => ?_)
   next =>
    exact hH1
   clear hK K
   try simp only [apt12]
   clear z0 z1 z2
   refine rdJ 22 oPI1321 fun K hK => ?_
   go_simp
   go_at_call 184
   refine (set_any h s (nV a0 - 1) a1 A c _ (HI.out.own.obs.below (Below.refl w.heap.size w).drew) HI.out.fit).mono ?_
   rintro e u3 ⟨A2, c2, l2, rfl, hm2, ho2, hb⟩
   rw [← HG.out] at hm2
   rw [← HG.out, ← EN.out]
   have HBS : Hid (Below w.heap.size w u3) := hid (then_w (Below.refl w.heap.size w).drew hb)
   have FO : Hid (Fr13 u3 w.heap.size A2 c2 g.objs) := hid ⟨l2, ho2, hm2⟩
   have BX : Hid (CL13 u3 b h A c s args.length (some ⟨p, o, none⟩) da) := hid (HI.out.box.later HBS.out)
   refine hK.out _ _ ?_ (fun hH3 => ?_)
   next =>
    exact ⟨cell_later hb hH2.1, cell_later hb hH2.2.1, cell_later hb hH2.2.2.1, cell_later hb hH2.2.2.2.1, (hH2.2.2.2.2).trans (onl_below13 hb)⟩
   clear hK K
   try simp only [apt12]
   clear hb hm2 ho2
   refine tkJ 23 oPI1322 ?_
   refine tkJ 24 oPI1323 ?_
   refine rdJ 25 oPI1324 fun K hK => ?_
   go_simp
   go_at_call 183
   refine (change_no13 b g A2 c2 he _).mono ?_
   rintro e u9 ⟨rfl, hb⟩
   rw [G130.out]
   exact ⟨rfl, pr_stop13 (then_w HBS.out hb) (by first | rfl | simp [fa13]) (by decide)⟩
set_option maxHeartbeats 1000000 in
theorem setbyte_any13 (b base : Nat) (h : Hp) (A : Option Addr) (c : Nat) (s : Int) (args : List Int) (SA : Option Addr) (da : Nat) (w : World) (I : In13 w b base h A c s args SA da) (hn : 1 < args.length) :
    Calls Tryz.prog 158 #[.pointer (some ⟨b, 0, none⟩)] w (Po13 w b h A c s args.length SA da (if nB (args.getD 0 0) = false then fa13 h else if nB (args.getD 1 0) = false ∨ sbE h s (nV (args.getD 0 0) - 1) (nV (args.getD 1 0)) ≠ 0 then fa13 h else (sbR h s (nV (args.getD 0 0) - 1) (nV (args.getD 1 0)), args.getD 1 0, 0))) := by
  obtain ⟨a0, ha0⟩ : ∃ a, a = args.getD 0 0 := ⟨_, rfl⟩
  rw [← ha0]
  obtain ⟨a1, ha1⟩ : ∃ a, a = args.getD 1 0 := ⟨_, rfl⟩
  rw [← ha1]
  have HI := hid I
  have HLA := hid (fun k => has_arg13 I.hall (k := k))
  obtain ⟨p, o, hSA, q0, hpb⟩ := I.arg (k := 0) (by omega)
  obtain ⟨pp, oo, hSA2, q1, -⟩ := I.arg (k := 1) (by omega)
  obtain ⟨rfl, rfl⟩ : p = pp ∧ o = oo := by
    rw [hSA] at hSA2
    injection hSA2 with h1
    injection h1 with h1 h2
    exact ⟨h1, h2⟩
  clear hSA2
  subst hSA
  rw [← ha0] at q0
  simp only [Nat.add_zero] at q0
  rw [← ha1] at q1
  have hn1 : 1 < args.length := by omega
  have hn1I : (1 : Int) < (args.length : Int) := by omega
  have hn0 : 0 < args.length := by omega
  have hn0I : (0 : Int) < (args.length : Int) := by omega
  have HPB := hid hpb
  obtain ⟨x0, x1, x2, x3, x4⟩ := I.box.c5
  have HA0 := hid ha0
  have HA1 := hid ha1
  clear I hpb ha0 ha1
  cases ha : nB a0
  next =>
   go_enter Tryz.func158, Tryz.ntmps158
   go_upto_region 1 with fail
   refine wp_region_held_drew (S := (fun w' => w'.cell? ⟨b, 3, none⟩ = some (.int .i64 s) ∧ w'.cell? ⟨b, 4, none⟩ = some (.slice (some ⟨p, o, none⟩) args.length da) ∧ w'.cell? ⟨p, o, none⟩ = some (.int .i64 a0) ∧ w'.cell? ⟨p, o + 1, none⟩ = some (.int .i64 a1) ∧ Onl13 b w w')) (by kernel_rfl) ?_ (fun hH0 => ?_)
   next =>
    exact ⟨dcJ x3, dcJ x4, dcJ q0, dcJ q1, onl_below13 (Below.refl _ _).drew⟩
   refine tkJ 0 oPI1326 ?_
   refine tkJ 1 oPI1327 ?_
   refine tkJ 2 oPI1328 ?_
   refine tkJ 3 oPI1329 ?_
   refine tkJ 5 oPI1330 ?_
   refine tkJ 6 oPI1331 ?_
   refine tkJ 7 oPI1332 ?_
   refine tkJ 8 oPI1333 ?_
   refine tkJ 9 oPI1334 ?_
   refine tkJ 10 oPI1335 ?_
   refine tkJ 11 oPI1336 ?_
   refine tkJ 12 oPI1337 ?_
   refine tkJ 13 oPI1338 ?_
   refine tkJ 14 oPI1339 ?_
   refine tkJ 16 oPI1340 ?_
   refine tkJ 17 oPI1341 ?_
   refine tkJ 18 oPI1342 ?_
   refine tkJ 19 oPI1343 ?_
   refine tkJ 20 oPI1344 ?_
   refine tkJ 21 oPI1345 ?_
   refine wpAnyH_ready (rs := [4, 15]) (by kernel_rfl) (by simp) ?_
   refine AllReadyH.cons (i := 4) (o := ⟨some 7, .load 24 (.tmp 6), 24, "prim.go:179", #[⟨3, .data⟩], none⟩) rfl (fun K hK => ?_) (AllReadyH.cons (i := 15) (o := ⟨some 18, .call { callee := .value (.func 182), args := #[.tmp 17], argTypes := #[3] }, 3, "prim.go:179", #[⟨14, .data⟩], none⟩) rfl (fun K hK => ?_) AllReadyH.nil)
   next =>
    have z0 := dcJ x0
    have z1 := dcJ x1
    have z2 := dcJ x2
    go_simp
    refine hK.out _ _ ?_ (fun hH1 => ?_)
    next =>
     exact hH0
    clear hK K
    try simp only [apt12]
    clear z0 z1 z2
    refine rdJ 15 oPI1346 fun K hK => ?_
    go_simp
    go_at_call 182
    refine (place_no13 ha _).mono ?_
    rintro e u9 ⟨rfl, rfl⟩
    exact ⟨rfl, pr_stop13 (Below.refl w.heap.size w).drew (by first | rfl | simp [fa13]) (by decide)⟩
   next =>
    go_simp
    go_at_call 182
    refine (place_no13 ha _).mono ?_
    rintro e u9 ⟨rfl, rfl⟩
    exact ⟨rfl, pr_stop13 (Below.refl w.heap.size w).drew (by first | rfl | simp [fa13]) (by decide)⟩
  cases hq : nB a1
  next =>
   go_enter Tryz.func158, Tryz.ntmps158
   go_upto_region 1 with fail
   refine wp_region_held_drew (S := (fun w' => w'.cell? ⟨b, 3, none⟩ = some (.int .i64 s) ∧ w'.cell? ⟨b, 4, none⟩ = some (.slice (some ⟨p, o, none⟩) args.length da) ∧ w'.cell? ⟨p, o, none⟩ = some (.int .i64 a0) ∧ w'.cell? ⟨p, o + 1, none⟩ = some (.int .i64 a1) ∧ Onl13 b w w')) (by kernel_rfl) ?_ (fun hH0 => ?_)
   next =>
    exact ⟨dcJ x3, dcJ x4, dcJ q0, dcJ q1, onl_below13 (Below.refl _ _).drew⟩
   refine tkJ 0 oPI1326 ?_
   refine tkJ 1 oPI1327 ?_
   refine tkJ 2 oPI1328 ?_
   refine tkJ 3 oPI1329 ?_
   refine tkJ 5 oPI1330 ?_
   refine tkJ 6 oPI1331 ?_
   refine tkJ 7 oPI1332 ?_
   refine tkJ 8 oPI1333 ?_
   refine tkJ 9 oPI1334 ?_
   refine tkJ 10 oPI1335 ?_
   refine tkJ 11 oPI1336 ?_
   refine tkJ 12 oPI1337 ?_
   refine tkJ 13 oPI1338 ?_
   refine tkJ 14 oPI1339 ?_
   refine tkJ 16 oPI1340 ?_
   refine tkJ 17 oPI1341 ?_
   refine tkJ 18 oPI1342 ?_
   refine tkJ 19 oPI1343 ?_
   refine tkJ 20 oPI1344 ?_
   refine tkJ 21 oPI1345 ?_
   refine wpAnyH_ready (rs := [4, 15]) (by kernel_rfl) (by simp) ?_
   refine AllReadyH.cons (i := 4) (o := ⟨some 7, .load 24 (.tmp 6), 24, "prim.go:179", #[⟨3, .data⟩], none⟩) rfl (fun K hK => ?_) (AllReadyH.cons (i := 15) (o := ⟨some 18, .call { callee := .value (.func 182), args := #[.tmp 17], argTypes := #[3] }, 3, "prim.go:179", #[⟨14, .data⟩], none⟩) rfl (fun K hK => ?_) AllReadyH.nil)
   next =>
    have z0 := dcJ x0
    have z1 := dcJ x1
    have z2 := dcJ x2
    go_simp
    refine hK.out _ _ ?_ (fun hH1 => ?_)
    next =>
     exact hH0
    clear hK K
    try simp only [apt12]
    clear z0 z1 z2
    refine rdJ 15 oPI1346 fun K hK => ?_
    go_simp
    go_at_call 182
    refine (place_ok13 ha _).mono ?_
    rintro e u2 ⟨rfl, rfl⟩
    refine hK.out _ _ ?_ (fun hH2 => ?_)
    next =>
     exact hH1
    clear hK K
    try simp only [apt12]
    refine rdJ 22 oPI1347 fun K hK => ?_
    go_simp
    go_at_call 178
    refine (num_no13 hq _).mono ?_
    rintro e u9 ⟨rfl, rfl⟩
    exact ⟨rfl, pr_stop13 (Below.refl w.heap.size w).drew (by first | rfl | simp [fa13]) (by decide)⟩
   next =>
    go_simp
    go_at_call 182
    refine (place_ok13 ha _).mono ?_
    rintro e u1 ⟨rfl, rfl⟩
    refine hK.out _ _ ?_ (fun hH1 => ?_)
    next =>
     exact hH0
    clear hK K
    try simp only [apt12]
    refine wpAnyH_ready (rs := [4, 22]) (by kernel_rfl) (by simp) ?_
    refine AllReadyH.cons (i := 4) (o := ⟨some 7, .load 24 (.tmp 6), 24, "prim.go:179", #[⟨3, .data⟩], none⟩) rfl (fun K hK => ?_) (AllReadyH.cons (i := 22) (o := ⟨some 25, .call { callee := .value (.func 178), args := #[.tmp 24], argTypes := #[3] }, 3, "prim.go:179", #[⟨21, .data⟩, ⟨15, .chain⟩], none⟩) rfl (fun K hK => ?_) AllReadyH.nil)
    next =>
     have z0 := dcJ x0
     have z1 := dcJ x1
     have z2 := dcJ x2
     go_simp
     refine hK.out _ _ ?_ (fun hH2 => ?_)
     next =>
      exact hH1
     clear hK K
     try simp only [apt12]
     clear z0 z1 z2
     refine rdJ 22 oPI1347 fun K hK => ?_
     go_simp
     go_at_call 178
     refine (num_no13 hq _).mono ?_
     rintro e u9 ⟨rfl, rfl⟩
     exact ⟨rfl, pr_stop13 (Below.refl w.heap.size w).drew (by first | rfl | simp [fa13]) (by decide)⟩
    next =>
     go_simp
     go_at_call 178
     refine (num_no13 hq _).mono ?_
     rintro e u9 ⟨rfl, rfl⟩
     exact ⟨rfl, pr_stop13 (Below.refl w.heap.size w).drew (by first | rfl | simp [fa13]) (by decide)⟩
  obtain ⟨en, hen⟩ : ∃ e, e = sbE h s (nV a0 - 1) (nV a1) := ⟨_, rfl⟩
  obtain ⟨g, hg⟩ : ∃ e, e = sbR h s (nV a0 - 1) (nV a1) := ⟨_, rfl⟩
  have G30 := hid (sb_30_13 h s (nV a0 - 1) (nV a1))
  rw [← hen, ← hg]
  rw [← hen] at G30
  have EN := hid hen
  have HG := hid hg
  clear hen hg
  by_cases he : en = 0
  next =>
   subst he
   go_enter Tryz.func158, Tryz.ntmps158
   go_upto_region 1 with fail
   refine wp_region_held_drew (S := (fun w' => w'.cell? ⟨b, 3, none⟩ = some (.int .i64 s) ∧ w'.cell? ⟨b, 4, none⟩ = some (.slice (some ⟨p, o, none⟩) args.length da) ∧ w'.cell? ⟨p, o, none⟩ = some (.int .i64 a0) ∧ w'.cell? ⟨p, o + 1, none⟩ = some (.int .i64 a1) ∧ Onl13 b w w')) (by kernel_rfl) ?_ (fun hH0 => ?_)
   next =>
    exact ⟨dcJ x3, dcJ x4, dcJ q0, dcJ q1, onl_below13 (Below.refl _ _).drew⟩
   refine tkJ 0 oPI1326 ?_
   refine tkJ 1 oPI1327 ?_
   refine tkJ 2 oPI1328 ?_
   refine tkJ 3 oPI1329 ?_
   refine tkJ 5 oPI1330 ?_
   refine tkJ 6 oPI1331 ?_
   refine tkJ 7 oPI1332 ?_
   refine tkJ 8 oPI1333 ?_
   refine tkJ 9 oPI1334 ?_
   refine tkJ 10 oPI1335 ?_
   refine tkJ 11 oPI1336 ?_
   refine tkJ 12 oPI1337 ?_
   refine tkJ 13 oPI1338 ?_
   refine tkJ 14 oPI1339 ?_
   refine tkJ 16 oPI1340 ?_
   refine tkJ 17 oPI1341 ?_
   refine tkJ 18 oPI1342 ?_
   refine tkJ 19 oPI1343 ?_
   refine tkJ 20 oPI1344 ?_
   refine tkJ 21 oPI1345 ?_
   refine wpAnyH_ready (rs := [4, 15]) (by kernel_rfl) (by simp) ?_
   refine AllReadyH.cons (i := 4) (o := ⟨some 7, .load 24 (.tmp 6), 24, "prim.go:179", #[⟨3, .data⟩], none⟩) rfl (fun K hK => ?_) (AllReadyH.cons (i := 15) (o := ⟨some 18, .call { callee := .value (.func 182), args := #[.tmp 17], argTypes := #[3] }, 3, "prim.go:179", #[⟨14, .data⟩], none⟩) rfl (fun K hK => ?_) AllReadyH.nil)
   next =>
    have z0 := dcJ x0
    have z1 := dcJ x1
    have z2 := dcJ x2
    go_simp
    refine hK.out _ _ ?_ (fun hH1 => ?_)
    next =>
     exact hH0
    clear hK K
    try simp only [apt12]
    clear z0 z1 z2
    refine rdJ 15 oPI1346 fun K hK => ?_
    go_simp
    go_at_call 182
    refine (place_ok13 ha _).mono ?_
    rintro e u2 ⟨rfl, rfl⟩
    refine hK.out _ _ ?_ (fun hH2 => ?_)
    next =>
     exact hH1
    clear hK K
    try simp only [apt12]
    refine rdJ 22 oPI1347 fun K hK => ?_
    go_simp
    go_at_call 178
    refine (num_ok13 hq _).mono ?_
    rintro e u3 ⟨rfl, rfl⟩
    refine hK.out _ _ ?_ (fun hH3 => ?_)
    next =>
     exact hH2
    clear hK K
    try simp only [apt12]
    refine rdJ 23 oPI1348 fun K hK => ?_
    go_simp
    go_at_call 200
    refine (setbyte_any h s (nV a0 - 1) (nV a1) A c _ (HI.out.own.obs.below (Below.refl w.heap.size w).drew) HI.out.fit).mono ?_
    rintro e u4 ⟨A2, c2, l2, rfl, hm2, ho2, hb⟩
    rw [← HG.out] at hm2
    rw [← HG.out, ← EN.out]
    have HBS : Hid (Below w.heap.size w u4) := hid (then_w (Below.refl w.heap.size w).drew hb)
    have FO : Hid (Fr13 u4 w.heap.size A2 c2 g.objs) := hid ⟨l2, ho2, hm2⟩
    have BX : Hid (CL13 u4 b h A c s args.length (some ⟨p, o, none⟩) da) := hid (HI.out.box.later HBS.out)
    refine hK.out _ _ ?_ (fun hH4 => ?_)
    next =>
     exact ⟨cell_later hb hH3.1, cell_later hb hH3.2.1, cell_later hb hH3.2.2.1, cell_later hb hH3.2.2.2.1, (hH3.2.2.2.2).trans (onl_below13 hb)⟩
    clear hK K
    try simp only [apt12]
    clear hb hm2 ho2
    refine tkJ 24 oPI1349 ?_
    refine tkJ 25 oPI1350 ?_
    refine rdJ 26 oPI1351 fun K hK => ?_
    go_simp
    go_at_call 183
    refine (change_ok13 b w.heap.size g A2 c2 _ BX.out FO.out).mono ?_
    rintro e u5 ⟨rfl, k1, k2, k3⟩
    have K1 := hid k1
    have K2 := hid k2
    refine hK.out _ _ ?_ (fun hH5 => ?_)
    next =>
     exact ⟨k1.cell 3, k1.cell 4, k3.cell (hH4.2.2.1) (fun e => by injection e with e; exact HPB.out e), k3.cell (hH4.2.2.2.1) (fun e => by injection e with e; exact HPB.out e), (hH4.2.2.2.2).trans k3⟩
    clear hK K
    try simp only [apt12]
    clear k1 k2 k3
    refine wpAnyH_done (by kernel_rfl) ?_ _
    have y3 := hH5.1
    have y4 := hH5.2.1
    have y5 := hH5.2.2.2.1
    have KN := hid (hH5.2.2.2.2)
    go_wp2_with fail
    go_ret
    exact pr_ok13 KN.out (by simp) K1.out K2.out
   next =>
    go_simp
    go_at_call 182
    refine (place_ok13 ha _).mono ?_
    rintro e u1 ⟨rfl, rfl⟩
    refine hK.out _ _ ?_ (fun hH1 => ?_)
    next =>
     exact hH0
    clear hK K
    try simp only [apt12]
    refine wpAnyH_ready (rs := [4, 22]) (by kernel_rfl) (by simp) ?_
    refine AllReadyH.cons (i := 4) (o := ⟨some 7, .load 24 (.tmp 6), 24, "prim.go:179", #[⟨3, .data⟩], none⟩) rfl (fun K hK => ?_) (AllReadyH.cons (i := 22) (o := ⟨some 25, .call { callee := .value (.func 178), args := #[.tmp 24], argTypes := #[3] }, 3, "prim.go:179", #[⟨21, .data⟩, ⟨15, .chain⟩], none⟩) rfl (fun K hK => ?_) AllReadyH.nil)
    next =>
     have z0 := dcJ x0
     have z1 := dcJ x1
     have z2 := dcJ x2
     go_simp
     refine hK.out _ _ ?_ (fun hH2 => ?_)
     next =>
      exact hH1
     clear hK K
     try simp only [apt12]
     clear z0 z1 z2
     refine rdJ 22 oPI1347 fun K hK => ?_
     go_simp
     go_at_call 178
     refine (num_ok13 hq _).mono ?_
     rintro e u3 ⟨rfl, rfl⟩
     refine hK.out _ _ ?_ (fun hH3 => ?_)
     next =>
      exact hH2
     clear hK K
     try simp only [apt12]
     refine rdJ 23 oPI1348 fun K hK => ?_
     go_simp
     go_at_call 200
     refine (setbyte_any h s (nV a0 - 1) (nV a1) A c _ (HI.out.own.obs.below (Below.refl w.heap.size w).drew) HI.out.fit).mono ?_
     rintro e u4 ⟨A2, c2, l2, rfl, hm2, ho2, hb⟩
     rw [← HG.out] at hm2
     rw [← HG.out, ← EN.out]
     have HBS : Hid (Below w.heap.size w u4) := hid (then_w (Below.refl w.heap.size w).drew hb)
     have FO : Hid (Fr13 u4 w.heap.size A2 c2 g.objs) := hid ⟨l2, ho2, hm2⟩
     have BX : Hid (CL13 u4 b h A c s args.length (some ⟨p, o, none⟩) da) := hid (HI.out.box.later HBS.out)
     refine hK.out _ _ ?_ (fun hH4 => ?_)
     next =>
      exact ⟨cell_later hb hH3.1, cell_later hb hH3.2.1, cell_later hb hH3.2.2.1, cell_later hb hH3.2.2.2.1, (hH3.2.2.2.2).trans (onl_below13 hb)⟩
     clear hK K
     try simp only [apt12]
     clear hb hm2 ho2
     refine tkJ 24 oPI1349 ?_
     refine tkJ 25 oPI1350 ?_
     refine rdJ 26 oPI1351 fun K hK => ?_
     go_simp
     go_at_call 183
     refine (change_ok13 b w.heap.size g A2 c2 _ BX.out FO.out).mono ?_
     rintro e u5 ⟨rfl, k1, k2, k3⟩
     have K1 := hid k1
     have K2 := hid k2
     refine hK.out _ _ ?_ (fun hH5 => ?_)
     next =>
      exact ⟨k1.cell 3, k1.cell 4, k3.cell (hH4.2.2.1) (fun e => by injection e with e; exact HPB.out e), k3.cell (hH4.2.2.2.1) (fun e => by injection e with e; exact HPB.out e), (hH4.2.2.2.2).trans k3⟩
     clear hK K
     try simp only [apt12]
     clear k1 k2 k3
     refine wpAnyH_done (by kernel_rfl) ?_ _
     have y3 := hH5.1
     have y4 := hH5.2.1
     have y5 := hH5.2.2.2.1
     have KN := hid (hH5.2.2.2.2)
     go_wp2_with fail
     go_ret
     exact pr_ok13 KN.out (by simp) K1.out K2.out
    next =>
     go_simp
     go_at_call 178
     refine (num_ok13 hq _).mono ?_
     rintro e u2 ⟨rfl, rfl⟩
     refine hK.out _ _ ?_ (fun hH2 => ?_)
     next =>
      exact hH1
     clear hK K
     try simp only [apt12]
     refine rdJ 4 oPI1352 fun K hK => ?_
     have z0 := dcJ x0
     have z1 := dcJ x1
     have z2 := dcJ x2
     go_simp
     refine hK.out _ _ ?_ (fun hH3 => ?_)
     next =>
      exact hH2
     clear hK K
     try simp only [apt12]
     clear z0 z1 z2
     refine rdJ 23 oPI1348 fun K hK => ?_
     go_simp
     go_at_call 200
     refine (setbyte_any h s (nV a0 - 1) (nV a1) A c _ (HI.out.own.obs.below (Below.refl w.heap.size w).drew) HI.out.fit).mono ?_
     rintro e u4 ⟨A2, c2, l2, rfl, hm2, ho2, hb⟩
     rw [← HG.out] at hm2
     rw [← HG.out, ← EN.out]
     have HBS : Hid (Below w.heap.size w u4) := hid (then_w (Below.refl w.heap.size w).drew hb)
     have FO : Hid (Fr13 u4 w.heap.size A2 c2 g.objs) := hid ⟨l2, ho2, hm2⟩
     have BX : Hid (CL13 u4 b h A c s args.length (some ⟨p, o, none⟩) da) := hid (HI.out.box.later HBS.out)
     refine hK.out _ _ ?_ (fun hH4 => ?_)
     next =>
      exact ⟨cell_later hb hH3.1, cell_later hb hH3.2.1, cell_later hb hH3.2.2.1, cell_later hb hH3.2.2.2.1, (hH3.2.2.2.2).trans (onl_below13 hb)⟩
     clear hK K
     try simp only [apt12]
     clear hb hm2 ho2
     refine tkJ 24 oPI1349 ?_
     refine tkJ 25 oPI1350 ?_
     refine rdJ 26 oPI1351 fun K hK => ?_
     go_simp
     go_at_call 183
     refine (change_ok13 b w.heap.size g A2 c2 _ BX.out FO.out).mono ?_
     rintro e u5 ⟨rfl, k1, k2, k3⟩
     have K1 := hid k1
     have K2 := hid k2
     refine hK.out _ _ ?_ (fun hH5 => ?_)
     next =>
      exact ⟨k1.cell 3, k1.cell 4, k3.cell (hH4.2.2.1) (fun e => by injection e with e; exact HPB.out e), k3.cell (hH4.2.2.2.1) (fun e => by injection e with e; exact HPB.out e), (hH4.2.2.2.2).trans k3⟩
     clear hK K
     try simp only [apt12]
     clear k1 k2 k3
     refine wpAnyH_done (by kernel_rfl) ?_ _
     have y3 := hH5.1
     have y4 := hH5.2.1
     have y5 := hH5.2.2.2.1
     have KN := hid (hH5.2.2.2.2)
     go_wp2_with fail
     go_ret
     exact pr_ok13 KN.out (by simp) K1.out K2.out
  have G130 : Hid (go13 en = 130) := G30.out.resolve_left he
  go_enter Tryz.func158, Tryz.ntmps158
  go_upto_region 1 with fail
  refine wp_region_held_drew (S := (fun w' => w'.cell? ⟨b, 3, none⟩ = some (.int .i64 s) ∧ w'.cell? ⟨b, 4, none⟩ = some (.slice (some ⟨p, o, none⟩) args.length da) ∧ w'.cell? ⟨p, o, none⟩ = some (.int .i64 a0) ∧ w'.cell? ⟨p, o + 1, none⟩ = some (.int .i64 a1) ∧ Onl13 b w w')) (by kernel_rfl) ?_ (fun hH0 => ?_)
  next =>
   exact ⟨dcJ x3, dcJ x4, dcJ q0, dcJ q1, onl_below13 (Below.refl _ _).drew⟩
  refine tkJ 0 oPI1326 ?_
  refine tkJ 1 oPI1327 ?_
  refine tkJ 2 oPI1328 ?_
  refine tkJ 3 oPI1329 ?_
  refine tkJ 5 oPI1330 ?_
  refine tkJ 6 oPI1331 ?_
  refine tkJ 7 oPI1332 ?_
  refine tkJ 8 oPI1333 ?_
  refine tkJ 9 oPI1334 ?_
  refine tkJ 10 oPI1335 ?_
  refine tkJ 11 oPI1336 ?_
  refine tkJ 12 oPI1337 ?_
  refine tkJ 13 oPI1338 ?_
  refine tkJ 14 oPI1339 ?_
  refine tkJ 16 oPI1340 ?_
  refine tkJ 17 oPI1341 ?_
  refine tkJ 18 oPI1342 ?_
  refine tkJ 19 oPI1343 ?_
  refine tkJ 20 oPI1344 ?_
  refine tkJ 21 oPI1345 ?_
  refine wpAnyH_ready (rs := [4, 15]) (by kernel_rfl) (by simp) ?_
  refine AllReadyH.cons (i := 4) (o := ⟨some 7, .load 24 (.tmp 6), 24, "prim.go:179", #[⟨3, .data⟩], none⟩) rfl (fun K hK => ?_) (AllReadyH.cons (i := 15) (o := ⟨some 18, .call { callee := .value (.func 182), args := #[.tmp 17], argTypes := #[3] }, 3, "prim.go:179", #[⟨14, .data⟩], none⟩) rfl (fun K hK => ?_) AllReadyH.nil)
  next =>
   have z0 := dcJ x0
   have z1 := dcJ x1
   have z2 := dcJ x2
   go_simp
   refine hK.out _ _ ?_ (fun hH1 => ?_)
   next =>
    exact hH0
   clear hK K
   try simp only [apt12]
   clear z0 z1 z2
   refine rdJ 15 oPI1346 fun K hK => ?_
   go_simp
   go_at_call 182
   refine (place_ok13 ha _).mono ?_
   rintro e u2 ⟨rfl, rfl⟩
   refine hK.out _ _ ?_ (fun hH2 => ?_)
   next =>
    exact hH1
   clear hK K
   try simp only [apt12]
   refine rdJ 22 oPI1347 fun K hK => ?_
   go_simp
   go_at_call 178
   refine (num_ok13 hq _).mono ?_
   rintro e u3 ⟨rfl, rfl⟩
   refine hK.out _ _ ?_ (fun hH3 => ?_)
   next =>
    exact hH2
   clear hK K
   try simp only [apt12]
   refine rdJ 23 oPI1348 fun K hK => ?_
   go_simp
   go_at_call 200
   refine (setbyte_any h s (nV a0 - 1) (nV a1) A c _ (HI.out.own.obs.below (Below.refl w.heap.size w).drew) HI.out.fit).mono ?_
   rintro e u4 ⟨A2, c2, l2, rfl, hm2, ho2, hb⟩
   rw [← HG.out] at hm2
   rw [← HG.out, ← EN.out]
   have HBS : Hid (Below w.heap.size w u4) := hid (then_w (Below.refl w.heap.size w).drew hb)
   have FO : Hid (Fr13 u4 w.heap.size A2 c2 g.objs) := hid ⟨l2, ho2, hm2⟩
   have BX : Hid (CL13 u4 b h A c s args.length (some ⟨p, o, none⟩) da) := hid (HI.out.box.later HBS.out)
   refine hK.out _ _ ?_ (fun hH4 => ?_)
   next =>
    exact ⟨cell_later hb hH3.1, cell_later hb hH3.2.1, cell_later hb hH3.2.2.1, cell_later hb hH3.2.2.2.1, (hH3.2.2.2.2).trans (onl_below13 hb)⟩
   clear hK K
   try simp only [apt12]
   clear hb hm2 ho2
   refine tkJ 24 oPI1349 ?_
   refine tkJ 25 oPI1350 ?_
   refine rdJ 26 oPI1351 fun K hK => ?_
   go_simp
   go_at_call 183
   refine (change_no13 b g A2 c2 he _).mono ?_
   rintro e u9 ⟨rfl, hb⟩
   rw [G130.out]
   exact ⟨rfl, pr_stop13 (then_w HBS.out hb) (by simp [fa13]) (by decide)⟩
  next =>
   go_simp
   go_at_call 182
   refine (place_ok13 ha _).mono ?_
   rintro e u1 ⟨rfl, rfl⟩
   refine hK.out _ _ ?_ (fun hH1 => ?_)
   next =>
    exact hH0
   clear hK K
   try simp only [apt12]
   refine wpAnyH_ready (rs := [4, 22]) (by kernel_rfl) (by simp) ?_
   refine AllReadyH.cons (i := 4) (o := ⟨some 7, .load 24 (.tmp 6), 24, "prim.go:179", #[⟨3, .data⟩], none⟩) rfl (fun K hK => ?_) (AllReadyH.cons (i := 22) (o := ⟨some 25, .call { callee := .value (.func 178), args := #[.tmp 24], argTypes := #[3] }, 3, "prim.go:179", #[⟨21, .data⟩, ⟨15, .chain⟩], none⟩) rfl (fun K hK => ?_) AllReadyH.nil)
   next =>
    have z0 := dcJ x0
    have z1 := dcJ x1
    have z2 := dcJ x2
    go_simp
    refine hK.out _ _ ?_ (fun hH2 => ?_)
    next =>
     exact hH1
    clear hK K
    try simp only [apt12]
    clear z0 z1 z2
    refine rdJ 22 oPI1347 fun K hK => ?_
    go_simp
    go_at_call 178
    refine (num_ok13 hq _).mono ?_
    rintro e u3 ⟨rfl, rfl⟩
    refine hK.out _ _ ?_ (fun hH3 => ?_)
    next =>
     exact hH2
    clear hK K
    try simp only [apt12]
    refine rdJ 23 oPI1348 fun K hK => ?_
    go_simp
    go_at_call 200
    refine (setbyte_any h s (nV a0 - 1) (nV a1) A c _ (HI.out.own.obs.below (Below.refl w.heap.size w).drew) HI.out.fit).mono ?_
    rintro e u4 ⟨A2, c2, l2, rfl, hm2, ho2, hb⟩
    rw [← HG.out] at hm2
    rw [← HG.out, ← EN.out]
    have HBS : Hid (Below w.heap.size w u4) := hid (then_w (Below.refl w.heap.size w).drew hb)
    have FO : Hid (Fr13 u4 w.heap.size A2 c2 g.objs) := hid ⟨l2, ho2, hm2⟩
    have BX : Hid (CL13 u4 b h A c s args.length (some ⟨p, o, none⟩) da) := hid (HI.out.box.later HBS.out)
    refine hK.out _ _ ?_ (fun hH4 => ?_)
    next =>
     exact ⟨cell_later hb hH3.1, cell_later hb hH3.2.1, cell_later hb hH3.2.2.1, cell_later hb hH3.2.2.2.1, (hH3.2.2.2.2).trans (onl_below13 hb)⟩
    clear hK K
    try simp only [apt12]
    clear hb hm2 ho2
    refine tkJ 24 oPI1349 ?_
    refine tkJ 25 oPI1350 ?_
    refine rdJ 26 oPI1351 fun K hK => ?_
    go_simp
    go_at_call 183
    refine (change_no13 b g A2 c2 he _).mono ?_
    rintro e u9 ⟨rfl, hb⟩
    rw [G130.out]
    exact ⟨rfl, pr_stop13 (then_w HBS.out hb) (by simp [fa13]) (by decide)⟩
   next =>
    go_simp
    go_at_call 178
    refine (num_ok13 hq _).mono ?_
    rintro e u2 ⟨rfl, rfl⟩
    refine hK.out _ _ ?_ (fun hH2 => ?_)
    next =>
     exact hH1
    clear hK K
    try simp only [apt12]
    refine rdJ 4 oPI1352 fun K hK => ?_
    have z0 := dcJ x0
    have z1 := dcJ x1
    have z2 := dcJ x2
    go_simp
    refine hK.out _ _ ?_ (fun hH3 => ?_)
    next =>
     exact hH2
    clear hK K
    try simp only [apt12]
    clear z0 z1 z2
    refine rdJ 23 oPI1348 fun K hK => ?_
    go_simp
    go_at_call 200
    refine (setbyte_any h s (nV a0 - 1) (nV a1) A c _ (HI.out.own.obs.below (Below.refl w.heap.size w).drew) HI.out.fit).mono ?_
    rintro e u4 ⟨A2, c2, l2, rfl, hm2, ho2, hb⟩
    rw [← HG.out] at hm2
    rw [← HG.out, ← EN.out]
    have HBS : Hid (Below w.heap.size w u4) := hid (then_w (Below.refl w.heap.size w).drew hb)
    have FO : Hid (Fr13 u4 w.heap.size A2 c2 g.objs) := hid ⟨l2, ho2, hm2⟩
    have BX : Hid (CL13 u4 b h A c s args.length (some ⟨p, o, none⟩) da) := hid (HI.out.box.later HBS.out)
    refine hK.out _ _ ?_ (fun hH4 => ?_)
    next =>
     exact ⟨cell_later hb hH3.1, cell_later hb hH3.2.1, cell_later hb hH3.2.2.1, cell_later hb hH3.2.2.2.1, (hH3.2.2.2.2).trans (onl_below13 hb)⟩
    clear hK K
    try simp only [apt12]
    clear hb hm2 ho2
    refine tkJ 24 oPI1349 ?_
    refine tkJ 25 oPI1350 ?_
    refine rdJ 26 oPI1351 fun K hK => ?_
    go_simp
    go_at_call 183
    refine (change_no13 b g A2 c2 he _).mono ?_
    rintro e u9 ⟨rfl, hb⟩
    rw [G130.out]
    exact ⟨rfl, pr_stop13 (then_w HBS.out hb) (by simp [fa13]) (by decide)⟩
theorem has_at13 {n : Nat} {v : Int} (h : hasB n v = true) (e : atB v = true) : refB n v = true := by
  have hn : nB v = false := by
    cases hn : nB v
    next =>
     rfl
    next =>
     have h1 := nB_iff.1 hn
     have h2 := atB_iff.1 e
     omega
  unfold hasB at h
  rw [hn, Bool.false_or] at h
  exact h
set_option maxHeartbeats 1000000 in
theorem become_any13 (b base : Nat) (h : Hp) (A : Option Addr) (c : Nat) (s : Int) (args : List Int) (SA : Option Addr) (da : Nat) (w : World) (I : In13 w b base h A c s args SA da) (hn : 0 < args.length) :
    Calls Tryz.prog 150 #[.pointer (some ⟨b, 0, none⟩)] w (Po13 w b h A c s args.length SA da (if atB s = false ∨ atV s < 12 ∨ atB (args.getD 0 0) = false ∨ atV (args.getD 0 0) < 12 then fa13 h else (beR h s (args.getD 0 0), s, 0))) := by
  obtain ⟨a0, ha0⟩ : ∃ a, a = args.getD 0 0 := ⟨_, rfl⟩
  rw [← ha0]
  have HI := hid I
  have HLA := hid (fun k => has_arg13 I.hall (k := k))
  obtain ⟨p, o, hSA, q0, hpb⟩ := I.arg (k := 0) (by omega)
  subst hSA
  rw [← ha0] at q0
  simp only [Nat.add_zero] at q0
  have hn0 : 0 < args.length := by omega
  have hn0I : (0 : Int) < (args.length : Int) := by omega
  have HPB := hid hpb
  obtain ⟨x0, x1, x2, x3, x4⟩ := I.box.c5
  have HA0 := hid ha0
  clear I hpb ha0
  cases hs : atB s
  next =>
   go_enter Tryz.func150, Tryz.ntmps150
   go_wp2_with (go_at_call 190; refine (at_no13 hs _).mono ?_; rintro e w9 ⟨rfl, rfl⟩)
   exact ⟨rfl, pr_stop13 (Below.refl _ _) (by first | rfl | simp [fa13]) (by decide)⟩
  by_cases hs2 : atV s < 12
  next =>
   go_enter Tryz.func150, Tryz.ntmps150
   go_wp2_with (first | (go_at_call 190; refine (at_ok13 hs _).mono ?_; rintro e w9 ⟨rfl, rfl⟩) | (go_at_call 74; refine (fail_any13 _).mono ?_; rintro e w9 ⟨rfl, rfl⟩))
   exact ⟨rfl, pr_stop13 (Below.refl _ _) (by first | rfl | simp [fa13, hs2]) (by decide)⟩
  cases ha : atB a0
  next =>
   go_enter Tryz.func150, Tryz.ntmps150
   go_upto_region 3 with (first | (go_at_call 190; (first | with_reducible refine (at_ok13 hs _).mono ?_ | with_reducible refine (at_no13 ha _).mono ?_); rintro e w9 ⟨rfl, rfl⟩) | (go_at_call 74; refine (fail_any13 _).mono ?_; rintro e w9 ⟨rfl, rfl⟩))
   exact ⟨rfl, pr_stop13 (Below.refl _ _) (by first | rfl | simp [fa13]) (by decide)⟩
  by_cases ha2 : atV a0 < 12
  next =>
   go_enter Tryz.func150, Tryz.ntmps150
   go_wp2_with (first | (go_at_call 190; (first | with_reducible refine (at_ok13 hs _).mono ?_ | with_reducible refine (at_ok13 ha _).mono ?_); rintro e w9 ⟨rfl, rfl⟩) | (go_at_call 74; refine (fail_any13 _).mono ?_; rintro e w9 ⟨rfl, rfl⟩))
   exact ⟨rfl, pr_stop13 (Below.refl _ _) (by first | rfl | simp [fa13, ha2]) (by decide)⟩
  have he0 : beE h s a0 = 0 := by
    unfold beE
    rw [if_neg (by rw [HI.out.may]; decide), if_neg]
    rw [has_at13 HI.out.has hs, has_at13 (by rw [HA0.out]; exact HLA.out 0 hn0) ha]
    simp
  obtain ⟨g, hg⟩ : ∃ e, e = beR h s a0 := ⟨_, rfl⟩
  rw [← hg]
  have EN : Hid ((0 : Int) = beE h s a0) := hid he0.symm
  have HG := hid hg
  clear hg he0
  have hd1 : decide (atV s < 12) = false := decide_eq_false hs2
  have hd2 : decide (atV a0 < 12) = false := decide_eq_false ha2
  go_enter Tryz.func150, Tryz.ntmps150
  go_upto_region 3 with (go_at_call 190; (first | with_reducible refine (at_ok13 hs _).mono ?_ | with_reducible refine (at_ok13 ha _).mono ?_); rintro e w9 ⟨rfl, rfl⟩)
  refine wp_region_held_drew (S := (fun w' => w'.cell? ⟨b, 3, none⟩ = some (.int .i64 s) ∧ w'.cell? ⟨b, 4, none⟩ = some (.slice (some ⟨p, o, none⟩) args.length da) ∧ w'.cell? ⟨p, o, none⟩ = some (.int .i64 a0) ∧ Onl13 b w w')) (by kernel_rfl) ?_ (fun hH0 => ?_)
  next =>
   exact ⟨dcJ x3, dcJ x4, dcJ q0, onl_below13 (Below.refl _ _).drew⟩
  refine tkJ 0 ⟨some 20, .move (.tmp 0), 86, "prim.go:211", #[], none⟩ ?_
  refine tkJ 1 ⟨some 21, .move (.tmp 0), 86, "prim.go:211", #[], none⟩ ?_
  refine tkJ 2 ⟨some 22, .nilCheck (.tmp 21), 0, "prim.go:211", #[⟨1, .data⟩], none⟩ ?_
  refine tkJ 3 ⟨some 23, .fieldAddr 62 (.tmp 22) 0, 0, "prim.go:211", #[⟨2, .data⟩], none⟩ ?_
  refine tkJ 5 ⟨some 25, .move (.tmp 0), 86, "prim.go:211", #[], none⟩ ?_
  refine tkJ 6 ⟨some 26, .nilCheck (.tmp 25), 0, "prim.go:211", #[⟨5, .data⟩], none⟩ ?_
  refine tkJ 7 ⟨some 27, .fieldAddr 62 (.tmp 26) 1, 0, "prim.go:211", #[⟨6, .data⟩], none⟩ ?_
  refine tkJ 8 ⟨some 28, .load 3 (.tmp 27), 3, "prim.go:211", #[⟨7, .data⟩], none⟩ ?_
  refine tkJ 9 ⟨some 29, .move (.tmp 0), 86, "prim.go:211", #[], none⟩ ?_
  refine tkJ 10 ⟨some 30, .nilCheck (.tmp 29), 0, "prim.go:211", #[⟨9, .data⟩], none⟩ ?_
  refine tkJ 11 ⟨some 31, .fieldAddr 62 (.tmp 30) 2, 0, "prim.go:211", #[⟨10, .data⟩], none⟩ ?_
  refine tkJ 12 ⟨some 32, .load 34 (.tmp 31), 34, "prim.go:211", #[⟨11, .data⟩], none⟩ ?_
  refine tkJ 13 ⟨some 33, .indexAddr 34 (.tmp 32) (.const (Go.Value.int .i64 0)), 0, "prim.go:211", #[⟨12, .data⟩], none⟩ ?_
  refine tkJ 14 ⟨some 34, .load 3 (.tmp 33), 3, "prim.go:211", #[⟨13, .data⟩], none⟩ ?_
  refine rdJ 4 ⟨some 24, .load 24 (.tmp 23), 24, "prim.go:211", #[⟨3, .data⟩], none⟩ fun K hK => ?_
  have z0 := dcJ x0
  have z1 := dcJ x1
  have z2 := dcJ x2
  go_simp
  refine hK.out _ _ ?_ (fun hH1 => ?_)
  next =>
   exact hH0
  clear hK K
  try simp only [apt12]
  clear z0 z1 z2
  refine rdJ 15 ⟨some 35, .call { callee := .value (.func 191), args := #[.tmp 24, .tmp 28, .tmp 34], argTypes := #[24, 3, 3] }, 93, "prim.go:211", #[⟨4, .data⟩, ⟨8, .data⟩, ⟨14, .data⟩], none⟩ fun K hK => ?_
  go_simp
  go_at_call 191
  refine (become_any h s a0 A c _ (HI.out.own.obs.below (Below.refl w.heap.size w).drew) HI.out.fit).mono ?_
  rintro e u2 ⟨A2, c2, l2, rfl, hm2, ho2, hb⟩
  rw [← HG.out] at hm2
  rw [← HG.out, ← EN.out]
  have HBS : Hid (Below w.heap.size w u2) := hid (then_w (Below.refl w.heap.size w).drew hb)
  have FO : Hid (Fr13 u2 w.heap.size A2 c2 g.objs) := hid ⟨l2, ho2, hm2⟩
  have BX : Hid (CL13 u2 b h A c s args.length (some ⟨p, o, none⟩) da) := hid (HI.out.box.later HBS.out)
  refine hK.out _ _ ?_ (fun hH2 => ?_)
  next =>
   exact ⟨cell_later hb hH1.1, cell_later hb hH1.2.1, cell_later hb hH1.2.2.1, (hH1.2.2.2).trans (onl_below13 hb)⟩
  clear hK K
  try simp only [apt12]
  clear hb hm2 ho2
  refine tkJ 16 ⟨some 36, .extract (.tmp 35) 0, 24, "prim.go:211", #[⟨15, .data⟩], none⟩ ?_
  refine tkJ 17 ⟨some 37, .extract (.tmp 35) 1, 25, "prim.go:211", #[⟨15, .data⟩], none⟩ ?_
  refine rdJ 18 ⟨some 38, .call { callee := .value (.func 183), args := #[.tmp 20, .tmp 36, .tmp 37], argTypes := #[86, 24, 25] }, 0, "prim.go:211", #[⟨0, .data⟩, ⟨16, .data⟩, ⟨17, .data⟩, ⟨15, .chain⟩], none⟩ fun K hK => ?_
  go_simp
  go_at_call 183
  refine (change_ok13 b w.heap.size g A2 c2 _ BX.out FO.out).mono ?_
  rintro e u3 ⟨rfl, k1, k2, k3⟩
  have K1 := hid k1
  have K2 := hid k2
  refine hK.out _ _ ?_ (fun hH3 => ?_)
  next =>
   exact ⟨k1.cell 3, k1.cell 4, k3.cell (hH2.2.2.1) (fun e => by injection e with e; exact HPB.out e), (hH2.2.2.2).trans k3⟩
  clear hK K
  try simp only [apt12]
  clear k1 k2 k3
  refine wpAnyH_done (by kernel_rfl) ?_ _
  have y3 := hH3.1
  have y4 := hH3.2.1
  have KN := hid (hH3.2.2.2)
  go_wp2_with fail
  all_goals go_ret
  all_goals exact pr_ok13 KN.out (by simp) K1.out K2.out
end Go.Proofs.YtnilempeldlieaaGreat
