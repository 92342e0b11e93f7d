/- Primitives 8, 13, 25: a slot, a class, a byte. -/
import Derived.Test.YtnilempeldlieaaGreatJ04
import Derived.Test.YtnilempeldlieaaGreatJPE13
import Derived.Test.YtnilempeldlieaaGreatJ07
namespace Go.Proofs.YtnilempeldlieaaGreat
abbrev oPH130 : Oper := ⟨some 3, .move (.tmp 0), 86, "prim.go:169", #[], none⟩
abbrev oPH131 : Oper := ⟨some 4, .nilCheck (.tmp 3), 0, "prim.go:169", #[⟨0, .data⟩], none⟩
abbrev oPH132 : Oper := ⟨some 5, .fieldAddr 62 (.tmp 4) 0, 0, "prim.go:169", #[⟨1, .data⟩], none⟩
abbrev oPH133 : Oper := ⟨some 6, .load 24 (.tmp 5), 24, "prim.go:169", #[⟨2, .data⟩], none⟩
abbrev oPH134 : Oper := ⟨some 7, .move (.tmp 0), 86, "prim.go:169", #[], none⟩
abbrev oPH135 : Oper := ⟨some 8, .nilCheck (.tmp 7), 0, "prim.go:169", #[⟨4, .data⟩], none⟩
abbrev oPH136 : Oper := ⟨some 9, .fieldAddr 62 (.tmp 8) 1, 0, "prim.go:169", #[⟨5, .data⟩], none⟩
abbrev oPH137 : Oper := ⟨some 10, .load 3 (.tmp 9), 3, "prim.go:169", #[⟨6, .data⟩], none⟩
abbrev oPH138 : Oper := ⟨some 11, .move (.tmp 0), 86, "prim.go:169", #[], none⟩
abbrev oPH139 : Oper := ⟨some 12, .nilCheck (.tmp 11), 0, "prim.go:169", #[⟨8, .data⟩], none⟩
abbrev oPH1310 : Oper := ⟨some 13, .fieldAddr 62 (.tmp 12) 2, 0, "prim.go:169", #[⟨9, .data⟩], none⟩
abbrev oPH1311 : Oper := ⟨some 14, .load 34 (.tmp 13), 34, "prim.go:169", #[⟨10, .data⟩], none⟩
abbrev oPH1312 : Oper := ⟨some 15, .indexAddr 34 (.tmp 14) (.const (Go.Value.int .i64 0)), 0, "prim.go:169", #[⟨11, .data⟩], none⟩
abbrev oPH1313 : Oper := ⟨some 16, .load 3 (.tmp 15), 3, "prim.go:169", #[⟨12, .data⟩], none⟩
abbrev oPH1314 : Oper := ⟨some 17, .call { callee := .value (.func 182), args := #[.tmp 16], argTypes := #[3] }, 3, "prim.go:169", #[⟨13, .data⟩], none⟩
abbrev oPH1315 : Oper := ⟨some 18, .call { callee := .value (.func 181), args := #[.tmp 6, .tmp 10, .tmp 17], argTypes := #[24, 3, 3] }, 63, "prim.go:169", #[⟨3, .data⟩, ⟨7, .data⟩, ⟨14, .data⟩, ⟨14, .chain⟩], none⟩
abbrev oPH1316 : Oper := ⟨some 19, .extract (.tmp 18) 0, 3, "prim.go:169", #[⟨15, .data⟩], none⟩
abbrev oPH1317 : Oper := ⟨some 20, .extract (.tmp 18) 1, 25, "prim.go:169", #[⟨15, .data⟩], none⟩
abbrev oPH1318 : Oper := ⟨some 21, .call { callee := .value (.func 180), args := #[.tmp 19, .tmp 20], argTypes := #[3, 25] }, 3, "prim.go:169", #[⟨16, .data⟩, ⟨17, .data⟩, ⟨15, .chain⟩], none⟩
abbrev oPH1319 : Oper := ⟨some 3, .move (.tmp 0), 86, "prim.go:176", #[], none⟩
abbrev oPH1320 : Oper := ⟨some 4, .nilCheck (.tmp 3), 0, "prim.go:176", #[⟨0, .data⟩], none⟩
abbrev oPH1321 : Oper := ⟨some 5, .fieldAddr 62 (.tmp 4) 0, 0, "prim.go:176", #[⟨1, .data⟩], none⟩
abbrev oPH1322 : Oper := ⟨some 6, .load 24 (.tmp 5), 24, "prim.go:176", #[⟨2, .data⟩], none⟩
abbrev oPH1323 : Oper := ⟨some 7, .move (.tmp 0), 86, "prim.go:176", #[], none⟩
abbrev oPH1324 : Oper := ⟨some 8, .nilCheck (.tmp 7), 0, "prim.go:176", #[⟨4, .data⟩], none⟩
abbrev oPH1325 : Oper := ⟨some 9, .fieldAddr 62 (.tmp 8) 1, 0, "prim.go:176", #[⟨5, .data⟩], none⟩
abbrev oPH1326 : Oper := ⟨some 10, .load 3 (.tmp 9), 3, "prim.go:176", #[⟨6, .data⟩], none⟩
abbrev oPH1327 : Oper := ⟨some 11, .move (.tmp 0), 86, "prim.go:176", #[], none⟩
abbrev oPH1328 : Oper := ⟨some 12, .nilCheck (.tmp 11), 0, "prim.go:176", #[⟨8, .data⟩], none⟩
abbrev oPH1329 : Oper := ⟨some 13, .fieldAddr 62 (.tmp 12) 2, 0, "prim.go:176", #[⟨9, .data⟩], none⟩
abbrev oPH1330 : Oper := ⟨some 14, .load 34 (.tmp 13), 34, "prim.go:176", #[⟨10, .data⟩], none⟩
abbrev oPH1331 : Oper := ⟨some 15, .indexAddr 34 (.tmp 14) (.const (Go.Value.int .i64 0)), 0, "prim.go:176", #[⟨11, .data⟩], none⟩
abbrev oPH1332 : Oper := ⟨some 16, .load 3 (.tmp 15), 3, "prim.go:176", #[⟨12, .data⟩], none⟩
abbrev oPH1333 : Oper := ⟨some 17, .call { callee := .value (.func 182), args := #[.tmp 16], argTypes := #[3] }, 3, "prim.go:176", #[⟨13, .data⟩], none⟩
abbrev oPH1334 : Oper := ⟨some 18, .call { callee := .value (.func 199), args := #[.tmp 6, .tmp 10, .tmp 17], argTypes := #[24, 3, 3] }, 63, "prim.go:176", #[⟨3, .data⟩, ⟨7, .data⟩, ⟨14, .data⟩, ⟨14, .chain⟩], none⟩
abbrev oPH1335 : Oper := ⟨some 19, .extract (.tmp 18) 0, 3, "prim.go:176", #[⟨15, .data⟩], none⟩
abbrev oPH1336 : Oper := ⟨some 20, .extract (.tmp 18) 1, 25, "prim.go:176", #[⟨15, .data⟩], none⟩
abbrev oPH1337 : Oper := ⟨some 21, .call { callee := .value (.func 180), args := #[.tmp 19, .tmp 20], argTypes := #[3, 25] }, 3, "prim.go:176", #[⟨16, .data⟩, ⟨17, .data⟩, ⟨15, .chain⟩], none⟩
open Go.RowKit Flt
set_option maxRecDepth 100000
theorem pl_30_13 (h : Hp) (v kind k : Int) : plE h v kind k = 0 ∨ go13 (plE h v kind k) = 130 := by
  unfold plE go13
  repeat' split
  all_goals first | exact .inl rfl | (right; decide) | (right; rfl) | omega
theorem byV_13 (h : Hp) (v k : Int) : 0 ≤ byV h v k ∧ byV h v k ≤ 255 := by
  unfold byV
  split
  · have := ((obAt h v).text.data.getD k.toNat 0).toNat_lt; omega
  · omega
theorem has_arg13 {n : Nat} {args : List Int} (h : args.all (hasB n) = true) {k : Nat} (hk : k < args.length) : hasB n (args.getD k 0) = true := by
  rw [List.getD_eq_getElem?_getD, List.getElem?_eq_getElem hk]
  exact List.all_eq_true.1 h _ (List.getElem_mem hk)
set_option maxHeartbeats 1000000 in
theorem slot_any13 (b base : Nat) (h : Hp) (A : Option Addr) (c : Nat) (s : Int) (args : List Int) (SA : Option Addr) (da : Nat) (w : World) (I : In13 w b base h A c s args SA da) (hn : 0 < args.length) :
    Calls Tryz.prog 142 #[.pointer (some ⟨b, 0, none⟩)] w (Po13 w b h A c s args.length SA da (if nB (args.getD 0 0) = false then fa13 h else if plE h s 0 (nV (args.getD 0 0) - 1) ≠ 0 then fa13 h else (h, geV h s (nV (args.getD 0 0) - 1), 0))) := by
  obtain ⟨a0, ha0⟩ : ∃ a, a = args.getD 0 0 := ⟨_, rfl⟩
  rw [← ha0]
  have HI := hid I
  have HLA := hid (fun k => has_arg13 I.hall (k := k))
  obtain ⟨p, o, hSA, q0, hpb⟩ := I.arg (k := 0) (by omega)
  subst hSA
  rw [← ha0] at q0
  simp only [Nat.add_zero] at q0
  have hn0 : 0 < args.length := by omega
  have hn0I : (0 : Int) < (args.length : Int) := by omega
  have HPB := hid hpb
  obtain ⟨x0, x1, x2, x3, x4⟩ := I.box.c5
  have HA0 := hid ha0
  clear I hpb ha0
  cases ha : nB a0
  · go_enter Tryz.func142, Tryz.ntmps142
    go_upto_region 1 with fail
    refine wp_region_held_drew (S := (fun w' => w'.cell? ⟨b, 0, none⟩ = some (.slice A h.objs.length c) ∧ w'.cell? ⟨b, 1, none⟩ = some (.int .i64 h.cap) ∧ w'.cell? ⟨b, 2, none⟩ = some (.int .i64 h.last) ∧ w'.cell? ⟨b, 3, none⟩ = some (.int .i64 s) ∧ w'.cell? ⟨b, 4, none⟩ = some (.slice (some ⟨p, o, none⟩) args.length da) ∧ w'.cell? ⟨p, o, none⟩ = some (.int .i64 a0) ∧ Below w.heap.size w w')) (by kernel_rfl) ?_ (fun hH0 => ?_)
    · exact ⟨dcJ x0, dcJ x1, dcJ x2, dcJ x3, dcJ x4, dcJ q0, (Below.refl _ _).drew⟩
    refine tkJ 0 oPH130 ?_
    refine tkJ 1 oPH131 ?_
    refine tkJ 2 oPH132 ?_
    refine tkJ 3 oPH133 ?_
    refine tkJ 4 oPH134 ?_
    refine tkJ 5 oPH135 ?_
    refine tkJ 6 oPH136 ?_
    refine tkJ 7 oPH137 ?_
    refine tkJ 8 oPH138 ?_
    refine tkJ 9 oPH139 ?_
    refine tkJ 10 oPH1310 ?_
    refine tkJ 11 oPH1311 ?_
    refine tkJ 12 oPH1312 ?_
    refine tkJ 13 oPH1313 ?_
    refine rdJ 14 oPH1314 fun K hK => ?_
    go_simp
    go_at_call 182
    have BB1 : Hid (Below w.heap.size w _) := (Below.refl _ _).drew
    refine (place_no13 ha _).mono ?_
    rintro e u9 ⟨rfl, rfl⟩
    exact ⟨rfl, pr_stop13 BB1.out (by first | rfl | simp [fa13]) (by decide)⟩
  obtain ⟨en, hen⟩ : ∃ e, e = plE h s 0 (nV a0 - 1) := ⟨_, rfl⟩
  obtain ⟨vv, hvv⟩ : ∃ e, e = geV h s (nV a0 - 1) := ⟨_, rfl⟩
  have G30 := hid (pl_30_13 h s 0 (nV a0 - 1))
  rw [← hen, ← hvv]
  rw [← hen] at G30
  have EN := hid hen
  have VN := hid hvv
  clear hen hvv
  by_cases he : en = 0
  · subst he
    have EN0 := hid EN.out.symm
    go_enter Tryz.func142, Tryz.ntmps142
    go_upto_region 1 with fail
    refine wp_region_held_drew (S := (fun w' => w'.cell? ⟨b, 0, none⟩ = some (.slice A h.objs.length c) ∧ w'.cell? ⟨b, 1, none⟩ = some (.int .i64 h.cap) ∧ w'.cell? ⟨b, 2, none⟩ = some (.int .i64 h.last) ∧ w'.cell? ⟨b, 3, none⟩ = some (.int .i64 s) ∧ w'.cell? ⟨b, 4, none⟩ = some (.slice (some ⟨p, o, none⟩) args.length da) ∧ w'.cell? ⟨p, o, none⟩ = some (.int .i64 a0) ∧ Below w.heap.size w w')) (by kernel_rfl) ?_ (fun hH0 => ?_)
    · exact ⟨dcJ x0, dcJ x1, dcJ x2, dcJ x3, dcJ x4, dcJ q0, (Below.refl _ _).drew⟩
    refine tkJ 0 oPH130 ?_
    refine tkJ 1 oPH131 ?_
    refine tkJ 2 oPH132 ?_
    refine tkJ 3 oPH133 ?_
    refine tkJ 4 oPH134 ?_
    refine tkJ 5 oPH135 ?_
    refine tkJ 6 oPH136 ?_
    refine tkJ 7 oPH137 ?_
    refine tkJ 8 oPH138 ?_
    refine tkJ 9 oPH139 ?_
    refine tkJ 10 oPH1310 ?_
    refine tkJ 11 oPH1311 ?_
    refine tkJ 12 oPH1312 ?_
    refine tkJ 13 oPH1313 ?_
    refine rdJ 14 oPH1314 fun K hK => ?_
    go_simp
    go_at_call 182
    have BB1 : Hid (Below w.heap.size w _) := (Below.refl _ _).drew
    refine (place_ok13 ha _).mono ?_
    rintro e u1 ⟨rfl, rfl⟩
    refine hK.out _ _ ?_ (fun hH1 => ?_)
    · exact hH0
    clear hK K
    try simp only [apt12]
    refine rdJ 15 oPH1315 fun K hK => ?_
    go_simp
    go_at_call 181
    have BB2 : Hid (Below w.heap.size w _) := hH1.2.2.2.2.2.2
    refine (get_any h s (nV a0 - 1) A c _ (HI.out.own.obs.below BB2.out) HI.out.fit).mono ?_
    rintro e u2 ⟨rfl, hb⟩
    rw [EN0.out, ← VN.out]
    refine hK.out _ _ ?_ (fun hH2 => ?_)
    · exact ⟨cell_later hb hH1.1, cell_later hb hH1.2.1, cell_later hb hH1.2.2.1, cell_later hb hH1.2.2.2.1, cell_later hb hH1.2.2.2.2.1, cell_later hb hH1.2.2.2.2.2.1, then_w hH1.2.2.2.2.2.2 hb⟩
    clear hK K
    try simp only [apt12]
    clear hb
    refine tkJ 16 oPH1316 ?_
    refine tkJ 17 oPH1317 ?_
    refine rdJ 18 oPH1318 fun K hK => ?_
    go_simp
    go_at_call 180
    have BB3 : Hid (Below w.heap.size w _) := hH2.2.2.2.2.2.2
    refine (checked_ok13 _ _).mono ?_
    rintro e u3 ⟨rfl, rfl⟩
    refine hK.out _ _ ?_ (fun hH3 => ?_)
    · exact hH2
    clear hK K
    try simp only [apt12]
    refine tkJ 19 ⟨some 2, .assign (.tmp 21), 3, "prim.go:169", #[⟨18, .data⟩, ⟨18, .chain⟩, ⟨0, .phase⟩, ⟨1, .phase⟩, ⟨2, .phase⟩, ⟨3, .phase⟩, ⟨4, .phase⟩, ⟨5, .phase⟩, ⟨6, .phase⟩, ⟨7, .phase⟩, ⟨8, .phase⟩, ⟨9, .phase⟩, ⟨10, .phase⟩, ⟨11, .phase⟩, ⟨12, .phase⟩, ⟨13, .phase⟩, ⟨14, .phase⟩, ⟨15, .phase⟩, ⟨16, .phase⟩, ⟨17, .phase⟩, ⟨18, .phase⟩], none⟩ ?_
    refine wpAnyH_done (by kernel_rfl) ?_ _
    go_wp2_with fail
    go_ret
    exact pr_keep13 HI.out (hH3.2.2.2.2.2.2) rfl
  have G130 : Hid (go13 en = 130) := G30.out.resolve_left he
  go_enter Tryz.func142, Tryz.ntmps142
  go_upto_region 1 with fail
  refine wp_region_held_drew (S := (fun w' => w'.cell? ⟨b, 0, none⟩ = some (.slice A h.objs.length c) ∧ w'.cell? ⟨b, 1, none⟩ = some (.int .i64 h.cap) ∧ w'.cell? ⟨b, 2, none⟩ = some (.int .i64 h.last) ∧ w'.cell? ⟨b, 3, none⟩ = some (.int .i64 s) ∧ w'.cell? ⟨b, 4, none⟩ = some (.slice (some ⟨p, o, none⟩) args.length da) ∧ w'.cell? ⟨p, o, none⟩ = some (.int .i64 a0) ∧ Below w.heap.size w w')) (by kernel_rfl) ?_ (fun hH0 => ?_)
  · exact ⟨dcJ x0, dcJ x1, dcJ x2, dcJ x3, dcJ x4, dcJ q0, (Below.refl _ _).drew⟩
  refine tkJ 0 oPH130 ?_
  refine tkJ 1 oPH131 ?_
  refine tkJ 2 oPH132 ?_
  refine tkJ 3 oPH133 ?_
  refine tkJ 4 oPH134 ?_
  refine tkJ 5 oPH135 ?_
  refine tkJ 6 oPH136 ?_
  refine tkJ 7 oPH137 ?_
  refine tkJ 8 oPH138 ?_
  refine tkJ 9 oPH139 ?_
  refine tkJ 10 oPH1310 ?_
  refine tkJ 11 oPH1311 ?_
  refine tkJ 12 oPH1312 ?_
  refine tkJ 13 oPH1313 ?_
  refine rdJ 14 oPH1314 fun K hK => ?_
  go_simp
  go_at_call 182
  have BB1 : Hid (Below w.heap.size w _) := (Below.refl _ _).drew
  refine (place_ok13 ha _).mono ?_
  rintro e u1 ⟨rfl, rfl⟩
  refine hK.out _ _ ?_ (fun hH1 => ?_)
  · exact hH0
  clear hK K
  try simp only [apt12]
  refine rdJ 15 oPH1315 fun K hK => ?_
  go_simp
  go_at_call 181
  have BB2 : Hid (Below w.heap.size w _) := hH1.2.2.2.2.2.2
  refine (get_any h s (nV a0 - 1) A c _ (HI.out.own.obs.below BB2.out) HI.out.fit).mono ?_
  rintro e u2 ⟨rfl, hb⟩
  rw [← EN.out, ← VN.out]
  refine hK.out _ _ ?_ (fun hH2 => ?_)
  · exact ⟨cell_later hb hH1.1, cell_later hb hH1.2.1, cell_later hb hH1.2.2.1, cell_later hb hH1.2.2.2.1, cell_later hb hH1.2.2.2.2.1, cell_later hb hH1.2.2.2.2.2.1, then_w hH1.2.2.2.2.2.2 hb⟩
  clear hK K
  try simp only [apt12]
  clear hb
  refine tkJ 16 oPH1316 ?_
  refine tkJ 17 oPH1317 ?_
  refine rdJ 18 oPH1318 fun K hK => ?_
  go_simp
  go_at_call 180
  have BB3 : Hid (Below w.heap.size w _) := hH2.2.2.2.2.2.2
  refine (checked_no13 _ he _).mono ?_
  rintro e u9 ⟨rfl, rfl⟩
  rw [G130.out]
  exact ⟨rfl, pr_stop13 BB3.out (by first | rfl | simp [fa13]) (by decide)⟩
set_option maxHeartbeats 1000000 in
theorem byteat_any13 (b base : Nat) (h : Hp) (A : Option Addr) (c : Nat) (s : Int) (args : List Int) (SA : Option Addr) (da : Nat) (w : World) (I : In13 w b base h A c s args SA da) (hn : 0 < args.length) :
    Calls Tryz.prog 157 #[.pointer (some ⟨b, 0, none⟩)] w (Po13 w b h A c s args.length SA da (if nB (args.getD 0 0) = false then fa13 h else if plE h s 1 (nV (args.getD 0 0) - 1) ≠ 0 then fa13 h else in13 h (byV h s (nV (args.getD 0 0) - 1)))) := by
  obtain ⟨a0, ha0⟩ : ∃ a, a = args.getD 0 0 := ⟨_, rfl⟩
  rw [← ha0]
  have HI := hid I
  have HLA := hid (fun k => has_arg13 I.hall (k := k))
  obtain ⟨p, o, hSA, q0, hpb⟩ := I.arg (k := 0) (by omega)
  subst hSA
  rw [← ha0] at q0
  simp only [Nat.add_zero] at q0
  have hn0 : 0 < args.length := by omega
  have hn0I : (0 : Int) < (args.length : Int) := by omega
  have HPB := hid hpb
  obtain ⟨x0, x1, x2, x3, x4⟩ := I.box.c5
  have HA0 := hid ha0
  clear I hpb ha0
  cases ha : nB a0
  · go_enter Tryz.func157, Tryz.ntmps157
    go_upto_region 1 with fail
    refine wp_region_held_drew (S := (fun w' => w'.cell? ⟨b, 0, none⟩ = some (.slice A h.objs.length c) ∧ w'.cell? ⟨b, 1, none⟩ = some (.int .i64 h.cap) ∧ w'.cell? ⟨b, 2, none⟩ = some (.int .i64 h.last) ∧ w'.cell? ⟨b, 3, none⟩ = some (.int .i64 s) ∧ w'.cell? ⟨b, 4, none⟩ = some (.slice (some ⟨p, o, none⟩) args.length da) ∧ w'.cell? ⟨p, o, none⟩ = some (.int .i64 a0) ∧ Below w.heap.size w w')) (by kernel_rfl) ?_ (fun hH0 => ?_)
    · exact ⟨dcJ x0, dcJ x1, dcJ x2, dcJ x3, dcJ x4, dcJ q0, (Below.refl _ _).drew⟩
    refine tkJ 0 oPH1319 ?_
    refine tkJ 1 oPH1320 ?_
    refine tkJ 2 oPH1321 ?_
    refine tkJ 3 oPH1322 ?_
    refine tkJ 4 oPH1323 ?_
    refine tkJ 5 oPH1324 ?_
    refine tkJ 6 oPH1325 ?_
    refine tkJ 7 oPH1326 ?_
    refine tkJ 8 oPH1327 ?_
    refine tkJ 9 oPH1328 ?_
    refine tkJ 10 oPH1329 ?_
    refine tkJ 11 oPH1330 ?_
    refine tkJ 12 oPH1331 ?_
    refine tkJ 13 oPH1332 ?_
    refine rdJ 14 oPH1333 fun K hK => ?_
    go_simp
    go_at_call 182
    have BB1 : Hid (Below w.heap.size w _) := (Below.refl _ _).drew
    refine (place_no13 ha _).mono ?_
    rintro e u9 ⟨rfl, rfl⟩
    exact ⟨rfl, pr_stop13 BB1.out (by first | rfl | simp [fa13]) (by decide)⟩
  obtain ⟨en, hen⟩ : ∃ e, e = plE h s 1 (nV a0 - 1) := ⟨_, rfl⟩
  obtain ⟨vv, hvv⟩ : ∃ e, e = byV h s (nV a0 - 1) := ⟨_, rfl⟩
  have G30 := hid (pl_30_13 h s 1 (nV a0 - 1))
  have SM : Hid (smB vv = true) := by show _ = _; have := byV_13 h s (nV a0 - 1); rw [hvv]; exact smB_iff.2 ⟨by omega, by omega⟩
  rw [← hen, ← hvv]
  rw [← hen] at G30
  have EN := hid hen
  have VN := hid hvv
  clear hen hvv
  by_cases he : en = 0
  · subst he
    have EN0 := hid EN.out.symm
    go_enter Tryz.func157, Tryz.ntmps157
    go_upto_region 1 with fail
    refine wp_region_held_drew (S := (fun w' => w'.cell? ⟨b, 0, none⟩ = some (.slice A h.objs.length c) ∧ w'.cell? ⟨b, 1, none⟩ = some (.int .i64 h.cap) ∧ w'.cell? ⟨b, 2, none⟩ = some (.int .i64 h.last) ∧ w'.cell? ⟨b, 3, none⟩ = some (.int .i64 s) ∧ w'.cell? ⟨b, 4, none⟩ = some (.slice (some ⟨p, o, none⟩) args.length da) ∧ w'.cell? ⟨p, o, none⟩ = some (.int .i64 a0) ∧ Below w.heap.size w w')) (by kernel_rfl) ?_ (fun hH0 => ?_)
    · exact ⟨dcJ x0, dcJ x1, dcJ x2, dcJ x3, dcJ x4, dcJ q0, (Below.refl _ _).drew⟩
    refine tkJ 0 oPH1319 ?_
    refine tkJ 1 oPH1320 ?_
    refine tkJ 2 oPH1321 ?_
    refine tkJ 3 oPH1322 ?_
    refine tkJ 4 oPH1323 ?_
    refine tkJ 5 oPH1324 ?_
    refine tkJ 6 oPH1325 ?_
    refine tkJ 7 oPH1326 ?_
    refine tkJ 8 oPH1327 ?_
    refine tkJ 9 oPH1328 ?_
    refine tkJ 10 oPH1329 ?_
    refine tkJ 11 oPH1330 ?_
    refine tkJ 12 oPH1331 ?_
    refine tkJ 13 oPH1332 ?_
    refine rdJ 14 oPH1333 fun K hK => ?_
    go_simp
    go_at_call 182
    have BB1 : Hid (Below w.heap.size w _) := (Below.refl _ _).drew
    refine (place_ok13 ha _).mono ?_
    rintro e u1 ⟨rfl, rfl⟩
    refine hK.out _ _ ?_ (fun hH1 => ?_)
    · exact hH0
    clear hK K
    try simp only [apt12]
    refine rdJ 15 oPH1334 fun K hK => ?_
    go_simp
    go_at_call 199
    have BB2 : Hid (Below w.heap.size w _) := hH1.2.2.2.2.2.2
    refine (byte_any h s (nV a0 - 1) A c _ (HI.out.own.obs.below BB2.out) HI.out.fit).mono ?_
    rintro e u2 ⟨rfl, hb⟩
    rw [EN0.out, ← VN.out]
    refine hK.out _ _ ?_ (fun hH2 => ?_)
    · exact ⟨cell_later hb hH1.1, cell_later hb hH1.2.1, cell_later hb hH1.2.2.1, cell_later hb hH1.2.2.2.1, cell_later hb hH1.2.2.2.2.1, cell_later hb hH1.2.2.2.2.2.1, then_w hH1.2.2.2.2.2.2 hb⟩
    clear hK K
    try simp only [apt12]
    clear hb
    refine tkJ 16 oPH1335 ?_
    refine tkJ 17 oPH1336 ?_
    refine rdJ 18 oPH1337 fun K hK => ?_
    go_simp
    go_at_call 180
    have BB3 : Hid (Below w.heap.size w _) := hH2.2.2.2.2.2.2
    refine (checked_ok13 _ _).mono ?_
    rintro e u3 ⟨rfl, rfl⟩
    refine hK.out _ _ ?_ (fun hH3 => ?_)
    · exact hH2
    clear hK K
    try simp only [apt12]
    refine rdJ 19 ⟨some 22, .call { callee := .value (.func 177), args := #[.tmp 21], argTypes := #[3] }, 3, "prim.go:176", #[⟨18, .data⟩, ⟨18, .chain⟩], none⟩ fun K hK => ?_
    go_simp
    go_at_call 177
    have BB4 : Hid (Below w.heap.size w _) := hH3.2.2.2.2.2.2
    refine (small_ok13 SM.out _).mono ?_
    rintro e u4 ⟨rfl, rfl⟩
    refine hK.out _ _ ?_ (fun hH4 => ?_)
    · exact hH3
    clear hK K
    try simp only [apt12]
    refine tkJ 20 ⟨some 2, .assign (.tmp 22), 3, "prim.go:176", #[⟨19, .data⟩, ⟨19, .chain⟩, ⟨0, .phase⟩, ⟨1, .phase⟩, ⟨2, .phase⟩, ⟨3, .phase⟩, ⟨4, .phase⟩, ⟨5, .phase⟩, ⟨6, .phase⟩, ⟨7, .phase⟩, ⟨8, .phase⟩, ⟨9, .phase⟩, ⟨10, .phase⟩, ⟨11, .phase⟩, ⟨12, .phase⟩, ⟨13, .phase⟩, ⟨14, .phase⟩, ⟨15, .phase⟩, ⟨16, .phase⟩, ⟨17, .phase⟩, ⟨18, .phase⟩, ⟨19, .phase⟩], none⟩ ?_
    refine wpAnyH_done (by kernel_rfl) ?_ _
    go_wp2_with fail
    go_ret
    exact pr_keep13 HI.out (hH4.2.2.2.2.2.2) (in_ok13 SM.out)
  have G130 : Hid (go13 en = 130) := G30.out.resolve_left he
  go_enter Tryz.func157, Tryz.ntmps157
  go_upto_region 1 with fail
  refine wp_region_held_drew (S := (fun w' => w'.cell? ⟨b, 0, none⟩ = some (.slice A h.objs.length c) ∧ w'.cell? ⟨b, 1, none⟩ = some (.int .i64 h.cap) ∧ w'.cell? ⟨b, 2, none⟩ = some (.int .i64 h.last) ∧ w'.cell? ⟨b, 3, none⟩ = some (.int .i64 s) ∧ w'.cell? ⟨b, 4, none⟩ = some (.slice (some ⟨p, o, none⟩) args.length da) ∧ w'.cell? ⟨p, o, none⟩ = some (.int .i64 a0) ∧ Below w.heap.size w w')) (by kernel_rfl) ?_ (fun hH0 => ?_)
  · exact ⟨dcJ x0, dcJ x1, dcJ x2, dcJ x3, dcJ x4, dcJ q0, (Below.refl _ _).drew⟩
  refine tkJ 0 oPH1319 ?_
  refine tkJ 1 oPH1320 ?_
  refine tkJ 2 oPH1321 ?_
  refine tkJ 3 oPH1322 ?_
  refine tkJ 4 oPH1323 ?_
  refine tkJ 5 oPH1324 ?_
  refine tkJ 6 oPH1325 ?_
  refine tkJ 7 oPH1326 ?_
  refine tkJ 8 oPH1327 ?_
  refine tkJ 9 oPH1328 ?_
  refine tkJ 10 oPH1329 ?_
  refine tkJ 11 oPH1330 ?_
  refine tkJ 12 oPH1331 ?_
  refine tkJ 13 oPH1332 ?_
  refine rdJ 14 oPH1333 fun K hK => ?_
  go_simp
  go_at_call 182
  have BB1 : Hid (Below w.heap.size w _) := (Below.refl _ _).drew
  refine (place_ok13 ha _).mono ?_
  rintro e u1 ⟨rfl, rfl⟩
  refine hK.out _ _ ?_ (fun hH1 => ?_)
  · exact hH0
  clear hK K
  try simp only [apt12]
  refine rdJ 15 oPH1334 fun K hK => ?_
  go_simp
  go_at_call 199
  have BB2 : Hid (Below w.heap.size w _) := hH1.2.2.2.2.2.2
  refine (byte_any h s (nV a0 - 1) A c _ (HI.out.own.obs.below BB2.out) HI.out.fit).mono ?_
  rintro e u2 ⟨rfl, hb⟩
  rw [← EN.out, ← VN.out]
  refine hK.out _ _ ?_ (fun hH2 => ?_)
  · exact ⟨cell_later hb hH1.1, cell_later hb hH1.2.1, cell_later hb hH1.2.2.1, cell_later hb hH1.2.2.2.1, cell_later hb hH1.2.2.2.2.1, cell_later hb hH1.2.2.2.2.2.1, then_w hH1.2.2.2.2.2.2 hb⟩
  clear hK K
  try simp only [apt12]
  clear hb
  refine tkJ 16 oPH1335 ?_
  refine tkJ 17 oPH1336 ?_
  refine rdJ 18 oPH1337 fun K hK => ?_
  go_simp
  go_at_call 180
  have BB3 : Hid (Below w.heap.size w _) := hH2.2.2.2.2.2.2
  refine (checked_no13 _ he _).mono ?_
  rintro e u9 ⟨rfl, rfl⟩
  rw [G130.out]
  exact ⟨rfl, pr_stop13 BB3.out (by first | rfl | simp [fa13]) (by decide)⟩
set_option maxHeartbeats 1000000 in
theorem class_any13 (b base : Nat) (h : Hp) (A : Option Addr) (c : Nat) (s : Int) (args : List Int) (SA : Option Addr) (da : Nat) (w : World) (I : In13 w b base h A c s args SA da) :
    Calls Tryz.prog 147 #[.pointer (some ⟨b, 0, none⟩)] w (Po13 w b h A c s args.length SA da ((h, (lf9 h s).1, 0))) := by
  have HI := hid I
  have hl : (lf9 h s).2 = 0 := by
    unfold lf9
    rw [if_neg (by rw [I.may]; decide)]
    cases hn : nB s
    · have := I.has
      unfold hasB at this
      rw [hn, Bool.false_or] at this
      rw [if_neg (by decide), if_pos this]
    · rw [if_pos rfl]
  obtain ⟨cc, hcc⟩ : ∃ v, v = (lf9 h s).1 := ⟨_, rfl⟩
  rw [← hcc]
  have HL := hid hl
  have HCC := hid hcc
  obtain ⟨x0, x1, x2, x3, x4⟩ := I.box.c5
  clear I hl hcc
  go_enter Tryz.func147, Tryz.ntmps147
  go_upto_region 1 with fail
  refine wp_region_held_drew (S := (fun w' => w'.cell? ⟨b, 0, none⟩ = some (.slice A h.objs.length c) ∧ w'.cell? ⟨b, 1, none⟩ = some (.int .i64 h.cap) ∧ w'.cell? ⟨b, 2, none⟩ = some (.int .i64 h.last) ∧ w'.cell? ⟨b, 3, none⟩ = some (.int .i64 s) ∧ w'.cell? ⟨b, 4, none⟩ = some (.slice SA args.length da) ∧ Below w.heap.size w w')) (by kernel_rfl) ?_ (fun hH0 => ?_)
  · exact ⟨dcJ x0, dcJ x1, dcJ x2, dcJ x3, dcJ x4, (Below.refl _ _).drew⟩
  refine tkJ 0 ⟨some 3, .move (.tmp 0), 86, "prim.go:197", #[], none⟩ ?_
  refine tkJ 1 ⟨some 4, .nilCheck (.tmp 3), 0, "prim.go:197", #[⟨0, .data⟩], none⟩ ?_
  refine tkJ 2 ⟨some 5, .fieldAddr 62 (.tmp 4) 0, 0, "prim.go:197", #[⟨1, .data⟩], none⟩ ?_
  refine tkJ 3 ⟨some 6, .load 24 (.tmp 5), 24, "prim.go:197", #[⟨2, .data⟩], none⟩ ?_
  refine tkJ 4 ⟨some 7, .move (.tmp 0), 86, "prim.go:197", #[], none⟩ ?_
  refine tkJ 5 ⟨some 8, .nilCheck (.tmp 7), 0, "prim.go:197", #[⟨4, .data⟩], none⟩ ?_
  refine tkJ 6 ⟨some 9, .fieldAddr 62 (.tmp 8) 1, 0, "prim.go:197", #[⟨5, .data⟩], none⟩ ?_
  refine tkJ 7 ⟨some 10, .load 3 (.tmp 9), 3, "prim.go:197", #[⟨6, .data⟩], none⟩ ?_
  refine rdJ 8 ⟨some 11, .call { callee := .value (.func 189), args := #[.tmp 6, .tmp 10], argTypes := #[24, 3] }, 63, "prim.go:197", #[⟨3, .data⟩, ⟨7, .data⟩], none⟩ fun K hK => ?_
  go_simp
  go_at_call 189
  have BB1 : Hid (Below w.heap.size w _) := (Below.refl _ _).drew
  refine (lof_any9 h s A c _ (HI.out.own.obs.below BB1.out) HI.out.fit).mono ?_
  rintro e u1 ⟨rfl, hb⟩
  rw [← HCC.out, HL.out]
  refine hK.out _ _ ?_ (fun hH1 => ?_)
  · exact ⟨cell_later hb hH0.1, cell_later hb hH0.2.1, cell_later hb hH0.2.2.1, cell_later hb hH0.2.2.2.1, cell_later hb hH0.2.2.2.2.1, then_w hH0.2.2.2.2.2 hb⟩
  clear hK K
  try simp only [apt12]
  clear hb
  refine tkJ 9 ⟨some 12, .extract (.tmp 11) 0, 3, "prim.go:197", #[⟨8, .data⟩], none⟩ ?_
  refine tkJ 10 ⟨some 13, .extract (.tmp 11) 1, 25, "prim.go:197", #[⟨8, .data⟩], none⟩ ?_
  refine rdJ 11 ⟨some 14, .call { callee := .value (.func 180), args := #[.tmp 12, .tmp 13], argTypes := #[3, 25] }, 3, "prim.go:197", #[⟨9, .data⟩, ⟨10, .data⟩, ⟨8, .chain⟩], none⟩ fun K hK => ?_
  go_simp
  go_at_call 180
  have BB2 : Hid (Below w.heap.size w _) := hH1.2.2.2.2.2
  refine (checked_ok13 _ _).mono ?_
  rintro e u2 ⟨rfl, rfl⟩
  refine hK.out _ _ ?_ (fun hH2 => ?_)
  · exact hH1
  clear hK K
  try simp only [apt12]
  refine tkJ 12 ⟨some 2, .assign (.tmp 14), 3, "prim.go:197", #[⟨11, .data⟩, ⟨11, .chain⟩, ⟨0, .phase⟩, ⟨1, .phase⟩, ⟨2, .phase⟩, ⟨3, .phase⟩, ⟨4, .phase⟩, ⟨5, .phase⟩, ⟨6, .phase⟩, ⟨7, .phase⟩, ⟨8, .phase⟩, ⟨9, .phase⟩, ⟨10, .phase⟩, ⟨11, .phase⟩], none⟩ ?_
  refine wpAnyH_done (by kernel_rfl) ?_ _
  go_wp2_with fail
  go_ret
  exact pr_keep13 HI.out (hH2.2.2.2.2.2) rfl
end Go.Proofs.YtnilempeldlieaaGreat
