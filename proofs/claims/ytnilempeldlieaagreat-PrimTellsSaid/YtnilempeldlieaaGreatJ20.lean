/- Primitives 6, 7, 14: below, equal, the same. Each primitive, by its number. -/
import Derived.Test.YtnilempeldlieaaGreatJ04
import Derived.Test.YtnilempeldlieaaGreatJPC13
import Derived.Test.YtnilempeldlieaaGreatJ19
import Derived.Test.YtnilempeldlieaaGreatJPM13
namespace Go.Proofs.YtnilempeldlieaaGreat
abbrev oPD130 : Oper := ⟨some 3, .move (.tmp 0), 86, "prim.go:163", #[], none⟩
abbrev oPD131 : Oper := ⟨some 4, .nilCheck (.tmp 3), 0, "prim.go:163", #[⟨0, .data⟩], none⟩
abbrev oPD132 : Oper := ⟨some 5, .fieldAddr 62 (.tmp 4) 1, 0, "prim.go:163", #[⟨1, .data⟩], none⟩
abbrev oPD133 : Oper := ⟨some 6, .load 3 (.tmp 5), 3, "prim.go:163", #[⟨2, .data⟩], none⟩
abbrev oPD134 : Oper := ⟨some 8, .move (.tmp 0), 86, "prim.go:163", #[], none⟩
abbrev oPD135 : Oper := ⟨some 9, .nilCheck (.tmp 8), 0, "prim.go:163", #[⟨5, .data⟩], none⟩
abbrev oPD136 : Oper := ⟨some 10, .fieldAddr 62 (.tmp 9) 2, 0, "prim.go:163", #[⟨6, .data⟩], none⟩
abbrev oPD137 : Oper := ⟨some 11, .load 34 (.tmp 10), 34, "prim.go:163", #[⟨7, .data⟩], none⟩
abbrev oPD138 : Oper := ⟨some 12, .indexAddr 34 (.tmp 11) (.const (Go.Value.int .i64 0)), 0, "prim.go:163", #[⟨8, .data⟩], none⟩
abbrev oPD139 : Oper := ⟨some 13, .load 3 (.tmp 12), 3, "prim.go:163", #[⟨9, .data⟩], none⟩
abbrev oPD1310 : Oper := ⟨some 7, .call { callee := .value (.func 178), args := #[.tmp 6], argTypes := #[3] }, 3, "prim.go:163", #[⟨3, .data⟩], none⟩
abbrev oPD1311 : Oper := ⟨some 14, .call { callee := .value (.func 178), args := #[.tmp 13], argTypes := #[3] }, 3, "prim.go:163", #[⟨10, .data⟩, ⟨4, .chain⟩], none⟩
abbrev oPD1312 : Oper := ⟨some 3, .move (.tmp 0), 86, "prim.go:165", #[], none⟩
abbrev oPD1313 : Oper := ⟨some 4, .nilCheck (.tmp 3), 0, "prim.go:165", #[⟨0, .data⟩], none⟩
abbrev oPD1314 : Oper := ⟨some 5, .fieldAddr 62 (.tmp 4) 1, 0, "prim.go:165", #[⟨1, .data⟩], none⟩
abbrev oPD1315 : Oper := ⟨some 6, .load 3 (.tmp 5), 3, "prim.go:165", #[⟨2, .data⟩], none⟩
abbrev oPD1316 : Oper := ⟨some 8, .move (.tmp 0), 86, "prim.go:165", #[], none⟩
abbrev oPD1317 : Oper := ⟨some 9, .nilCheck (.tmp 8), 0, "prim.go:165", #[⟨5, .data⟩], none⟩
abbrev oPD1318 : Oper := ⟨some 10, .fieldAddr 62 (.tmp 9) 2, 0, "prim.go:165", #[⟨6, .data⟩], none⟩
abbrev oPD1319 : Oper := ⟨some 11, .load 34 (.tmp 10), 34, "prim.go:165", #[⟨7, .data⟩], none⟩
abbrev oPD1320 : Oper := ⟨some 12, .indexAddr 34 (.tmp 11) (.const (Go.Value.int .i64 0)), 0, "prim.go:165", #[⟨8, .data⟩], none⟩
abbrev oPD1321 : Oper := ⟨some 13, .load 3 (.tmp 12), 3, "prim.go:165", #[⟨9, .data⟩], none⟩
abbrev oPD1322 : Oper := ⟨some 7, .call { callee := .value (.func 178), args := #[.tmp 6], argTypes := #[3] }, 3, "prim.go:165", #[⟨3, .data⟩], none⟩
abbrev oPD1323 : Oper := ⟨some 14, .call { callee := .value (.func 178), args := #[.tmp 13], argTypes := #[3] }, 3, "prim.go:165", #[⟨10, .data⟩, ⟨4, .chain⟩], none⟩
open Go.RowKit Flt
set_option maxRecDepth 100000
set_option maxHeartbeats 1000000 in
theorem below_any13 (b base : Nat) (h : Hp) (A : Option Addr) (c : Nat) (s : Int) (args : List Int) (SA : Option Addr) (da : Nat) (w : World) (I : In13 w b base h A c s args SA da) (hn : 0 < args.length) :
    Calls Tryz.prog 140 #[.pointer (some ⟨b, 0, none⟩)] w (Po13 w b h A c s args.length SA da (if nB s = false ∨ nB (args.getD 0 0) = false then fa13 h else tr13 h (decide (nV s < nV (args.getD 0 0))))) := by
  obtain ⟨a0, ha0⟩ : ∃ a, a = args.getD 0 0 := ⟨_, rfl⟩
  rw [← ha0]
  have HI := hid I
  obtain ⟨p, o, hSA, q0, -⟩ := I.arg (k := 0) hn
  subst hSA
  rw [← ha0] at q0
  simp only [Nat.add_zero] at q0
  obtain ⟨x0, x1, x2, x3, x4⟩ := I.box.c5
  clear I ha0
  cases hs : nB s
  · go_enter Tryz.func140, Tryz.ntmps140
    go_upto_region 1 with fail
    refine wp_region_held_drew (S := (fun w' => w'.cell? ⟨b, 0, none⟩ = some (.slice A h.objs.length c) ∧ w'.cell? ⟨b, 1, none⟩ = some (.int .i64 h.cap) ∧ w'.cell? ⟨b, 2, none⟩ = some (.int .i64 h.last) ∧ w'.cell? ⟨b, 3, none⟩ = some (.int .i64 s) ∧ w'.cell? ⟨b, 4, none⟩ = some (.slice (some ⟨p, o, none⟩) args.length da) ∧ w'.cell? ⟨p, o, none⟩ = some (.int .i64 a0) ∧ Below w.heap.size w w')) (by kernel_rfl) ?_ (fun hH0 => ?_)
    · exact ⟨dcJ x0, dcJ x1, dcJ x2, dcJ x3, dcJ x4, dcJ q0, (Below.refl _ _).drew⟩
    refine tkJ 0 oPD130 ?_
    refine tkJ 1 oPD131 ?_
    refine tkJ 2 oPD132 ?_
    refine tkJ 3 oPD133 ?_
    refine tkJ 5 oPD134 ?_
    refine tkJ 6 oPD135 ?_
    refine tkJ 7 oPD136 ?_
    refine tkJ 8 oPD137 ?_
    refine tkJ 9 oPD138 ?_
    refine tkJ 10 oPD139 ?_
    refine rdJ 4 oPD1310 fun K hK => ?_
    go_simp
    go_at_call 178
    have BB1 : Hid (Below w.heap.size w _) := (Below.refl _ _).drew
    refine (num_no13 hs _).mono ?_
    rintro e u9 ⟨rfl, rfl⟩
    exact ⟨rfl, pr_stop13 BB1.out (by first | rfl | simp [fa13]) (by decide)⟩
  cases ha : nB a0
  · go_enter Tryz.func140, Tryz.ntmps140
    go_upto_region 1 with fail
    refine wp_region_held_drew (S := (fun w' => w'.cell? ⟨b, 0, none⟩ = some (.slice A h.objs.length c) ∧ w'.cell? ⟨b, 1, none⟩ = some (.int .i64 h.cap) ∧ w'.cell? ⟨b, 2, none⟩ = some (.int .i64 h.last) ∧ w'.cell? ⟨b, 3, none⟩ = some (.int .i64 s) ∧ w'.cell? ⟨b, 4, none⟩ = some (.slice (some ⟨p, o, none⟩) args.length da) ∧ w'.cell? ⟨p, o, none⟩ = some (.int .i64 a0) ∧ Below w.heap.size w w')) (by kernel_rfl) ?_ (fun hH0 => ?_)
    · exact ⟨dcJ x0, dcJ x1, dcJ x2, dcJ x3, dcJ x4, dcJ q0, (Below.refl _ _).drew⟩
    refine tkJ 0 oPD130 ?_
    refine tkJ 1 oPD131 ?_
    refine tkJ 2 oPD132 ?_
    refine tkJ 3 oPD133 ?_
    refine tkJ 5 oPD134 ?_
    refine tkJ 6 oPD135 ?_
    refine tkJ 7 oPD136 ?_
    refine tkJ 8 oPD137 ?_
    refine tkJ 9 oPD138 ?_
    refine tkJ 10 oPD139 ?_
    refine rdJ 4 oPD1310 fun K hK => ?_
    go_simp
    go_at_call 178
    have BB1 : Hid (Below w.heap.size w _) := (Below.refl _ _).drew
    refine (num_ok13 hs _).mono ?_
    rintro e u1 ⟨rfl, rfl⟩
    refine hK.out _ _ ?_ (fun hH1 => ?_)
    · exact hH0
    clear hK K
    try simp only [apt12]
    refine rdJ 11 oPD1311 fun K hK => ?_
    go_simp
    go_at_call 178
    have BB2 : Hid (Below w.heap.size w _) := hH1.2.2.2.2.2.2
    refine (num_no13 ha _).mono ?_
    rintro e u9 ⟨rfl, rfl⟩
    exact ⟨rfl, pr_stop13 BB2.out (by first | rfl | simp [fa13]) (by decide)⟩
  go_enter Tryz.func140, Tryz.ntmps140
  go_upto_region 1 with fail
  refine wp_region_held_drew (S := (fun w' => w'.cell? ⟨b, 0, none⟩ = some (.slice A h.objs.length c) ∧ w'.cell? ⟨b, 1, none⟩ = some (.int .i64 h.cap) ∧ w'.cell? ⟨b, 2, none⟩ = some (.int .i64 h.last) ∧ w'.cell? ⟨b, 3, none⟩ = some (.int .i64 s) ∧ w'.cell? ⟨b, 4, none⟩ = some (.slice (some ⟨p, o, none⟩) args.length da) ∧ w'.cell? ⟨p, o, none⟩ = some (.int .i64 a0) ∧ Below w.heap.size w w')) (by kernel_rfl) ?_ (fun hH0 => ?_)
  · exact ⟨dcJ x0, dcJ x1, dcJ x2, dcJ x3, dcJ x4, dcJ q0, (Below.refl _ _).drew⟩
  refine tkJ 0 oPD130 ?_
  refine tkJ 1 oPD131 ?_
  refine tkJ 2 oPD132 ?_
  refine tkJ 3 oPD133 ?_
  refine tkJ 5 oPD134 ?_
  refine tkJ 6 oPD135 ?_
  refine tkJ 7 oPD136 ?_
  refine tkJ 8 oPD137 ?_
  refine tkJ 9 oPD138 ?_
  refine tkJ 10 oPD139 ?_
  refine rdJ 4 oPD1310 fun K hK => ?_
  go_simp
  go_at_call 178
  have BB1 : Hid (Below w.heap.size w _) := (Below.refl _ _).drew
  refine (num_ok13 hs _).mono ?_
  rintro e u1 ⟨rfl, rfl⟩
  refine hK.out _ _ ?_ (fun hH1 => ?_)
  · exact hH0
  clear hK K
  try simp only [apt12]
  refine rdJ 11 oPD1311 fun K hK => ?_
  go_simp
  go_at_call 178
  have BB2 : Hid (Below w.heap.size w _) := hH1.2.2.2.2.2.2
  refine (num_ok13 ha _).mono ?_
  rintro e u2 ⟨rfl, rfl⟩
  refine hK.out _ _ ?_ (fun hH2 => ?_)
  · exact hH1
  clear hK K
  try simp only [apt12]
  refine tkJ 12 ⟨some 15, .binOp .lss 3 (.tmp 7) (.tmp 14) 3, 4, "prim.go:163", #[⟨4, .data⟩, ⟨11, .data⟩], none⟩ ?_
  refine rdJ 13 ⟨some 16, .call { callee := .value (.func 179), args := #[.tmp 15], argTypes := #[4] }, 3, "prim.go:163", #[⟨12, .data⟩, ⟨11, .chain⟩], none⟩ fun K hK => ?_
  go_simp
  go_at_call 179
  have BB3 : Hid (Below w.heap.size w _) := hH2.2.2.2.2.2.2
  refine (truth_any13 _ _).mono ?_
  rintro e u3 ⟨rfl, rfl⟩
  refine hK.out _ _ ?_ (fun hH3 => ?_)
  · exact hH2
  clear hK K
  try simp only [apt12]
  refine tkJ 14 ⟨some 2, .assign (.tmp 16), 3, "prim.go:163", #[⟨13, .data⟩, ⟨13, .chain⟩, ⟨0, .phase⟩, ⟨1, .phase⟩, ⟨2, .phase⟩, ⟨3, .phase⟩, ⟨4, .phase⟩, ⟨5, .phase⟩, ⟨6, .phase⟩, ⟨7, .phase⟩, ⟨8, .phase⟩, ⟨9, .phase⟩, ⟨10, .phase⟩, ⟨11, .phase⟩, ⟨12, .phase⟩, ⟨13, .phase⟩], none⟩ ?_
  refine wpAnyH_done (by kernel_rfl) ?_ _
  go_wp2_with fail
  go_ret
  exact pr_keep13 HI.out (hH3.2.2.2.2.2.2) (by first | rfl | simp [tr13])
set_option maxHeartbeats 1000000 in
theorem equal_any13 (b base : Nat) (h : Hp) (A : Option Addr) (c : Nat) (s : Int) (args : List Int) (SA : Option Addr) (da : Nat) (w : World) (I : In13 w b base h A c s args SA da) (hn : 0 < args.length) :
    Calls Tryz.prog 141 #[.pointer (some ⟨b, 0, none⟩)] w (Po13 w b h A c s args.length SA da (if nB s = false ∨ nB (args.getD 0 0) = false then fa13 h else tr13 h (decide (nV s = nV (args.getD 0 0))))) := by
  obtain ⟨a0, ha0⟩ : ∃ a, a = args.getD 0 0 := ⟨_, rfl⟩
  rw [← ha0]
  have HI := hid I
  obtain ⟨p, o, hSA, q0, -⟩ := I.arg (k := 0) hn
  subst hSA
  rw [← ha0] at q0
  simp only [Nat.add_zero] at q0
  obtain ⟨x0, x1, x2, x3, x4⟩ := I.box.c5
  clear I ha0
  cases hs : nB s
  · go_enter Tryz.func141, Tryz.ntmps141
    go_upto_region 1 with fail
    refine wp_region_held_drew (S := (fun w' => w'.cell? ⟨b, 0, none⟩ = some (.slice A h.objs.length c) ∧ w'.cell? ⟨b, 1, none⟩ = some (.int .i64 h.cap) ∧ w'.cell? ⟨b, 2, none⟩ = some (.int .i64 h.last) ∧ w'.cell? ⟨b, 3, none⟩ = some (.int .i64 s) ∧ w'.cell? ⟨b, 4, none⟩ = some (.slice (some ⟨p, o, none⟩) args.length da) ∧ w'.cell? ⟨p, o, none⟩ = some (.int .i64 a0) ∧ Below w.heap.size w w')) (by kernel_rfl) ?_ (fun hH0 => ?_)
    · exact ⟨dcJ x0, dcJ x1, dcJ x2, dcJ x3, dcJ x4, dcJ q0, (Below.refl _ _).drew⟩
    refine tkJ 0 oPD1312 ?_
    refine tkJ 1 oPD1313 ?_
    refine tkJ 2 oPD1314 ?_
    refine tkJ 3 oPD1315 ?_
    refine tkJ 5 oPD1316 ?_
    refine tkJ 6 oPD1317 ?_
    refine tkJ 7 oPD1318 ?_
    refine tkJ 8 oPD1319 ?_
    refine tkJ 9 oPD1320 ?_
    refine tkJ 10 oPD1321 ?_
    refine rdJ 4 oPD1322 fun K hK => ?_
    go_simp
    go_at_call 178
    have BB1 : Hid (Below w.heap.size w _) := (Below.refl _ _).drew
    refine (num_no13 hs _).mono ?_
    rintro e u9 ⟨rfl, rfl⟩
    exact ⟨rfl, pr_stop13 BB1.out (by first | rfl | simp [fa13]) (by decide)⟩
  cases ha : nB a0
  · go_enter Tryz.func141, Tryz.ntmps141
    go_upto_region 1 with fail
    refine wp_region_held_drew (S := (fun w' => w'.cell? ⟨b, 0, none⟩ = some (.slice A h.objs.length c) ∧ w'.cell? ⟨b, 1, none⟩ = some (.int .i64 h.cap) ∧ w'.cell? ⟨b, 2, none⟩ = some (.int .i64 h.last) ∧ w'.cell? ⟨b, 3, none⟩ = some (.int .i64 s) ∧ w'.cell? ⟨b, 4, none⟩ = some (.slice (some ⟨p, o, none⟩) args.length da) ∧ w'.cell? ⟨p, o, none⟩ = some (.int .i64 a0) ∧ Below w.heap.size w w')) (by kernel_rfl) ?_ (fun hH0 => ?_)
    · exact ⟨dcJ x0, dcJ x1, dcJ x2, dcJ x3, dcJ x4, dcJ q0, (Below.refl _ _).drew⟩
    refine tkJ 0 oPD1312 ?_
    refine tkJ 1 oPD1313 ?_
    refine tkJ 2 oPD1314 ?_
    refine tkJ 3 oPD1315 ?_
    refine tkJ 5 oPD1316 ?_
    refine tkJ 6 oPD1317 ?_
    refine tkJ 7 oPD1318 ?_
    refine tkJ 8 oPD1319 ?_
    refine tkJ 9 oPD1320 ?_
    refine tkJ 10 oPD1321 ?_
    refine rdJ 4 oPD1322 fun K hK => ?_
    go_simp
    go_at_call 178
    have BB1 : Hid (Below w.heap.size w _) := (Below.refl _ _).drew
    refine (num_ok13 hs _).mono ?_
    rintro e u1 ⟨rfl, rfl⟩
    refine hK.out _ _ ?_ (fun hH1 => ?_)
    · exact hH0
    clear hK K
    try simp only [apt12]
    refine rdJ 11 oPD1323 fun K hK => ?_
    go_simp
    go_at_call 178
    have BB2 : Hid (Below w.heap.size w _) := hH1.2.2.2.2.2.2
    refine (num_no13 ha _).mono ?_
    rintro e u9 ⟨rfl, rfl⟩
    exact ⟨rfl, pr_stop13 BB2.out (by first | rfl | simp [fa13]) (by decide)⟩
  go_enter Tryz.func141, Tryz.ntmps141
  go_upto_region 1 with fail
  refine wp_region_held_drew (S := (fun w' => w'.cell? ⟨b, 0, none⟩ = some (.slice A h.objs.length c) ∧ w'.cell? ⟨b, 1, none⟩ = some (.int .i64 h.cap) ∧ w'.cell? ⟨b, 2, none⟩ = some (.int .i64 h.last) ∧ w'.cell? ⟨b, 3, none⟩ = some (.int .i64 s) ∧ w'.cell? ⟨b, 4, none⟩ = some (.slice (some ⟨p, o, none⟩) args.length da) ∧ w'.cell? ⟨p, o, none⟩ = some (.int .i64 a0) ∧ Below w.heap.size w w')) (by kernel_rfl) ?_ (fun hH0 => ?_)
  · exact ⟨dcJ x0, dcJ x1, dcJ x2, dcJ x3, dcJ x4, dcJ q0, (Below.refl _ _).drew⟩
  refine tkJ 0 oPD1312 ?_
  refine tkJ 1 oPD1313 ?_
  refine tkJ 2 oPD1314 ?_
  refine tkJ 3 oPD1315 ?_
  refine tkJ 5 oPD1316 ?_
  refine tkJ 6 oPD1317 ?_
  refine tkJ 7 oPD1318 ?_
  refine tkJ 8 oPD1319 ?_
  refine tkJ 9 oPD1320 ?_
  refine tkJ 10 oPD1321 ?_
  refine rdJ 4 oPD1322 fun K hK => ?_
  go_simp
  go_at_call 178
  have BB1 : Hid (Below w.heap.size w _) := (Below.refl _ _).drew
  refine (num_ok13 hs _).mono ?_
  rintro e u1 ⟨rfl, rfl⟩
  refine hK.out _ _ ?_ (fun hH1 => ?_)
  · exact hH0
  clear hK K
  try simp only [apt12]
  refine rdJ 11 oPD1323 fun K hK => ?_
  go_simp
  go_at_call 178
  have BB2 : Hid (Below w.heap.size w _) := hH1.2.2.2.2.2.2
  refine (num_ok13 ha _).mono ?_
  rintro e u2 ⟨rfl, rfl⟩
  refine hK.out _ _ ?_ (fun hH2 => ?_)
  · exact hH1
  clear hK K
  try simp only [apt12]
  refine tkJ 12 ⟨some 15, .binOp .eql 3 (.tmp 7) (.tmp 14) 3, 4, "prim.go:165", #[⟨4, .data⟩, ⟨11, .data⟩], none⟩ ?_
  refine rdJ 13 ⟨some 16, .call { callee := .value (.func 179), args := #[.tmp 15], argTypes := #[4] }, 3, "prim.go:165", #[⟨12, .data⟩, ⟨11, .chain⟩], none⟩ fun K hK => ?_
  go_simp
  go_at_call 179
  have BB3 : Hid (Below w.heap.size w _) := hH2.2.2.2.2.2.2
  refine (truth_any13 _ _).mono ?_
  rintro e u3 ⟨rfl, rfl⟩
  refine hK.out _ _ ?_ (fun hH3 => ?_)
  · exact hH2
  clear hK K
  try simp only [apt12]
  refine tkJ 14 ⟨some 2, .assign (.tmp 16), 3, "prim.go:165", #[⟨13, .data⟩, ⟨13, .chain⟩, ⟨0, .phase⟩, ⟨1, .phase⟩, ⟨2, .phase⟩, ⟨3, .phase⟩, ⟨4, .phase⟩, ⟨5, .phase⟩, ⟨6, .phase⟩, ⟨7, .phase⟩, ⟨8, .phase⟩, ⟨9, .phase⟩, ⟨10, .phase⟩, ⟨11, .phase⟩, ⟨12, .phase⟩, ⟨13, .phase⟩], none⟩ ?_
  refine wpAnyH_done (by kernel_rfl) ?_ _
  go_wp2_with fail
  go_ret
  exact pr_keep13 HI.out (hH3.2.2.2.2.2.2) (by first | rfl | simp [tr13])
set_option maxHeartbeats 1000000 in
theorem same_any13 (b base : Nat) (h : Hp) (A : Option Addr) (c : Nat) (s : Int) (args : List Int) (SA : Option Addr) (da : Nat) (w : World) (I : In13 w b base h A c s args SA da) (hn : 0 < args.length) :
    Calls Tryz.prog 148 #[.pointer (some ⟨b, 0, none⟩)] w (Po13 w b h A c s args.length SA da (tr13 h (decide (s = args.getD 0 0)))) := by
  obtain ⟨a0, ha0⟩ : ∃ a, a = args.getD 0 0 := ⟨_, rfl⟩
  rw [← ha0]
  have HI := hid I
  obtain ⟨p, o, hSA, q0, -⟩ := I.arg (k := 0) hn
  subst hSA
  rw [← ha0] at q0
  simp only [Nat.add_zero] at q0
  obtain ⟨x0, x1, x2, x3, x4⟩ := I.box.c5
  clear I ha0
  go_enter Tryz.func148, Tryz.ntmps148
  go_upto_region 1 with fail
  refine wp_region_held_drew (S := (fun w' => w'.cell? ⟨b, 0, none⟩ = some (.slice A h.objs.length c) ∧ w'.cell? ⟨b, 1, none⟩ = some (.int .i64 h.cap) ∧ w'.cell? ⟨b, 2, none⟩ = some (.int .i64 h.last) ∧ w'.cell? ⟨b, 3, none⟩ = some (.int .i64 s) ∧ w'.cell? ⟨b, 4, none⟩ = some (.slice (some ⟨p, o, none⟩) args.length da) ∧ w'.cell? ⟨p, o, none⟩ = some (.int .i64 a0) ∧ Below w.heap.size w w')) (by kernel_rfl) ?_ (fun hH0 => ?_)
  · exact ⟨dcJ x0, dcJ x1, dcJ x2, dcJ x3, dcJ x4, dcJ q0, (Below.refl _ _).drew⟩
  refine tkJ 0 ⟨some 3, .move (.tmp 0), 86, "prim.go:167", #[], none⟩ ?_
  refine tkJ 1 ⟨some 4, .nilCheck (.tmp 3), 0, "prim.go:167", #[⟨0, .data⟩], none⟩ ?_
  refine tkJ 2 ⟨some 5, .fieldAddr 62 (.tmp 4) 1, 0, "prim.go:167", #[⟨1, .data⟩], none⟩ ?_
  refine tkJ 3 ⟨some 6, .load 3 (.tmp 5), 3, "prim.go:167", #[⟨2, .data⟩], none⟩ ?_
  refine tkJ 4 ⟨some 7, .move (.tmp 0), 86, "prim.go:167", #[], none⟩ ?_
  refine tkJ 5 ⟨some 8, .nilCheck (.tmp 7), 0, "prim.go:167", #[⟨4, .data⟩], none⟩ ?_
  refine tkJ 6 ⟨some 9, .fieldAddr 62 (.tmp 8) 2, 0, "prim.go:167", #[⟨5, .data⟩], none⟩ ?_
  refine tkJ 7 ⟨some 10, .load 34 (.tmp 9), 34, "prim.go:167", #[⟨6, .data⟩], none⟩ ?_
  refine tkJ 8 ⟨some 11, .indexAddr 34 (.tmp 10) (.const (Go.Value.int .i64 0)), 0, "prim.go:167", #[⟨7, .data⟩], none⟩ ?_
  refine tkJ 9 ⟨some 12, .load 3 (.tmp 11), 3, "prim.go:167", #[⟨8, .data⟩], none⟩ ?_
  refine tkJ 10 ⟨some 13, .binOp .eql 3 (.tmp 6) (.tmp 12) 3, 4, "prim.go:167", #[⟨3, .data⟩, ⟨9, .data⟩], none⟩ ?_
  refine rdJ 11 ⟨some 14, .call { callee := .value (.func 179), args := #[.tmp 13], argTypes := #[4] }, 3, "prim.go:167", #[⟨10, .data⟩], none⟩ fun K hK => ?_
  go_simp
  go_at_call 179
  have BB1 : Hid (Below w.heap.size w _) := (Below.refl _ _).drew
  refine (truth_any13 _ _).mono ?_
  rintro e u1 ⟨rfl, rfl⟩
  refine hK.out _ _ ?_ (fun hH1 => ?_)
  · exact hH0
  clear hK K
  try simp only [apt12]
  refine tkJ 12 ⟨some 2, .assign (.tmp 14), 3, "prim.go:167", #[⟨11, .data⟩, ⟨11, .chain⟩, ⟨0, .phase⟩, ⟨1, .phase⟩, ⟨2, .phase⟩, ⟨3, .phase⟩, ⟨4, .phase⟩, ⟨5, .phase⟩, ⟨6, .phase⟩, ⟨7, .phase⟩, ⟨8, .phase⟩, ⟨9, .phase⟩, ⟨10, .phase⟩, ⟨11, .phase⟩], none⟩ ?_
  refine wpAnyH_done (by kernel_rfl) ?_ _
  go_wp2_with fail
  go_ret
  exact pr_keep13 HI.out (hH1.2.2.2.2.2.2) rfl
end Go.Proofs.YtnilempeldlieaaGreat
namespace Go.Proofs.YtnilempeldlieaaGreat
open Go.RowKit Flt
set_option maxRecDepth 100000
def Fn13 (w : World) (b : Nat) (h : Hp) (A : Option Addr) (c : Nat) (s : Int) (args : List Int) (SA : Option Addr) (da : Nat) (k : Nat) (K : Nat) (cap : Array Value) : Prop :=
  (cap = #[] ∧ Calls Tryz.prog K #[.pointer (some ⟨b, 0, none⟩)] w (Po13 w b h A c s args.length SA da (pr13 h k s (args.getD 0 0) (args.getD 1 0)))) ∨
  ∃ kb, cap = #[.pointer (some ⟨kb, 0, none⟩)] ∧ Calls Tryz.prog K #[.pointer (some ⟨b, 0, none⟩), .pointer (some ⟨kb, 0, none⟩)] w (Po13 w b h A c s args.length SA da (pr13 h k s (args.getD 0 0) (args.getD 1 0)))
theorem row13 (k : Nat) (h1 : 1 ≤ k) (h27 : k ≤ 27) (n : Nat) : ∃ (na K : Nat) (cap : Array Value), ar13 k = some na ∧ (tb13 n)[2 * k]? = some (.int .i64 (na : Int)) ∧ (tb13 n)[2 * k + 1]? = some (.func (.func K) #[] cap) ∧ (∀ args w, (callFunc K args).run Tryz.prog w = .ok (.enter K args) w) ∧
    ∀ (b base : Nat) (h : Hp) (A : Option Addr) (c : Nat) (s : Int) (args : List Int) (SA : Option Addr) (da : Nat) (w : World) (_I : In13 w b base h A c s args SA da), args.length = na → (∀ (j : Nat) (v : Value), kv13[j]? = some v → w.cell? ⟨n + j, 0, none⟩ = some v) → b < n → Fn13 w b h A c s args SA da k K cap := by
  obtain rfl | rfl | rfl | rfl | rfl | rfl | rfl | rfl | rfl | rfl | rfl | rfl | rfl | rfl | rfl | rfl | rfl | rfl | rfl | rfl | rfl | rfl | rfl | rfl | rfl | rfl | rfl : k = 1 ∨ k = 2 ∨ k = 3 ∨ k = 4 ∨ k = 5 ∨ k = 6 ∨ k = 7 ∨ k = 8 ∨ k = 9 ∨ k = 10 ∨ k = 11 ∨ k = 12 ∨ k = 13 ∨ k = 14 ∨ k = 15 ∨ k = 16 ∨ k = 17 ∨ k = 18 ∨ k = 19 ∨ k = 20 ∨ k = 21 ∨ k = 22 ∨ k = 23 ∨ k = 24 ∨ k = 25 ∨ k = 26 ∨ k = 27 := by omega
  · refine ⟨1, 176, #[.pointer (some ⟨n + 0, 0, none⟩)], by decide, rfl, rfl, enters_of Tryz.func176 (by kernel_rfl) rfl, fun b base h A c s args SA da w I hl hkv hbn => .inr ⟨n + 0, rfl, ?_⟩⟩
    have e := ofadd_any13 b base h A c s args SA da w I (by omega) (n + 0) (hkv 0 _ rfl) (by omega)
    exact e.mono fun e9 w9 h9 => by
      have eq : pr13 h ((1 : Nat) : Int) s (args.getD 0 0) (args.getD 1 0) = (if nB s = false ∨ nB (args.getD 0 0) = false then fa13 h else in13 h (nV s + nV (args.getD 0 0))) := by rfl
      rw [eq]; exact h9
  · refine ⟨1, 176, #[.pointer (some ⟨n + 1, 0, none⟩)], by decide, rfl, rfl, enters_of Tryz.func176 (by kernel_rfl) rfl, fun b base h A c s args SA da w I hl hkv hbn => .inr ⟨n + 1, rfl, ?_⟩⟩
    have e := ofsub_any13 b base h A c s args SA da w I (by omega) (n + 1) (hkv 1 _ rfl) (by omega)
    exact e.mono fun e9 w9 h9 => by
      have eq : pr13 h ((2 : Nat) : Int) s (args.getD 0 0) (args.getD 1 0) = (if nB s = false ∨ nB (args.getD 0 0) = false then fa13 h else in13 h (nV s - nV (args.getD 0 0))) := by rfl
      rw [eq]; exact h9
  · refine ⟨1, 176, #[.pointer (some ⟨n + 2, 0, none⟩)], by decide, rfl, rfl, enters_of Tryz.func176 (by kernel_rfl) rfl, fun b base h A c s args SA da w I hl hkv hbn => .inr ⟨n + 2, rfl, ?_⟩⟩
    have e := ofmul_any13 b base h A c s args SA da w I (by omega) (n + 2) (hkv 2 _ rfl) (by omega)
    exact e.mono fun e9 w9 h9 => by
      have eq : pr13 h ((3 : Nat) : Int) s (args.getD 0 0) (args.getD 1 0) = (if nB s = false ∨ nB (args.getD 0 0) = false then fa13 h else in13 h (nV s * nV (args.getD 0 0))) := by rfl
      rw [eq]; exact h9
  · refine ⟨1, 176, #[.pointer (some ⟨n + 3, 0, none⟩)], by decide, rfl, rfl, enters_of Tryz.func176 (by kernel_rfl) rfl, fun b base h A c s args SA da w I hl hkv hbn => .inr ⟨n + 3, rfl, ?_⟩⟩
    have e := ofquo_any13 b base h A c s args SA da w I (by omega) (n + 3) (hkv 3 _ rfl) (by omega)
    exact e.mono fun e9 w9 h9 => by
      have eq : pr13 h ((4 : Nat) : Int) s (args.getD 0 0) (args.getD 1 0) = (if nB s = false ∨ nB (args.getD 0 0) = false then fa13 h else if nV (args.getD 0 0) = 0 then fa13 h else in13 h ((nV s).fdiv (nV (args.getD 0 0)))) := by rfl
      rw [eq]; exact h9
  · refine ⟨1, 176, #[.pointer (some ⟨n + 4, 0, none⟩)], by decide, rfl, rfl, enters_of Tryz.func176 (by kernel_rfl) rfl, fun b base h A c s args SA da w I hl hkv hbn => .inr ⟨n + 4, rfl, ?_⟩⟩
    have e := ofrest_any13 b base h A c s args SA da w I (by omega) (n + 4) (hkv 4 _ rfl) (by omega)
    exact e.mono fun e9 w9 h9 => by
      have eq : pr13 h ((5 : Nat) : Int) s (args.getD 0 0) (args.getD 1 0) = (if nB s = false ∨ nB (args.getD 0 0) = false then fa13 h else if nV (args.getD 0 0) = 0 then fa13 h else in13 h (nV s - nV (args.getD 0 0) * (nV s).fdiv (nV (args.getD 0 0)))) := by rfl
      rw [eq]; exact h9
  · refine ⟨1, 140, #[], by decide, rfl, rfl, enters_of Tryz.func140 (by kernel_rfl) rfl, fun b base h A c s args SA da w I hl hkv hbn => .inl ⟨rfl, ?_⟩⟩
    have e := below_any13 b base h A c s args SA da w I (by omega)
    exact e.mono fun e9 w9 h9 => by
      have eq : pr13 h ((6 : Nat) : Int) s (args.getD 0 0) (args.getD 1 0) = (if nB s = false ∨ nB (args.getD 0 0) = false then fa13 h else tr13 h (decide (nV s < nV (args.getD 0 0)))) := by rfl
      rw [eq]; exact h9
  · refine ⟨1, 141, #[], by decide, rfl, rfl, enters_of Tryz.func141 (by kernel_rfl) rfl, fun b base h A c s args SA da w I hl hkv hbn => .inl ⟨rfl, ?_⟩⟩
    have e := equal_any13 b base h A c s args SA da w I (by omega)
    exact e.mono fun e9 w9 h9 => by
      have eq : pr13 h ((7 : Nat) : Int) s (args.getD 0 0) (args.getD 1 0) = (if nB s = false ∨ nB (args.getD 0 0) = false then fa13 h else tr13 h (decide (nV s = nV (args.getD 0 0)))) := by rfl
      rw [eq]; exact h9
  · refine ⟨1, 142, #[], by decide, rfl, rfl, enters_of Tryz.func142 (by kernel_rfl) rfl, fun b base h A c s args SA da w I hl hkv hbn => .inl ⟨rfl, ?_⟩⟩
    have e := slot_any13 b base h A c s args SA da w I (by omega)
    exact e.mono fun e9 w9 h9 => by
      have eq : pr13 h ((8 : Nat) : Int) s (args.getD 0 0) (args.getD 1 0) = (if nB (args.getD 0 0) = false then fa13 h else if plE h s 0 (nV (args.getD 0 0) - 1) ≠ 0 then fa13 h else (h, geV h s (nV (args.getD 0 0) - 1), 0)) := by rfl
      rw [eq]; exact h9
  · refine ⟨2, 143, #[], by decide, rfl, rfl, enters_of Tryz.func143 (by kernel_rfl) rfl, fun b base h A c s args SA da w I hl hkv hbn => .inl ⟨rfl, ?_⟩⟩
    have e := setslot_any13 b base h A c s args SA da w I (by omega)
    exact e.mono fun e9 w9 h9 => by
      have eq : pr13 h ((9 : Nat) : Int) s (args.getD 0 0) (args.getD 1 0) = (if nB (args.getD 0 0) = false then fa13 h else if setE h s (nV (args.getD 0 0) - 1) (args.getD 1 0) ≠ 0 then fa13 h else (setR h s (nV (args.getD 0 0) - 1) (args.getD 1 0), (args.getD 1 0), 0)) := by rfl
      rw [eq]; exact h9
  · refine ⟨0, 144, #[], by decide, rfl, rfl, enters_of Tryz.func144 (by kernel_rfl) rfl, fun b base h A c s args SA da w I hl hkv hbn => .inl ⟨rfl, ?_⟩⟩
    have e := size_any13 b base h A c s args SA da w I
    exact e.mono fun e9 w9 h9 => by
      have eq : pr13 h ((10 : Nat) : Int) s (args.getD 0 0) (args.getD 1 0) = (if refB h.objs.length s = false ∨ (obAt h s).kind = 2 then fa13 h else in13 h ((obAt h s).slots.length + (obAt h s).text.size)) := by rfl
      rw [eq]; exact h9
  · refine ⟨0, 145, #[], by decide, rfl, rfl, enters_of Tryz.func145 (by kernel_rfl) rfl, fun b base h A c s args SA da w I hl hkv hbn => .inl ⟨rfl, ?_⟩⟩
    have e := instance_any13 b base h A c s args SA da w I
    exact e.mono fun e9 w9 h9 => by
      have eq : pr13 h ((11 : Nat) : Int) s (args.getD 0 0) (args.getD 1 0) = (if clB9 h s = false then fa13 h else al13 h s 0 (nV (sl9 h s 2))) := by rfl
      rw [eq]; exact h9
  · refine ⟨1, 188, #[.pointer (some ⟨n + 5, 0, none⟩)], by decide, rfl, rfl, enters_of Tryz.func188 (by kernel_rfl) rfl, fun b base h A c s args SA da w I hl hkv hbn => .inr ⟨n + 5, rfl, ?_⟩⟩
    have e := instanceof_any13 b base h A c s args SA da w I (by omega) (n + 5) 0 (hkv 5 _ rfl) (by omega)
    exact e.mono fun e9 w9 h9 => by
      have eq : pr13 h ((12 : Nat) : Int) s (args.getD 0 0) (args.getD 1 0) = (if clB9 h s = false then fa13 h else if nB (args.getD 0 0) = false then fa13 h else al13 h s 0 (nV (args.getD 0 0))) := by rfl
      rw [eq]; exact h9
  · refine ⟨0, 147, #[], by decide, rfl, rfl, enters_of Tryz.func147 (by kernel_rfl) rfl, fun b base h A c s args SA da w I hl hkv hbn => .inl ⟨rfl, ?_⟩⟩
    have e := class_any13 b base h A c s args SA da w I
    exact e.mono fun e9 w9 h9 => by
      have eq : pr13 h ((13 : Nat) : Int) s (args.getD 0 0) (args.getD 1 0) = ((h, (lf9 h s).1, 0)) := by rfl
      rw [eq]; exact h9
  · refine ⟨1, 148, #[], by decide, rfl, rfl, enters_of Tryz.func148 (by kernel_rfl) rfl, fun b base h A c s args SA da w I hl hkv hbn => .inl ⟨rfl, ?_⟩⟩
    have e := same_any13 b base h A c s args SA da w I (by omega)
    exact e.mono fun e9 w9 h9 => by
      have eq : pr13 h ((14 : Nat) : Int) s (args.getD 0 0) (args.getD 1 0) = (tr13 h (decide (s = (args.getD 0 0)))) := by rfl
      rw [eq]; exact h9
  · refine ⟨0, 149, #[], by decide, rfl, rfl, enters_of Tryz.func149 (by kernel_rfl) rfl, fun b base h A c s args SA da w I hl hkv hbn => .inl ⟨rfl, ?_⟩⟩
    have e := hash_any13 b base h A c s args SA da w I
    exact e.mono fun e9 w9 h9 => by
      have eq : pr13 h ((15 : Nat) : Int) s (args.getD 0 0) (args.getD 1 0) = (if nB s then (h, s, 0) else in13 h (obAt h s).hash) := by rfl
      rw [eq]; exact h9
  · refine ⟨1, 150, #[], by decide, rfl, rfl, enters_of Tryz.func150 (by kernel_rfl) rfl, fun b base h A c s args SA da w I hl hkv hbn => .inl ⟨rfl, ?_⟩⟩
    have e := become_any13 b base h A c s args SA da w I (by omega)
    exact e.mono fun e9 w9 h9 => by
      have eq : pr13 h ((16 : Nat) : Int) s (args.getD 0 0) (args.getD 1 0) = (if atB s = false ∨ atV s < 12 ∨ atB (args.getD 0 0) = false ∨ atV (args.getD 0 0) < 12 then fa13 h else (beR h s (args.getD 0 0), s, 0)) := by rfl
      rw [eq]; exact h9
  · refine ⟨1, 192, #[.pointer (some ⟨n + 6, 0, none⟩)], by decide, rfl, rfl, enters_of Tryz.func192 (by kernel_rfl) rfl, fun b base h A c s args SA da w I hl hkv hbn => .inr ⟨n + 6, rfl, ?_⟩⟩
    have e := offloats_any13 b base h A c s args SA da w I (by omega) (n + 6) 0 (hkv 6 _ rfl) (by omega)
    exact e.mono fun e9 w9 h9 => by
      have eq : pr13 h ((17 : Nat) : Int) s (args.getD 0 0) (args.getD 1 0) = (match fl13 h s with | none => fa13 h | some x => match fl13 h (args.getD 0 0) with | none => fa13 h | some y => nf13 h (fOp 0 x y)) := by rfl
      rw [eq]; exact h9
  · refine ⟨1, 192, #[.pointer (some ⟨n + 7, 0, none⟩)], by decide, rfl, rfl, enters_of Tryz.func192 (by kernel_rfl) rfl, fun b base h A c s args SA da w I hl hkv hbn => .inr ⟨n + 7, rfl, ?_⟩⟩
    have e := offloats_any13 b base h A c s args SA da w I (by omega) (n + 7) 1 (hkv 7 _ rfl) (by omega)
    exact e.mono fun e9 w9 h9 => by
      have eq : pr13 h ((18 : Nat) : Int) s (args.getD 0 0) (args.getD 1 0) = (match fl13 h s with | none => fa13 h | some x => match fl13 h (args.getD 0 0) with | none => fa13 h | some y => nf13 h (fOp 1 x y)) := by rfl
      rw [eq]; exact h9
  · refine ⟨1, 192, #[.pointer (some ⟨n + 8, 0, none⟩)], by decide, rfl, rfl, enters_of Tryz.func192 (by kernel_rfl) rfl, fun b base h A c s args SA da w I hl hkv hbn => .inr ⟨n + 8, rfl, ?_⟩⟩
    have e := offloats_any13 b base h A c s args SA da w I (by omega) (n + 8) 2 (hkv 8 _ rfl) (by omega)
    exact e.mono fun e9 w9 h9 => by
      have eq : pr13 h ((19 : Nat) : Int) s (args.getD 0 0) (args.getD 1 0) = (match fl13 h s with | none => fa13 h | some x => match fl13 h (args.getD 0 0) with | none => fa13 h | some y => nf13 h (fOp 2 x y)) := by rfl
      rw [eq]; exact h9
  · refine ⟨1, 192, #[.pointer (some ⟨n + 9, 0, none⟩)], by decide, rfl, rfl, enters_of Tryz.func192 (by kernel_rfl) rfl, fun b base h A c s args SA da w I hl hkv hbn => .inr ⟨n + 9, rfl, ?_⟩⟩
    have e := offloats_any13 b base h A c s args SA da w I (by omega) (n + 9) 3 (hkv 9 _ rfl) (by omega)
    exact e.mono fun e9 w9 h9 => by
      have eq : pr13 h ((20 : Nat) : Int) s (args.getD 0 0) (args.getD 1 0) = (match fl13 h s with | none => fa13 h | some x => match fl13 h (args.getD 0 0) with | none => fa13 h | some y => nf13 h (fOp 3 x y)) := by rfl
      rw [eq]; exact h9
  · refine ⟨1, 196, #[.pointer (some ⟨n + 10, 0, none⟩)], by decide, rfl, rfl, enters_of Tryz.func196 (by kernel_rfl) rfl, fun b base h A c s args SA da w I hl hkv hbn => .inr ⟨n + 10, rfl, ?_⟩⟩
    have e := cmpless_any13 b base h A c s args SA da w I (by omega) (n + 10) (hkv 10 _ rfl) (by omega)
    exact e.mono fun e9 w9 h9 => by
      have eq : pr13 h ((21 : Nat) : Int) s (args.getD 0 0) (args.getD 1 0) = (match fl13 h s with | none => fa13 h | some x => match fl13 h (args.getD 0 0) with | none => fa13 h | some y => tr13 h (fLess x y)) := by rfl
      rw [eq]; exact h9
  · refine ⟨1, 196, #[.pointer (some ⟨n + 11, 0, none⟩)], by decide, rfl, rfl, enters_of Tryz.func196 (by kernel_rfl) rfl, fun b base h A c s args SA da w I hl hkv hbn => .inr ⟨n + 11, rfl, ?_⟩⟩
    have e := cmpeq_any13 b base h A c s args SA da w I (by omega) (n + 11) (hkv 11 _ rfl) (by omega)
    exact e.mono fun e9 w9 h9 => by
      have eq : pr13 h ((22 : Nat) : Int) s (args.getD 0 0) (args.getD 1 0) = (match fl13 h s with | none => fa13 h | some x => match fl13 h (args.getD 0 0) with | none => fa13 h | some y => tr13 h (fEqual x y)) := by rfl
      rw [eq]; exact h9
  · refine ⟨0, 155, #[], by decide, rfl, rfl, enters_of Tryz.func155 (by kernel_rfl) rfl, fun b base h A c s args SA da w I hl hkv hbn => .inl ⟨rfl, ?_⟩⟩
    have e := trunc_any13 b base h A c s args SA da w I
    exact e.mono fun e9 w9 h9 => by
      have eq : pr13 h ((23 : Nat) : Int) s (args.getD 0 0) (args.getD 1 0) = (match fl13 h s with | none => fa13 h | some x => if tb x then in13 h (fTr x) else fa13 h) := by rfl
      rw [eq]; exact h9
  · refine ⟨0, 156, #[], by decide, rfl, rfl, enters_of Tryz.func156 (by kernel_rfl) rfl, fun b base h A c s args SA da w I hl hkv hbn => .inl ⟨rfl, ?_⟩⟩
    have e := float_any13 b base h A c s args SA da w I
    exact e.mono fun e9 w9 h9 => by
      have eq : pr13 h ((24 : Nat) : Int) s (args.getD 0 0) (args.getD 1 0) = (match fl13 h s with | none => fa13 h | some x => nf13 h x) := by rfl
      rw [eq]; exact h9
  · refine ⟨1, 157, #[], by decide, rfl, rfl, enters_of Tryz.func157 (by kernel_rfl) rfl, fun b base h A c s args SA da w I hl hkv hbn => .inl ⟨rfl, ?_⟩⟩
    have e := byteat_any13 b base h A c s args SA da w I (by omega)
    exact e.mono fun e9 w9 h9 => by
      have eq : pr13 h ((25 : Nat) : Int) s (args.getD 0 0) (args.getD 1 0) = (if nB (args.getD 0 0) = false then fa13 h else if plE h s 1 (nV (args.getD 0 0) - 1) ≠ 0 then fa13 h else in13 h (byV h s (nV (args.getD 0 0) - 1))) := by rfl
      rw [eq]; exact h9
  · refine ⟨2, 158, #[], by decide, rfl, rfl, enters_of Tryz.func158 (by kernel_rfl) rfl, fun b base h A c s args SA da w I hl hkv hbn => .inl ⟨rfl, ?_⟩⟩
    have e := setbyte_any13 b base h A c s args SA da w I (by omega)
    exact e.mono fun e9 w9 h9 => by
      have eq : pr13 h ((26 : Nat) : Int) s (args.getD 0 0) (args.getD 1 0) = (if nB (args.getD 0 0) = false then fa13 h else if nB (args.getD 1 0) = false ∨ sbE h s (nV (args.getD 0 0) - 1) (nV (args.getD 1 0)) ≠ 0 then fa13 h else (sbR h s (nV (args.getD 0 0) - 1) (nV (args.getD 1 0)), (args.getD 1 0), 0)) := by rfl
      rw [eq]; exact h9
  · refine ⟨1, 188, #[.pointer (some ⟨n + 12, 0, none⟩)], by decide, rfl, rfl, enters_of Tryz.func188 (by kernel_rfl) rfl, fun b base h A c s args SA da w I hl hkv hbn => .inr ⟨n + 12, rfl, ?_⟩⟩
    have e := instanceof_any13 b base h A c s args SA da w I (by omega) (n + 12) 1 (hkv 12 _ rfl) (by omega)
    exact e.mono fun e9 w9 h9 => by
      have eq : pr13 h ((27 : Nat) : Int) s (args.getD 0 0) (args.getD 1 0) = (if clB9 h s = false then fa13 h else if nB (args.getD 0 0) = false then fa13 h else al13 h s 1 (nV (args.getD 0 0))) := by rfl
      rw [eq]; exact h9
end Go.Proofs.YtnilempeldlieaaGreat
