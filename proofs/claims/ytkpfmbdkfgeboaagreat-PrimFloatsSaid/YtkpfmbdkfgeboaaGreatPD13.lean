/- Primitives 6, 7, 14: below, equal, the same. -/
import Derived.Test.YtkpfmbdkfgeboaaGreatPC13
namespace Go.Proofs.YtkpfmbdkfgeboaaGreat
open Go.RowKit Flt
set_option maxRecDepth 100000
set_option maxHeartbeats 1000000 in
theorem below_any13 (b base : Nat) (h : Hp) (A : Option Addr) (c : Nat) (s : Int) (args : List Int) (SA : Option Addr) (da : Nat) (w : World) (I : In13 w b base h A c s args SA da) (hn : 0 < args.length) :
    Calls Tryz.prog 100 #[.pointer (some ⟨b, 0, none⟩)] w (Po13 w b h A c s args.length SA da (if nB s = false ∨ nB (args.getD 0 0) = false then fa13 h else tr13 h (decide (nV s < nV (args.getD 0 0))))) := by
  obtain ⟨a0, ha0⟩ : ∃ a, a = args.getD 0 0 := ⟨_, rfl⟩
  rw [← ha0]
  have HI := hid I
  obtain ⟨p, o, hSA, q0, -⟩ := I.arg (k := 0) hn
  subst hSA
  rw [← ha0] at q0
  simp only [Nat.add_zero] at q0
  obtain ⟨x0, x1, x2, x3, x4⟩ := I.box.c5
  clear I ha0
  cases hs : nB s
  · go_enter Tryz.func100, Tryz.ntmps100
    go_upto_region 1 with fail
    refine wp_region_held_drew (S := (fun w' => w'.cell? ⟨b, 0, none⟩ = some (.slice A h.objs.length c) ∧ w'.cell? ⟨b, 1, none⟩ = some (.int .i64 h.cap) ∧ w'.cell? ⟨b, 2, none⟩ = some (.int .i64 h.last) ∧ w'.cell? ⟨b, 3, none⟩ = some (.int .i64 s) ∧ w'.cell? ⟨b, 4, none⟩ = some (.slice (some ⟨p, o, none⟩) args.length da) ∧ w'.cell? ⟨p, o, none⟩ = some (.int .i64 a0) ∧ Below w.heap.size w w')) (by kernel_rfl) ?_ (fun hH0 => ?_)
    · exact ⟨cell_later (Below.refl w.heap.size w).drew x0, cell_later (Below.refl w.heap.size w).drew x1, cell_later (Below.refl w.heap.size w).drew x2, cell_later (Below.refl w.heap.size w).drew x3, cell_later (Below.refl w.heap.size w).drew x4, cell_later (Below.refl w.heap.size w).drew q0, (Below.refl _ _).drew⟩
    refine tkI 0 ⟨some 3, .move (.tmp 0), 70, "prim.go:163", #[], none⟩ ?v1 rfl (by kernel_rfl) (by rfl) ?y1 ?_
    case y1 => intro w hSw; (try dsimp only at hSw); go_simp; all_goals with_reducible rfl
    try simp only [apt12]
    refine tkI 1 ⟨some 4, .nilCheck (.tmp 3), 0, "prim.go:163", #[⟨0, .data⟩], none⟩ ?v2 rfl (by kernel_rfl) (by rfl) ?y2 ?_
    case y2 => intro w hSw; (try dsimp only at hSw); go_simp; all_goals with_reducible rfl
    try simp only [apt12]
    refine tkI 2 ⟨some 5, .fieldAddr 49 (.tmp 4) 1, 0, "prim.go:163", #[⟨1, .data⟩], none⟩ ?v3 rfl (by kernel_rfl) (by rfl) ?y3 ?_
    case y3 => intro w hSw; (try dsimp only at hSw); go_simp; all_goals with_reducible rfl
    try simp only [apt12]
    refine tkI 3 ⟨some 6, .load 3 (.tmp 5), 3, "prim.go:163", #[⟨2, .data⟩], none⟩ ?v4 rfl (by kernel_rfl) (by rfl) ?y4 ?_
    case y4 => intro w hSw; (try dsimp only at hSw); go_simp; all_goals with_reducible rfl
    try simp only [apt12]
    refine tkI 5 ⟨some 8, .move (.tmp 0), 70, "prim.go:163", #[], none⟩ ?v5 rfl (by kernel_rfl) (by rfl) ?y5 ?_
    case y5 => intro w hSw; (try dsimp only at hSw); go_simp; all_goals with_reducible rfl
    try simp only [apt12]
    refine tkI 6 ⟨some 9, .nilCheck (.tmp 8), 0, "prim.go:163", #[⟨5, .data⟩], none⟩ ?v6 rfl (by kernel_rfl) (by rfl) ?y6 ?_
    case y6 => intro w hSw; (try dsimp only at hSw); go_simp; all_goals with_reducible rfl
    try simp only [apt12]
    refine tkI 7 ⟨some 10, .fieldAddr 49 (.tmp 9) 2, 0, "prim.go:163", #[⟨6, .data⟩], none⟩ ?v7 rfl (by kernel_rfl) (by rfl) ?y7 ?_
    case y7 => intro w hSw; (try dsimp only at hSw); go_simp; all_goals with_reducible rfl
    try simp only [apt12]
    refine tkI 8 ⟨some 11, .load 25 (.tmp 10), 25, "prim.go:163", #[⟨7, .data⟩], none⟩ ?v8 rfl (by kernel_rfl) (by rfl) ?y8 ?_
    case y8 => intro w hSw; (try dsimp only at hSw); go_simp; all_goals with_reducible rfl
    try simp only [apt12]
    refine tkI 9 ⟨some 12, .indexAddr 25 (.tmp 11) (.const (Go.Value.int .i64 0)), 0, "prim.go:163", #[⟨8, .data⟩], none⟩ ?v9 rfl (by kernel_rfl) (by rfl) ?y9 ?_
    case y9 => intro w hSw; (try dsimp only at hSw); go_simp; all_goals with_reducible rfl
    try simp only [apt12]
    refine tkI 10 ⟨some 13, .load 3 (.tmp 12), 3, "prim.go:163", #[⟨9, .data⟩], none⟩ ?v10 rfl (by kernel_rfl) (by rfl) ?y10 ?_
    case y10 => intro w hSw; (try dsimp only at hSw); go_simp; all_goals with_reducible rfl
    try simp only [apt12]
    refine wpAnyH_ready (rs := [4]) (by kernel_rfl) (by simp) ?_
    refine AllReadyH.cons (i := 4) (o := ⟨some 7, .call { callee := .value (.func 127), args := #[.tmp 6], argTypes := #[3] }, 3, "prim.go:163", #[⟨3, .data⟩], none⟩) rfl (fun K hK => ?_) AllReadyH.nil
    go_simp
    go_at_call 127
    have BB1 : Hid (Below w.heap.size w _) := (Below.refl _ _).drew
    refine (num_no13 hs _).mono ?_
    rintro e u9 ⟨rfl, rfl⟩
    exact ⟨rfl, pr_stop13 BB1.out (by first | rfl | simp [fa13]) (by decide)⟩
  cases ha : nB a0
  · go_enter Tryz.func100, Tryz.ntmps100
    go_upto_region 1 with fail
    refine wp_region_held_drew (S := (fun w' => w'.cell? ⟨b, 0, none⟩ = some (.slice A h.objs.length c) ∧ w'.cell? ⟨b, 1, none⟩ = some (.int .i64 h.cap) ∧ w'.cell? ⟨b, 2, none⟩ = some (.int .i64 h.last) ∧ w'.cell? ⟨b, 3, none⟩ = some (.int .i64 s) ∧ w'.cell? ⟨b, 4, none⟩ = some (.slice (some ⟨p, o, none⟩) args.length da) ∧ w'.cell? ⟨p, o, none⟩ = some (.int .i64 a0) ∧ Below w.heap.size w w')) (by kernel_rfl) ?_ (fun hH0 => ?_)
    · exact ⟨cell_later (Below.refl w.heap.size w).drew x0, cell_later (Below.refl w.heap.size w).drew x1, cell_later (Below.refl w.heap.size w).drew x2, cell_later (Below.refl w.heap.size w).drew x3, cell_later (Below.refl w.heap.size w).drew x4, cell_later (Below.refl w.heap.size w).drew q0, (Below.refl _ _).drew⟩
    refine tkI 0 ⟨some 3, .move (.tmp 0), 70, "prim.go:163", #[], none⟩ ?v11 rfl (by kernel_rfl) (by rfl) ?y11 ?_
    case y11 => intro w hSw; (try dsimp only at hSw); go_simp; all_goals with_reducible rfl
    try simp only [apt12]
    refine tkI 1 ⟨some 4, .nilCheck (.tmp 3), 0, "prim.go:163", #[⟨0, .data⟩], none⟩ ?v12 rfl (by kernel_rfl) (by rfl) ?y12 ?_
    case y12 => intro w hSw; (try dsimp only at hSw); go_simp; all_goals with_reducible rfl
    try simp only [apt12]
    refine tkI 2 ⟨some 5, .fieldAddr 49 (.tmp 4) 1, 0, "prim.go:163", #[⟨1, .data⟩], none⟩ ?v13 rfl (by kernel_rfl) (by rfl) ?y13 ?_
    case y13 => intro w hSw; (try dsimp only at hSw); go_simp; all_goals with_reducible rfl
    try simp only [apt12]
    refine tkI 3 ⟨some 6, .load 3 (.tmp 5), 3, "prim.go:163", #[⟨2, .data⟩], none⟩ ?v14 rfl (by kernel_rfl) (by rfl) ?y14 ?_
    case y14 => intro w hSw; (try dsimp only at hSw); go_simp; all_goals with_reducible rfl
    try simp only [apt12]
    refine tkI 5 ⟨some 8, .move (.tmp 0), 70, "prim.go:163", #[], none⟩ ?v15 rfl (by kernel_rfl) (by rfl) ?y15 ?_
    case y15 => intro w hSw; (try dsimp only at hSw); go_simp; all_goals with_reducible rfl
    try simp only [apt12]
    refine tkI 6 ⟨some 9, .nilCheck (.tmp 8), 0, "prim.go:163", #[⟨5, .data⟩], none⟩ ?v16 rfl (by kernel_rfl) (by rfl) ?y16 ?_
    case y16 => intro w hSw; (try dsimp only at hSw); go_simp; all_goals with_reducible rfl
    try simp only [apt12]
    refine tkI 7 ⟨some 10, .fieldAddr 49 (.tmp 9) 2, 0, "prim.go:163", #[⟨6, .data⟩], none⟩ ?v17 rfl (by kernel_rfl) (by rfl) ?y17 ?_
    case y17 => intro w hSw; (try dsimp only at hSw); go_simp; all_goals with_reducible rfl
    try simp only [apt12]
    refine tkI 8 ⟨some 11, .load 25 (.tmp 10), 25, "prim.go:163", #[⟨7, .data⟩], none⟩ ?v18 rfl (by kernel_rfl) (by rfl) ?y18 ?_
    case y18 => intro w hSw; (try dsimp only at hSw); go_simp; all_goals with_reducible rfl
    try simp only [apt12]
    refine tkI 9 ⟨some 12, .indexAddr 25 (.tmp 11) (.const (Go.Value.int .i64 0)), 0, "prim.go:163", #[⟨8, .data⟩], none⟩ ?v19 rfl (by kernel_rfl) (by rfl) ?y19 ?_
    case y19 => intro w hSw; (try dsimp only at hSw); go_simp; all_goals with_reducible rfl
    try simp only [apt12]
    refine tkI 10 ⟨some 13, .load 3 (.tmp 12), 3, "prim.go:163", #[⟨9, .data⟩], none⟩ ?v20 rfl (by kernel_rfl) (by rfl) ?y20 ?_
    case y20 => intro w hSw; (try dsimp only at hSw); go_simp; all_goals with_reducible rfl
    try simp only [apt12]
    refine wpAnyH_ready (rs := [4]) (by kernel_rfl) (by simp) ?_
    refine AllReadyH.cons (i := 4) (o := ⟨some 7, .call { callee := .value (.func 127), args := #[.tmp 6], argTypes := #[3] }, 3, "prim.go:163", #[⟨3, .data⟩], none⟩) rfl (fun K hK => ?_) AllReadyH.nil
    go_simp
    go_at_call 127
    have BB1 : Hid (Below w.heap.size w _) := (Below.refl _ _).drew
    refine (num_ok13 hs _).mono ?_
    rintro e u1 ⟨rfl, rfl⟩
    refine hK.out _ _ ?_ (fun hH1 => ?_)
    · exact hH0
    clear hK K
    try simp only [apt12]
    refine wpAnyH_ready (rs := [11]) (by kernel_rfl) (by simp) ?_
    refine AllReadyH.cons (i := 11) (o := ⟨some 14, .call { callee := .value (.func 127), args := #[.tmp 13], argTypes := #[3] }, 3, "prim.go:163", #[⟨10, .data⟩, ⟨4, .chain⟩], none⟩) rfl (fun K hK => ?_) AllReadyH.nil
    go_simp
    go_at_call 127
    have BB2 : Hid (Below w.heap.size w _) := hH1.2.2.2.2.2.2
    refine (num_no13 ha _).mono ?_
    rintro e u9 ⟨rfl, rfl⟩
    exact ⟨rfl, pr_stop13 BB2.out (by first | rfl | simp [fa13]) (by decide)⟩
  go_enter Tryz.func100, Tryz.ntmps100
  go_upto_region 1 with fail
  refine wp_region_held_drew (S := (fun w' => w'.cell? ⟨b, 0, none⟩ = some (.slice A h.objs.length c) ∧ w'.cell? ⟨b, 1, none⟩ = some (.int .i64 h.cap) ∧ w'.cell? ⟨b, 2, none⟩ = some (.int .i64 h.last) ∧ w'.cell? ⟨b, 3, none⟩ = some (.int .i64 s) ∧ w'.cell? ⟨b, 4, none⟩ = some (.slice (some ⟨p, o, none⟩) args.length da) ∧ w'.cell? ⟨p, o, none⟩ = some (.int .i64 a0) ∧ Below w.heap.size w w')) (by kernel_rfl) ?_ (fun hH0 => ?_)
  · exact ⟨cell_later (Below.refl w.heap.size w).drew x0, cell_later (Below.refl w.heap.size w).drew x1, cell_later (Below.refl w.heap.size w).drew x2, cell_later (Below.refl w.heap.size w).drew x3, cell_later (Below.refl w.heap.size w).drew x4, cell_later (Below.refl w.heap.size w).drew q0, (Below.refl _ _).drew⟩
  refine tkI 0 ⟨some 3, .move (.tmp 0), 70, "prim.go:163", #[], none⟩ ?v21 rfl (by kernel_rfl) (by rfl) ?y21 ?_
  case y21 => intro w hSw; (try dsimp only at hSw); go_simp; all_goals with_reducible rfl
  try simp only [apt12]
  refine tkI 1 ⟨some 4, .nilCheck (.tmp 3), 0, "prim.go:163", #[⟨0, .data⟩], none⟩ ?v22 rfl (by kernel_rfl) (by rfl) ?y22 ?_
  case y22 => intro w hSw; (try dsimp only at hSw); go_simp; all_goals with_reducible rfl
  try simp only [apt12]
  refine tkI 2 ⟨some 5, .fieldAddr 49 (.tmp 4) 1, 0, "prim.go:163", #[⟨1, .data⟩], none⟩ ?v23 rfl (by kernel_rfl) (by rfl) ?y23 ?_
  case y23 => intro w hSw; (try dsimp only at hSw); go_simp; all_goals with_reducible rfl
  try simp only [apt12]
  refine tkI 3 ⟨some 6, .load 3 (.tmp 5), 3, "prim.go:163", #[⟨2, .data⟩], none⟩ ?v24 rfl (by kernel_rfl) (by rfl) ?y24 ?_
  case y24 => intro w hSw; (try dsimp only at hSw); go_simp; all_goals with_reducible rfl
  try simp only [apt12]
  refine tkI 5 ⟨some 8, .move (.tmp 0), 70, "prim.go:163", #[], none⟩ ?v25 rfl (by kernel_rfl) (by rfl) ?y25 ?_
  case y25 => intro w hSw; (try dsimp only at hSw); go_simp; all_goals with_reducible rfl
  try simp only [apt12]
  refine tkI 6 ⟨some 9, .nilCheck (.tmp 8), 0, "prim.go:163", #[⟨5, .data⟩], none⟩ ?v26 rfl (by kernel_rfl) (by rfl) ?y26 ?_
  case y26 => intro w hSw; (try dsimp only at hSw); go_simp; all_goals with_reducible rfl
  try simp only [apt12]
  refine tkI 7 ⟨some 10, .fieldAddr 49 (.tmp 9) 2, 0, "prim.go:163", #[⟨6, .data⟩], none⟩ ?v27 rfl (by kernel_rfl) (by rfl) ?y27 ?_
  case y27 => intro w hSw; (try dsimp only at hSw); go_simp; all_goals with_reducible rfl
  try simp only [apt12]
  refine tkI 8 ⟨some 11, .load 25 (.tmp 10), 25, "prim.go:163", #[⟨7, .data⟩], none⟩ ?v28 rfl (by kernel_rfl) (by rfl) ?y28 ?_
  case y28 => intro w hSw; (try dsimp only at hSw); go_simp; all_goals with_reducible rfl
  try simp only [apt12]
  refine tkI 9 ⟨some 12, .indexAddr 25 (.tmp 11) (.const (Go.Value.int .i64 0)), 0, "prim.go:163", #[⟨8, .data⟩], none⟩ ?v29 rfl (by kernel_rfl) (by rfl) ?y29 ?_
  case y29 => intro w hSw; (try dsimp only at hSw); go_simp; all_goals with_reducible rfl
  try simp only [apt12]
  refine tkI 10 ⟨some 13, .load 3 (.tmp 12), 3, "prim.go:163", #[⟨9, .data⟩], none⟩ ?v30 rfl (by kernel_rfl) (by rfl) ?y30 ?_
  case y30 => intro w hSw; (try dsimp only at hSw); go_simp; all_goals with_reducible rfl
  try simp only [apt12]
  refine wpAnyH_ready (rs := [4]) (by kernel_rfl) (by simp) ?_
  refine AllReadyH.cons (i := 4) (o := ⟨some 7, .call { callee := .value (.func 127), args := #[.tmp 6], argTypes := #[3] }, 3, "prim.go:163", #[⟨3, .data⟩], none⟩) rfl (fun K hK => ?_) AllReadyH.nil
  go_simp
  go_at_call 127
  have BB1 : Hid (Below w.heap.size w _) := (Below.refl _ _).drew
  refine (num_ok13 hs _).mono ?_
  rintro e u1 ⟨rfl, rfl⟩
  refine hK.out _ _ ?_ (fun hH1 => ?_)
  · exact hH0
  clear hK K
  try simp only [apt12]
  refine wpAnyH_ready (rs := [11]) (by kernel_rfl) (by simp) ?_
  refine AllReadyH.cons (i := 11) (o := ⟨some 14, .call { callee := .value (.func 127), args := #[.tmp 13], argTypes := #[3] }, 3, "prim.go:163", #[⟨10, .data⟩, ⟨4, .chain⟩], none⟩) rfl (fun K hK => ?_) AllReadyH.nil
  go_simp
  go_at_call 127
  have BB2 : Hid (Below w.heap.size w _) := hH1.2.2.2.2.2.2
  refine (num_ok13 ha _).mono ?_
  rintro e u2 ⟨rfl, rfl⟩
  refine hK.out _ _ ?_ (fun hH2 => ?_)
  · exact hH1
  clear hK K
  try simp only [apt12]
  refine tkI 12 ⟨some 15, .binOp .lss 3 (.tmp 7) (.tmp 14) 3, 4, "prim.go:163", #[⟨4, .data⟩, ⟨11, .data⟩], none⟩ ?v31 rfl (by kernel_rfl) (by rfl) ?y31 ?_
  case y31 => intro w hSw; (try dsimp only at hSw); go_simp; all_goals with_reducible rfl
  try simp only [apt12]
  refine wpAnyH_ready (rs := [13]) (by kernel_rfl) (by simp) ?_
  refine AllReadyH.cons (i := 13) (o := ⟨some 16, .call { callee := .value (.func 128), args := #[.tmp 15], argTypes := #[4] }, 3, "prim.go:163", #[⟨12, .data⟩, ⟨11, .chain⟩], none⟩) rfl (fun K hK => ?_) AllReadyH.nil
  go_simp
  go_at_call 128
  have BB3 : Hid (Below w.heap.size w _) := hH2.2.2.2.2.2.2
  refine (truth_any13 _ _).mono ?_
  rintro e u3 ⟨rfl, rfl⟩
  refine hK.out _ _ ?_ (fun hH3 => ?_)
  · exact hH2
  clear hK K
  try simp only [apt12]
  refine tkI 14 ⟨some 2, .assign (.tmp 16), 3, "prim.go:163", #[⟨13, .data⟩, ⟨13, .chain⟩, ⟨0, .phase⟩, ⟨1, .phase⟩, ⟨2, .phase⟩, ⟨3, .phase⟩, ⟨4, .phase⟩, ⟨5, .phase⟩, ⟨6, .phase⟩, ⟨7, .phase⟩, ⟨8, .phase⟩, ⟨9, .phase⟩, ⟨10, .phase⟩, ⟨11, .phase⟩, ⟨12, .phase⟩, ⟨13, .phase⟩], none⟩ ?v32 rfl (by kernel_rfl) (by rfl) ?y32 ?_
  case y32 => intro w hSw; (try dsimp only at hSw); go_simp; all_goals with_reducible rfl
  try simp only [apt12]
  refine wpAnyH_done (by kernel_rfl) ?_ _
  go_wp2_with fail
  go_ret
  exact pr_keep13 HI.out (hH3.2.2.2.2.2.2) (by first | rfl | simp [tr13])
set_option maxHeartbeats 1000000 in
theorem equal_any13 (b base : Nat) (h : Hp) (A : Option Addr) (c : Nat) (s : Int) (args : List Int) (SA : Option Addr) (da : Nat) (w : World) (I : In13 w b base h A c s args SA da) (hn : 0 < args.length) :
    Calls Tryz.prog 101 #[.pointer (some ⟨b, 0, none⟩)] w (Po13 w b h A c s args.length SA da (if nB s = false ∨ nB (args.getD 0 0) = false then fa13 h else tr13 h (decide (nV s = nV (args.getD 0 0))))) := by
  obtain ⟨a0, ha0⟩ : ∃ a, a = args.getD 0 0 := ⟨_, rfl⟩
  rw [← ha0]
  have HI := hid I
  obtain ⟨p, o, hSA, q0, -⟩ := I.arg (k := 0) hn
  subst hSA
  rw [← ha0] at q0
  simp only [Nat.add_zero] at q0
  obtain ⟨x0, x1, x2, x3, x4⟩ := I.box.c5
  clear I ha0
  cases hs : nB s
  · go_enter Tryz.func101, Tryz.ntmps101
    go_upto_region 1 with fail
    refine wp_region_held_drew (S := (fun w' => w'.cell? ⟨b, 0, none⟩ = some (.slice A h.objs.length c) ∧ w'.cell? ⟨b, 1, none⟩ = some (.int .i64 h.cap) ∧ w'.cell? ⟨b, 2, none⟩ = some (.int .i64 h.last) ∧ w'.cell? ⟨b, 3, none⟩ = some (.int .i64 s) ∧ w'.cell? ⟨b, 4, none⟩ = some (.slice (some ⟨p, o, none⟩) args.length da) ∧ w'.cell? ⟨p, o, none⟩ = some (.int .i64 a0) ∧ Below w.heap.size w w')) (by kernel_rfl) ?_ (fun hH0 => ?_)
    · exact ⟨cell_later (Below.refl w.heap.size w).drew x0, cell_later (Below.refl w.heap.size w).drew x1, cell_later (Below.refl w.heap.size w).drew x2, cell_later (Below.refl w.heap.size w).drew x3, cell_later (Below.refl w.heap.size w).drew x4, cell_later (Below.refl w.heap.size w).drew q0, (Below.refl _ _).drew⟩
    refine tkI 0 ⟨some 3, .move (.tmp 0), 70, "prim.go:165", #[], none⟩ ?v33 rfl (by kernel_rfl) (by rfl) ?y33 ?_
    case y33 => intro w hSw; (try dsimp only at hSw); go_simp; all_goals with_reducible rfl
    try simp only [apt12]
    refine tkI 1 ⟨some 4, .nilCheck (.tmp 3), 0, "prim.go:165", #[⟨0, .data⟩], none⟩ ?v34 rfl (by kernel_rfl) (by rfl) ?y34 ?_
    case y34 => intro w hSw; (try dsimp only at hSw); go_simp; all_goals with_reducible rfl
    try simp only [apt12]
    refine tkI 2 ⟨some 5, .fieldAddr 49 (.tmp 4) 1, 0, "prim.go:165", #[⟨1, .data⟩], none⟩ ?v35 rfl (by kernel_rfl) (by rfl) ?y35 ?_
    case y35 => intro w hSw; (try dsimp only at hSw); go_simp; all_goals with_reducible rfl
    try simp only [apt12]
    refine tkI 3 ⟨some 6, .load 3 (.tmp 5), 3, "prim.go:165", #[⟨2, .data⟩], none⟩ ?v36 rfl (by kernel_rfl) (by rfl) ?y36 ?_
    case y36 => intro w hSw; (try dsimp only at hSw); go_simp; all_goals with_reducible rfl
    try simp only [apt12]
    refine tkI 5 ⟨some 8, .move (.tmp 0), 70, "prim.go:165", #[], none⟩ ?v37 rfl (by kernel_rfl) (by rfl) ?y37 ?_
    case y37 => intro w hSw; (try dsimp only at hSw); go_simp; all_goals with_reducible rfl
    try simp only [apt12]
    refine tkI 6 ⟨some 9, .nilCheck (.tmp 8), 0, "prim.go:165", #[⟨5, .data⟩], none⟩ ?v38 rfl (by kernel_rfl) (by rfl) ?y38 ?_
    case y38 => intro w hSw; (try dsimp only at hSw); go_simp; all_goals with_reducible rfl
    try simp only [apt12]
    refine tkI 7 ⟨some 10, .fieldAddr 49 (.tmp 9) 2, 0, "prim.go:165", #[⟨6, .data⟩], none⟩ ?v39 rfl (by kernel_rfl) (by rfl) ?y39 ?_
    case y39 => intro w hSw; (try dsimp only at hSw); go_simp; all_goals with_reducible rfl
    try simp only [apt12]
    refine tkI 8 ⟨some 11, .load 25 (.tmp 10), 25, "prim.go:165", #[⟨7, .data⟩], none⟩ ?v40 rfl (by kernel_rfl) (by rfl) ?y40 ?_
    case y40 => intro w hSw; (try dsimp only at hSw); go_simp; all_goals with_reducible rfl
    try simp only [apt12]
    refine tkI 9 ⟨some 12, .indexAddr 25 (.tmp 11) (.const (Go.Value.int .i64 0)), 0, "prim.go:165", #[⟨8, .data⟩], none⟩ ?v41 rfl (by kernel_rfl) (by rfl) ?y41 ?_
    case y41 => intro w hSw; (try dsimp only at hSw); go_simp; all_goals with_reducible rfl
    try simp only [apt12]
    refine tkI 10 ⟨some 13, .load 3 (.tmp 12), 3, "prim.go:165", #[⟨9, .data⟩], none⟩ ?v42 rfl (by kernel_rfl) (by rfl) ?y42 ?_
    case y42 => intro w hSw; (try dsimp only at hSw); go_simp; all_goals with_reducible rfl
    try simp only [apt12]
    refine wpAnyH_ready (rs := [4]) (by kernel_rfl) (by simp) ?_
    refine AllReadyH.cons (i := 4) (o := ⟨some 7, .call { callee := .value (.func 127), args := #[.tmp 6], argTypes := #[3] }, 3, "prim.go:165", #[⟨3, .data⟩], none⟩) rfl (fun K hK => ?_) AllReadyH.nil
    go_simp
    go_at_call 127
    have BB1 : Hid (Below w.heap.size w _) := (Below.refl _ _).drew
    refine (num_no13 hs _).mono ?_
    rintro e u9 ⟨rfl, rfl⟩
    exact ⟨rfl, pr_stop13 BB1.out (by first | rfl | simp [fa13]) (by decide)⟩
  cases ha : nB a0
  · go_enter Tryz.func101, Tryz.ntmps101
    go_upto_region 1 with fail
    refine wp_region_held_drew (S := (fun w' => w'.cell? ⟨b, 0, none⟩ = some (.slice A h.objs.length c) ∧ w'.cell? ⟨b, 1, none⟩ = some (.int .i64 h.cap) ∧ w'.cell? ⟨b, 2, none⟩ = some (.int .i64 h.last) ∧ w'.cell? ⟨b, 3, none⟩ = some (.int .i64 s) ∧ w'.cell? ⟨b, 4, none⟩ = some (.slice (some ⟨p, o, none⟩) args.length da) ∧ w'.cell? ⟨p, o, none⟩ = some (.int .i64 a0) ∧ Below w.heap.size w w')) (by kernel_rfl) ?_ (fun hH0 => ?_)
    · exact ⟨cell_later (Below.refl w.heap.size w).drew x0, cell_later (Below.refl w.heap.size w).drew x1, cell_later (Below.refl w.heap.size w).drew x2, cell_later (Below.refl w.heap.size w).drew x3, cell_later (Below.refl w.heap.size w).drew x4, cell_later (Below.refl w.heap.size w).drew q0, (Below.refl _ _).drew⟩
    refine tkI 0 ⟨some 3, .move (.tmp 0), 70, "prim.go:165", #[], none⟩ ?v43 rfl (by kernel_rfl) (by rfl) ?y43 ?_
    case y43 => intro w hSw; (try dsimp only at hSw); go_simp; all_goals with_reducible rfl
    try simp only [apt12]
    refine tkI 1 ⟨some 4, .nilCheck (.tmp 3), 0, "prim.go:165", #[⟨0, .data⟩], none⟩ ?v44 rfl (by kernel_rfl) (by rfl) ?y44 ?_
    case y44 => intro w hSw; (try dsimp only at hSw); go_simp; all_goals with_reducible rfl
    try simp only [apt12]
    refine tkI 2 ⟨some 5, .fieldAddr 49 (.tmp 4) 1, 0, "prim.go:165", #[⟨1, .data⟩], none⟩ ?v45 rfl (by kernel_rfl) (by rfl) ?y45 ?_
    case y45 => intro w hSw; (try dsimp only at hSw); go_simp; all_goals with_reducible rfl
    try simp only [apt12]
    refine tkI 3 ⟨some 6, .load 3 (.tmp 5), 3, "prim.go:165", #[⟨2, .data⟩], none⟩ ?v46 rfl (by kernel_rfl) (by rfl) ?y46 ?_
    case y46 => intro w hSw; (try dsimp only at hSw); go_simp; all_goals with_reducible rfl
    try simp only [apt12]
    refine tkI 5 ⟨some 8, .move (.tmp 0), 70, "prim.go:165", #[], none⟩ ?v47 rfl (by kernel_rfl) (by rfl) ?y47 ?_
    case y47 => intro w hSw; (try dsimp only at hSw); go_simp; all_goals with_reducible rfl
    try simp only [apt12]
    refine tkI 6 ⟨some 9, .nilCheck (.tmp 8), 0, "prim.go:165", #[⟨5, .data⟩], none⟩ ?v48 rfl (by kernel_rfl) (by rfl) ?y48 ?_
    case y48 => intro w hSw; (try dsimp only at hSw); go_simp; all_goals with_reducible rfl
    try simp only [apt12]
    refine tkI 7 ⟨some 10, .fieldAddr 49 (.tmp 9) 2, 0, "prim.go:165", #[⟨6, .data⟩], none⟩ ?v49 rfl (by kernel_rfl) (by rfl) ?y49 ?_
    case y49 => intro w hSw; (try dsimp only at hSw); go_simp; all_goals with_reducible rfl
    try simp only [apt12]
    refine tkI 8 ⟨some 11, .load 25 (.tmp 10), 25, "prim.go:165", #[⟨7, .data⟩], none⟩ ?v50 rfl (by kernel_rfl) (by rfl) ?y50 ?_
    case y50 => intro w hSw; (try dsimp only at hSw); go_simp; all_goals with_reducible rfl
    try simp only [apt12]
    refine tkI 9 ⟨some 12, .indexAddr 25 (.tmp 11) (.const (Go.Value.int .i64 0)), 0, "prim.go:165", #[⟨8, .data⟩], none⟩ ?v51 rfl (by kernel_rfl) (by rfl) ?y51 ?_
    case y51 => intro w hSw; (try dsimp only at hSw); go_simp; all_goals with_reducible rfl
    try simp only [apt12]
    refine tkI 10 ⟨some 13, .load 3 (.tmp 12), 3, "prim.go:165", #[⟨9, .data⟩], none⟩ ?v52 rfl (by kernel_rfl) (by rfl) ?y52 ?_
    case y52 => intro w hSw; (try dsimp only at hSw); go_simp; all_goals with_reducible rfl
    try simp only [apt12]
    refine wpAnyH_ready (rs := [4]) (by kernel_rfl) (by simp) ?_
    refine AllReadyH.cons (i := 4) (o := ⟨some 7, .call { callee := .value (.func 127), args := #[.tmp 6], argTypes := #[3] }, 3, "prim.go:165", #[⟨3, .data⟩], none⟩) rfl (fun K hK => ?_) AllReadyH.nil
    go_simp
    go_at_call 127
    have BB1 : Hid (Below w.heap.size w _) := (Below.refl _ _).drew
    refine (num_ok13 hs _).mono ?_
    rintro e u1 ⟨rfl, rfl⟩
    refine hK.out _ _ ?_ (fun hH1 => ?_)
    · exact hH0
    clear hK K
    try simp only [apt12]
    refine wpAnyH_ready (rs := [11]) (by kernel_rfl) (by simp) ?_
    refine AllReadyH.cons (i := 11) (o := ⟨some 14, .call { callee := .value (.func 127), args := #[.tmp 13], argTypes := #[3] }, 3, "prim.go:165", #[⟨10, .data⟩, ⟨4, .chain⟩], none⟩) rfl (fun K hK => ?_) AllReadyH.nil
    go_simp
    go_at_call 127
    have BB2 : Hid (Below w.heap.size w _) := hH1.2.2.2.2.2.2
    refine (num_no13 ha _).mono ?_
    rintro e u9 ⟨rfl, rfl⟩
    exact ⟨rfl, pr_stop13 BB2.out (by first | rfl | simp [fa13]) (by decide)⟩
  go_enter Tryz.func101, Tryz.ntmps101
  go_upto_region 1 with fail
  refine wp_region_held_drew (S := (fun w' => w'.cell? ⟨b, 0, none⟩ = some (.slice A h.objs.length c) ∧ w'.cell? ⟨b, 1, none⟩ = some (.int .i64 h.cap) ∧ w'.cell? ⟨b, 2, none⟩ = some (.int .i64 h.last) ∧ w'.cell? ⟨b, 3, none⟩ = some (.int .i64 s) ∧ w'.cell? ⟨b, 4, none⟩ = some (.slice (some ⟨p, o, none⟩) args.length da) ∧ w'.cell? ⟨p, o, none⟩ = some (.int .i64 a0) ∧ Below w.heap.size w w')) (by kernel_rfl) ?_ (fun hH0 => ?_)
  · exact ⟨cell_later (Below.refl w.heap.size w).drew x0, cell_later (Below.refl w.heap.size w).drew x1, cell_later (Below.refl w.heap.size w).drew x2, cell_later (Below.refl w.heap.size w).drew x3, cell_later (Below.refl w.heap.size w).drew x4, cell_later (Below.refl w.heap.size w).drew q0, (Below.refl _ _).drew⟩
  refine tkI 0 ⟨some 3, .move (.tmp 0), 70, "prim.go:165", #[], none⟩ ?v53 rfl (by kernel_rfl) (by rfl) ?y53 ?_
  case y53 => intro w hSw; (try dsimp only at hSw); go_simp; all_goals with_reducible rfl
  try simp only [apt12]
  refine tkI 1 ⟨some 4, .nilCheck (.tmp 3), 0, "prim.go:165", #[⟨0, .data⟩], none⟩ ?v54 rfl (by kernel_rfl) (by rfl) ?y54 ?_
  case y54 => intro w hSw; (try dsimp only at hSw); go_simp; all_goals with_reducible rfl
  try simp only [apt12]
  refine tkI 2 ⟨some 5, .fieldAddr 49 (.tmp 4) 1, 0, "prim.go:165", #[⟨1, .data⟩], none⟩ ?v55 rfl (by kernel_rfl) (by rfl) ?y55 ?_
  case y55 => intro w hSw; (try dsimp only at hSw); go_simp; all_goals with_reducible rfl
  try simp only [apt12]
  refine tkI 3 ⟨some 6, .load 3 (.tmp 5), 3, "prim.go:165", #[⟨2, .data⟩], none⟩ ?v56 rfl (by kernel_rfl) (by rfl) ?y56 ?_
  case y56 => intro w hSw; (try dsimp only at hSw); go_simp; all_goals with_reducible rfl
  try simp only [apt12]
  refine tkI 5 ⟨some 8, .move (.tmp 0), 70, "prim.go:165", #[], none⟩ ?v57 rfl (by kernel_rfl) (by rfl) ?y57 ?_
  case y57 => intro w hSw; (try dsimp only at hSw); go_simp; all_goals with_reducible rfl
  try simp only [apt12]
  refine tkI 6 ⟨some 9, .nilCheck (.tmp 8), 0, "prim.go:165", #[⟨5, .data⟩], none⟩ ?v58 rfl (by kernel_rfl) (by rfl) ?y58 ?_
  case y58 => intro w hSw; (try dsimp only at hSw); go_simp; all_goals with_reducible rfl
  try simp only [apt12]
  refine tkI 7 ⟨some 10, .fieldAddr 49 (.tmp 9) 2, 0, "prim.go:165", #[⟨6, .data⟩], none⟩ ?v59 rfl (by kernel_rfl) (by rfl) ?y59 ?_
  case y59 => intro w hSw; (try dsimp only at hSw); go_simp; all_goals with_reducible rfl
  try simp only [apt12]
  refine tkI 8 ⟨some 11, .load 25 (.tmp 10), 25, "prim.go:165", #[⟨7, .data⟩], none⟩ ?v60 rfl (by kernel_rfl) (by rfl) ?y60 ?_
  case y60 => intro w hSw; (try dsimp only at hSw); go_simp; all_goals with_reducible rfl
  try simp only [apt12]
  refine tkI 9 ⟨some 12, .indexAddr 25 (.tmp 11) (.const (Go.Value.int .i64 0)), 0, "prim.go:165", #[⟨8, .data⟩], none⟩ ?v61 rfl (by kernel_rfl) (by rfl) ?y61 ?_
  case y61 => intro w hSw; (try dsimp only at hSw); go_simp; all_goals with_reducible rfl
  try simp only [apt12]
  refine tkI 10 ⟨some 13, .load 3 (.tmp 12), 3, "prim.go:165", #[⟨9, .data⟩], none⟩ ?v62 rfl (by kernel_rfl) (by rfl) ?y62 ?_
  case y62 => intro w hSw; (try dsimp only at hSw); go_simp; all_goals with_reducible rfl
  try simp only [apt12]
  refine wpAnyH_ready (rs := [4]) (by kernel_rfl) (by simp) ?_
  refine AllReadyH.cons (i := 4) (o := ⟨some 7, .call { callee := .value (.func 127), args := #[.tmp 6], argTypes := #[3] }, 3, "prim.go:165", #[⟨3, .data⟩], none⟩) rfl (fun K hK => ?_) AllReadyH.nil
  go_simp
  go_at_call 127
  have BB1 : Hid (Below w.heap.size w _) := (Below.refl _ _).drew
  refine (num_ok13 hs _).mono ?_
  rintro e u1 ⟨rfl, rfl⟩
  refine hK.out _ _ ?_ (fun hH1 => ?_)
  · exact hH0
  clear hK K
  try simp only [apt12]
  refine wpAnyH_ready (rs := [11]) (by kernel_rfl) (by simp) ?_
  refine AllReadyH.cons (i := 11) (o := ⟨some 14, .call { callee := .value (.func 127), args := #[.tmp 13], argTypes := #[3] }, 3, "prim.go:165", #[⟨10, .data⟩, ⟨4, .chain⟩], none⟩) rfl (fun K hK => ?_) AllReadyH.nil
  go_simp
  go_at_call 127
  have BB2 : Hid (Below w.heap.size w _) := hH1.2.2.2.2.2.2
  refine (num_ok13 ha _).mono ?_
  rintro e u2 ⟨rfl, rfl⟩
  refine hK.out _ _ ?_ (fun hH2 => ?_)
  · exact hH1
  clear hK K
  try simp only [apt12]
  refine tkI 12 ⟨some 15, .binOp .eql 3 (.tmp 7) (.tmp 14) 3, 4, "prim.go:165", #[⟨4, .data⟩, ⟨11, .data⟩], none⟩ ?v63 rfl (by kernel_rfl) (by rfl) ?y63 ?_
  case y63 => intro w hSw; (try dsimp only at hSw); go_simp; all_goals with_reducible rfl
  try simp only [apt12]
  refine wpAnyH_ready (rs := [13]) (by kernel_rfl) (by simp) ?_
  refine AllReadyH.cons (i := 13) (o := ⟨some 16, .call { callee := .value (.func 128), args := #[.tmp 15], argTypes := #[4] }, 3, "prim.go:165", #[⟨12, .data⟩, ⟨11, .chain⟩], none⟩) rfl (fun K hK => ?_) AllReadyH.nil
  go_simp
  go_at_call 128
  have BB3 : Hid (Below w.heap.size w _) := hH2.2.2.2.2.2.2
  refine (truth_any13 _ _).mono ?_
  rintro e u3 ⟨rfl, rfl⟩
  refine hK.out _ _ ?_ (fun hH3 => ?_)
  · exact hH2
  clear hK K
  try simp only [apt12]
  refine tkI 14 ⟨some 2, .assign (.tmp 16), 3, "prim.go:165", #[⟨13, .data⟩, ⟨13, .chain⟩, ⟨0, .phase⟩, ⟨1, .phase⟩, ⟨2, .phase⟩, ⟨3, .phase⟩, ⟨4, .phase⟩, ⟨5, .phase⟩, ⟨6, .phase⟩, ⟨7, .phase⟩, ⟨8, .phase⟩, ⟨9, .phase⟩, ⟨10, .phase⟩, ⟨11, .phase⟩, ⟨12, .phase⟩, ⟨13, .phase⟩], none⟩ ?v64 rfl (by kernel_rfl) (by rfl) ?y64 ?_
  case y64 => intro w hSw; (try dsimp only at hSw); go_simp; all_goals with_reducible rfl
  try simp only [apt12]
  refine wpAnyH_done (by kernel_rfl) ?_ _
  go_wp2_with fail
  go_ret
  exact pr_keep13 HI.out (hH3.2.2.2.2.2.2) (by first | rfl | simp [tr13])
set_option maxHeartbeats 1000000 in
theorem same_any13 (b base : Nat) (h : Hp) (A : Option Addr) (c : Nat) (s : Int) (args : List Int) (SA : Option Addr) (da : Nat) (w : World) (I : In13 w b base h A c s args SA da) (hn : 0 < args.length) :
    Calls Tryz.prog 108 #[.pointer (some ⟨b, 0, none⟩)] w (Po13 w b h A c s args.length SA da (tr13 h (decide (s = args.getD 0 0)))) := by
  obtain ⟨a0, ha0⟩ : ∃ a, a = args.getD 0 0 := ⟨_, rfl⟩
  rw [← ha0]
  have HI := hid I
  obtain ⟨p, o, hSA, q0, -⟩ := I.arg (k := 0) hn
  subst hSA
  rw [← ha0] at q0
  simp only [Nat.add_zero] at q0
  obtain ⟨x0, x1, x2, x3, x4⟩ := I.box.c5
  clear I ha0
  go_enter Tryz.func108, Tryz.ntmps108
  go_upto_region 1 with fail
  refine wp_region_held_drew (S := (fun w' => w'.cell? ⟨b, 0, none⟩ = some (.slice A h.objs.length c) ∧ w'.cell? ⟨b, 1, none⟩ = some (.int .i64 h.cap) ∧ w'.cell? ⟨b, 2, none⟩ = some (.int .i64 h.last) ∧ w'.cell? ⟨b, 3, none⟩ = some (.int .i64 s) ∧ w'.cell? ⟨b, 4, none⟩ = some (.slice (some ⟨p, o, none⟩) args.length da) ∧ w'.cell? ⟨p, o, none⟩ = some (.int .i64 a0) ∧ Below w.heap.size w w')) (by kernel_rfl) ?_ (fun hH0 => ?_)
  · exact ⟨cell_later (Below.refl w.heap.size w).drew x0, cell_later (Below.refl w.heap.size w).drew x1, cell_later (Below.refl w.heap.size w).drew x2, cell_later (Below.refl w.heap.size w).drew x3, cell_later (Below.refl w.heap.size w).drew x4, cell_later (Below.refl w.heap.size w).drew q0, (Below.refl _ _).drew⟩
  refine tkI 0 ⟨some 3, .move (.tmp 0), 70, "prim.go:167", #[], none⟩ ?v65 rfl (by kernel_rfl) (by rfl) ?y65 ?_
  case y65 => intro w hSw; (try dsimp only at hSw); go_simp; all_goals with_reducible rfl
  try simp only [apt12]
  refine tkI 1 ⟨some 4, .nilCheck (.tmp 3), 0, "prim.go:167", #[⟨0, .data⟩], none⟩ ?v66 rfl (by kernel_rfl) (by rfl) ?y66 ?_
  case y66 => intro w hSw; (try dsimp only at hSw); go_simp; all_goals with_reducible rfl
  try simp only [apt12]
  refine tkI 2 ⟨some 5, .fieldAddr 49 (.tmp 4) 1, 0, "prim.go:167", #[⟨1, .data⟩], none⟩ ?v67 rfl (by kernel_rfl) (by rfl) ?y67 ?_
  case y67 => intro w hSw; (try dsimp only at hSw); go_simp; all_goals with_reducible rfl
  try simp only [apt12]
  refine tkI 3 ⟨some 6, .load 3 (.tmp 5), 3, "prim.go:167", #[⟨2, .data⟩], none⟩ ?v68 rfl (by kernel_rfl) (by rfl) ?y68 ?_
  case y68 => intro w hSw; (try dsimp only at hSw); go_simp; all_goals with_reducible rfl
  try simp only [apt12]
  refine tkI 4 ⟨some 7, .move (.tmp 0), 70, "prim.go:167", #[], none⟩ ?v69 rfl (by kernel_rfl) (by rfl) ?y69 ?_
  case y69 => intro w hSw; (try dsimp only at hSw); go_simp; all_goals with_reducible rfl
  try simp only [apt12]
  refine tkI 5 ⟨some 8, .nilCheck (.tmp 7), 0, "prim.go:167", #[⟨4, .data⟩], none⟩ ?v70 rfl (by kernel_rfl) (by rfl) ?y70 ?_
  case y70 => intro w hSw; (try dsimp only at hSw); go_simp; all_goals with_reducible rfl
  try simp only [apt12]
  refine tkI 6 ⟨some 9, .fieldAddr 49 (.tmp 8) 2, 0, "prim.go:167", #[⟨5, .data⟩], none⟩ ?v71 rfl (by kernel_rfl) (by rfl) ?y71 ?_
  case y71 => intro w hSw; (try dsimp only at hSw); go_simp; all_goals with_reducible rfl
  try simp only [apt12]
  refine tkI 7 ⟨some 10, .load 25 (.tmp 9), 25, "prim.go:167", #[⟨6, .data⟩], none⟩ ?v72 rfl (by kernel_rfl) (by rfl) ?y72 ?_
  case y72 => intro w hSw; (try dsimp only at hSw); go_simp; all_goals with_reducible rfl
  try simp only [apt12]
  refine tkI 8 ⟨some 11, .indexAddr 25 (.tmp 10) (.const (Go.Value.int .i64 0)), 0, "prim.go:167", #[⟨7, .data⟩], none⟩ ?v73 rfl (by kernel_rfl) (by rfl) ?y73 ?_
  case y73 => intro w hSw; (try dsimp only at hSw); go_simp; all_goals with_reducible rfl
  try simp only [apt12]
  refine tkI 9 ⟨some 12, .load 3 (.tmp 11), 3, "prim.go:167", #[⟨8, .data⟩], none⟩ ?v74 rfl (by kernel_rfl) (by rfl) ?y74 ?_
  case y74 => intro w hSw; (try dsimp only at hSw); go_simp; all_goals with_reducible rfl
  try simp only [apt12]
  refine tkI 10 ⟨some 13, .binOp .eql 3 (.tmp 6) (.tmp 12) 3, 4, "prim.go:167", #[⟨3, .data⟩, ⟨9, .data⟩], none⟩ ?v75 rfl (by kernel_rfl) (by rfl) ?y75 ?_
  case y75 => intro w hSw; (try dsimp only at hSw); go_simp; all_goals with_reducible rfl
  try simp only [apt12]
  refine wpAnyH_ready (rs := [11]) (by kernel_rfl) (by simp) ?_
  refine AllReadyH.cons (i := 11) (o := ⟨some 14, .call { callee := .value (.func 128), args := #[.tmp 13], argTypes := #[4] }, 3, "prim.go:167", #[⟨10, .data⟩], none⟩) rfl (fun K hK => ?_) AllReadyH.nil
  go_simp
  go_at_call 128
  have BB1 : Hid (Below w.heap.size w _) := (Below.refl _ _).drew
  refine (truth_any13 _ _).mono ?_
  rintro e u1 ⟨rfl, rfl⟩
  refine hK.out _ _ ?_ (fun hH1 => ?_)
  · exact hH0
  clear hK K
  try simp only [apt12]
  refine tkI 12 ⟨some 2, .assign (.tmp 14), 3, "prim.go:167", #[⟨11, .data⟩, ⟨11, .chain⟩, ⟨0, .phase⟩, ⟨1, .phase⟩, ⟨2, .phase⟩, ⟨3, .phase⟩, ⟨4, .phase⟩, ⟨5, .phase⟩, ⟨6, .phase⟩, ⟨7, .phase⟩, ⟨8, .phase⟩, ⟨9, .phase⟩, ⟨10, .phase⟩, ⟨11, .phase⟩], none⟩ ?v76 rfl (by kernel_rfl) (by rfl) ?y76 ?_
  case y76 => intro w hSw; (try dsimp only at hSw); go_simp; all_goals with_reducible rfl
  try simp only [apt12]
  refine wpAnyH_done (by kernel_rfl) ?_ _
  go_wp2_with fail
  go_ret
  exact pr_keep13 HI.out (hH1.2.2.2.2.2.2) rfl
end Go.Proofs.YtkpfmbdkfgeboaaGreat
