/- Primitives 1 to 5, 12, 17 to 22, 27: the closures of the table. -/
import Derived.Test.YtkpfmbdkfgeboaaGreatPK13
namespace Go.Proofs.YtkpfmbdkfgeboaaGreat
open Go.RowKit Flt
set_option maxRecDepth 100000
set_option maxHeartbeats 1000000 in
theorem instanceof_any13 (b base : Nat) (h : Hp) (A : Option Addr) (c : Nat) (s : Int) (args : List Int) (SA : Option Addr) (da : Nat) (w : World) (I : In13 w b base h A c s args SA da) (hn : 0 < args.length) (kb : Nat) (kind : Int) (hk : w.cell? ⟨kb, 0, none⟩ = some (.int .i64 kind)) (hkb : kb ≠ b) :
    Calls Tryz.prog 137 #[.pointer (some ⟨b, 0, none⟩), .pointer (some ⟨kb, 0, none⟩)] w (Po13 w b h A c s args.length SA da (if clB9 h s = false then fa13 h else if nB (args.getD 0 0) = false then fa13 h else al13 h s kind (nV (args.getD 0 0)))) := by
  obtain ⟨a0, ha0⟩ : ∃ a, a = args.getD 0 0 := ⟨_, rfl⟩
  rw [← ha0]
  have HI := hid I
  have HLA := hid (fun k => has_arg13 I.hall (k := k))
  obtain ⟨p, o, hSA, q0, hpb⟩ := I.arg (k := 0) (by omega)
  subst hSA
  rw [← ha0] at q0
  simp only [Nat.add_zero] at q0
  have hn0 : 0 < args.length := by omega
  have hn0I : (0 : Int) < (args.length : Int) := by omega
  have HPB := hid hpb
  obtain ⟨x0, x1, x2, x3, x4⟩ := I.box.c5
  have HA0 := hid ha0
  clear I hpb ha0
  have HPBK := hid hkb
  clear hkb
  obtain ⟨rr, hrr⟩ : ∃ r : Rs, r = (if clB9 h s = false then fa13 h else if nB a0 = false then fa13 h else al13 h s kind (nV a0)) := ⟨_, rfl⟩
  rw [← hrr]
  have HRR := hid hrr
  clear hrr
  cases hc : clB9 h s
  · go_enter Tryz.func137, Tryz.ntmps137
    go_wp2_with fail
    refine (need_no13 b base h A c s args _ da w HI.out hc).mono ?_
    rintro e w1 ⟨rfl, hb⟩
    exact ⟨rfl, pr_stop13 hb (by rw [HRR.out, if_pos hc]; rfl) (by decide)⟩
  clear x0 x1 x2 x3 x4 q0
  have HK := hid hk
  clear hk
  go_enter Tryz.func137, Tryz.ntmps137
  go_wp2_with fail
  refine (need_ok13 b base h A c s args _ da w HI.out hc).mono ?_
  rintro e w1 ⟨rfl, hb⟩
  have I1 := hid (HI.out.later hb)
  have HB := hid hb
  have k0 := cell_later hb HK.out
  obtain ⟨pp, oo, hSA2, q0, -⟩ := I1.out.arg (k := 0) hn0
  obtain ⟨rfl, rfl⟩ : p = pp ∧ o = oo := by
    injection hSA2 with h1
    injection h1 with h1 h2
    exact ⟨h1, h2⟩
  rw [← HA0.out] at q0
  simp only [Nat.add_zero] at q0
  clear hb hSA2
  obtain ⟨x0, x1, x2, x3, x4⟩ := I1.out.box.c5
  cases ha : nB a0
  · go_upto_region 2 with fail
    have BB0 := hid ((Below.refl w1.heap.size w1).drew)
    refine wp_region_held_drew (S := (fun w' => w'.cell? ⟨b, 3, none⟩ = some (.int .i64 s) ∧ w'.cell? ⟨b, 4, none⟩ = some (.slice (some ⟨p, o, none⟩) args.length da) ∧ w'.cell? ⟨p, o, none⟩ = some (.int .i64 a0) ∧ w'.cell? ⟨kb, 0, none⟩ = some (.int .i64 kind) ∧ Onl13 b w1 w')) (by kernel_rfl) ?_ (fun hH0 => ?_)
    · exact ⟨cell_later (Below.refl w1.heap.size w1).drew x3, cell_later (Below.refl w1.heap.size w1).drew x4, cell_later (Below.refl w1.heap.size w1).drew q0, cell_later (Below.refl w1.heap.size w1).drew k0, onl_below13 (Below.refl _ _).drew⟩
    refine tkI 0 ⟨some 6, .move (.tmp 0), 70, "prim.go:145", #[], none⟩ ?v311 rfl (by kernel_rfl) (by rfl) ?y311 ?_
    case y311 => intro w hSw; (try dsimp only at hSw); go_simp; all_goals with_reducible rfl
    try simp only [apt12]
    refine tkI 1 ⟨some 7, .move (.tmp 0), 70, "prim.go:145", #[], none⟩ ?v312 rfl (by kernel_rfl) (by rfl) ?y312 ?_
    case y312 => intro w hSw; (try dsimp only at hSw); go_simp; all_goals with_reducible rfl
    try simp only [apt12]
    refine tkI 2 ⟨some 8, .nilCheck (.tmp 7), 0, "prim.go:145", #[⟨1, .data⟩], none⟩ ?v313 rfl (by kernel_rfl) (by rfl) ?y313 ?_
    case y313 => intro w hSw; (try dsimp only at hSw); go_simp; all_goals with_reducible rfl
    try simp only [apt12]
    refine tkI 3 ⟨some 9, .fieldAddr 49 (.tmp 8) 1, 0, "prim.go:145", #[⟨2, .data⟩], none⟩ ?v314 rfl (by kernel_rfl) (by rfl) ?y314 ?_
    case y314 => intro w hSw; (try dsimp only at hSw); go_simp; all_goals with_reducible rfl
    try simp only [apt12]
    refine tkI 4 ⟨some 10, .load 3 (.tmp 9), 3, "prim.go:145", #[⟨3, .data⟩], none⟩ ?v315 rfl (by kernel_rfl) (by rfl) ?y315 ?_
    case y315 => intro w hSw; (try dsimp only at hSw); go_simp; all_goals with_reducible rfl
    try simp only [apt12]
    refine tkI 5 ⟨some 11, .load 3 (.tmp 1), 3, "prim.go:145", #[], none⟩ ?v316 rfl (by kernel_rfl) (by rfl) ?y316 ?_
    case y316 => intro w hSw; (try dsimp only at hSw); go_simp; all_goals with_reducible rfl
    try simp only [apt12]
    refine tkI 6 ⟨some 12, .move (.tmp 0), 70, "prim.go:145", #[], none⟩ ?v317 rfl (by kernel_rfl) (by rfl) ?y317 ?_
    case y317 => intro w hSw; (try dsimp only at hSw); go_simp; all_goals with_reducible rfl
    try simp only [apt12]
    refine tkI 7 ⟨some 13, .nilCheck (.tmp 12), 0, "prim.go:145", #[⟨6, .data⟩], none⟩ ?v318 rfl (by kernel_rfl) (by rfl) ?y318 ?_
    case y318 => intro w hSw; (try dsimp only at hSw); go_simp; all_goals with_reducible rfl
    try simp only [apt12]
    refine tkI 8 ⟨some 14, .fieldAddr 49 (.tmp 13) 2, 0, "prim.go:145", #[⟨7, .data⟩], none⟩ ?v319 rfl (by kernel_rfl) (by rfl) ?y319 ?_
    case y319 => intro w hSw; (try dsimp only at hSw); go_simp; all_goals with_reducible rfl
    try simp only [apt12]
    refine tkI 9 ⟨some 15, .load 25 (.tmp 14), 25, "prim.go:145", #[⟨8, .data⟩], none⟩ ?v320 rfl (by kernel_rfl) (by rfl) ?y320 ?_
    case y320 => intro w hSw; (try dsimp only at hSw); go_simp; all_goals with_reducible rfl
    try simp only [apt12]
    refine tkI 10 ⟨some 16, .indexAddr 25 (.tmp 15) (.const (Go.Value.int .i64 0)), 0, "prim.go:145", #[⟨9, .data⟩], none⟩ ?v321 rfl (by kernel_rfl) (by rfl) ?y321 ?_
    case y321 => intro w hSw; (try dsimp only at hSw); go_simp; all_goals with_reducible rfl
    try simp only [apt12]
    refine tkI 11 ⟨some 17, .load 3 (.tmp 16), 3, "prim.go:145", #[⟨10, .data⟩], none⟩ ?v322 rfl (by kernel_rfl) (by rfl) ?y322 ?_
    case y322 => intro w hSw; (try dsimp only at hSw); go_simp; all_goals with_reducible rfl
    try simp only [apt12]
    refine wpAnyH_ready (rs := [12]) (by kernel_rfl) (by simp) ?_
    refine AllReadyH.cons (i := 12) (o := ⟨some 18, .call { callee := .value (.func 127), args := #[.tmp 17], argTypes := #[3] }, 3, "prim.go:145", #[⟨11, .data⟩], none⟩) rfl (fun K hK => ?_) AllReadyH.nil
    go_simp
    go_at_call 127
    refine (num_no13 ha _).mono ?_
    rintro e u9 ⟨rfl, rfl⟩
    exact ⟨rfl, pr_then13 HB.out (pr_stop13 BB0.out (by rw [HRR.out, if_neg (by rw [hc]; decide), if_pos ha]; rfl) (by decide))⟩
  have HR2 : Hid (rr = al13 h s kind (nV a0)) := by show _ = _; rw [HRR.out, if_neg (by rw [hc]; decide), if_neg (by rw [ha]; decide)]
  have HE0 : Hid ((al13 h s kind (nV a0)).2.2 = rr.2.2) := by show _ = _; rw [HR2.out]
  by_cases h0 : rr.2.2 = 0
  · go_upto_region 2 with fail
    have BB0 := hid ((Below.refl w1.heap.size w1).drew)
    refine wp_region_held_drew (S := (fun w' => w'.cell? ⟨b, 3, none⟩ = some (.int .i64 s) ∧ w'.cell? ⟨b, 4, none⟩ = some (.slice (some ⟨p, o, none⟩) args.length da) ∧ w'.cell? ⟨p, o, none⟩ = some (.int .i64 a0) ∧ w'.cell? ⟨kb, 0, none⟩ = some (.int .i64 kind) ∧ Onl13 b w1 w')) (by kernel_rfl) ?_ (fun hH0 => ?_)
    · exact ⟨cell_later (Below.refl w1.heap.size w1).drew x3, cell_later (Below.refl w1.heap.size w1).drew x4, cell_later (Below.refl w1.heap.size w1).drew q0, cell_later (Below.refl w1.heap.size w1).drew k0, onl_below13 (Below.refl _ _).drew⟩
    refine tkI 0 ⟨some 6, .move (.tmp 0), 70, "prim.go:145", #[], none⟩ ?v323 rfl (by kernel_rfl) (by rfl) ?y323 ?_
    case y323 => intro w hSw; (try dsimp only at hSw); go_simp; all_goals with_reducible rfl
    try simp only [apt12]
    refine tkI 1 ⟨some 7, .move (.tmp 0), 70, "prim.go:145", #[], none⟩ ?v324 rfl (by kernel_rfl) (by rfl) ?y324 ?_
    case y324 => intro w hSw; (try dsimp only at hSw); go_simp; all_goals with_reducible rfl
    try simp only [apt12]
    refine tkI 2 ⟨some 8, .nilCheck (.tmp 7), 0, "prim.go:145", #[⟨1, .data⟩], none⟩ ?v325 rfl (by kernel_rfl) (by rfl) ?y325 ?_
    case y325 => intro w hSw; (try dsimp only at hSw); go_simp; all_goals with_reducible rfl
    try simp only [apt12]
    refine tkI 3 ⟨some 9, .fieldAddr 49 (.tmp 8) 1, 0, "prim.go:145", #[⟨2, .data⟩], none⟩ ?v326 rfl (by kernel_rfl) (by rfl) ?y326 ?_
    case y326 => intro w hSw; (try dsimp only at hSw); go_simp; all_goals with_reducible rfl
    try simp only [apt12]
    refine tkI 4 ⟨some 10, .load 3 (.tmp 9), 3, "prim.go:145", #[⟨3, .data⟩], none⟩ ?v327 rfl (by kernel_rfl) (by rfl) ?y327 ?_
    case y327 => intro w hSw; (try dsimp only at hSw); go_simp; all_goals with_reducible rfl
    try simp only [apt12]
    refine tkI 5 ⟨some 11, .load 3 (.tmp 1), 3, "prim.go:145", #[], none⟩ ?v328 rfl (by kernel_rfl) (by rfl) ?y328 ?_
    case y328 => intro w hSw; (try dsimp only at hSw); go_simp; all_goals with_reducible rfl
    try simp only [apt12]
    refine tkI 6 ⟨some 12, .move (.tmp 0), 70, "prim.go:145", #[], none⟩ ?v329 rfl (by kernel_rfl) (by rfl) ?y329 ?_
    case y329 => intro w hSw; (try dsimp only at hSw); go_simp; all_goals with_reducible rfl
    try simp only [apt12]
    refine tkI 7 ⟨some 13, .nilCheck (.tmp 12), 0, "prim.go:145", #[⟨6, .data⟩], none⟩ ?v330 rfl (by kernel_rfl) (by rfl) ?y330 ?_
    case y330 => intro w hSw; (try dsimp only at hSw); go_simp; all_goals with_reducible rfl
    try simp only [apt12]
    refine tkI 8 ⟨some 14, .fieldAddr 49 (.tmp 13) 2, 0, "prim.go:145", #[⟨7, .data⟩], none⟩ ?v331 rfl (by kernel_rfl) (by rfl) ?y331 ?_
    case y331 => intro w hSw; (try dsimp only at hSw); go_simp; all_goals with_reducible rfl
    try simp only [apt12]
    refine tkI 9 ⟨some 15, .load 25 (.tmp 14), 25, "prim.go:145", #[⟨8, .data⟩], none⟩ ?v332 rfl (by kernel_rfl) (by rfl) ?y332 ?_
    case y332 => intro w hSw; (try dsimp only at hSw); go_simp; all_goals with_reducible rfl
    try simp only [apt12]
    refine tkI 10 ⟨some 16, .indexAddr 25 (.tmp 15) (.const (Go.Value.int .i64 0)), 0, "prim.go:145", #[⟨9, .data⟩], none⟩ ?v333 rfl (by kernel_rfl) (by rfl) ?y333 ?_
    case y333 => intro w hSw; (try dsimp only at hSw); go_simp; all_goals with_reducible rfl
    try simp only [apt12]
    refine tkI 11 ⟨some 17, .load 3 (.tmp 16), 3, "prim.go:145", #[⟨10, .data⟩], none⟩ ?v334 rfl (by kernel_rfl) (by rfl) ?y334 ?_
    case y334 => intro w hSw; (try dsimp only at hSw); go_simp; all_goals with_reducible rfl
    try simp only [apt12]
    refine wpAnyH_ready (rs := [12]) (by kernel_rfl) (by simp) ?_
    refine AllReadyH.cons (i := 12) (o := ⟨some 18, .call { callee := .value (.func 127), args := #[.tmp 17], argTypes := #[3] }, 3, "prim.go:145", #[⟨11, .data⟩], none⟩) rfl (fun K hK => ?_) AllReadyH.nil
    go_simp
    go_at_call 127
    refine (num_ok13 ha _).mono ?_
    rintro e u1 ⟨rfl, rfl⟩
    refine hK.out _ _ ?_ (fun hH1 => ?_)
    · exact hH0
    clear hK K
    try simp only [apt12]
    refine wpAnyH_ready (rs := [13]) (by kernel_rfl) (by simp) ?_
    refine AllReadyH.cons (i := 13) (o := ⟨some 19, .call { callee := .value (.func 136), args := #[.tmp 6, .tmp 10, .tmp 11, .tmp 18], argTypes := #[70, 3, 3, 3] }, 3, "prim.go:145", #[⟨0, .data⟩, ⟨4, .data⟩, ⟨5, .data⟩, ⟨12, .data⟩, ⟨12, .chain⟩], none⟩) rfl (fun K hK => ?_) AllReadyH.nil
    go_simp
    go_at_call 136
    refine (palloc_any13 b base h A c s args _ da _ (I1.out.later BB0.out) s kind (nV a0)).mono ?_
    rintro e u2 PP
    have PQ := hid (pr_after13 (h := h) (A := A) (c := c) BB0.out I1.out.low PP)
    obtain ⟨rfl, A2, c2, kc, kf⟩ := PP.2.2 (by rw [HE0.out]; exact h0)
    refine hK.out _ _ ?_ (fun hH2 => ?_)
    · exact ⟨kc.cell 3, kc.cell 4, PP.1.cell (hH1.2.2.1) (fun e => by injection e with e; exact HPB.out e), PP.1.cell (hH1.2.2.2.1) (fun e => by injection e with e; exact HPBK.out e), (hH1.2.2.2.2).trans PP.1⟩
    clear hK K
    try simp only [apt12]
    clear PP kc kf
    refine tkI 14 ⟨some 3, .assign (.tmp 19), 3, "prim.go:145", #[⟨13, .data⟩, ⟨13, .chain⟩, ⟨0, .phase⟩, ⟨1, .phase⟩, ⟨2, .phase⟩, ⟨3, .phase⟩, ⟨4, .phase⟩, ⟨5, .phase⟩, ⟨6, .phase⟩, ⟨7, .phase⟩, ⟨8, .phase⟩, ⟨9, .phase⟩, ⟨10, .phase⟩, ⟨11, .phase⟩, ⟨12, .phase⟩, ⟨13, .phase⟩], none⟩ ?v335 rfl (by kernel_rfl) (by rfl) ?y335 ?_
    case y335 => intro w hSw; (try dsimp only at hSw); go_simp; all_goals with_reducible rfl
    try simp only [apt12]
    refine wpAnyH_done (by kernel_rfl) ?_ _
    go_wp2_with fail
    go_ret
    rw [HR2.out]
    exact pr_then13 HB.out PQ.out
  go_upto_region 2 with fail
  have BB0 := hid ((Below.refl w1.heap.size w1).drew)
  refine wp_region_held_drew (S := (fun w' => w'.cell? ⟨b, 3, none⟩ = some (.int .i64 s) ∧ w'.cell? ⟨b, 4, none⟩ = some (.slice (some ⟨p, o, none⟩) args.length da) ∧ w'.cell? ⟨p, o, none⟩ = some (.int .i64 a0) ∧ w'.cell? ⟨kb, 0, none⟩ = some (.int .i64 kind) ∧ Onl13 b w1 w')) (by kernel_rfl) ?_ (fun hH0 => ?_)
  · exact ⟨cell_later (Below.refl w1.heap.size w1).drew x3, cell_later (Below.refl w1.heap.size w1).drew x4, cell_later (Below.refl w1.heap.size w1).drew q0, cell_later (Below.refl w1.heap.size w1).drew k0, onl_below13 (Below.refl _ _).drew⟩
  refine tkI 0 ⟨some 6, .move (.tmp 0), 70, "prim.go:145", #[], none⟩ ?v336 rfl (by kernel_rfl) (by rfl) ?y336 ?_
  case y336 => intro w hSw; (try dsimp only at hSw); go_simp; all_goals with_reducible rfl
  try simp only [apt12]
  refine tkI 1 ⟨some 7, .move (.tmp 0), 70, "prim.go:145", #[], none⟩ ?v337 rfl (by kernel_rfl) (by rfl) ?y337 ?_
  case y337 => intro w hSw; (try dsimp only at hSw); go_simp; all_goals with_reducible rfl
  try simp only [apt12]
  refine tkI 2 ⟨some 8, .nilCheck (.tmp 7), 0, "prim.go:145", #[⟨1, .data⟩], none⟩ ?v338 rfl (by kernel_rfl) (by rfl) ?y338 ?_
  case y338 => intro w hSw; (try dsimp only at hSw); go_simp; all_goals with_reducible rfl
  try simp only [apt12]
  refine tkI 3 ⟨some 9, .fieldAddr 49 (.tmp 8) 1, 0, "prim.go:145", #[⟨2, .data⟩], none⟩ ?v339 rfl (by kernel_rfl) (by rfl) ?y339 ?_
  case y339 => intro w hSw; (try dsimp only at hSw); go_simp; all_goals with_reducible rfl
  try simp only [apt12]
  refine tkI 4 ⟨some 10, .load 3 (.tmp 9), 3, "prim.go:145", #[⟨3, .data⟩], none⟩ ?v340 rfl (by kernel_rfl) (by rfl) ?y340 ?_
  case y340 => intro w hSw; (try dsimp only at hSw); go_simp; all_goals with_reducible rfl
  try simp only [apt12]
  refine tkI 5 ⟨some 11, .load 3 (.tmp 1), 3, "prim.go:145", #[], none⟩ ?v341 rfl (by kernel_rfl) (by rfl) ?y341 ?_
  case y341 => intro w hSw; (try dsimp only at hSw); go_simp; all_goals with_reducible rfl
  try simp only [apt12]
  refine tkI 6 ⟨some 12, .move (.tmp 0), 70, "prim.go:145", #[], none⟩ ?v342 rfl (by kernel_rfl) (by rfl) ?y342 ?_
  case y342 => intro w hSw; (try dsimp only at hSw); go_simp; all_goals with_reducible rfl
  try simp only [apt12]
  refine tkI 7 ⟨some 13, .nilCheck (.tmp 12), 0, "prim.go:145", #[⟨6, .data⟩], none⟩ ?v343 rfl (by kernel_rfl) (by rfl) ?y343 ?_
  case y343 => intro w hSw; (try dsimp only at hSw); go_simp; all_goals with_reducible rfl
  try simp only [apt12]
  refine tkI 8 ⟨some 14, .fieldAddr 49 (.tmp 13) 2, 0, "prim.go:145", #[⟨7, .data⟩], none⟩ ?v344 rfl (by kernel_rfl) (by rfl) ?y344 ?_
  case y344 => intro w hSw; (try dsimp only at hSw); go_simp; all_goals with_reducible rfl
  try simp only [apt12]
  refine tkI 9 ⟨some 15, .load 25 (.tmp 14), 25, "prim.go:145", #[⟨8, .data⟩], none⟩ ?v345 rfl (by kernel_rfl) (by rfl) ?y345 ?_
  case y345 => intro w hSw; (try dsimp only at hSw); go_simp; all_goals with_reducible rfl
  try simp only [apt12]
  refine tkI 10 ⟨some 16, .indexAddr 25 (.tmp 15) (.const (Go.Value.int .i64 0)), 0, "prim.go:145", #[⟨9, .data⟩], none⟩ ?v346 rfl (by kernel_rfl) (by rfl) ?y346 ?_
  case y346 => intro w hSw; (try dsimp only at hSw); go_simp; all_goals with_reducible rfl
  try simp only [apt12]
  refine tkI 11 ⟨some 17, .load 3 (.tmp 16), 3, "prim.go:145", #[⟨10, .data⟩], none⟩ ?v347 rfl (by kernel_rfl) (by rfl) ?y347 ?_
  case y347 => intro w hSw; (try dsimp only at hSw); go_simp; all_goals with_reducible rfl
  try simp only [apt12]
  refine wpAnyH_ready (rs := [12]) (by kernel_rfl) (by simp) ?_
  refine AllReadyH.cons (i := 12) (o := ⟨some 18, .call { callee := .value (.func 127), args := #[.tmp 17], argTypes := #[3] }, 3, "prim.go:145", #[⟨11, .data⟩], none⟩) rfl (fun K hK => ?_) AllReadyH.nil
  go_simp
  go_at_call 127
  refine (num_ok13 ha _).mono ?_
  rintro e u1 ⟨rfl, rfl⟩
  refine hK.out _ _ ?_ (fun hH1 => ?_)
  · exact hH0
  clear hK K
  try simp only [apt12]
  refine wpAnyH_ready (rs := [13]) (by kernel_rfl) (by simp) ?_
  refine AllReadyH.cons (i := 13) (o := ⟨some 19, .call { callee := .value (.func 136), args := #[.tmp 6, .tmp 10, .tmp 11, .tmp 18], argTypes := #[70, 3, 3, 3] }, 3, "prim.go:145", #[⟨0, .data⟩, ⟨4, .data⟩, ⟨5, .data⟩, ⟨12, .data⟩, ⟨12, .chain⟩], none⟩) rfl (fun K hK => ?_) AllReadyH.nil
  go_simp
  go_at_call 136
  refine (palloc_any13 b base h A c s args _ da _ (I1.out.later BB0.out) s kind (nV a0)).mono ?_
  rintro e u2 PP
  have PQ := hid (pr_after13 (h := h) (A := A) (c := c) BB0.out I1.out.low PP)
  obtain rfl := PP.2.1 (by rw [HE0.out]; exact h0)
  exact ⟨rfl, (by rw [HR2.out]; exact pr_then13 HB.out PQ.out)⟩
set_option maxHeartbeats 1000000 in
theorem offloats_any13 (b base : Nat) (h : Hp) (A : Option Addr) (c : Nat) (s : Int) (args : List Int) (SA : Option Addr) (da : Nat) (w : World) (I : In13 w b base h A c s args SA da) (hn : 0 < args.length) (kb : Nat) (doo : Int) (hk : w.cell? ⟨kb, 0, none⟩ = some (.int .i64 doo)) (hkb : kb ≠ b) :
    Calls Tryz.prog 141 #[.pointer (some ⟨b, 0, none⟩), .pointer (some ⟨kb, 0, none⟩)] w (Po13 w b h A c s args.length SA da (match fl13 h s with | none => fa13 h | some x => match fl13 h (args.getD 0 0) with | none => fa13 h | some y => nf13 h (fOp doo x y))) := by
  obtain ⟨a0, ha0⟩ : ∃ a, a = args.getD 0 0 := ⟨_, rfl⟩
  rw [← ha0]
  have HI := hid I
  have HLA := hid (fun k => has_arg13 I.hall (k := k))
  obtain ⟨p, o, hSA, q0, hpb⟩ := I.arg (k := 0) (by omega)
  subst hSA
  rw [← ha0] at q0
  simp only [Nat.add_zero] at q0
  have hn0 : 0 < args.length := by omega
  have hn0I : (0 : Int) < (args.length : Int) := by omega
  have HPB := hid hpb
  obtain ⟨x0, x1, x2, x3, x4⟩ := I.box.c5
  have HA0 := hid ha0
  clear I hpb ha0
  have HPBK := hid hkb
  clear hkb
  have k0 := hk
  clear hk
  obtain ⟨rr, hrr⟩ : ∃ r : Rs, r = (match fl13 h s with | none => fa13 h | some x => match fl13 h a0 with | none => fa13 h | some y => nf13 h (fOp doo x y)) := ⟨_, rfl⟩
  rw [← hrr]
  have HRR := hid hrr
  clear hrr
  rcases hx : fl13 h s with _ | x
  · have HX := hid hx
    clear hx
    go_enter Tryz.func141, Tryz.ntmps141
    go_upto_region 1 with fail
    have BB0 := hid ((Below.refl w.heap.size w).drew)
    refine wp_region_held_drew (S := (fun w' => w'.cell? ⟨b, 3, none⟩ = some (.int .i64 s) ∧ w'.cell? ⟨b, 4, none⟩ = some (.slice (some ⟨p, o, none⟩) args.length da) ∧ w'.cell? ⟨p, o, none⟩ = some (.int .i64 a0) ∧ w'.cell? ⟨kb, 0, none⟩ = some (.int .i64 doo) ∧ Onl13 b w w')) (by kernel_rfl) ?_ (fun hH0 => ?_)
    · exact ⟨cell_later (Below.refl w.heap.size w).drew x3, cell_later (Below.refl w.heap.size w).drew x4, cell_later (Below.refl w.heap.size w).drew q0, cell_later (Below.refl w.heap.size w).drew k0, onl_below13 (Below.refl _ _).drew⟩
    refine tkI 0 ⟨some 4, .move (.tmp 0), 70, "prim.go:133", #[], none⟩ ?v348 rfl (by kernel_rfl) (by rfl) ?y348 ?_
    case y348 => intro w hSw; (try dsimp only at hSw); go_simp; all_goals with_reducible rfl
    try simp only [apt12]
    refine tkI 1 ⟨some 5, .load 3 (.tmp 1), 3, "prim.go:133", #[], none⟩ ?v349 rfl (by kernel_rfl) (by rfl) ?y349 ?_
    case y349 => intro w hSw; (try dsimp only at hSw); go_simp; all_goals with_reducible rfl
    try simp only [apt12]
    refine tkI 2 ⟨some 6, .move (.tmp 0), 70, "prim.go:133", #[], none⟩ ?v350 rfl (by kernel_rfl) (by rfl) ?y350 ?_
    case y350 => intro w hSw; (try dsimp only at hSw); go_simp; all_goals with_reducible rfl
    try simp only [apt12]
    refine tkI 3 ⟨some 7, .move (.tmp 0), 70, "prim.go:133", #[], none⟩ ?v351 rfl (by kernel_rfl) (by rfl) ?y351 ?_
    case y351 => intro w hSw; (try dsimp only at hSw); go_simp; all_goals with_reducible rfl
    try simp only [apt12]
    refine tkI 4 ⟨some 8, .nilCheck (.tmp 7), 0, "prim.go:133", #[⟨3, .data⟩], none⟩ ?v352 rfl (by kernel_rfl) (by rfl) ?y352 ?_
    case y352 => intro w hSw; (try dsimp only at hSw); go_simp; all_goals with_reducible rfl
    try simp only [apt12]
    refine tkI 5 ⟨some 9, .fieldAddr 49 (.tmp 8) 1, 0, "prim.go:133", #[⟨4, .data⟩], none⟩ ?v353 rfl (by kernel_rfl) (by rfl) ?y353 ?_
    case y353 => intro w hSw; (try dsimp only at hSw); go_simp; all_goals with_reducible rfl
    try simp only [apt12]
    refine tkI 6 ⟨some 10, .load 3 (.tmp 9), 3, "prim.go:133", #[⟨5, .data⟩], none⟩ ?v354 rfl (by kernel_rfl) (by rfl) ?y354 ?_
    case y354 => intro w hSw; (try dsimp only at hSw); go_simp; all_goals with_reducible rfl
    try simp only [apt12]
    refine tkI 8 ⟨some 12, .move (.tmp 0), 70, "prim.go:133", #[], none⟩ ?v355 rfl (by kernel_rfl) (by rfl) ?y355 ?_
    case y355 => intro w hSw; (try dsimp only at hSw); go_simp; all_goals with_reducible rfl
    try simp only [apt12]
    refine tkI 9 ⟨some 13, .move (.tmp 0), 70, "prim.go:133", #[], none⟩ ?v356 rfl (by kernel_rfl) (by rfl) ?y356 ?_
    case y356 => intro w hSw; (try dsimp only at hSw); go_simp; all_goals with_reducible rfl
    try simp only [apt12]
    refine tkI 10 ⟨some 14, .nilCheck (.tmp 13), 0, "prim.go:133", #[⟨9, .data⟩], none⟩ ?v357 rfl (by kernel_rfl) (by rfl) ?y357 ?_
    case y357 => intro w hSw; (try dsimp only at hSw); go_simp; all_goals with_reducible rfl
    try simp only [apt12]
    refine tkI 11 ⟨some 15, .fieldAddr 49 (.tmp 14) 2, 0, "prim.go:133", #[⟨10, .data⟩], none⟩ ?v358 rfl (by kernel_rfl) (by rfl) ?y358 ?_
    case y358 => intro w hSw; (try dsimp only at hSw); go_simp; all_goals with_reducible rfl
    try simp only [apt12]
    refine tkI 12 ⟨some 16, .load 25 (.tmp 15), 25, "prim.go:133", #[⟨11, .data⟩], none⟩ ?v359 rfl (by kernel_rfl) (by rfl) ?y359 ?_
    case y359 => intro w hSw; (try dsimp only at hSw); go_simp; all_goals with_reducible rfl
    try simp only [apt12]
    refine tkI 13 ⟨some 17, .indexAddr 25 (.tmp 16) (.const (Go.Value.int .i64 0)), 0, "prim.go:133", #[⟨12, .data⟩], none⟩ ?v360 rfl (by kernel_rfl) (by rfl) ?y360 ?_
    case y360 => intro w hSw; (try dsimp only at hSw); go_simp; all_goals with_reducible rfl
    try simp only [apt12]
    refine tkI 14 ⟨some 18, .load 3 (.tmp 17), 3, "prim.go:133", #[⟨13, .data⟩], none⟩ ?v361 rfl (by kernel_rfl) (by rfl) ?y361 ?_
    case y361 => intro w hSw; (try dsimp only at hSw); go_simp; all_goals with_reducible rfl
    try simp only [apt12]
    refine wpAnyH_ready (rs := [7]) (by kernel_rfl) (by simp) ?_
    refine AllReadyH.cons (i := 7) (o := ⟨some 11, .call { callee := .value (.func 144), args := #[.tmp 6, .tmp 10], argTypes := #[70, 3] }, 3, "prim.go:133", #[⟨2, .data⟩, ⟨6, .data⟩], none⟩) rfl (fun K hK => ?_) AllReadyH.nil
    go_simp
    go_at_call 144
    refine (fltd_any13 b base h A c s args _ da _ (HI.out.later BB0.out) HI.out.has).mono ?_
    rintro e u9 ⟨hb, k1, -⟩
    obtain rfl := k1 HX.out
    exact ⟨rfl, pr_stop13 (then_w BB0.out hb) (by rw [HRR.out, HX.out]; rfl) (by decide)⟩
  have HX := hid hx
  clear hx
  rcases hy : fl13 h a0 with _ | y
  · have HY := hid hy
    clear hy
    go_enter Tryz.func141, Tryz.ntmps141
    go_upto_region 1 with fail
    have BB0 := hid ((Below.refl w.heap.size w).drew)
    refine wp_region_held_drew (S := (fun w' => w'.cell? ⟨b, 3, none⟩ = some (.int .i64 s) ∧ w'.cell? ⟨b, 4, none⟩ = some (.slice (some ⟨p, o, none⟩) args.length da) ∧ w'.cell? ⟨p, o, none⟩ = some (.int .i64 a0) ∧ w'.cell? ⟨kb, 0, none⟩ = some (.int .i64 doo) ∧ Onl13 b w w')) (by kernel_rfl) ?_ (fun hH0 => ?_)
    · exact ⟨cell_later (Below.refl w.heap.size w).drew x3, cell_later (Below.refl w.heap.size w).drew x4, cell_later (Below.refl w.heap.size w).drew q0, cell_later (Below.refl w.heap.size w).drew k0, onl_below13 (Below.refl _ _).drew⟩
    refine tkI 0 ⟨some 4, .move (.tmp 0), 70, "prim.go:133", #[], none⟩ ?v362 rfl (by kernel_rfl) (by rfl) ?y362 ?_
    case y362 => intro w hSw; (try dsimp only at hSw); go_simp; all_goals with_reducible rfl
    try simp only [apt12]
    refine tkI 1 ⟨some 5, .load 3 (.tmp 1), 3, "prim.go:133", #[], none⟩ ?v363 rfl (by kernel_rfl) (by rfl) ?y363 ?_
    case y363 => intro w hSw; (try dsimp only at hSw); go_simp; all_goals with_reducible rfl
    try simp only [apt12]
    refine tkI 2 ⟨some 6, .move (.tmp 0), 70, "prim.go:133", #[], none⟩ ?v364 rfl (by kernel_rfl) (by rfl) ?y364 ?_
    case y364 => intro w hSw; (try dsimp only at hSw); go_simp; all_goals with_reducible rfl
    try simp only [apt12]
    refine tkI 3 ⟨some 7, .move (.tmp 0), 70, "prim.go:133", #[], none⟩ ?v365 rfl (by kernel_rfl) (by rfl) ?y365 ?_
    case y365 => intro w hSw; (try dsimp only at hSw); go_simp; all_goals with_reducible rfl
    try simp only [apt12]
    refine tkI 4 ⟨some 8, .nilCheck (.tmp 7), 0, "prim.go:133", #[⟨3, .data⟩], none⟩ ?v366 rfl (by kernel_rfl) (by rfl) ?y366 ?_
    case y366 => intro w hSw; (try dsimp only at hSw); go_simp; all_goals with_reducible rfl
    try simp only [apt12]
    refine tkI 5 ⟨some 9, .fieldAddr 49 (.tmp 8) 1, 0, "prim.go:133", #[⟨4, .data⟩], none⟩ ?v367 rfl (by kernel_rfl) (by rfl) ?y367 ?_
    case y367 => intro w hSw; (try dsimp only at hSw); go_simp; all_goals with_reducible rfl
    try simp only [apt12]
    refine tkI 6 ⟨some 10, .load 3 (.tmp 9), 3, "prim.go:133", #[⟨5, .data⟩], none⟩ ?v368 rfl (by kernel_rfl) (by rfl) ?y368 ?_
    case y368 => intro w hSw; (try dsimp only at hSw); go_simp; all_goals with_reducible rfl
    try simp only [apt12]
    refine tkI 8 ⟨some 12, .move (.tmp 0), 70, "prim.go:133", #[], none⟩ ?v369 rfl (by kernel_rfl) (by rfl) ?y369 ?_
    case y369 => intro w hSw; (try dsimp only at hSw); go_simp; all_goals with_reducible rfl
    try simp only [apt12]
    refine tkI 9 ⟨some 13, .move (.tmp 0), 70, "prim.go:133", #[], none⟩ ?v370 rfl (by kernel_rfl) (by rfl) ?y370 ?_
    case y370 => intro w hSw; (try dsimp only at hSw); go_simp; all_goals with_reducible rfl
    try simp only [apt12]
    refine tkI 10 ⟨some 14, .nilCheck (.tmp 13), 0, "prim.go:133", #[⟨9, .data⟩], none⟩ ?v371 rfl (by kernel_rfl) (by rfl) ?y371 ?_
    case y371 => intro w hSw; (try dsimp only at hSw); go_simp; all_goals with_reducible rfl
    try simp only [apt12]
    refine tkI 11 ⟨some 15, .fieldAddr 49 (.tmp 14) 2, 0, "prim.go:133", #[⟨10, .data⟩], none⟩ ?v372 rfl (by kernel_rfl) (by rfl) ?y372 ?_
    case y372 => intro w hSw; (try dsimp only at hSw); go_simp; all_goals with_reducible rfl
    try simp only [apt12]
    refine tkI 12 ⟨some 16, .load 25 (.tmp 15), 25, "prim.go:133", #[⟨11, .data⟩], none⟩ ?v373 rfl (by kernel_rfl) (by rfl) ?y373 ?_
    case y373 => intro w hSw; (try dsimp only at hSw); go_simp; all_goals with_reducible rfl
    try simp only [apt12]
    refine tkI 13 ⟨some 17, .indexAddr 25 (.tmp 16) (.const (Go.Value.int .i64 0)), 0, "prim.go:133", #[⟨12, .data⟩], none⟩ ?v374 rfl (by kernel_rfl) (by rfl) ?y374 ?_
    case y374 => intro w hSw; (try dsimp only at hSw); go_simp; all_goals with_reducible rfl
    try simp only [apt12]
    refine tkI 14 ⟨some 18, .load 3 (.tmp 17), 3, "prim.go:133", #[⟨13, .data⟩], none⟩ ?v375 rfl (by kernel_rfl) (by rfl) ?y375 ?_
    case y375 => intro w hSw; (try dsimp only at hSw); go_simp; all_goals with_reducible rfl
    try simp only [apt12]
    refine wpAnyH_ready (rs := [7]) (by kernel_rfl) (by simp) ?_
    refine AllReadyH.cons (i := 7) (o := ⟨some 11, .call { callee := .value (.func 144), args := #[.tmp 6, .tmp 10], argTypes := #[70, 3] }, 3, "prim.go:133", #[⟨2, .data⟩, ⟨6, .data⟩], none⟩) rfl (fun K hK => ?_) AllReadyH.nil
    go_simp
    go_at_call 144
    refine (fltd_any13 b base h A c s args _ da _ (HI.out.later BB0.out) HI.out.has).mono ?_
    rintro e u1 ⟨hb, k1, k2⟩
    obtain rfl := k2 _ HX.out
    clear k1 k2
    have BB1 := hid (then_w BB0.out hb)
    refine hK.out _ _ ?_ (fun hH1 => ?_)
    · exact ⟨cell_later hb hH0.1, cell_later hb hH0.2.1, cell_later hb hH0.2.2.1, cell_later hb hH0.2.2.2.1, (hH0.2.2.2.2).trans (onl_below13 hb)⟩
    clear hK K
    try simp only [apt12]
    clear hb
    refine wpAnyH_ready (rs := [15]) (by kernel_rfl) (by simp) ?_
    refine AllReadyH.cons (i := 15) (o := ⟨some 19, .call { callee := .value (.func 144), args := #[.tmp 12, .tmp 18], argTypes := #[70, 3] }, 3, "prim.go:133", #[⟨8, .data⟩, ⟨14, .data⟩, ⟨7, .chain⟩], none⟩) rfl (fun K hK => ?_) AllReadyH.nil
    go_simp
    go_at_call 144
    refine (fltd_any13 b base h A c s args _ da _ (HI.out.later BB1.out) (v := a0) (by rw [HA0.out]; exact HLA.out 0 hn0)).mono ?_
    rintro e u9 ⟨hb, k1, -⟩
    obtain rfl := k1 HY.out
    exact ⟨rfl, pr_stop13 (then_w BB1.out hb) (by rw [HRR.out, HX.out, HY.out]; rfl) (by decide)⟩
  have HY := hid hy
  clear hy
  have HR2 : Hid (rr = nf13 h (fOp doo x y)) := by show _ = _; rw [HRR.out, HX.out, HY.out]
  have HE0 : Hid ((nf13 h (fOp doo x y)).2.2 = rr.2.2) := by show _ = _; rw [HR2.out]
  by_cases h0 : rr.2.2 = 0
  · go_enter Tryz.func141, Tryz.ntmps141
    go_upto_region 1 with fail
    have BB0 := hid ((Below.refl w.heap.size w).drew)
    refine wp_region_held_drew (S := (fun w' => w'.cell? ⟨b, 3, none⟩ = some (.int .i64 s) ∧ w'.cell? ⟨b, 4, none⟩ = some (.slice (some ⟨p, o, none⟩) args.length da) ∧ w'.cell? ⟨p, o, none⟩ = some (.int .i64 a0) ∧ w'.cell? ⟨kb, 0, none⟩ = some (.int .i64 doo) ∧ Onl13 b w w')) (by kernel_rfl) ?_ (fun hH0 => ?_)
    · exact ⟨cell_later (Below.refl w.heap.size w).drew x3, cell_later (Below.refl w.heap.size w).drew x4, cell_later (Below.refl w.heap.size w).drew q0, cell_later (Below.refl w.heap.size w).drew k0, onl_below13 (Below.refl _ _).drew⟩
    refine tkI 0 ⟨some 4, .move (.tmp 0), 70, "prim.go:133", #[], none⟩ ?v376 rfl (by kernel_rfl) (by rfl) ?y376 ?_
    case y376 => intro w hSw; (try dsimp only at hSw); go_simp; all_goals with_reducible rfl
    try simp only [apt12]
    refine tkI 1 ⟨some 5, .load 3 (.tmp 1), 3, "prim.go:133", #[], none⟩ ?v377 rfl (by kernel_rfl) (by rfl) ?y377 ?_
    case y377 => intro w hSw; (try dsimp only at hSw); go_simp; all_goals with_reducible rfl
    try simp only [apt12]
    refine tkI 2 ⟨some 6, .move (.tmp 0), 70, "prim.go:133", #[], none⟩ ?v378 rfl (by kernel_rfl) (by rfl) ?y378 ?_
    case y378 => intro w hSw; (try dsimp only at hSw); go_simp; all_goals with_reducible rfl
    try simp only [apt12]
    refine tkI 3 ⟨some 7, .move (.tmp 0), 70, "prim.go:133", #[], none⟩ ?v379 rfl (by kernel_rfl) (by rfl) ?y379 ?_
    case y379 => intro w hSw; (try dsimp only at hSw); go_simp; all_goals with_reducible rfl
    try simp only [apt12]
    refine tkI 4 ⟨some 8, .nilCheck (.tmp 7), 0, "prim.go:133", #[⟨3, .data⟩], none⟩ ?v380 rfl (by kernel_rfl) (by rfl) ?y380 ?_
    case y380 => intro w hSw; (try dsimp only at hSw); go_simp; all_goals with_reducible rfl
    try simp only [apt12]
    refine tkI 5 ⟨some 9, .fieldAddr 49 (.tmp 8) 1, 0, "prim.go:133", #[⟨4, .data⟩], none⟩ ?v381 rfl (by kernel_rfl) (by rfl) ?y381 ?_
    case y381 => intro w hSw; (try dsimp only at hSw); go_simp; all_goals with_reducible rfl
    try simp only [apt12]
    refine tkI 6 ⟨some 10, .load 3 (.tmp 9), 3, "prim.go:133", #[⟨5, .data⟩], none⟩ ?v382 rfl (by kernel_rfl) (by rfl) ?y382 ?_
    case y382 => intro w hSw; (try dsimp only at hSw); go_simp; all_goals with_reducible rfl
    try simp only [apt12]
    refine tkI 8 ⟨some 12, .move (.tmp 0), 70, "prim.go:133", #[], none⟩ ?v383 rfl (by kernel_rfl) (by rfl) ?y383 ?_
    case y383 => intro w hSw; (try dsimp only at hSw); go_simp; all_goals with_reducible rfl
    try simp only [apt12]
    refine tkI 9 ⟨some 13, .move (.tmp 0), 70, "prim.go:133", #[], none⟩ ?v384 rfl (by kernel_rfl) (by rfl) ?y384 ?_
    case y384 => intro w hSw; (try dsimp only at hSw); go_simp; all_goals with_reducible rfl
    try simp only [apt12]
    refine tkI 10 ⟨some 14, .nilCheck (.tmp 13), 0, "prim.go:133", #[⟨9, .data⟩], none⟩ ?v385 rfl (by kernel_rfl) (by rfl) ?y385 ?_
    case y385 => intro w hSw; (try dsimp only at hSw); go_simp; all_goals with_reducible rfl
    try simp only [apt12]
    refine tkI 11 ⟨some 15, .fieldAddr 49 (.tmp 14) 2, 0, "prim.go:133", #[⟨10, .data⟩], none⟩ ?v386 rfl (by kernel_rfl) (by rfl) ?y386 ?_
    case y386 => intro w hSw; (try dsimp only at hSw); go_simp; all_goals with_reducible rfl
    try simp only [apt12]
    refine tkI 12 ⟨some 16, .load 25 (.tmp 15), 25, "prim.go:133", #[⟨11, .data⟩], none⟩ ?v387 rfl (by kernel_rfl) (by rfl) ?y387 ?_
    case y387 => intro w hSw; (try dsimp only at hSw); go_simp; all_goals with_reducible rfl
    try simp only [apt12]
    refine tkI 13 ⟨some 17, .indexAddr 25 (.tmp 16) (.const (Go.Value.int .i64 0)), 0, "prim.go:133", #[⟨12, .data⟩], none⟩ ?v388 rfl (by kernel_rfl) (by rfl) ?y388 ?_
    case y388 => intro w hSw; (try dsimp only at hSw); go_simp; all_goals with_reducible rfl
    try simp only [apt12]
    refine tkI 14 ⟨some 18, .load 3 (.tmp 17), 3, "prim.go:133", #[⟨13, .data⟩], none⟩ ?v389 rfl (by kernel_rfl) (by rfl) ?y389 ?_
    case y389 => intro w hSw; (try dsimp only at hSw); go_simp; all_goals with_reducible rfl
    try simp only [apt12]
    refine wpAnyH_ready (rs := [7]) (by kernel_rfl) (by simp) ?_
    refine AllReadyH.cons (i := 7) (o := ⟨some 11, .call { callee := .value (.func 144), args := #[.tmp 6, .tmp 10], argTypes := #[70, 3] }, 3, "prim.go:133", #[⟨2, .data⟩, ⟨6, .data⟩], none⟩) rfl (fun K hK => ?_) AllReadyH.nil
    go_simp
    go_at_call 144
    refine (fltd_any13 b base h A c s args _ da _ (HI.out.later BB0.out) HI.out.has).mono ?_
    rintro e u1 ⟨hb, k1, k2⟩
    obtain rfl := k2 _ HX.out
    clear k1 k2
    have BB1 := hid (then_w BB0.out hb)
    refine hK.out _ _ ?_ (fun hH1 => ?_)
    · exact ⟨cell_later hb hH0.1, cell_later hb hH0.2.1, cell_later hb hH0.2.2.1, cell_later hb hH0.2.2.2.1, (hH0.2.2.2.2).trans (onl_below13 hb)⟩
    clear hK K
    try simp only [apt12]
    clear hb
    refine wpAnyH_ready (rs := [15]) (by kernel_rfl) (by simp) ?_
    refine AllReadyH.cons (i := 15) (o := ⟨some 19, .call { callee := .value (.func 144), args := #[.tmp 12, .tmp 18], argTypes := #[70, 3] }, 3, "prim.go:133", #[⟨8, .data⟩, ⟨14, .data⟩, ⟨7, .chain⟩], none⟩) rfl (fun K hK => ?_) AllReadyH.nil
    go_simp
    go_at_call 144
    refine (fltd_any13 b base h A c s args _ da _ (HI.out.later BB1.out) (v := a0) (by rw [HA0.out]; exact HLA.out 0 hn0)).mono ?_
    rintro e u2 ⟨hb, k1, k2⟩
    obtain rfl := k2 _ HY.out
    clear k1 k2
    have BB2 := hid (then_w BB1.out hb)
    refine hK.out _ _ ?_ (fun hH2 => ?_)
    · exact ⟨cell_later hb hH1.1, cell_later hb hH1.2.1, cell_later hb hH1.2.2.1, cell_later hb hH1.2.2.2.1, (hH1.2.2.2.2).trans (onl_below13 hb)⟩
    clear hK K
    try simp only [apt12]
    clear hb
    refine wpAnyH_ready (rs := [16]) (by kernel_rfl) (by simp) ?_
    refine AllReadyH.cons (i := 16) (o := ⟨some 20, .call { callee := .value (.func 143), args := #[.tmp 5, .tmp 11, .tmp 19], argTypes := #[3, 3, 3] }, 3, "prim.go:133", #[⟨1, .data⟩, ⟨7, .data⟩, ⟨15, .data⟩, ⟨15, .chain⟩], none⟩) rfl (fun K hK => ?_) AllReadyH.nil
    go_simp
    go_at_call 143
    refine (fop_any doo x y _).mono ?_
    rintro e u3 ⟨rfl, hb⟩
    have BB3 := hid (then_w BB2.out hb)
    refine hK.out _ _ ?_ (fun hH3 => ?_)
    · exact ⟨cell_later hb hH2.1, cell_later hb hH2.2.1, cell_later hb hH2.2.2.1, cell_later hb hH2.2.2.2.1, (hH2.2.2.2.2).trans (onl_below13 hb)⟩
    clear hK K
    try simp only [apt12]
    clear hb
    refine wpAnyH_ready (rs := [17]) (by kernel_rfl) (by simp) ?_
    refine AllReadyH.cons (i := 17) (o := ⟨some 21, .call { callee := .value (.func 142), args := #[.tmp 4, .tmp 20], argTypes := #[70, 3] }, 3, "prim.go:133", #[⟨0, .data⟩, ⟨16, .data⟩, ⟨16, .chain⟩], none⟩) rfl (fun K hK => ?_) AllReadyH.nil
    go_simp
    go_at_call 142
    refine (newfloat_any13 b base h A c s args _ da _ (HI.out.later BB3.out) (fOp doo x y)).mono ?_
    rintro e u4 PP
    have PQ := hid (pr_after13 (h := h) (A := A) (c := c) BB3.out HI.out.low PP)
    obtain ⟨rfl, A2, c2, kc, kf⟩ := PP.2.2 (by rw [HE0.out]; exact h0)
    refine hK.out _ _ ?_ (fun hH4 => ?_)
    · exact ⟨kc.cell 3, kc.cell 4, PP.1.cell (hH3.2.2.1) (fun e => by injection e with e; exact HPB.out e), PP.1.cell (hH3.2.2.2.1) (fun e => by injection e with e; exact HPBK.out e), (hH3.2.2.2.2).trans PP.1⟩
    clear hK K
    try simp only [apt12]
    clear PP kc kf
    refine tkI 18 ⟨some 3, .assign (.tmp 21), 3, "prim.go:133", #[⟨17, .data⟩, ⟨17, .chain⟩, ⟨0, .phase⟩, ⟨1, .phase⟩, ⟨2, .phase⟩, ⟨3, .phase⟩, ⟨4, .phase⟩, ⟨5, .phase⟩, ⟨6, .phase⟩, ⟨7, .phase⟩, ⟨8, .phase⟩, ⟨9, .phase⟩, ⟨10, .phase⟩, ⟨11, .phase⟩, ⟨12, .phase⟩, ⟨13, .phase⟩, ⟨14, .phase⟩, ⟨15, .phase⟩, ⟨16, .phase⟩, ⟨17, .phase⟩], none⟩ ?v390 rfl (by kernel_rfl) (by rfl) ?y390 ?_
    case y390 => intro w hSw; (try dsimp only at hSw); go_simp; all_goals with_reducible rfl
    try simp only [apt12]
    refine wpAnyH_done (by kernel_rfl) ?_ _
    go_wp2_with fail
    go_ret
    rw [HR2.out]
    exact PQ.out
  go_enter Tryz.func141, Tryz.ntmps141
  go_upto_region 1 with fail
  have BB0 := hid ((Below.refl w.heap.size w).drew)
  refine wp_region_held_drew (S := (fun w' => w'.cell? ⟨b, 3, none⟩ = some (.int .i64 s) ∧ w'.cell? ⟨b, 4, none⟩ = some (.slice (some ⟨p, o, none⟩) args.length da) ∧ w'.cell? ⟨p, o, none⟩ = some (.int .i64 a0) ∧ w'.cell? ⟨kb, 0, none⟩ = some (.int .i64 doo) ∧ Onl13 b w w')) (by kernel_rfl) ?_ (fun hH0 => ?_)
  · exact ⟨cell_later (Below.refl w.heap.size w).drew x3, cell_later (Below.refl w.heap.size w).drew x4, cell_later (Below.refl w.heap.size w).drew q0, cell_later (Below.refl w.heap.size w).drew k0, onl_below13 (Below.refl _ _).drew⟩
  refine tkI 0 ⟨some 4, .move (.tmp 0), 70, "prim.go:133", #[], none⟩ ?v391 rfl (by kernel_rfl) (by rfl) ?y391 ?_
  case y391 => intro w hSw; (try dsimp only at hSw); go_simp; all_goals with_reducible rfl
  try simp only [apt12]
  refine tkI 1 ⟨some 5, .load 3 (.tmp 1), 3, "prim.go:133", #[], none⟩ ?v392 rfl (by kernel_rfl) (by rfl) ?y392 ?_
  case y392 => intro w hSw; (try dsimp only at hSw); go_simp; all_goals with_reducible rfl
  try simp only [apt12]
  refine tkI 2 ⟨some 6, .move (.tmp 0), 70, "prim.go:133", #[], none⟩ ?v393 rfl (by kernel_rfl) (by rfl) ?y393 ?_
  case y393 => intro w hSw; (try dsimp only at hSw); go_simp; all_goals with_reducible rfl
  try simp only [apt12]
  refine tkI 3 ⟨some 7, .move (.tmp 0), 70, "prim.go:133", #[], none⟩ ?v394 rfl (by kernel_rfl) (by rfl) ?y394 ?_
  case y394 => intro w hSw; (try dsimp only at hSw); go_simp; all_goals with_reducible rfl
  try simp only [apt12]
  refine tkI 4 ⟨some 8, .nilCheck (.tmp 7), 0, "prim.go:133", #[⟨3, .data⟩], none⟩ ?v395 rfl (by kernel_rfl) (by rfl) ?y395 ?_
  case y395 => intro w hSw; (try dsimp only at hSw); go_simp; all_goals with_reducible rfl
  try simp only [apt12]
  refine tkI 5 ⟨some 9, .fieldAddr 49 (.tmp 8) 1, 0, "prim.go:133", #[⟨4, .data⟩], none⟩ ?v396 rfl (by kernel_rfl) (by rfl) ?y396 ?_
  case y396 => intro w hSw; (try dsimp only at hSw); go_simp; all_goals with_reducible rfl
  try simp only [apt12]
  refine tkI 6 ⟨some 10, .load 3 (.tmp 9), 3, "prim.go:133", #[⟨5, .data⟩], none⟩ ?v397 rfl (by kernel_rfl) (by rfl) ?y397 ?_
  case y397 => intro w hSw; (try dsimp only at hSw); go_simp; all_goals with_reducible rfl
  try simp only [apt12]
  refine tkI 8 ⟨some 12, .move (.tmp 0), 70, "prim.go:133", #[], none⟩ ?v398 rfl (by kernel_rfl) (by rfl) ?y398 ?_
  case y398 => intro w hSw; (try dsimp only at hSw); go_simp; all_goals with_reducible rfl
  try simp only [apt12]
  refine tkI 9 ⟨some 13, .move (.tmp 0), 70, "prim.go:133", #[], none⟩ ?v399 rfl (by kernel_rfl) (by rfl) ?y399 ?_
  case y399 => intro w hSw; (try dsimp only at hSw); go_simp; all_goals with_reducible rfl
  try simp only [apt12]
  refine tkI 10 ⟨some 14, .nilCheck (.tmp 13), 0, "prim.go:133", #[⟨9, .data⟩], none⟩ ?v400 rfl (by kernel_rfl) (by rfl) ?y400 ?_
  case y400 => intro w hSw; (try dsimp only at hSw); go_simp; all_goals with_reducible rfl
  try simp only [apt12]
  refine tkI 11 ⟨some 15, .fieldAddr 49 (.tmp 14) 2, 0, "prim.go:133", #[⟨10, .data⟩], none⟩ ?v401 rfl (by kernel_rfl) (by rfl) ?y401 ?_
  case y401 => intro w hSw; (try dsimp only at hSw); go_simp; all_goals with_reducible rfl
  try simp only [apt12]
  refine tkI 12 ⟨some 16, .load 25 (.tmp 15), 25, "prim.go:133", #[⟨11, .data⟩], none⟩ ?v402 rfl (by kernel_rfl) (by rfl) ?y402 ?_
  case y402 => intro w hSw; (try dsimp only at hSw); go_simp; all_goals with_reducible rfl
  try simp only [apt12]
  refine tkI 13 ⟨some 17, .indexAddr 25 (.tmp 16) (.const (Go.Value.int .i64 0)), 0, "prim.go:133", #[⟨12, .data⟩], none⟩ ?v403 rfl (by kernel_rfl) (by rfl) ?y403 ?_
  case y403 => intro w hSw; (try dsimp only at hSw); go_simp; all_goals with_reducible rfl
  try simp only [apt12]
  refine tkI 14 ⟨some 18, .load 3 (.tmp 17), 3, "prim.go:133", #[⟨13, .data⟩], none⟩ ?v404 rfl (by kernel_rfl) (by rfl) ?y404 ?_
  case y404 => intro w hSw; (try dsimp only at hSw); go_simp; all_goals with_reducible rfl
  try simp only [apt12]
  refine wpAnyH_ready (rs := [7]) (by kernel_rfl) (by simp) ?_
  refine AllReadyH.cons (i := 7) (o := ⟨some 11, .call { callee := .value (.func 144), args := #[.tmp 6, .tmp 10], argTypes := #[70, 3] }, 3, "prim.go:133", #[⟨2, .data⟩, ⟨6, .data⟩], none⟩) rfl (fun K hK => ?_) AllReadyH.nil
  go_simp
  go_at_call 144
  refine (fltd_any13 b base h A c s args _ da _ (HI.out.later BB0.out) HI.out.has).mono ?_
  rintro e u1 ⟨hb, k1, k2⟩
  obtain rfl := k2 _ HX.out
  clear k1 k2
  have BB1 := hid (then_w BB0.out hb)
  refine hK.out _ _ ?_ (fun hH1 => ?_)
  · exact ⟨cell_later hb hH0.1, cell_later hb hH0.2.1, cell_later hb hH0.2.2.1, cell_later hb hH0.2.2.2.1, (hH0.2.2.2.2).trans (onl_below13 hb)⟩
  clear hK K
  try simp only [apt12]
  clear hb
  refine wpAnyH_ready (rs := [15]) (by kernel_rfl) (by simp) ?_
  refine AllReadyH.cons (i := 15) (o := ⟨some 19, .call { callee := .value (.func 144), args := #[.tmp 12, .tmp 18], argTypes := #[70, 3] }, 3, "prim.go:133", #[⟨8, .data⟩, ⟨14, .data⟩, ⟨7, .chain⟩], none⟩) rfl (fun K hK => ?_) AllReadyH.nil
  go_simp
  go_at_call 144
  refine (fltd_any13 b base h A c s args _ da _ (HI.out.later BB1.out) (v := a0) (by rw [HA0.out]; exact HLA.out 0 hn0)).mono ?_
  rintro e u2 ⟨hb, k1, k2⟩
  obtain rfl := k2 _ HY.out
  clear k1 k2
  have BB2 := hid (then_w BB1.out hb)
  refine hK.out _ _ ?_ (fun hH2 => ?_)
  · exact ⟨cell_later hb hH1.1, cell_later hb hH1.2.1, cell_later hb hH1.2.2.1, cell_later hb hH1.2.2.2.1, (hH1.2.2.2.2).trans (onl_below13 hb)⟩
  clear hK K
  try simp only [apt12]
  clear hb
  refine wpAnyH_ready (rs := [16]) (by kernel_rfl) (by simp) ?_
  refine AllReadyH.cons (i := 16) (o := ⟨some 20, .call { callee := .value (.func 143), args := #[.tmp 5, .tmp 11, .tmp 19], argTypes := #[3, 3, 3] }, 3, "prim.go:133", #[⟨1, .data⟩, ⟨7, .data⟩, ⟨15, .data⟩, ⟨15, .chain⟩], none⟩) rfl (fun K hK => ?_) AllReadyH.nil
  go_simp
  go_at_call 143
  refine (fop_any doo x y _).mono ?_
  rintro e u3 ⟨rfl, hb⟩
  have BB3 := hid (then_w BB2.out hb)
  refine hK.out _ _ ?_ (fun hH3 => ?_)
  · exact ⟨cell_later hb hH2.1, cell_later hb hH2.2.1, cell_later hb hH2.2.2.1, cell_later hb hH2.2.2.2.1, (hH2.2.2.2.2).trans (onl_below13 hb)⟩
  clear hK K
  try simp only [apt12]
  clear hb
  refine wpAnyH_ready (rs := [17]) (by kernel_rfl) (by simp) ?_
  refine AllReadyH.cons (i := 17) (o := ⟨some 21, .call { callee := .value (.func 142), args := #[.tmp 4, .tmp 20], argTypes := #[70, 3] }, 3, "prim.go:133", #[⟨0, .data⟩, ⟨16, .data⟩, ⟨16, .chain⟩], none⟩) rfl (fun K hK => ?_) AllReadyH.nil
  go_simp
  go_at_call 142
  refine (newfloat_any13 b base h A c s args _ da _ (HI.out.later BB3.out) (fOp doo x y)).mono ?_
  rintro e u4 PP
  have PQ := hid (pr_after13 (h := h) (A := A) (c := c) BB3.out HI.out.low PP)
  obtain rfl := PP.2.1 (by rw [HE0.out]; exact h0)
  exact ⟨rfl, (by rw [HR2.out]; exact PQ.out)⟩
set_option maxHeartbeats 1000000 in
theorem cmpless_any13 (b base : Nat) (h : Hp) (A : Option Addr) (c : Nat) (s : Int) (args : List Int) (SA : Option Addr) (da : Nat) (w : World) (I : In13 w b base h A c s args SA da) (hn : 0 < args.length) (kb : Nat) (hk : w.cell? ⟨kb, 0, none⟩ = some (.func (.func 113) #[] #[])) (hkb : kb ≠ b) :
    Calls Tryz.prog 145 #[.pointer (some ⟨b, 0, none⟩), .pointer (some ⟨kb, 0, none⟩)] w (Po13 w b h A c s args.length SA da (match fl13 h s with | none => fa13 h | some x => match fl13 h (args.getD 0 0) with | none => fa13 h | some y => tr13 h (fLess x y))) := by
  obtain ⟨a0, ha0⟩ : ∃ a, a = args.getD 0 0 := ⟨_, rfl⟩
  rw [← ha0]
  have HI := hid I
  have HLA := hid (fun k => has_arg13 I.hall (k := k))
  obtain ⟨p, o, hSA, q0, hpb⟩ := I.arg (k := 0) (by omega)
  subst hSA
  rw [← ha0] at q0
  simp only [Nat.add_zero] at q0
  have hn0 : 0 < args.length := by omega
  have hn0I : (0 : Int) < (args.length : Int) := by omega
  have HPB := hid hpb
  obtain ⟨x0, x1, x2, x3, x4⟩ := I.box.c5
  have HA0 := hid ha0
  clear I hpb ha0
  have HPBK := hid hkb
  clear hkb
  have k0 := hk
  clear hk
  obtain ⟨rr, hrr⟩ : ∃ r : Rs, r = (match fl13 h s with | none => fa13 h | some x => match fl13 h a0 with | none => fa13 h | some y => tr13 h (fLess x y)) := ⟨_, rfl⟩
  rw [← hrr]
  have HRR := hid hrr
  clear hrr
  rcases hx : fl13 h s with _ | x
  · have HX := hid hx
    clear hx
    go_enter Tryz.func145, Tryz.ntmps145
    go_upto_region 1 with fail
    have BB0 := hid ((Below.refl w.heap.size w).drew)
    refine wp_region_held_drew (S := (fun w' => w'.cell? ⟨b, 3, none⟩ = some (.int .i64 s) ∧ w'.cell? ⟨b, 4, none⟩ = some (.slice (some ⟨p, o, none⟩) args.length da) ∧ w'.cell? ⟨p, o, none⟩ = some (.int .i64 a0) ∧ w'.cell? ⟨kb, 0, none⟩ = some (.func (.func 113) #[] #[]) ∧ Onl13 b w w')) (by kernel_rfl) ?_ (fun hH0 => ?_)
    · exact ⟨cell_later (Below.refl w.heap.size w).drew x3, cell_later (Below.refl w.heap.size w).drew x4, cell_later (Below.refl w.heap.size w).drew q0, cell_later (Below.refl w.heap.size w).drew k0, onl_below13 (Below.refl _ _).drew⟩
    refine tkI 0 ⟨some 4, .load 82 (.tmp 1), 82, "prim.go:138", #[], none⟩ ?v405 rfl (by kernel_rfl) (by rfl) ?y405 ?_
    case y405 => intro w hSw; (try dsimp only at hSw); go_simp; all_goals with_reducible rfl
    try simp only [apt12]
    refine tkI 1 ⟨some 5, .move (.tmp 0), 70, "prim.go:138", #[], none⟩ ?v406 rfl (by kernel_rfl) (by rfl) ?y406 ?_
    case y406 => intro w hSw; (try dsimp only at hSw); go_simp; all_goals with_reducible rfl
    try simp only [apt12]
    refine tkI 2 ⟨some 6, .move (.tmp 0), 70, "prim.go:138", #[], none⟩ ?v407 rfl (by kernel_rfl) (by rfl) ?y407 ?_
    case y407 => intro w hSw; (try dsimp only at hSw); go_simp; all_goals with_reducible rfl
    try simp only [apt12]
    refine tkI 3 ⟨some 7, .nilCheck (.tmp 6), 0, "prim.go:138", #[⟨2, .data⟩], none⟩ ?v408 rfl (by kernel_rfl) (by rfl) ?y408 ?_
    case y408 => intro w hSw; (try dsimp only at hSw); go_simp; all_goals with_reducible rfl
    try simp only [apt12]
    refine tkI 4 ⟨some 8, .fieldAddr 49 (.tmp 7) 1, 0, "prim.go:138", #[⟨3, .data⟩], none⟩ ?v409 rfl (by kernel_rfl) (by rfl) ?y409 ?_
    case y409 => intro w hSw; (try dsimp only at hSw); go_simp; all_goals with_reducible rfl
    try simp only [apt12]
    refine tkI 5 ⟨some 9, .load 3 (.tmp 8), 3, "prim.go:138", #[⟨4, .data⟩], none⟩ ?v410 rfl (by kernel_rfl) (by rfl) ?y410 ?_
    case y410 => intro w hSw; (try dsimp only at hSw); go_simp; all_goals with_reducible rfl
    try simp only [apt12]
    refine tkI 7 ⟨some 11, .move (.tmp 0), 70, "prim.go:138", #[], none⟩ ?v411 rfl (by kernel_rfl) (by rfl) ?y411 ?_
    case y411 => intro w hSw; (try dsimp only at hSw); go_simp; all_goals with_reducible rfl
    try simp only [apt12]
    refine tkI 8 ⟨some 12, .move (.tmp 0), 70, "prim.go:138", #[], none⟩ ?v412 rfl (by kernel_rfl) (by rfl) ?y412 ?_
    case y412 => intro w hSw; (try dsimp only at hSw); go_simp; all_goals with_reducible rfl
    try simp only [apt12]
    refine tkI 9 ⟨some 13, .nilCheck (.tmp 12), 0, "prim.go:138", #[⟨8, .data⟩], none⟩ ?v413 rfl (by kernel_rfl) (by rfl) ?y413 ?_
    case y413 => intro w hSw; (try dsimp only at hSw); go_simp; all_goals with_reducible rfl
    try simp only [apt12]
    refine tkI 10 ⟨some 14, .fieldAddr 49 (.tmp 13) 2, 0, "prim.go:138", #[⟨9, .data⟩], none⟩ ?v414 rfl (by kernel_rfl) (by rfl) ?y414 ?_
    case y414 => intro w hSw; (try dsimp only at hSw); go_simp; all_goals with_reducible rfl
    try simp only [apt12]
    refine tkI 11 ⟨some 15, .load 25 (.tmp 14), 25, "prim.go:138", #[⟨10, .data⟩], none⟩ ?v415 rfl (by kernel_rfl) (by rfl) ?y415 ?_
    case y415 => intro w hSw; (try dsimp only at hSw); go_simp; all_goals with_reducible rfl
    try simp only [apt12]
    refine tkI 12 ⟨some 16, .indexAddr 25 (.tmp 15) (.const (Go.Value.int .i64 0)), 0, "prim.go:138", #[⟨11, .data⟩], none⟩ ?v416 rfl (by kernel_rfl) (by rfl) ?y416 ?_
    case y416 => intro w hSw; (try dsimp only at hSw); go_simp; all_goals with_reducible rfl
    try simp only [apt12]
    refine tkI 13 ⟨some 17, .load 3 (.tmp 16), 3, "prim.go:138", #[⟨12, .data⟩], none⟩ ?v417 rfl (by kernel_rfl) (by rfl) ?y417 ?_
    case y417 => intro w hSw; (try dsimp only at hSw); go_simp; all_goals with_reducible rfl
    try simp only [apt12]
    refine wpAnyH_ready (rs := [6]) (by kernel_rfl) (by simp) ?_
    refine AllReadyH.cons (i := 6) (o := ⟨some 10, .call { callee := .value (.func 144), args := #[.tmp 5, .tmp 9], argTypes := #[70, 3] }, 3, "prim.go:138", #[⟨1, .data⟩, ⟨5, .data⟩], none⟩) rfl (fun K hK => ?_) AllReadyH.nil
    go_simp
    go_at_call 144
    refine (fltd_any13 b base h A c s args _ da _ (HI.out.later BB0.out) HI.out.has).mono ?_
    rintro e u9 ⟨hb, k1, -⟩
    obtain rfl := k1 HX.out
    exact ⟨rfl, pr_stop13 (then_w BB0.out hb) (by rw [HRR.out, HX.out]; rfl) (by decide)⟩
  have HX := hid hx
  clear hx
  rcases hy : fl13 h a0 with _ | y
  · have HY := hid hy
    clear hy
    go_enter Tryz.func145, Tryz.ntmps145
    go_upto_region 1 with fail
    have BB0 := hid ((Below.refl w.heap.size w).drew)
    refine wp_region_held_drew (S := (fun w' => w'.cell? ⟨b, 3, none⟩ = some (.int .i64 s) ∧ w'.cell? ⟨b, 4, none⟩ = some (.slice (some ⟨p, o, none⟩) args.length da) ∧ w'.cell? ⟨p, o, none⟩ = some (.int .i64 a0) ∧ w'.cell? ⟨kb, 0, none⟩ = some (.func (.func 113) #[] #[]) ∧ Onl13 b w w')) (by kernel_rfl) ?_ (fun hH0 => ?_)
    · exact ⟨cell_later (Below.refl w.heap.size w).drew x3, cell_later (Below.refl w.heap.size w).drew x4, cell_later (Below.refl w.heap.size w).drew q0, cell_later (Below.refl w.heap.size w).drew k0, onl_below13 (Below.refl _ _).drew⟩
    refine tkI 0 ⟨some 4, .load 82 (.tmp 1), 82, "prim.go:138", #[], none⟩ ?v418 rfl (by kernel_rfl) (by rfl) ?y418 ?_
    case y418 => intro w hSw; (try dsimp only at hSw); go_simp; all_goals with_reducible rfl
    try simp only [apt12]
    refine tkI 1 ⟨some 5, .move (.tmp 0), 70, "prim.go:138", #[], none⟩ ?v419 rfl (by kernel_rfl) (by rfl) ?y419 ?_
    case y419 => intro w hSw; (try dsimp only at hSw); go_simp; all_goals with_reducible rfl
    try simp only [apt12]
    refine tkI 2 ⟨some 6, .move (.tmp 0), 70, "prim.go:138", #[], none⟩ ?v420 rfl (by kernel_rfl) (by rfl) ?y420 ?_
    case y420 => intro w hSw; (try dsimp only at hSw); go_simp; all_goals with_reducible rfl
    try simp only [apt12]
    refine tkI 3 ⟨some 7, .nilCheck (.tmp 6), 0, "prim.go:138", #[⟨2, .data⟩], none⟩ ?v421 rfl (by kernel_rfl) (by rfl) ?y421 ?_
    case y421 => intro w hSw; (try dsimp only at hSw); go_simp; all_goals with_reducible rfl
    try simp only [apt12]
    refine tkI 4 ⟨some 8, .fieldAddr 49 (.tmp 7) 1, 0, "prim.go:138", #[⟨3, .data⟩], none⟩ ?v422 rfl (by kernel_rfl) (by rfl) ?y422 ?_
    case y422 => intro w hSw; (try dsimp only at hSw); go_simp; all_goals with_reducible rfl
    try simp only [apt12]
    refine tkI 5 ⟨some 9, .load 3 (.tmp 8), 3, "prim.go:138", #[⟨4, .data⟩], none⟩ ?v423 rfl (by kernel_rfl) (by rfl) ?y423 ?_
    case y423 => intro w hSw; (try dsimp only at hSw); go_simp; all_goals with_reducible rfl
    try simp only [apt12]
    refine tkI 7 ⟨some 11, .move (.tmp 0), 70, "prim.go:138", #[], none⟩ ?v424 rfl (by kernel_rfl) (by rfl) ?y424 ?_
    case y424 => intro w hSw; (try dsimp only at hSw); go_simp; all_goals with_reducible rfl
    try simp only [apt12]
    refine tkI 8 ⟨some 12, .move (.tmp 0), 70, "prim.go:138", #[], none⟩ ?v425 rfl (by kernel_rfl) (by rfl) ?y425 ?_
    case y425 => intro w hSw; (try dsimp only at hSw); go_simp; all_goals with_reducible rfl
    try simp only [apt12]
    refine tkI 9 ⟨some 13, .nilCheck (.tmp 12), 0, "prim.go:138", #[⟨8, .data⟩], none⟩ ?v426 rfl (by kernel_rfl) (by rfl) ?y426 ?_
    case y426 => intro w hSw; (try dsimp only at hSw); go_simp; all_goals with_reducible rfl
    try simp only [apt12]
    refine tkI 10 ⟨some 14, .fieldAddr 49 (.tmp 13) 2, 0, "prim.go:138", #[⟨9, .data⟩], none⟩ ?v427 rfl (by kernel_rfl) (by rfl) ?y427 ?_
    case y427 => intro w hSw; (try dsimp only at hSw); go_simp; all_goals with_reducible rfl
    try simp only [apt12]
    refine tkI 11 ⟨some 15, .load 25 (.tmp 14), 25, "prim.go:138", #[⟨10, .data⟩], none⟩ ?v428 rfl (by kernel_rfl) (by rfl) ?y428 ?_
    case y428 => intro w hSw; (try dsimp only at hSw); go_simp; all_goals with_reducible rfl
    try simp only [apt12]
    refine tkI 12 ⟨some 16, .indexAddr 25 (.tmp 15) (.const (Go.Value.int .i64 0)), 0, "prim.go:138", #[⟨11, .data⟩], none⟩ ?v429 rfl (by kernel_rfl) (by rfl) ?y429 ?_
    case y429 => intro w hSw; (try dsimp only at hSw); go_simp; all_goals with_reducible rfl
    try simp only [apt12]
    refine tkI 13 ⟨some 17, .load 3 (.tmp 16), 3, "prim.go:138", #[⟨12, .data⟩], none⟩ ?v430 rfl (by kernel_rfl) (by rfl) ?y430 ?_
    case y430 => intro w hSw; (try dsimp only at hSw); go_simp; all_goals with_reducible rfl
    try simp only [apt12]
    refine wpAnyH_ready (rs := [6]) (by kernel_rfl) (by simp) ?_
    refine AllReadyH.cons (i := 6) (o := ⟨some 10, .call { callee := .value (.func 144), args := #[.tmp 5, .tmp 9], argTypes := #[70, 3] }, 3, "prim.go:138", #[⟨1, .data⟩, ⟨5, .data⟩], none⟩) rfl (fun K hK => ?_) AllReadyH.nil
    go_simp
    go_at_call 144
    refine (fltd_any13 b base h A c s args _ da _ (HI.out.later BB0.out) HI.out.has).mono ?_
    rintro e u1 ⟨hb, k1, k2⟩
    obtain rfl := k2 _ HX.out
    clear k1 k2
    have BB1 := hid (then_w BB0.out hb)
    refine hK.out _ _ ?_ (fun hH1 => ?_)
    · exact ⟨cell_later hb hH0.1, cell_later hb hH0.2.1, cell_later hb hH0.2.2.1, cell_later hb hH0.2.2.2.1, (hH0.2.2.2.2).trans (onl_below13 hb)⟩
    clear hK K
    try simp only [apt12]
    clear hb
    refine wpAnyH_ready (rs := [14]) (by kernel_rfl) (by simp) ?_
    refine AllReadyH.cons (i := 14) (o := ⟨some 18, .call { callee := .value (.func 144), args := #[.tmp 11, .tmp 17], argTypes := #[70, 3] }, 3, "prim.go:138", #[⟨7, .data⟩, ⟨13, .data⟩, ⟨6, .chain⟩], none⟩) rfl (fun K hK => ?_) AllReadyH.nil
    go_simp
    go_at_call 144
    refine (fltd_any13 b base h A c s args _ da _ (HI.out.later BB1.out) (v := a0) (by rw [HA0.out]; exact HLA.out 0 hn0)).mono ?_
    rintro e u9 ⟨hb, k1, -⟩
    obtain rfl := k1 HY.out
    exact ⟨rfl, pr_stop13 (then_w BB1.out hb) (by rw [HRR.out, HX.out, HY.out]; rfl) (by decide)⟩
  have HY := hid hy
  clear hy
  have HR2 : Hid (rr = (h, tv13 (fLess x y), 0)) := by show _ = _; rw [HRR.out, HX.out, HY.out]; rfl
  go_enter Tryz.func145, Tryz.ntmps145
  go_upto_region 1 with fail
  have BB0 := hid ((Below.refl w.heap.size w).drew)
  refine wp_region_held_drew (S := (fun w' => w'.cell? ⟨b, 3, none⟩ = some (.int .i64 s) ∧ w'.cell? ⟨b, 4, none⟩ = some (.slice (some ⟨p, o, none⟩) args.length da) ∧ w'.cell? ⟨p, o, none⟩ = some (.int .i64 a0) ∧ w'.cell? ⟨kb, 0, none⟩ = some (.func (.func 113) #[] #[]) ∧ Onl13 b w w')) (by kernel_rfl) ?_ (fun hH0 => ?_)
  · exact ⟨cell_later (Below.refl w.heap.size w).drew x3, cell_later (Below.refl w.heap.size w).drew x4, cell_later (Below.refl w.heap.size w).drew q0, cell_later (Below.refl w.heap.size w).drew k0, onl_below13 (Below.refl _ _).drew⟩
  refine tkI 0 ⟨some 4, .load 82 (.tmp 1), 82, "prim.go:138", #[], none⟩ ?v431 rfl (by kernel_rfl) (by rfl) ?y431 ?_
  case y431 => intro w hSw; (try dsimp only at hSw); go_simp; all_goals with_reducible rfl
  try simp only [apt12]
  refine tkI 1 ⟨some 5, .move (.tmp 0), 70, "prim.go:138", #[], none⟩ ?v432 rfl (by kernel_rfl) (by rfl) ?y432 ?_
  case y432 => intro w hSw; (try dsimp only at hSw); go_simp; all_goals with_reducible rfl
  try simp only [apt12]
  refine tkI 2 ⟨some 6, .move (.tmp 0), 70, "prim.go:138", #[], none⟩ ?v433 rfl (by kernel_rfl) (by rfl) ?y433 ?_
  case y433 => intro w hSw; (try dsimp only at hSw); go_simp; all_goals with_reducible rfl
  try simp only [apt12]
  refine tkI 3 ⟨some 7, .nilCheck (.tmp 6), 0, "prim.go:138", #[⟨2, .data⟩], none⟩ ?v434 rfl (by kernel_rfl) (by rfl) ?y434 ?_
  case y434 => intro w hSw; (try dsimp only at hSw); go_simp; all_goals with_reducible rfl
  try simp only [apt12]
  refine tkI 4 ⟨some 8, .fieldAddr 49 (.tmp 7) 1, 0, "prim.go:138", #[⟨3, .data⟩], none⟩ ?v435 rfl (by kernel_rfl) (by rfl) ?y435 ?_
  case y435 => intro w hSw; (try dsimp only at hSw); go_simp; all_goals with_reducible rfl
  try simp only [apt12]
  refine tkI 5 ⟨some 9, .load 3 (.tmp 8), 3, "prim.go:138", #[⟨4, .data⟩], none⟩ ?v436 rfl (by kernel_rfl) (by rfl) ?y436 ?_
  case y436 => intro w hSw; (try dsimp only at hSw); go_simp; all_goals with_reducible rfl
  try simp only [apt12]
  refine tkI 7 ⟨some 11, .move (.tmp 0), 70, "prim.go:138", #[], none⟩ ?v437 rfl (by kernel_rfl) (by rfl) ?y437 ?_
  case y437 => intro w hSw; (try dsimp only at hSw); go_simp; all_goals with_reducible rfl
  try simp only [apt12]
  refine tkI 8 ⟨some 12, .move (.tmp 0), 70, "prim.go:138", #[], none⟩ ?v438 rfl (by kernel_rfl) (by rfl) ?y438 ?_
  case y438 => intro w hSw; (try dsimp only at hSw); go_simp; all_goals with_reducible rfl
  try simp only [apt12]
  refine tkI 9 ⟨some 13, .nilCheck (.tmp 12), 0, "prim.go:138", #[⟨8, .data⟩], none⟩ ?v439 rfl (by kernel_rfl) (by rfl) ?y439 ?_
  case y439 => intro w hSw; (try dsimp only at hSw); go_simp; all_goals with_reducible rfl
  try simp only [apt12]
  refine tkI 10 ⟨some 14, .fieldAddr 49 (.tmp 13) 2, 0, "prim.go:138", #[⟨9, .data⟩], none⟩ ?v440 rfl (by kernel_rfl) (by rfl) ?y440 ?_
  case y440 => intro w hSw; (try dsimp only at hSw); go_simp; all_goals with_reducible rfl
  try simp only [apt12]
  refine tkI 11 ⟨some 15, .load 25 (.tmp 14), 25, "prim.go:138", #[⟨10, .data⟩], none⟩ ?v441 rfl (by kernel_rfl) (by rfl) ?y441 ?_
  case y441 => intro w hSw; (try dsimp only at hSw); go_simp; all_goals with_reducible rfl
  try simp only [apt12]
  refine tkI 12 ⟨some 16, .indexAddr 25 (.tmp 15) (.const (Go.Value.int .i64 0)), 0, "prim.go:138", #[⟨11, .data⟩], none⟩ ?v442 rfl (by kernel_rfl) (by rfl) ?y442 ?_
  case y442 => intro w hSw; (try dsimp only at hSw); go_simp; all_goals with_reducible rfl
  try simp only [apt12]
  refine tkI 13 ⟨some 17, .load 3 (.tmp 16), 3, "prim.go:138", #[⟨12, .data⟩], none⟩ ?v443 rfl (by kernel_rfl) (by rfl) ?y443 ?_
  case y443 => intro w hSw; (try dsimp only at hSw); go_simp; all_goals with_reducible rfl
  try simp only [apt12]
  refine wpAnyH_ready (rs := [6]) (by kernel_rfl) (by simp) ?_
  refine AllReadyH.cons (i := 6) (o := ⟨some 10, .call { callee := .value (.func 144), args := #[.tmp 5, .tmp 9], argTypes := #[70, 3] }, 3, "prim.go:138", #[⟨1, .data⟩, ⟨5, .data⟩], none⟩) rfl (fun K hK => ?_) AllReadyH.nil
  go_simp
  go_at_call 144
  refine (fltd_any13 b base h A c s args _ da _ (HI.out.later BB0.out) HI.out.has).mono ?_
  rintro e u1 ⟨hb, k1, k2⟩
  obtain rfl := k2 _ HX.out
  clear k1 k2
  have BB1 := hid (then_w BB0.out hb)
  refine hK.out _ _ ?_ (fun hH1 => ?_)
  · exact ⟨cell_later hb hH0.1, cell_later hb hH0.2.1, cell_later hb hH0.2.2.1, cell_later hb hH0.2.2.2.1, (hH0.2.2.2.2).trans (onl_below13 hb)⟩
  clear hK K
  try simp only [apt12]
  clear hb
  refine wpAnyH_ready (rs := [14]) (by kernel_rfl) (by simp) ?_
  refine AllReadyH.cons (i := 14) (o := ⟨some 18, .call { callee := .value (.func 144), args := #[.tmp 11, .tmp 17], argTypes := #[70, 3] }, 3, "prim.go:138", #[⟨7, .data⟩, ⟨13, .data⟩, ⟨6, .chain⟩], none⟩) rfl (fun K hK => ?_) AllReadyH.nil
  go_simp
  go_at_call 144
  refine (fltd_any13 b base h A c s args _ da _ (HI.out.later BB1.out) (v := a0) (by rw [HA0.out]; exact HLA.out 0 hn0)).mono ?_
  rintro e u2 ⟨hb, k1, k2⟩
  obtain rfl := k2 _ HY.out
  clear k1 k2
  have BB2 := hid (then_w BB1.out hb)
  refine hK.out _ _ ?_ (fun hH2 => ?_)
  · exact ⟨cell_later hb hH1.1, cell_later hb hH1.2.1, cell_later hb hH1.2.2.1, cell_later hb hH1.2.2.2.1, (hH1.2.2.2.2).trans (onl_below13 hb)⟩
  clear hK K
  try simp only [apt12]
  clear hb
  refine wpAnyH_ready (rs := [15]) (by kernel_rfl) (by simp) ?_
  refine AllReadyH.cons (i := 15) (o := ⟨some 19, .call { callee := .value (.tmp 4), args := #[.tmp 10, .tmp 18], argTypes := #[3, 3] }, 4, "prim.go:138", #[⟨0, .data⟩, ⟨6, .data⟩, ⟨14, .data⟩, ⟨14, .chain⟩], none⟩) rfl (fun K hK => ?_) AllReadyH.nil
  go_simp
  go_at_call 113
  refine (fless_any x y _).mono ?_
  rintro e u3 ⟨rfl, rfl⟩
  refine hK.out _ _ ?_ (fun hH3 => ?_)
  · exact hH2
  clear hK K
  try simp only [apt12]
  refine wpAnyH_ready (rs := [16]) (by kernel_rfl) (by simp) ?_
  refine AllReadyH.cons (i := 16) (o := ⟨some 20, .call { callee := .value (.func 128), args := #[.tmp 19], argTypes := #[4] }, 3, "prim.go:138", #[⟨15, .data⟩, ⟨15, .chain⟩], none⟩) rfl (fun K hK => ?_) AllReadyH.nil
  go_simp
  go_at_call 128
  refine (truth_any13 _ _).mono ?_
  rintro e u4 ⟨rfl, rfl⟩
  refine hK.out _ _ ?_ (fun hH4 => ?_)
  · exact hH3
  clear hK K
  try simp only [apt12]
  refine tkI 17 ⟨some 3, .assign (.tmp 20), 3, "prim.go:138", #[⟨16, .data⟩, ⟨16, .chain⟩, ⟨0, .phase⟩, ⟨1, .phase⟩, ⟨2, .phase⟩, ⟨3, .phase⟩, ⟨4, .phase⟩, ⟨5, .phase⟩, ⟨6, .phase⟩, ⟨7, .phase⟩, ⟨8, .phase⟩, ⟨9, .phase⟩, ⟨10, .phase⟩, ⟨11, .phase⟩, ⟨12, .phase⟩, ⟨13, .phase⟩, ⟨14, .phase⟩, ⟨15, .phase⟩, ⟨16, .phase⟩], none⟩ ?v444 rfl (by kernel_rfl) (by rfl) ?y444 ?_
  case y444 => intro w hSw; (try dsimp only at hSw); go_simp; all_goals with_reducible rfl
  try simp only [apt12]
  refine wpAnyH_done (by kernel_rfl) ?_ _
  go_wp2_with fail
  go_ret
  exact pr_keep13 HI.out BB2.out HR2.out
set_option maxHeartbeats 1000000 in
theorem cmpeq_any13 (b base : Nat) (h : Hp) (A : Option Addr) (c : Nat) (s : Int) (args : List Int) (SA : Option Addr) (da : Nat) (w : World) (I : In13 w b base h A c s args SA da) (hn : 0 < args.length) (kb : Nat) (hk : w.cell? ⟨kb, 0, none⟩ = some (.func (.func 114) #[] #[])) (hkb : kb ≠ b) :
    Calls Tryz.prog 145 #[.pointer (some ⟨b, 0, none⟩), .pointer (some ⟨kb, 0, none⟩)] w (Po13 w b h A c s args.length SA da (match fl13 h s with | none => fa13 h | some x => match fl13 h (args.getD 0 0) with | none => fa13 h | some y => tr13 h (fEqual x y))) := by
  obtain ⟨a0, ha0⟩ : ∃ a, a = args.getD 0 0 := ⟨_, rfl⟩
  rw [← ha0]
  have HI := hid I
  have HLA := hid (fun k => has_arg13 I.hall (k := k))
  obtain ⟨p, o, hSA, q0, hpb⟩ := I.arg (k := 0) (by omega)
  subst hSA
  rw [← ha0] at q0
  simp only [Nat.add_zero] at q0
  have hn0 : 0 < args.length := by omega
  have hn0I : (0 : Int) < (args.length : Int) := by omega
  have HPB := hid hpb
  obtain ⟨x0, x1, x2, x3, x4⟩ := I.box.c5
  have HA0 := hid ha0
  clear I hpb ha0
  have HPBK := hid hkb
  clear hkb
  have k0 := hk
  clear hk
  obtain ⟨rr, hrr⟩ : ∃ r : Rs, r = (match fl13 h s with | none => fa13 h | some x => match fl13 h a0 with | none => fa13 h | some y => tr13 h (fEqual x y)) := ⟨_, rfl⟩
  rw [← hrr]
  have HRR := hid hrr
  clear hrr
  rcases hx : fl13 h s with _ | x
  · have HX := hid hx
    clear hx
    go_enter Tryz.func145, Tryz.ntmps145
    go_upto_region 1 with fail
    have BB0 := hid ((Below.refl w.heap.size w).drew)
    refine wp_region_held_drew (S := (fun w' => w'.cell? ⟨b, 3, none⟩ = some (.int .i64 s) ∧ w'.cell? ⟨b, 4, none⟩ = some (.slice (some ⟨p, o, none⟩) args.length da) ∧ w'.cell? ⟨p, o, none⟩ = some (.int .i64 a0) ∧ w'.cell? ⟨kb, 0, none⟩ = some (.func (.func 114) #[] #[]) ∧ Onl13 b w w')) (by kernel_rfl) ?_ (fun hH0 => ?_)
    · exact ⟨cell_later (Below.refl w.heap.size w).drew x3, cell_later (Below.refl w.heap.size w).drew x4, cell_later (Below.refl w.heap.size w).drew q0, cell_later (Below.refl w.heap.size w).drew k0, onl_below13 (Below.refl _ _).drew⟩
    refine tkI 0 ⟨some 4, .load 82 (.tmp 1), 82, "prim.go:138", #[], none⟩ ?v445 rfl (by kernel_rfl) (by rfl) ?y445 ?_
    case y445 => intro w hSw; (try dsimp only at hSw); go_simp; all_goals with_reducible rfl
    try simp only [apt12]
    refine tkI 1 ⟨some 5, .move (.tmp 0), 70, "prim.go:138", #[], none⟩ ?v446 rfl (by kernel_rfl) (by rfl) ?y446 ?_
    case y446 => intro w hSw; (try dsimp only at hSw); go_simp; all_goals with_reducible rfl
    try simp only [apt12]
    refine tkI 2 ⟨some 6, .move (.tmp 0), 70, "prim.go:138", #[], none⟩ ?v447 rfl (by kernel_rfl) (by rfl) ?y447 ?_
    case y447 => intro w hSw; (try dsimp only at hSw); go_simp; all_goals with_reducible rfl
    try simp only [apt12]
    refine tkI 3 ⟨some 7, .nilCheck (.tmp 6), 0, "prim.go:138", #[⟨2, .data⟩], none⟩ ?v448 rfl (by kernel_rfl) (by rfl) ?y448 ?_
    case y448 => intro w hSw; (try dsimp only at hSw); go_simp; all_goals with_reducible rfl
    try simp only [apt12]
    refine tkI 4 ⟨some 8, .fieldAddr 49 (.tmp 7) 1, 0, "prim.go:138", #[⟨3, .data⟩], none⟩ ?v449 rfl (by kernel_rfl) (by rfl) ?y449 ?_
    case y449 => intro w hSw; (try dsimp only at hSw); go_simp; all_goals with_reducible rfl
    try simp only [apt12]
    refine tkI 5 ⟨some 9, .load 3 (.tmp 8), 3, "prim.go:138", #[⟨4, .data⟩], none⟩ ?v450 rfl (by kernel_rfl) (by rfl) ?y450 ?_
    case y450 => intro w hSw; (try dsimp only at hSw); go_simp; all_goals with_reducible rfl
    try simp only [apt12]
    refine tkI 7 ⟨some 11, .move (.tmp 0), 70, "prim.go:138", #[], none⟩ ?v451 rfl (by kernel_rfl) (by rfl) ?y451 ?_
    case y451 => intro w hSw; (try dsimp only at hSw); go_simp; all_goals with_reducible rfl
    try simp only [apt12]
    refine tkI 8 ⟨some 12, .move (.tmp 0), 70, "prim.go:138", #[], none⟩ ?v452 rfl (by kernel_rfl) (by rfl) ?y452 ?_
    case y452 => intro w hSw; (try dsimp only at hSw); go_simp; all_goals with_reducible rfl
    try simp only [apt12]
    refine tkI 9 ⟨some 13, .nilCheck (.tmp 12), 0, "prim.go:138", #[⟨8, .data⟩], none⟩ ?v453 rfl (by kernel_rfl) (by rfl) ?y453 ?_
    case y453 => intro w hSw; (try dsimp only at hSw); go_simp; all_goals with_reducible rfl
    try simp only [apt12]
    refine tkI 10 ⟨some 14, .fieldAddr 49 (.tmp 13) 2, 0, "prim.go:138", #[⟨9, .data⟩], none⟩ ?v454 rfl (by kernel_rfl) (by rfl) ?y454 ?_
    case y454 => intro w hSw; (try dsimp only at hSw); go_simp; all_goals with_reducible rfl
    try simp only [apt12]
    refine tkI 11 ⟨some 15, .load 25 (.tmp 14), 25, "prim.go:138", #[⟨10, .data⟩], none⟩ ?v455 rfl (by kernel_rfl) (by rfl) ?y455 ?_
    case y455 => intro w hSw; (try dsimp only at hSw); go_simp; all_goals with_reducible rfl
    try simp only [apt12]
    refine tkI 12 ⟨some 16, .indexAddr 25 (.tmp 15) (.const (Go.Value.int .i64 0)), 0, "prim.go:138", #[⟨11, .data⟩], none⟩ ?v456 rfl (by kernel_rfl) (by rfl) ?y456 ?_
    case y456 => intro w hSw; (try dsimp only at hSw); go_simp; all_goals with_reducible rfl
    try simp only [apt12]
    refine tkI 13 ⟨some 17, .load 3 (.tmp 16), 3, "prim.go:138", #[⟨12, .data⟩], none⟩ ?v457 rfl (by kernel_rfl) (by rfl) ?y457 ?_
    case y457 => intro w hSw; (try dsimp only at hSw); go_simp; all_goals with_reducible rfl
    try simp only [apt12]
    refine wpAnyH_ready (rs := [6]) (by kernel_rfl) (by simp) ?_
    refine AllReadyH.cons (i := 6) (o := ⟨some 10, .call { callee := .value (.func 144), args := #[.tmp 5, .tmp 9], argTypes := #[70, 3] }, 3, "prim.go:138", #[⟨1, .data⟩, ⟨5, .data⟩], none⟩) rfl (fun K hK => ?_) AllReadyH.nil
    go_simp
    go_at_call 144
    refine (fltd_any13 b base h A c s args _ da _ (HI.out.later BB0.out) HI.out.has).mono ?_
    rintro e u9 ⟨hb, k1, -⟩
    obtain rfl := k1 HX.out
    exact ⟨rfl, pr_stop13 (then_w BB0.out hb) (by rw [HRR.out, HX.out]; rfl) (by decide)⟩
  have HX := hid hx
  clear hx
  rcases hy : fl13 h a0 with _ | y
  · have HY := hid hy
    clear hy
    go_enter Tryz.func145, Tryz.ntmps145
    go_upto_region 1 with fail
    have BB0 := hid ((Below.refl w.heap.size w).drew)
    refine wp_region_held_drew (S := (fun w' => w'.cell? ⟨b, 3, none⟩ = some (.int .i64 s) ∧ w'.cell? ⟨b, 4, none⟩ = some (.slice (some ⟨p, o, none⟩) args.length da) ∧ w'.cell? ⟨p, o, none⟩ = some (.int .i64 a0) ∧ w'.cell? ⟨kb, 0, none⟩ = some (.func (.func 114) #[] #[]) ∧ Onl13 b w w')) (by kernel_rfl) ?_ (fun hH0 => ?_)
    · exact ⟨cell_later (Below.refl w.heap.size w).drew x3, cell_later (Below.refl w.heap.size w).drew x4, cell_later (Below.refl w.heap.size w).drew q0, cell_later (Below.refl w.heap.size w).drew k0, onl_below13 (Below.refl _ _).drew⟩
    refine tkI 0 ⟨some 4, .load 82 (.tmp 1), 82, "prim.go:138", #[], none⟩ ?v458 rfl (by kernel_rfl) (by rfl) ?y458 ?_
    case y458 => intro w hSw; (try dsimp only at hSw); go_simp; all_goals with_reducible rfl
    try simp only [apt12]
    refine tkI 1 ⟨some 5, .move (.tmp 0), 70, "prim.go:138", #[], none⟩ ?v459 rfl (by kernel_rfl) (by rfl) ?y459 ?_
    case y459 => intro w hSw; (try dsimp only at hSw); go_simp; all_goals with_reducible rfl
    try simp only [apt12]
    refine tkI 2 ⟨some 6, .move (.tmp 0), 70, "prim.go:138", #[], none⟩ ?v460 rfl (by kernel_rfl) (by rfl) ?y460 ?_
    case y460 => intro w hSw; (try dsimp only at hSw); go_simp; all_goals with_reducible rfl
    try simp only [apt12]
    refine tkI 3 ⟨some 7, .nilCheck (.tmp 6), 0, "prim.go:138", #[⟨2, .data⟩], none⟩ ?v461 rfl (by kernel_rfl) (by rfl) ?y461 ?_
    case y461 => intro w hSw; (try dsimp only at hSw); go_simp; all_goals with_reducible rfl
    try simp only [apt12]
    refine tkI 4 ⟨some 8, .fieldAddr 49 (.tmp 7) 1, 0, "prim.go:138", #[⟨3, .data⟩], none⟩ ?v462 rfl (by kernel_rfl) (by rfl) ?y462 ?_
    case y462 => intro w hSw; (try dsimp only at hSw); go_simp; all_goals with_reducible rfl
    try simp only [apt12]
    refine tkI 5 ⟨some 9, .load 3 (.tmp 8), 3, "prim.go:138", #[⟨4, .data⟩], none⟩ ?v463 rfl (by kernel_rfl) (by rfl) ?y463 ?_
    case y463 => intro w hSw; (try dsimp only at hSw); go_simp; all_goals with_reducible rfl
    try simp only [apt12]
    refine tkI 7 ⟨some 11, .move (.tmp 0), 70, "prim.go:138", #[], none⟩ ?v464 rfl (by kernel_rfl) (by rfl) ?y464 ?_
    case y464 => intro w hSw; (try dsimp only at hSw); go_simp; all_goals with_reducible rfl
    try simp only [apt12]
    refine tkI 8 ⟨some 12, .move (.tmp 0), 70, "prim.go:138", #[], none⟩ ?v465 rfl (by kernel_rfl) (by rfl) ?y465 ?_
    case y465 => intro w hSw; (try dsimp only at hSw); go_simp; all_goals with_reducible rfl
    try simp only [apt12]
    refine tkI 9 ⟨some 13, .nilCheck (.tmp 12), 0, "prim.go:138", #[⟨8, .data⟩], none⟩ ?v466 rfl (by kernel_rfl) (by rfl) ?y466 ?_
    case y466 => intro w hSw; (try dsimp only at hSw); go_simp; all_goals with_reducible rfl
    try simp only [apt12]
    refine tkI 10 ⟨some 14, .fieldAddr 49 (.tmp 13) 2, 0, "prim.go:138", #[⟨9, .data⟩], none⟩ ?v467 rfl (by kernel_rfl) (by rfl) ?y467 ?_
    case y467 => intro w hSw; (try dsimp only at hSw); go_simp; all_goals with_reducible rfl
    try simp only [apt12]
    refine tkI 11 ⟨some 15, .load 25 (.tmp 14), 25, "prim.go:138", #[⟨10, .data⟩], none⟩ ?v468 rfl (by kernel_rfl) (by rfl) ?y468 ?_
    case y468 => intro w hSw; (try dsimp only at hSw); go_simp; all_goals with_reducible rfl
    try simp only [apt12]
    refine tkI 12 ⟨some 16, .indexAddr 25 (.tmp 15) (.const (Go.Value.int .i64 0)), 0, "prim.go:138", #[⟨11, .data⟩], none⟩ ?v469 rfl (by kernel_rfl) (by rfl) ?y469 ?_
    case y469 => intro w hSw; (try dsimp only at hSw); go_simp; all_goals with_reducible rfl
    try simp only [apt12]
    refine tkI 13 ⟨some 17, .load 3 (.tmp 16), 3, "prim.go:138", #[⟨12, .data⟩], none⟩ ?v470 rfl (by kernel_rfl) (by rfl) ?y470 ?_
    case y470 => intro w hSw; (try dsimp only at hSw); go_simp; all_goals with_reducible rfl
    try simp only [apt12]
    refine wpAnyH_ready (rs := [6]) (by kernel_rfl) (by simp) ?_
    refine AllReadyH.cons (i := 6) (o := ⟨some 10, .call { callee := .value (.func 144), args := #[.tmp 5, .tmp 9], argTypes := #[70, 3] }, 3, "prim.go:138", #[⟨1, .data⟩, ⟨5, .data⟩], none⟩) rfl (fun K hK => ?_) AllReadyH.nil
    go_simp
    go_at_call 144
    refine (fltd_any13 b base h A c s args _ da _ (HI.out.later BB0.out) HI.out.has).mono ?_
    rintro e u1 ⟨hb, k1, k2⟩
    obtain rfl := k2 _ HX.out
    clear k1 k2
    have BB1 := hid (then_w BB0.out hb)
    refine hK.out _ _ ?_ (fun hH1 => ?_)
    · exact ⟨cell_later hb hH0.1, cell_later hb hH0.2.1, cell_later hb hH0.2.2.1, cell_later hb hH0.2.2.2.1, (hH0.2.2.2.2).trans (onl_below13 hb)⟩
    clear hK K
    try simp only [apt12]
    clear hb
    refine wpAnyH_ready (rs := [14]) (by kernel_rfl) (by simp) ?_
    refine AllReadyH.cons (i := 14) (o := ⟨some 18, .call { callee := .value (.func 144), args := #[.tmp 11, .tmp 17], argTypes := #[70, 3] }, 3, "prim.go:138", #[⟨7, .data⟩, ⟨13, .data⟩, ⟨6, .chain⟩], none⟩) rfl (fun K hK => ?_) AllReadyH.nil
    go_simp
    go_at_call 144
    refine (fltd_any13 b base h A c s args _ da _ (HI.out.later BB1.out) (v := a0) (by rw [HA0.out]; exact HLA.out 0 hn0)).mono ?_
    rintro e u9 ⟨hb, k1, -⟩
    obtain rfl := k1 HY.out
    exact ⟨rfl, pr_stop13 (then_w BB1.out hb) (by rw [HRR.out, HX.out, HY.out]; rfl) (by decide)⟩
  have HY := hid hy
  clear hy
  have HR2 : Hid (rr = (h, tv13 (fEqual x y), 0)) := by show _ = _; rw [HRR.out, HX.out, HY.out]; rfl
  go_enter Tryz.func145, Tryz.ntmps145
  go_upto_region 1 with fail
  have BB0 := hid ((Below.refl w.heap.size w).drew)
  refine wp_region_held_drew (S := (fun w' => w'.cell? ⟨b, 3, none⟩ = some (.int .i64 s) ∧ w'.cell? ⟨b, 4, none⟩ = some (.slice (some ⟨p, o, none⟩) args.length da) ∧ w'.cell? ⟨p, o, none⟩ = some (.int .i64 a0) ∧ w'.cell? ⟨kb, 0, none⟩ = some (.func (.func 114) #[] #[]) ∧ Onl13 b w w')) (by kernel_rfl) ?_ (fun hH0 => ?_)
  · exact ⟨cell_later (Below.refl w.heap.size w).drew x3, cell_later (Below.refl w.heap.size w).drew x4, cell_later (Below.refl w.heap.size w).drew q0, cell_later (Below.refl w.heap.size w).drew k0, onl_below13 (Below.refl _ _).drew⟩
  refine tkI 0 ⟨some 4, .load 82 (.tmp 1), 82, "prim.go:138", #[], none⟩ ?v471 rfl (by kernel_rfl) (by rfl) ?y471 ?_
  case y471 => intro w hSw; (try dsimp only at hSw); go_simp; all_goals with_reducible rfl
  try simp only [apt12]
  refine tkI 1 ⟨some 5, .move (.tmp 0), 70, "prim.go:138", #[], none⟩ ?v472 rfl (by kernel_rfl) (by rfl) ?y472 ?_
  case y472 => intro w hSw; (try dsimp only at hSw); go_simp; all_goals with_reducible rfl
  try simp only [apt12]
  refine tkI 2 ⟨some 6, .move (.tmp 0), 70, "prim.go:138", #[], none⟩ ?v473 rfl (by kernel_rfl) (by rfl) ?y473 ?_
  case y473 => intro w hSw; (try dsimp only at hSw); go_simp; all_goals with_reducible rfl
  try simp only [apt12]
  refine tkI 3 ⟨some 7, .nilCheck (.tmp 6), 0, "prim.go:138", #[⟨2, .data⟩], none⟩ ?v474 rfl (by kernel_rfl) (by rfl) ?y474 ?_
  case y474 => intro w hSw; (try dsimp only at hSw); go_simp; all_goals with_reducible rfl
  try simp only [apt12]
  refine tkI 4 ⟨some 8, .fieldAddr 49 (.tmp 7) 1, 0, "prim.go:138", #[⟨3, .data⟩], none⟩ ?v475 rfl (by kernel_rfl) (by rfl) ?y475 ?_
  case y475 => intro w hSw; (try dsimp only at hSw); go_simp; all_goals with_reducible rfl
  try simp only [apt12]
  refine tkI 5 ⟨some 9, .load 3 (.tmp 8), 3, "prim.go:138", #[⟨4, .data⟩], none⟩ ?v476 rfl (by kernel_rfl) (by rfl) ?y476 ?_
  case y476 => intro w hSw; (try dsimp only at hSw); go_simp; all_goals with_reducible rfl
  try simp only [apt12]
  refine tkI 7 ⟨some 11, .move (.tmp 0), 70, "prim.go:138", #[], none⟩ ?v477 rfl (by kernel_rfl) (by rfl) ?y477 ?_
  case y477 => intro w hSw; (try dsimp only at hSw); go_simp; all_goals with_reducible rfl
  try simp only [apt12]
  refine tkI 8 ⟨some 12, .move (.tmp 0), 70, "prim.go:138", #[], none⟩ ?v478 rfl (by kernel_rfl) (by rfl) ?y478 ?_
  case y478 => intro w hSw; (try dsimp only at hSw); go_simp; all_goals with_reducible rfl
  try simp only [apt12]
  refine tkI 9 ⟨some 13, .nilCheck (.tmp 12), 0, "prim.go:138", #[⟨8, .data⟩], none⟩ ?v479 rfl (by kernel_rfl) (by rfl) ?y479 ?_
  case y479 => intro w hSw; (try dsimp only at hSw); go_simp; all_goals with_reducible rfl
  try simp only [apt12]
  refine tkI 10 ⟨some 14, .fieldAddr 49 (.tmp 13) 2, 0, "prim.go:138", #[⟨9, .data⟩], none⟩ ?v480 rfl (by kernel_rfl) (by rfl) ?y480 ?_
  case y480 => intro w hSw; (try dsimp only at hSw); go_simp; all_goals with_reducible rfl
  try simp only [apt12]
  refine tkI 11 ⟨some 15, .load 25 (.tmp 14), 25, "prim.go:138", #[⟨10, .data⟩], none⟩ ?v481 rfl (by kernel_rfl) (by rfl) ?y481 ?_
  case y481 => intro w hSw; (try dsimp only at hSw); go_simp; all_goals with_reducible rfl
  try simp only [apt12]
  refine tkI 12 ⟨some 16, .indexAddr 25 (.tmp 15) (.const (Go.Value.int .i64 0)), 0, "prim.go:138", #[⟨11, .data⟩], none⟩ ?v482 rfl (by kernel_rfl) (by rfl) ?y482 ?_
  case y482 => intro w hSw; (try dsimp only at hSw); go_simp; all_goals with_reducible rfl
  try simp only [apt12]
  refine tkI 13 ⟨some 17, .load 3 (.tmp 16), 3, "prim.go:138", #[⟨12, .data⟩], none⟩ ?v483 rfl (by kernel_rfl) (by rfl) ?y483 ?_
  case y483 => intro w hSw; (try dsimp only at hSw); go_simp; all_goals with_reducible rfl
  try simp only [apt12]
  refine wpAnyH_ready (rs := [6]) (by kernel_rfl) (by simp) ?_
  refine AllReadyH.cons (i := 6) (o := ⟨some 10, .call { callee := .value (.func 144), args := #[.tmp 5, .tmp 9], argTypes := #[70, 3] }, 3, "prim.go:138", #[⟨1, .data⟩, ⟨5, .data⟩], none⟩) rfl (fun K hK => ?_) AllReadyH.nil
  go_simp
  go_at_call 144
  refine (fltd_any13 b base h A c s args _ da _ (HI.out.later BB0.out) HI.out.has).mono ?_
  rintro e u1 ⟨hb, k1, k2⟩
  obtain rfl := k2 _ HX.out
  clear k1 k2
  have BB1 := hid (then_w BB0.out hb)
  refine hK.out _ _ ?_ (fun hH1 => ?_)
  · exact ⟨cell_later hb hH0.1, cell_later hb hH0.2.1, cell_later hb hH0.2.2.1, cell_later hb hH0.2.2.2.1, (hH0.2.2.2.2).trans (onl_below13 hb)⟩
  clear hK K
  try simp only [apt12]
  clear hb
  refine wpAnyH_ready (rs := [14]) (by kernel_rfl) (by simp) ?_
  refine AllReadyH.cons (i := 14) (o := ⟨some 18, .call { callee := .value (.func 144), args := #[.tmp 11, .tmp 17], argTypes := #[70, 3] }, 3, "prim.go:138", #[⟨7, .data⟩, ⟨13, .data⟩, ⟨6, .chain⟩], none⟩) rfl (fun K hK => ?_) AllReadyH.nil
  go_simp
  go_at_call 144
  refine (fltd_any13 b base h A c s args _ da _ (HI.out.later BB1.out) (v := a0) (by rw [HA0.out]; exact HLA.out 0 hn0)).mono ?_
  rintro e u2 ⟨hb, k1, k2⟩
  obtain rfl := k2 _ HY.out
  clear k1 k2
  have BB2 := hid (then_w BB1.out hb)
  refine hK.out _ _ ?_ (fun hH2 => ?_)
  · exact ⟨cell_later hb hH1.1, cell_later hb hH1.2.1, cell_later hb hH1.2.2.1, cell_later hb hH1.2.2.2.1, (hH1.2.2.2.2).trans (onl_below13 hb)⟩
  clear hK K
  try simp only [apt12]
  clear hb
  refine wpAnyH_ready (rs := [15]) (by kernel_rfl) (by simp) ?_
  refine AllReadyH.cons (i := 15) (o := ⟨some 19, .call { callee := .value (.tmp 4), args := #[.tmp 10, .tmp 18], argTypes := #[3, 3] }, 4, "prim.go:138", #[⟨0, .data⟩, ⟨6, .data⟩, ⟨14, .data⟩, ⟨14, .chain⟩], none⟩) rfl (fun K hK => ?_) AllReadyH.nil
  go_simp
  go_at_call 114
  refine (fequal_any x y _).mono ?_
  rintro e u3 ⟨rfl, rfl⟩
  refine hK.out _ _ ?_ (fun hH3 => ?_)
  · exact hH2
  clear hK K
  try simp only [apt12]
  refine wpAnyH_ready (rs := [16]) (by kernel_rfl) (by simp) ?_
  refine AllReadyH.cons (i := 16) (o := ⟨some 20, .call { callee := .value (.func 128), args := #[.tmp 19], argTypes := #[4] }, 3, "prim.go:138", #[⟨15, .data⟩, ⟨15, .chain⟩], none⟩) rfl (fun K hK => ?_) AllReadyH.nil
  go_simp
  go_at_call 128
  refine (truth_any13 _ _).mono ?_
  rintro e u4 ⟨rfl, rfl⟩
  refine hK.out _ _ ?_ (fun hH4 => ?_)
  · exact hH3
  clear hK K
  try simp only [apt12]
  refine tkI 17 ⟨some 3, .assign (.tmp 20), 3, "prim.go:138", #[⟨16, .data⟩, ⟨16, .chain⟩, ⟨0, .phase⟩, ⟨1, .phase⟩, ⟨2, .phase⟩, ⟨3, .phase⟩, ⟨4, .phase⟩, ⟨5, .phase⟩, ⟨6, .phase⟩, ⟨7, .phase⟩, ⟨8, .phase⟩, ⟨9, .phase⟩, ⟨10, .phase⟩, ⟨11, .phase⟩, ⟨12, .phase⟩, ⟨13, .phase⟩, ⟨14, .phase⟩, ⟨15, .phase⟩, ⟨16, .phase⟩], none⟩ ?v484 rfl (by kernel_rfl) (by rfl) ?y484 ?_
  case y484 => intro w hSw; (try dsimp only at hSw); go_simp; all_goals with_reducible rfl
  try simp only [apt12]
  refine wpAnyH_done (by kernel_rfl) ?_ _
  go_wp2_with fail
  go_ret
  exact pr_keep13 HI.out BB2.out HR2.out
theorem n_bd13 {v : Int} (h : nB v = true) : -1073741824 ≤ nV v ∧ nV v ≤ 1073741823 := by
  have := nB_iff.1 h
  unfold nV
  rw [if_pos h]
  omega
theorem add_any13 {m n : Int} (hm : -1073741824 ≤ m ∧ m ≤ 1073741823) (hn : -1073741824 ≤ n ∧ n ≤ 1073741823) (w : World) : Calls Tryz.prog 95 #[.int .i64 m, .int .i64 n] w fun e w' => e = .returned (.int .i64 (m + n)) ∧ w = w' := by
  have hw : IntKind.i64.wrap (m + n) = m + n := IntWalk.i64_in _ (by omega)
  go_enter Tryz.func95, Tryz.ntmps95
  go_wp2
  go_ret
  exact ⟨rfl, rfl⟩
theorem sub_any13 {m n : Int} (hm : -1073741824 ≤ m ∧ m ≤ 1073741823) (hn : -1073741824 ≤ n ∧ n ≤ 1073741823) (w : World) : Calls Tryz.prog 96 #[.int .i64 m, .int .i64 n] w fun e w' => e = .returned (.int .i64 (m - n)) ∧ w = w' := by
  have hw : IntKind.i64.wrap (m - n) = m - n := IntWalk.i64_in _ (by omega)
  go_enter Tryz.func96, Tryz.ntmps96
  go_wp2
  go_ret
  exact ⟨rfl, rfl⟩
theorem mul_bd13 {m n : Int} (hm : -1073741824 ≤ m ∧ m ≤ 1073741823) (hn : -1073741824 ≤ n ∧ n ≤ 1073741823) : -1152921504606846976 ≤ m * n ∧ m * n ≤ 1152921504606846976 := by
  have h : (m * n).natAbs ≤ 1073741824 * 1073741824 := by
    rw [Int.natAbs_mul]
    exact Nat.mul_le_mul (by omega) (by omega)
  omega
theorem mul_any13 {m n : Int} (hm : -1073741824 ≤ m ∧ m ≤ 1073741823) (hn : -1073741824 ≤ n ∧ n ≤ 1073741823) (w : World) : Calls Tryz.prog 97 #[.int .i64 m, .int .i64 n] w fun e w' => e = .returned (.int .i64 (m * n)) ∧ w = w' := by
  have hw : IntKind.i64.wrap (m * n) = m * n := IntWalk.i64_in _ (by have := mul_bd13 hm hn; omega)
  clear hm hn
  go_enter Tryz.func97, Tryz.ntmps97
  go_wp2
  go_ret
  exact ⟨rfl, rfl⟩
end Go.Proofs.YtkpfmbdkfgeboaaGreat
