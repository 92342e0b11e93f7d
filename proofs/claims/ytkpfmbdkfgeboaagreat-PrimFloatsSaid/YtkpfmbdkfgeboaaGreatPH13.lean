/- Primitives 8, 13, 25: a slot, a class, a byte. -/
import Derived.Test.YtkpfmbdkfgeboaaGreatPE13
import Derived.Test.YtkpfmbdkfgeboaaGreatI
namespace Go.Proofs.YtkpfmbdkfgeboaaGreat
open Go.RowKit Flt
set_option maxRecDepth 100000
theorem pl_30_13 (h : Hp) (v kind k : Int) : plE h v kind k = 0 ∨ go13 (plE h v kind k) = 130 := by
  unfold plE go13
  repeat' split
  all_goals first | exact .inl rfl | (right; decide) | (right; rfl) | omega
theorem byV_13 (h : Hp) (v k : Int) : 0 ≤ byV h v k ∧ byV h v k ≤ 255 := by
  unfold byV
  split
  · have := ((obAt h v).text.data.getD k.toNat 0).toNat_lt; omega
  · omega
theorem has_arg13 {n : Nat} {args : List Int} (h : args.all (hasB n) = true) {k : Nat} (hk : k < args.length) : hasB n (args.getD k 0) = true := by
  rw [List.getD_eq_getElem?_getD, List.getElem?_eq_getElem hk]
  exact List.all_eq_true.1 h _ (List.getElem_mem hk)
set_option maxHeartbeats 1000000 in
theorem slot_any13 (b base : Nat) (h : Hp) (A : Option Addr) (c : Nat) (s : Int) (args : List Int) (SA : Option Addr) (da : Nat) (w : World) (I : In13 w b base h A c s args SA da) (hn : 0 < args.length) :
    Calls Tryz.prog 102 #[.pointer (some ⟨b, 0, none⟩)] w (Po13 w b h A c s args.length SA da (if nB (args.getD 0 0) = false then fa13 h else if plE h s 0 (nV (args.getD 0 0) - 1) ≠ 0 then fa13 h else (h, geV h s (nV (args.getD 0 0) - 1), 0))) := by
  obtain ⟨a0, ha0⟩ : ∃ a, a = args.getD 0 0 := ⟨_, rfl⟩
  rw [← ha0]
  have HI := hid I
  have HLA := hid (fun k => has_arg13 I.hall (k := k))
  obtain ⟨p, o, hSA, q0, hpb⟩ := I.arg (k := 0) (by omega)
  subst hSA
  rw [← ha0] at q0
  simp only [Nat.add_zero] at q0
  have hn0 : 0 < args.length := by omega
  have hn0I : (0 : Int) < (args.length : Int) := by omega
  have HPB := hid hpb
  obtain ⟨x0, x1, x2, x3, x4⟩ := I.box.c5
  have HA0 := hid ha0
  clear I hpb ha0
  cases ha : nB a0
  · go_enter Tryz.func102, Tryz.ntmps102
    go_upto_region 1 with fail
    refine wp_region_held_drew (S := (fun w' => w'.cell? ⟨b, 0, none⟩ = some (.slice A h.objs.length c) ∧ w'.cell? ⟨b, 1, none⟩ = some (.int .i64 h.cap) ∧ w'.cell? ⟨b, 2, none⟩ = some (.int .i64 h.last) ∧ w'.cell? ⟨b, 3, none⟩ = some (.int .i64 s) ∧ w'.cell? ⟨b, 4, none⟩ = some (.slice (some ⟨p, o, none⟩) args.length da) ∧ w'.cell? ⟨p, o, none⟩ = some (.int .i64 a0) ∧ Below w.heap.size w w')) (by kernel_rfl) ?_ (fun hH0 => ?_)
    · exact ⟨cell_later (Below.refl w.heap.size w).drew x0, cell_later (Below.refl w.heap.size w).drew x1, cell_later (Below.refl w.heap.size w).drew x2, cell_later (Below.refl w.heap.size w).drew x3, cell_later (Below.refl w.heap.size w).drew x4, cell_later (Below.refl w.heap.size w).drew q0, (Below.refl _ _).drew⟩
    refine tkI 0 ⟨some 3, .move (.tmp 0), 70, "prim.go:169", #[], none⟩ ?v1 rfl (by kernel_rfl) (by rfl) ?y1 ?_
    case y1 => intro w hSw; (try dsimp only at hSw); go_simp; all_goals with_reducible rfl
    try simp only [apt12]
    refine tkI 1 ⟨some 4, .nilCheck (.tmp 3), 0, "prim.go:169", #[⟨0, .data⟩], none⟩ ?v2 rfl (by kernel_rfl) (by rfl) ?y2 ?_
    case y2 => intro w hSw; (try dsimp only at hSw); go_simp; all_goals with_reducible rfl
    try simp only [apt12]
    refine tkI 2 ⟨some 5, .fieldAddr 49 (.tmp 4) 0, 0, "prim.go:169", #[⟨1, .data⟩], none⟩ ?v3 rfl (by kernel_rfl) (by rfl) ?y3 ?_
    case y3 => intro w hSw; (try dsimp only at hSw); go_simp; all_goals with_reducible rfl
    try simp only [apt12]
    refine tkI 3 ⟨some 6, .load 24 (.tmp 5), 24, "prim.go:169", #[⟨2, .data⟩], none⟩ ?v4 rfl (by kernel_rfl) (by rfl) ?y4 ?_
    case y4 => intro w hSw; (try dsimp only at hSw); go_simp; all_goals with_reducible rfl
    try simp only [apt12]
    refine tkI 4 ⟨some 7, .move (.tmp 0), 70, "prim.go:169", #[], none⟩ ?v5 rfl (by kernel_rfl) (by rfl) ?y5 ?_
    case y5 => intro w hSw; (try dsimp only at hSw); go_simp; all_goals with_reducible rfl
    try simp only [apt12]
    refine tkI 5 ⟨some 8, .nilCheck (.tmp 7), 0, "prim.go:169", #[⟨4, .data⟩], none⟩ ?v6 rfl (by kernel_rfl) (by rfl) ?y6 ?_
    case y6 => intro w hSw; (try dsimp only at hSw); go_simp; all_goals with_reducible rfl
    try simp only [apt12]
    refine tkI 6 ⟨some 9, .fieldAddr 49 (.tmp 8) 1, 0, "prim.go:169", #[⟨5, .data⟩], none⟩ ?v7 rfl (by kernel_rfl) (by rfl) ?y7 ?_
    case y7 => intro w hSw; (try dsimp only at hSw); go_simp; all_goals with_reducible rfl
    try simp only [apt12]
    refine tkI 7 ⟨some 10, .load 3 (.tmp 9), 3, "prim.go:169", #[⟨6, .data⟩], none⟩ ?v8 rfl (by kernel_rfl) (by rfl) ?y8 ?_
    case y8 => intro w hSw; (try dsimp only at hSw); go_simp; all_goals with_reducible rfl
    try simp only [apt12]
    refine tkI 8 ⟨some 11, .move (.tmp 0), 70, "prim.go:169", #[], none⟩ ?v9 rfl (by kernel_rfl) (by rfl) ?y9 ?_
    case y9 => intro w hSw; (try dsimp only at hSw); go_simp; all_goals with_reducible rfl
    try simp only [apt12]
    refine tkI 9 ⟨some 12, .nilCheck (.tmp 11), 0, "prim.go:169", #[⟨8, .data⟩], none⟩ ?v10 rfl (by kernel_rfl) (by rfl) ?y10 ?_
    case y10 => intro w hSw; (try dsimp only at hSw); go_simp; all_goals with_reducible rfl
    try simp only [apt12]
    refine tkI 10 ⟨some 13, .fieldAddr 49 (.tmp 12) 2, 0, "prim.go:169", #[⟨9, .data⟩], none⟩ ?v11 rfl (by kernel_rfl) (by rfl) ?y11 ?_
    case y11 => intro w hSw; (try dsimp only at hSw); go_simp; all_goals with_reducible rfl
    try simp only [apt12]
    refine tkI 11 ⟨some 14, .load 25 (.tmp 13), 25, "prim.go:169", #[⟨10, .data⟩], none⟩ ?v12 rfl (by kernel_rfl) (by rfl) ?y12 ?_
    case y12 => intro w hSw; (try dsimp only at hSw); go_simp; all_goals with_reducible rfl
    try simp only [apt12]
    refine tkI 12 ⟨some 15, .indexAddr 25 (.tmp 14) (.const (Go.Value.int .i64 0)), 0, "prim.go:169", #[⟨11, .data⟩], none⟩ ?v13 rfl (by kernel_rfl) (by rfl) ?y13 ?_
    case y13 => intro w hSw; (try dsimp only at hSw); go_simp; all_goals with_reducible rfl
    try simp only [apt12]
    refine tkI 13 ⟨some 16, .load 3 (.tmp 15), 3, "prim.go:169", #[⟨12, .data⟩], none⟩ ?v14 rfl (by kernel_rfl) (by rfl) ?y14 ?_
    case y14 => intro w hSw; (try dsimp only at hSw); go_simp; all_goals with_reducible rfl
    try simp only [apt12]
    refine wpAnyH_ready (rs := [14]) (by kernel_rfl) (by simp) ?_
    refine AllReadyH.cons (i := 14) (o := ⟨some 17, .call { callee := .value (.func 131), args := #[.tmp 16], argTypes := #[3] }, 3, "prim.go:169", #[⟨13, .data⟩], none⟩) rfl (fun K hK => ?_) AllReadyH.nil
    go_simp
    go_at_call 131
    have BB1 : Hid (Below w.heap.size w _) := (Below.refl _ _).drew
    refine (place_no13 ha _).mono ?_
    rintro e u9 ⟨rfl, rfl⟩
    exact ⟨rfl, pr_stop13 BB1.out (by first | rfl | simp [fa13]) (by decide)⟩
  obtain ⟨en, hen⟩ : ∃ e, e = plE h s 0 (nV a0 - 1) := ⟨_, rfl⟩
  obtain ⟨vv, hvv⟩ : ∃ e, e = geV h s (nV a0 - 1) := ⟨_, rfl⟩
  have G30 := hid (pl_30_13 h s 0 (nV a0 - 1))
  rw [← hen, ← hvv]
  rw [← hen] at G30
  have EN := hid hen
  have VN := hid hvv
  clear hen hvv
  by_cases he : en = 0
  · subst he
    have EN0 := hid EN.out.symm
    go_enter Tryz.func102, Tryz.ntmps102
    go_upto_region 1 with fail
    refine wp_region_held_drew (S := (fun w' => w'.cell? ⟨b, 0, none⟩ = some (.slice A h.objs.length c) ∧ w'.cell? ⟨b, 1, none⟩ = some (.int .i64 h.cap) ∧ w'.cell? ⟨b, 2, none⟩ = some (.int .i64 h.last) ∧ w'.cell? ⟨b, 3, none⟩ = some (.int .i64 s) ∧ w'.cell? ⟨b, 4, none⟩ = some (.slice (some ⟨p, o, none⟩) args.length da) ∧ w'.cell? ⟨p, o, none⟩ = some (.int .i64 a0) ∧ Below w.heap.size w w')) (by kernel_rfl) ?_ (fun hH0 => ?_)
    · exact ⟨cell_later (Below.refl w.heap.size w).drew x0, cell_later (Below.refl w.heap.size w).drew x1, cell_later (Below.refl w.heap.size w).drew x2, cell_later (Below.refl w.heap.size w).drew x3, cell_later (Below.refl w.heap.size w).drew x4, cell_later (Below.refl w.heap.size w).drew q0, (Below.refl _ _).drew⟩
    refine tkI 0 ⟨some 3, .move (.tmp 0), 70, "prim.go:169", #[], none⟩ ?v15 rfl (by kernel_rfl) (by rfl) ?y15 ?_
    case y15 => intro w hSw; (try dsimp only at hSw); go_simp; all_goals with_reducible rfl
    try simp only [apt12]
    refine tkI 1 ⟨some 4, .nilCheck (.tmp 3), 0, "prim.go:169", #[⟨0, .data⟩], none⟩ ?v16 rfl (by kernel_rfl) (by rfl) ?y16 ?_
    case y16 => intro w hSw; (try dsimp only at hSw); go_simp; all_goals with_reducible rfl
    try simp only [apt12]
    refine tkI 2 ⟨some 5, .fieldAddr 49 (.tmp 4) 0, 0, "prim.go:169", #[⟨1, .data⟩], none⟩ ?v17 rfl (by kernel_rfl) (by rfl) ?y17 ?_
    case y17 => intro w hSw; (try dsimp only at hSw); go_simp; all_goals with_reducible rfl
    try simp only [apt12]
    refine tkI 3 ⟨some 6, .load 24 (.tmp 5), 24, "prim.go:169", #[⟨2, .data⟩], none⟩ ?v18 rfl (by kernel_rfl) (by rfl) ?y18 ?_
    case y18 => intro w hSw; (try dsimp only at hSw); go_simp; all_goals with_reducible rfl
    try simp only [apt12]
    refine tkI 4 ⟨some 7, .move (.tmp 0), 70, "prim.go:169", #[], none⟩ ?v19 rfl (by kernel_rfl) (by rfl) ?y19 ?_
    case y19 => intro w hSw; (try dsimp only at hSw); go_simp; all_goals with_reducible rfl
    try simp only [apt12]
    refine tkI 5 ⟨some 8, .nilCheck (.tmp 7), 0, "prim.go:169", #[⟨4, .data⟩], none⟩ ?v20 rfl (by kernel_rfl) (by rfl) ?y20 ?_
    case y20 => intro w hSw; (try dsimp only at hSw); go_simp; all_goals with_reducible rfl
    try simp only [apt12]
    refine tkI 6 ⟨some 9, .fieldAddr 49 (.tmp 8) 1, 0, "prim.go:169", #[⟨5, .data⟩], none⟩ ?v21 rfl (by kernel_rfl) (by rfl) ?y21 ?_
    case y21 => intro w hSw; (try dsimp only at hSw); go_simp; all_goals with_reducible rfl
    try simp only [apt12]
    refine tkI 7 ⟨some 10, .load 3 (.tmp 9), 3, "prim.go:169", #[⟨6, .data⟩], none⟩ ?v22 rfl (by kernel_rfl) (by rfl) ?y22 ?_
    case y22 => intro w hSw; (try dsimp only at hSw); go_simp; all_goals with_reducible rfl
    try simp only [apt12]
    refine tkI 8 ⟨some 11, .move (.tmp 0), 70, "prim.go:169", #[], none⟩ ?v23 rfl (by kernel_rfl) (by rfl) ?y23 ?_
    case y23 => intro w hSw; (try dsimp only at hSw); go_simp; all_goals with_reducible rfl
    try simp only [apt12]
    refine tkI 9 ⟨some 12, .nilCheck (.tmp 11), 0, "prim.go:169", #[⟨8, .data⟩], none⟩ ?v24 rfl (by kernel_rfl) (by rfl) ?y24 ?_
    case y24 => intro w hSw; (try dsimp only at hSw); go_simp; all_goals with_reducible rfl
    try simp only [apt12]
    refine tkI 10 ⟨some 13, .fieldAddr 49 (.tmp 12) 2, 0, "prim.go:169", #[⟨9, .data⟩], none⟩ ?v25 rfl (by kernel_rfl) (by rfl) ?y25 ?_
    case y25 => intro w hSw; (try dsimp only at hSw); go_simp; all_goals with_reducible rfl
    try simp only [apt12]
    refine tkI 11 ⟨some 14, .load 25 (.tmp 13), 25, "prim.go:169", #[⟨10, .data⟩], none⟩ ?v26 rfl (by kernel_rfl) (by rfl) ?y26 ?_
    case y26 => intro w hSw; (try dsimp only at hSw); go_simp; all_goals with_reducible rfl
    try simp only [apt12]
    refine tkI 12 ⟨some 15, .indexAddr 25 (.tmp 14) (.const (Go.Value.int .i64 0)), 0, "prim.go:169", #[⟨11, .data⟩], none⟩ ?v27 rfl (by kernel_rfl) (by rfl) ?y27 ?_
    case y27 => intro w hSw; (try dsimp only at hSw); go_simp; all_goals with_reducible rfl
    try simp only [apt12]
    refine tkI 13 ⟨some 16, .load 3 (.tmp 15), 3, "prim.go:169", #[⟨12, .data⟩], none⟩ ?v28 rfl (by kernel_rfl) (by rfl) ?y28 ?_
    case y28 => intro w hSw; (try dsimp only at hSw); go_simp; all_goals with_reducible rfl
    try simp only [apt12]
    refine wpAnyH_ready (rs := [14]) (by kernel_rfl) (by simp) ?_
    refine AllReadyH.cons (i := 14) (o := ⟨some 17, .call { callee := .value (.func 131), args := #[.tmp 16], argTypes := #[3] }, 3, "prim.go:169", #[⟨13, .data⟩], none⟩) rfl (fun K hK => ?_) AllReadyH.nil
    go_simp
    go_at_call 131
    have BB1 : Hid (Below w.heap.size w _) := (Below.refl _ _).drew
    refine (place_ok13 ha _).mono ?_
    rintro e u1 ⟨rfl, rfl⟩
    refine hK.out _ _ ?_ (fun hH1 => ?_)
    · exact hH0
    clear hK K
    try simp only [apt12]
    refine wpAnyH_ready (rs := [15]) (by kernel_rfl) (by simp) ?_
    refine AllReadyH.cons (i := 15) (o := ⟨some 18, .call { callee := .value (.func 130), args := #[.tmp 6, .tmp 10, .tmp 17], argTypes := #[24, 3, 3] }, 50, "prim.go:169", #[⟨3, .data⟩, ⟨7, .data⟩, ⟨14, .data⟩, ⟨14, .chain⟩], none⟩) rfl (fun K hK => ?_) AllReadyH.nil
    go_simp
    go_at_call 130
    have BB2 : Hid (Below w.heap.size w _) := hH1.2.2.2.2.2.2
    refine (get_any h s (nV a0 - 1) A c _ (HI.out.own.obs.below BB2.out) HI.out.fit).mono ?_
    rintro e u2 ⟨rfl, hb⟩
    rw [EN0.out, ← VN.out]
    refine hK.out _ _ ?_ (fun hH2 => ?_)
    · exact ⟨cell_later hb hH1.1, cell_later hb hH1.2.1, cell_later hb hH1.2.2.1, cell_later hb hH1.2.2.2.1, cell_later hb hH1.2.2.2.2.1, cell_later hb hH1.2.2.2.2.2.1, then_w hH1.2.2.2.2.2.2 hb⟩
    clear hK K
    try simp only [apt12]
    clear hb
    refine tkI 16 ⟨some 19, .extract (.tmp 18) 0, 3, "prim.go:169", #[⟨15, .data⟩], none⟩ ?v29 rfl (by kernel_rfl) (by rfl) ?y29 ?_
    case y29 => intro w hSw; (try dsimp only at hSw); go_simp; all_goals with_reducible rfl
    try simp only [apt12]
    refine tkI 17 ⟨some 20, .extract (.tmp 18) 1, 30, "prim.go:169", #[⟨15, .data⟩], none⟩ ?v30 rfl (by kernel_rfl) (by rfl) ?y30 ?_
    case y30 => intro w hSw; (try dsimp only at hSw); go_simp; all_goals with_reducible rfl
    try simp only [apt12]
    refine wpAnyH_ready (rs := [18]) (by kernel_rfl) (by simp) ?_
    refine AllReadyH.cons (i := 18) (o := ⟨some 21, .call { callee := .value (.func 129), args := #[.tmp 19, .tmp 20], argTypes := #[3, 30] }, 3, "prim.go:169", #[⟨16, .data⟩, ⟨17, .data⟩, ⟨15, .chain⟩], none⟩) rfl (fun K hK => ?_) AllReadyH.nil
    go_simp
    go_at_call 129
    have BB3 : Hid (Below w.heap.size w _) := hH2.2.2.2.2.2.2
    refine (checked_ok13 _ _).mono ?_
    rintro e u3 ⟨rfl, rfl⟩
    refine hK.out _ _ ?_ (fun hH3 => ?_)
    · exact hH2
    clear hK K
    try simp only [apt12]
    refine tkI 19 ⟨some 2, .assign (.tmp 21), 3, "prim.go:169", #[⟨18, .data⟩, ⟨18, .chain⟩, ⟨0, .phase⟩, ⟨1, .phase⟩, ⟨2, .phase⟩, ⟨3, .phase⟩, ⟨4, .phase⟩, ⟨5, .phase⟩, ⟨6, .phase⟩, ⟨7, .phase⟩, ⟨8, .phase⟩, ⟨9, .phase⟩, ⟨10, .phase⟩, ⟨11, .phase⟩, ⟨12, .phase⟩, ⟨13, .phase⟩, ⟨14, .phase⟩, ⟨15, .phase⟩, ⟨16, .phase⟩, ⟨17, .phase⟩, ⟨18, .phase⟩], none⟩ ?v31 rfl (by kernel_rfl) (by rfl) ?y31 ?_
    case y31 => intro w hSw; (try dsimp only at hSw); go_simp; all_goals with_reducible rfl
    try simp only [apt12]
    refine wpAnyH_done (by kernel_rfl) ?_ _
    go_wp2_with fail
    go_ret
    exact pr_keep13 HI.out (hH3.2.2.2.2.2.2) rfl
  have G130 : Hid (go13 en = 130) := G30.out.resolve_left he
  go_enter Tryz.func102, Tryz.ntmps102
  go_upto_region 1 with fail
  refine wp_region_held_drew (S := (fun w' => w'.cell? ⟨b, 0, none⟩ = some (.slice A h.objs.length c) ∧ w'.cell? ⟨b, 1, none⟩ = some (.int .i64 h.cap) ∧ w'.cell? ⟨b, 2, none⟩ = some (.int .i64 h.last) ∧ w'.cell? ⟨b, 3, none⟩ = some (.int .i64 s) ∧ w'.cell? ⟨b, 4, none⟩ = some (.slice (some ⟨p, o, none⟩) args.length da) ∧ w'.cell? ⟨p, o, none⟩ = some (.int .i64 a0) ∧ Below w.heap.size w w')) (by kernel_rfl) ?_ (fun hH0 => ?_)
  · exact ⟨cell_later (Below.refl w.heap.size w).drew x0, cell_later (Below.refl w.heap.size w).drew x1, cell_later (Below.refl w.heap.size w).drew x2, cell_later (Below.refl w.heap.size w).drew x3, cell_later (Below.refl w.heap.size w).drew x4, cell_later (Below.refl w.heap.size w).drew q0, (Below.refl _ _).drew⟩
  refine tkI 0 ⟨some 3, .move (.tmp 0), 70, "prim.go:169", #[], none⟩ ?v32 rfl (by kernel_rfl) (by rfl) ?y32 ?_
  case y32 => intro w hSw; (try dsimp only at hSw); go_simp; all_goals with_reducible rfl
  try simp only [apt12]
  refine tkI 1 ⟨some 4, .nilCheck (.tmp 3), 0, "prim.go:169", #[⟨0, .data⟩], none⟩ ?v33 rfl (by kernel_rfl) (by rfl) ?y33 ?_
  case y33 => intro w hSw; (try dsimp only at hSw); go_simp; all_goals with_reducible rfl
  try simp only [apt12]
  refine tkI 2 ⟨some 5, .fieldAddr 49 (.tmp 4) 0, 0, "prim.go:169", #[⟨1, .data⟩], none⟩ ?v34 rfl (by kernel_rfl) (by rfl) ?y34 ?_
  case y34 => intro w hSw; (try dsimp only at hSw); go_simp; all_goals with_reducible rfl
  try simp only [apt12]
  refine tkI 3 ⟨some 6, .load 24 (.tmp 5), 24, "prim.go:169", #[⟨2, .data⟩], none⟩ ?v35 rfl (by kernel_rfl) (by rfl) ?y35 ?_
  case y35 => intro w hSw; (try dsimp only at hSw); go_simp; all_goals with_reducible rfl
  try simp only [apt12]
  refine tkI 4 ⟨some 7, .move (.tmp 0), 70, "prim.go:169", #[], none⟩ ?v36 rfl (by kernel_rfl) (by rfl) ?y36 ?_
  case y36 => intro w hSw; (try dsimp only at hSw); go_simp; all_goals with_reducible rfl
  try simp only [apt12]
  refine tkI 5 ⟨some 8, .nilCheck (.tmp 7), 0, "prim.go:169", #[⟨4, .data⟩], none⟩ ?v37 rfl (by kernel_rfl) (by rfl) ?y37 ?_
  case y37 => intro w hSw; (try dsimp only at hSw); go_simp; all_goals with_reducible rfl
  try simp only [apt12]
  refine tkI 6 ⟨some 9, .fieldAddr 49 (.tmp 8) 1, 0, "prim.go:169", #[⟨5, .data⟩], none⟩ ?v38 rfl (by kernel_rfl) (by rfl) ?y38 ?_
  case y38 => intro w hSw; (try dsimp only at hSw); go_simp; all_goals with_reducible rfl
  try simp only [apt12]
  refine tkI 7 ⟨some 10, .load 3 (.tmp 9), 3, "prim.go:169", #[⟨6, .data⟩], none⟩ ?v39 rfl (by kernel_rfl) (by rfl) ?y39 ?_
  case y39 => intro w hSw; (try dsimp only at hSw); go_simp; all_goals with_reducible rfl
  try simp only [apt12]
  refine tkI 8 ⟨some 11, .move (.tmp 0), 70, "prim.go:169", #[], none⟩ ?v40 rfl (by kernel_rfl) (by rfl) ?y40 ?_
  case y40 => intro w hSw; (try dsimp only at hSw); go_simp; all_goals with_reducible rfl
  try simp only [apt12]
  refine tkI 9 ⟨some 12, .nilCheck (.tmp 11), 0, "prim.go:169", #[⟨8, .data⟩], none⟩ ?v41 rfl (by kernel_rfl) (by rfl) ?y41 ?_
  case y41 => intro w hSw; (try dsimp only at hSw); go_simp; all_goals with_reducible rfl
  try simp only [apt12]
  refine tkI 10 ⟨some 13, .fieldAddr 49 (.tmp 12) 2, 0, "prim.go:169", #[⟨9, .data⟩], none⟩ ?v42 rfl (by kernel_rfl) (by rfl) ?y42 ?_
  case y42 => intro w hSw; (try dsimp only at hSw); go_simp; all_goals with_reducible rfl
  try simp only [apt12]
  refine tkI 11 ⟨some 14, .load 25 (.tmp 13), 25, "prim.go:169", #[⟨10, .data⟩], none⟩ ?v43 rfl (by kernel_rfl) (by rfl) ?y43 ?_
  case y43 => intro w hSw; (try dsimp only at hSw); go_simp; all_goals with_reducible rfl
  try simp only [apt12]
  refine tkI 12 ⟨some 15, .indexAddr 25 (.tmp 14) (.const (Go.Value.int .i64 0)), 0, "prim.go:169", #[⟨11, .data⟩], none⟩ ?v44 rfl (by kernel_rfl) (by rfl) ?y44 ?_
  case y44 => intro w hSw; (try dsimp only at hSw); go_simp; all_goals with_reducible rfl
  try simp only [apt12]
  refine tkI 13 ⟨some 16, .load 3 (.tmp 15), 3, "prim.go:169", #[⟨12, .data⟩], none⟩ ?v45 rfl (by kernel_rfl) (by rfl) ?y45 ?_
  case y45 => intro w hSw; (try dsimp only at hSw); go_simp; all_goals with_reducible rfl
  try simp only [apt12]
  refine wpAnyH_ready (rs := [14]) (by kernel_rfl) (by simp) ?_
  refine AllReadyH.cons (i := 14) (o := ⟨some 17, .call { callee := .value (.func 131), args := #[.tmp 16], argTypes := #[3] }, 3, "prim.go:169", #[⟨13, .data⟩], none⟩) rfl (fun K hK => ?_) AllReadyH.nil
  go_simp
  go_at_call 131
  have BB1 : Hid (Below w.heap.size w _) := (Below.refl _ _).drew
  refine (place_ok13 ha _).mono ?_
  rintro e u1 ⟨rfl, rfl⟩
  refine hK.out _ _ ?_ (fun hH1 => ?_)
  · exact hH0
  clear hK K
  try simp only [apt12]
  refine wpAnyH_ready (rs := [15]) (by kernel_rfl) (by simp) ?_
  refine AllReadyH.cons (i := 15) (o := ⟨some 18, .call { callee := .value (.func 130), args := #[.tmp 6, .tmp 10, .tmp 17], argTypes := #[24, 3, 3] }, 50, "prim.go:169", #[⟨3, .data⟩, ⟨7, .data⟩, ⟨14, .data⟩, ⟨14, .chain⟩], none⟩) rfl (fun K hK => ?_) AllReadyH.nil
  go_simp
  go_at_call 130
  have BB2 : Hid (Below w.heap.size w _) := hH1.2.2.2.2.2.2
  refine (get_any h s (nV a0 - 1) A c _ (HI.out.own.obs.below BB2.out) HI.out.fit).mono ?_
  rintro e u2 ⟨rfl, hb⟩
  rw [← EN.out, ← VN.out]
  refine hK.out _ _ ?_ (fun hH2 => ?_)
  · exact ⟨cell_later hb hH1.1, cell_later hb hH1.2.1, cell_later hb hH1.2.2.1, cell_later hb hH1.2.2.2.1, cell_later hb hH1.2.2.2.2.1, cell_later hb hH1.2.2.2.2.2.1, then_w hH1.2.2.2.2.2.2 hb⟩
  clear hK K
  try simp only [apt12]
  clear hb
  refine tkI 16 ⟨some 19, .extract (.tmp 18) 0, 3, "prim.go:169", #[⟨15, .data⟩], none⟩ ?v46 rfl (by kernel_rfl) (by rfl) ?y46 ?_
  case y46 => intro w hSw; (try dsimp only at hSw); go_simp; all_goals with_reducible rfl
  try simp only [apt12]
  refine tkI 17 ⟨some 20, .extract (.tmp 18) 1, 30, "prim.go:169", #[⟨15, .data⟩], none⟩ ?v47 rfl (by kernel_rfl) (by rfl) ?y47 ?_
  case y47 => intro w hSw; (try dsimp only at hSw); go_simp; all_goals with_reducible rfl
  try simp only [apt12]
  refine wpAnyH_ready (rs := [18]) (by kernel_rfl) (by simp) ?_
  refine AllReadyH.cons (i := 18) (o := ⟨some 21, .call { callee := .value (.func 129), args := #[.tmp 19, .tmp 20], argTypes := #[3, 30] }, 3, "prim.go:169", #[⟨16, .data⟩, ⟨17, .data⟩, ⟨15, .chain⟩], none⟩) rfl (fun K hK => ?_) AllReadyH.nil
  go_simp
  go_at_call 129
  have BB3 : Hid (Below w.heap.size w _) := hH2.2.2.2.2.2.2
  refine (checked_no13 _ he _).mono ?_
  rintro e u9 ⟨rfl, rfl⟩
  rw [G130.out]
  exact ⟨rfl, pr_stop13 BB3.out (by first | rfl | simp [fa13]) (by decide)⟩
set_option maxHeartbeats 1000000 in
theorem byteat_any13 (b base : Nat) (h : Hp) (A : Option Addr) (c : Nat) (s : Int) (args : List Int) (SA : Option Addr) (da : Nat) (w : World) (I : In13 w b base h A c s args SA da) (hn : 0 < args.length) :
    Calls Tryz.prog 117 #[.pointer (some ⟨b, 0, none⟩)] w (Po13 w b h A c s args.length SA da (if nB (args.getD 0 0) = false then fa13 h else if plE h s 1 (nV (args.getD 0 0) - 1) ≠ 0 then fa13 h else in13 h (byV h s (nV (args.getD 0 0) - 1)))) := by
  obtain ⟨a0, ha0⟩ : ∃ a, a = args.getD 0 0 := ⟨_, rfl⟩
  rw [← ha0]
  have HI := hid I
  have HLA := hid (fun k => has_arg13 I.hall (k := k))
  obtain ⟨p, o, hSA, q0, hpb⟩ := I.arg (k := 0) (by omega)
  subst hSA
  rw [← ha0] at q0
  simp only [Nat.add_zero] at q0
  have hn0 : 0 < args.length := by omega
  have hn0I : (0 : Int) < (args.length : Int) := by omega
  have HPB := hid hpb
  obtain ⟨x0, x1, x2, x3, x4⟩ := I.box.c5
  have HA0 := hid ha0
  clear I hpb ha0
  cases ha : nB a0
  · go_enter Tryz.func117, Tryz.ntmps117
    go_upto_region 1 with fail
    refine wp_region_held_drew (S := (fun w' => w'.cell? ⟨b, 0, none⟩ = some (.slice A h.objs.length c) ∧ w'.cell? ⟨b, 1, none⟩ = some (.int .i64 h.cap) ∧ w'.cell? ⟨b, 2, none⟩ = some (.int .i64 h.last) ∧ w'.cell? ⟨b, 3, none⟩ = some (.int .i64 s) ∧ w'.cell? ⟨b, 4, none⟩ = some (.slice (some ⟨p, o, none⟩) args.length da) ∧ w'.cell? ⟨p, o, none⟩ = some (.int .i64 a0) ∧ Below w.heap.size w w')) (by kernel_rfl) ?_ (fun hH0 => ?_)
    · exact ⟨cell_later (Below.refl w.heap.size w).drew x0, cell_later (Below.refl w.heap.size w).drew x1, cell_later (Below.refl w.heap.size w).drew x2, cell_later (Below.refl w.heap.size w).drew x3, cell_later (Below.refl w.heap.size w).drew x4, cell_later (Below.refl w.heap.size w).drew q0, (Below.refl _ _).drew⟩
    refine tkI 0 ⟨some 3, .move (.tmp 0), 70, "prim.go:176", #[], none⟩ ?v48 rfl (by kernel_rfl) (by rfl) ?y48 ?_
    case y48 => intro w hSw; (try dsimp only at hSw); go_simp; all_goals with_reducible rfl
    try simp only [apt12]
    refine tkI 1 ⟨some 4, .nilCheck (.tmp 3), 0, "prim.go:176", #[⟨0, .data⟩], none⟩ ?v49 rfl (by kernel_rfl) (by rfl) ?y49 ?_
    case y49 => intro w hSw; (try dsimp only at hSw); go_simp; all_goals with_reducible rfl
    try simp only [apt12]
    refine tkI 2 ⟨some 5, .fieldAddr 49 (.tmp 4) 0, 0, "prim.go:176", #[⟨1, .data⟩], none⟩ ?v50 rfl (by kernel_rfl) (by rfl) ?y50 ?_
    case y50 => intro w hSw; (try dsimp only at hSw); go_simp; all_goals with_reducible rfl
    try simp only [apt12]
    refine tkI 3 ⟨some 6, .load 24 (.tmp 5), 24, "prim.go:176", #[⟨2, .data⟩], none⟩ ?v51 rfl (by kernel_rfl) (by rfl) ?y51 ?_
    case y51 => intro w hSw; (try dsimp only at hSw); go_simp; all_goals with_reducible rfl
    try simp only [apt12]
    refine tkI 4 ⟨some 7, .move (.tmp 0), 70, "prim.go:176", #[], none⟩ ?v52 rfl (by kernel_rfl) (by rfl) ?y52 ?_
    case y52 => intro w hSw; (try dsimp only at hSw); go_simp; all_goals with_reducible rfl
    try simp only [apt12]
    refine tkI 5 ⟨some 8, .nilCheck (.tmp 7), 0, "prim.go:176", #[⟨4, .data⟩], none⟩ ?v53 rfl (by kernel_rfl) (by rfl) ?y53 ?_
    case y53 => intro w hSw; (try dsimp only at hSw); go_simp; all_goals with_reducible rfl
    try simp only [apt12]
    refine tkI 6 ⟨some 9, .fieldAddr 49 (.tmp 8) 1, 0, "prim.go:176", #[⟨5, .data⟩], none⟩ ?v54 rfl (by kernel_rfl) (by rfl) ?y54 ?_
    case y54 => intro w hSw; (try dsimp only at hSw); go_simp; all_goals with_reducible rfl
    try simp only [apt12]
    refine tkI 7 ⟨some 10, .load 3 (.tmp 9), 3, "prim.go:176", #[⟨6, .data⟩], none⟩ ?v55 rfl (by kernel_rfl) (by rfl) ?y55 ?_
    case y55 => intro w hSw; (try dsimp only at hSw); go_simp; all_goals with_reducible rfl
    try simp only [apt12]
    refine tkI 8 ⟨some 11, .move (.tmp 0), 70, "prim.go:176", #[], none⟩ ?v56 rfl (by kernel_rfl) (by rfl) ?y56 ?_
    case y56 => intro w hSw; (try dsimp only at hSw); go_simp; all_goals with_reducible rfl
    try simp only [apt12]
    refine tkI 9 ⟨some 12, .nilCheck (.tmp 11), 0, "prim.go:176", #[⟨8, .data⟩], none⟩ ?v57 rfl (by kernel_rfl) (by rfl) ?y57 ?_
    case y57 => intro w hSw; (try dsimp only at hSw); go_simp; all_goals with_reducible rfl
    try simp only [apt12]
    refine tkI 10 ⟨some 13, .fieldAddr 49 (.tmp 12) 2, 0, "prim.go:176", #[⟨9, .data⟩], none⟩ ?v58 rfl (by kernel_rfl) (by rfl) ?y58 ?_
    case y58 => intro w hSw; (try dsimp only at hSw); go_simp; all_goals with_reducible rfl
    try simp only [apt12]
    refine tkI 11 ⟨some 14, .load 25 (.tmp 13), 25, "prim.go:176", #[⟨10, .data⟩], none⟩ ?v59 rfl (by kernel_rfl) (by rfl) ?y59 ?_
    case y59 => intro w hSw; (try dsimp only at hSw); go_simp; all_goals with_reducible rfl
    try simp only [apt12]
    refine tkI 12 ⟨some 15, .indexAddr 25 (.tmp 14) (.const (Go.Value.int .i64 0)), 0, "prim.go:176", #[⟨11, .data⟩], none⟩ ?v60 rfl (by kernel_rfl) (by rfl) ?y60 ?_
    case y60 => intro w hSw; (try dsimp only at hSw); go_simp; all_goals with_reducible rfl
    try simp only [apt12]
    refine tkI 13 ⟨some 16, .load 3 (.tmp 15), 3, "prim.go:176", #[⟨12, .data⟩], none⟩ ?v61 rfl (by kernel_rfl) (by rfl) ?y61 ?_
    case y61 => intro w hSw; (try dsimp only at hSw); go_simp; all_goals with_reducible rfl
    try simp only [apt12]
    refine wpAnyH_ready (rs := [14]) (by kernel_rfl) (by simp) ?_
    refine AllReadyH.cons (i := 14) (o := ⟨some 17, .call { callee := .value (.func 131), args := #[.tmp 16], argTypes := #[3] }, 3, "prim.go:176", #[⟨13, .data⟩], none⟩) rfl (fun K hK => ?_) AllReadyH.nil
    go_simp
    go_at_call 131
    have BB1 : Hid (Below w.heap.size w _) := (Below.refl _ _).drew
    refine (place_no13 ha _).mono ?_
    rintro e u9 ⟨rfl, rfl⟩
    exact ⟨rfl, pr_stop13 BB1.out (by first | rfl | simp [fa13]) (by decide)⟩
  obtain ⟨en, hen⟩ : ∃ e, e = plE h s 1 (nV a0 - 1) := ⟨_, rfl⟩
  obtain ⟨vv, hvv⟩ : ∃ e, e = byV h s (nV a0 - 1) := ⟨_, rfl⟩
  have G30 := hid (pl_30_13 h s 1 (nV a0 - 1))
  have SM : Hid (smB vv = true) := by show _ = _; have := byV_13 h s (nV a0 - 1); rw [hvv]; exact smB_iff.2 ⟨by omega, by omega⟩
  rw [← hen, ← hvv]
  rw [← hen] at G30
  have EN := hid hen
  have VN := hid hvv
  clear hen hvv
  by_cases he : en = 0
  · subst he
    have EN0 := hid EN.out.symm
    go_enter Tryz.func117, Tryz.ntmps117
    go_upto_region 1 with fail
    refine wp_region_held_drew (S := (fun w' => w'.cell? ⟨b, 0, none⟩ = some (.slice A h.objs.length c) ∧ w'.cell? ⟨b, 1, none⟩ = some (.int .i64 h.cap) ∧ w'.cell? ⟨b, 2, none⟩ = some (.int .i64 h.last) ∧ w'.cell? ⟨b, 3, none⟩ = some (.int .i64 s) ∧ w'.cell? ⟨b, 4, none⟩ = some (.slice (some ⟨p, o, none⟩) args.length da) ∧ w'.cell? ⟨p, o, none⟩ = some (.int .i64 a0) ∧ Below w.heap.size w w')) (by kernel_rfl) ?_ (fun hH0 => ?_)
    · exact ⟨cell_later (Below.refl w.heap.size w).drew x0, cell_later (Below.refl w.heap.size w).drew x1, cell_later (Below.refl w.heap.size w).drew x2, cell_later (Below.refl w.heap.size w).drew x3, cell_later (Below.refl w.heap.size w).drew x4, cell_later (Below.refl w.heap.size w).drew q0, (Below.refl _ _).drew⟩
    refine tkI 0 ⟨some 3, .move (.tmp 0), 70, "prim.go:176", #[], none⟩ ?v62 rfl (by kernel_rfl) (by rfl) ?y62 ?_
    case y62 => intro w hSw; (try dsimp only at hSw); go_simp; all_goals with_reducible rfl
    try simp only [apt12]
    refine tkI 1 ⟨some 4, .nilCheck (.tmp 3), 0, "prim.go:176", #[⟨0, .data⟩], none⟩ ?v63 rfl (by kernel_rfl) (by rfl) ?y63 ?_
    case y63 => intro w hSw; (try dsimp only at hSw); go_simp; all_goals with_reducible rfl
    try simp only [apt12]
    refine tkI 2 ⟨some 5, .fieldAddr 49 (.tmp 4) 0, 0, "prim.go:176", #[⟨1, .data⟩], none⟩ ?v64 rfl (by kernel_rfl) (by rfl) ?y64 ?_
    case y64 => intro w hSw; (try dsimp only at hSw); go_simp; all_goals with_reducible rfl
    try simp only [apt12]
    refine tkI 3 ⟨some 6, .load 24 (.tmp 5), 24, "prim.go:176", #[⟨2, .data⟩], none⟩ ?v65 rfl (by kernel_rfl) (by rfl) ?y65 ?_
    case y65 => intro w hSw; (try dsimp only at hSw); go_simp; all_goals with_reducible rfl
    try simp only [apt12]
    refine tkI 4 ⟨some 7, .move (.tmp 0), 70, "prim.go:176", #[], none⟩ ?v66 rfl (by kernel_rfl) (by rfl) ?y66 ?_
    case y66 => intro w hSw; (try dsimp only at hSw); go_simp; all_goals with_reducible rfl
    try simp only [apt12]
    refine tkI 5 ⟨some 8, .nilCheck (.tmp 7), 0, "prim.go:176", #[⟨4, .data⟩], none⟩ ?v67 rfl (by kernel_rfl) (by rfl) ?y67 ?_
    case y67 => intro w hSw; (try dsimp only at hSw); go_simp; all_goals with_reducible rfl
    try simp only [apt12]
    refine tkI 6 ⟨some 9, .fieldAddr 49 (.tmp 8) 1, 0, "prim.go:176", #[⟨5, .data⟩], none⟩ ?v68 rfl (by kernel_rfl) (by rfl) ?y68 ?_
    case y68 => intro w hSw; (try dsimp only at hSw); go_simp; all_goals with_reducible rfl
    try simp only [apt12]
    refine tkI 7 ⟨some 10, .load 3 (.tmp 9), 3, "prim.go:176", #[⟨6, .data⟩], none⟩ ?v69 rfl (by kernel_rfl) (by rfl) ?y69 ?_
    case y69 => intro w hSw; (try dsimp only at hSw); go_simp; all_goals with_reducible rfl
    try simp only [apt12]
    refine tkI 8 ⟨some 11, .move (.tmp 0), 70, "prim.go:176", #[], none⟩ ?v70 rfl (by kernel_rfl) (by rfl) ?y70 ?_
    case y70 => intro w hSw; (try dsimp only at hSw); go_simp; all_goals with_reducible rfl
    try simp only [apt12]
    refine tkI 9 ⟨some 12, .nilCheck (.tmp 11), 0, "prim.go:176", #[⟨8, .data⟩], none⟩ ?v71 rfl (by kernel_rfl) (by rfl) ?y71 ?_
    case y71 => intro w hSw; (try dsimp only at hSw); go_simp; all_goals with_reducible rfl
    try simp only [apt12]
    refine tkI 10 ⟨some 13, .fieldAddr 49 (.tmp 12) 2, 0, "prim.go:176", #[⟨9, .data⟩], none⟩ ?v72 rfl (by kernel_rfl) (by rfl) ?y72 ?_
    case y72 => intro w hSw; (try dsimp only at hSw); go_simp; all_goals with_reducible rfl
    try simp only [apt12]
    refine tkI 11 ⟨some 14, .load 25 (.tmp 13), 25, "prim.go:176", #[⟨10, .data⟩], none⟩ ?v73 rfl (by kernel_rfl) (by rfl) ?y73 ?_
    case y73 => intro w hSw; (try dsimp only at hSw); go_simp; all_goals with_reducible rfl
    try simp only [apt12]
    refine tkI 12 ⟨some 15, .indexAddr 25 (.tmp 14) (.const (Go.Value.int .i64 0)), 0, "prim.go:176", #[⟨11, .data⟩], none⟩ ?v74 rfl (by kernel_rfl) (by rfl) ?y74 ?_
    case y74 => intro w hSw; (try dsimp only at hSw); go_simp; all_goals with_reducible rfl
    try simp only [apt12]
    refine tkI 13 ⟨some 16, .load 3 (.tmp 15), 3, "prim.go:176", #[⟨12, .data⟩], none⟩ ?v75 rfl (by kernel_rfl) (by rfl) ?y75 ?_
    case y75 => intro w hSw; (try dsimp only at hSw); go_simp; all_goals with_reducible rfl
    try simp only [apt12]
    refine wpAnyH_ready (rs := [14]) (by kernel_rfl) (by simp) ?_
    refine AllReadyH.cons (i := 14) (o := ⟨some 17, .call { callee := .value (.func 131), args := #[.tmp 16], argTypes := #[3] }, 3, "prim.go:176", #[⟨13, .data⟩], none⟩) rfl (fun K hK => ?_) AllReadyH.nil
    go_simp
    go_at_call 131
    have BB1 : Hid (Below w.heap.size w _) := (Below.refl _ _).drew
    refine (place_ok13 ha _).mono ?_
    rintro e u1 ⟨rfl, rfl⟩
    refine hK.out _ _ ?_ (fun hH1 => ?_)
    · exact hH0
    clear hK K
    try simp only [apt12]
    refine wpAnyH_ready (rs := [15]) (by kernel_rfl) (by simp) ?_
    refine AllReadyH.cons (i := 15) (o := ⟨some 18, .call { callee := .value (.func 148), args := #[.tmp 6, .tmp 10, .tmp 17], argTypes := #[24, 3, 3] }, 50, "prim.go:176", #[⟨3, .data⟩, ⟨7, .data⟩, ⟨14, .data⟩, ⟨14, .chain⟩], none⟩) rfl (fun K hK => ?_) AllReadyH.nil
    go_simp
    go_at_call 148
    have BB2 : Hid (Below w.heap.size w _) := hH1.2.2.2.2.2.2
    refine (byte_any h s (nV a0 - 1) A c _ (HI.out.own.obs.below BB2.out) HI.out.fit).mono ?_
    rintro e u2 ⟨rfl, hb⟩
    rw [EN0.out, ← VN.out]
    refine hK.out _ _ ?_ (fun hH2 => ?_)
    · exact ⟨cell_later hb hH1.1, cell_later hb hH1.2.1, cell_later hb hH1.2.2.1, cell_later hb hH1.2.2.2.1, cell_later hb hH1.2.2.2.2.1, cell_later hb hH1.2.2.2.2.2.1, then_w hH1.2.2.2.2.2.2 hb⟩
    clear hK K
    try simp only [apt12]
    clear hb
    refine tkI 16 ⟨some 19, .extract (.tmp 18) 0, 3, "prim.go:176", #[⟨15, .data⟩], none⟩ ?v76 rfl (by kernel_rfl) (by rfl) ?y76 ?_
    case y76 => intro w hSw; (try dsimp only at hSw); go_simp; all_goals with_reducible rfl
    try simp only [apt12]
    refine tkI 17 ⟨some 20, .extract (.tmp 18) 1, 30, "prim.go:176", #[⟨15, .data⟩], none⟩ ?v77 rfl (by kernel_rfl) (by rfl) ?y77 ?_
    case y77 => intro w hSw; (try dsimp only at hSw); go_simp; all_goals with_reducible rfl
    try simp only [apt12]
    refine wpAnyH_ready (rs := [18]) (by kernel_rfl) (by simp) ?_
    refine AllReadyH.cons (i := 18) (o := ⟨some 21, .call { callee := .value (.func 129), args := #[.tmp 19, .tmp 20], argTypes := #[3, 30] }, 3, "prim.go:176", #[⟨16, .data⟩, ⟨17, .data⟩, ⟨15, .chain⟩], none⟩) rfl (fun K hK => ?_) AllReadyH.nil
    go_simp
    go_at_call 129
    have BB3 : Hid (Below w.heap.size w _) := hH2.2.2.2.2.2.2
    refine (checked_ok13 _ _).mono ?_
    rintro e u3 ⟨rfl, rfl⟩
    refine hK.out _ _ ?_ (fun hH3 => ?_)
    · exact hH2
    clear hK K
    try simp only [apt12]
    refine wpAnyH_ready (rs := [19]) (by kernel_rfl) (by simp) ?_
    refine AllReadyH.cons (i := 19) (o := ⟨some 22, .call { callee := .value (.func 126), args := #[.tmp 21], argTypes := #[3] }, 3, "prim.go:176", #[⟨18, .data⟩, ⟨18, .chain⟩], none⟩) rfl (fun K hK => ?_) AllReadyH.nil
    go_simp
    go_at_call 126
    have BB4 : Hid (Below w.heap.size w _) := hH3.2.2.2.2.2.2
    refine (small_ok13 SM.out _).mono ?_
    rintro e u4 ⟨rfl, rfl⟩
    refine hK.out _ _ ?_ (fun hH4 => ?_)
    · exact hH3
    clear hK K
    try simp only [apt12]
    refine tkI 20 ⟨some 2, .assign (.tmp 22), 3, "prim.go:176", #[⟨19, .data⟩, ⟨19, .chain⟩, ⟨0, .phase⟩, ⟨1, .phase⟩, ⟨2, .phase⟩, ⟨3, .phase⟩, ⟨4, .phase⟩, ⟨5, .phase⟩, ⟨6, .phase⟩, ⟨7, .phase⟩, ⟨8, .phase⟩, ⟨9, .phase⟩, ⟨10, .phase⟩, ⟨11, .phase⟩, ⟨12, .phase⟩, ⟨13, .phase⟩, ⟨14, .phase⟩, ⟨15, .phase⟩, ⟨16, .phase⟩, ⟨17, .phase⟩, ⟨18, .phase⟩, ⟨19, .phase⟩], none⟩ ?v78 rfl (by kernel_rfl) (by rfl) ?y78 ?_
    case y78 => intro w hSw; (try dsimp only at hSw); go_simp; all_goals with_reducible rfl
    try simp only [apt12]
    refine wpAnyH_done (by kernel_rfl) ?_ _
    go_wp2_with fail
    go_ret
    exact pr_keep13 HI.out (hH4.2.2.2.2.2.2) (in_ok13 SM.out)
  have G130 : Hid (go13 en = 130) := G30.out.resolve_left he
  go_enter Tryz.func117, Tryz.ntmps117
  go_upto_region 1 with fail
  refine wp_region_held_drew (S := (fun w' => w'.cell? ⟨b, 0, none⟩ = some (.slice A h.objs.length c) ∧ w'.cell? ⟨b, 1, none⟩ = some (.int .i64 h.cap) ∧ w'.cell? ⟨b, 2, none⟩ = some (.int .i64 h.last) ∧ w'.cell? ⟨b, 3, none⟩ = some (.int .i64 s) ∧ w'.cell? ⟨b, 4, none⟩ = some (.slice (some ⟨p, o, none⟩) args.length da) ∧ w'.cell? ⟨p, o, none⟩ = some (.int .i64 a0) ∧ Below w.heap.size w w')) (by kernel_rfl) ?_ (fun hH0 => ?_)
  · exact ⟨cell_later (Below.refl w.heap.size w).drew x0, cell_later (Below.refl w.heap.size w).drew x1, cell_later (Below.refl w.heap.size w).drew x2, cell_later (Below.refl w.heap.size w).drew x3, cell_later (Below.refl w.heap.size w).drew x4, cell_later (Below.refl w.heap.size w).drew q0, (Below.refl _ _).drew⟩
  refine tkI 0 ⟨some 3, .move (.tmp 0), 70, "prim.go:176", #[], none⟩ ?v79 rfl (by kernel_rfl) (by rfl) ?y79 ?_
  case y79 => intro w hSw; (try dsimp only at hSw); go_simp; all_goals with_reducible rfl
  try simp only [apt12]
  refine tkI 1 ⟨some 4, .nilCheck (.tmp 3), 0, "prim.go:176", #[⟨0, .data⟩], none⟩ ?v80 rfl (by kernel_rfl) (by rfl) ?y80 ?_
  case y80 => intro w hSw; (try dsimp only at hSw); go_simp; all_goals with_reducible rfl
  try simp only [apt12]
  refine tkI 2 ⟨some 5, .fieldAddr 49 (.tmp 4) 0, 0, "prim.go:176", #[⟨1, .data⟩], none⟩ ?v81 rfl (by kernel_rfl) (by rfl) ?y81 ?_
  case y81 => intro w hSw; (try dsimp only at hSw); go_simp; all_goals with_reducible rfl
  try simp only [apt12]
  refine tkI 3 ⟨some 6, .load 24 (.tmp 5), 24, "prim.go:176", #[⟨2, .data⟩], none⟩ ?v82 rfl (by kernel_rfl) (by rfl) ?y82 ?_
  case y82 => intro w hSw; (try dsimp only at hSw); go_simp; all_goals with_reducible rfl
  try simp only [apt12]
  refine tkI 4 ⟨some 7, .move (.tmp 0), 70, "prim.go:176", #[], none⟩ ?v83 rfl (by kernel_rfl) (by rfl) ?y83 ?_
  case y83 => intro w hSw; (try dsimp only at hSw); go_simp; all_goals with_reducible rfl
  try simp only [apt12]
  refine tkI 5 ⟨some 8, .nilCheck (.tmp 7), 0, "prim.go:176", #[⟨4, .data⟩], none⟩ ?v84 rfl (by kernel_rfl) (by rfl) ?y84 ?_
  case y84 => intro w hSw; (try dsimp only at hSw); go_simp; all_goals with_reducible rfl
  try simp only [apt12]
  refine tkI 6 ⟨some 9, .fieldAddr 49 (.tmp 8) 1, 0, "prim.go:176", #[⟨5, .data⟩], none⟩ ?v85 rfl (by kernel_rfl) (by rfl) ?y85 ?_
  case y85 => intro w hSw; (try dsimp only at hSw); go_simp; all_goals with_reducible rfl
  try simp only [apt12]
  refine tkI 7 ⟨some 10, .load 3 (.tmp 9), 3, "prim.go:176", #[⟨6, .data⟩], none⟩ ?v86 rfl (by kernel_rfl) (by rfl) ?y86 ?_
  case y86 => intro w hSw; (try dsimp only at hSw); go_simp; all_goals with_reducible rfl
  try simp only [apt12]
  refine tkI 8 ⟨some 11, .move (.tmp 0), 70, "prim.go:176", #[], none⟩ ?v87 rfl (by kernel_rfl) (by rfl) ?y87 ?_
  case y87 => intro w hSw; (try dsimp only at hSw); go_simp; all_goals with_reducible rfl
  try simp only [apt12]
  refine tkI 9 ⟨some 12, .nilCheck (.tmp 11), 0, "prim.go:176", #[⟨8, .data⟩], none⟩ ?v88 rfl (by kernel_rfl) (by rfl) ?y88 ?_
  case y88 => intro w hSw; (try dsimp only at hSw); go_simp; all_goals with_reducible rfl
  try simp only [apt12]
  refine tkI 10 ⟨some 13, .fieldAddr 49 (.tmp 12) 2, 0, "prim.go:176", #[⟨9, .data⟩], none⟩ ?v89 rfl (by kernel_rfl) (by rfl) ?y89 ?_
  case y89 => intro w hSw; (try dsimp only at hSw); go_simp; all_goals with_reducible rfl
  try simp only [apt12]
  refine tkI 11 ⟨some 14, .load 25 (.tmp 13), 25, "prim.go:176", #[⟨10, .data⟩], none⟩ ?v90 rfl (by kernel_rfl) (by rfl) ?y90 ?_
  case y90 => intro w hSw; (try dsimp only at hSw); go_simp; all_goals with_reducible rfl
  try simp only [apt12]
  refine tkI 12 ⟨some 15, .indexAddr 25 (.tmp 14) (.const (Go.Value.int .i64 0)), 0, "prim.go:176", #[⟨11, .data⟩], none⟩ ?v91 rfl (by kernel_rfl) (by rfl) ?y91 ?_
  case y91 => intro w hSw; (try dsimp only at hSw); go_simp; all_goals with_reducible rfl
  try simp only [apt12]
  refine tkI 13 ⟨some 16, .load 3 (.tmp 15), 3, "prim.go:176", #[⟨12, .data⟩], none⟩ ?v92 rfl (by kernel_rfl) (by rfl) ?y92 ?_
  case y92 => intro w hSw; (try dsimp only at hSw); go_simp; all_goals with_reducible rfl
  try simp only [apt12]
  refine wpAnyH_ready (rs := [14]) (by kernel_rfl) (by simp) ?_
  refine AllReadyH.cons (i := 14) (o := ⟨some 17, .call { callee := .value (.func 131), args := #[.tmp 16], argTypes := #[3] }, 3, "prim.go:176", #[⟨13, .data⟩], none⟩) rfl (fun K hK => ?_) AllReadyH.nil
  go_simp
  go_at_call 131
  have BB1 : Hid (Below w.heap.size w _) := (Below.refl _ _).drew
  refine (place_ok13 ha _).mono ?_
  rintro e u1 ⟨rfl, rfl⟩
  refine hK.out _ _ ?_ (fun hH1 => ?_)
  · exact hH0
  clear hK K
  try simp only [apt12]
  refine wpAnyH_ready (rs := [15]) (by kernel_rfl) (by simp) ?_
  refine AllReadyH.cons (i := 15) (o := ⟨some 18, .call { callee := .value (.func 148), args := #[.tmp 6, .tmp 10, .tmp 17], argTypes := #[24, 3, 3] }, 50, "prim.go:176", #[⟨3, .data⟩, ⟨7, .data⟩, ⟨14, .data⟩, ⟨14, .chain⟩], none⟩) rfl (fun K hK => ?_) AllReadyH.nil
  go_simp
  go_at_call 148
  have BB2 : Hid (Below w.heap.size w _) := hH1.2.2.2.2.2.2
  refine (byte_any h s (nV a0 - 1) A c _ (HI.out.own.obs.below BB2.out) HI.out.fit).mono ?_
  rintro e u2 ⟨rfl, hb⟩
  rw [← EN.out, ← VN.out]
  refine hK.out _ _ ?_ (fun hH2 => ?_)
  · exact ⟨cell_later hb hH1.1, cell_later hb hH1.2.1, cell_later hb hH1.2.2.1, cell_later hb hH1.2.2.2.1, cell_later hb hH1.2.2.2.2.1, cell_later hb hH1.2.2.2.2.2.1, then_w hH1.2.2.2.2.2.2 hb⟩
  clear hK K
  try simp only [apt12]
  clear hb
  refine tkI 16 ⟨some 19, .extract (.tmp 18) 0, 3, "prim.go:176", #[⟨15, .data⟩], none⟩ ?v93 rfl (by kernel_rfl) (by rfl) ?y93 ?_
  case y93 => intro w hSw; (try dsimp only at hSw); go_simp; all_goals with_reducible rfl
  try simp only [apt12]
  refine tkI 17 ⟨some 20, .extract (.tmp 18) 1, 30, "prim.go:176", #[⟨15, .data⟩], none⟩ ?v94 rfl (by kernel_rfl) (by rfl) ?y94 ?_
  case y94 => intro w hSw; (try dsimp only at hSw); go_simp; all_goals with_reducible rfl
  try simp only [apt12]
  refine wpAnyH_ready (rs := [18]) (by kernel_rfl) (by simp) ?_
  refine AllReadyH.cons (i := 18) (o := ⟨some 21, .call { callee := .value (.func 129), args := #[.tmp 19, .tmp 20], argTypes := #[3, 30] }, 3, "prim.go:176", #[⟨16, .data⟩, ⟨17, .data⟩, ⟨15, .chain⟩], none⟩) rfl (fun K hK => ?_) AllReadyH.nil
  go_simp
  go_at_call 129
  have BB3 : Hid (Below w.heap.size w _) := hH2.2.2.2.2.2.2
  refine (checked_no13 _ he _).mono ?_
  rintro e u9 ⟨rfl, rfl⟩
  rw [G130.out]
  exact ⟨rfl, pr_stop13 BB3.out (by first | rfl | simp [fa13]) (by decide)⟩
set_option maxHeartbeats 1000000 in
theorem class_any13 (b base : Nat) (h : Hp) (A : Option Addr) (c : Nat) (s : Int) (args : List Int) (SA : Option Addr) (da : Nat) (w : World) (I : In13 w b base h A c s args SA da) :
    Calls Tryz.prog 107 #[.pointer (some ⟨b, 0, none⟩)] w (Po13 w b h A c s args.length SA da ((h, (lf9 h s).1, 0))) := by
  have HI := hid I
  have hl : (lf9 h s).2 = 0 := by
    unfold lf9
    rw [if_neg (by rw [I.may]; decide)]
    cases hn : nB s
    · have := I.has
      unfold hasB at this
      rw [hn, Bool.false_or] at this
      rw [if_neg (by decide), if_pos this]
    · rw [if_pos rfl]
  obtain ⟨cc, hcc⟩ : ∃ v, v = (lf9 h s).1 := ⟨_, rfl⟩
  rw [← hcc]
  have HL := hid hl
  have HCC := hid hcc
  obtain ⟨x0, x1, x2, x3, x4⟩ := I.box.c5
  clear I hl hcc
  go_enter Tryz.func107, Tryz.ntmps107
  go_upto_region 1 with fail
  refine wp_region_held_drew (S := (fun w' => w'.cell? ⟨b, 0, none⟩ = some (.slice A h.objs.length c) ∧ w'.cell? ⟨b, 1, none⟩ = some (.int .i64 h.cap) ∧ w'.cell? ⟨b, 2, none⟩ = some (.int .i64 h.last) ∧ w'.cell? ⟨b, 3, none⟩ = some (.int .i64 s) ∧ w'.cell? ⟨b, 4, none⟩ = some (.slice SA args.length da) ∧ Below w.heap.size w w')) (by kernel_rfl) ?_ (fun hH0 => ?_)
  · exact ⟨cell_later (Below.refl w.heap.size w).drew x0, cell_later (Below.refl w.heap.size w).drew x1, cell_later (Below.refl w.heap.size w).drew x2, cell_later (Below.refl w.heap.size w).drew x3, cell_later (Below.refl w.heap.size w).drew x4, (Below.refl _ _).drew⟩
  refine tkI 0 ⟨some 3, .move (.tmp 0), 70, "prim.go:197", #[], none⟩ ?v95 rfl (by kernel_rfl) (by rfl) ?y95 ?_
  case y95 => intro w hSw; (try dsimp only at hSw); go_simp; all_goals with_reducible rfl
  try simp only [apt12]
  refine tkI 1 ⟨some 4, .nilCheck (.tmp 3), 0, "prim.go:197", #[⟨0, .data⟩], none⟩ ?v96 rfl (by kernel_rfl) (by rfl) ?y96 ?_
  case y96 => intro w hSw; (try dsimp only at hSw); go_simp; all_goals with_reducible rfl
  try simp only [apt12]
  refine tkI 2 ⟨some 5, .fieldAddr 49 (.tmp 4) 0, 0, "prim.go:197", #[⟨1, .data⟩], none⟩ ?v97 rfl (by kernel_rfl) (by rfl) ?y97 ?_
  case y97 => intro w hSw; (try dsimp only at hSw); go_simp; all_goals with_reducible rfl
  try simp only [apt12]
  refine tkI 3 ⟨some 6, .load 24 (.tmp 5), 24, "prim.go:197", #[⟨2, .data⟩], none⟩ ?v98 rfl (by kernel_rfl) (by rfl) ?y98 ?_
  case y98 => intro w hSw; (try dsimp only at hSw); go_simp; all_goals with_reducible rfl
  try simp only [apt12]
  refine tkI 4 ⟨some 7, .move (.tmp 0), 70, "prim.go:197", #[], none⟩ ?v99 rfl (by kernel_rfl) (by rfl) ?y99 ?_
  case y99 => intro w hSw; (try dsimp only at hSw); go_simp; all_goals with_reducible rfl
  try simp only [apt12]
  refine tkI 5 ⟨some 8, .nilCheck (.tmp 7), 0, "prim.go:197", #[⟨4, .data⟩], none⟩ ?v100 rfl (by kernel_rfl) (by rfl) ?y100 ?_
  case y100 => intro w hSw; (try dsimp only at hSw); go_simp; all_goals with_reducible rfl
  try simp only [apt12]
  refine tkI 6 ⟨some 9, .fieldAddr 49 (.tmp 8) 1, 0, "prim.go:197", #[⟨5, .data⟩], none⟩ ?v101 rfl (by kernel_rfl) (by rfl) ?y101 ?_
  case y101 => intro w hSw; (try dsimp only at hSw); go_simp; all_goals with_reducible rfl
  try simp only [apt12]
  refine tkI 7 ⟨some 10, .load 3 (.tmp 9), 3, "prim.go:197", #[⟨6, .data⟩], none⟩ ?v102 rfl (by kernel_rfl) (by rfl) ?y102 ?_
  case y102 => intro w hSw; (try dsimp only at hSw); go_simp; all_goals with_reducible rfl
  try simp only [apt12]
  refine wpAnyH_ready (rs := [8]) (by kernel_rfl) (by simp) ?_
  refine AllReadyH.cons (i := 8) (o := ⟨some 11, .call { callee := .value (.func 138), args := #[.tmp 6, .tmp 10], argTypes := #[24, 3] }, 50, "prim.go:197", #[⟨3, .data⟩, ⟨7, .data⟩], none⟩) rfl (fun K hK => ?_) AllReadyH.nil
  go_simp
  go_at_call 138
  have BB1 : Hid (Below w.heap.size w _) := (Below.refl _ _).drew
  refine (lof_any9 h s A c _ (HI.out.own.obs.below BB1.out) HI.out.fit).mono ?_
  rintro e u1 ⟨rfl, hb⟩
  rw [← HCC.out, HL.out]
  refine hK.out _ _ ?_ (fun hH1 => ?_)
  · exact ⟨cell_later hb hH0.1, cell_later hb hH0.2.1, cell_later hb hH0.2.2.1, cell_later hb hH0.2.2.2.1, cell_later hb hH0.2.2.2.2.1, then_w hH0.2.2.2.2.2 hb⟩
  clear hK K
  try simp only [apt12]
  clear hb
  refine tkI 9 ⟨some 12, .extract (.tmp 11) 0, 3, "prim.go:197", #[⟨8, .data⟩], none⟩ ?v103 rfl (by kernel_rfl) (by rfl) ?y103 ?_
  case y103 => intro w hSw; (try dsimp only at hSw); go_simp; all_goals with_reducible rfl
  try simp only [apt12]
  refine tkI 10 ⟨some 13, .extract (.tmp 11) 1, 30, "prim.go:197", #[⟨8, .data⟩], none⟩ ?v104 rfl (by kernel_rfl) (by rfl) ?y104 ?_
  case y104 => intro w hSw; (try dsimp only at hSw); go_simp; all_goals with_reducible rfl
  try simp only [apt12]
  refine wpAnyH_ready (rs := [11]) (by kernel_rfl) (by simp) ?_
  refine AllReadyH.cons (i := 11) (o := ⟨some 14, .call { callee := .value (.func 129), args := #[.tmp 12, .tmp 13], argTypes := #[3, 30] }, 3, "prim.go:197", #[⟨9, .data⟩, ⟨10, .data⟩, ⟨8, .chain⟩], none⟩) rfl (fun K hK => ?_) AllReadyH.nil
  go_simp
  go_at_call 129
  have BB2 : Hid (Below w.heap.size w _) := hH1.2.2.2.2.2
  refine (checked_ok13 _ _).mono ?_
  rintro e u2 ⟨rfl, rfl⟩
  refine hK.out _ _ ?_ (fun hH2 => ?_)
  · exact hH1
  clear hK K
  try simp only [apt12]
  refine tkI 12 ⟨some 2, .assign (.tmp 14), 3, "prim.go:197", #[⟨11, .data⟩, ⟨11, .chain⟩, ⟨0, .phase⟩, ⟨1, .phase⟩, ⟨2, .phase⟩, ⟨3, .phase⟩, ⟨4, .phase⟩, ⟨5, .phase⟩, ⟨6, .phase⟩, ⟨7, .phase⟩, ⟨8, .phase⟩, ⟨9, .phase⟩, ⟨10, .phase⟩, ⟨11, .phase⟩], none⟩ ?v105 rfl (by kernel_rfl) (by rfl) ?y105 ?_
  case y105 => intro w hSw; (try dsimp only at hSw); go_simp; all_goals with_reducible rfl
  try simp only [apt12]
  refine wpAnyH_done (by kernel_rfl) ?_ _
  go_wp2_with fail
  go_ret
  exact pr_keep13 HI.out (hH2.2.2.2.2.2) rfl
end Go.Proofs.YtkpfmbdkfgeboaaGreat
