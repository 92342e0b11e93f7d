/- Primitives 9, 16, 26: a slot set, two become each other, a byte set. -/
import Derived.Test.YtkpfmbdkfgeboaaGreatPH13
import Derived.Test.YtkpfmbdkfgeboaaGreatT
import Derived.Test.YtkpfmbdkfgeboaaGreatSB
import Derived.Test.YtkpfmbdkfgeboaaGreatB
namespace Go.Proofs.YtkpfmbdkfgeboaaGreat
open Go.RowKit Flt
set_option maxRecDepth 100000
theorem pr_ok13 {w w' : World} {b : Nat} {h : Hp} {A0 : Option Addr} {c0 : Nat} {s : Int} {n : Nat} {SA : Option Addr} {da : Nat} {r : Rs} {g : Hp} {v : Int} {A : Option Addr} {c : Nat} (hb : Onl13 b w w') (hr : r = (g, v, 0)) (hc : CL13 w' b g A c s n SA da) (hf : Fr13 w' w.heap.size A c g.objs) :
    Po13 w b h A0 c0 s n SA da r (.returned (.int .i64 v)) w' := by
  subst hr
  exact ⟨hb, fun hh => absurd rfl hh, fun _ => ⟨rfl, A, c, hc, .inr hf⟩⟩
theorem set_30_13 (h : Hp) (v k x : Int) : setE h v k x = 0 ∨ go13 (setE h v k x) = 130 := by
  unfold setE
  rcases pl_30_13 h v 0 k with e | e
  · rw [if_pos e]
    split
    · exact .inl rfl
    · right; decide
  · by_cases e0 : plE h v 0 k = 0
    · rw [if_pos e0]
      split
      · exact .inl rfl
      · right; decide
    · rw [if_neg e0]; exact .inr e
theorem sb_30_13 (h : Hp) (v k x : Int) : sbE h v k x = 0 ∨ go13 (sbE h v k x) = 130 := by
  unfold sbE
  rcases pl_30_13 h v 1 k with e | e
  · rw [if_pos e]
    split
    · exact .inl rfl
    · right; decide
  · by_cases e0 : plE h v 1 k = 0
    · rw [if_pos e0]
      split
      · exact .inl rfl
      · right; decide
    · rw [if_neg e0]; exact .inr e
set_option maxHeartbeats 1000000 in
theorem setslot_any13 (b base : Nat) (h : Hp) (A : Option Addr) (c : Nat) (s : Int) (args : List Int) (SA : Option Addr) (da : Nat) (w : World) (I : In13 w b base h A c s args SA da) (hn : 1 < args.length) :
    Calls Tryz.prog 103 #[.pointer (some ⟨b, 0, none⟩)] w (Po13 w b h A c s args.length SA da (if nB (args.getD 0 0) = false then fa13 h else if setE h s (nV (args.getD 0 0) - 1) (args.getD 1 0) ≠ 0 then fa13 h else (setR h s (nV (args.getD 0 0) - 1) (args.getD 1 0), args.getD 1 0, 0))) := by
  obtain ⟨a0, ha0⟩ : ∃ a, a = args.getD 0 0 := ⟨_, rfl⟩
  rw [← ha0]
  obtain ⟨a1, ha1⟩ : ∃ a, a = args.getD 1 0 := ⟨_, rfl⟩
  rw [← ha1]
  have HI := hid I
  have HLA := hid (fun k => has_arg13 I.hall (k := k))
  obtain ⟨p, o, hSA, q0, hpb⟩ := I.arg (k := 0) (by omega)
  obtain ⟨pp, oo, hSA2, q1, -⟩ := I.arg (k := 1) (by omega)
  obtain ⟨rfl, rfl⟩ : p = pp ∧ o = oo := by
    rw [hSA] at hSA2
    injection hSA2 with h1
    injection h1 with h1 h2
    exact ⟨h1, h2⟩
  clear hSA2
  subst hSA
  rw [← ha0] at q0
  simp only [Nat.add_zero] at q0
  rw [← ha1] at q1
  have hn1 : 1 < args.length := by omega
  have hn1I : (1 : Int) < (args.length : Int) := by omega
  have hn0 : 0 < args.length := by omega
  have hn0I : (0 : Int) < (args.length : Int) := by omega
  have HPB := hid hpb
  obtain ⟨x0, x1, x2, x3, x4⟩ := I.box.c5
  have HA0 := hid ha0
  have HA1 := hid ha1
  clear I hpb ha0 ha1
  cases ha : nB a0
  · go_enter Tryz.func103, Tryz.ntmps103
    go_upto_region 1 with fail
    refine wp_region_held_drew (S := (fun w' => w'.cell? ⟨b, 3, none⟩ = some (.int .i64 s) ∧ w'.cell? ⟨b, 4, none⟩ = some (.slice (some ⟨p, o, none⟩) args.length da) ∧ w'.cell? ⟨p, o, none⟩ = some (.int .i64 a0) ∧ w'.cell? ⟨p, o + 1, none⟩ = some (.int .i64 a1) ∧ Onl13 b w w')) (by kernel_rfl) ?_ (fun hH0 => ?_)
    · exact ⟨cell_later (Below.refl w.heap.size w).drew x3, cell_later (Below.refl w.heap.size w).drew x4, cell_later (Below.refl w.heap.size w).drew q0, cell_later (Below.refl w.heap.size w).drew q1, onl_below13 (Below.refl _ _).drew⟩
    refine tkI 0 ⟨some 3, .move (.tmp 0), 70, "prim.go:172", #[], none⟩ ?v106 rfl (by kernel_rfl) (by rfl) ?y106 ?_
    case y106 => intro w hSw; (try dsimp only at hSw); go_simp; all_goals with_reducible rfl
    try simp only [apt12]
    refine tkI 1 ⟨some 4, .move (.tmp 0), 70, "prim.go:172", #[], none⟩ ?v107 rfl (by kernel_rfl) (by rfl) ?y107 ?_
    case y107 => intro w hSw; (try dsimp only at hSw); go_simp; all_goals with_reducible rfl
    try simp only [apt12]
    refine tkI 2 ⟨some 5, .nilCheck (.tmp 4), 0, "prim.go:172", #[⟨1, .data⟩], none⟩ ?v108 rfl (by kernel_rfl) (by rfl) ?y108 ?_
    case y108 => intro w hSw; (try dsimp only at hSw); go_simp; all_goals with_reducible rfl
    try simp only [apt12]
    refine tkI 3 ⟨some 6, .fieldAddr 49 (.tmp 5) 0, 0, "prim.go:172", #[⟨2, .data⟩], none⟩ ?v109 rfl (by kernel_rfl) (by rfl) ?y109 ?_
    case y109 => intro w hSw; (try dsimp only at hSw); go_simp; all_goals with_reducible rfl
    try simp only [apt12]
    refine tkI 5 ⟨some 8, .move (.tmp 0), 70, "prim.go:172", #[], none⟩ ?v110 rfl (by kernel_rfl) (by rfl) ?y110 ?_
    case y110 => intro w hSw; (try dsimp only at hSw); go_simp; all_goals with_reducible rfl
    try simp only [apt12]
    refine tkI 6 ⟨some 9, .nilCheck (.tmp 8), 0, "prim.go:172", #[⟨5, .data⟩], none⟩ ?v111 rfl (by kernel_rfl) (by rfl) ?y111 ?_
    case y111 => intro w hSw; (try dsimp only at hSw); go_simp; all_goals with_reducible rfl
    try simp only [apt12]
    refine tkI 7 ⟨some 10, .fieldAddr 49 (.tmp 9) 1, 0, "prim.go:172", #[⟨6, .data⟩], none⟩ ?v112 rfl (by kernel_rfl) (by rfl) ?y112 ?_
    case y112 => intro w hSw; (try dsimp only at hSw); go_simp; all_goals with_reducible rfl
    try simp only [apt12]
    refine tkI 8 ⟨some 11, .load 3 (.tmp 10), 3, "prim.go:172", #[⟨7, .data⟩], none⟩ ?v113 rfl (by kernel_rfl) (by rfl) ?y113 ?_
    case y113 => intro w hSw; (try dsimp only at hSw); go_simp; all_goals with_reducible rfl
    try simp only [apt12]
    refine tkI 9 ⟨some 12, .move (.tmp 0), 70, "prim.go:172", #[], none⟩ ?v114 rfl (by kernel_rfl) (by rfl) ?y114 ?_
    case y114 => intro w hSw; (try dsimp only at hSw); go_simp; all_goals with_reducible rfl
    try simp only [apt12]
    refine tkI 10 ⟨some 13, .nilCheck (.tmp 12), 0, "prim.go:172", #[⟨9, .data⟩], none⟩ ?v115 rfl (by kernel_rfl) (by rfl) ?y115 ?_
    case y115 => intro w hSw; (try dsimp only at hSw); go_simp; all_goals with_reducible rfl
    try simp only [apt12]
    refine tkI 11 ⟨some 14, .fieldAddr 49 (.tmp 13) 2, 0, "prim.go:172", #[⟨10, .data⟩], none⟩ ?v116 rfl (by kernel_rfl) (by rfl) ?y116 ?_
    case y116 => intro w hSw; (try dsimp only at hSw); go_simp; all_goals with_reducible rfl
    try simp only [apt12]
    refine tkI 12 ⟨some 15, .load 25 (.tmp 14), 25, "prim.go:172", #[⟨11, .data⟩], none⟩ ?v117 rfl (by kernel_rfl) (by rfl) ?y117 ?_
    case y117 => intro w hSw; (try dsimp only at hSw); go_simp; all_goals with_reducible rfl
    try simp only [apt12]
    refine tkI 13 ⟨some 16, .indexAddr 25 (.tmp 15) (.const (Go.Value.int .i64 0)), 0, "prim.go:172", #[⟨12, .data⟩], none⟩ ?v118 rfl (by kernel_rfl) (by rfl) ?y118 ?_
    case y118 => intro w hSw; (try dsimp only at hSw); go_simp; all_goals with_reducible rfl
    try simp only [apt12]
    refine tkI 14 ⟨some 17, .load 3 (.tmp 16), 3, "prim.go:172", #[⟨13, .data⟩], none⟩ ?v119 rfl (by kernel_rfl) (by rfl) ?y119 ?_
    case y119 => intro w hSw; (try dsimp only at hSw); go_simp; all_goals with_reducible rfl
    try simp only [apt12]
    refine tkI 16 ⟨some 19, .move (.tmp 0), 70, "prim.go:172", #[], none⟩ ?v120 rfl (by kernel_rfl) (by rfl) ?y120 ?_
    case y120 => intro w hSw; (try dsimp only at hSw); go_simp; all_goals with_reducible rfl
    try simp only [apt12]
    refine tkI 17 ⟨some 20, .nilCheck (.tmp 19), 0, "prim.go:172", #[⟨16, .data⟩], none⟩ ?v121 rfl (by kernel_rfl) (by rfl) ?y121 ?_
    case y121 => intro w hSw; (try dsimp only at hSw); go_simp; all_goals with_reducible rfl
    try simp only [apt12]
    refine tkI 18 ⟨some 21, .fieldAddr 49 (.tmp 20) 2, 0, "prim.go:172", #[⟨17, .data⟩], none⟩ ?v122 rfl (by kernel_rfl) (by rfl) ?y122 ?_
    case y122 => intro w hSw; (try dsimp only at hSw); go_simp; all_goals with_reducible rfl
    try simp only [apt12]
    refine tkI 19 ⟨some 22, .load 25 (.tmp 21), 25, "prim.go:172", #[⟨18, .data⟩], none⟩ ?v123 rfl (by kernel_rfl) (by rfl) ?y123 ?_
    case y123 => intro w hSw; (try dsimp only at hSw); go_simp; all_goals with_reducible rfl
    try simp only [apt12]
    refine tkI 20 ⟨some 23, .indexAddr 25 (.tmp 22) (.const (Go.Value.int .i64 1)), 0, "prim.go:172", #[⟨19, .data⟩], none⟩ ?v124 rfl (by kernel_rfl) (by rfl) ?y124 ?_
    case y124 => intro w hSw; (try dsimp only at hSw); go_simp; all_goals with_reducible rfl
    try simp only [apt12]
    refine tkI 21 ⟨some 24, .load 3 (.tmp 23), 3, "prim.go:172", #[⟨20, .data⟩], none⟩ ?v125 rfl (by kernel_rfl) (by rfl) ?y125 ?_
    case y125 => intro w hSw; (try dsimp only at hSw); go_simp; all_goals with_reducible rfl
    try simp only [apt12]
    refine wpAnyH_ready (rs := [4, 15]) (by kernel_rfl) (by simp) ?_
    refine AllReadyH.cons (i := 4) (o := ⟨some 7, .load 24 (.tmp 6), 24, "prim.go:172", #[⟨3, .data⟩], none⟩) rfl (fun K hK => ?_) (AllReadyH.cons (i := 15) (o := ⟨some 18, .call { callee := .value (.func 131), args := #[.tmp 17], argTypes := #[3] }, 3, "prim.go:172", #[⟨14, .data⟩], none⟩) rfl (fun K hK => ?_) AllReadyH.nil)
    · have z0 := cell_later (Below.refl w.heap.size w).drew x0
      have z1 := cell_later (Below.refl w.heap.size w).drew x1
      have z2 := cell_later (Below.refl w.heap.size w).drew x2
      go_simp
      refine hK.out _ _ ?_ (fun hH1 => ?_)
      · exact hH0
      clear hK K
      try simp only [apt12]
      clear z0 z1 z2
      refine wpAnyH_ready (rs := [15]) (by kernel_rfl) (by simp) ?_
      refine AllReadyH.cons (i := 15) (o := ⟨some 18, .call { callee := .value (.func 131), args := #[.tmp 17], argTypes := #[3] }, 3, "prim.go:172", #[⟨14, .data⟩], none⟩) rfl (fun K hK => ?_) AllReadyH.nil
      go_simp
      go_at_call 131
      refine (place_no13 ha _).mono ?_
      rintro e u9 ⟨rfl, rfl⟩
      exact ⟨rfl, pr_stop13 (Below.refl w.heap.size w).drew (by first | rfl | simp [fa13]) (by decide)⟩
    · go_simp
      go_at_call 131
      refine (place_no13 ha _).mono ?_
      rintro e u9 ⟨rfl, rfl⟩
      exact ⟨rfl, pr_stop13 (Below.refl w.heap.size w).drew (by first | rfl | simp [fa13]) (by decide)⟩
  obtain ⟨en, hen⟩ : ∃ e, e = setE h s (nV a0 - 1) a1 := ⟨_, rfl⟩
  obtain ⟨g, hg⟩ : ∃ e, e = setR h s (nV a0 - 1) a1 := ⟨_, rfl⟩
  have G30 := hid (set_30_13 h s (nV a0 - 1) a1)
  rw [← hen, ← hg]
  rw [← hen] at G30
  have EN := hid hen
  have HG := hid hg
  clear hen hg
  by_cases he : en = 0
  · subst he
    go_enter Tryz.func103, Tryz.ntmps103
    go_upto_region 1 with fail
    refine wp_region_held_drew (S := (fun w' => w'.cell? ⟨b, 3, none⟩ = some (.int .i64 s) ∧ w'.cell? ⟨b, 4, none⟩ = some (.slice (some ⟨p, o, none⟩) args.length da) ∧ w'.cell? ⟨p, o, none⟩ = some (.int .i64 a0) ∧ w'.cell? ⟨p, o + 1, none⟩ = some (.int .i64 a1) ∧ Onl13 b w w')) (by kernel_rfl) ?_ (fun hH0 => ?_)
    · exact ⟨cell_later (Below.refl w.heap.size w).drew x3, cell_later (Below.refl w.heap.size w).drew x4, cell_later (Below.refl w.heap.size w).drew q0, cell_later (Below.refl w.heap.size w).drew q1, onl_below13 (Below.refl _ _).drew⟩
    refine tkI 0 ⟨some 3, .move (.tmp 0), 70, "prim.go:172", #[], none⟩ ?v126 rfl (by kernel_rfl) (by rfl) ?y126 ?_
    case y126 => intro w hSw; (try dsimp only at hSw); go_simp; all_goals with_reducible rfl
    try simp only [apt12]
    refine tkI 1 ⟨some 4, .move (.tmp 0), 70, "prim.go:172", #[], none⟩ ?v127 rfl (by kernel_rfl) (by rfl) ?y127 ?_
    case y127 => intro w hSw; (try dsimp only at hSw); go_simp; all_goals with_reducible rfl
    try simp only [apt12]
    refine tkI 2 ⟨some 5, .nilCheck (.tmp 4), 0, "prim.go:172", #[⟨1, .data⟩], none⟩ ?v128 rfl (by kernel_rfl) (by rfl) ?y128 ?_
    case y128 => intro w hSw; (try dsimp only at hSw); go_simp; all_goals with_reducible rfl
    try simp only [apt12]
    refine tkI 3 ⟨some 6, .fieldAddr 49 (.tmp 5) 0, 0, "prim.go:172", #[⟨2, .data⟩], none⟩ ?v129 rfl (by kernel_rfl) (by rfl) ?y129 ?_
    case y129 => intro w hSw; (try dsimp only at hSw); go_simp; all_goals with_reducible rfl
    try simp only [apt12]
    refine tkI 5 ⟨some 8, .move (.tmp 0), 70, "prim.go:172", #[], none⟩ ?v130 rfl (by kernel_rfl) (by rfl) ?y130 ?_
    case y130 => intro w hSw; (try dsimp only at hSw); go_simp; all_goals with_reducible rfl
    try simp only [apt12]
    refine tkI 6 ⟨some 9, .nilCheck (.tmp 8), 0, "prim.go:172", #[⟨5, .data⟩], none⟩ ?v131 rfl (by kernel_rfl) (by rfl) ?y131 ?_
    case y131 => intro w hSw; (try dsimp only at hSw); go_simp; all_goals with_reducible rfl
    try simp only [apt12]
    refine tkI 7 ⟨some 10, .fieldAddr 49 (.tmp 9) 1, 0, "prim.go:172", #[⟨6, .data⟩], none⟩ ?v132 rfl (by kernel_rfl) (by rfl) ?y132 ?_
    case y132 => intro w hSw; (try dsimp only at hSw); go_simp; all_goals with_reducible rfl
    try simp only [apt12]
    refine tkI 8 ⟨some 11, .load 3 (.tmp 10), 3, "prim.go:172", #[⟨7, .data⟩], none⟩ ?v133 rfl (by kernel_rfl) (by rfl) ?y133 ?_
    case y133 => intro w hSw; (try dsimp only at hSw); go_simp; all_goals with_reducible rfl
    try simp only [apt12]
    refine tkI 9 ⟨some 12, .move (.tmp 0), 70, "prim.go:172", #[], none⟩ ?v134 rfl (by kernel_rfl) (by rfl) ?y134 ?_
    case y134 => intro w hSw; (try dsimp only at hSw); go_simp; all_goals with_reducible rfl
    try simp only [apt12]
    refine tkI 10 ⟨some 13, .nilCheck (.tmp 12), 0, "prim.go:172", #[⟨9, .data⟩], none⟩ ?v135 rfl (by kernel_rfl) (by rfl) ?y135 ?_
    case y135 => intro w hSw; (try dsimp only at hSw); go_simp; all_goals with_reducible rfl
    try simp only [apt12]
    refine tkI 11 ⟨some 14, .fieldAddr 49 (.tmp 13) 2, 0, "prim.go:172", #[⟨10, .data⟩], none⟩ ?v136 rfl (by kernel_rfl) (by rfl) ?y136 ?_
    case y136 => intro w hSw; (try dsimp only at hSw); go_simp; all_goals with_reducible rfl
    try simp only [apt12]
    refine tkI 12 ⟨some 15, .load 25 (.tmp 14), 25, "prim.go:172", #[⟨11, .data⟩], none⟩ ?v137 rfl (by kernel_rfl) (by rfl) ?y137 ?_
    case y137 => intro w hSw; (try dsimp only at hSw); go_simp; all_goals with_reducible rfl
    try simp only [apt12]
    refine tkI 13 ⟨some 16, .indexAddr 25 (.tmp 15) (.const (Go.Value.int .i64 0)), 0, "prim.go:172", #[⟨12, .data⟩], none⟩ ?v138 rfl (by kernel_rfl) (by rfl) ?y138 ?_
    case y138 => intro w hSw; (try dsimp only at hSw); go_simp; all_goals with_reducible rfl
    try simp only [apt12]
    refine tkI 14 ⟨some 17, .load 3 (.tmp 16), 3, "prim.go:172", #[⟨13, .data⟩], none⟩ ?v139 rfl (by kernel_rfl) (by rfl) ?y139 ?_
    case y139 => intro w hSw; (try dsimp only at hSw); go_simp; all_goals with_reducible rfl
    try simp only [apt12]
    refine tkI 16 ⟨some 19, .move (.tmp 0), 70, "prim.go:172", #[], none⟩ ?v140 rfl (by kernel_rfl) (by rfl) ?y140 ?_
    case y140 => intro w hSw; (try dsimp only at hSw); go_simp; all_goals with_reducible rfl
    try simp only [apt12]
    refine tkI 17 ⟨some 20, .nilCheck (.tmp 19), 0, "prim.go:172", #[⟨16, .data⟩], none⟩ ?v141 rfl (by kernel_rfl) (by rfl) ?y141 ?_
    case y141 => intro w hSw; (try dsimp only at hSw); go_simp; all_goals with_reducible rfl
    try simp only [apt12]
    refine tkI 18 ⟨some 21, .fieldAddr 49 (.tmp 20) 2, 0, "prim.go:172", #[⟨17, .data⟩], none⟩ ?v142 rfl (by kernel_rfl) (by rfl) ?y142 ?_
    case y142 => intro w hSw; (try dsimp only at hSw); go_simp; all_goals with_reducible rfl
    try simp only [apt12]
    refine tkI 19 ⟨some 22, .load 25 (.tmp 21), 25, "prim.go:172", #[⟨18, .data⟩], none⟩ ?v143 rfl (by kernel_rfl) (by rfl) ?y143 ?_
    case y143 => intro w hSw; (try dsimp only at hSw); go_simp; all_goals with_reducible rfl
    try simp only [apt12]
    refine tkI 20 ⟨some 23, .indexAddr 25 (.tmp 22) (.const (Go.Value.int .i64 1)), 0, "prim.go:172", #[⟨19, .data⟩], none⟩ ?v144 rfl (by kernel_rfl) (by rfl) ?y144 ?_
    case y144 => intro w hSw; (try dsimp only at hSw); go_simp; all_goals with_reducible rfl
    try simp only [apt12]
    refine tkI 21 ⟨some 24, .load 3 (.tmp 23), 3, "prim.go:172", #[⟨20, .data⟩], none⟩ ?v145 rfl (by kernel_rfl) (by rfl) ?y145 ?_
    case y145 => intro w hSw; (try dsimp only at hSw); go_simp; all_goals with_reducible rfl
    try simp only [apt12]
    refine wpAnyH_ready (rs := [4, 15]) (by kernel_rfl) (by simp) ?_
    refine AllReadyH.cons (i := 4) (o := ⟨some 7, .load 24 (.tmp 6), 24, "prim.go:172", #[⟨3, .data⟩], none⟩) rfl (fun K hK => ?_) (AllReadyH.cons (i := 15) (o := ⟨some 18, .call { callee := .value (.func 131), args := #[.tmp 17], argTypes := #[3] }, 3, "prim.go:172", #[⟨14, .data⟩], none⟩) rfl (fun K hK => ?_) AllReadyH.nil)
    · have z0 := cell_later (Below.refl w.heap.size w).drew x0
      have z1 := cell_later (Below.refl w.heap.size w).drew x1
      have z2 := cell_later (Below.refl w.heap.size w).drew x2
      go_simp
      refine hK.out _ _ ?_ (fun hH1 => ?_)
      · exact hH0
      clear hK K
      try simp only [apt12]
      clear z0 z1 z2
      refine wpAnyH_ready (rs := [15]) (by kernel_rfl) (by simp) ?_
      refine AllReadyH.cons (i := 15) (o := ⟨some 18, .call { callee := .value (.func 131), args := #[.tmp 17], argTypes := #[3] }, 3, "prim.go:172", #[⟨14, .data⟩], none⟩) rfl (fun K hK => ?_) AllReadyH.nil
      go_simp
      go_at_call 131
      refine (place_ok13 ha _).mono ?_
      rintro e u2 ⟨rfl, rfl⟩
      refine hK.out _ _ ?_ (fun hH2 => ?_)
      · exact hH1
      clear hK K
      try simp only [apt12]
      refine wpAnyH_ready (rs := [22]) (by kernel_rfl) (by simp) ?_
      refine AllReadyH.cons (i := 22) (o := ⟨some 25, .call { callee := .value (.func 133), args := #[.tmp 7, .tmp 11, .tmp 18, .tmp 24], argTypes := #[24, 3, 3, 3] }, 76, "prim.go:172", #[⟨4, .data⟩, ⟨8, .data⟩, ⟨15, .data⟩, ⟨21, .data⟩, ⟨15, .chain⟩], none⟩) rfl (fun K hK => ?_) AllReadyH.nil
      go_simp
      go_at_call 133
      refine (set_any h s (nV a0 - 1) a1 A c _ (HI.out.own.obs.below (Below.refl w.heap.size w).drew) HI.out.fit).mono ?_
      rintro e u3 ⟨A2, c2, l2, rfl, hm2, ho2, hb⟩
      rw [← HG.out] at hm2
      rw [← HG.out, ← EN.out]
      have HBS : Hid (Below w.heap.size w u3) := hid (then_w (Below.refl w.heap.size w).drew hb)
      have FO : Hid (Fr13 u3 w.heap.size A2 c2 g.objs) := hid ⟨l2, ho2, hm2⟩
      have BX : Hid (CL13 u3 b h A c s args.length (some ⟨p, o, none⟩) da) := hid (HI.out.box.later HBS.out)
      refine hK.out _ _ ?_ (fun hH3 => ?_)
      · exact ⟨cell_later hb hH2.1, cell_later hb hH2.2.1, cell_later hb hH2.2.2.1, cell_later hb hH2.2.2.2.1, (hH2.2.2.2.2).trans (onl_below13 hb)⟩
      clear hK K
      try simp only [apt12]
      clear hb hm2 ho2
      refine tkI 23 ⟨some 26, .extract (.tmp 25) 0, 24, "prim.go:172", #[⟨22, .data⟩], none⟩ ?v146 rfl (by kernel_rfl) (by rfl) ?y146 ?_
      case y146 => intro w hSw; (try dsimp only at hSw); go_simp; all_goals with_reducible rfl
      try simp only [apt12]
      refine tkI 24 ⟨some 27, .extract (.tmp 25) 1, 30, "prim.go:172", #[⟨22, .data⟩], none⟩ ?v147 rfl (by kernel_rfl) (by rfl) ?y147 ?_
      case y147 => intro w hSw; (try dsimp only at hSw); go_simp; all_goals with_reducible rfl
      try simp only [apt12]
      refine wpAnyH_ready (rs := [25]) (by kernel_rfl) (by simp) ?_
      refine AllReadyH.cons (i := 25) (o := ⟨some 28, .call { callee := .value (.func 132), args := #[.tmp 3, .tmp 26, .tmp 27], argTypes := #[70, 24, 30] }, 0, "prim.go:172", #[⟨0, .data⟩, ⟨23, .data⟩, ⟨24, .data⟩, ⟨22, .chain⟩], none⟩) rfl (fun K hK => ?_) AllReadyH.nil
      go_simp
      go_at_call 132
      refine (change_ok13 b w.heap.size g A2 c2 _ BX.out FO.out).mono ?_
      rintro e u4 ⟨rfl, k1, k2, k3⟩
      have K1 := hid k1
      have K2 := hid k2
      refine hK.out _ _ ?_ (fun hH4 => ?_)
      · exact ⟨k1.cell 3, k1.cell 4, k3.cell (hH3.2.2.1) (fun e => by injection e with e; exact HPB.out e), k3.cell (hH3.2.2.2.1) (fun e => by injection e with e; exact HPB.out e), (hH3.2.2.2.2).trans k3⟩
      clear hK K
      try simp only [apt12]
      clear k1 k2 k3
      refine wpAnyH_done (by kernel_rfl) ?_ _
      have y3 := hH4.1
      have y4 := hH4.2.1
      have y5 := hH4.2.2.2.1
      have KN := hid (hH4.2.2.2.2)
      go_wp2_with fail
      go_ret
      exact ⟨KN.out, fun hh => absurd rfl hh, fun _ => ⟨rfl, A2, c2, K1.out, .inr K2.out⟩⟩
    · go_simp
      go_at_call 131
      refine (place_ok13 ha _).mono ?_
      rintro e u1 ⟨rfl, rfl⟩
      refine hK.out _ _ ?_ (fun hH1 => ?_)
      · exact hH0
      clear hK K
      try simp only [apt12]
      refine wpAnyH_ready (rs := [4]) (by kernel_rfl) (by simp) ?_
      refine AllReadyH.cons (i := 4) (o := ⟨some 7, .load 24 (.tmp 6), 24, "prim.go:172", #[⟨3, .data⟩], none⟩) rfl (fun K hK => ?_) AllReadyH.nil
      have z0 := cell_later (Below.refl w.heap.size w).drew x0
      have z1 := cell_later (Below.refl w.heap.size w).drew x1
      have z2 := cell_later (Below.refl w.heap.size w).drew x2
      go_simp
      refine hK.out _ _ ?_ (fun hH2 => ?_)
      · exact hH1
      clear hK K
      try simp only [apt12]
      clear z0 z1 z2
      refine wpAnyH_ready (rs := [22]) (by kernel_rfl) (by simp) ?_
      refine AllReadyH.cons (i := 22) (o := ⟨some 25, .call { callee := .value (.func 133), args := #[.tmp 7, .tmp 11, .tmp 18, .tmp 24], argTypes := #[24, 3, 3, 3] }, 76, "prim.go:172", #[⟨4, .data⟩, ⟨8, .data⟩, ⟨15, .data⟩, ⟨21, .data⟩, ⟨15, .chain⟩], none⟩) rfl (fun K hK => ?_) AllReadyH.nil
      go_simp
      go_at_call 133
      refine (set_any h s (nV a0 - 1) a1 A c _ (HI.out.own.obs.below (Below.refl w.heap.size w).drew) HI.out.fit).mono ?_
      rintro e u3 ⟨A2, c2, l2, rfl, hm2, ho2, hb⟩
      rw [← HG.out] at hm2
      rw [← HG.out, ← EN.out]
      have HBS : Hid (Below w.heap.size w u3) := hid (then_w (Below.refl w.heap.size w).drew hb)
      have FO : Hid (Fr13 u3 w.heap.size A2 c2 g.objs) := hid ⟨l2, ho2, hm2⟩
      have BX : Hid (CL13 u3 b h A c s args.length (some ⟨p, o, none⟩) da) := hid (HI.out.box.later HBS.out)
      refine hK.out _ _ ?_ (fun hH3 => ?_)
      · exact ⟨cell_later hb hH2.1, cell_later hb hH2.2.1, cell_later hb hH2.2.2.1, cell_later hb hH2.2.2.2.1, (hH2.2.2.2.2).trans (onl_below13 hb)⟩
      clear hK K
      try simp only [apt12]
      clear hb hm2 ho2
      refine tkI 23 ⟨some 26, .extract (.tmp 25) 0, 24, "prim.go:172", #[⟨22, .data⟩], none⟩ ?v148 rfl (by kernel_rfl) (by rfl) ?y148 ?_
      case y148 => intro w hSw; (try dsimp only at hSw); go_simp; all_goals with_reducible rfl
      try simp only [apt12]
      refine tkI 24 ⟨some 27, .extract (.tmp 25) 1, 30, "prim.go:172", #[⟨22, .data⟩], none⟩ ?v149 rfl (by kernel_rfl) (by rfl) ?y149 ?_
      case y149 => intro w hSw; (try dsimp only at hSw); go_simp; all_goals with_reducible rfl
      try simp only [apt12]
      refine wpAnyH_ready (rs := [25]) (by kernel_rfl) (by simp) ?_
      refine AllReadyH.cons (i := 25) (o := ⟨some 28, .call { callee := .value (.func 132), args := #[.tmp 3, .tmp 26, .tmp 27], argTypes := #[70, 24, 30] }, 0, "prim.go:172", #[⟨0, .data⟩, ⟨23, .data⟩, ⟨24, .data⟩, ⟨22, .chain⟩], none⟩) rfl (fun K hK => ?_) AllReadyH.nil
      go_simp
      go_at_call 132
      refine (change_ok13 b w.heap.size g A2 c2 _ BX.out FO.out).mono ?_
      rintro e u4 ⟨rfl, k1, k2, k3⟩
      have K1 := hid k1
      have K2 := hid k2
      refine hK.out _ _ ?_ (fun hH4 => ?_)
      · exact ⟨k1.cell 3, k1.cell 4, k3.cell (hH3.2.2.1) (fun e => by injection e with e; exact HPB.out e), k3.cell (hH3.2.2.2.1) (fun e => by injection e with e; exact HPB.out e), (hH3.2.2.2.2).trans k3⟩
      clear hK K
      try simp only [apt12]
      clear k1 k2 k3
      refine wpAnyH_done (by kernel_rfl) ?_ _
      have y3 := hH4.1
      have y4 := hH4.2.1
      have y5 := hH4.2.2.2.1
      have KN := hid (hH4.2.2.2.2)
      go_wp2_with fail
      go_ret
      exact ⟨KN.out, fun hh => absurd rfl hh, fun _ => ⟨rfl, A2, c2, K1.out, .inr K2.out⟩⟩
  have G130 : Hid (go13 en = 130) := G30.out.resolve_left he
  go_enter Tryz.func103, Tryz.ntmps103
  go_upto_region 1 with fail
  refine wp_region_held_drew (S := (fun w' => w'.cell? ⟨b, 3, none⟩ = some (.int .i64 s) ∧ w'.cell? ⟨b, 4, none⟩ = some (.slice (some ⟨p, o, none⟩) args.length da) ∧ w'.cell? ⟨p, o, none⟩ = some (.int .i64 a0) ∧ w'.cell? ⟨p, o + 1, none⟩ = some (.int .i64 a1) ∧ Onl13 b w w')) (by kernel_rfl) ?_ (fun hH0 => ?_)
  · exact ⟨cell_later (Below.refl w.heap.size w).drew x3, cell_later (Below.refl w.heap.size w).drew x4, cell_later (Below.refl w.heap.size w).drew q0, cell_later (Below.refl w.heap.size w).drew q1, onl_below13 (Below.refl _ _).drew⟩
  refine tkI 0 ⟨some 3, .move (.tmp 0), 70, "prim.go:172", #[], none⟩ ?v150 rfl (by kernel_rfl) (by rfl) ?y150 ?_
  case y150 => intro w hSw; (try dsimp only at hSw); go_simp; all_goals with_reducible rfl
  try simp only [apt12]
  refine tkI 1 ⟨some 4, .move (.tmp 0), 70, "prim.go:172", #[], none⟩ ?v151 rfl (by kernel_rfl) (by rfl) ?y151 ?_
  case y151 => intro w hSw; (try dsimp only at hSw); go_simp; all_goals with_reducible rfl
  try simp only [apt12]
  refine tkI 2 ⟨some 5, .nilCheck (.tmp 4), 0, "prim.go:172", #[⟨1, .data⟩], none⟩ ?v152 rfl (by kernel_rfl) (by rfl) ?y152 ?_
  case y152 => intro w hSw; (try dsimp only at hSw); go_simp; all_goals with_reducible rfl
  try simp only [apt12]
  refine tkI 3 ⟨some 6, .fieldAddr 49 (.tmp 5) 0, 0, "prim.go:172", #[⟨2, .data⟩], none⟩ ?v153 rfl (by kernel_rfl) (by rfl) ?y153 ?_
  case y153 => intro w hSw; (try dsimp only at hSw); go_simp; all_goals with_reducible rfl
  try simp only [apt12]
  refine tkI 5 ⟨some 8, .move (.tmp 0), 70, "prim.go:172", #[], none⟩ ?v154 rfl (by kernel_rfl) (by rfl) ?y154 ?_
  case y154 => intro w hSw; (try dsimp only at hSw); go_simp; all_goals with_reducible rfl
  try simp only [apt12]
  refine tkI 6 ⟨some 9, .nilCheck (.tmp 8), 0, "prim.go:172", #[⟨5, .data⟩], none⟩ ?v155 rfl (by kernel_rfl) (by rfl) ?y155 ?_
  case y155 => intro w hSw; (try dsimp only at hSw); go_simp; all_goals with_reducible rfl
  try simp only [apt12]
  refine tkI 7 ⟨some 10, .fieldAddr 49 (.tmp 9) 1, 0, "prim.go:172", #[⟨6, .data⟩], none⟩ ?v156 rfl (by kernel_rfl) (by rfl) ?y156 ?_
  case y156 => intro w hSw; (try dsimp only at hSw); go_simp; all_goals with_reducible rfl
  try simp only [apt12]
  refine tkI 8 ⟨some 11, .load 3 (.tmp 10), 3, "prim.go:172", #[⟨7, .data⟩], none⟩ ?v157 rfl (by kernel_rfl) (by rfl) ?y157 ?_
  case y157 => intro w hSw; (try dsimp only at hSw); go_simp; all_goals with_reducible rfl
  try simp only [apt12]
  refine tkI 9 ⟨some 12, .move (.tmp 0), 70, "prim.go:172", #[], none⟩ ?v158 rfl (by kernel_rfl) (by rfl) ?y158 ?_
  case y158 => intro w hSw; (try dsimp only at hSw); go_simp; all_goals with_reducible rfl
  try simp only [apt12]
  refine tkI 10 ⟨some 13, .nilCheck (.tmp 12), 0, "prim.go:172", #[⟨9, .data⟩], none⟩ ?v159 rfl (by kernel_rfl) (by rfl) ?y159 ?_
  case y159 => intro w hSw; (try dsimp only at hSw); go_simp; all_goals with_reducible rfl
  try simp only [apt12]
  refine tkI 11 ⟨some 14, .fieldAddr 49 (.tmp 13) 2, 0, "prim.go:172", #[⟨10, .data⟩], none⟩ ?v160 rfl (by kernel_rfl) (by rfl) ?y160 ?_
  case y160 => intro w hSw; (try dsimp only at hSw); go_simp; all_goals with_reducible rfl
  try simp only [apt12]
  refine tkI 12 ⟨some 15, .load 25 (.tmp 14), 25, "prim.go:172", #[⟨11, .data⟩], none⟩ ?v161 rfl (by kernel_rfl) (by rfl) ?y161 ?_
  case y161 => intro w hSw; (try dsimp only at hSw); go_simp; all_goals with_reducible rfl
  try simp only [apt12]
  refine tkI 13 ⟨some 16, .indexAddr 25 (.tmp 15) (.const (Go.Value.int .i64 0)), 0, "prim.go:172", #[⟨12, .data⟩], none⟩ ?v162 rfl (by kernel_rfl) (by rfl) ?y162 ?_
  case y162 => intro w hSw; (try dsimp only at hSw); go_simp; all_goals with_reducible rfl
  try simp only [apt12]
  refine tkI 14 ⟨some 17, .load 3 (.tmp 16), 3, "prim.go:172", #[⟨13, .data⟩], none⟩ ?v163 rfl (by kernel_rfl) (by rfl) ?y163 ?_
  case y163 => intro w hSw; (try dsimp only at hSw); go_simp; all_goals with_reducible rfl
  try simp only [apt12]
  refine tkI 16 ⟨some 19, .move (.tmp 0), 70, "prim.go:172", #[], none⟩ ?v164 rfl (by kernel_rfl) (by rfl) ?y164 ?_
  case y164 => intro w hSw; (try dsimp only at hSw); go_simp; all_goals with_reducible rfl
  try simp only [apt12]
  refine tkI 17 ⟨some 20, .nilCheck (.tmp 19), 0, "prim.go:172", #[⟨16, .data⟩], none⟩ ?v165 rfl (by kernel_rfl) (by rfl) ?y165 ?_
  case y165 => intro w hSw; (try dsimp only at hSw); go_simp; all_goals with_reducible rfl
  try simp only [apt12]
  refine tkI 18 ⟨some 21, .fieldAddr 49 (.tmp 20) 2, 0, "prim.go:172", #[⟨17, .data⟩], none⟩ ?v166 rfl (by kernel_rfl) (by rfl) ?y166 ?_
  case y166 => intro w hSw; (try dsimp only at hSw); go_simp; all_goals with_reducible rfl
  try simp only [apt12]
  refine tkI 19 ⟨some 22, .load 25 (.tmp 21), 25, "prim.go:172", #[⟨18, .data⟩], none⟩ ?v167 rfl (by kernel_rfl) (by rfl) ?y167 ?_
  case y167 => intro w hSw; (try dsimp only at hSw); go_simp; all_goals with_reducible rfl
  try simp only [apt12]
  refine tkI 20 ⟨some 23, .indexAddr 25 (.tmp 22) (.const (Go.Value.int .i64 1)), 0, "prim.go:172", #[⟨19, .data⟩], none⟩ ?v168 rfl (by kernel_rfl) (by rfl) ?y168 ?_
  case y168 => intro w hSw; (try dsimp only at hSw); go_simp; all_goals with_reducible rfl
  try simp only [apt12]
  refine tkI 21 ⟨some 24, .load 3 (.tmp 23), 3, "prim.go:172", #[⟨20, .data⟩], none⟩ ?v169 rfl (by kernel_rfl) (by rfl) ?y169 ?_
  case y169 => intro w hSw; (try dsimp only at hSw); go_simp; all_goals with_reducible rfl
  try simp only [apt12]
  refine wpAnyH_ready (rs := [4, 15]) (by kernel_rfl) (by simp) ?_
  refine AllReadyH.cons (i := 4) (o := ⟨some 7, .load 24 (.tmp 6), 24, "prim.go:172", #[⟨3, .data⟩], none⟩) rfl (fun K hK => ?_) (AllReadyH.cons (i := 15) (o := ⟨some 18, .call { callee := .value (.func 131), args := #[.tmp 17], argTypes := #[3] }, 3, "prim.go:172", #[⟨14, .data⟩], none⟩) rfl (fun K hK => ?_) AllReadyH.nil)
  · have z0 := cell_later (Below.refl w.heap.size w).drew x0
    have z1 := cell_later (Below.refl w.heap.size w).drew x1
    have z2 := cell_later (Below.refl w.heap.size w).drew x2
    go_simp
    refine hK.out _ _ ?_ (fun hH1 => ?_)
    · exact hH0
    clear hK K
    try simp only [apt12]
    clear z0 z1 z2
    refine wpAnyH_ready (rs := [15]) (by kernel_rfl) (by simp) ?_
    refine AllReadyH.cons (i := 15) (o := ⟨some 18, .call { callee := .value (.func 131), args := #[.tmp 17], argTypes := #[3] }, 3, "prim.go:172", #[⟨14, .data⟩], none⟩) rfl (fun K hK => ?_) AllReadyH.nil
    go_simp
    go_at_call 131
    refine (place_ok13 ha _).mono ?_
    rintro e u2 ⟨rfl, rfl⟩
    refine hK.out _ _ ?_ (fun hH2 => ?_)
    · exact hH1
    clear hK K
    try simp only [apt12]
    refine wpAnyH_ready (rs := [22]) (by kernel_rfl) (by simp) ?_
    refine AllReadyH.cons (i := 22) (o := ⟨some 25, .call { callee := .value (.func 133), args := #[.tmp 7, .tmp 11, .tmp 18, .tmp 24], argTypes := #[24, 3, 3, 3] }, 76, "prim.go:172", #[⟨4, .data⟩, ⟨8, .data⟩, ⟨15, .data⟩, ⟨21, .data⟩, ⟨15, .chain⟩], none⟩) rfl (fun K hK => ?_) AllReadyH.nil
    go_simp
    go_at_call 133
    refine (set_any h s (nV a0 - 1) a1 A c _ (HI.out.own.obs.below (Below.refl w.heap.size w).drew) HI.out.fit).mono ?_
    rintro e u3 ⟨A2, c2, l2, rfl, hm2, ho2, hb⟩
    rw [← HG.out] at hm2
    rw [← HG.out, ← EN.out]
    have HBS : Hid (Below w.heap.size w u3) := hid (then_w (Below.refl w.heap.size w).drew hb)
    have FO : Hid (Fr13 u3 w.heap.size A2 c2 g.objs) := hid ⟨l2, ho2, hm2⟩
    have BX : Hid (CL13 u3 b h A c s args.length (some ⟨p, o, none⟩) da) := hid (HI.out.box.later HBS.out)
    refine hK.out _ _ ?_ (fun hH3 => ?_)
    · exact ⟨cell_later hb hH2.1, cell_later hb hH2.2.1, cell_later hb hH2.2.2.1, cell_later hb hH2.2.2.2.1, (hH2.2.2.2.2).trans (onl_below13 hb)⟩
    clear hK K
    try simp only [apt12]
    clear hb hm2 ho2
    refine tkI 23 ⟨some 26, .extract (.tmp 25) 0, 24, "prim.go:172", #[⟨22, .data⟩], none⟩ ?v170 rfl (by kernel_rfl) (by rfl) ?y170 ?_
    case y170 => intro w hSw; (try dsimp only at hSw); go_simp; all_goals with_reducible rfl
    try simp only [apt12]
    refine tkI 24 ⟨some 27, .extract (.tmp 25) 1, 30, "prim.go:172", #[⟨22, .data⟩], none⟩ ?v171 rfl (by kernel_rfl) (by rfl) ?y171 ?_
    case y171 => intro w hSw; (try dsimp only at hSw); go_simp; all_goals with_reducible rfl
    try simp only [apt12]
    refine wpAnyH_ready (rs := [25]) (by kernel_rfl) (by simp) ?_
    refine AllReadyH.cons (i := 25) (o := ⟨some 28, .call { callee := .value (.func 132), args := #[.tmp 3, .tmp 26, .tmp 27], argTypes := #[70, 24, 30] }, 0, "prim.go:172", #[⟨0, .data⟩, ⟨23, .data⟩, ⟨24, .data⟩, ⟨22, .chain⟩], none⟩) rfl (fun K hK => ?_) AllReadyH.nil
    go_simp
    go_at_call 132
    refine (change_no13 b g A2 c2 he _).mono ?_
    rintro e u9 ⟨rfl, hb⟩
    rw [G130.out]
    exact ⟨rfl, pr_stop13 (then_w HBS.out hb) (by first | rfl | simp [fa13]) (by decide)⟩
  · go_simp
    go_at_call 131
    refine (place_ok13 ha _).mono ?_
    rintro e u1 ⟨rfl, rfl⟩
    refine hK.out _ _ ?_ (fun hH1 => ?_)
    · exact hH0
    clear hK K
    try simp only [apt12]
    refine wpAnyH_ready (rs := [4]) (by kernel_rfl) (by simp) ?_
    refine AllReadyH.cons (i := 4) (o := ⟨some 7, .load 24 (.tmp 6), 24, "prim.go:172", #[⟨3, .data⟩], none⟩) rfl (fun K hK => ?_) AllReadyH.nil
    have z0 := cell_later (Below.refl w.heap.size w).drew x0
    have z1 := cell_later (Below.refl w.heap.size w).drew x1
    have z2 := cell_later (Below.refl w.heap.size w).drew x2
    go_simp
    refine hK.out _ _ ?_ (fun hH2 => ?_)
    · exact hH1
    clear hK K
    try simp only [apt12]
    clear z0 z1 z2
    refine wpAnyH_ready (rs := [22]) (by kernel_rfl) (by simp) ?_
    refine AllReadyH.cons (i := 22) (o := ⟨some 25, .call { callee := .value (.func 133), args := #[.tmp 7, .tmp 11, .tmp 18, .tmp 24], argTypes := #[24, 3, 3, 3] }, 76, "prim.go:172", #[⟨4, .data⟩, ⟨8, .data⟩, ⟨15, .data⟩, ⟨21, .data⟩, ⟨15, .chain⟩], none⟩) rfl (fun K hK => ?_) AllReadyH.nil
    go_simp
    go_at_call 133
    refine (set_any h s (nV a0 - 1) a1 A c _ (HI.out.own.obs.below (Below.refl w.heap.size w).drew) HI.out.fit).mono ?_
    rintro e u3 ⟨A2, c2, l2, rfl, hm2, ho2, hb⟩
    rw [← HG.out] at hm2
    rw [← HG.out, ← EN.out]
    have HBS : Hid (Below w.heap.size w u3) := hid (then_w (Below.refl w.heap.size w).drew hb)
    have FO : Hid (Fr13 u3 w.heap.size A2 c2 g.objs) := hid ⟨l2, ho2, hm2⟩
    have BX : Hid (CL13 u3 b h A c s args.length (some ⟨p, o, none⟩) da) := hid (HI.out.box.later HBS.out)
    refine hK.out _ _ ?_ (fun hH3 => ?_)
    · exact ⟨cell_later hb hH2.1, cell_later hb hH2.2.1, cell_later hb hH2.2.2.1, cell_later hb hH2.2.2.2.1, (hH2.2.2.2.2).trans (onl_below13 hb)⟩
    clear hK K
    try simp only [apt12]
    clear hb hm2 ho2
    refine tkI 23 ⟨some 26, .extract (.tmp 25) 0, 24, "prim.go:172", #[⟨22, .data⟩], none⟩ ?v172 rfl (by kernel_rfl) (by rfl) ?y172 ?_
    case y172 => intro w hSw; (try dsimp only at hSw); go_simp; all_goals with_reducible rfl
    try simp only [apt12]
    refine tkI 24 ⟨some 27, .extract (.tmp 25) 1, 30, "prim.go:172", #[⟨22, .data⟩], none⟩ ?v173 rfl (by kernel_rfl) (by rfl) ?y173 ?_
    case y173 => intro w hSw; (try dsimp only at hSw); go_simp; all_goals with_reducible rfl
    try simp only [apt12]
    refine wpAnyH_ready (rs := [25]) (by kernel_rfl) (by simp) ?_
    refine AllReadyH.cons (i := 25) (o := ⟨some 28, .call { callee := .value (.func 132), args := #[.tmp 3, .tmp 26, .tmp 27], argTypes := #[70, 24, 30] }, 0, "prim.go:172", #[⟨0, .data⟩, ⟨23, .data⟩, ⟨24, .data⟩, ⟨22, .chain⟩], none⟩) rfl (fun K hK => ?_) AllReadyH.nil
    go_simp
    go_at_call 132
    refine (change_no13 b g A2 c2 he _).mono ?_
    rintro e u9 ⟨rfl, hb⟩
    rw [G130.out]
    exact ⟨rfl, pr_stop13 (then_w HBS.out hb) (by first | rfl | simp [fa13]) (by decide)⟩
set_option maxHeartbeats 1000000 in
theorem setbyte_any13 (b base : Nat) (h : Hp) (A : Option Addr) (c : Nat) (s : Int) (args : List Int) (SA : Option Addr) (da : Nat) (w : World) (I : In13 w b base h A c s args SA da) (hn : 1 < args.length) :
    Calls Tryz.prog 118 #[.pointer (some ⟨b, 0, none⟩)] w (Po13 w b h A c s args.length SA da (if nB (args.getD 0 0) = false then fa13 h else if nB (args.getD 1 0) = false ∨ sbE h s (nV (args.getD 0 0) - 1) (nV (args.getD 1 0)) ≠ 0 then fa13 h else (sbR h s (nV (args.getD 0 0) - 1) (nV (args.getD 1 0)), args.getD 1 0, 0))) := by
  obtain ⟨a0, ha0⟩ : ∃ a, a = args.getD 0 0 := ⟨_, rfl⟩
  rw [← ha0]
  obtain ⟨a1, ha1⟩ : ∃ a, a = args.getD 1 0 := ⟨_, rfl⟩
  rw [← ha1]
  have HI := hid I
  have HLA := hid (fun k => has_arg13 I.hall (k := k))
  obtain ⟨p, o, hSA, q0, hpb⟩ := I.arg (k := 0) (by omega)
  obtain ⟨pp, oo, hSA2, q1, -⟩ := I.arg (k := 1) (by omega)
  obtain ⟨rfl, rfl⟩ : p = pp ∧ o = oo := by
    rw [hSA] at hSA2
    injection hSA2 with h1
    injection h1 with h1 h2
    exact ⟨h1, h2⟩
  clear hSA2
  subst hSA
  rw [← ha0] at q0
  simp only [Nat.add_zero] at q0
  rw [← ha1] at q1
  have hn1 : 1 < args.length := by omega
  have hn1I : (1 : Int) < (args.length : Int) := by omega
  have hn0 : 0 < args.length := by omega
  have hn0I : (0 : Int) < (args.length : Int) := by omega
  have HPB := hid hpb
  obtain ⟨x0, x1, x2, x3, x4⟩ := I.box.c5
  have HA0 := hid ha0
  have HA1 := hid ha1
  clear I hpb ha0 ha1
  cases ha : nB a0
  · go_enter Tryz.func118, Tryz.ntmps118
    go_upto_region 1 with fail
    refine wp_region_held_drew (S := (fun w' => w'.cell? ⟨b, 3, none⟩ = some (.int .i64 s) ∧ w'.cell? ⟨b, 4, none⟩ = some (.slice (some ⟨p, o, none⟩) args.length da) ∧ w'.cell? ⟨p, o, none⟩ = some (.int .i64 a0) ∧ w'.cell? ⟨p, o + 1, none⟩ = some (.int .i64 a1) ∧ Onl13 b w w')) (by kernel_rfl) ?_ (fun hH0 => ?_)
    · exact ⟨cell_later (Below.refl w.heap.size w).drew x3, cell_later (Below.refl w.heap.size w).drew x4, cell_later (Below.refl w.heap.size w).drew q0, cell_later (Below.refl w.heap.size w).drew q1, onl_below13 (Below.refl _ _).drew⟩
    refine tkI 0 ⟨some 3, .move (.tmp 0), 70, "prim.go:179", #[], none⟩ ?v174 rfl (by kernel_rfl) (by rfl) ?y174 ?_
    case y174 => intro w hSw; (try dsimp only at hSw); go_simp; all_goals with_reducible rfl
    try simp only [apt12]
    refine tkI 1 ⟨some 4, .move (.tmp 0), 70, "prim.go:179", #[], none⟩ ?v175 rfl (by kernel_rfl) (by rfl) ?y175 ?_
    case y175 => intro w hSw; (try dsimp only at hSw); go_simp; all_goals with_reducible rfl
    try simp only [apt12]
    refine tkI 2 ⟨some 5, .nilCheck (.tmp 4), 0, "prim.go:179", #[⟨1, .data⟩], none⟩ ?v176 rfl (by kernel_rfl) (by rfl) ?y176 ?_
    case y176 => intro w hSw; (try dsimp only at hSw); go_simp; all_goals with_reducible rfl
    try simp only [apt12]
    refine tkI 3 ⟨some 6, .fieldAddr 49 (.tmp 5) 0, 0, "prim.go:179", #[⟨2, .data⟩], none⟩ ?v177 rfl (by kernel_rfl) (by rfl) ?y177 ?_
    case y177 => intro w hSw; (try dsimp only at hSw); go_simp; all_goals with_reducible rfl
    try simp only [apt12]
    refine tkI 5 ⟨some 8, .move (.tmp 0), 70, "prim.go:179", #[], none⟩ ?v178 rfl (by kernel_rfl) (by rfl) ?y178 ?_
    case y178 => intro w hSw; (try dsimp only at hSw); go_simp; all_goals with_reducible rfl
    try simp only [apt12]
    refine tkI 6 ⟨some 9, .nilCheck (.tmp 8), 0, "prim.go:179", #[⟨5, .data⟩], none⟩ ?v179 rfl (by kernel_rfl) (by rfl) ?y179 ?_
    case y179 => intro w hSw; (try dsimp only at hSw); go_simp; all_goals with_reducible rfl
    try simp only [apt12]
    refine tkI 7 ⟨some 10, .fieldAddr 49 (.tmp 9) 1, 0, "prim.go:179", #[⟨6, .data⟩], none⟩ ?v180 rfl (by kernel_rfl) (by rfl) ?y180 ?_
    case y180 => intro w hSw; (try dsimp only at hSw); go_simp; all_goals with_reducible rfl
    try simp only [apt12]
    refine tkI 8 ⟨some 11, .load 3 (.tmp 10), 3, "prim.go:179", #[⟨7, .data⟩], none⟩ ?v181 rfl (by kernel_rfl) (by rfl) ?y181 ?_
    case y181 => intro w hSw; (try dsimp only at hSw); go_simp; all_goals with_reducible rfl
    try simp only [apt12]
    refine tkI 9 ⟨some 12, .move (.tmp 0), 70, "prim.go:179", #[], none⟩ ?v182 rfl (by kernel_rfl) (by rfl) ?y182 ?_
    case y182 => intro w hSw; (try dsimp only at hSw); go_simp; all_goals with_reducible rfl
    try simp only [apt12]
    refine tkI 10 ⟨some 13, .nilCheck (.tmp 12), 0, "prim.go:179", #[⟨9, .data⟩], none⟩ ?v183 rfl (by kernel_rfl) (by rfl) ?y183 ?_
    case y183 => intro w hSw; (try dsimp only at hSw); go_simp; all_goals with_reducible rfl
    try simp only [apt12]
    refine tkI 11 ⟨some 14, .fieldAddr 49 (.tmp 13) 2, 0, "prim.go:179", #[⟨10, .data⟩], none⟩ ?v184 rfl (by kernel_rfl) (by rfl) ?y184 ?_
    case y184 => intro w hSw; (try dsimp only at hSw); go_simp; all_goals with_reducible rfl
    try simp only [apt12]
    refine tkI 12 ⟨some 15, .load 25 (.tmp 14), 25, "prim.go:179", #[⟨11, .data⟩], none⟩ ?v185 rfl (by kernel_rfl) (by rfl) ?y185 ?_
    case y185 => intro w hSw; (try dsimp only at hSw); go_simp; all_goals with_reducible rfl
    try simp only [apt12]
    refine tkI 13 ⟨some 16, .indexAddr 25 (.tmp 15) (.const (Go.Value.int .i64 0)), 0, "prim.go:179", #[⟨12, .data⟩], none⟩ ?v186 rfl (by kernel_rfl) (by rfl) ?y186 ?_
    case y186 => intro w hSw; (try dsimp only at hSw); go_simp; all_goals with_reducible rfl
    try simp only [apt12]
    refine tkI 14 ⟨some 17, .load 3 (.tmp 16), 3, "prim.go:179", #[⟨13, .data⟩], none⟩ ?v187 rfl (by kernel_rfl) (by rfl) ?y187 ?_
    case y187 => intro w hSw; (try dsimp only at hSw); go_simp; all_goals with_reducible rfl
    try simp only [apt12]
    refine tkI 16 ⟨some 19, .move (.tmp 0), 70, "prim.go:179", #[], none⟩ ?v188 rfl (by kernel_rfl) (by rfl) ?y188 ?_
    case y188 => intro w hSw; (try dsimp only at hSw); go_simp; all_goals with_reducible rfl
    try simp only [apt12]
    refine tkI 17 ⟨some 20, .nilCheck (.tmp 19), 0, "prim.go:179", #[⟨16, .data⟩], none⟩ ?v189 rfl (by kernel_rfl) (by rfl) ?y189 ?_
    case y189 => intro w hSw; (try dsimp only at hSw); go_simp; all_goals with_reducible rfl
    try simp only [apt12]
    refine tkI 18 ⟨some 21, .fieldAddr 49 (.tmp 20) 2, 0, "prim.go:179", #[⟨17, .data⟩], none⟩ ?v190 rfl (by kernel_rfl) (by rfl) ?y190 ?_
    case y190 => intro w hSw; (try dsimp only at hSw); go_simp; all_goals with_reducible rfl
    try simp only [apt12]
    refine tkI 19 ⟨some 22, .load 25 (.tmp 21), 25, "prim.go:179", #[⟨18, .data⟩], none⟩ ?v191 rfl (by kernel_rfl) (by rfl) ?y191 ?_
    case y191 => intro w hSw; (try dsimp only at hSw); go_simp; all_goals with_reducible rfl
    try simp only [apt12]
    refine tkI 20 ⟨some 23, .indexAddr 25 (.tmp 22) (.const (Go.Value.int .i64 1)), 0, "prim.go:179", #[⟨19, .data⟩], none⟩ ?v192 rfl (by kernel_rfl) (by rfl) ?y192 ?_
    case y192 => intro w hSw; (try dsimp only at hSw); go_simp; all_goals with_reducible rfl
    try simp only [apt12]
    refine tkI 21 ⟨some 24, .load 3 (.tmp 23), 3, "prim.go:179", #[⟨20, .data⟩], none⟩ ?v193 rfl (by kernel_rfl) (by rfl) ?y193 ?_
    case y193 => intro w hSw; (try dsimp only at hSw); go_simp; all_goals with_reducible rfl
    try simp only [apt12]
    refine wpAnyH_ready (rs := [4, 15]) (by kernel_rfl) (by simp) ?_
    refine AllReadyH.cons (i := 4) (o := ⟨some 7, .load 24 (.tmp 6), 24, "prim.go:179", #[⟨3, .data⟩], none⟩) rfl (fun K hK => ?_) (AllReadyH.cons (i := 15) (o := ⟨some 18, .call { callee := .value (.func 131), args := #[.tmp 17], argTypes := #[3] }, 3, "prim.go:179", #[⟨14, .data⟩], none⟩) rfl (fun K hK => ?_) AllReadyH.nil)
    · have z0 := cell_later (Below.refl w.heap.size w).drew x0
      have z1 := cell_later (Below.refl w.heap.size w).drew x1
      have z2 := cell_later (Below.refl w.heap.size w).drew x2
      go_simp
      refine hK.out _ _ ?_ (fun hH1 => ?_)
      · exact hH0
      clear hK K
      try simp only [apt12]
      clear z0 z1 z2
      refine wpAnyH_ready (rs := [15]) (by kernel_rfl) (by simp) ?_
      refine AllReadyH.cons (i := 15) (o := ⟨some 18, .call { callee := .value (.func 131), args := #[.tmp 17], argTypes := #[3] }, 3, "prim.go:179", #[⟨14, .data⟩], none⟩) rfl (fun K hK => ?_) AllReadyH.nil
      go_simp
      go_at_call 131
      refine (place_no13 ha _).mono ?_
      rintro e u9 ⟨rfl, rfl⟩
      exact ⟨rfl, pr_stop13 (Below.refl w.heap.size w).drew (by first | rfl | simp [fa13]) (by decide)⟩
    · go_simp
      go_at_call 131
      refine (place_no13 ha _).mono ?_
      rintro e u9 ⟨rfl, rfl⟩
      exact ⟨rfl, pr_stop13 (Below.refl w.heap.size w).drew (by first | rfl | simp [fa13]) (by decide)⟩
  cases hq : nB a1
  · go_enter Tryz.func118, Tryz.ntmps118
    go_upto_region 1 with fail
    refine wp_region_held_drew (S := (fun w' => w'.cell? ⟨b, 3, none⟩ = some (.int .i64 s) ∧ w'.cell? ⟨b, 4, none⟩ = some (.slice (some ⟨p, o, none⟩) args.length da) ∧ w'.cell? ⟨p, o, none⟩ = some (.int .i64 a0) ∧ w'.cell? ⟨p, o + 1, none⟩ = some (.int .i64 a1) ∧ Onl13 b w w')) (by kernel_rfl) ?_ (fun hH0 => ?_)
    · exact ⟨cell_later (Below.refl w.heap.size w).drew x3, cell_later (Below.refl w.heap.size w).drew x4, cell_later (Below.refl w.heap.size w).drew q0, cell_later (Below.refl w.heap.size w).drew q1, onl_below13 (Below.refl _ _).drew⟩
    refine tkI 0 ⟨some 3, .move (.tmp 0), 70, "prim.go:179", #[], none⟩ ?v194 rfl (by kernel_rfl) (by rfl) ?y194 ?_
    case y194 => intro w hSw; (try dsimp only at hSw); go_simp; all_goals with_reducible rfl
    try simp only [apt12]
    refine tkI 1 ⟨some 4, .move (.tmp 0), 70, "prim.go:179", #[], none⟩ ?v195 rfl (by kernel_rfl) (by rfl) ?y195 ?_
    case y195 => intro w hSw; (try dsimp only at hSw); go_simp; all_goals with_reducible rfl
    try simp only [apt12]
    refine tkI 2 ⟨some 5, .nilCheck (.tmp 4), 0, "prim.go:179", #[⟨1, .data⟩], none⟩ ?v196 rfl (by kernel_rfl) (by rfl) ?y196 ?_
    case y196 => intro w hSw; (try dsimp only at hSw); go_simp; all_goals with_reducible rfl
    try simp only [apt12]
    refine tkI 3 ⟨some 6, .fieldAddr 49 (.tmp 5) 0, 0, "prim.go:179", #[⟨2, .data⟩], none⟩ ?v197 rfl (by kernel_rfl) (by rfl) ?y197 ?_
    case y197 => intro w hSw; (try dsimp only at hSw); go_simp; all_goals with_reducible rfl
    try simp only [apt12]
    refine tkI 5 ⟨some 8, .move (.tmp 0), 70, "prim.go:179", #[], none⟩ ?v198 rfl (by kernel_rfl) (by rfl) ?y198 ?_
    case y198 => intro w hSw; (try dsimp only at hSw); go_simp; all_goals with_reducible rfl
    try simp only [apt12]
    refine tkI 6 ⟨some 9, .nilCheck (.tmp 8), 0, "prim.go:179", #[⟨5, .data⟩], none⟩ ?v199 rfl (by kernel_rfl) (by rfl) ?y199 ?_
    case y199 => intro w hSw; (try dsimp only at hSw); go_simp; all_goals with_reducible rfl
    try simp only [apt12]
    refine tkI 7 ⟨some 10, .fieldAddr 49 (.tmp 9) 1, 0, "prim.go:179", #[⟨6, .data⟩], none⟩ ?v200 rfl (by kernel_rfl) (by rfl) ?y200 ?_
    case y200 => intro w hSw; (try dsimp only at hSw); go_simp; all_goals with_reducible rfl
    try simp only [apt12]
    refine tkI 8 ⟨some 11, .load 3 (.tmp 10), 3, "prim.go:179", #[⟨7, .data⟩], none⟩ ?v201 rfl (by kernel_rfl) (by rfl) ?y201 ?_
    case y201 => intro w hSw; (try dsimp only at hSw); go_simp; all_goals with_reducible rfl
    try simp only [apt12]
    refine tkI 9 ⟨some 12, .move (.tmp 0), 70, "prim.go:179", #[], none⟩ ?v202 rfl (by kernel_rfl) (by rfl) ?y202 ?_
    case y202 => intro w hSw; (try dsimp only at hSw); go_simp; all_goals with_reducible rfl
    try simp only [apt12]
    refine tkI 10 ⟨some 13, .nilCheck (.tmp 12), 0, "prim.go:179", #[⟨9, .data⟩], none⟩ ?v203 rfl (by kernel_rfl) (by rfl) ?y203 ?_
    case y203 => intro w hSw; (try dsimp only at hSw); go_simp; all_goals with_reducible rfl
    try simp only [apt12]
    refine tkI 11 ⟨some 14, .fieldAddr 49 (.tmp 13) 2, 0, "prim.go:179", #[⟨10, .data⟩], none⟩ ?v204 rfl (by kernel_rfl) (by rfl) ?y204 ?_
    case y204 => intro w hSw; (try dsimp only at hSw); go_simp; all_goals with_reducible rfl
    try simp only [apt12]
    refine tkI 12 ⟨some 15, .load 25 (.tmp 14), 25, "prim.go:179", #[⟨11, .data⟩], none⟩ ?v205 rfl (by kernel_rfl) (by rfl) ?y205 ?_
    case y205 => intro w hSw; (try dsimp only at hSw); go_simp; all_goals with_reducible rfl
    try simp only [apt12]
    refine tkI 13 ⟨some 16, .indexAddr 25 (.tmp 15) (.const (Go.Value.int .i64 0)), 0, "prim.go:179", #[⟨12, .data⟩], none⟩ ?v206 rfl (by kernel_rfl) (by rfl) ?y206 ?_
    case y206 => intro w hSw; (try dsimp only at hSw); go_simp; all_goals with_reducible rfl
    try simp only [apt12]
    refine tkI 14 ⟨some 17, .load 3 (.tmp 16), 3, "prim.go:179", #[⟨13, .data⟩], none⟩ ?v207 rfl (by kernel_rfl) (by rfl) ?y207 ?_
    case y207 => intro w hSw; (try dsimp only at hSw); go_simp; all_goals with_reducible rfl
    try simp only [apt12]
    refine tkI 16 ⟨some 19, .move (.tmp 0), 70, "prim.go:179", #[], none⟩ ?v208 rfl (by kernel_rfl) (by rfl) ?y208 ?_
    case y208 => intro w hSw; (try dsimp only at hSw); go_simp; all_goals with_reducible rfl
    try simp only [apt12]
    refine tkI 17 ⟨some 20, .nilCheck (.tmp 19), 0, "prim.go:179", #[⟨16, .data⟩], none⟩ ?v209 rfl (by kernel_rfl) (by rfl) ?y209 ?_
    case y209 => intro w hSw; (try dsimp only at hSw); go_simp; all_goals with_reducible rfl
    try simp only [apt12]
    refine tkI 18 ⟨some 21, .fieldAddr 49 (.tmp 20) 2, 0, "prim.go:179", #[⟨17, .data⟩], none⟩ ?v210 rfl (by kernel_rfl) (by rfl) ?y210 ?_
    case y210 => intro w hSw; (try dsimp only at hSw); go_simp; all_goals with_reducible rfl
    try simp only [apt12]
    refine tkI 19 ⟨some 22, .load 25 (.tmp 21), 25, "prim.go:179", #[⟨18, .data⟩], none⟩ ?v211 rfl (by kernel_rfl) (by rfl) ?y211 ?_
    case y211 => intro w hSw; (try dsimp only at hSw); go_simp; all_goals with_reducible rfl
    try simp only [apt12]
    refine tkI 20 ⟨some 23, .indexAddr 25 (.tmp 22) (.const (Go.Value.int .i64 1)), 0, "prim.go:179", #[⟨19, .data⟩], none⟩ ?v212 rfl (by kernel_rfl) (by rfl) ?y212 ?_
    case y212 => intro w hSw; (try dsimp only at hSw); go_simp; all_goals with_reducible rfl
    try simp only [apt12]
    refine tkI 21 ⟨some 24, .load 3 (.tmp 23), 3, "prim.go:179", #[⟨20, .data⟩], none⟩ ?v213 rfl (by kernel_rfl) (by rfl) ?y213 ?_
    case y213 => intro w hSw; (try dsimp only at hSw); go_simp; all_goals with_reducible rfl
    try simp only [apt12]
    refine wpAnyH_ready (rs := [4, 15]) (by kernel_rfl) (by simp) ?_
    refine AllReadyH.cons (i := 4) (o := ⟨some 7, .load 24 (.tmp 6), 24, "prim.go:179", #[⟨3, .data⟩], none⟩) rfl (fun K hK => ?_) (AllReadyH.cons (i := 15) (o := ⟨some 18, .call { callee := .value (.func 131), args := #[.tmp 17], argTypes := #[3] }, 3, "prim.go:179", #[⟨14, .data⟩], none⟩) rfl (fun K hK => ?_) AllReadyH.nil)
    · have z0 := cell_later (Below.refl w.heap.size w).drew x0
      have z1 := cell_later (Below.refl w.heap.size w).drew x1
      have z2 := cell_later (Below.refl w.heap.size w).drew x2
      go_simp
      refine hK.out _ _ ?_ (fun hH1 => ?_)
      · exact hH0
      clear hK K
      try simp only [apt12]
      clear z0 z1 z2
      refine wpAnyH_ready (rs := [15]) (by kernel_rfl) (by simp) ?_
      refine AllReadyH.cons (i := 15) (o := ⟨some 18, .call { callee := .value (.func 131), args := #[.tmp 17], argTypes := #[3] }, 3, "prim.go:179", #[⟨14, .data⟩], none⟩) rfl (fun K hK => ?_) AllReadyH.nil
      go_simp
      go_at_call 131
      refine (place_ok13 ha _).mono ?_
      rintro e u2 ⟨rfl, rfl⟩
      refine hK.out _ _ ?_ (fun hH2 => ?_)
      · exact hH1
      clear hK K
      try simp only [apt12]
      refine wpAnyH_ready (rs := [22]) (by kernel_rfl) (by simp) ?_
      refine AllReadyH.cons (i := 22) (o := ⟨some 25, .call { callee := .value (.func 127), args := #[.tmp 24], argTypes := #[3] }, 3, "prim.go:179", #[⟨21, .data⟩, ⟨15, .chain⟩], none⟩) rfl (fun K hK => ?_) AllReadyH.nil
      go_simp
      go_at_call 127
      refine (num_no13 hq _).mono ?_
      rintro e u9 ⟨rfl, rfl⟩
      exact ⟨rfl, pr_stop13 (Below.refl w.heap.size w).drew (by first | rfl | simp [fa13]) (by decide)⟩
    · go_simp
      go_at_call 131
      refine (place_ok13 ha _).mono ?_
      rintro e u1 ⟨rfl, rfl⟩
      refine hK.out _ _ ?_ (fun hH1 => ?_)
      · exact hH0
      clear hK K
      try simp only [apt12]
      refine wpAnyH_ready (rs := [4, 22]) (by kernel_rfl) (by simp) ?_
      refine AllReadyH.cons (i := 4) (o := ⟨some 7, .load 24 (.tmp 6), 24, "prim.go:179", #[⟨3, .data⟩], none⟩) rfl (fun K hK => ?_) (AllReadyH.cons (i := 22) (o := ⟨some 25, .call { callee := .value (.func 127), args := #[.tmp 24], argTypes := #[3] }, 3, "prim.go:179", #[⟨21, .data⟩, ⟨15, .chain⟩], none⟩) rfl (fun K hK => ?_) AllReadyH.nil)
      · have z0 := cell_later (Below.refl w.heap.size w).drew x0
        have z1 := cell_later (Below.refl w.heap.size w).drew x1
        have z2 := cell_later (Below.refl w.heap.size w).drew x2
        go_simp
        refine hK.out _ _ ?_ (fun hH2 => ?_)
        · exact hH1
        clear hK K
        try simp only [apt12]
        clear z0 z1 z2
        refine wpAnyH_ready (rs := [22]) (by kernel_rfl) (by simp) ?_
        refine AllReadyH.cons (i := 22) (o := ⟨some 25, .call { callee := .value (.func 127), args := #[.tmp 24], argTypes := #[3] }, 3, "prim.go:179", #[⟨21, .data⟩, ⟨15, .chain⟩], none⟩) rfl (fun K hK => ?_) AllReadyH.nil
        go_simp
        go_at_call 127
        refine (num_no13 hq _).mono ?_
        rintro e u9 ⟨rfl, rfl⟩
        exact ⟨rfl, pr_stop13 (Below.refl w.heap.size w).drew (by first | rfl | simp [fa13]) (by decide)⟩
      · go_simp
        go_at_call 127
        refine (num_no13 hq _).mono ?_
        rintro e u9 ⟨rfl, rfl⟩
        exact ⟨rfl, pr_stop13 (Below.refl w.heap.size w).drew (by first | rfl | simp [fa13]) (by decide)⟩
  obtain ⟨en, hen⟩ : ∃ e, e = sbE h s (nV a0 - 1) (nV a1) := ⟨_, rfl⟩
  obtain ⟨g, hg⟩ : ∃ e, e = sbR h s (nV a0 - 1) (nV a1) := ⟨_, rfl⟩
  have G30 := hid (sb_30_13 h s (nV a0 - 1) (nV a1))
  rw [← hen, ← hg]
  rw [← hen] at G30
  have EN := hid hen
  have HG := hid hg
  clear hen hg
  by_cases he : en = 0
  · subst he
    go_enter Tryz.func118, Tryz.ntmps118
    go_upto_region 1 with fail
    refine wp_region_held_drew (S := (fun w' => w'.cell? ⟨b, 3, none⟩ = some (.int .i64 s) ∧ w'.cell? ⟨b, 4, none⟩ = some (.slice (some ⟨p, o, none⟩) args.length da) ∧ w'.cell? ⟨p, o, none⟩ = some (.int .i64 a0) ∧ w'.cell? ⟨p, o + 1, none⟩ = some (.int .i64 a1) ∧ Onl13 b w w')) (by kernel_rfl) ?_ (fun hH0 => ?_)
    · exact ⟨cell_later (Below.refl w.heap.size w).drew x3, cell_later (Below.refl w.heap.size w).drew x4, cell_later (Below.refl w.heap.size w).drew q0, cell_later (Below.refl w.heap.size w).drew q1, onl_below13 (Below.refl _ _).drew⟩
    refine tkI 0 ⟨some 3, .move (.tmp 0), 70, "prim.go:179", #[], none⟩ ?v214 rfl (by kernel_rfl) (by rfl) ?y214 ?_
    case y214 => intro w hSw; (try dsimp only at hSw); go_simp; all_goals with_reducible rfl
    try simp only [apt12]
    refine tkI 1 ⟨some 4, .move (.tmp 0), 70, "prim.go:179", #[], none⟩ ?v215 rfl (by kernel_rfl) (by rfl) ?y215 ?_
    case y215 => intro w hSw; (try dsimp only at hSw); go_simp; all_goals with_reducible rfl
    try simp only [apt12]
    refine tkI 2 ⟨some 5, .nilCheck (.tmp 4), 0, "prim.go:179", #[⟨1, .data⟩], none⟩ ?v216 rfl (by kernel_rfl) (by rfl) ?y216 ?_
    case y216 => intro w hSw; (try dsimp only at hSw); go_simp; all_goals with_reducible rfl
    try simp only [apt12]
    refine tkI 3 ⟨some 6, .fieldAddr 49 (.tmp 5) 0, 0, "prim.go:179", #[⟨2, .data⟩], none⟩ ?v217 rfl (by kernel_rfl) (by rfl) ?y217 ?_
    case y217 => intro w hSw; (try dsimp only at hSw); go_simp; all_goals with_reducible rfl
    try simp only [apt12]
    refine tkI 5 ⟨some 8, .move (.tmp 0), 70, "prim.go:179", #[], none⟩ ?v218 rfl (by kernel_rfl) (by rfl) ?y218 ?_
    case y218 => intro w hSw; (try dsimp only at hSw); go_simp; all_goals with_reducible rfl
    try simp only [apt12]
    refine tkI 6 ⟨some 9, .nilCheck (.tmp 8), 0, "prim.go:179", #[⟨5, .data⟩], none⟩ ?v219 rfl (by kernel_rfl) (by rfl) ?y219 ?_
    case y219 => intro w hSw; (try dsimp only at hSw); go_simp; all_goals with_reducible rfl
    try simp only [apt12]
    refine tkI 7 ⟨some 10, .fieldAddr 49 (.tmp 9) 1, 0, "prim.go:179", #[⟨6, .data⟩], none⟩ ?v220 rfl (by kernel_rfl) (by rfl) ?y220 ?_
    case y220 => intro w hSw; (try dsimp only at hSw); go_simp; all_goals with_reducible rfl
    try simp only [apt12]
    refine tkI 8 ⟨some 11, .load 3 (.tmp 10), 3, "prim.go:179", #[⟨7, .data⟩], none⟩ ?v221 rfl (by kernel_rfl) (by rfl) ?y221 ?_
    case y221 => intro w hSw; (try dsimp only at hSw); go_simp; all_goals with_reducible rfl
    try simp only [apt12]
    refine tkI 9 ⟨some 12, .move (.tmp 0), 70, "prim.go:179", #[], none⟩ ?v222 rfl (by kernel_rfl) (by rfl) ?y222 ?_
    case y222 => intro w hSw; (try dsimp only at hSw); go_simp; all_goals with_reducible rfl
    try simp only [apt12]
    refine tkI 10 ⟨some 13, .nilCheck (.tmp 12), 0, "prim.go:179", #[⟨9, .data⟩], none⟩ ?v223 rfl (by kernel_rfl) (by rfl) ?y223 ?_
    case y223 => intro w hSw; (try dsimp only at hSw); go_simp; all_goals with_reducible rfl
    try simp only [apt12]
    refine tkI 11 ⟨some 14, .fieldAddr 49 (.tmp 13) 2, 0, "prim.go:179", #[⟨10, .data⟩], none⟩ ?v224 rfl (by kernel_rfl) (by rfl) ?y224 ?_
    case y224 => intro w hSw; (try dsimp only at hSw); go_simp; all_goals with_reducible rfl
    try simp only [apt12]
    refine tkI 12 ⟨some 15, .load 25 (.tmp 14), 25, "prim.go:179", #[⟨11, .data⟩], none⟩ ?v225 rfl (by kernel_rfl) (by rfl) ?y225 ?_
    case y225 => intro w hSw; (try dsimp only at hSw); go_simp; all_goals with_reducible rfl
    try simp only [apt12]
    refine tkI 13 ⟨some 16, .indexAddr 25 (.tmp 15) (.const (Go.Value.int .i64 0)), 0, "prim.go:179", #[⟨12, .data⟩], none⟩ ?v226 rfl (by kernel_rfl) (by rfl) ?y226 ?_
    case y226 => intro w hSw; (try dsimp only at hSw); go_simp; all_goals with_reducible rfl
    try simp only [apt12]
    refine tkI 14 ⟨some 17, .load 3 (.tmp 16), 3, "prim.go:179", #[⟨13, .data⟩], none⟩ ?v227 rfl (by kernel_rfl) (by rfl) ?y227 ?_
    case y227 => intro w hSw; (try dsimp only at hSw); go_simp; all_goals with_reducible rfl
    try simp only [apt12]
    refine tkI 16 ⟨some 19, .move (.tmp 0), 70, "prim.go:179", #[], none⟩ ?v228 rfl (by kernel_rfl) (by rfl) ?y228 ?_
    case y228 => intro w hSw; (try dsimp only at hSw); go_simp; all_goals with_reducible rfl
    try simp only [apt12]
    refine tkI 17 ⟨some 20, .nilCheck (.tmp 19), 0, "prim.go:179", #[⟨16, .data⟩], none⟩ ?v229 rfl (by kernel_rfl) (by rfl) ?y229 ?_
    case y229 => intro w hSw; (try dsimp only at hSw); go_simp; all_goals with_reducible rfl
    try simp only [apt12]
    refine tkI 18 ⟨some 21, .fieldAddr 49 (.tmp 20) 2, 0, "prim.go:179", #[⟨17, .data⟩], none⟩ ?v230 rfl (by kernel_rfl) (by rfl) ?y230 ?_
    case y230 => intro w hSw; (try dsimp only at hSw); go_simp; all_goals with_reducible rfl
    try simp only [apt12]
    refine tkI 19 ⟨some 22, .load 25 (.tmp 21), 25, "prim.go:179", #[⟨18, .data⟩], none⟩ ?v231 rfl (by kernel_rfl) (by rfl) ?y231 ?_
    case y231 => intro w hSw; (try dsimp only at hSw); go_simp; all_goals with_reducible rfl
    try simp only [apt12]
    refine tkI 20 ⟨some 23, .indexAddr 25 (.tmp 22) (.const (Go.Value.int .i64 1)), 0, "prim.go:179", #[⟨19, .data⟩], none⟩ ?v232 rfl (by kernel_rfl) (by rfl) ?y232 ?_
    case y232 => intro w hSw; (try dsimp only at hSw); go_simp; all_goals with_reducible rfl
    try simp only [apt12]
    refine tkI 21 ⟨some 24, .load 3 (.tmp 23), 3, "prim.go:179", #[⟨20, .data⟩], none⟩ ?v233 rfl (by kernel_rfl) (by rfl) ?y233 ?_
    case y233 => intro w hSw; (try dsimp only at hSw); go_simp; all_goals with_reducible rfl
    try simp only [apt12]
    refine wpAnyH_ready (rs := [4, 15]) (by kernel_rfl) (by simp) ?_
    refine AllReadyH.cons (i := 4) (o := ⟨some 7, .load 24 (.tmp 6), 24, "prim.go:179", #[⟨3, .data⟩], none⟩) rfl (fun K hK => ?_) (AllReadyH.cons (i := 15) (o := ⟨some 18, .call { callee := .value (.func 131), args := #[.tmp 17], argTypes := #[3] }, 3, "prim.go:179", #[⟨14, .data⟩], none⟩) rfl (fun K hK => ?_) AllReadyH.nil)
    · have z0 := cell_later (Below.refl w.heap.size w).drew x0
      have z1 := cell_later (Below.refl w.heap.size w).drew x1
      have z2 := cell_later (Below.refl w.heap.size w).drew x2
      go_simp
      refine hK.out _ _ ?_ (fun hH1 => ?_)
      · exact hH0
      clear hK K
      try simp only [apt12]
      clear z0 z1 z2
      refine wpAnyH_ready (rs := [15]) (by kernel_rfl) (by simp) ?_
      refine AllReadyH.cons (i := 15) (o := ⟨some 18, .call { callee := .value (.func 131), args := #[.tmp 17], argTypes := #[3] }, 3, "prim.go:179", #[⟨14, .data⟩], none⟩) rfl (fun K hK => ?_) AllReadyH.nil
      go_simp
      go_at_call 131
      refine (place_ok13 ha _).mono ?_
      rintro e u2 ⟨rfl, rfl⟩
      refine hK.out _ _ ?_ (fun hH2 => ?_)
      · exact hH1
      clear hK K
      try simp only [apt12]
      refine wpAnyH_ready (rs := [22]) (by kernel_rfl) (by simp) ?_
      refine AllReadyH.cons (i := 22) (o := ⟨some 25, .call { callee := .value (.func 127), args := #[.tmp 24], argTypes := #[3] }, 3, "prim.go:179", #[⟨21, .data⟩, ⟨15, .chain⟩], none⟩) rfl (fun K hK => ?_) AllReadyH.nil
      go_simp
      go_at_call 127
      refine (num_ok13 hq _).mono ?_
      rintro e u3 ⟨rfl, rfl⟩
      refine hK.out _ _ ?_ (fun hH3 => ?_)
      · exact hH2
      clear hK K
      try simp only [apt12]
      refine wpAnyH_ready (rs := [23]) (by kernel_rfl) (by simp) ?_
      refine AllReadyH.cons (i := 23) (o := ⟨some 26, .call { callee := .value (.func 149), args := #[.tmp 7, .tmp 11, .tmp 18, .tmp 25], argTypes := #[24, 3, 3, 3] }, 76, "prim.go:179", #[⟨4, .data⟩, ⟨8, .data⟩, ⟨15, .data⟩, ⟨22, .data⟩, ⟨22, .chain⟩], none⟩) rfl (fun K hK => ?_) AllReadyH.nil
      go_simp
      go_at_call 149
      refine (setbyte_any h s (nV a0 - 1) (nV a1) A c _ (HI.out.own.obs.below (Below.refl w.heap.size w).drew) HI.out.fit).mono ?_
      rintro e u4 ⟨A2, c2, l2, rfl, hm2, ho2, hb⟩
      rw [← HG.out] at hm2
      rw [← HG.out, ← EN.out]
      have HBS : Hid (Below w.heap.size w u4) := hid (then_w (Below.refl w.heap.size w).drew hb)
      have FO : Hid (Fr13 u4 w.heap.size A2 c2 g.objs) := hid ⟨l2, ho2, hm2⟩
      have BX : Hid (CL13 u4 b h A c s args.length (some ⟨p, o, none⟩) da) := hid (HI.out.box.later HBS.out)
      refine hK.out _ _ ?_ (fun hH4 => ?_)
      · exact ⟨cell_later hb hH3.1, cell_later hb hH3.2.1, cell_later hb hH3.2.2.1, cell_later hb hH3.2.2.2.1, (hH3.2.2.2.2).trans (onl_below13 hb)⟩
      clear hK K
      try simp only [apt12]
      clear hb hm2 ho2
      refine tkI 24 ⟨some 27, .extract (.tmp 26) 0, 24, "prim.go:179", #[⟨23, .data⟩], none⟩ ?v234 rfl (by kernel_rfl) (by rfl) ?y234 ?_
      case y234 => intro w hSw; (try dsimp only at hSw); go_simp; all_goals with_reducible rfl
      try simp only [apt12]
      refine tkI 25 ⟨some 28, .extract (.tmp 26) 1, 30, "prim.go:179", #[⟨23, .data⟩], none⟩ ?v235 rfl (by kernel_rfl) (by rfl) ?y235 ?_
      case y235 => intro w hSw; (try dsimp only at hSw); go_simp; all_goals with_reducible rfl
      try simp only [apt12]
      refine wpAnyH_ready (rs := [26]) (by kernel_rfl) (by simp) ?_
      refine AllReadyH.cons (i := 26) (o := ⟨some 29, .call { callee := .value (.func 132), args := #[.tmp 3, .tmp 27, .tmp 28], argTypes := #[70, 24, 30] }, 0, "prim.go:179", #[⟨0, .data⟩, ⟨24, .data⟩, ⟨25, .data⟩, ⟨23, .chain⟩], none⟩) rfl (fun K hK => ?_) AllReadyH.nil
      go_simp
      go_at_call 132
      refine (change_ok13 b w.heap.size g A2 c2 _ BX.out FO.out).mono ?_
      rintro e u5 ⟨rfl, k1, k2, k3⟩
      have K1 := hid k1
      have K2 := hid k2
      refine hK.out _ _ ?_ (fun hH5 => ?_)
      · exact ⟨k1.cell 3, k1.cell 4, k3.cell (hH4.2.2.1) (fun e => by injection e with e; exact HPB.out e), k3.cell (hH4.2.2.2.1) (fun e => by injection e with e; exact HPB.out e), (hH4.2.2.2.2).trans k3⟩
      clear hK K
      try simp only [apt12]
      clear k1 k2 k3
      refine wpAnyH_done (by kernel_rfl) ?_ _
      have y3 := hH5.1
      have y4 := hH5.2.1
      have y5 := hH5.2.2.2.1
      have KN := hid (hH5.2.2.2.2)
      go_wp2_with fail
      go_ret
      exact pr_ok13 KN.out (by simp) K1.out K2.out
    · go_simp
      go_at_call 131
      refine (place_ok13 ha _).mono ?_
      rintro e u1 ⟨rfl, rfl⟩
      refine hK.out _ _ ?_ (fun hH1 => ?_)
      · exact hH0
      clear hK K
      try simp only [apt12]
      refine wpAnyH_ready (rs := [4, 22]) (by kernel_rfl) (by simp) ?_
      refine AllReadyH.cons (i := 4) (o := ⟨some 7, .load 24 (.tmp 6), 24, "prim.go:179", #[⟨3, .data⟩], none⟩) rfl (fun K hK => ?_) (AllReadyH.cons (i := 22) (o := ⟨some 25, .call { callee := .value (.func 127), args := #[.tmp 24], argTypes := #[3] }, 3, "prim.go:179", #[⟨21, .data⟩, ⟨15, .chain⟩], none⟩) rfl (fun K hK => ?_) AllReadyH.nil)
      · have z0 := cell_later (Below.refl w.heap.size w).drew x0
        have z1 := cell_later (Below.refl w.heap.size w).drew x1
        have z2 := cell_later (Below.refl w.heap.size w).drew x2
        go_simp
        refine hK.out _ _ ?_ (fun hH2 => ?_)
        · exact hH1
        clear hK K
        try simp only [apt12]
        clear z0 z1 z2
        refine wpAnyH_ready (rs := [22]) (by kernel_rfl) (by simp) ?_
        refine AllReadyH.cons (i := 22) (o := ⟨some 25, .call { callee := .value (.func 127), args := #[.tmp 24], argTypes := #[3] }, 3, "prim.go:179", #[⟨21, .data⟩, ⟨15, .chain⟩], none⟩) rfl (fun K hK => ?_) AllReadyH.nil
        go_simp
        go_at_call 127
        refine (num_ok13 hq _).mono ?_
        rintro e u3 ⟨rfl, rfl⟩
        refine hK.out _ _ ?_ (fun hH3 => ?_)
        · exact hH2
        clear hK K
        try simp only [apt12]
        refine wpAnyH_ready (rs := [23]) (by kernel_rfl) (by simp) ?_
        refine AllReadyH.cons (i := 23) (o := ⟨some 26, .call { callee := .value (.func 149), args := #[.tmp 7, .tmp 11, .tmp 18, .tmp 25], argTypes := #[24, 3, 3, 3] }, 76, "prim.go:179", #[⟨4, .data⟩, ⟨8, .data⟩, ⟨15, .data⟩, ⟨22, .data⟩, ⟨22, .chain⟩], none⟩) rfl (fun K hK => ?_) AllReadyH.nil
        go_simp
        go_at_call 149
        refine (setbyte_any h s (nV a0 - 1) (nV a1) A c _ (HI.out.own.obs.below (Below.refl w.heap.size w).drew) HI.out.fit).mono ?_
        rintro e u4 ⟨A2, c2, l2, rfl, hm2, ho2, hb⟩
        rw [← HG.out] at hm2
        rw [← HG.out, ← EN.out]
        have HBS : Hid (Below w.heap.size w u4) := hid (then_w (Below.refl w.heap.size w).drew hb)
        have FO : Hid (Fr13 u4 w.heap.size A2 c2 g.objs) := hid ⟨l2, ho2, hm2⟩
        have BX : Hid (CL13 u4 b h A c s args.length (some ⟨p, o, none⟩) da) := hid (HI.out.box.later HBS.out)
        refine hK.out _ _ ?_ (fun hH4 => ?_)
        · exact ⟨cell_later hb hH3.1, cell_later hb hH3.2.1, cell_later hb hH3.2.2.1, cell_later hb hH3.2.2.2.1, (hH3.2.2.2.2).trans (onl_below13 hb)⟩
        clear hK K
        try simp only [apt12]
        clear hb hm2 ho2
        refine tkI 24 ⟨some 27, .extract (.tmp 26) 0, 24, "prim.go:179", #[⟨23, .data⟩], none⟩ ?v236 rfl (by kernel_rfl) (by rfl) ?y236 ?_
        case y236 => intro w hSw; (try dsimp only at hSw); go_simp; all_goals with_reducible rfl
        try simp only [apt12]
        refine tkI 25 ⟨some 28, .extract (.tmp 26) 1, 30, "prim.go:179", #[⟨23, .data⟩], none⟩ ?v237 rfl (by kernel_rfl) (by rfl) ?y237 ?_
        case y237 => intro w hSw; (try dsimp only at hSw); go_simp; all_goals with_reducible rfl
        try simp only [apt12]
        refine wpAnyH_ready (rs := [26]) (by kernel_rfl) (by simp) ?_
        refine AllReadyH.cons (i := 26) (o := ⟨some 29, .call { callee := .value (.func 132), args := #[.tmp 3, .tmp 27, .tmp 28], argTypes := #[70, 24, 30] }, 0, "prim.go:179", #[⟨0, .data⟩, ⟨24, .data⟩, ⟨25, .data⟩, ⟨23, .chain⟩], none⟩) rfl (fun K hK => ?_) AllReadyH.nil
        go_simp
        go_at_call 132
        refine (change_ok13 b w.heap.size g A2 c2 _ BX.out FO.out).mono ?_
        rintro e u5 ⟨rfl, k1, k2, k3⟩
        have K1 := hid k1
        have K2 := hid k2
        refine hK.out _ _ ?_ (fun hH5 => ?_)
        · exact ⟨k1.cell 3, k1.cell 4, k3.cell (hH4.2.2.1) (fun e => by injection e with e; exact HPB.out e), k3.cell (hH4.2.2.2.1) (fun e => by injection e with e; exact HPB.out e), (hH4.2.2.2.2).trans k3⟩
        clear hK K
        try simp only [apt12]
        clear k1 k2 k3
        refine wpAnyH_done (by kernel_rfl) ?_ _
        have y3 := hH5.1
        have y4 := hH5.2.1
        have y5 := hH5.2.2.2.1
        have KN := hid (hH5.2.2.2.2)
        go_wp2_with fail
        go_ret
        exact pr_ok13 KN.out (by simp) K1.out K2.out
      · go_simp
        go_at_call 127
        refine (num_ok13 hq _).mono ?_
        rintro e u2 ⟨rfl, rfl⟩
        refine hK.out _ _ ?_ (fun hH2 => ?_)
        · exact hH1
        clear hK K
        try simp only [apt12]
        refine wpAnyH_ready (rs := [4]) (by kernel_rfl) (by simp) ?_
        refine AllReadyH.cons (i := 4) (o := ⟨some 7, .load 24 (.tmp 6), 24, "prim.go:179", #[⟨3, .data⟩], none⟩) rfl (fun K hK => ?_) AllReadyH.nil
        have z0 := cell_later (Below.refl w.heap.size w).drew x0
        have z1 := cell_later (Below.refl w.heap.size w).drew x1
        have z2 := cell_later (Below.refl w.heap.size w).drew x2
        go_simp
        refine hK.out _ _ ?_ (fun hH3 => ?_)
        · exact hH2
        clear hK K
        try simp only [apt12]
        clear z0 z1 z2
        refine wpAnyH_ready (rs := [23]) (by kernel_rfl) (by simp) ?_
        refine AllReadyH.cons (i := 23) (o := ⟨some 26, .call { callee := .value (.func 149), args := #[.tmp 7, .tmp 11, .tmp 18, .tmp 25], argTypes := #[24, 3, 3, 3] }, 76, "prim.go:179", #[⟨4, .data⟩, ⟨8, .data⟩, ⟨15, .data⟩, ⟨22, .data⟩, ⟨22, .chain⟩], none⟩) rfl (fun K hK => ?_) AllReadyH.nil
        go_simp
        go_at_call 149
        refine (setbyte_any h s (nV a0 - 1) (nV a1) A c _ (HI.out.own.obs.below (Below.refl w.heap.size w).drew) HI.out.fit).mono ?_
        rintro e u4 ⟨A2, c2, l2, rfl, hm2, ho2, hb⟩
        rw [← HG.out] at hm2
        rw [← HG.out, ← EN.out]
        have HBS : Hid (Below w.heap.size w u4) := hid (then_w (Below.refl w.heap.size w).drew hb)
        have FO : Hid (Fr13 u4 w.heap.size A2 c2 g.objs) := hid ⟨l2, ho2, hm2⟩
        have BX : Hid (CL13 u4 b h A c s args.length (some ⟨p, o, none⟩) da) := hid (HI.out.box.later HBS.out)
        refine hK.out _ _ ?_ (fun hH4 => ?_)
        · exact ⟨cell_later hb hH3.1, cell_later hb hH3.2.1, cell_later hb hH3.2.2.1, cell_later hb hH3.2.2.2.1, (hH3.2.2.2.2).trans (onl_below13 hb)⟩
        clear hK K
        try simp only [apt12]
        clear hb hm2 ho2
        refine tkI 24 ⟨some 27, .extract (.tmp 26) 0, 24, "prim.go:179", #[⟨23, .data⟩], none⟩ ?v238 rfl (by kernel_rfl) (by rfl) ?y238 ?_
        case y238 => intro w hSw; (try dsimp only at hSw); go_simp; all_goals with_reducible rfl
        try simp only [apt12]
        refine tkI 25 ⟨some 28, .extract (.tmp 26) 1, 30, "prim.go:179", #[⟨23, .data⟩], none⟩ ?v239 rfl (by kernel_rfl) (by rfl) ?y239 ?_
        case y239 => intro w hSw; (try dsimp only at hSw); go_simp; all_goals with_reducible rfl
        try simp only [apt12]
        refine wpAnyH_ready (rs := [26]) (by kernel_rfl) (by simp) ?_
        refine AllReadyH.cons (i := 26) (o := ⟨some 29, .call { callee := .value (.func 132), args := #[.tmp 3, .tmp 27, .tmp 28], argTypes := #[70, 24, 30] }, 0, "prim.go:179", #[⟨0, .data⟩, ⟨24, .data⟩, ⟨25, .data⟩, ⟨23, .chain⟩], none⟩) rfl (fun K hK => ?_) AllReadyH.nil
        go_simp
        go_at_call 132
        refine (change_ok13 b w.heap.size g A2 c2 _ BX.out FO.out).mono ?_
        rintro e u5 ⟨rfl, k1, k2, k3⟩
        have K1 := hid k1
        have K2 := hid k2
        refine hK.out _ _ ?_ (fun hH5 => ?_)
        · exact ⟨k1.cell 3, k1.cell 4, k3.cell (hH4.2.2.1) (fun e => by injection e with e; exact HPB.out e), k3.cell (hH4.2.2.2.1) (fun e => by injection e with e; exact HPB.out e), (hH4.2.2.2.2).trans k3⟩
        clear hK K
        try simp only [apt12]
        clear k1 k2 k3
        refine wpAnyH_done (by kernel_rfl) ?_ _
        have y3 := hH5.1
        have y4 := hH5.2.1
        have y5 := hH5.2.2.2.1
        have KN := hid (hH5.2.2.2.2)
        go_wp2_with fail
        go_ret
        exact pr_ok13 KN.out (by simp) K1.out K2.out
  have G130 : Hid (go13 en = 130) := G30.out.resolve_left he
  go_enter Tryz.func118, Tryz.ntmps118
  go_upto_region 1 with fail
  refine wp_region_held_drew (S := (fun w' => w'.cell? ⟨b, 3, none⟩ = some (.int .i64 s) ∧ w'.cell? ⟨b, 4, none⟩ = some (.slice (some ⟨p, o, none⟩) args.length da) ∧ w'.cell? ⟨p, o, none⟩ = some (.int .i64 a0) ∧ w'.cell? ⟨p, o + 1, none⟩ = some (.int .i64 a1) ∧ Onl13 b w w')) (by kernel_rfl) ?_ (fun hH0 => ?_)
  · exact ⟨cell_later (Below.refl w.heap.size w).drew x3, cell_later (Below.refl w.heap.size w).drew x4, cell_later (Below.refl w.heap.size w).drew q0, cell_later (Below.refl w.heap.size w).drew q1, onl_below13 (Below.refl _ _).drew⟩
  refine tkI 0 ⟨some 3, .move (.tmp 0), 70, "prim.go:179", #[], none⟩ ?v240 rfl (by kernel_rfl) (by rfl) ?y240 ?_
  case y240 => intro w hSw; (try dsimp only at hSw); go_simp; all_goals with_reducible rfl
  try simp only [apt12]
  refine tkI 1 ⟨some 4, .move (.tmp 0), 70, "prim.go:179", #[], none⟩ ?v241 rfl (by kernel_rfl) (by rfl) ?y241 ?_
  case y241 => intro w hSw; (try dsimp only at hSw); go_simp; all_goals with_reducible rfl
  try simp only [apt12]
  refine tkI 2 ⟨some 5, .nilCheck (.tmp 4), 0, "prim.go:179", #[⟨1, .data⟩], none⟩ ?v242 rfl (by kernel_rfl) (by rfl) ?y242 ?_
  case y242 => intro w hSw; (try dsimp only at hSw); go_simp; all_goals with_reducible rfl
  try simp only [apt12]
  refine tkI 3 ⟨some 6, .fieldAddr 49 (.tmp 5) 0, 0, "prim.go:179", #[⟨2, .data⟩], none⟩ ?v243 rfl (by kernel_rfl) (by rfl) ?y243 ?_
  case y243 => intro w hSw; (try dsimp only at hSw); go_simp; all_goals with_reducible rfl
  try simp only [apt12]
  refine tkI 5 ⟨some 8, .move (.tmp 0), 70, "prim.go:179", #[], none⟩ ?v244 rfl (by kernel_rfl) (by rfl) ?y244 ?_
  case y244 => intro w hSw; (try dsimp only at hSw); go_simp; all_goals with_reducible rfl
  try simp only [apt12]
  refine tkI 6 ⟨some 9, .nilCheck (.tmp 8), 0, "prim.go:179", #[⟨5, .data⟩], none⟩ ?v245 rfl (by kernel_rfl) (by rfl) ?y245 ?_
  case y245 => intro w hSw; (try dsimp only at hSw); go_simp; all_goals with_reducible rfl
  try simp only [apt12]
  refine tkI 7 ⟨some 10, .fieldAddr 49 (.tmp 9) 1, 0, "prim.go:179", #[⟨6, .data⟩], none⟩ ?v246 rfl (by kernel_rfl) (by rfl) ?y246 ?_
  case y246 => intro w hSw; (try dsimp only at hSw); go_simp; all_goals with_reducible rfl
  try simp only [apt12]
  refine tkI 8 ⟨some 11, .load 3 (.tmp 10), 3, "prim.go:179", #[⟨7, .data⟩], none⟩ ?v247 rfl (by kernel_rfl) (by rfl) ?y247 ?_
  case y247 => intro w hSw; (try dsimp only at hSw); go_simp; all_goals with_reducible rfl
  try simp only [apt12]
  refine tkI 9 ⟨some 12, .move (.tmp 0), 70, "prim.go:179", #[], none⟩ ?v248 rfl (by kernel_rfl) (by rfl) ?y248 ?_
  case y248 => intro w hSw; (try dsimp only at hSw); go_simp; all_goals with_reducible rfl
  try simp only [apt12]
  refine tkI 10 ⟨some 13, .nilCheck (.tmp 12), 0, "prim.go:179", #[⟨9, .data⟩], none⟩ ?v249 rfl (by kernel_rfl) (by rfl) ?y249 ?_
  case y249 => intro w hSw; (try dsimp only at hSw); go_simp; all_goals with_reducible rfl
  try simp only [apt12]
  refine tkI 11 ⟨some 14, .fieldAddr 49 (.tmp 13) 2, 0, "prim.go:179", #[⟨10, .data⟩], none⟩ ?v250 rfl (by kernel_rfl) (by rfl) ?y250 ?_
  case y250 => intro w hSw; (try dsimp only at hSw); go_simp; all_goals with_reducible rfl
  try simp only [apt12]
  refine tkI 12 ⟨some 15, .load 25 (.tmp 14), 25, "prim.go:179", #[⟨11, .data⟩], none⟩ ?v251 rfl (by kernel_rfl) (by rfl) ?y251 ?_
  case y251 => intro w hSw; (try dsimp only at hSw); go_simp; all_goals with_reducible rfl
  try simp only [apt12]
  refine tkI 13 ⟨some 16, .indexAddr 25 (.tmp 15) (.const (Go.Value.int .i64 0)), 0, "prim.go:179", #[⟨12, .data⟩], none⟩ ?v252 rfl (by kernel_rfl) (by rfl) ?y252 ?_
  case y252 => intro w hSw; (try dsimp only at hSw); go_simp; all_goals with_reducible rfl
  try simp only [apt12]
  refine tkI 14 ⟨some 17, .load 3 (.tmp 16), 3, "prim.go:179", #[⟨13, .data⟩], none⟩ ?v253 rfl (by kernel_rfl) (by rfl) ?y253 ?_
  case y253 => intro w hSw; (try dsimp only at hSw); go_simp; all_goals with_reducible rfl
  try simp only [apt12]
  refine tkI 16 ⟨some 19, .move (.tmp 0), 70, "prim.go:179", #[], none⟩ ?v254 rfl (by kernel_rfl) (by rfl) ?y254 ?_
  case y254 => intro w hSw; (try dsimp only at hSw); go_simp; all_goals with_reducible rfl
  try simp only [apt12]
  refine tkI 17 ⟨some 20, .nilCheck (.tmp 19), 0, "prim.go:179", #[⟨16, .data⟩], none⟩ ?v255 rfl (by kernel_rfl) (by rfl) ?y255 ?_
  case y255 => intro w hSw; (try dsimp only at hSw); go_simp; all_goals with_reducible rfl
  try simp only [apt12]
  refine tkI 18 ⟨some 21, .fieldAddr 49 (.tmp 20) 2, 0, "prim.go:179", #[⟨17, .data⟩], none⟩ ?v256 rfl (by kernel_rfl) (by rfl) ?y256 ?_
  case y256 => intro w hSw; (try dsimp only at hSw); go_simp; all_goals with_reducible rfl
  try simp only [apt12]
  refine tkI 19 ⟨some 22, .load 25 (.tmp 21), 25, "prim.go:179", #[⟨18, .data⟩], none⟩ ?v257 rfl (by kernel_rfl) (by rfl) ?y257 ?_
  case y257 => intro w hSw; (try dsimp only at hSw); go_simp; all_goals with_reducible rfl
  try simp only [apt12]
  refine tkI 20 ⟨some 23, .indexAddr 25 (.tmp 22) (.const (Go.Value.int .i64 1)), 0, "prim.go:179", #[⟨19, .data⟩], none⟩ ?v258 rfl (by kernel_rfl) (by rfl) ?y258 ?_
  case y258 => intro w hSw; (try dsimp only at hSw); go_simp; all_goals with_reducible rfl
  try simp only [apt12]
  refine tkI 21 ⟨some 24, .load 3 (.tmp 23), 3, "prim.go:179", #[⟨20, .data⟩], none⟩ ?v259 rfl (by kernel_rfl) (by rfl) ?y259 ?_
  case y259 => intro w hSw; (try dsimp only at hSw); go_simp; all_goals with_reducible rfl
  try simp only [apt12]
  refine wpAnyH_ready (rs := [4, 15]) (by kernel_rfl) (by simp) ?_
  refine AllReadyH.cons (i := 4) (o := ⟨some 7, .load 24 (.tmp 6), 24, "prim.go:179", #[⟨3, .data⟩], none⟩) rfl (fun K hK => ?_) (AllReadyH.cons (i := 15) (o := ⟨some 18, .call { callee := .value (.func 131), args := #[.tmp 17], argTypes := #[3] }, 3, "prim.go:179", #[⟨14, .data⟩], none⟩) rfl (fun K hK => ?_) AllReadyH.nil)
  · have z0 := cell_later (Below.refl w.heap.size w).drew x0
    have z1 := cell_later (Below.refl w.heap.size w).drew x1
    have z2 := cell_later (Below.refl w.heap.size w).drew x2
    go_simp
    refine hK.out _ _ ?_ (fun hH1 => ?_)
    · exact hH0
    clear hK K
    try simp only [apt12]
    clear z0 z1 z2
    refine wpAnyH_ready (rs := [15]) (by kernel_rfl) (by simp) ?_
    refine AllReadyH.cons (i := 15) (o := ⟨some 18, .call { callee := .value (.func 131), args := #[.tmp 17], argTypes := #[3] }, 3, "prim.go:179", #[⟨14, .data⟩], none⟩) rfl (fun K hK => ?_) AllReadyH.nil
    go_simp
    go_at_call 131
    refine (place_ok13 ha _).mono ?_
    rintro e u2 ⟨rfl, rfl⟩
    refine hK.out _ _ ?_ (fun hH2 => ?_)
    · exact hH1
    clear hK K
    try simp only [apt12]
    refine wpAnyH_ready (rs := [22]) (by kernel_rfl) (by simp) ?_
    refine AllReadyH.cons (i := 22) (o := ⟨some 25, .call { callee := .value (.func 127), args := #[.tmp 24], argTypes := #[3] }, 3, "prim.go:179", #[⟨21, .data⟩, ⟨15, .chain⟩], none⟩) rfl (fun K hK => ?_) AllReadyH.nil
    go_simp
    go_at_call 127
    refine (num_ok13 hq _).mono ?_
    rintro e u3 ⟨rfl, rfl⟩
    refine hK.out _ _ ?_ (fun hH3 => ?_)
    · exact hH2
    clear hK K
    try simp only [apt12]
    refine wpAnyH_ready (rs := [23]) (by kernel_rfl) (by simp) ?_
    refine AllReadyH.cons (i := 23) (o := ⟨some 26, .call { callee := .value (.func 149), args := #[.tmp 7, .tmp 11, .tmp 18, .tmp 25], argTypes := #[24, 3, 3, 3] }, 76, "prim.go:179", #[⟨4, .data⟩, ⟨8, .data⟩, ⟨15, .data⟩, ⟨22, .data⟩, ⟨22, .chain⟩], none⟩) rfl (fun K hK => ?_) AllReadyH.nil
    go_simp
    go_at_call 149
    refine (setbyte_any h s (nV a0 - 1) (nV a1) A c _ (HI.out.own.obs.below (Below.refl w.heap.size w).drew) HI.out.fit).mono ?_
    rintro e u4 ⟨A2, c2, l2, rfl, hm2, ho2, hb⟩
    rw [← HG.out] at hm2
    rw [← HG.out, ← EN.out]
    have HBS : Hid (Below w.heap.size w u4) := hid (then_w (Below.refl w.heap.size w).drew hb)
    have FO : Hid (Fr13 u4 w.heap.size A2 c2 g.objs) := hid ⟨l2, ho2, hm2⟩
    have BX : Hid (CL13 u4 b h A c s args.length (some ⟨p, o, none⟩) da) := hid (HI.out.box.later HBS.out)
    refine hK.out _ _ ?_ (fun hH4 => ?_)
    · exact ⟨cell_later hb hH3.1, cell_later hb hH3.2.1, cell_later hb hH3.2.2.1, cell_later hb hH3.2.2.2.1, (hH3.2.2.2.2).trans (onl_below13 hb)⟩
    clear hK K
    try simp only [apt12]
    clear hb hm2 ho2
    refine tkI 24 ⟨some 27, .extract (.tmp 26) 0, 24, "prim.go:179", #[⟨23, .data⟩], none⟩ ?v260 rfl (by kernel_rfl) (by rfl) ?y260 ?_
    case y260 => intro w hSw; (try dsimp only at hSw); go_simp; all_goals with_reducible rfl
    try simp only [apt12]
    refine tkI 25 ⟨some 28, .extract (.tmp 26) 1, 30, "prim.go:179", #[⟨23, .data⟩], none⟩ ?v261 rfl (by kernel_rfl) (by rfl) ?y261 ?_
    case y261 => intro w hSw; (try dsimp only at hSw); go_simp; all_goals with_reducible rfl
    try simp only [apt12]
    refine wpAnyH_ready (rs := [26]) (by kernel_rfl) (by simp) ?_
    refine AllReadyH.cons (i := 26) (o := ⟨some 29, .call { callee := .value (.func 132), args := #[.tmp 3, .tmp 27, .tmp 28], argTypes := #[70, 24, 30] }, 0, "prim.go:179", #[⟨0, .data⟩, ⟨24, .data⟩, ⟨25, .data⟩, ⟨23, .chain⟩], none⟩) rfl (fun K hK => ?_) AllReadyH.nil
    go_simp
    go_at_call 132
    refine (change_no13 b g A2 c2 he _).mono ?_
    rintro e u9 ⟨rfl, hb⟩
    rw [G130.out]
    exact ⟨rfl, pr_stop13 (then_w HBS.out hb) (by simp [he, fa13]) (by decide)⟩
  · go_simp
    go_at_call 131
    refine (place_ok13 ha _).mono ?_
    rintro e u1 ⟨rfl, rfl⟩
    refine hK.out _ _ ?_ (fun hH1 => ?_)
    · exact hH0
    clear hK K
    try simp only [apt12]
    refine wpAnyH_ready (rs := [4, 22]) (by kernel_rfl) (by simp) ?_
    refine AllReadyH.cons (i := 4) (o := ⟨some 7, .load 24 (.tmp 6), 24, "prim.go:179", #[⟨3, .data⟩], none⟩) rfl (fun K hK => ?_) (AllReadyH.cons (i := 22) (o := ⟨some 25, .call { callee := .value (.func 127), args := #[.tmp 24], argTypes := #[3] }, 3, "prim.go:179", #[⟨21, .data⟩, ⟨15, .chain⟩], none⟩) rfl (fun K hK => ?_) AllReadyH.nil)
    · have z0 := cell_later (Below.refl w.heap.size w).drew x0
      have z1 := cell_later (Below.refl w.heap.size w).drew x1
      have z2 := cell_later (Below.refl w.heap.size w).drew x2
      go_simp
      refine hK.out _ _ ?_ (fun hH2 => ?_)
      · exact hH1
      clear hK K
      try simp only [apt12]
      clear z0 z1 z2
      refine wpAnyH_ready (rs := [22]) (by kernel_rfl) (by simp) ?_
      refine AllReadyH.cons (i := 22) (o := ⟨some 25, .call { callee := .value (.func 127), args := #[.tmp 24], argTypes := #[3] }, 3, "prim.go:179", #[⟨21, .data⟩, ⟨15, .chain⟩], none⟩) rfl (fun K hK => ?_) AllReadyH.nil
      go_simp
      go_at_call 127
      refine (num_ok13 hq _).mono ?_
      rintro e u3 ⟨rfl, rfl⟩
      refine hK.out _ _ ?_ (fun hH3 => ?_)
      · exact hH2
      clear hK K
      try simp only [apt12]
      refine wpAnyH_ready (rs := [23]) (by kernel_rfl) (by simp) ?_
      refine AllReadyH.cons (i := 23) (o := ⟨some 26, .call { callee := .value (.func 149), args := #[.tmp 7, .tmp 11, .tmp 18, .tmp 25], argTypes := #[24, 3, 3, 3] }, 76, "prim.go:179", #[⟨4, .data⟩, ⟨8, .data⟩, ⟨15, .data⟩, ⟨22, .data⟩, ⟨22, .chain⟩], none⟩) rfl (fun K hK => ?_) AllReadyH.nil
      go_simp
      go_at_call 149
      refine (setbyte_any h s (nV a0 - 1) (nV a1) A c _ (HI.out.own.obs.below (Below.refl w.heap.size w).drew) HI.out.fit).mono ?_
      rintro e u4 ⟨A2, c2, l2, rfl, hm2, ho2, hb⟩
      rw [← HG.out] at hm2
      rw [← HG.out, ← EN.out]
      have HBS : Hid (Below w.heap.size w u4) := hid (then_w (Below.refl w.heap.size w).drew hb)
      have FO : Hid (Fr13 u4 w.heap.size A2 c2 g.objs) := hid ⟨l2, ho2, hm2⟩
      have BX : Hid (CL13 u4 b h A c s args.length (some ⟨p, o, none⟩) da) := hid (HI.out.box.later HBS.out)
      refine hK.out _ _ ?_ (fun hH4 => ?_)
      · exact ⟨cell_later hb hH3.1, cell_later hb hH3.2.1, cell_later hb hH3.2.2.1, cell_later hb hH3.2.2.2.1, (hH3.2.2.2.2).trans (onl_below13 hb)⟩
      clear hK K
      try simp only [apt12]
      clear hb hm2 ho2
      refine tkI 24 ⟨some 27, .extract (.tmp 26) 0, 24, "prim.go:179", #[⟨23, .data⟩], none⟩ ?v262 rfl (by kernel_rfl) (by rfl) ?y262 ?_
      case y262 => intro w hSw; (try dsimp only at hSw); go_simp; all_goals with_reducible rfl
      try simp only [apt12]
      refine tkI 25 ⟨some 28, .extract (.tmp 26) 1, 30, "prim.go:179", #[⟨23, .data⟩], none⟩ ?v263 rfl (by kernel_rfl) (by rfl) ?y263 ?_
      case y263 => intro w hSw; (try dsimp only at hSw); go_simp; all_goals with_reducible rfl
      try simp only [apt12]
      refine wpAnyH_ready (rs := [26]) (by kernel_rfl) (by simp) ?_
      refine AllReadyH.cons (i := 26) (o := ⟨some 29, .call { callee := .value (.func 132), args := #[.tmp 3, .tmp 27, .tmp 28], argTypes := #[70, 24, 30] }, 0, "prim.go:179", #[⟨0, .data⟩, ⟨24, .data⟩, ⟨25, .data⟩, ⟨23, .chain⟩], none⟩) rfl (fun K hK => ?_) AllReadyH.nil
      go_simp
      go_at_call 132
      refine (change_no13 b g A2 c2 he _).mono ?_
      rintro e u9 ⟨rfl, hb⟩
      rw [G130.out]
      exact ⟨rfl, pr_stop13 (then_w HBS.out hb) (by simp [he, fa13]) (by decide)⟩
    · go_simp
      go_at_call 127
      refine (num_ok13 hq _).mono ?_
      rintro e u2 ⟨rfl, rfl⟩
      refine hK.out _ _ ?_ (fun hH2 => ?_)
      · exact hH1
      clear hK K
      try simp only [apt12]
      refine wpAnyH_ready (rs := [4]) (by kernel_rfl) (by simp) ?_
      refine AllReadyH.cons (i := 4) (o := ⟨some 7, .load 24 (.tmp 6), 24, "prim.go:179", #[⟨3, .data⟩], none⟩) rfl (fun K hK => ?_) AllReadyH.nil
      have z0 := cell_later (Below.refl w.heap.size w).drew x0
      have z1 := cell_later (Below.refl w.heap.size w).drew x1
      have z2 := cell_later (Below.refl w.heap.size w).drew x2
      go_simp
      refine hK.out _ _ ?_ (fun hH3 => ?_)
      · exact hH2
      clear hK K
      try simp only [apt12]
      clear z0 z1 z2
      refine wpAnyH_ready (rs := [23]) (by kernel_rfl) (by simp) ?_
      refine AllReadyH.cons (i := 23) (o := ⟨some 26, .call { callee := .value (.func 149), args := #[.tmp 7, .tmp 11, .tmp 18, .tmp 25], argTypes := #[24, 3, 3, 3] }, 76, "prim.go:179", #[⟨4, .data⟩, ⟨8, .data⟩, ⟨15, .data⟩, ⟨22, .data⟩, ⟨22, .chain⟩], none⟩) rfl (fun K hK => ?_) AllReadyH.nil
      go_simp
      go_at_call 149
      refine (setbyte_any h s (nV a0 - 1) (nV a1) A c _ (HI.out.own.obs.below (Below.refl w.heap.size w).drew) HI.out.fit).mono ?_
      rintro e u4 ⟨A2, c2, l2, rfl, hm2, ho2, hb⟩
      rw [← HG.out] at hm2
      rw [← HG.out, ← EN.out]
      have HBS : Hid (Below w.heap.size w u4) := hid (then_w (Below.refl w.heap.size w).drew hb)
      have FO : Hid (Fr13 u4 w.heap.size A2 c2 g.objs) := hid ⟨l2, ho2, hm2⟩
      have BX : Hid (CL13 u4 b h A c s args.length (some ⟨p, o, none⟩) da) := hid (HI.out.box.later HBS.out)
      refine hK.out _ _ ?_ (fun hH4 => ?_)
      · exact ⟨cell_later hb hH3.1, cell_later hb hH3.2.1, cell_later hb hH3.2.2.1, cell_later hb hH3.2.2.2.1, (hH3.2.2.2.2).trans (onl_below13 hb)⟩
      clear hK K
      try simp only [apt12]
      clear hb hm2 ho2
      refine tkI 24 ⟨some 27, .extract (.tmp 26) 0, 24, "prim.go:179", #[⟨23, .data⟩], none⟩ ?v264 rfl (by kernel_rfl) (by rfl) ?y264 ?_
      case y264 => intro w hSw; (try dsimp only at hSw); go_simp; all_goals with_reducible rfl
      try simp only [apt12]
      refine tkI 25 ⟨some 28, .extract (.tmp 26) 1, 30, "prim.go:179", #[⟨23, .data⟩], none⟩ ?v265 rfl (by kernel_rfl) (by rfl) ?y265 ?_
      case y265 => intro w hSw; (try dsimp only at hSw); go_simp; all_goals with_reducible rfl
      try simp only [apt12]
      refine wpAnyH_ready (rs := [26]) (by kernel_rfl) (by simp) ?_
      refine AllReadyH.cons (i := 26) (o := ⟨some 29, .call { callee := .value (.func 132), args := #[.tmp 3, .tmp 27, .tmp 28], argTypes := #[70, 24, 30] }, 0, "prim.go:179", #[⟨0, .data⟩, ⟨24, .data⟩, ⟨25, .data⟩, ⟨23, .chain⟩], none⟩) rfl (fun K hK => ?_) AllReadyH.nil
      go_simp
      go_at_call 132
      refine (change_no13 b g A2 c2 he _).mono ?_
      rintro e u9 ⟨rfl, hb⟩
      rw [G130.out]
      exact ⟨rfl, pr_stop13 (then_w HBS.out hb) (by simp [he, fa13]) (by decide)⟩
theorem has_at13 {n : Nat} {v : Int} (h : hasB n v = true) (e : atB v = true) : refB n v = true := by
  have hn : nB v = false := by
    cases hn : nB v
    · rfl
    · have h1 := nB_iff.1 hn
      have h2 := atB_iff.1 e
      omega
  unfold hasB at h
  rw [hn, Bool.false_or] at h
  exact h
set_option maxHeartbeats 1000000 in
theorem become_any13 (b base : Nat) (h : Hp) (A : Option Addr) (c : Nat) (s : Int) (args : List Int) (SA : Option Addr) (da : Nat) (w : World) (I : In13 w b base h A c s args SA da) (hn : 0 < args.length) :
    Calls Tryz.prog 110 #[.pointer (some ⟨b, 0, none⟩)] w (Po13 w b h A c s args.length SA da (if atB s = false ∨ atV s < 12 ∨ atB (args.getD 0 0) = false ∨ atV (args.getD 0 0) < 12 then fa13 h else (beR h s (args.getD 0 0), s, 0))) := by
  obtain ⟨a0, ha0⟩ : ∃ a, a = args.getD 0 0 := ⟨_, rfl⟩
  rw [← ha0]
  have HI := hid I
  have HLA := hid (fun k => has_arg13 I.hall (k := k))
  obtain ⟨p, o, hSA, q0, hpb⟩ := I.arg (k := 0) (by omega)
  subst hSA
  rw [← ha0] at q0
  simp only [Nat.add_zero] at q0
  have hn0 : 0 < args.length := by omega
  have hn0I : (0 : Int) < (args.length : Int) := by omega
  have HPB := hid hpb
  obtain ⟨x0, x1, x2, x3, x4⟩ := I.box.c5
  have HA0 := hid ha0
  clear I hpb ha0
  cases hs : atB s
  · go_enter Tryz.func110, Tryz.ntmps110
    go_wp2_with (go_at_call 139; refine (at_no13 hs _).mono ?_; rintro e w9 ⟨rfl, rfl⟩)
    exact ⟨rfl, pr_stop13 (Below.refl _ _) (by first | rfl | simp [fa13]) (by decide)⟩
  by_cases hs2 : atV s < 12
  · go_enter Tryz.func110, Tryz.ntmps110
    go_wp2_with (first | (go_at_call 139; refine (at_ok13 hs _).mono ?_; rintro e w9 ⟨rfl, rfl⟩) | (go_at_call 51; refine (fail_any13 _).mono ?_; rintro e w9 ⟨rfl, rfl⟩))
    exact ⟨rfl, pr_stop13 (Below.refl _ _) (by first | rfl | simp [fa13, hs2]) (by decide)⟩
  cases ha : atB a0
  · go_enter Tryz.func110, Tryz.ntmps110
    go_upto_region 3 with (first | (go_at_call 139; (first | with_reducible refine (at_ok13 hs _).mono ?_ | with_reducible refine (at_no13 ha _).mono ?_); rintro e w9 ⟨rfl, rfl⟩) | (go_at_call 51; refine (fail_any13 _).mono ?_; rintro e w9 ⟨rfl, rfl⟩))
    exact ⟨rfl, pr_stop13 (Below.refl _ _) (by first | rfl | simp [fa13]) (by decide)⟩
  by_cases ha2 : atV a0 < 12
  · go_enter Tryz.func110, Tryz.ntmps110
    go_wp2_with (first | (go_at_call 139; (first | with_reducible refine (at_ok13 hs _).mono ?_ | with_reducible refine (at_ok13 ha _).mono ?_); rintro e w9 ⟨rfl, rfl⟩) | (go_at_call 51; refine (fail_any13 _).mono ?_; rintro e w9 ⟨rfl, rfl⟩))
    exact ⟨rfl, pr_stop13 (Below.refl _ _) (by first | rfl | simp [fa13, ha2]) (by decide)⟩
  have he0 : beE h s a0 = 0 := by
    unfold beE
    rw [if_neg (by rw [HI.out.may]; decide), if_neg]
    rw [has_at13 HI.out.has hs, has_at13 (by rw [HA0.out]; exact HLA.out 0 hn0) ha]
    simp
  obtain ⟨g, hg⟩ : ∃ e, e = beR h s a0 := ⟨_, rfl⟩
  rw [← hg]
  have EN : Hid ((0 : Int) = beE h s a0) := hid he0.symm
  have HG := hid hg
  clear hg he0
  have hd1 : decide (atV s < 12) = false := decide_eq_false hs2
  have hd2 : decide (atV a0 < 12) = false := decide_eq_false ha2
  go_enter Tryz.func110, Tryz.ntmps110
  go_upto_region 3 with (go_at_call 139; (first | with_reducible refine (at_ok13 hs _).mono ?_ | with_reducible refine (at_ok13 ha _).mono ?_); rintro e w9 ⟨rfl, rfl⟩)
  refine wp_region_held_drew (S := (fun w' => w'.cell? ⟨b, 3, none⟩ = some (.int .i64 s) ∧ w'.cell? ⟨b, 4, none⟩ = some (.slice (some ⟨p, o, none⟩) args.length da) ∧ w'.cell? ⟨p, o, none⟩ = some (.int .i64 a0) ∧ Onl13 b w w')) (by kernel_rfl) ?_ (fun hH0 => ?_)
  · exact ⟨cell_later (Below.refl w.heap.size w).drew x3, cell_later (Below.refl w.heap.size w).drew x4, cell_later (Below.refl w.heap.size w).drew q0, onl_below13 (Below.refl _ _).drew⟩
  refine tkI 0 ⟨some 20, .move (.tmp 0), 70, "prim.go:211", #[], none⟩ ?v266 rfl (by kernel_rfl) (by rfl) ?y266 ?_
  case y266 => intro w hSw; (try dsimp only at hSw); go_simp; all_goals with_reducible rfl
  try simp only [apt12]
  refine tkI 1 ⟨some 21, .move (.tmp 0), 70, "prim.go:211", #[], none⟩ ?v267 rfl (by kernel_rfl) (by rfl) ?y267 ?_
  case y267 => intro w hSw; (try dsimp only at hSw); go_simp; all_goals with_reducible rfl
  try simp only [apt12]
  refine tkI 2 ⟨some 22, .nilCheck (.tmp 21), 0, "prim.go:211", #[⟨1, .data⟩], none⟩ ?v268 rfl (by kernel_rfl) (by rfl) ?y268 ?_
  case y268 => intro w hSw; (try dsimp only at hSw); go_simp; all_goals with_reducible rfl
  try simp only [apt12]
  refine tkI 3 ⟨some 23, .fieldAddr 49 (.tmp 22) 0, 0, "prim.go:211", #[⟨2, .data⟩], none⟩ ?v269 rfl (by kernel_rfl) (by rfl) ?y269 ?_
  case y269 => intro w hSw; (try dsimp only at hSw); go_simp; all_goals with_reducible rfl
  try simp only [apt12]
  refine tkI 5 ⟨some 25, .move (.tmp 0), 70, "prim.go:211", #[], none⟩ ?v270 rfl (by kernel_rfl) (by rfl) ?y270 ?_
  case y270 => intro w hSw; (try dsimp only at hSw); go_simp; all_goals with_reducible rfl
  try simp only [apt12]
  refine tkI 6 ⟨some 26, .nilCheck (.tmp 25), 0, "prim.go:211", #[⟨5, .data⟩], none⟩ ?v271 rfl (by kernel_rfl) (by rfl) ?y271 ?_
  case y271 => intro w hSw; (try dsimp only at hSw); go_simp; all_goals with_reducible rfl
  try simp only [apt12]
  refine tkI 7 ⟨some 27, .fieldAddr 49 (.tmp 26) 1, 0, "prim.go:211", #[⟨6, .data⟩], none⟩ ?v272 rfl (by kernel_rfl) (by rfl) ?y272 ?_
  case y272 => intro w hSw; (try dsimp only at hSw); go_simp; all_goals with_reducible rfl
  try simp only [apt12]
  refine tkI 8 ⟨some 28, .load 3 (.tmp 27), 3, "prim.go:211", #[⟨7, .data⟩], none⟩ ?v273 rfl (by kernel_rfl) (by rfl) ?y273 ?_
  case y273 => intro w hSw; (try dsimp only at hSw); go_simp; all_goals with_reducible rfl
  try simp only [apt12]
  refine tkI 9 ⟨some 29, .move (.tmp 0), 70, "prim.go:211", #[], none⟩ ?v274 rfl (by kernel_rfl) (by rfl) ?y274 ?_
  case y274 => intro w hSw; (try dsimp only at hSw); go_simp; all_goals with_reducible rfl
  try simp only [apt12]
  refine tkI 10 ⟨some 30, .nilCheck (.tmp 29), 0, "prim.go:211", #[⟨9, .data⟩], none⟩ ?v275 rfl (by kernel_rfl) (by rfl) ?y275 ?_
  case y275 => intro w hSw; (try dsimp only at hSw); go_simp; all_goals with_reducible rfl
  try simp only [apt12]
  refine tkI 11 ⟨some 31, .fieldAddr 49 (.tmp 30) 2, 0, "prim.go:211", #[⟨10, .data⟩], none⟩ ?v276 rfl (by kernel_rfl) (by rfl) ?y276 ?_
  case y276 => intro w hSw; (try dsimp only at hSw); go_simp; all_goals with_reducible rfl
  try simp only [apt12]
  refine tkI 12 ⟨some 32, .load 25 (.tmp 31), 25, "prim.go:211", #[⟨11, .data⟩], none⟩ ?v277 rfl (by kernel_rfl) (by rfl) ?y277 ?_
  case y277 => intro w hSw; (try dsimp only at hSw); go_simp; all_goals with_reducible rfl
  try simp only [apt12]
  refine tkI 13 ⟨some 33, .indexAddr 25 (.tmp 32) (.const (Go.Value.int .i64 0)), 0, "prim.go:211", #[⟨12, .data⟩], none⟩ ?v278 rfl (by kernel_rfl) (by rfl) ?y278 ?_
  case y278 => intro w hSw; (try dsimp only at hSw); go_simp; all_goals with_reducible rfl
  try simp only [apt12]
  refine tkI 14 ⟨some 34, .load 3 (.tmp 33), 3, "prim.go:211", #[⟨13, .data⟩], none⟩ ?v279 rfl (by kernel_rfl) (by rfl) ?y279 ?_
  case y279 => intro w hSw; (try dsimp only at hSw); go_simp; all_goals with_reducible rfl
  try simp only [apt12]
  refine wpAnyH_ready (rs := [4]) (by kernel_rfl) (by simp) ?_
  refine AllReadyH.cons (i := 4) (o := ⟨some 24, .load 24 (.tmp 23), 24, "prim.go:211", #[⟨3, .data⟩], none⟩) rfl (fun K hK => ?_) AllReadyH.nil
  have z0 := cell_later (Below.refl w.heap.size w).drew x0
  have z1 := cell_later (Below.refl w.heap.size w).drew x1
  have z2 := cell_later (Below.refl w.heap.size w).drew x2
  go_simp
  refine hK.out _ _ ?_ (fun hH1 => ?_)
  · exact hH0
  clear hK K
  try simp only [apt12]
  clear z0 z1 z2
  refine wpAnyH_ready (rs := [15]) (by kernel_rfl) (by simp) ?_
  refine AllReadyH.cons (i := 15) (o := ⟨some 35, .call { callee := .value (.func 140), args := #[.tmp 24, .tmp 28, .tmp 34], argTypes := #[24, 3, 3] }, 76, "prim.go:211", #[⟨4, .data⟩, ⟨8, .data⟩, ⟨14, .data⟩], none⟩) rfl (fun K hK => ?_) AllReadyH.nil
  go_simp
  go_at_call 140
  refine (become_any h s a0 A c _ (HI.out.own.obs.below (Below.refl w.heap.size w).drew) HI.out.fit).mono ?_
  rintro e u2 ⟨A2, c2, l2, rfl, hm2, ho2, hb⟩
  rw [← HG.out] at hm2
  rw [← HG.out, ← EN.out]
  have HBS : Hid (Below w.heap.size w u2) := hid (then_w (Below.refl w.heap.size w).drew hb)
  have FO : Hid (Fr13 u2 w.heap.size A2 c2 g.objs) := hid ⟨l2, ho2, hm2⟩
  have BX : Hid (CL13 u2 b h A c s args.length (some ⟨p, o, none⟩) da) := hid (HI.out.box.later HBS.out)
  refine hK.out _ _ ?_ (fun hH2 => ?_)
  · exact ⟨cell_later hb hH1.1, cell_later hb hH1.2.1, cell_later hb hH1.2.2.1, (hH1.2.2.2).trans (onl_below13 hb)⟩
  clear hK K
  try simp only [apt12]
  clear hb hm2 ho2
  refine tkI 16 ⟨some 36, .extract (.tmp 35) 0, 24, "prim.go:211", #[⟨15, .data⟩], none⟩ ?v280 rfl (by kernel_rfl) (by rfl) ?y280 ?_
  case y280 => intro w hSw; (try dsimp only at hSw); go_simp; all_goals with_reducible rfl
  try simp only [apt12]
  refine tkI 17 ⟨some 37, .extract (.tmp 35) 1, 30, "prim.go:211", #[⟨15, .data⟩], none⟩ ?v281 rfl (by kernel_rfl) (by rfl) ?y281 ?_
  case y281 => intro w hSw; (try dsimp only at hSw); go_simp; all_goals with_reducible rfl
  try simp only [apt12]
  refine wpAnyH_ready (rs := [18]) (by kernel_rfl) (by simp) ?_
  refine AllReadyH.cons (i := 18) (o := ⟨some 38, .call { callee := .value (.func 132), args := #[.tmp 20, .tmp 36, .tmp 37], argTypes := #[70, 24, 30] }, 0, "prim.go:211", #[⟨0, .data⟩, ⟨16, .data⟩, ⟨17, .data⟩, ⟨15, .chain⟩], none⟩) rfl (fun K hK => ?_) AllReadyH.nil
  go_simp
  go_at_call 132
  refine (change_ok13 b w.heap.size g A2 c2 _ BX.out FO.out).mono ?_
  rintro e u3 ⟨rfl, k1, k2, k3⟩
  have K1 := hid k1
  have K2 := hid k2
  refine hK.out _ _ ?_ (fun hH3 => ?_)
  · exact ⟨k1.cell 3, k1.cell 4, k3.cell (hH2.2.2.1) (fun e => by injection e with e; exact HPB.out e), (hH2.2.2.2).trans k3⟩
  clear hK K
  try simp only [apt12]
  clear k1 k2 k3
  refine wpAnyH_done (by kernel_rfl) ?_ _
  have y3 := hH3.1
  have y4 := hH3.2.1
  have KN := hid (hH3.2.2.2)
  go_wp2_with fail
  all_goals go_ret
  all_goals exact pr_ok13 KN.out (by simp [hs, ha, hs2, ha2]) K1.out K2.out
end Go.Proofs.YtkpfmbdkfgeboaaGreat
