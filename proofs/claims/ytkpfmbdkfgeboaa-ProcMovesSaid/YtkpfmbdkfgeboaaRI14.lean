/- A process in a heap of the call's own: its next is set. -/
import Derived.Test.YtkpfmbdkfgeboaaRH14
namespace Go.Proofs.Ytkpfmbdkfgeboaa
open Go.RowKit
set_option maxRecDepth 100000
/-- all but these blocks is as it was -/
structure On14 (Wr : Nat → Prop) (w w' : World) : Prop where
  os : w'.os = w.os
  tape : w'.tape = w.tape
  output : w'.output = w.output
  size : w.heap.size ≤ w'.heap.size
  block : ∀ k, k < w.heap.size → ¬ Wr k → w'.heap[k]? = w.heap[k]?
theorem On14.refl (Wr : Nat → Prop) (w : World) : On14 Wr w w := ⟨rfl, rfl, rfl, Nat.le_refl _, fun _ _ _ => rfl⟩
theorem On14.below {Wr : Nat → Prop} {w w' : World} {B : Nat} (h : On14 Wr w w') (hB : B ≤ w.heap.size) (hW : ∀ k, Wr k → B ≤ k) : Below B w w' :=
  ⟨h.os, h.tape, h.output, h.size, fun k hk => h.block k (by omega) fun g => by have := hW k g; omega⟩
theorem On14.then_below {Wr : Nat → Prop} {w X Y : World} {B : Nat} (h : On14 Wr w X) (hb : Below B X Y) (hB : w.heap.size ≤ B) : On14 Wr w Y :=
  ⟨hb.os.trans h.os, hb.tape.trans h.tape, hb.output.trans h.output, Nat.le_trans h.size hb.size, fun k hk hn => (hb.block k (by omega)).trans (h.block k hk hn)⟩
theorem On14.then_on {Wr : Nat → Prop} {w X Y : World} (h : On14 Wr w X) (k : On14 Wr X Y) : On14 Wr w Y :=
  ⟨k.os.trans h.os, k.tape.trans h.tape, k.output.trans h.output, Nat.le_trans h.size k.size, fun i hi hn => (k.block i (Nat.lt_of_lt_of_le hi h.size) hn).trans (h.block i hi hn)⟩
theorem On14.of_below {Wr : Nat → Prop} {w w' : World} (h : Below w.heap.size w w') : On14 Wr w w' := ⟨h.os, h.tape, h.output, h.size, fun k hk _ => h.block k hk⟩
theorem On14.set_ {Wr : Nat → Prop} {w X : World} (h : On14 Wr w X) {g : Nat} (hg : Wr g ∨ w.heap.size ≤ g) (o : Nat) (u : Value) : On14 Wr w (X.setCell ⟨g, o, none⟩ u) :=
  ⟨h.os, h.tape, h.output, by simp; exact h.size, fun k hk hn => (Below.heap_setCell X ⟨g, o, none⟩ u k (fun e => by
    have e : k = g := e
    subst e
    rcases hg with hg | hg
    · exact hn hg
    · omega)).trans (h.block k hk hn)⟩
theorem On14.kp {Wr : Nat → Prop} {w w' : World} (h : On14 Wr w w') : Kp14 Wr w w' := ⟨h.size, fun k _ _ _ hk hn => (h.block k (Array.getElem?_eq_some_iff.1 hk).1 hn).trans hk⟩
theorem On14.keeps {Wr : Nat → Prop} {w w' : World} {B : Nat} (h : On14 Wr w w') (hW : ∀ k, Wr k → k < B) : KeepsFrom B w w' := ⟨h.size, fun k o hB hk _ => (h.block k (Array.getElem?_eq_some_iff.1 hk).1 fun g => by have := hW k g; omega).trans hk⟩
theorem wr_same14 {ls ls' : List LO} (h : ls'.map (·.S) = ls.map (·.S)) (g : Nat) : Wr14 ls' g ↔ Wr14 ls g := by
  have key : ∀ ms : List LO, Wr14 ms g ↔ ∃ S ∈ ms.map (·.S), ∃ a : Addr, S = some a ∧ a.block = g := fun ms => by
    unfold Wr14
    constructor
    · rintro ⟨l, hl, a, h1, h2⟩; exact ⟨l.S, List.mem_map_of_mem hl, a, h1, h2⟩
    · rintro ⟨S, hS, a, h1, h2⟩
      obtain ⟨l, hl, rfl⟩ := List.mem_map.1 hS
      exact ⟨l, hl, a, h1, h2⟩
  rw [key, key, h]
theorem map_set14 {α β : Type} {f : α → β} {ls : List α} {i : Nat} {x l : α} (hl : ls[i]? = some l) (e : f x = f l) : (ls.set i x).map f = ls.map f := by
  rw [List.map_set, e]
  apply List.ext_getElem?
  intro j
  rw [List.getElem?_set]
  by_cases g : i = j
  · subst g
    have hi := (List.getElem?_eq_some_iff.1 hl).1
    rw [if_pos rfl, if_pos (by simpa using hi), List.getElem?_map, hl]; rfl
  · rw [if_neg g]
set_option maxHeartbeats 2000000 in
theorem psetnext_any14 (H : Hp) (p nx : Int) (A : Option Addr) (c base : Nat) (ls : List LO) (w : World) (ho : OwnH w base A c ls) (hls : ls.map (·.o) = H.objs) (hp : pc14 H p = true) (hb0 : base ≤ w.heap.size) :
    Calls Try.prog 54 #[.agg #[.slice A H.objs.length c, .int .i64 H.cap, .int .i64 H.last], .int .i64 p, .int .i64 nx] w fun e w' => (∃ v, e = .returned v) ∧ ∃ ls', ls'.map (·.o) = (setH H p 0 nx).objs ∧ OwnH w' base A c ls' ∧ ls'.map (·.S) = ls.map (·.S) ∧ On14 (Wr14 ls) w w' := by
  obtain ⟨w1, hw1⟩ : ∃ x, x = w.alloc (.cells #[Value.slice A H.objs.length c, Value.int .i64 H.cap, Value.int .i64 H.last] 24) := ⟨_, rfl⟩
  have hB1 : Below w.heap.size w w1 := by rw [hw1]; exact below_alloc _ _
  have HX1 : Hid (Lies w1 w.heap.size 24 #[Value.slice A H.objs.length c, Value.int .i64 H.cap, Value.int .i64 H.last]) := by
    show Lies _ _ _ _
    rw [hw1]; exact Lies.new _ _ _
  have h1 := ho.later hB1
  obtain ⟨i, hil, hv, hob⟩ := obAt_get (pc_ref14 hp).1
  have hl4 := (pc_ref14 hp).2
  have hlen : ls.length = H.objs.length := by rw [← hls]; simp
  obtain ⟨ga, ca, hvv, hg0, hg1⟩ := h1.row.form (by omega)
  simp only [Value.slice.injEq, true_and] at hvv
  obtain ⟨rfl, rfl⟩ := hvv
  obtain ⟨l0, hli⟩ : ∃ l, ls[i]? = some l := ⟨_, List.getElem?_eq_getElem (by omega)⟩
  have hlo : l0.o = obAt H p := by
    have := congrArg (fun t => t[i]?) hls
    simp only [List.getElem?_map, hli, Option.map_some, hob] at this
    exact Option.some.inj this
  have q2 := (h1.row.cellAt (i * 6 + 2) (by omega)).trans (rowOf_get ls i 2 _ hli (by omega))
  simp only [LO.cells, List.getElem?_cons_zero, List.getElem?_cons_succ] at q2
  have hi := h1.ints i l0 hli
  have h4 : l0.o.slots.length = 4 := by rw [hlo]; exact hl4
  rw [h4] at q2 hi
  obtain ⟨g, cg, hvv2, hgb, hgl⟩ := hi.form (by omega)
  simp only [Value.slice.injEq, true_and] at hvv2
  obtain ⟨hS, hc0⟩ := hvv2
  rw [hS] at hi q2
  have y0 := hi.cellAt 0 (by omega)
  obtain ⟨a0, a1, a2, a3, hsl⟩ := list4_14 h4
  rw [hsl] at y0
  have f0 := hi.frozenAt 0
  have HO := hid (h1.slot (j := 0) (x := nx) hli hS)
  have HMM : Hid ((ls.set i ⟨{ l0.o with slots := l0.o.slots.set 0 nx }, l0.S, l0.c⟩).map (·.o) = (setH H p 0 nx).objs) := by
    show _ = _
    rw [List.map_set, hls, hlo]
    unfold setH
    rw [hv]; rfl
  have HSS : Hid ((ls.set i ⟨{ l0.o with slots := l0.o.slots.set 0 nx }, l0.S, l0.c⟩).map (·.S) = ls.map (·.S)) := map_set14 hli rfl
  have HWG : Hid (Wr14 ls g) := ⟨l0, List.mem_of_getElem? hli, _, hS, rfl⟩
  have HB1 := hid hB1
  have HAT : Hid (∀ W : World, Calls Try.prog 38 #[.int .i64 p] W fun e w' => e = .returned (.int .i64 (i : Int)) ∧ W = w') := by
    show ∀ W : World, _
    intro W
    rw [← hv]
    exact pat_any14 p W
  have hilI : (i : Int) < (H.objs.length : Int) := by omega
  have hi0 : (0 : Int) ≤ (i : Int) := by omega
  have Q2 := hid q2
  have Y0 := hid y0
  have F0 := hid f0
  clear hlo hi h4 hsl hob hl4 hlen hg0 hg1 hli hgb hgl hS hc0 hv ho h1 hls hp hB1 q2 y0 f0
  go_enter Try.func54, Try.ntmps54
  go_upto_region 1 with fail
  rw [← hw1]
  clear hw1
  refine wp_region_held_drew (S := (fun _ => True)) (by kernel_rfl) ?_ (fun hH0 => ?_)
  · exact trivial
  refine wpAnyH_take (i := 0) (oi := { dst := some 6, op := Go.Op.fieldAddr 24 (Go.Operand.tmp 3) 0, type := 0, pos := "proc.go:127", after := #[], guard := none }) (v := ?vv1) rfl (by kernel_rfl) (by kernel_rfl) (by kernel_rfl) (fun _ _ _ h => h) (Or.inl ⟨by rfl, ?hy1⟩) (by assumption) ?rr1
  case hy1 => intro w hSw; (try dsimp only at hSw); go_simp; all_goals with_reducible rfl
  try simp only [Act.put, List.setIfInBounds_toArray, List.set_cons_zero, List.set_cons_succ]
  refine wpAnyH_take (i := 2) (oi := { dst := some 8, op := Go.Op.move (Go.Operand.tmp 1), type := 3, pos := "proc.go:127", after := #[], guard := none }) (v := ?vv2) rfl (by kernel_rfl) (by kernel_rfl) (by kernel_rfl) (fun _ _ _ h => h) (Or.inl ⟨by rfl, ?hy2⟩) (by assumption) ?rr2
  case hy2 => intro w hSw; (try dsimp only at hSw); go_simp; all_goals with_reducible rfl
  try simp only [Act.put, List.setIfInBounds_toArray, List.set_cons_zero, List.set_cons_succ]
  refine wpAnyH_take (i := 7) (oi := { dst := some 13, op := Go.Op.move (Go.Operand.tmp 2), type := 3, pos := "proc.go:127", after := #[], guard := none }) (v := ?vv3) rfl (by kernel_rfl) (by kernel_rfl) (by kernel_rfl) (fun _ _ _ h => h) (Or.inl ⟨by rfl, ?hy3⟩) (by assumption) ?rr3
  case hy3 => intro w hSw; (try dsimp only at hSw); go_simp; all_goals with_reducible rfl
  try simp only [Act.put, List.setIfInBounds_toArray, List.set_cons_zero, List.set_cons_succ]
  refine wpAnyH_ready (rs := [1, 3]) (by kernel_rfl) (by simp) ?_
  refine AllReadyH.cons (i := 1) (o := { dst := some 7, op := Go.Op.load 22 (Go.Operand.tmp 6), type := 22, pos := "proc.go:127", after := #[{ on := 0, ground := Go.Ground.data }], guard := none }) rfl (fun K hK => ?_) (AllReadyH.cons (i := 3) (o := { dst := some 9, op := Go.Op.call { callee := Go.Callee.value (Go.Operand.func 38), args := #[Go.Operand.tmp 8], argTypes := #[3] }, type := 3, pos := "proc.go:127", after := #[{ on := 2, ground := Go.Ground.data }], guard := none }) rfl (fun K hK => ?_) AllReadyH.nil)
  · obtain ⟨x0, x1, x2⟩ := HX1.out.c3
    have z0 := cell_later (Below.refl w1.heap.size w1).drew x0
    go_simp
    refine hK.out _ _ ?_ (fun hH1 => ?_)
    · trivial
    clear hK K
    try simp only [Act.put, List.setIfInBounds_toArray, List.set_cons_zero, List.set_cons_succ]
    clear z0 x0 x1 x2
    refine wpAnyH_ready (rs := [3]) (by kernel_rfl) (by simp) ?_
    refine AllReadyH.cons (i := 3) (o := { dst := some 9, op := Go.Op.call { callee := Go.Callee.value (Go.Operand.func 38), args := #[Go.Operand.tmp 8], argTypes := #[3] }, type := 3, pos := "proc.go:127", after := #[{ on := 2, ground := Go.Ground.data }], guard := none }) rfl (fun K hK => ?_) AllReadyH.nil
    go_simp
    go_at_call 38
    refine (HAT.out _).mono ?_
    rintro e u1 ⟨rfl, rfl⟩
    refine hK.out _ _ ?_ (fun hH2 => ?_)
    · trivial
    clear hK K
    try simp only [Act.put, List.setIfInBounds_toArray, List.set_cons_zero, List.set_cons_succ]
    refine wpAnyH_take (i := 4) (oi := { dst := some 10, op := Go.Op.indexAddr 22 (Go.Operand.tmp 7) (Go.Operand.tmp 9), type := 0, pos := "proc.go:127", after := #[{ on := 1, ground := Go.Ground.data }, { on := 3, ground := Go.Ground.data }], guard := none }) (v := ?vv4) rfl (by kernel_rfl) (by kernel_rfl) (by kernel_rfl) (fun _ _ _ h => h) (Or.inl ⟨by rfl, ?hy4⟩) (by assumption) ?rr4
    case hy4 => intro w hSw; (try dsimp only at hSw); go_simp; all_goals with_reducible rfl
    try simp only [Act.put, List.setIfInBounds_toArray, List.set_cons_zero, List.set_cons_succ]
    refine wpAnyH_take (i := 5) (oi := { dst := some 11, op := Go.Op.fieldAddr 43 (Go.Operand.tmp 10) 2, type := 0, pos := "proc.go:127", after := #[{ on := 4, ground := Go.Ground.data }], guard := none }) (v := ?vv5) rfl (by kernel_rfl) (by kernel_rfl) (by kernel_rfl) (fun _ _ _ h => h) (Or.inl ⟨by rfl, ?hy5⟩) (by assumption) ?rr5
    case hy5 => intro w hSw; (try dsimp only at hSw); go_simp; all_goals with_reducible rfl
    try simp only [Act.put, List.setIfInBounds_toArray, List.set_cons_zero, List.set_cons_succ]
    refine wpAnyH_ready (rs := [6]) (by kernel_rfl) (by simp) ?_
    refine AllReadyH.cons (i := 6) (o := { dst := some 12, op := Go.Op.load 27 (Go.Operand.tmp 11), type := 27, pos := "proc.go:127", after := #[{ on := 5, ground := Go.Ground.data }], guard := none }) rfl (fun K hK => ?_) AllReadyH.nil
    have z2 := cell_later (Below.refl w1.heap.size w1).drew Q2.out
    go_simp
    refine hK.out _ _ ?_ (fun hH3 => ?_)
    · trivial
    clear hK K
    try simp only [Act.put, List.setIfInBounds_toArray, List.set_cons_zero, List.set_cons_succ]
    clear z2
    refine wpAnyH_take (i := 8) (oi := { dst := some 14, op := Go.Op.indexAddr 27 (Go.Operand.tmp 12) (Go.Operand.const (Go.Value.int Go.IntKind.i64 0)), type := 0, pos := "proc.go:127", after := #[{ on := 6, ground := Go.Ground.data }, { on := 0, ground := Go.Ground.phase }, { on := 1, ground := Go.Ground.phase }, { on := 2, ground := Go.Ground.phase }, { on := 3, ground := Go.Ground.phase }, { on := 4, ground := Go.Ground.phase }, { on := 5, ground := Go.Ground.phase }, { on := 6, ground := Go.Ground.phase }, { on := 7, ground := Go.Ground.phase }], guard := none }) (v := ?vv6) rfl (by kernel_rfl) (by kernel_rfl) (by kernel_rfl) (fun _ _ _ h => h) (Or.inl ⟨by rfl, ?hy6⟩) (by assumption) ?rr6
    case hy6 => intro w hSw; (try dsimp only at hSw); go_simp; all_goals with_reducible rfl
    try simp only [Act.put, List.setIfInBounds_toArray, List.set_cons_zero, List.set_cons_succ]
    refine wpAnyH_ready (rs := [9]) (by kernel_rfl) (by simp) ?_
    refine AllReadyH.cons (i := 9) (o := { dst := none, op := Go.Op.store 3 (Go.Operand.tmp 14) (Go.Operand.tmp 13), type := 0, pos := "proc.go:127", after := #[{ on := 8, ground := Go.Ground.data }, { on := 7, ground := Go.Ground.data }, { on := 3, ground := Go.Ground.chain }, { on := 0, ground := Go.Ground.phase }, { on := 1, ground := Go.Ground.phase }, { on := 2, ground := Go.Ground.phase }, { on := 3, ground := Go.Ground.phase }, { on := 4, ground := Go.Ground.phase }, { on := 5, ground := Go.Ground.phase }, { on := 6, ground := Go.Ground.phase }, { on := 7, ground := Go.Ground.phase }], guard := none }) rfl (fun K hK => ?_) AllReadyH.nil
    have y0 := Y0.out
    have f0 := F0.out
    go_simp
    refine hK.out _ _ ?_ (fun hH4 => ?_)
    · trivial
    clear hK K
    try simp only [Act.put, List.setIfInBounds_toArray, List.set_cons_zero, List.set_cons_succ]
    clear y0 f0
    refine wpAnyH_done (by kernel_rfl) ?_ _
    obtain ⟨V, hV⟩ : ∃ V, V = w1.setCell ⟨g, 0, none⟩ (.int .i64 nx) := ⟨_, rfl⟩
    rw [← hV]
    have KO := HO.out
    rw [← hV] at KO
    have KN : On14 (Wr14 ls) w V := by rw [hV]; exact (On14.of_below HB1.out).set_ (.inl HWG.out) _ _
    have K1 := hid KO
    have K2 := hid KN
    clear KO KN hV
    go_wp2_with fail
    go_end0
    exact ⟨⟨_, rfl⟩, _, HMM.out, K1.out.later (Below.refl _ _).drew, HSS.out, K2.out.then_below (Below.refl _ _).drew K2.out.size⟩
  · go_simp
    go_at_call 38
    refine (HAT.out _).mono ?_
    rintro e u1 ⟨rfl, rfl⟩
    refine hK.out _ _ ?_ (fun hH1 => ?_)
    · trivial
    clear hK K
    try simp only [Act.put, List.setIfInBounds_toArray, List.set_cons_zero, List.set_cons_succ]
    refine wpAnyH_ready (rs := [1]) (by kernel_rfl) (by simp) ?_
    refine AllReadyH.cons (i := 1) (o := { dst := some 7, op := Go.Op.load 22 (Go.Operand.tmp 6), type := 22, pos := "proc.go:127", after := #[{ on := 0, ground := Go.Ground.data }], guard := none }) rfl (fun K hK => ?_) AllReadyH.nil
    obtain ⟨x0, x1, x2⟩ := HX1.out.c3
    have z0 := cell_later (Below.refl w1.heap.size w1).drew x0
    go_simp
    refine hK.out _ _ ?_ (fun hH2 => ?_)
    · trivial
    clear hK K
    try simp only [Act.put, List.setIfInBounds_toArray, List.set_cons_zero, List.set_cons_succ]
    clear z0 x0 x1 x2
    refine wpAnyH_take (i := 4) (oi := { dst := some 10, op := Go.Op.indexAddr 22 (Go.Operand.tmp 7) (Go.Operand.tmp 9), type := 0, pos := "proc.go:127", after := #[{ on := 1, ground := Go.Ground.data }, { on := 3, ground := Go.Ground.data }], guard := none }) (v := ?vv7) rfl (by kernel_rfl) (by kernel_rfl) (by kernel_rfl) (fun _ _ _ h => h) (Or.inl ⟨by rfl, ?hy7⟩) (by assumption) ?rr7
    case hy7 => intro w hSw; (try dsimp only at hSw); go_simp; all_goals with_reducible rfl
    try simp only [Act.put, List.setIfInBounds_toArray, List.set_cons_zero, List.set_cons_succ]
    refine wpAnyH_take (i := 5) (oi := { dst := some 11, op := Go.Op.fieldAddr 43 (Go.Operand.tmp 10) 2, type := 0, pos := "proc.go:127", after := #[{ on := 4, ground := Go.Ground.data }], guard := none }) (v := ?vv8) rfl (by kernel_rfl) (by kernel_rfl) (by kernel_rfl) (fun _ _ _ h => h) (Or.inl ⟨by rfl, ?hy8⟩) (by assumption) ?rr8
    case hy8 => intro w hSw; (try dsimp only at hSw); go_simp; all_goals with_reducible rfl
    try simp only [Act.put, List.setIfInBounds_toArray, List.set_cons_zero, List.set_cons_succ]
    refine wpAnyH_ready (rs := [6]) (by kernel_rfl) (by simp) ?_
    refine AllReadyH.cons (i := 6) (o := { dst := some 12, op := Go.Op.load 27 (Go.Operand.tmp 11), type := 27, pos := "proc.go:127", after := #[{ on := 5, ground := Go.Ground.data }], guard := none }) rfl (fun K hK => ?_) AllReadyH.nil
    have z2 := cell_later (Below.refl w1.heap.size w1).drew Q2.out
    go_simp
    refine hK.out _ _ ?_ (fun hH3 => ?_)
    · trivial
    clear hK K
    try simp only [Act.put, List.setIfInBounds_toArray, List.set_cons_zero, List.set_cons_succ]
    clear z2
    refine wpAnyH_take (i := 8) (oi := { dst := some 14, op := Go.Op.indexAddr 27 (Go.Operand.tmp 12) (Go.Operand.const (Go.Value.int Go.IntKind.i64 0)), type := 0, pos := "proc.go:127", after := #[{ on := 6, ground := Go.Ground.data }, { on := 0, ground := Go.Ground.phase }, { on := 1, ground := Go.Ground.phase }, { on := 2, ground := Go.Ground.phase }, { on := 3, ground := Go.Ground.phase }, { on := 4, ground := Go.Ground.phase }, { on := 5, ground := Go.Ground.phase }, { on := 6, ground := Go.Ground.phase }, { on := 7, ground := Go.Ground.phase }], guard := none }) (v := ?vv9) rfl (by kernel_rfl) (by kernel_rfl) (by kernel_rfl) (fun _ _ _ h => h) (Or.inl ⟨by rfl, ?hy9⟩) (by assumption) ?rr9
    case hy9 => intro w hSw; (try dsimp only at hSw); go_simp; all_goals with_reducible rfl
    try simp only [Act.put, List.setIfInBounds_toArray, List.set_cons_zero, List.set_cons_succ]
    refine wpAnyH_ready (rs := [9]) (by kernel_rfl) (by simp) ?_
    refine AllReadyH.cons (i := 9) (o := { dst := none, op := Go.Op.store 3 (Go.Operand.tmp 14) (Go.Operand.tmp 13), type := 0, pos := "proc.go:127", after := #[{ on := 8, ground := Go.Ground.data }, { on := 7, ground := Go.Ground.data }, { on := 3, ground := Go.Ground.chain }, { on := 0, ground := Go.Ground.phase }, { on := 1, ground := Go.Ground.phase }, { on := 2, ground := Go.Ground.phase }, { on := 3, ground := Go.Ground.phase }, { on := 4, ground := Go.Ground.phase }, { on := 5, ground := Go.Ground.phase }, { on := 6, ground := Go.Ground.phase }, { on := 7, ground := Go.Ground.phase }], guard := none }) rfl (fun K hK => ?_) AllReadyH.nil
    have y0 := Y0.out
    have f0 := F0.out
    go_simp
    refine hK.out _ _ ?_ (fun hH4 => ?_)
    · trivial
    clear hK K
    try simp only [Act.put, List.setIfInBounds_toArray, List.set_cons_zero, List.set_cons_succ]
    clear y0 f0
    refine wpAnyH_done (by kernel_rfl) ?_ _
    obtain ⟨V, hV⟩ : ∃ V, V = w1.setCell ⟨g, 0, none⟩ (.int .i64 nx) := ⟨_, rfl⟩
    rw [← hV]
    have KO := HO.out
    rw [← hV] at KO
    have KN : On14 (Wr14 ls) w V := by rw [hV]; exact (On14.of_below HB1.out).set_ (.inl HWG.out) _ _
    have K1 := hid KO
    have K2 := hid KN
    clear KO KN hV
    go_wp2_with fail
    go_end0
    exact ⟨⟨_, rfl⟩, _, HMM.out, K1.out.later (Below.refl _ _).drew, HSS.out, K2.out.then_below (Below.refl _ _).drew K2.out.size⟩
end Go.Proofs.Ytkpfmbdkfgeboaa
