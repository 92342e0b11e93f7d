/- The document's word on what is found, from a class on upwards. -/
import Derived.Test.YtcahdhocilmoeaaSD9
import Derived.Test.YtcahdhocilmoeaaSF9
import Derived.Test.YtcahdhocilmoeaaN
namespace Go.Proofs.Ytcahdhocilmoeaa
open Go.RowKit
set_option maxRecDepth 100000
theorem slots64_10 {h : Hp} {v : Int} (hm : mayB h = true) (hr : refB h.objs.length v = true) : (obAt h v).slots.length ≤ 64 := by
  obtain ⟨i, hi, hv, ho⟩ := obAt_get hr
  exact (kind_len (ob_kind (may_all hm _ (List.mem_of_getElem? ho)))).1
theorem pa64_10 {h : Hp} {v : Int} (hm : mayB h = true) (p : paB9 h v = true) : (paL9 h v).length ≤ 64 := by
  obtain ⟨hr, h0, h1⟩ := pa9_is p
  by_cases e : v = 0
  · rw [h0 e]; simp
  · rw [h1 e]; exact slots64_10 hm hr
theorem cl9_mayB {h : Hp} {c : Int} (p : clB9 h c = true) : mayB h = true := by
  unfold clB9 at p
  simp only [Bool.and_eq_true] at p
  exact p.1
def mt10 (o : Option Int) (c : Int) (r : Int × Int × Int) : Int × Int × Int := match o with
  | some v => (v, c, 0)
  | none => r
theorem fi9_suc10 {h : Hp} {s c : Int} {k : Nat} (hcl : clB9 h c = true) : fi9 h s (k + 1) c = mt10 (pf9 (paL9 h (sl9 h c 1)) s) c (if sl9 h c 0 = 0 ∨ k = 0 then (0, 0, 91) else fi9 h s k (sl9 h c 0)) := by
  show (if clB9 h c = true then _ else _) = _
  rw [if_pos hcl]
  cases pf9 (paL9 h (sl9 h c 1)) s <;> rfl
def tv10 (r : Int × Int × Int) : Value := .tuple #[.int .i64 r.1, .int .i64 r.2.1, .int .i64 r.2.2]
set_option maxHeartbeats 2000000 in
theorem rfind_k10 (h : Hp) (s : Int) (A : Option Addr) (d : Nat) (fit : h.Fit) : ∀ (k : Nat), k ≤ 63 → ∀ (c n : Int) (w : World), n = k + 1 → ObsR w A h.objs →
    Calls Try.prog 70 #[.agg #[.slice A h.objs.length d, .int .i64 h.cap, .int .i64 h.last], .int .i64 c, .int .i64 s, .int .i64 n] w fun e w' => e = .returned (tv10 (fi9 h s (k + 1) c)) ∧ Below w.heap.size w w' := by
  intro k
  induction k with
  | zero =>
    intro _ c n w hn hs
    obtain rfl : n = 1 := by omega
    clear hn
    have HB0 := hid (below_alloc w (.cells #[Value.slice A h.objs.length d, Value.int .i64 h.cap, Value.int .i64 h.last] 24))
    have HX0 := hid (Lies.new w 24 #[Value.slice A h.objs.length d, Value.int .i64 h.cap, Value.int .i64 h.last])
    have HS := hid hs
    have HF := hid fit
    have O0 := hid (hs.below HB0.out)
    clear hs
    go_enter Try.func70, Try.ntmps70
    have x0 := HX0.out.cell 0
    have x1 := HX0.out.cell 1
    have x2 := HX0.out.cell 2
    simp only [List.getElem?_toArray, List.getElem?_cons_zero, List.getElem?_cons_succ] at x0 x1 x2
    go_wp2_with fail
    refine (rclass_any9 h c A d _ O0.out fit).mono ?_
    rintro e w1 ⟨rfl, hb⟩
    have HB1 := hid (then_w HB0.out hb)
    have HX1 := hid (HX0.out.later hb)
    clear hb x0 x1 x2 O0
    cases hcl : clB9 h c
    · have E : Hid (fi9 h s (0 + 1) c = (0, 0, 90)) := by show _ = _; unfold fi9; rw [if_neg (by rw [hcl]; decide)]
      clear hcl
      go_wp2_with fail
      go_ret3
      exact ⟨by rw [E.out]; rfl, HB1.out⟩
    · obtain ⟨hr, hkd, hl3, hr0, hpd⟩ := cl9_parts hcl
      have hl64 := pa64_10 (cl9_mayB hcl) hpd
      have E : Hid (fi9 h s (0 + 1) c = mt10 (pf9 (paL9 h (sl9 h c 1)) s) c (if sl9 h c 0 = 0 ∨ 0 = 0 then (0, 0, 91) else fi9 h s 0 (sl9 h c 0))) := fi9_suc10 hcl
      obtain ⟨i, b, off, S, dd, hi, hil, rfl, hc, hint, -⟩ := ob_read9 HS.out HB1.out hr
      obtain ⟨bs, os, rfl, hbs, hcs⟩ := hint (by omega)
      have z0 := hcs 0 _ (sl_at9 (by omega))
      have z1 := hcs 1 _ (sl_at9 (by omega))
      rw [Nat.add_zero] at z0
      obtain ⟨v0, hv0⟩ : ∃ v, v = sl9 h c 0 := ⟨_, rfl⟩
      obtain ⟨v1, hv1⟩ : ∃ v, v = sl9 h c 1 := ⟨_, rfl⟩
      rw [← hv0] at z0 E
      rw [← hv1] at z1 E hl64 hpd
      obtain ⟨o, ho⟩ : ∃ o, o = obAt h c := ⟨_, rfl⟩
      rw [← ho] at hc hl3
      obtain ⟨nn, hnn⟩ : ∃ n, n = o.slots.length := ⟨_, rfl⟩
      have k0 : 0 < nn := by omega
      have k1 : 1 < nn := by omega
      have g0 : (0 : Int) < (nn : Int) := by omega
      have g1 : (1 : Int) < (nn : Int) := by omega
      have a0 := hc.c0
      have a1 := hc.c1
      have a2 : w1.cell? ⟨b, off + i * 6 + 2, none⟩ = some (.slice (some ⟨bs, os, none⟩) nn dd) := by rw [hnn]; exact hc.c2
      have a3 := hc.c3
      have a4 := hc.c4
      have a5 := hc.c5
      have hlI : (i : Int) < (h.objs.length : Int) := by omega
      have Z0 := hid z0
      have Z1 := hid z1
      have HL64 := hid hl64
      have HI := hid hi
      have O1 := hid (HS.out.below HB1.out)
      clear hcl hr hkd hl3 hr0 hc hcs hv0 hv1 ho hnn z0 z1 hl64 hbs hi hpd
      have x0 := HX1.out.cell 0
      have x1 := HX1.out.cell 1
      have x2 := HX1.out.cell 2
      simp only [List.getElem?_toArray, List.getElem?_cons_zero, List.getElem?_cons_succ] at x0 x1 x2
      have hnb : b ≠ w1.heap.size := Nat.ne_of_lt (World.block_lt_of_cell? _ _ a0)
      have hnx : w.heap.size ≠ w1.heap.size := Nat.ne_of_lt HX1.out.lt
      go_upto_region 3 with fail
      go_cut [11] from 19 to 25 (fun p wx => ∃ g : Nat, p = .pointer (some ⟨g, 0, none⟩) ∧ Lies wx g 46 #[.int .i64 o.cls, .int .i64 o.kind, .slice (some ⟨bs, os, none⟩) nn dd, .string o.text, .int .i64 o.bits, .int .i64 o.hash] ∧ Below w1.heap.size w1 wx)
      case first =>
        refine wp_region_held_drew (S := (fun w' => w'.cell? ⟨w.heap.size, 0, none⟩ = some (.slice (some ⟨b, off, none⟩) h.objs.length d) ∧ w'.cell? ⟨w.heap.size, 1, none⟩ = some (.int .i64 h.cap) ∧ w'.cell? ⟨w.heap.size, 2, none⟩ = some (.int .i64 h.last) ∧ w'.cell? ⟨b, off + i * 6, none⟩ = some (.int .i64 o.cls) ∧ w'.cell? ⟨b, off + i * 6 + 1, none⟩ = some (.int .i64 o.kind) ∧ w'.cell? ⟨b, off + i * 6 + 2, none⟩ = some (.slice (some ⟨bs, os, none⟩) nn dd) ∧ w'.cell? ⟨b, off + i * 6 + 3, none⟩ = some (.string o.text) ∧ w'.cell? ⟨b, off + i * 6 + 4, none⟩ = some (.int .i64 o.bits) ∧ w'.cell? ⟨b, off + i * 6 + 5, none⟩ = some (.int .i64 o.hash))) (by kernel_rfl) ?_ (fun hH0 => ?_)
        · exact ⟨x0, x1, x2, a0, a1, a2, a3, a4, a5⟩
        refine wpAnyH_take (i := 0) (oi := { dst := some 19, op := Go.Op.fieldAddr 24 (Go.Operand.tmp 4) 0, type := 0, pos := "ref.go:54", after := #[], guard := none }) (v := ?vv1) rfl (by kernel_rfl) (by kernel_rfl) (by kernel_rfl) (fun _ _ _ h => h) (Or.inl ⟨by rfl, ?hy1⟩) (by assumption) ?rr1
        case hy1 => intro w hSw; (try dsimp only at hSw); go_simp; all_goals with_reducible rfl
        try simp only [Act.put, List.setIfInBounds_toArray, List.set_cons_zero, List.set_cons_succ]
        refine wpAnyH_take (i := 1) (oi := { dst := some 20, op := Go.Op.load 22 (Go.Operand.tmp 19), type := 22, pos := "ref.go:54", after := #[{ on := 0, ground := Go.Ground.data }], guard := none }) (v := ?vv2) rfl (by kernel_rfl) (by kernel_rfl) (by kernel_rfl) (fun _ _ _ h => h) (Or.inl ⟨by rfl, ?hy2⟩) (by assumption) ?rr2
        case hy2 => intro w hSw; (try dsimp only at hSw); go_simp; all_goals with_reducible rfl
        try simp only [Act.put, List.setIfInBounds_toArray, List.set_cons_zero, List.set_cons_succ]
        refine wpAnyH_take (i := 2) (oi := { dst := some 21, op := Go.Op.load 24 (Go.Operand.tmp 4), type := 24, pos := "ref.go:54", after := #[], guard := none }) (v := ?vv3) rfl (by kernel_rfl) (by kernel_rfl) (by kernel_rfl) (fun _ _ _ h => h) (Or.inl ⟨by rfl, ?hy3⟩) (by assumption) ?rr3
        case hy3 => intro w hSw; (try dsimp only at hSw); go_simp; all_goals with_reducible rfl
        try simp only [Act.put, List.setIfInBounds_toArray, List.set_cons_zero, List.set_cons_succ]
        refine wpAnyH_take (i := 3) (oi := { dst := some 22, op := Go.Op.move (Go.Operand.tmp 1), type := 3, pos := "ref.go:54", after := #[], guard := none }) (v := ?vv4) rfl (by kernel_rfl) (by kernel_rfl) (by kernel_rfl) (fun _ _ _ h => h) (Or.inl ⟨by rfl, ?hy4⟩) (by assumption) ?rr4
        case hy4 => intro w hSw; (try dsimp only at hSw); go_simp; all_goals with_reducible rfl
        try simp only [Act.put, List.setIfInBounds_toArray, List.set_cons_zero, List.set_cons_succ]
        refine wpAnyH_ready (rs := [4, 7]) (by kernel_rfl) (by simp) ?_
        refine AllReadyH.cons (i := 4) (o := { dst := some 23, op := Go.Op.call { callee := Go.Callee.value (Go.Operand.func 34), args := #[Go.Operand.tmp 21, Go.Operand.tmp 22], argTypes := #[24, 3] }, type := 3, pos := "ref.go:54", after := #[{ on := 2, ground := Go.Ground.data }, { on := 3, ground := Go.Ground.data }], guard := none }) rfl (fun K hK => ?_) (AllReadyH.cons (i := 7) (o := { dst := some 11, op := Go.Op.alloc 46, type := 0, pos := "ref.go:54", after := #[], guard := none }) rfl (fun K hK => ?_) AllReadyH.nil)
        · go_simp
          go_at_call 34
          refine (rref_any h c (some ⟨b, off, none⟩) d _).mono ?_
          rintro e w' ⟨rfl, hb⟩
          rw [HI.out]
          have hB0_ : Below w1.heap.size w1 w' := then_w (Below.refl _ _).drew hb
          refine hK.out _ _ ?_ (fun hH1 => ?_)
          · exact ⟨cell_later hb hH0.1, cell_later hb hH0.2.1, cell_later hb hH0.2.2.1, cell_later hb hH0.2.2.2.1, cell_later hb hH0.2.2.2.2.1, cell_later hb hH0.2.2.2.2.2.1, cell_later hb hH0.2.2.2.2.2.2.1, cell_later hb hH0.2.2.2.2.2.2.2.1, cell_later hb hH0.2.2.2.2.2.2.2.2⟩
          clear hK K
          try simp only [Act.put, List.setIfInBounds_toArray, List.set_cons_zero, List.set_cons_succ]
          clear hb
          refine wpAnyH_take (i := 5) (oi := { dst := some 24, op := Go.Op.indexAddr 22 (Go.Operand.tmp 20) (Go.Operand.tmp 23), type := 0, pos := "ref.go:54", after := #[{ on := 1, ground := Go.Ground.data }, { on := 4, ground := Go.Ground.data }], guard := none }) (v := ?vv5) rfl (by kernel_rfl) (by kernel_rfl) (by kernel_rfl) (fun _ _ _ h => h) (Or.inl ⟨by rfl, ?hy5⟩) (by assumption) ?rr5
          case hy5 => intro w hSw; (try dsimp only at hSw); go_simp; all_goals with_reducible rfl
          try simp only [Act.put, List.setIfInBounds_toArray, List.set_cons_zero, List.set_cons_succ]
          refine wpAnyH_take (i := 6) (oi := { dst := some 25, op := Go.Op.load 46 (Go.Operand.tmp 24), type := 46, pos := "ref.go:54", after := #[{ on := 5, ground := Go.Ground.data }], guard := none }) (v := ?vv6) rfl (by kernel_rfl) (by kernel_rfl) (by kernel_rfl) (fun _ _ _ h => h) (Or.inl ⟨by rfl, ?hy6⟩) (by assumption) ?rr6
          case hy6 => intro w hSw; (try dsimp only at hSw); go_simp; all_goals with_reducible rfl
          try simp only [Act.put, List.setIfInBounds_toArray, List.set_cons_zero, List.set_cons_succ]
          refine wpAnyH_ready (rs := [7]) (by kernel_rfl) (by simp) ?_
          refine AllReadyH.cons (i := 7) (o := { dst := some 11, op := Go.Op.alloc 46, type := 0, pos := "ref.go:54", after := #[], guard := none }) rfl (fun K hK => ?_) AllReadyH.nil
          go_simp
          refine hK.out _ _ ?_ (fun hH2 => ?_)
          · exact ⟨cell_old hH1.1, cell_old hH1.2.1, cell_old hH1.2.2.1, cell_old hH1.2.2.2.1, cell_old hH1.2.2.2.2.1, cell_old hH1.2.2.2.2.2.1, cell_old hH1.2.2.2.2.2.2.1, cell_old hH1.2.2.2.2.2.2.2.1, cell_old hH1.2.2.2.2.2.2.2.2⟩
          clear hK K
          try simp only [Act.put, List.setIfInBounds_toArray, List.set_cons_zero, List.set_cons_succ]
          refine wpAnyH_ready (rs := [8]) (by kernel_rfl) (by simp) ?_
          refine AllReadyH.cons (i := 8) (o := { dst := none, op := Go.Op.store 46 (Go.Operand.tmp 11) (Go.Operand.tmp 25), type := 0, pos := "ref.go:54", after := #[{ on := 7, ground := Go.Ground.data }, { on := 6, ground := Go.Ground.data }, { on := 4, ground := Go.Ground.chain }, { on := 0, ground := Go.Ground.phase }, { on := 1, ground := Go.Ground.phase }, { on := 2, ground := Go.Ground.phase }, { on := 3, ground := Go.Ground.phase }, { on := 4, ground := Go.Ground.phase }, { on := 5, ground := Go.Ground.phase }, { on := 6, ground := Go.Ground.phase }, { on := 7, ground := Go.Ground.phase }], guard := none }) rfl (fun K hK => ?_) AllReadyH.nil
          go_simp
          refine hK.out _ _ ?_ (fun hH3 => ?_)
          · exact ⟨cell_old hH1.1, cell_old hH1.2.1, cell_old hH1.2.2.1, cell_old hH1.2.2.2.1, cell_old hH1.2.2.2.2.1, cell_old hH1.2.2.2.2.2.1, cell_old hH1.2.2.2.2.2.2.1, cell_old hH1.2.2.2.2.2.2.2.1, cell_old hH1.2.2.2.2.2.2.2.2⟩
          clear hK K
          try simp only [Act.put, List.setIfInBounds_toArray, List.set_cons_zero, List.set_cons_succ]
          refine wpAnyH_done (by kernel_rfl) ?_ _
          obtain ⟨nbV3, hN⟩ : ∃ n, n = w'.heap.size := ⟨_, rfl⟩
          rw [← hN]
          obtain ⟨V3, hV⟩ : ∃ V, V = w'.alloc (.cells #[.int .i64 o.cls, .int .i64 o.kind, .slice (some ⟨bs, os, none⟩) nn dd, .string o.text, .int .i64 o.bits, .int .i64 o.hash] 46) := ⟨_, rfl⟩
          have hLV : Lies V3 nbV3 46 #[.int .i64 o.cls, .int .i64 o.kind, .slice (some ⟨bs, os, none⟩) nn dd, .string o.text, .int .i64 o.bits, .int .i64 o.hash] := by rw [hV, hN]; exact Lies.new _ _ _
          have hBV : Below w1.heap.size w1 V3 := by rw [hV]; exact then_w hB0_ (below_alloc _ _)
          rw [← hV]
          clear hV hN
          have L3 := hid hLV
          clear hLV hB0_
          go_wp2_with fail
          go_meet
          exact ⟨nbV3, rfl, L3.out, hBV⟩
        · go_simp
          refine hK.out _ _ ?_ (fun hH1 => ?_)
          · exact ⟨cell_old hH0.1, cell_old hH0.2.1, cell_old hH0.2.2.1, cell_old hH0.2.2.2.1, cell_old hH0.2.2.2.2.1, cell_old hH0.2.2.2.2.2.1, cell_old hH0.2.2.2.2.2.2.1, cell_old hH0.2.2.2.2.2.2.2.1, cell_old hH0.2.2.2.2.2.2.2.2⟩
          clear hK K
          try simp only [Act.put, List.setIfInBounds_toArray, List.set_cons_zero, List.set_cons_succ]
          refine wpAnyH_ready (rs := [4]) (by kernel_rfl) (by simp) ?_
          refine AllReadyH.cons (i := 4) (o := { dst := some 23, op := Go.Op.call { callee := Go.Callee.value (Go.Operand.func 34), args := #[Go.Operand.tmp 21, Go.Operand.tmp 22], argTypes := #[24, 3] }, type := 3, pos := "ref.go:54", after := #[{ on := 2, ground := Go.Ground.data }, { on := 3, ground := Go.Ground.data }], guard := none }) rfl (fun K hK => ?_) AllReadyH.nil
          go_simp
          go_at_call 34
          refine (rref_any h c (some ⟨b, off, none⟩) d _).mono ?_
          rintro e w' ⟨rfl, hb⟩
          rw [HI.out]
          have hL0 := ((Lies.new w1 46 #[.int .i64 0, .int .i64 0, .slice none 0 0, .string ⟨#[]⟩, .int .i64 0, .int .i64 0]).drew).later hb
          have hB0_ : Below w1.heap.size w1 w' := then_w (below_alloc w1 (.cells #[.int .i64 0, .int .i64 0, .slice none 0 0, .string ⟨#[]⟩, .int .i64 0, .int .i64 0] 46)).drew hb
          have k0 := hL0.cell 0
          have kf0 := hL0.frozen 0
          have k1 := hL0.cell 1
          have kf1 := hL0.frozen 1
          have k2 := hL0.cell 2
          have kf2 := hL0.frozen 2
          have k3 := hL0.cell 3
          have kf3 := hL0.frozen 3
          have k4 := hL0.cell 4
          have kf4 := hL0.frozen 4
          have k5 := hL0.cell 5
          have kf5 := hL0.frozen 5
          simp only [List.getElem?_toArray, List.getElem?_cons_zero, List.getElem?_cons_succ] at k0 k1 k2 k3 k4 k5
          refine hK.out _ _ ?_ (fun hH2 => ?_)
          · exact ⟨cell_later hb hH1.1, cell_later hb hH1.2.1, cell_later hb hH1.2.2.1, cell_later hb hH1.2.2.2.1, cell_later hb hH1.2.2.2.2.1, cell_later hb hH1.2.2.2.2.2.1, cell_later hb hH1.2.2.2.2.2.2.1, cell_later hb hH1.2.2.2.2.2.2.2.1, cell_later hb hH1.2.2.2.2.2.2.2.2⟩
          clear hK K
          try simp only [Act.put, List.setIfInBounds_toArray, List.set_cons_zero, List.set_cons_succ]
          clear hb
          refine wpAnyH_take (i := 5) (oi := { dst := some 24, op := Go.Op.indexAddr 22 (Go.Operand.tmp 20) (Go.Operand.tmp 23), type := 0, pos := "ref.go:54", after := #[{ on := 1, ground := Go.Ground.data }, { on := 4, ground := Go.Ground.data }], guard := none }) (v := ?vv7) rfl (by kernel_rfl) (by kernel_rfl) (by kernel_rfl) (fun _ _ _ h => h) (Or.inl ⟨by rfl, ?hy7⟩) (by assumption) ?rr7
          case hy7 => intro w hSw; (try dsimp only at hSw); go_simp; all_goals with_reducible rfl
          try simp only [Act.put, List.setIfInBounds_toArray, List.set_cons_zero, List.set_cons_succ]
          refine wpAnyH_take (i := 6) (oi := { dst := some 25, op := Go.Op.load 46 (Go.Operand.tmp 24), type := 46, pos := "ref.go:54", after := #[{ on := 5, ground := Go.Ground.data }], guard := none }) (v := ?vv8) rfl (by kernel_rfl) (by kernel_rfl) (by kernel_rfl) (fun _ _ _ h => h) (Or.inl ⟨by rfl, ?hy8⟩) (by assumption) ?rr8
          case hy8 => intro w hSw; (try dsimp only at hSw); go_simp; all_goals with_reducible rfl
          try simp only [Act.put, List.setIfInBounds_toArray, List.set_cons_zero, List.set_cons_succ]
          refine wpAnyH_ready (rs := [8]) (by kernel_rfl) (by simp) ?_
          refine AllReadyH.cons (i := 8) (o := { dst := none, op := Go.Op.store 46 (Go.Operand.tmp 11) (Go.Operand.tmp 25), type := 0, pos := "ref.go:54", after := #[{ on := 7, ground := Go.Ground.data }, { on := 6, ground := Go.Ground.data }, { on := 4, ground := Go.Ground.chain }, { on := 0, ground := Go.Ground.phase }, { on := 1, ground := Go.Ground.phase }, { on := 2, ground := Go.Ground.phase }, { on := 3, ground := Go.Ground.phase }, { on := 4, ground := Go.Ground.phase }, { on := 5, ground := Go.Ground.phase }, { on := 6, ground := Go.Ground.phase }, { on := 7, ground := Go.Ground.phase }], guard := none }) rfl (fun K hK => ?_) AllReadyH.nil
          go_simp
          refine hK.out _ _ ?_ (fun hH3 => ?_)
          · exact ⟨far69 hnx hH2.1, far69 hnx hH2.2.1, far69 hnx hH2.2.2.1, far69 hnb hH2.2.2.2.1, far69 hnb hH2.2.2.2.2.1, far69 hnb hH2.2.2.2.2.2.1, far69 hnb hH2.2.2.2.2.2.2.1, far69 hnb hH2.2.2.2.2.2.2.2.1, far69 hnb hH2.2.2.2.2.2.2.2.2⟩
          clear hK K
          try simp only [Act.put, List.setIfInBounds_toArray, List.set_cons_zero, List.set_cons_succ]
          refine wpAnyH_done (by kernel_rfl) ?_ _
          obtain ⟨V3, hV⟩ : ∃ V, V = ((((((w'.setCell ⟨w1.heap.size, 0, none⟩ (.int .i64 o.cls)).setCell ⟨w1.heap.size, 1, none⟩ (.int .i64 o.kind)).setCell ⟨w1.heap.size, 2, none⟩ (.slice (some ⟨bs, os, none⟩) nn dd)).setCell ⟨w1.heap.size, 3, none⟩ (.string o.text)).setCell ⟨w1.heap.size, 4, none⟩ (.int .i64 o.bits)).setCell ⟨w1.heap.size, 5, none⟩ (.int .i64 o.hash)) := ⟨_, rfl⟩
          have hLV : Lies V3 w1.heap.size 46 #[.int .i64 o.cls, .int .i64 o.kind, .slice (some ⟨bs, os, none⟩) nn dd, .string o.text, .int .i64 o.bits, .int .i64 o.hash] := by
            rw [hV]
            have := ((((((hL0.set_ 0 (.int .i64 o.cls)).set_ 1 (.int .i64 o.kind)).set_ 2 (.slice (some ⟨bs, os, none⟩) nn dd)).set_ 3 (.string o.text)).set_ 4 (.int .i64 o.bits)).set_ 5 (.int .i64 o.hash))
            simpa using this
          have hBV : Below w1.heap.size w1 V3 := by rw [hV]; exact ((((((hB0_.setCell (p := ⟨w1.heap.size, 0, none⟩) (Nat.le_refl _) (.int .i64 o.cls)).setCell (p := ⟨w1.heap.size, 1, none⟩) (Nat.le_refl _) (.int .i64 o.kind)).setCell (p := ⟨w1.heap.size, 2, none⟩) (Nat.le_refl _) (.slice (some ⟨bs, os, none⟩) nn dd)).setCell (p := ⟨w1.heap.size, 3, none⟩) (Nat.le_refl _) (.string o.text)).setCell (p := ⟨w1.heap.size, 4, none⟩) (Nat.le_refl _) (.int .i64 o.bits)).setCell (p := ⟨w1.heap.size, 5, none⟩) (Nat.le_refl _) (.int .i64 o.hash))
          rw [← hV]
          clear hV hL0 k0 k1 k2 k3 k4 k5 kf0 kf1 kf2 kf3 kf4 kf5
          have L3 := hid hLV
          clear hLV hB0_
          go_wp2_with fail
          go_meet
          exact ⟨w1.heap.size, rfl, L3.out, hBV⟩
      case rest =>
        rename World => w2
        obtain ⟨g, rfl, hL, hb⟩ := hcut
        have HG := hid hL
        have HB12 := hid hb
        have HB2 := hid (then_w HB1.out hb)
        have HX2 := hid (HX1.out.later hb)
        have O2 := hid (O1.out.below hb)
        clear hb hL x0 x1 x2 a0 a1 a2 a3 a4 a5 hnb hnx
        have x0 := HX2.out.cell 0
        have x1 := HX2.out.cell 1
        have x2 := HX2.out.cell 2
        have y2 := HG.out.cell 2
        simp only [List.getElem?_toArray, List.getElem?_cons_zero, List.getElem?_cons_succ] at x0 x1 x2 y2
        have s1 := cell_later HB12.out Z1.out
        go_upto_region 4 with fail
        refine wp_region_held_drew (S := (fun w' => w'.cell? ⟨w.heap.size, 0, none⟩ = some (.slice (some ⟨b, off, none⟩) h.objs.length d) ∧ w'.cell? ⟨w.heap.size, 1, none⟩ = some (.int .i64 h.cap) ∧ w'.cell? ⟨w.heap.size, 2, none⟩ = some (.int .i64 h.last) ∧ w'.cell? ⟨g, 2, none⟩ = some (.slice (some ⟨bs, os, none⟩) nn dd) ∧ w'.cell? ⟨bs, os + 1, none⟩ = some (.int .i64 v1))) (by kernel_rfl) ?_ (fun hH0 => ?_)
        · exact ⟨x0, x1, x2, y2, s1⟩
        refine wpAnyH_take (i := 0) (oi := { dst := some 27, op := Go.Op.load 24 (Go.Operand.tmp 4), type := 24, pos := "ref.go:55", after := #[], guard := none }) (v := ?vv9) rfl (by kernel_rfl) (by kernel_rfl) (by kernel_rfl) (fun _ _ _ h => h) (Or.inl ⟨by rfl, ?hy9⟩) (by assumption) ?rr9
        case hy9 => intro w hSw; (try dsimp only at hSw); go_simp; all_goals with_reducible rfl
        try simp only [Act.put, List.setIfInBounds_toArray, List.set_cons_zero, List.set_cons_succ]
        refine wpAnyH_take (i := 1) (oi := { dst := some 28, op := Go.Op.fieldAddr 46 (Go.Operand.tmp 11) 2, type := 0, pos := "ref.go:55", after := #[], guard := none }) (v := ?vv10) rfl (by kernel_rfl) (by kernel_rfl) (by kernel_rfl) (fun _ _ _ h => h) (Or.inl ⟨by rfl, ?hy10⟩) (by assumption) ?rr10
        case hy10 => intro w hSw; (try dsimp only at hSw); go_simp; all_goals with_reducible rfl
        try simp only [Act.put, List.setIfInBounds_toArray, List.set_cons_zero, List.set_cons_succ]
        refine wpAnyH_take (i := 2) (oi := { dst := some 29, op := Go.Op.load 44 (Go.Operand.tmp 28), type := 44, pos := "ref.go:55", after := #[{ on := 1, ground := Go.Ground.data }], guard := none }) (v := ?vv11) rfl (by kernel_rfl) (by kernel_rfl) (by kernel_rfl) (fun _ _ _ h => h) (Or.inl ⟨by rfl, ?hy11⟩) (by assumption) ?rr11
        case hy11 => intro w hSw; (try dsimp only at hSw); go_simp; all_goals with_reducible rfl
        try simp only [Act.put, List.setIfInBounds_toArray, List.set_cons_zero, List.set_cons_succ]
        refine wpAnyH_take (i := 3) (oi := { dst := some 30, op := Go.Op.indexAddr 44 (Go.Operand.tmp 29) (Go.Operand.const (Go.Value.int Go.IntKind.i64 1)), type := 0, pos := "ref.go:55", after := #[{ on := 2, ground := Go.Ground.data }], guard := none }) (v := ?vv12) rfl (by kernel_rfl) (by kernel_rfl) (by kernel_rfl) (fun _ _ _ h => h) (Or.inl ⟨by rfl, ?hy12⟩) (by assumption) ?rr12
        case hy12 => intro w hSw; (try dsimp only at hSw); go_simp; all_goals with_reducible rfl
        try simp only [Act.put, List.setIfInBounds_toArray, List.set_cons_zero, List.set_cons_succ]
        refine wpAnyH_take (i := 4) (oi := { dst := some 31, op := Go.Op.load 3 (Go.Operand.tmp 30), type := 3, pos := "ref.go:55", after := #[{ on := 3, ground := Go.Ground.data }], guard := none }) (v := ?vv13) rfl (by kernel_rfl) (by kernel_rfl) (by kernel_rfl) (fun _ _ _ h => h) (Or.inl ⟨by rfl, ?hy13⟩) (by assumption) ?rr13
        case hy13 => intro w hSw; (try dsimp only at hSw); go_simp; all_goals with_reducible rfl
        try simp only [Act.put, List.setIfInBounds_toArray, List.set_cons_zero, List.set_cons_succ]
        refine wpAnyH_ready (rs := [5]) (by kernel_rfl) (by simp) ?_
        refine AllReadyH.cons (i := 5) (o := { dst := some 32, op := Go.Op.call { callee := Go.Callee.value (Go.Operand.func 85), args := #[Go.Operand.tmp 27, Go.Operand.tmp 31], argTypes := #[24, 3] }, type := 104, pos := "ref.go:55", after := #[{ on := 0, ground := Go.Ground.data }, { on := 4, ground := Go.Ground.data }], guard := none }) rfl (fun K hK => ?_) AllReadyH.nil
        go_simp
        go_at_call 85
        refine (rpairs_any9 h v1 (some ⟨b, off, none⟩) d _ (O2.out.below (Below.refl w2.heap.size w2).drew) HF.out).mono ?_
        rintro e u1 ⟨S1, d1, rfl, hI1, hb⟩
        have HV1 := hid (then_w (Below.refl w2.heap.size w2).drew hb)
        refine hK.out _ _ ?_ (fun hH1 => ?_)
        · exact ⟨cell_later hb hH0.1, cell_later hb hH0.2.1, cell_later hb hH0.2.2.1, cell_later hb hH0.2.2.2.1, cell_later hb hH0.2.2.2.2⟩
        clear hK K
        try simp only [Act.put, List.setIfInBounds_toArray, List.set_cons_zero, List.set_cons_succ]
        clear hb
        refine wpAnyH_take (i := 6) (oi := { dst := some 26, op := Go.Op.move (Go.Operand.tmp 32), type := 104, pos := "ref.go:55", after := #[{ on := 5, ground := Go.Ground.data }], guard := none }) (v := ?vv14) rfl (by kernel_rfl) (by kernel_rfl) (by kernel_rfl) (fun _ _ _ h => h) (Or.inl ⟨by rfl, ?hy14⟩) (by assumption) ?rr14
        case hy14 => intro w hSw; (try dsimp only at hSw); go_simp; all_goals with_reducible rfl
        try simp only [Act.put, List.setIfInBounds_toArray, List.set_cons_zero, List.set_cons_succ]
        refine wpAnyH_take (i := 7) (oi := { dst := some 33, op := Go.Op.extract (Go.Operand.tmp 26) 0, type := 44, pos := "ref.go:55", after := #[{ on := 6, ground := Go.Ground.data }], guard := none }) (v := ?vv15) rfl (by kernel_rfl) (by kernel_rfl) (by kernel_rfl) (fun _ _ _ h => h) (Or.inl ⟨by rfl, ?hy15⟩) (by assumption) ?rr15
        case hy15 => intro w hSw; (try dsimp only at hSw); go_simp; all_goals with_reducible rfl
        try simp only [Act.put, List.setIfInBounds_toArray, List.set_cons_zero, List.set_cons_succ]
        refine wpAnyH_take (i := 8) (oi := { dst := some 34, op := Go.Op.extract (Go.Operand.tmp 26) 1, type := 4, pos := "ref.go:55", after := #[{ on := 6, ground := Go.Ground.data }, { on := 9, ground := Go.Ground.gcOnly Go.Departure.lateStores }], guard := none }) (v := ?vv16) rfl (by kernel_rfl) (by kernel_rfl) (by kernel_rfl) (fun _ _ _ h => h) (Or.inl ⟨by rfl, ?hy16⟩) (by assumption) ?rr16
        case hy16 => intro w hSw; (try dsimp only at hSw); go_simp; all_goals with_reducible rfl
        try simp only [Act.put, List.setIfInBounds_toArray, List.set_cons_zero, List.set_cons_succ]
        refine wpAnyH_take (i := 9) (oi := { dst := some 12, op := Go.Op.assign (Go.Operand.tmp 33), type := 44, pos := "ref.go:55", after := #[{ on := 7, ground := Go.Ground.data }, { on := 5, ground := Go.Ground.chain }, { on := 0, ground := Go.Ground.phase }, { on := 1, ground := Go.Ground.phase }, { on := 2, ground := Go.Ground.phase }, { on := 3, ground := Go.Ground.phase }, { on := 4, ground := Go.Ground.phase }, { on := 5, ground := Go.Ground.phase }, { on := 6, ground := Go.Ground.phase }, { on := 7, ground := Go.Ground.phase }, { on := 8, ground := Go.Ground.textOnly Go.Departure.lateStores }], guard := none }) (v := ?vv17) rfl (by kernel_rfl) (by kernel_rfl) (by kernel_rfl) (fun _ _ _ h => h) (Or.inl ⟨by rfl, ?hy17⟩) (by assumption) ?rr17
        case hy17 => intro w hSw; (try dsimp only at hSw); go_simp; all_goals with_reducible rfl
        try simp only [Act.put, List.setIfInBounds_toArray, List.set_cons_zero, List.set_cons_succ]
        refine wpAnyH_take (i := 10) (oi := { dst := some 13, op := Go.Op.assign (Go.Operand.tmp 34), type := 4, pos := "ref.go:55", after := #[{ on := 8, ground := Go.Ground.data }, { on := 9, ground := Go.Ground.chain }, { on := 0, ground := Go.Ground.phase }, { on := 1, ground := Go.Ground.phase }, { on := 2, ground := Go.Ground.phase }, { on := 3, ground := Go.Ground.phase }, { on := 4, ground := Go.Ground.phase }, { on := 5, ground := Go.Ground.phase }, { on := 6, ground := Go.Ground.phase }, { on := 7, ground := Go.Ground.phase }, { on := 8, ground := Go.Ground.phase }, { on := 9, ground := Go.Ground.phase }], guard := none }) (v := ?vv18) rfl (by kernel_rfl) (by kernel_rfl) (by kernel_rfl) (fun _ _ _ h => h) (Or.inl ⟨by rfl, ?hy18⟩) (by assumption) ?rr18
        case hy18 => intro w hSw; (try dsimp only at hSw); go_simp; all_goals with_reducible rfl
        try simp only [Act.put, List.setIfInBounds_toArray, List.set_cons_zero, List.set_cons_succ]
        refine wpAnyH_done (by kernel_rfl) ?_ _
        obtain ⟨w3, hw3⟩ : ∃ u, u = u1 := ⟨_, rfl⟩
        have hb := HV1.out
        rw [← hw3] at hb hI1 ⊢
        have HVX := hid hb
        have HB3 := hid (then_w HB2.out hb)
        have HX3 := hid (HX2.out.later hb)
        have HG3 := hid (HG.out.later hb)
        have HI1 := hid hI1
        clear hb hw3 HV1 hH0 hH1 x0 x1 x2 y2 s1 hI1
        obtain ⟨L, hL⟩ : ∃ L, L = paL9 h v1 := ⟨_, rfl⟩
        rw [← hL] at HI1 HL64 E ⊢
        clear hL
        have y2 := HG3.out.cell 2
        simp only [List.getElem?_toArray, List.getElem?_cons_zero, List.getElem?_cons_succ] at y2
        have HB13 := hid (then_w HB12.out HVX.out)
        have s0 := cell_later HB13.out Z0.out
        go_wp2_with fail
        go_loopw [14] (fun i wr => ∃ j : Nat, j ≤ L.length + 2 ∧ i = .int .i64 j ∧ Hid (pf9 (L.drop j) s = pf9 L s) ∧ wr = w3) (fun i _ => L.length + 3 - (intOf i).toNat)
        case atStart => exact ⟨0, by omega, rfl, hid rfl, rfl⟩
        case round =>
          obtain ⟨j, hjl, rfl, HP, rfl⟩ := hrel
          have hj70 := HL64.out
          have hjw : IntKind.i64.wrap ((j : Int) + 1) = (j : Int) + 1 := IntWalk.i64_in _ ⟨by omega, by omega⟩
          have hjw2 : IntKind.i64.wrap ((j : Int) + 2) = (j : Int) + 2 := IntWalk.i64_in _ ⟨by omega, by omega⟩
          by_cases hj : j + 1 < L.length
          · have hjI : (j : Int) + 1 < (L.length : Int) := by omega
            have hjI2 : (j : Int) < (L.length : Int) := by omega
            have hjI3 : (0 : Int) ≤ (j : Int) + 1 := by omega
            obtain ⟨bl, ol, rfl, hbl, hcl⟩ := HI1.out (by omega)
            have l0 := hcl j _ (List.getElem?_eq_getElem (show j < L.length by omega))
            have l1 := hcl (j + 1) _ (List.getElem?_eq_getElem hj)
            have HNE := hid (pf9_next hj s)
            obtain ⟨u0, hu0⟩ : ∃ u, u = L[j]'(by omega) := ⟨_, rfl⟩
            obtain ⟨u1, hu1⟩ : ∃ u, u = L[j + 1]'hj := ⟨_, rfl⟩
            rw [← hu0] at l0 HNE
            rw [← hu1] at l1 HNE
            clear hcl hu0 hu1
            by_cases hs : u0 = s
            · have EE : Hid (fi9 h s (0 + 1) c = (u1, c, 0)) := by show _ = _; rw [E.out, ← HP.out, HNE.out, if_pos hs]; rfl
              subst hs
              go_wp2_with fail
              go_ret3
              exact ⟨by rw [EE.out]; rfl, HB3.out⟩
            · have hsB : (u0 == s) = false := beq_eq_false_iff_ne.2 hs
              have HPX : Hid (pf9 (L.drop (j + 2)) s = pf9 L s) := by show _ = _; rw [← HP.out, HNE.out, if_neg hs]
              go_wp2_with fail
              go_roundw
              case rel => exact ⟨j + 2, by omega, by go_num, HPX, trivial⟩
              case measure => simp only [intOf]; omega
          · have hjI : ¬ (j : Int) + 1 < (L.length : Int) := by omega
            have HPN : Hid (pf9 L s = none) := by show _ = _; rw [← HP.out]; exact pf9_end hj s
            have EE : Hid (fi9 h s (0 + 1) c = (0, 0, 91)) := by show _ = _; rw [E.out, HPN.out]; simp [mt10]
            by_cases hv : v0 = 0
            · subst hv
              go_wp2_with fail
              go_ret3
              exact ⟨by rw [EE.out]; rfl, HB3.out⟩
            · have hvB : (v0 == 0) = false := beq_eq_false_iff_ne.2 hv
              go_wp2_with fail
              go_ret3
              exact ⟨by rw [EE.out]; rfl, HB3.out⟩
  | succ k ih =>
    intro hk c n w hn hs
    have HB0 := hid (below_alloc w (.cells #[Value.slice A h.objs.length d, Value.int .i64 h.cap, Value.int .i64 h.last] 24))
    have HX0 := hid (Lies.new w 24 #[Value.slice A h.objs.length d, Value.int .i64 h.cap, Value.int .i64 h.last])
    have HS := hid hs
    have HF := hid fit
    have O0 := hid (hs.below HB0.out)
    clear hs
    go_enter Try.func70, Try.ntmps70
    have x0 := HX0.out.cell 0
    have x1 := HX0.out.cell 1
    have x2 := HX0.out.cell 2
    simp only [List.getElem?_toArray, List.getElem?_cons_zero, List.getElem?_cons_succ] at x0 x1 x2
    go_wp2_with fail
    refine (rclass_any9 h c A d _ O0.out fit).mono ?_
    rintro e w1 ⟨rfl, hb⟩
    have HB1 := hid (then_w HB0.out hb)
    have HX1 := hid (HX0.out.later hb)
    clear hb x0 x1 x2 O0
    cases hcl : clB9 h c
    · have E : Hid (fi9 h s ((k + 1) + 1) c = (0, 0, 90)) := by show _ = _; unfold fi9; rw [if_neg (by rw [hcl]; decide)]
      clear hcl
      go_wp2_with fail
      go_ret3
      exact ⟨by rw [E.out]; rfl, HB1.out⟩
    · obtain ⟨hr, hkd, hl3, hr0, hpd⟩ := cl9_parts hcl
      have hl64 := pa64_10 (cl9_mayB hcl) hpd
      have E : Hid (fi9 h s ((k + 1) + 1) c = mt10 (pf9 (paL9 h (sl9 h c 1)) s) c (if sl9 h c 0 = 0 ∨ (k + 1) = 0 then (0, 0, 91) else fi9 h s (k + 1) (sl9 h c 0))) := fi9_suc10 hcl
      obtain ⟨i, b, off, S, dd, hi, hil, rfl, hc, hint, -⟩ := ob_read9 HS.out HB1.out hr
      obtain ⟨bs, os, rfl, hbs, hcs⟩ := hint (by omega)
      have z0 := hcs 0 _ (sl_at9 (by omega))
      have z1 := hcs 1 _ (sl_at9 (by omega))
      rw [Nat.add_zero] at z0
      obtain ⟨v0, hv0⟩ : ∃ v, v = sl9 h c 0 := ⟨_, rfl⟩
      obtain ⟨v1, hv1⟩ : ∃ v, v = sl9 h c 1 := ⟨_, rfl⟩
      rw [← hv0] at z0 E
      rw [← hv1] at z1 E hl64 hpd
      obtain ⟨o, ho⟩ : ∃ o, o = obAt h c := ⟨_, rfl⟩
      rw [← ho] at hc hl3
      obtain ⟨nn, hnn⟩ : ∃ n, n = o.slots.length := ⟨_, rfl⟩
      have k0 : 0 < nn := by omega
      have k1 : 1 < nn := by omega
      have g0 : (0 : Int) < (nn : Int) := by omega
      have g1 : (1 : Int) < (nn : Int) := by omega
      have a0 := hc.c0
      have a1 := hc.c1
      have a2 : w1.cell? ⟨b, off + i * 6 + 2, none⟩ = some (.slice (some ⟨bs, os, none⟩) nn dd) := by rw [hnn]; exact hc.c2
      have a3 := hc.c3
      have a4 := hc.c4
      have a5 := hc.c5
      have hlI : (i : Int) < (h.objs.length : Int) := by omega
      have Z0 := hid z0
      have Z1 := hid z1
      have HL64 := hid hl64
      have HI := hid hi
      have O1 := hid (HS.out.below HB1.out)
      clear hcl hr hkd hl3 hr0 hc hcs hv0 hv1 ho hnn z0 z1 hl64 hbs hi hpd
      have x0 := HX1.out.cell 0
      have x1 := HX1.out.cell 1
      have x2 := HX1.out.cell 2
      simp only [List.getElem?_toArray, List.getElem?_cons_zero, List.getElem?_cons_succ] at x0 x1 x2
      have hnb : b ≠ w1.heap.size := Nat.ne_of_lt (World.block_lt_of_cell? _ _ a0)
      have hnx : w.heap.size ≠ w1.heap.size := Nat.ne_of_lt HX1.out.lt
      go_upto_region 3 with fail
      go_cut [11] from 19 to 25 (fun p wx => ∃ g : Nat, p = .pointer (some ⟨g, 0, none⟩) ∧ Lies wx g 46 #[.int .i64 o.cls, .int .i64 o.kind, .slice (some ⟨bs, os, none⟩) nn dd, .string o.text, .int .i64 o.bits, .int .i64 o.hash] ∧ Below w1.heap.size w1 wx)
      case first =>
        refine wp_region_held_drew (S := (fun w' => w'.cell? ⟨w.heap.size, 0, none⟩ = some (.slice (some ⟨b, off, none⟩) h.objs.length d) ∧ w'.cell? ⟨w.heap.size, 1, none⟩ = some (.int .i64 h.cap) ∧ w'.cell? ⟨w.heap.size, 2, none⟩ = some (.int .i64 h.last) ∧ w'.cell? ⟨b, off + i * 6, none⟩ = some (.int .i64 o.cls) ∧ w'.cell? ⟨b, off + i * 6 + 1, none⟩ = some (.int .i64 o.kind) ∧ w'.cell? ⟨b, off + i * 6 + 2, none⟩ = some (.slice (some ⟨bs, os, none⟩) nn dd) ∧ w'.cell? ⟨b, off + i * 6 + 3, none⟩ = some (.string o.text) ∧ w'.cell? ⟨b, off + i * 6 + 4, none⟩ = some (.int .i64 o.bits) ∧ w'.cell? ⟨b, off + i * 6 + 5, none⟩ = some (.int .i64 o.hash))) (by kernel_rfl) ?_ (fun hH0 => ?_)
        · exact ⟨x0, x1, x2, a0, a1, a2, a3, a4, a5⟩
        refine wpAnyH_take (i := 0) (oi := { dst := some 19, op := Go.Op.fieldAddr 24 (Go.Operand.tmp 4) 0, type := 0, pos := "ref.go:54", after := #[], guard := none }) (v := ?vv19) rfl (by kernel_rfl) (by kernel_rfl) (by kernel_rfl) (fun _ _ _ h => h) (Or.inl ⟨by rfl, ?hy19⟩) (by assumption) ?rr19
        case hy19 => intro w hSw; (try dsimp only at hSw); go_simp; all_goals with_reducible rfl
        try simp only [Act.put, List.setIfInBounds_toArray, List.set_cons_zero, List.set_cons_succ]
        refine wpAnyH_take (i := 1) (oi := { dst := some 20, op := Go.Op.load 22 (Go.Operand.tmp 19), type := 22, pos := "ref.go:54", after := #[{ on := 0, ground := Go.Ground.data }], guard := none }) (v := ?vv20) rfl (by kernel_rfl) (by kernel_rfl) (by kernel_rfl) (fun _ _ _ h => h) (Or.inl ⟨by rfl, ?hy20⟩) (by assumption) ?rr20
        case hy20 => intro w hSw; (try dsimp only at hSw); go_simp; all_goals with_reducible rfl
        try simp only [Act.put, List.setIfInBounds_toArray, List.set_cons_zero, List.set_cons_succ]
        refine wpAnyH_take (i := 2) (oi := { dst := some 21, op := Go.Op.load 24 (Go.Operand.tmp 4), type := 24, pos := "ref.go:54", after := #[], guard := none }) (v := ?vv21) rfl (by kernel_rfl) (by kernel_rfl) (by kernel_rfl) (fun _ _ _ h => h) (Or.inl ⟨by rfl, ?hy21⟩) (by assumption) ?rr21
        case hy21 => intro w hSw; (try dsimp only at hSw); go_simp; all_goals with_reducible rfl
        try simp only [Act.put, List.setIfInBounds_toArray, List.set_cons_zero, List.set_cons_succ]
        refine wpAnyH_take (i := 3) (oi := { dst := some 22, op := Go.Op.move (Go.Operand.tmp 1), type := 3, pos := "ref.go:54", after := #[], guard := none }) (v := ?vv22) rfl (by kernel_rfl) (by kernel_rfl) (by kernel_rfl) (fun _ _ _ h => h) (Or.inl ⟨by rfl, ?hy22⟩) (by assumption) ?rr22
        case hy22 => intro w hSw; (try dsimp only at hSw); go_simp; all_goals with_reducible rfl
        try simp only [Act.put, List.setIfInBounds_toArray, List.set_cons_zero, List.set_cons_succ]
        refine wpAnyH_ready (rs := [4, 7]) (by kernel_rfl) (by simp) ?_
        refine AllReadyH.cons (i := 4) (o := { dst := some 23, op := Go.Op.call { callee := Go.Callee.value (Go.Operand.func 34), args := #[Go.Operand.tmp 21, Go.Operand.tmp 22], argTypes := #[24, 3] }, type := 3, pos := "ref.go:54", after := #[{ on := 2, ground := Go.Ground.data }, { on := 3, ground := Go.Ground.data }], guard := none }) rfl (fun K hK => ?_) (AllReadyH.cons (i := 7) (o := { dst := some 11, op := Go.Op.alloc 46, type := 0, pos := "ref.go:54", after := #[], guard := none }) rfl (fun K hK => ?_) AllReadyH.nil)
        · go_simp
          go_at_call 34
          refine (rref_any h c (some ⟨b, off, none⟩) d _).mono ?_
          rintro e w' ⟨rfl, hb⟩
          rw [HI.out]
          have hB0_ : Below w1.heap.size w1 w' := then_w (Below.refl _ _).drew hb
          refine hK.out _ _ ?_ (fun hH1 => ?_)
          · exact ⟨cell_later hb hH0.1, cell_later hb hH0.2.1, cell_later hb hH0.2.2.1, cell_later hb hH0.2.2.2.1, cell_later hb hH0.2.2.2.2.1, cell_later hb hH0.2.2.2.2.2.1, cell_later hb hH0.2.2.2.2.2.2.1, cell_later hb hH0.2.2.2.2.2.2.2.1, cell_later hb hH0.2.2.2.2.2.2.2.2⟩
          clear hK K
          try simp only [Act.put, List.setIfInBounds_toArray, List.set_cons_zero, List.set_cons_succ]
          clear hb
          refine wpAnyH_take (i := 5) (oi := { dst := some 24, op := Go.Op.indexAddr 22 (Go.Operand.tmp 20) (Go.Operand.tmp 23), type := 0, pos := "ref.go:54", after := #[{ on := 1, ground := Go.Ground.data }, { on := 4, ground := Go.Ground.data }], guard := none }) (v := ?vv23) rfl (by kernel_rfl) (by kernel_rfl) (by kernel_rfl) (fun _ _ _ h => h) (Or.inl ⟨by rfl, ?hy23⟩) (by assumption) ?rr23
          case hy23 => intro w hSw; (try dsimp only at hSw); go_simp; all_goals with_reducible rfl
          try simp only [Act.put, List.setIfInBounds_toArray, List.set_cons_zero, List.set_cons_succ]
          refine wpAnyH_take (i := 6) (oi := { dst := some 25, op := Go.Op.load 46 (Go.Operand.tmp 24), type := 46, pos := "ref.go:54", after := #[{ on := 5, ground := Go.Ground.data }], guard := none }) (v := ?vv24) rfl (by kernel_rfl) (by kernel_rfl) (by kernel_rfl) (fun _ _ _ h => h) (Or.inl ⟨by rfl, ?hy24⟩) (by assumption) ?rr24
          case hy24 => intro w hSw; (try dsimp only at hSw); go_simp; all_goals with_reducible rfl
          try simp only [Act.put, List.setIfInBounds_toArray, List.set_cons_zero, List.set_cons_succ]
          refine wpAnyH_ready (rs := [7]) (by kernel_rfl) (by simp) ?_
          refine AllReadyH.cons (i := 7) (o := { dst := some 11, op := Go.Op.alloc 46, type := 0, pos := "ref.go:54", after := #[], guard := none }) rfl (fun K hK => ?_) AllReadyH.nil
          go_simp
          refine hK.out _ _ ?_ (fun hH2 => ?_)
          · exact ⟨cell_old hH1.1, cell_old hH1.2.1, cell_old hH1.2.2.1, cell_old hH1.2.2.2.1, cell_old hH1.2.2.2.2.1, cell_old hH1.2.2.2.2.2.1, cell_old hH1.2.2.2.2.2.2.1, cell_old hH1.2.2.2.2.2.2.2.1, cell_old hH1.2.2.2.2.2.2.2.2⟩
          clear hK K
          try simp only [Act.put, List.setIfInBounds_toArray, List.set_cons_zero, List.set_cons_succ]
          refine wpAnyH_ready (rs := [8]) (by kernel_rfl) (by simp) ?_
          refine AllReadyH.cons (i := 8) (o := { dst := none, op := Go.Op.store 46 (Go.Operand.tmp 11) (Go.Operand.tmp 25), type := 0, pos := "ref.go:54", after := #[{ on := 7, ground := Go.Ground.data }, { on := 6, ground := Go.Ground.data }, { on := 4, ground := Go.Ground.chain }, { on := 0, ground := Go.Ground.phase }, { on := 1, ground := Go.Ground.phase }, { on := 2, ground := Go.Ground.phase }, { on := 3, ground := Go.Ground.phase }, { on := 4, ground := Go.Ground.phase }, { on := 5, ground := Go.Ground.phase }, { on := 6, ground := Go.Ground.phase }, { on := 7, ground := Go.Ground.phase }], guard := none }) rfl (fun K hK => ?_) AllReadyH.nil
          go_simp
          refine hK.out _ _ ?_ (fun hH3 => ?_)
          · exact ⟨cell_old hH1.1, cell_old hH1.2.1, cell_old hH1.2.2.1, cell_old hH1.2.2.2.1, cell_old hH1.2.2.2.2.1, cell_old hH1.2.2.2.2.2.1, cell_old hH1.2.2.2.2.2.2.1, cell_old hH1.2.2.2.2.2.2.2.1, cell_old hH1.2.2.2.2.2.2.2.2⟩
          clear hK K
          try simp only [Act.put, List.setIfInBounds_toArray, List.set_cons_zero, List.set_cons_succ]
          refine wpAnyH_done (by kernel_rfl) ?_ _
          obtain ⟨nbV3, hN⟩ : ∃ n, n = w'.heap.size := ⟨_, rfl⟩
          rw [← hN]
          obtain ⟨V3, hV⟩ : ∃ V, V = w'.alloc (.cells #[.int .i64 o.cls, .int .i64 o.kind, .slice (some ⟨bs, os, none⟩) nn dd, .string o.text, .int .i64 o.bits, .int .i64 o.hash] 46) := ⟨_, rfl⟩
          have hLV : Lies V3 nbV3 46 #[.int .i64 o.cls, .int .i64 o.kind, .slice (some ⟨bs, os, none⟩) nn dd, .string o.text, .int .i64 o.bits, .int .i64 o.hash] := by rw [hV, hN]; exact Lies.new _ _ _
          have hBV : Below w1.heap.size w1 V3 := by rw [hV]; exact then_w hB0_ (below_alloc _ _)
          rw [← hV]
          clear hV hN
          have L3 := hid hLV
          clear hLV hB0_
          go_wp2_with fail
          go_meet
          exact ⟨nbV3, rfl, L3.out, hBV⟩
        · go_simp
          refine hK.out _ _ ?_ (fun hH1 => ?_)
          · exact ⟨cell_old hH0.1, cell_old hH0.2.1, cell_old hH0.2.2.1, cell_old hH0.2.2.2.1, cell_old hH0.2.2.2.2.1, cell_old hH0.2.2.2.2.2.1, cell_old hH0.2.2.2.2.2.2.1, cell_old hH0.2.2.2.2.2.2.2.1, cell_old hH0.2.2.2.2.2.2.2.2⟩
          clear hK K
          try simp only [Act.put, List.setIfInBounds_toArray, List.set_cons_zero, List.set_cons_succ]
          refine wpAnyH_ready (rs := [4]) (by kernel_rfl) (by simp) ?_
          refine AllReadyH.cons (i := 4) (o := { dst := some 23, op := Go.Op.call { callee := Go.Callee.value (Go.Operand.func 34), args := #[Go.Operand.tmp 21, Go.Operand.tmp 22], argTypes := #[24, 3] }, type := 3, pos := "ref.go:54", after := #[{ on := 2, ground := Go.Ground.data }, { on := 3, ground := Go.Ground.data }], guard := none }) rfl (fun K hK => ?_) AllReadyH.nil
          go_simp
          go_at_call 34
          refine (rref_any h c (some ⟨b, off, none⟩) d _).mono ?_
          rintro e w' ⟨rfl, hb⟩
          rw [HI.out]
          have hL0 := ((Lies.new w1 46 #[.int .i64 0, .int .i64 0, .slice none 0 0, .string ⟨#[]⟩, .int .i64 0, .int .i64 0]).drew).later hb
          have hB0_ : Below w1.heap.size w1 w' := then_w (below_alloc w1 (.cells #[.int .i64 0, .int .i64 0, .slice none 0 0, .string ⟨#[]⟩, .int .i64 0, .int .i64 0] 46)).drew hb
          have k0 := hL0.cell 0
          have kf0 := hL0.frozen 0
          have k1 := hL0.cell 1
          have kf1 := hL0.frozen 1
          have k2 := hL0.cell 2
          have kf2 := hL0.frozen 2
          have k3 := hL0.cell 3
          have kf3 := hL0.frozen 3
          have k4 := hL0.cell 4
          have kf4 := hL0.frozen 4
          have k5 := hL0.cell 5
          have kf5 := hL0.frozen 5
          simp only [List.getElem?_toArray, List.getElem?_cons_zero, List.getElem?_cons_succ] at k0 k1 k2 k3 k4 k5
          refine hK.out _ _ ?_ (fun hH2 => ?_)
          · exact ⟨cell_later hb hH1.1, cell_later hb hH1.2.1, cell_later hb hH1.2.2.1, cell_later hb hH1.2.2.2.1, cell_later hb hH1.2.2.2.2.1, cell_later hb hH1.2.2.2.2.2.1, cell_later hb hH1.2.2.2.2.2.2.1, cell_later hb hH1.2.2.2.2.2.2.2.1, cell_later hb hH1.2.2.2.2.2.2.2.2⟩
          clear hK K
          try simp only [Act.put, List.setIfInBounds_toArray, List.set_cons_zero, List.set_cons_succ]
          clear hb
          refine wpAnyH_take (i := 5) (oi := { dst := some 24, op := Go.Op.indexAddr 22 (Go.Operand.tmp 20) (Go.Operand.tmp 23), type := 0, pos := "ref.go:54", after := #[{ on := 1, ground := Go.Ground.data }, { on := 4, ground := Go.Ground.data }], guard := none }) (v := ?vv25) rfl (by kernel_rfl) (by kernel_rfl) (by kernel_rfl) (fun _ _ _ h => h) (Or.inl ⟨by rfl, ?hy25⟩) (by assumption) ?rr25
          case hy25 => intro w hSw; (try dsimp only at hSw); go_simp; all_goals with_reducible rfl
          try simp only [Act.put, List.setIfInBounds_toArray, List.set_cons_zero, List.set_cons_succ]
          refine wpAnyH_take (i := 6) (oi := { dst := some 25, op := Go.Op.load 46 (Go.Operand.tmp 24), type := 46, pos := "ref.go:54", after := #[{ on := 5, ground := Go.Ground.data }], guard := none }) (v := ?vv26) rfl (by kernel_rfl) (by kernel_rfl) (by kernel_rfl) (fun _ _ _ h => h) (Or.inl ⟨by rfl, ?hy26⟩) (by assumption) ?rr26
          case hy26 => intro w hSw; (try dsimp only at hSw); go_simp; all_goals with_reducible rfl
          try simp only [Act.put, List.setIfInBounds_toArray, List.set_cons_zero, List.set_cons_succ]
          refine wpAnyH_ready (rs := [8]) (by kernel_rfl) (by simp) ?_
          refine AllReadyH.cons (i := 8) (o := { dst := none, op := Go.Op.store 46 (Go.Operand.tmp 11) (Go.Operand.tmp 25), type := 0, pos := "ref.go:54", after := #[{ on := 7, ground := Go.Ground.data }, { on := 6, ground := Go.Ground.data }, { on := 4, ground := Go.Ground.chain }, { on := 0, ground := Go.Ground.phase }, { on := 1, ground := Go.Ground.phase }, { on := 2, ground := Go.Ground.phase }, { on := 3, ground := Go.Ground.phase }, { on := 4, ground := Go.Ground.phase }, { on := 5, ground := Go.Ground.phase }, { on := 6, ground := Go.Ground.phase }, { on := 7, ground := Go.Ground.phase }], guard := none }) rfl (fun K hK => ?_) AllReadyH.nil
          go_simp
          refine hK.out _ _ ?_ (fun hH3 => ?_)
          · exact ⟨far69 hnx hH2.1, far69 hnx hH2.2.1, far69 hnx hH2.2.2.1, far69 hnb hH2.2.2.2.1, far69 hnb hH2.2.2.2.2.1, far69 hnb hH2.2.2.2.2.2.1, far69 hnb hH2.2.2.2.2.2.2.1, far69 hnb hH2.2.2.2.2.2.2.2.1, far69 hnb hH2.2.2.2.2.2.2.2.2⟩
          clear hK K
          try simp only [Act.put, List.setIfInBounds_toArray, List.set_cons_zero, List.set_cons_succ]
          refine wpAnyH_done (by kernel_rfl) ?_ _
          obtain ⟨V3, hV⟩ : ∃ V, V = ((((((w'.setCell ⟨w1.heap.size, 0, none⟩ (.int .i64 o.cls)).setCell ⟨w1.heap.size, 1, none⟩ (.int .i64 o.kind)).setCell ⟨w1.heap.size, 2, none⟩ (.slice (some ⟨bs, os, none⟩) nn dd)).setCell ⟨w1.heap.size, 3, none⟩ (.string o.text)).setCell ⟨w1.heap.size, 4, none⟩ (.int .i64 o.bits)).setCell ⟨w1.heap.size, 5, none⟩ (.int .i64 o.hash)) := ⟨_, rfl⟩
          have hLV : Lies V3 w1.heap.size 46 #[.int .i64 o.cls, .int .i64 o.kind, .slice (some ⟨bs, os, none⟩) nn dd, .string o.text, .int .i64 o.bits, .int .i64 o.hash] := by
            rw [hV]
            have := ((((((hL0.set_ 0 (.int .i64 o.cls)).set_ 1 (.int .i64 o.kind)).set_ 2 (.slice (some ⟨bs, os, none⟩) nn dd)).set_ 3 (.string o.text)).set_ 4 (.int .i64 o.bits)).set_ 5 (.int .i64 o.hash))
            simpa using this
          have hBV : Below w1.heap.size w1 V3 := by rw [hV]; exact ((((((hB0_.setCell (p := ⟨w1.heap.size, 0, none⟩) (Nat.le_refl _) (.int .i64 o.cls)).setCell (p := ⟨w1.heap.size, 1, none⟩) (Nat.le_refl _) (.int .i64 o.kind)).setCell (p := ⟨w1.heap.size, 2, none⟩) (Nat.le_refl _) (.slice (some ⟨bs, os, none⟩) nn dd)).setCell (p := ⟨w1.heap.size, 3, none⟩) (Nat.le_refl _) (.string o.text)).setCell (p := ⟨w1.heap.size, 4, none⟩) (Nat.le_refl _) (.int .i64 o.bits)).setCell (p := ⟨w1.heap.size, 5, none⟩) (Nat.le_refl _) (.int .i64 o.hash))
          rw [← hV]
          clear hV hL0 k0 k1 k2 k3 k4 k5 kf0 kf1 kf2 kf3 kf4 kf5
          have L3 := hid hLV
          clear hLV hB0_
          go_wp2_with fail
          go_meet
          exact ⟨w1.heap.size, rfl, L3.out, hBV⟩
      case rest =>
        rename World => w2
        obtain ⟨g, rfl, hL, hb⟩ := hcut
        have HG := hid hL
        have HB12 := hid hb
        have HB2 := hid (then_w HB1.out hb)
        have HX2 := hid (HX1.out.later hb)
        have O2 := hid (O1.out.below hb)
        clear hb hL x0 x1 x2 a0 a1 a2 a3 a4 a5 hnb hnx
        have x0 := HX2.out.cell 0
        have x1 := HX2.out.cell 1
        have x2 := HX2.out.cell 2
        have y2 := HG.out.cell 2
        simp only [List.getElem?_toArray, List.getElem?_cons_zero, List.getElem?_cons_succ] at x0 x1 x2 y2
        have s1 := cell_later HB12.out Z1.out
        go_upto_region 4 with fail
        refine wp_region_held_drew (S := (fun w' => w'.cell? ⟨w.heap.size, 0, none⟩ = some (.slice (some ⟨b, off, none⟩) h.objs.length d) ∧ w'.cell? ⟨w.heap.size, 1, none⟩ = some (.int .i64 h.cap) ∧ w'.cell? ⟨w.heap.size, 2, none⟩ = some (.int .i64 h.last) ∧ w'.cell? ⟨g, 2, none⟩ = some (.slice (some ⟨bs, os, none⟩) nn dd) ∧ w'.cell? ⟨bs, os + 1, none⟩ = some (.int .i64 v1))) (by kernel_rfl) ?_ (fun hH0 => ?_)
        · exact ⟨x0, x1, x2, y2, s1⟩
        refine wpAnyH_take (i := 0) (oi := { dst := some 27, op := Go.Op.load 24 (Go.Operand.tmp 4), type := 24, pos := "ref.go:55", after := #[], guard := none }) (v := ?vv27) rfl (by kernel_rfl) (by kernel_rfl) (by kernel_rfl) (fun _ _ _ h => h) (Or.inl ⟨by rfl, ?hy27⟩) (by assumption) ?rr27
        case hy27 => intro w hSw; (try dsimp only at hSw); go_simp; all_goals with_reducible rfl
        try simp only [Act.put, List.setIfInBounds_toArray, List.set_cons_zero, List.set_cons_succ]
        refine wpAnyH_take (i := 1) (oi := { dst := some 28, op := Go.Op.fieldAddr 46 (Go.Operand.tmp 11) 2, type := 0, pos := "ref.go:55", after := #[], guard := none }) (v := ?vv28) rfl (by kernel_rfl) (by kernel_rfl) (by kernel_rfl) (fun _ _ _ h => h) (Or.inl ⟨by rfl, ?hy28⟩) (by assumption) ?rr28
        case hy28 => intro w hSw; (try dsimp only at hSw); go_simp; all_goals with_reducible rfl
        try simp only [Act.put, List.setIfInBounds_toArray, List.set_cons_zero, List.set_cons_succ]
        refine wpAnyH_take (i := 2) (oi := { dst := some 29, op := Go.Op.load 44 (Go.Operand.tmp 28), type := 44, pos := "ref.go:55", after := #[{ on := 1, ground := Go.Ground.data }], guard := none }) (v := ?vv29) rfl (by kernel_rfl) (by kernel_rfl) (by kernel_rfl) (fun _ _ _ h => h) (Or.inl ⟨by rfl, ?hy29⟩) (by assumption) ?rr29
        case hy29 => intro w hSw; (try dsimp only at hSw); go_simp; all_goals with_reducible rfl
        try simp only [Act.put, List.setIfInBounds_toArray, List.set_cons_zero, List.set_cons_succ]
        refine wpAnyH_take (i := 3) (oi := { dst := some 30, op := Go.Op.indexAddr 44 (Go.Operand.tmp 29) (Go.Operand.const (Go.Value.int Go.IntKind.i64 1)), type := 0, pos := "ref.go:55", after := #[{ on := 2, ground := Go.Ground.data }], guard := none }) (v := ?vv30) rfl (by kernel_rfl) (by kernel_rfl) (by kernel_rfl) (fun _ _ _ h => h) (Or.inl ⟨by rfl, ?hy30⟩) (by assumption) ?rr30
        case hy30 => intro w hSw; (try dsimp only at hSw); go_simp; all_goals with_reducible rfl
        try simp only [Act.put, List.setIfInBounds_toArray, List.set_cons_zero, List.set_cons_succ]
        refine wpAnyH_take (i := 4) (oi := { dst := some 31, op := Go.Op.load 3 (Go.Operand.tmp 30), type := 3, pos := "ref.go:55", after := #[{ on := 3, ground := Go.Ground.data }], guard := none }) (v := ?vv31) rfl (by kernel_rfl) (by kernel_rfl) (by kernel_rfl) (fun _ _ _ h => h) (Or.inl ⟨by rfl, ?hy31⟩) (by assumption) ?rr31
        case hy31 => intro w hSw; (try dsimp only at hSw); go_simp; all_goals with_reducible rfl
        try simp only [Act.put, List.setIfInBounds_toArray, List.set_cons_zero, List.set_cons_succ]
        refine wpAnyH_ready (rs := [5]) (by kernel_rfl) (by simp) ?_
        refine AllReadyH.cons (i := 5) (o := { dst := some 32, op := Go.Op.call { callee := Go.Callee.value (Go.Operand.func 85), args := #[Go.Operand.tmp 27, Go.Operand.tmp 31], argTypes := #[24, 3] }, type := 104, pos := "ref.go:55", after := #[{ on := 0, ground := Go.Ground.data }, { on := 4, ground := Go.Ground.data }], guard := none }) rfl (fun K hK => ?_) AllReadyH.nil
        go_simp
        go_at_call 85
        refine (rpairs_any9 h v1 (some ⟨b, off, none⟩) d _ (O2.out.below (Below.refl w2.heap.size w2).drew) HF.out).mono ?_
        rintro e u1 ⟨S1, d1, rfl, hI1, hb⟩
        have HV1 := hid (then_w (Below.refl w2.heap.size w2).drew hb)
        refine hK.out _ _ ?_ (fun hH1 => ?_)
        · exact ⟨cell_later hb hH0.1, cell_later hb hH0.2.1, cell_later hb hH0.2.2.1, cell_later hb hH0.2.2.2.1, cell_later hb hH0.2.2.2.2⟩
        clear hK K
        try simp only [Act.put, List.setIfInBounds_toArray, List.set_cons_zero, List.set_cons_succ]
        clear hb
        refine wpAnyH_take (i := 6) (oi := { dst := some 26, op := Go.Op.move (Go.Operand.tmp 32), type := 104, pos := "ref.go:55", after := #[{ on := 5, ground := Go.Ground.data }], guard := none }) (v := ?vv32) rfl (by kernel_rfl) (by kernel_rfl) (by kernel_rfl) (fun _ _ _ h => h) (Or.inl ⟨by rfl, ?hy32⟩) (by assumption) ?rr32
        case hy32 => intro w hSw; (try dsimp only at hSw); go_simp; all_goals with_reducible rfl
        try simp only [Act.put, List.setIfInBounds_toArray, List.set_cons_zero, List.set_cons_succ]
        refine wpAnyH_take (i := 7) (oi := { dst := some 33, op := Go.Op.extract (Go.Operand.tmp 26) 0, type := 44, pos := "ref.go:55", after := #[{ on := 6, ground := Go.Ground.data }], guard := none }) (v := ?vv33) rfl (by kernel_rfl) (by kernel_rfl) (by kernel_rfl) (fun _ _ _ h => h) (Or.inl ⟨by rfl, ?hy33⟩) (by assumption) ?rr33
        case hy33 => intro w hSw; (try dsimp only at hSw); go_simp; all_goals with_reducible rfl
        try simp only [Act.put, List.setIfInBounds_toArray, List.set_cons_zero, List.set_cons_succ]
        refine wpAnyH_take (i := 8) (oi := { dst := some 34, op := Go.Op.extract (Go.Operand.tmp 26) 1, type := 4, pos := "ref.go:55", after := #[{ on := 6, ground := Go.Ground.data }, { on := 9, ground := Go.Ground.gcOnly Go.Departure.lateStores }], guard := none }) (v := ?vv34) rfl (by kernel_rfl) (by kernel_rfl) (by kernel_rfl) (fun _ _ _ h => h) (Or.inl ⟨by rfl, ?hy34⟩) (by assumption) ?rr34
        case hy34 => intro w hSw; (try dsimp only at hSw); go_simp; all_goals with_reducible rfl
        try simp only [Act.put, List.setIfInBounds_toArray, List.set_cons_zero, List.set_cons_succ]
        refine wpAnyH_take (i := 9) (oi := { dst := some 12, op := Go.Op.assign (Go.Operand.tmp 33), type := 44, pos := "ref.go:55", after := #[{ on := 7, ground := Go.Ground.data }, { on := 5, ground := Go.Ground.chain }, { on := 0, ground := Go.Ground.phase }, { on := 1, ground := Go.Ground.phase }, { on := 2, ground := Go.Ground.phase }, { on := 3, ground := Go.Ground.phase }, { on := 4, ground := Go.Ground.phase }, { on := 5, ground := Go.Ground.phase }, { on := 6, ground := Go.Ground.phase }, { on := 7, ground := Go.Ground.phase }, { on := 8, ground := Go.Ground.textOnly Go.Departure.lateStores }], guard := none }) (v := ?vv35) rfl (by kernel_rfl) (by kernel_rfl) (by kernel_rfl) (fun _ _ _ h => h) (Or.inl ⟨by rfl, ?hy35⟩) (by assumption) ?rr35
        case hy35 => intro w hSw; (try dsimp only at hSw); go_simp; all_goals with_reducible rfl
        try simp only [Act.put, List.setIfInBounds_toArray, List.set_cons_zero, List.set_cons_succ]
        refine wpAnyH_take (i := 10) (oi := { dst := some 13, op := Go.Op.assign (Go.Operand.tmp 34), type := 4, pos := "ref.go:55", after := #[{ on := 8, ground := Go.Ground.data }, { on := 9, ground := Go.Ground.chain }, { on := 0, ground := Go.Ground.phase }, { on := 1, ground := Go.Ground.phase }, { on := 2, ground := Go.Ground.phase }, { on := 3, ground := Go.Ground.phase }, { on := 4, ground := Go.Ground.phase }, { on := 5, ground := Go.Ground.phase }, { on := 6, ground := Go.Ground.phase }, { on := 7, ground := Go.Ground.phase }, { on := 8, ground := Go.Ground.phase }, { on := 9, ground := Go.Ground.phase }], guard := none }) (v := ?vv36) rfl (by kernel_rfl) (by kernel_rfl) (by kernel_rfl) (fun _ _ _ h => h) (Or.inl ⟨by rfl, ?hy36⟩) (by assumption) ?rr36
        case hy36 => intro w hSw; (try dsimp only at hSw); go_simp; all_goals with_reducible rfl
        try simp only [Act.put, List.setIfInBounds_toArray, List.set_cons_zero, List.set_cons_succ]
        refine wpAnyH_done (by kernel_rfl) ?_ _
        obtain ⟨w3, hw3⟩ : ∃ u, u = u1 := ⟨_, rfl⟩
        have hb := HV1.out
        rw [← hw3] at hb hI1 ⊢
        have HVX := hid hb
        have HB3 := hid (then_w HB2.out hb)
        have HX3 := hid (HX2.out.later hb)
        have HG3 := hid (HG.out.later hb)
        have HI1 := hid hI1
        clear hb hw3 HV1 hH0 hH1 x0 x1 x2 y2 s1 hI1
        obtain ⟨L, hL⟩ : ∃ L, L = paL9 h v1 := ⟨_, rfl⟩
        rw [← hL] at HI1 HL64 E ⊢
        clear hL
        have y2 := HG3.out.cell 2
        simp only [List.getElem?_toArray, List.getElem?_cons_zero, List.getElem?_cons_succ] at y2
        have HB13 := hid (then_w HB12.out HVX.out)
        have s0 := cell_later HB13.out Z0.out
        go_wp2_with fail
        go_loopw [14] (fun i wr => ∃ j : Nat, j ≤ L.length + 2 ∧ i = .int .i64 j ∧ Hid (pf9 (L.drop j) s = pf9 L s) ∧ wr = w3) (fun i _ => L.length + 3 - (intOf i).toNat)
        case atStart => exact ⟨0, by omega, rfl, hid rfl, rfl⟩
        case round =>
          obtain ⟨j, hjl, rfl, HP, rfl⟩ := hrel
          have hj70 := HL64.out
          have hjw : IntKind.i64.wrap ((j : Int) + 1) = (j : Int) + 1 := IntWalk.i64_in _ ⟨by omega, by omega⟩
          have hjw2 : IntKind.i64.wrap ((j : Int) + 2) = (j : Int) + 2 := IntWalk.i64_in _ ⟨by omega, by omega⟩
          by_cases hj : j + 1 < L.length
          · have hjI : (j : Int) + 1 < (L.length : Int) := by omega
            have hjI2 : (j : Int) < (L.length : Int) := by omega
            have hjI3 : (0 : Int) ≤ (j : Int) + 1 := by omega
            obtain ⟨bl, ol, rfl, hbl, hcl⟩ := HI1.out (by omega)
            have l0 := hcl j _ (List.getElem?_eq_getElem (show j < L.length by omega))
            have l1 := hcl (j + 1) _ (List.getElem?_eq_getElem hj)
            have HNE := hid (pf9_next hj s)
            obtain ⟨u0, hu0⟩ : ∃ u, u = L[j]'(by omega) := ⟨_, rfl⟩
            obtain ⟨u1, hu1⟩ : ∃ u, u = L[j + 1]'hj := ⟨_, rfl⟩
            rw [← hu0] at l0 HNE
            rw [← hu1] at l1 HNE
            clear hcl hu0 hu1
            by_cases hs : u0 = s
            · have EE : Hid (fi9 h s ((k + 1) + 1) c = (u1, c, 0)) := by show _ = _; rw [E.out, ← HP.out, HNE.out, if_pos hs]; rfl
              subst hs
              go_wp2_with fail
              go_ret3
              exact ⟨by rw [EE.out]; rfl, HB3.out⟩
            · have hsB : (u0 == s) = false := beq_eq_false_iff_ne.2 hs
              have HPX : Hid (pf9 (L.drop (j + 2)) s = pf9 L s) := by show _ = _; rw [← HP.out, HNE.out, if_neg hs]
              go_wp2_with fail
              go_roundw
              case rel => exact ⟨j + 2, by omega, by go_num, HPX, trivial⟩
              case measure => simp only [intOf]; omega
          · have hjI : ¬ (j : Int) + 1 < (L.length : Int) := by omega
            have HPN : Hid (pf9 L s = none) := by show _ = _; rw [← HP.out]; exact pf9_end hj s
            by_cases hv : v0 = 0
            · have EE : Hid (fi9 h s (k + 1 + 1) c = (0, 0, 91)) := by show _ = _; rw [E.out, HPN.out]; simp [mt10, hv]
              subst hv
              go_wp2_with fail
              go_ret3
              exact ⟨by rw [EE.out]; rfl, HB3.out⟩
            · have hvB : (v0 == 0) = false := beq_eq_false_iff_ne.2 hv
              have EE : Hid (fi9 h s (k + 1 + 1) c = fi9 h s (k + 1) v0) := by show _ = _; rw [E.out, HPN.out]; simp [mt10, hv]
              have hn1 : ¬ n = 1 := by omega
              have hnB : (n == 1) = false := beq_eq_false_iff_ne.2 hn1
              have hnw : IntKind.i64.wrap (n - 1) = n - 1 := IntWalk.i64_in _ ⟨by omega, by omega⟩
              have HN1 : Hid (IntKind.i64.wrap ((k : Int) + 1) = (k : Int) + 1) := IntWalk.i64_in _ ⟨by omega, by omega⟩
              have O3 := hid (HS.out.below HB3.out)
              have x0 := HX3.out.cell 0
              have x1 := HX3.out.cell 1
              have x2 := HX3.out.cell 2
              simp only [List.getElem?_toArray, List.getElem?_cons_zero, List.getElem?_cons_succ] at x0 x1 x2
              go_upto_region 12 with fail
              refine wp_region_held_drew (S := (fun w' => w'.cell? ⟨w.heap.size, 0, none⟩ = some (.slice (some ⟨b, off, none⟩) h.objs.length d) ∧ w'.cell? ⟨w.heap.size, 1, none⟩ = some (.int .i64 h.cap) ∧ w'.cell? ⟨w.heap.size, 2, none⟩ = some (.int .i64 h.last) ∧ w'.cell? ⟨g, 2, none⟩ = some (.slice (some ⟨bs, os, none⟩) nn dd) ∧ w'.cell? ⟨bs, os, none⟩ = some (.int .i64 v0))) (by kernel_rfl) ?_ (fun hH0 => ?_)
              · exact ⟨x0, x1, x2, y2, s0⟩
              refine wpAnyH_take (i := 0) (oi := { dst := some 63, op := Go.Op.load 24 (Go.Operand.tmp 4), type := 24, pos := "ref.go:64", after := #[], guard := none }) (v := ?vv37) rfl (by kernel_rfl) (by kernel_rfl) (by kernel_rfl) (fun _ _ _ h => h) (Or.inl ⟨by rfl, ?hy37⟩) (by assumption) ?rr37
              case hy37 => intro w hSw; (try dsimp only at hSw); go_simp; all_goals with_reducible rfl
              try simp only [Act.put, List.setIfInBounds_toArray, List.set_cons_zero, List.set_cons_succ]
              refine wpAnyH_take (i := 1) (oi := { dst := some 64, op := Go.Op.fieldAddr 46 (Go.Operand.tmp 11) 2, type := 0, pos := "ref.go:64", after := #[], guard := none }) (v := ?vv38) rfl (by kernel_rfl) (by kernel_rfl) (by kernel_rfl) (fun _ _ _ h => h) (Or.inl ⟨by rfl, ?hy38⟩) (by assumption) ?rr38
              case hy38 => intro w hSw; (try dsimp only at hSw); go_simp; all_goals with_reducible rfl
              try simp only [Act.put, List.setIfInBounds_toArray, List.set_cons_zero, List.set_cons_succ]
              refine wpAnyH_take (i := 2) (oi := { dst := some 65, op := Go.Op.load 44 (Go.Operand.tmp 64), type := 44, pos := "ref.go:64", after := #[{ on := 1, ground := Go.Ground.data }], guard := none }) (v := ?vv39) rfl (by kernel_rfl) (by kernel_rfl) (by kernel_rfl) (fun _ _ _ h => h) (Or.inl ⟨by rfl, ?hy39⟩) (by assumption) ?rr39
              case hy39 => intro w hSw; (try dsimp only at hSw); go_simp; all_goals with_reducible rfl
              try simp only [Act.put, List.setIfInBounds_toArray, List.set_cons_zero, List.set_cons_succ]
              refine wpAnyH_take (i := 3) (oi := { dst := some 66, op := Go.Op.indexAddr 44 (Go.Operand.tmp 65) (Go.Operand.const (Go.Value.int Go.IntKind.i64 0)), type := 0, pos := "ref.go:64", after := #[{ on := 2, ground := Go.Ground.data }], guard := none }) (v := ?vv40) rfl (by kernel_rfl) (by kernel_rfl) (by kernel_rfl) (fun _ _ _ h => h) (Or.inl ⟨by rfl, ?hy40⟩) (by assumption) ?rr40
              case hy40 => intro w hSw; (try dsimp only at hSw); go_simp; all_goals with_reducible rfl
              try simp only [Act.put, List.setIfInBounds_toArray, List.set_cons_zero, List.set_cons_succ]
              refine wpAnyH_take (i := 4) (oi := { dst := some 67, op := Go.Op.load 3 (Go.Operand.tmp 66), type := 3, pos := "ref.go:64", after := #[{ on := 3, ground := Go.Ground.data }], guard := none }) (v := ?vv41) rfl (by kernel_rfl) (by kernel_rfl) (by kernel_rfl) (fun _ _ _ h => h) (Or.inl ⟨by rfl, ?hy41⟩) (by assumption) ?rr41
              case hy41 => intro w hSw; (try dsimp only at hSw); go_simp; all_goals with_reducible rfl
              try simp only [Act.put, List.setIfInBounds_toArray, List.set_cons_zero, List.set_cons_succ]
              refine wpAnyH_take (i := 5) (oi := { dst := some 68, op := Go.Op.move (Go.Operand.tmp 2), type := 3, pos := "ref.go:64", after := #[], guard := none }) (v := ?vv42) rfl (by kernel_rfl) (by kernel_rfl) (by kernel_rfl) (fun _ _ _ h => h) (Or.inl ⟨by rfl, ?hy42⟩) (by assumption) ?rr42
              case hy42 => intro w hSw; (try dsimp only at hSw); go_simp; all_goals with_reducible rfl
              try simp only [Act.put, List.setIfInBounds_toArray, List.set_cons_zero, List.set_cons_succ]
              refine wpAnyH_take (i := 6) (oi := { dst := some 69, op := Go.Op.move (Go.Operand.tmp 3), type := 3, pos := "ref.go:64", after := #[], guard := none }) (v := ?vv43) rfl (by kernel_rfl) (by kernel_rfl) (by kernel_rfl) (fun _ _ _ h => h) (Or.inl ⟨by rfl, ?hy43⟩) (by assumption) ?rr43
              case hy43 => intro w hSw; (try dsimp only at hSw); go_simp; all_goals with_reducible rfl
              try simp only [Act.put, List.setIfInBounds_toArray, List.set_cons_zero, List.set_cons_succ]
              refine wpAnyH_take (i := 7) (oi := { dst := some 70, op := Go.Op.binOp Go.BinOp.sub 3 (Go.Operand.tmp 69) (Go.Operand.const (Go.Value.int Go.IntKind.i64 1)) 3, type := 3, pos := "ref.go:64", after := #[{ on := 6, ground := Go.Ground.data }], guard := none }) (v := ?vv44) rfl (by kernel_rfl) (by kernel_rfl) (by kernel_rfl) (fun _ _ _ h => h) (Or.inl ⟨by rfl, ?hy44⟩) (by assumption) ?rr44
              case hy44 => intro w hSw; (try dsimp only at hSw); go_simp; all_goals with_reducible rfl
              try simp only [Act.put, List.setIfInBounds_toArray, List.set_cons_zero, List.set_cons_succ]
              refine wpAnyH_ready (rs := [8]) (by kernel_rfl) (by simp) ?_
              refine AllReadyH.cons (i := 8) (o := { dst := some 71, op := Go.Op.call { callee := Go.Callee.value (Go.Operand.func 70), args := #[Go.Operand.tmp 63, Go.Operand.tmp 67, Go.Operand.tmp 68, Go.Operand.tmp 70], argTypes := #[24, 3, 3, 3] }, type := 57, pos := "ref.go:64", after := #[{ on := 0, ground := Go.Ground.data }, { on := 4, ground := Go.Ground.data }, { on := 5, ground := Go.Ground.data }, { on := 7, ground := Go.Ground.data }], guard := none }) rfl (fun K hK => ?_) AllReadyH.nil
              go_simp
              go_at_call 70
              rw [HN1.out]
              refine (ih (by omega) v0 _ _ rfl (O3.out.below (Below.refl wr.heap.size wr).drew)).mono ?_
              rintro e u1 ⟨rfl, hb⟩
              unfold tv10
              have HV1 := hid (then_w (Below.refl wr.heap.size wr).drew hb)
              refine hK.out _ _ ?_ (fun hH1 => ?_)
              · exact ⟨cell_later hb hH0.1, cell_later hb hH0.2.1, cell_later hb hH0.2.2.1, cell_later hb hH0.2.2.2.1, cell_later hb hH0.2.2.2.2⟩
              clear hK K
              try simp only [Act.put, List.setIfInBounds_toArray, List.set_cons_zero, List.set_cons_succ]
              clear hb
              refine wpAnyH_take (i := 9) (oi := { dst := some 72, op := Go.Op.extract (Go.Operand.tmp 71) 0, type := 3, pos := "ref.go:64", after := #[{ on := 8, ground := Go.Ground.data }], guard := none }) (v := ?vv45) rfl (by kernel_rfl) (by kernel_rfl) (by kernel_rfl) (fun _ _ _ h => h) (Or.inl ⟨by rfl, ?hy45⟩) (by assumption) ?rr45
              case hy45 => intro w hSw; (try dsimp only at hSw); go_simp; all_goals with_reducible rfl
              try simp only [Act.put, List.setIfInBounds_toArray, List.set_cons_zero, List.set_cons_succ]
              refine wpAnyH_take (i := 10) (oi := { dst := some 73, op := Go.Op.extract (Go.Operand.tmp 71) 1, type := 3, pos := "ref.go:64", after := #[{ on := 8, ground := Go.Ground.data }], guard := none }) (v := ?vv46) rfl (by kernel_rfl) (by kernel_rfl) (by kernel_rfl) (fun _ _ _ h => h) (Or.inl ⟨by rfl, ?hy46⟩) (by assumption) ?rr46
              case hy46 => intro w hSw; (try dsimp only at hSw); go_simp; all_goals with_reducible rfl
              try simp only [Act.put, List.setIfInBounds_toArray, List.set_cons_zero, List.set_cons_succ]
              refine wpAnyH_take (i := 11) (oi := { dst := some 74, op := Go.Op.extract (Go.Operand.tmp 71) 2, type := 29, pos := "ref.go:64", after := #[{ on := 8, ground := Go.Ground.data }], guard := none }) (v := ?vv47) rfl (by kernel_rfl) (by kernel_rfl) (by kernel_rfl) (fun _ _ _ h => h) (Or.inl ⟨by rfl, ?hy47⟩) (by assumption) ?rr47
              case hy47 => intro w hSw; (try dsimp only at hSw); go_simp; all_goals with_reducible rfl
              try simp only [Act.put, List.setIfInBounds_toArray, List.set_cons_zero, List.set_cons_succ]
              refine wpAnyH_take (i := 12) (oi := { dst := some 8, op := Go.Op.assign (Go.Operand.tmp 72), type := 3, pos := "ref.go:64", after := #[{ on := 9, ground := Go.Ground.data }, { on := 8, ground := Go.Ground.chain }, { on := 0, ground := Go.Ground.phase }, { on := 1, ground := Go.Ground.phase }, { on := 2, ground := Go.Ground.phase }, { on := 3, ground := Go.Ground.phase }, { on := 4, ground := Go.Ground.phase }, { on := 5, ground := Go.Ground.phase }, { on := 6, ground := Go.Ground.phase }, { on := 7, ground := Go.Ground.phase }, { on := 8, ground := Go.Ground.phase }, { on := 9, ground := Go.Ground.phase }, { on := 10, ground := Go.Ground.phase }, { on := 11, ground := Go.Ground.phase }], guard := none }) (v := ?vv48) rfl (by kernel_rfl) (by kernel_rfl) (by kernel_rfl) (fun _ _ _ h => h) (Or.inl ⟨by rfl, ?hy48⟩) (by assumption) ?rr48
              case hy48 => intro w hSw; (try dsimp only at hSw); go_simp; all_goals with_reducible rfl
              try simp only [Act.put, List.setIfInBounds_toArray, List.set_cons_zero, List.set_cons_succ]
              refine wpAnyH_take (i := 13) (oi := { dst := some 9, op := Go.Op.assign (Go.Operand.tmp 73), type := 3, pos := "ref.go:64", after := #[{ on := 10, ground := Go.Ground.data }, { on := 12, ground := Go.Ground.chain }, { on := 0, ground := Go.Ground.phase }, { on := 1, ground := Go.Ground.phase }, { on := 2, ground := Go.Ground.phase }, { on := 3, ground := Go.Ground.phase }, { on := 4, ground := Go.Ground.phase }, { on := 5, ground := Go.Ground.phase }, { on := 6, ground := Go.Ground.phase }, { on := 7, ground := Go.Ground.phase }, { on := 8, ground := Go.Ground.phase }, { on := 9, ground := Go.Ground.phase }, { on := 10, ground := Go.Ground.phase }, { on := 11, ground := Go.Ground.phase }, { on := 12, ground := Go.Ground.phase }], guard := none }) (v := ?vv49) rfl (by kernel_rfl) (by kernel_rfl) (by kernel_rfl) (fun _ _ _ h => h) (Or.inl ⟨by rfl, ?hy49⟩) (by assumption) ?rr49
              case hy49 => intro w hSw; (try dsimp only at hSw); go_simp; all_goals with_reducible rfl
              try simp only [Act.put, List.setIfInBounds_toArray, List.set_cons_zero, List.set_cons_succ]
              refine wpAnyH_take (i := 14) (oi := { dst := some 10, op := Go.Op.assign (Go.Operand.tmp 74), type := 29, pos := "ref.go:64", after := #[{ on := 11, ground := Go.Ground.data }, { on := 13, ground := Go.Ground.chain }, { on := 0, ground := Go.Ground.phase }, { on := 1, ground := Go.Ground.phase }, { on := 2, ground := Go.Ground.phase }, { on := 3, ground := Go.Ground.phase }, { on := 4, ground := Go.Ground.phase }, { on := 5, ground := Go.Ground.phase }, { on := 6, ground := Go.Ground.phase }, { on := 7, ground := Go.Ground.phase }, { on := 8, ground := Go.Ground.phase }, { on := 9, ground := Go.Ground.phase }, { on := 10, ground := Go.Ground.phase }, { on := 11, ground := Go.Ground.phase }, { on := 12, ground := Go.Ground.phase }, { on := 13, ground := Go.Ground.phase }], guard := none }) (v := ?vv50) rfl (by kernel_rfl) (by kernel_rfl) (by kernel_rfl) (fun _ _ _ h => h) (Or.inl ⟨by rfl, ?hy50⟩) (by assumption) ?rr50
              case hy50 => intro w hSw; (try dsimp only at hSw); go_simp; all_goals with_reducible rfl
              try simp only [Act.put, List.setIfInBounds_toArray, List.set_cons_zero, List.set_cons_succ]
              refine wpAnyH_done (by kernel_rfl) ?_ _
              go_wp2_with fail
              go_ret3
              exact ⟨by rw [EE.out]; rfl, then_w HB3.out HV1.out⟩
end Go.Proofs.Ytcahdhocilmoeaa
