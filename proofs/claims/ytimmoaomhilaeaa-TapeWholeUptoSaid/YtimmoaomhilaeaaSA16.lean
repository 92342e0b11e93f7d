/- The document's words on tapes: all its inputs. -/
import Derived.Test.YtimmoaomhilaeaaMA16
namespace Go.Proofs.Ytimmoaomhilaeaa
open Go.RowKit
set_option maxRecDepth 100000
theorem rall_any16 (t : Tp) (A B : Option Addr) (c d : Nat) (w : World) (hA : IntsR w A t.log) (hB : IntsR w B t.rest) (nA : A = none → c = 0) (nB : B = none → d = 0) (hl : t.log.length + t.rest.length ≤ 1048576) :
    Calls Try.prog 17 #[.agg #[.slice A t.log.length c, .slice B t.rest.length d]] w (IntsOwn16 w (allT t)) := by
  obtain ⟨w0, hw0⟩ : ∃ w0, w0 = w.alloc (.cells #[.slice A t.log.length c, .slice B t.rest.length d] 24) := ⟨_, rfl⟩
  have HB0 : Hid (Below w.heap.size w w0) := by show Below _ _ _; rw [hw0]; exact below_alloc _ _
  have X0 : Hid (Lies w0 w.heap.size 24 #[.slice A t.log.length c, .slice B t.rest.length d]) := by show Lies _ _ _ _; rw [hw0]; exact Lies.new _ _ _
  have RA0 := hid (hA.below HB0.out)
  have RB0 := hid (hB.below HB0.out)
  have NA := hid nA
  have NB := hid nB
  clear hA hB nA nB
  go_enter Try.func17, Try.ntmps17
  go_upto_region 1 with fail
  rw [← hw0]
  clear hw0
  have x0 := X0.out.cell 0
  have x1 := X0.out.cell 1
  simp only [List.getElem?_toArray, List.getElem?_cons_zero, List.getElem?_cons_succ] at x0 x1
  obtain ⟨v1, w1, A2, c2, w2, r1, r2, ho, b1, b2⟩ := run_two16 w0.drew t.log t.rest A B c d RA0.out RB0.out NA.out NB.out hl
  have R1 := hid r1
  have R2 := hid r2
  have HO := hid ho
  have B1 : Hid (Below w0.heap.size w0 w1) := (Below.refl _ _).drew.trans b1
  have B2 : Hid (Below w0.heap.size w0 w2) := (Below.refl _ _).drew.trans b2
  clear r1 r2 ho b1 b2
  refine wp_region_held_drew (S := (fun w' => w'.cell? ⟨w.heap.size, 0, none⟩ = some (.slice A t.log.length c) ∧ w'.cell? ⟨w.heap.size, 1, none⟩ = some (.slice B t.rest.length d) ∧ Below w0.heap.size w0 w')) (by kernel_rfl) ?_ (fun hHeld => ?_)
  · exact ⟨x0, x1, (Below.refl _ _).drew⟩
  refine wpAnyH_take (i := 1) (oi := { dst := some 4, op := Go.Op.fieldAddr 24 (Go.Operand.tmp 1) 0, type := 0, pos := "ref.go:11", after := #[], guard := none }) (v := ?vv1) rfl (by kernel_rfl) (by kernel_rfl) (by kernel_rfl) (fun _ _ _ h => h) (Or.inl ⟨by rfl, ?hy1⟩) (by assumption) ?rr1
  case hy1 => intro w hSw; (try dsimp only at hSw); go_simp; all_goals with_reducible rfl
  try simp only [Act.put, List.setIfInBounds_toArray, List.set_cons_zero, List.set_cons_succ]
  refine wpAnyH_take (i := 2) (oi := { dst := some 5, op := Go.Op.load 22 (Go.Operand.tmp 4), type := 22, pos := "ref.go:11", after := #[{ on := 1, ground := Go.Ground.data }], guard := none }) (v := ?vv2) rfl (by kernel_rfl) (by kernel_rfl) (by kernel_rfl) (fun _ _ _ h => h) (Or.inl ⟨by rfl, ?hy2⟩) (by assumption) ?rr2
  case hy2 => intro w hSw; (try dsimp only at hSw); go_simp; all_goals with_reducible rfl
  try simp only [Act.put, List.setIfInBounds_toArray, List.set_cons_zero, List.set_cons_succ]
  refine wpAnyH_take (i := 4) (oi := { dst := some 7, op := Go.Op.fieldAddr 24 (Go.Operand.tmp 1) 1, type := 0, pos := "ref.go:11", after := #[], guard := none }) (v := ?vv3) rfl (by kernel_rfl) (by kernel_rfl) (by kernel_rfl) (fun _ _ _ h => h) (Or.inl ⟨by rfl, ?hy3⟩) (by assumption) ?rr3
  case hy3 => intro w hSw; (try dsimp only at hSw); go_simp; all_goals with_reducible rfl
  try simp only [Act.put, List.setIfInBounds_toArray, List.set_cons_zero, List.set_cons_succ]
  refine wpAnyH_take (i := 5) (oi := { dst := some 8, op := Go.Op.load 22 (Go.Operand.tmp 7), type := 22, pos := "ref.go:11", after := #[{ on := 4, ground := Go.Ground.data }], guard := none }) (v := ?vv4) rfl (by kernel_rfl) (by kernel_rfl) (by kernel_rfl) (fun _ _ _ h => h) (Or.inl ⟨by rfl, ?hy4⟩) (by assumption) ?rr4
  case hy4 => intro w hSw; (try dsimp only at hSw); go_simp; all_goals with_reducible rfl
  try simp only [Act.put, List.setIfInBounds_toArray, List.set_cons_zero, List.set_cons_succ]
  refine wpAnyH_ready (rs := [0]) (by kernel_rfl) (by simp) ?_
  refine AllReadyH.cons (i := 0) (o := { dst := some 3, op := Go.Op.buildSlice 22 0 #[], type := 22, pos := "ref.go:11", after := #[], guard := none }) rfl (fun K hK => ?_) AllReadyH.nil
  go_simp
  refine hK.out _ _ ?_ (fun hHeld => ?_)
  · exact ⟨cell_old x0, cell_old x1, dt16 (Below.refl _ _).drew (below_alloc _ _)⟩
  clear hK K
  try simp only [Act.put, List.setIfInBounds_toArray, List.set_cons_zero, List.set_cons_succ]
  have hH1 := hHeld
  clear hHeld
  have hHeld := hH1
  refine wpAnyH_ready (rs := [3]) (by kernel_rfl) (by simp) ?_
  refine AllReadyH.cons (i := 3) (o := { dst := some 6, op := Go.Op.call { callee := Go.Callee.builtin Go.Builtin.append, args := #[Go.Operand.tmp 3, Go.Operand.tmp 5], argTypes := #[22, 22] }, type := 22, pos := "ref.go:11", after := #[{ on := 0, ground := Go.Ground.data }, { on := 2, ground := Go.Ground.data }], guard := none }) rfl (fun K hK => ?_) AllReadyH.nil

  rw [if_pos (by rfl)]
  refine wp_append_run16 (.tmp 3) (.tmp 5) 22 rfl _ _ R1.out ?_
  refine hK.out _ _ ?_ (fun hHeld => ?_)
  · exact ⟨cell_later B1.out x0, cell_later B1.out x1, B1.out⟩
  clear hK K
  try simp only [Act.put, List.setIfInBounds_toArray, List.set_cons_zero, List.set_cons_succ]
  have hH2 := hHeld
  clear hHeld
  have hHeld := hH2
  refine wpAnyH_ready (rs := [6]) (by kernel_rfl) (by simp) ?_
  refine AllReadyH.cons (i := 6) (o := { dst := some 9, op := Go.Op.call { callee := Go.Callee.builtin Go.Builtin.append, args := #[Go.Operand.tmp 6, Go.Operand.tmp 8], argTypes := #[22, 22] }, type := 22, pos := "ref.go:11", after := #[{ on := 3, ground := Go.Ground.data }, { on := 5, ground := Go.Ground.data }, { on := 3, ground := Go.Ground.chain }], guard := none }) rfl (fun K hK => ?_) AllReadyH.nil

  rw [if_pos (by rfl)]
  refine wp_append_run16 (.tmp 6) (.tmp 8) 22 rfl _ _ R2.out ?_
  refine hK.out _ _ ?_ (fun hHeld => ?_)
  · exact ⟨cell_later B2.out x0, cell_later B2.out x1, B2.out⟩
  clear hK K
  try simp only [Act.put, List.setIfInBounds_toArray, List.set_cons_zero, List.set_cons_succ]
  have hH3 := hHeld
  clear hHeld
  have hHeld := hH3
  refine wpAnyH_take (i := 7) (oi := { dst := some 2, op := Go.Op.assign (Go.Operand.tmp 9), type := 22, pos := "ref.go:11", after := #[{ on := 6, ground := Go.Ground.data }, { on := 6, ground := Go.Ground.chain }, { on := 0, ground := Go.Ground.phase }, { on := 1, ground := Go.Ground.phase }, { on := 2, ground := Go.Ground.phase }, { on := 3, ground := Go.Ground.phase }, { on := 4, ground := Go.Ground.phase }, { on := 5, ground := Go.Ground.phase }, { on := 6, ground := Go.Ground.phase }], guard := none }) (v := ?vv5) rfl (by kernel_rfl) (by kernel_rfl) (by kernel_rfl) (fun _ _ _ h => h) (Or.inl ⟨by rfl, ?hy5⟩) (by assumption) ?rr5
  case hy5 => intro w hSw; (try dsimp only at hSw); go_simp; all_goals with_reducible rfl
  try simp only [Act.put, List.setIfInBounds_toArray, List.set_cons_zero, List.set_cons_succ]
  refine wpAnyH_done (by kernel_rfl) ?_ _
  go_wp2_with fail
  go_ret
  exact ⟨A2, c2, by rw [allT_len]; rfl, own_base16 HO.out HB0.out.size, HB0.out.trans (B2.out.mono HB0.out.size)⟩
end Go.Proofs.Ytimmoaomhilaeaa
