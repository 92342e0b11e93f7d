/- Where one belongs: the two closures, and slices.IndexFunc with each. -/
import Derived.Test.YtkpfmbdkfgeboaaRM14
namespace Go.Proofs.Ytkpfmbdkfgeboaa
open Go.RowKit
set_option maxRecDepth 100000
set_option maxHeartbeats 2000000 in
theorem pbehind_any14 (h : Hp) (p q : Int) (A : Option Addr) (c bh bp : Nat) (u w : World) (hs : ObsR u A h.objs) (hu : Below u.heap.size u w) (hbh : Lies w bh 24 #[Value.slice A h.objs.length c, Value.int .i64 h.cap, Value.int .i64 h.last]) (hbp : Lies w bp 3 #[.int .i64 p]) (hq : pc14 h q = true) (hp : pc14 h p = true) :
    Calls Try.prog 30 #[.int .i64 q, .pointer (some ⟨bh, 0, none⟩), .pointer (some ⟨bp, 0, none⟩)] w fun e w' => e = .returned (.bool (be14 h p q)) ∧ Below w.heap.size w w' := by
  have HS := hid hs
  have HU := hid hu
  obtain ⟨x0, x1, x2⟩ := hbh.c3
  have y0 := hbp.cell 0
  simp only [List.getElem?_toArray, List.getElem?_cons_zero] at y0
  have HQ := hid hq
  have HP := hid hp
  obtain ⟨r, hr⟩ : ∃ r, r = be14 h p q := ⟨_, rfl⟩
  rw [← hr]
  obtain ⟨a, ha⟩ : ∃ a, a = pr14 h q := ⟨_, rfl⟩
  obtain ⟨b, hb⟩ : ∃ a, a = pr14 h p := ⟨_, rfl⟩
  have HR : Hid (r = decide (a < b)) := by show _ = _; rw [hr, ha, hb]; rfl
  have HA := hid ha
  have HB := hid hb
  clear hs hu hbh hbp hq hp hr ha hb
  go_enter Try.func30, Try.ntmps30
  go_upto_region 1 with fail
  refine wp_region_held_drew (S := (fun w' => w'.cell? ⟨bh, 0, none⟩ = some (.slice A h.objs.length c) ∧ w'.cell? ⟨bh, 1, none⟩ = some (.int .i64 h.cap) ∧ w'.cell? ⟨bh, 2, none⟩ = some (.int .i64 h.last) ∧ w'.cell? ⟨bp, 0, none⟩ = some (.int .i64 p) ∧ Below w.heap.size w w')) (by kernel_rfl) ?_ (fun hH0 => ?_)
  · exact ⟨cell_later (Below.refl w.heap.size w).drew x0, cell_later (Below.refl w.heap.size w).drew x1, cell_later (Below.refl w.heap.size w).drew x2, cell_later (Below.refl w.heap.size w).drew y0, (Below.refl _ _).drew⟩
  refine wpAnyH_take (i := 0) (oi := { dst := some 5, op := Go.Op.load 24 (Go.Operand.tmp 1), type := 24, pos := "proc.go:45", after := #[], guard := none }) (v := ?vv1) rfl (by kernel_rfl) (by kernel_rfl) (by kernel_rfl) (fun _ _ _ h => h) (Or.inl ⟨by rfl, ?hy1⟩) (by assumption) ?rr1
  case hy1 => intro w hSw; (try dsimp only at hSw); go_simp; all_goals with_reducible rfl
  try simp only [Act.put, List.setIfInBounds_toArray, List.set_cons_zero, List.set_cons_succ]
  refine wpAnyH_take (i := 1) (oi := { dst := some 6, op := Go.Op.move (Go.Operand.tmp 0), type := 3, pos := "proc.go:45", after := #[], guard := none }) (v := ?vv2) rfl (by kernel_rfl) (by kernel_rfl) (by kernel_rfl) (fun _ _ _ h => h) (Or.inl ⟨by rfl, ?hy2⟩) (by assumption) ?rr2
  case hy2 => intro w hSw; (try dsimp only at hSw); go_simp; all_goals with_reducible rfl
  try simp only [Act.put, List.setIfInBounds_toArray, List.set_cons_zero, List.set_cons_succ]
  refine wpAnyH_take (i := 3) (oi := { dst := some 8, op := Go.Op.load 24 (Go.Operand.tmp 1), type := 24, pos := "proc.go:45", after := #[], guard := none }) (v := ?vv3) rfl (by kernel_rfl) (by kernel_rfl) (by kernel_rfl) (fun _ _ _ h => h) (Or.inl ⟨by rfl, ?hy3⟩) (by assumption) ?rr3
  case hy3 => intro w hSw; (try dsimp only at hSw); go_simp; all_goals with_reducible rfl
  try simp only [Act.put, List.setIfInBounds_toArray, List.set_cons_zero, List.set_cons_succ]
  refine wpAnyH_take (i := 4) (oi := { dst := some 9, op := Go.Op.load 3 (Go.Operand.tmp 2), type := 3, pos := "proc.go:45", after := #[], guard := none }) (v := ?vv4) rfl (by kernel_rfl) (by kernel_rfl) (by kernel_rfl) (fun _ _ _ h => h) (Or.inl ⟨by rfl, ?hy4⟩) (by assumption) ?rr4
  case hy4 => intro w hSw; (try dsimp only at hSw); go_simp; all_goals with_reducible rfl
  try simp only [Act.put, List.setIfInBounds_toArray, List.set_cons_zero, List.set_cons_succ]
  refine wpAnyH_ready (rs := [2]) (by kernel_rfl) (by simp) ?_
  refine AllReadyH.cons (i := 2) (o := { dst := some 7, op := Go.Op.call { callee := Go.Callee.value (Go.Operand.func 31), args := #[Go.Operand.tmp 5, Go.Operand.tmp 6], argTypes := #[24, 3] }, type := 3, pos := "proc.go:45", after := #[{ on := 0, ground := Go.Ground.data }, { on := 1, ground := Go.Ground.data }], guard := none }) rfl (fun K hK => ?_) AllReadyH.nil
  go_simp
  go_at_call 31
  refine (pprio_any14 h q A c u _ HS.out (HU.out.trans ((hH0.2.2.2.2).mono HU.out.size)) HQ.out).mono ?_
  rintro e u1 ⟨rfl, hb⟩
  rw [← HA.out]
  refine hK.out _ _ ?_ (fun hH1 => ?_)
  · exact ⟨cell_later hb hH0.1, cell_later hb hH0.2.1, cell_later hb hH0.2.2.1, cell_later hb hH0.2.2.2.1, then_w hH0.2.2.2.2 hb⟩
  clear hK K
  try simp only [Act.put, List.setIfInBounds_toArray, List.set_cons_zero, List.set_cons_succ]
  clear hb
  refine wpAnyH_ready (rs := [5]) (by kernel_rfl) (by simp) ?_
  refine AllReadyH.cons (i := 5) (o := { dst := some 10, op := Go.Op.call { callee := Go.Callee.value (Go.Operand.func 31), args := #[Go.Operand.tmp 8, Go.Operand.tmp 9], argTypes := #[24, 3] }, type := 3, pos := "proc.go:45", after := #[{ on := 3, ground := Go.Ground.data }, { on := 4, ground := Go.Ground.data }, { on := 2, ground := Go.Ground.chain }], guard := none }) rfl (fun K hK => ?_) AllReadyH.nil
  go_simp
  go_at_call 31
  refine (pprio_any14 h p A c u _ HS.out (HU.out.trans ((hH1.2.2.2.2).mono HU.out.size)) HP.out).mono ?_
  rintro e u2 ⟨rfl, hb⟩
  rw [← HB.out]
  refine hK.out _ _ ?_ (fun hH2 => ?_)
  · exact ⟨cell_later hb hH1.1, cell_later hb hH1.2.1, cell_later hb hH1.2.2.1, cell_later hb hH1.2.2.2.1, then_w hH1.2.2.2.2 hb⟩
  clear hK K
  try simp only [Act.put, List.setIfInBounds_toArray, List.set_cons_zero, List.set_cons_succ]
  clear hb
  refine wpAnyH_take (i := 6) (oi := { dst := some 11, op := Go.Op.binOp Go.BinOp.lss 3 (Go.Operand.tmp 7) (Go.Operand.tmp 10) 3, type := 4, pos := "proc.go:45", after := #[{ on := 2, ground := Go.Ground.data }, { on := 5, ground := Go.Ground.data }], guard := none }) (v := ?vv5) rfl (by kernel_rfl) (by kernel_rfl) (by kernel_rfl) (fun _ _ _ h => h) (Or.inl ⟨by rfl, ?hy5⟩) (by assumption) ?rr5
  case hy5 => intro w hSw; (try dsimp only at hSw); go_simp; all_goals with_reducible rfl
  try simp only [Act.put, List.setIfInBounds_toArray, List.set_cons_zero, List.set_cons_succ]
  refine wpAnyH_take (i := 7) (oi := { dst := some 4, op := Go.Op.assign (Go.Operand.tmp 11), type := 4, pos := "proc.go:45", after := #[{ on := 6, ground := Go.Ground.data }, { on := 5, ground := Go.Ground.chain }, { on := 0, ground := Go.Ground.phase }, { on := 1, ground := Go.Ground.phase }, { on := 2, ground := Go.Ground.phase }, { on := 3, ground := Go.Ground.phase }, { on := 4, ground := Go.Ground.phase }, { on := 5, ground := Go.Ground.phase }, { on := 6, ground := Go.Ground.phase }], guard := none }) (v := ?vv6) rfl (by kernel_rfl) (by kernel_rfl) (by kernel_rfl) (fun _ _ _ h => h) (Or.inl ⟨by rfl, ?hy6⟩) (by assumption) ?rr6
  case hy6 => intro w hSw; (try dsimp only at hSw); go_simp; all_goals with_reducible rfl
  try simp only [Act.put, List.setIfInBounds_toArray, List.set_cons_zero, List.set_cons_succ]
  refine wpAnyH_done (by kernel_rfl) ?_ _
  go_wp2_with fail
  go_ret
  exact ⟨by rw [HR.out]; rfl, hH2.2.2.2.2⟩
theorem papp_any14 (q : Int) (w : World) : Calls Try.prog 32 #[.int .i64 q] w fun e w' => e = .returned (.bool false) ∧ Below w.heap.size w w' := by
  go_enter Try.func32, Try.ntmps32
  go_wp2
  go_ret
  exact ⟨rfl, Below.refl _ _⟩
theorem fi_step14 {b : Int → Bool} {l : List Int} {k : Nat} (hk : k < l.length) (h : k ≤ l.findIdx b) (hb : b l[k] = false) : k + 1 ≤ l.findIdx b := by
  rcases Nat.lt_or_ge k (l.findIdx b) with g | g
  · exact g
  · exfalso
    have e : l.findIdx b = k := by omega
    have := List.findIdx_getElem (w := show l.findIdx b < l.length by omega)
    simp only [e] at this
    rw [hb] at this; cases this
theorem fi_here14 {b : Int → Bool} {l : List Int} {k : Nat} (hk : k < l.length) (h : k ≤ l.findIdx b) (hb : b l[k] = true) : l.findIdx b = k := by
  rcases Nat.lt_or_ge k (l.findIdx b) with g | g
  · have := List.not_of_lt_findIdx g
    simp [hb] at this
  · omega
def fx14 (b : Int → Bool) (l : List Int) : Int := if l.findIdx b < l.length then (l.findIdx b : Int) else -1
set_option maxHeartbeats 2000000 in
theorem pidx_ins14 (l : List Int) (S : Option Addr) (d : Nat) (w : World) (hr : IntsR w S l) (hll : l.length ≤ 300) (h : Hp) (p : Int) (A : Option Addr) (c bh bp : Nat) (u : World) (hs : ObsR u A h.objs) (hu : Below u.heap.size u w) (hbh : Lies w bh 24 #[Value.slice A h.objs.length c, Value.int .i64 h.cap, Value.int .i64 h.last]) (hbp : Lies w bp 3 #[.int .i64 p]) (hl : ∀ q ∈ l, pc14 h q = true) (hp : pc14 h p = true) :
    Calls Try.prog 49 #[.slice S l.length d, .func (.func 30) #[] #[.pointer (some ⟨bh, 0, none⟩), .pointer (some ⟨bp, 0, none⟩)]] w fun e w' => e = .returned (.int .i64 (fx14 (be14 h p) l)) ∧ Below w.heap.size w w' := by
  have HS := hid hs
  have HU := hid hu
  have HBH := hid hbh
  have HBP := hid hbp
  have HL := hid hl
  have HP := hid hp
  clear hs hu hbh hbp hl hp
  have HRR := hid hr
  obtain ⟨b, hb⟩ : ∃ b : Int → Bool, b = (be14 h p) := ⟨_, rfl⟩
  obtain ⟨r, hrr⟩ : ∃ r, r = fx14 b l := ⟨_, rfl⟩
  rw [← hb, ← hrr]
  have HB := hid hb
  have HR := hid hrr
  clear hb hrr hr
  go_enter Try.func49, Try.ntmps49
  go_wp2
  go_loopw [8] (fun i wr => ∃ k : Nat, k ≤ l.length ∧ i = .int .i64 k ∧ Hid (k ≤ l.findIdx b) ∧ Hid (Below w.heap.size w wr)) (fun i _ => l.length - (intOf i).toNat)
  case atStart => exact ⟨0, Nat.zero_le _, rfl, Nat.zero_le _, Below.refl _ _⟩
  case round =>
    obtain ⟨k, hk, rfl, HI, HW⟩ := hrel
    by_cases hlt2 : k < l.length
    · obtain ⟨bs, os, rfl, hbs, hcs⟩ := HRR.out (by omega)
      have hcell : wr.cell? ⟨bs, os + k, none⟩ = some (.int .i64 l[k]) := (HW.out.cell (p := ⟨bs, os + k, none⟩) hbs).trans (hcs k _ (List.getElem?_eq_getElem hlt2))
      have HC : Hid (Calls Try.prog 30 (#[.int .i64 l[k]] ++ #[.pointer (some ⟨bh, 0, none⟩), .pointer (some ⟨bp, 0, none⟩)]) wr fun e w' => e = .returned (.bool (b l[k])) ∧ Below wr.heap.size wr w') := by
        rw [HB.out]
        exact pbehind_any14 h p _ A c bh bp u _ HS.out (HU.out.trans (HW.out.mono HU.out.size)) (HBH.out.later HW.out) (HBP.out.later HW.out) (HL.out _ (List.getElem_mem hlt2)) HP.out
      clear hcs hbs
      cases hv : b l[k]
      · rw [hv] at HC
        have HI2 := hid (fi_step14 hlt2 HI.out hv)
        clear hv
        go_wp2_with fail
        refine HC.out.mono ?_
        rintro e w' ⟨rfl, hb⟩
        go_wp2_with fail
        go_roundw
        case rel => exact ⟨k + 1, by omega, by go_num, HI2, HW.out.trans (hb.mono HW.out.size)⟩
        case measure => simp [intOf]; omega
      · rw [hv] at HC
        have HI2 := hid (fi_here14 hlt2 HI.out hv)
        clear hv
        go_wp2_with fail
        refine HC.out.mono ?_
        rintro e w' ⟨rfl, hb⟩
        go_wp2_with fail
        go_ret
        exact ⟨by rw [HR.out]; unfold fx14; rw [HI2.out, if_pos hlt2]; rfl, HW.out.trans (hb.mono HW.out.size)⟩
    · have e : k = l.length := by omega
      subst e
      have HR2 : Hid (r = -1) := by
        show _ = _
        rw [HR.out]; unfold fx14
        rw [if_neg (by have := HI.out; omega)]
      go_wp2
      go_ret
      exact ⟨by rw [HR2.out]; rfl, HW.out⟩
set_option maxHeartbeats 2000000 in
theorem pidx_app14 (l : List Int) (S : Option Addr) (d : Nat) (w : World) (hr : IntsR w S l) (hll : l.length ≤ 300) :
    Calls Try.prog 49 #[.slice S l.length d, .func (.func 32) #[] #[]] w fun e w' => e = .returned (.int .i64 (fx14 ((fun _ => false)) l)) ∧ Below w.heap.size w w' := by
  have HRR := hid hr
  obtain ⟨b, hb⟩ : ∃ b : Int → Bool, b = ((fun _ => false)) := ⟨_, rfl⟩
  obtain ⟨r, hrr⟩ : ∃ r, r = fx14 b l := ⟨_, rfl⟩
  rw [← hb, ← hrr]
  have HB := hid hb
  have HR := hid hrr
  clear hb hrr hr
  go_enter Try.func49, Try.ntmps49
  go_wp2
  go_loopw [8] (fun i wr => ∃ k : Nat, k ≤ l.length ∧ i = .int .i64 k ∧ Hid (k ≤ l.findIdx b) ∧ Hid (Below w.heap.size w wr)) (fun i _ => l.length - (intOf i).toNat)
  case atStart => exact ⟨0, Nat.zero_le _, rfl, Nat.zero_le _, Below.refl _ _⟩
  case round =>
    obtain ⟨k, hk, rfl, HI, HW⟩ := hrel
    by_cases hlt2 : k < l.length
    · obtain ⟨bs, os, rfl, hbs, hcs⟩ := HRR.out (by omega)
      have hcell : wr.cell? ⟨bs, os + k, none⟩ = some (.int .i64 l[k]) := (HW.out.cell (p := ⟨bs, os + k, none⟩) hbs).trans (hcs k _ (List.getElem?_eq_getElem hlt2))
      have HC : Hid (Calls Try.prog 32 (#[.int .i64 l[k]] ++ #[]) wr fun e w' => e = .returned (.bool (b l[k])) ∧ Below wr.heap.size wr w') := by
        rw [HB.out]
        exact papp_any14 _ _
      clear hcs hbs
      cases hv : b l[k]
      · rw [hv] at HC
        have HI2 := hid (fi_step14 hlt2 HI.out hv)
        clear hv
        go_wp2_with fail
        refine HC.out.mono ?_
        rintro e w' ⟨rfl, hb⟩
        go_wp2_with fail
        go_roundw
        case rel => exact ⟨k + 1, by omega, by go_num, HI2, HW.out.trans (hb.mono HW.out.size)⟩
        case measure => simp [intOf]; omega
      · rw [hv] at HC
        have HI2 := hid (fi_here14 hlt2 HI.out hv)
        clear hv
        go_wp2_with fail
        refine HC.out.mono ?_
        rintro e w' ⟨rfl, hb⟩
        go_wp2_with fail
        go_ret
        exact ⟨by rw [HR.out]; unfold fx14; rw [HI2.out, if_pos hlt2]; rfl, HW.out.trans (hb.mono HW.out.size)⟩
    · have e : k = l.length := by omega
      subst e
      have HR2 : Hid (r = -1) := by
        show _ = _
        rw [HR.out]; unfold fx14
        rw [if_neg (by have := HI.out; omega)]
      go_wp2
      go_ret
      exact ⟨by rw [HR2.out]; rfl, HW.out⟩
end Go.Proofs.Ytkpfmbdkfgeboaa
