/- move.moved walked; an object appended to a row of the call's own. -/
import Derived.Test.YtelljlmjhnjpiaaVU
import Derived.Test.YtelljlmjhnjpiaaA
namespace Go.Proofs.Ytelljlmjhnjpiaa
open Go.RowKit
set_option maxRecDepth 100000
theorem wp_app_run {P : Program} {w : World} {o : Oper} {a : Act} {K : Act → World → Prop} {Q : Exit → Act → World → Prop} (s x : Operand) (t : TypeId)
    (ho : o.op = .call { callee := .builtin .append, args := #[s, x], argTypes := #[t, t] }) (v1 : Value) (w1 : World) (hrun : (Builtin.append_ #[t, t] o.type #[a.eval s, a.eval x]).run P w = .ok v1 w1)
    (h : K (a.put o.dst v1) w1) : Oper.wp P o a w K Q := by
  unfold Oper.wp
  simp [execOp, ho, resolve, invoke, builtin, hrun, Result.andThen]
  exact h
theorem wpList_app_run {P : Program} {w : World} {ops : Array Oper} {rest : List Oper} {o : Oper} {a : Act} {Q : Exit → Act → World → Prop} (hgd : o.guard = none) (s x : Operand) (t : TypeId)
    (ho : o.op = .call { callee := .builtin .append, args := #[s, x], argTypes := #[t, t] }) (v1 : Value) (w1 : World) (hrun : (Builtin.append_ #[t, t] o.type #[a.eval s, a.eval x]).run P w = .ok v1 w1)
    (h : wpList P ops Q rest (a.put o.dst v1) w1) : wpList P ops Q (o :: rest) a w :=
  wpList_plain hgd fun _ hK => wp_app_run s x t ho v1 w1 hrun (hK _ _ h)
def obC (o : Ob) (S : Option Addr) (d : Nat) : Array Value := #[.int .i64 o.cls, .int .i64 o.kind, .slice S o.slots.length d, .string o.text, .int .i64 o.bits, .int .i64 o.hash]
/-- an object appended, run -/
theorem run_app_obj (w : World) (base b : Nat) (A : Option Addr) (c : Nat) (ls : List LO) (hO : OwnH w base A c ls) (hl : ls.length ≤ 256) (o : Ob) (S : Option Addr) (d : Nat)
    (hI : w.ownsRow b 3 1 (.slice S o.slots.length d) o.slots.length (o.slots.map (Value.int .i64))) (hb : base ≤ b) (hnew : ∀ (i : Nat) (li : LO) (a : Addr), ls[i]? = some li → li.S = some a → a.block < b) (hbase : base ≤ w.heap.size) :
    ∃ A' c' w', (Builtin.append_ #[22, 22] 22 #[.slice A ls.length c, .slice (some ⟨w.heap.size, 0, none⟩) 1 1]).run Try.prog (w.alloc (.cells (obC o S d) 46)) = .ok (.slice A' (ls.length + 1) c') w' ∧
      OwnH w' base A' c' (ls ++ [⟨o, S, d⟩]) ∧ (w.alloc (.cells (obC o S d) 46)).grownBy w' (Value.slice A ls.length c).ownBlock := by
  obtain ⟨j0, hj, hy0, hy1, hy2⟩ := info_parts obj_info
  have hal := below_alloc w (.cells (obC o S d) 46)
  have hO1 := hO.later hal
  have hI1 := own_later hI hal
  obtain ⟨v', w', h1, h2, h3, -⟩ := run_append_own (P := Try.prog) (w.alloc (.cells (obC o S d) 46)) base 22 22 46 j0 (.agg #[.int .i64 0, .int .i64 0, .slice none 0 0, .string ⟨#[]⟩, .int .i64 0, .int .i64 0]) 6 72 Try.underlying22 hj hy0 hy1 hy2 rfl (by decide) _ _ _ hO1.row ⟨w.heap.size, 0, none⟩ 1 1 (LO.mk o S d).cells rfl (by
      intro j u hu
      have := (Lies.new w 46 (obC o S d)).cell j
      rw [Addr.add_lit, Nat.zero_add, this]
      simpa [LO.cells, obC] using hu) (by
      intro u hu
      simp [LO.cells] at hu
      rcases hu with rfl | rfl | rfl | rfl | rfl | rfl <;> rfl) (by unfold maxLen; omega) (by omega) (Nat.le_trans hbase hal.size)
  obtain ⟨A', c', rfl⟩ := own_form h2
  exact ⟨A', c', w', h1, hO1.push (b := b) (l := ⟨o, S, d⟩) hI1 hb hnew h2 h3, h3⟩
set_option maxHeartbeats 2000000 in
theorem moved_any (t : List Int) (o : Ob) (A S : Option Addr) (c d : Nat) (w : World) (ht : IntsR w A t) (hI : IntsR w S o.slots) (htl : t.length ≤ 9223372036854775807) (hol : o.slots.length ≤ 64) :
    Calls Try.prog 72 #[.slice A t.length c, .agg #[.int .i64 o.cls, .int .i64 o.kind, .slice S o.slots.length d, .string o.text, .int .i64 o.bits, .int .i64 o.hash]] w (ObjOwn w (moO t o)) := by
  have HB0 := hid (below_alloc2 w (.cells #[.int .i64 o.cls, .int .i64 o.kind, .slice S o.slots.length d, .string o.text, .int .i64 o.bits, .int .i64 o.hash] 46) (.cells #[.int .i64 0, .int .i64 0, .slice none 0 0, .string ⟨#[]⟩, .int .i64 0, .int .i64 0] 46))
  have HK := hid ((Lies.new w 46 #[.int .i64 o.cls, .int .i64 o.kind, .slice S o.slots.length d, .string o.text, .int .i64 o.bits, .int .i64 o.hash]).alloc (.cells #[.int .i64 0, .int .i64 0, .slice none 0 0, .string ⟨#[]⟩, .int .i64 0, .int .i64 0] 46))
  have HL : Hid (Lies ((w.alloc (.cells #[.int .i64 o.cls, .int .i64 o.kind, .slice S o.slots.length d, .string o.text, .int .i64 o.bits, .int .i64 o.hash] 46)).alloc (.cells #[.int .i64 0, .int .i64 0, .slice none 0 0, .string ⟨#[]⟩, .int .i64 0, .int .i64 0] 46)) (w.heap.size + 1) 46 #[.int .i64 0, .int .i64 0, .slice none 0 0, .string ⟨#[]⟩, .int .i64 0, .int .i64 0]) := by
    have := Lies.new (w.alloc (.cells #[.int .i64 o.cls, .int .i64 o.kind, .slice S o.slots.length d, .string o.text, .int .i64 o.bits, .int .i64 o.hash] 46)) 46 #[.int .i64 0, .int .i64 0, .slice none 0 0, .string ⟨#[]⟩, .int .i64 0, .int .i64 0]
    simpa [Hid] using this
  have HT := hid ht
  have HI := hid hI
  clear ht hI
  obtain ⟨xs, hxs⟩ : ∃ xs, xs = o.slots.map (vaV t) := ⟨_, rfl⟩
  obtain ⟨x, hx⟩ : ∃ x, x = vaV t o.cls := ⟨_, rfl⟩
  have HXS := hid hxs
  have HX := hid hx
  have hm : moO t o = ⟨x, o.kind, xs, o.text, o.bits, o.hash⟩ := by unfold moO; rw [hxs, hx]
  rw [hm]
  clear hxs hx hm
  go_enter Try.func72, Try.ntmps72
  go_wp2_with fail
  refine (value_any t o.cls A c _ (HT.out.below HB0.out) htl).mono ?_
  rintro e w1 ⟨rfl, hw⟩
  obtain ⟨W0, hW0⟩ : ∃ W0, W0 = ((w.alloc (.cells #[.int .i64 o.cls, .int .i64 o.kind, .slice S o.slots.length d, .string o.text, .int .i64 o.bits, .int .i64 o.hash] 46)).alloc (.cells #[.int .i64 0, .int .i64 0, .slice none 0 0, .string ⟨#[]⟩, .int .i64 0, .int .i64 0] 46)) := ⟨_, rfl⟩
  rw [← hW0] at hw HB0 HK HL
  subst hw
  rw [← HX.out]
  clear hW0
  have k0 := HK.out.cell 0
  have k2 := HK.out.cell 2
  have f0 := HK.out.frozen 0
  simp only [List.getElem?_toArray, List.getElem?_cons_zero, List.getElem?_cons_succ] at k0 k2
  have HB1 := hid (HB0.out.setCell (p := ⟨w.heap.size, 0, none⟩) (Nat.le_refl _) (.int .i64 x))
  go_wp2_with fail
  refine (values_any t o.slots A S c d _ (HT.out.below HB1.out) (HI.out.below HB1.out) htl (by omega)).mono ?_
  rintro e w2 ⟨A2, c2, rfl, hown, hb2⟩
  rw [← HXS.out] at hown ⊢
  have HK2 := hid ((HK.out.set_ 0 (.int .i64 x)).later hb2)
  have HL2 := hid ((HL.out.far (p := ⟨w.heap.size, 0, none⟩) (by simp) (.int .i64 x)).later hb2)
  have HB2 := hid (HB1.out.trans (hb2.mono HB1.out.size))
  have HO2 := hid hown
  have hlt2 : w.heap.size + 1 < (w1.setCell ⟨w.heap.size, 0, none⟩ (.int .i64 x)).heap.size := by have := HL.out.lt; simpa using this
  clear hown hb2 k0 k2 f0
  have k0 := HK2.out.cell 0
  have k1 := HK2.out.cell 1
  have k2 := HK2.out.cell 2
  have k3 := HK2.out.cell 3
  have k4 := HK2.out.cell 4
  have k5 := HK2.out.cell 5
  have f2 := HK2.out.frozen 2
  have l0 := HL2.out.cell 0
  have l1 := HL2.out.cell 1
  have l2 := HL2.out.cell 2
  have l3 := HL2.out.cell 3
  have l4 := HL2.out.cell 4
  have l5 := HL2.out.cell 5
  have lf0 := HL2.out.frozen 0
  have lf1 := HL2.out.frozen 1
  have lf2 := HL2.out.frozen 2
  have lf3 := HL2.out.frozen 3
  have lf4 := HL2.out.frozen 4
  have lf5 := HL2.out.frozen 5
  simp only [List.setIfInBounds_toArray, List.set_cons_zero, List.getElem?_toArray, List.getElem?_cons_zero, List.getElem?_cons_succ] at k0 k1 k2 k3 k4 k5 l0 l1 l2 l3 l4 l5
  go_wp2_with fail
  have X0 : Lies (w2.setCell ⟨w.heap.size, 2, none⟩ (.slice A2 xs.length c2)) (w.heap.size + 1) 46 #[.int .i64 0, .int .i64 0, .slice none 0 0, .string ⟨#[]⟩, .int .i64 0, .int .i64 0] := HL2.out.far (by simp) _
  have X1 := (((((X0.set_ 0 (.int .i64 x)).set_ 1 (.int .i64 o.kind)).set_ 2 (.slice A2 xs.length c2)).set_ 3 (.string o.text)).set_ 4 (.int .i64 o.bits)).set_ 5 (.int .i64 o.hash)
  have r0 := X1.cell 0
  have r1 := X1.cell 1
  have r2 := X1.cell 2
  have r3 := X1.cell 3
  have r4 := X1.cell 4
  have r5 := X1.cell 5
  simp only [List.setIfInBounds_toArray, List.set_cons_zero, List.set_cons_succ, List.getElem?_toArray, List.getElem?_cons_zero, List.getElem?_cons_succ] at r0 r1 r2 r3 r4 r5
  refine bodyPost_ret (v := .agg #[.int .i64 x, .int .i64 o.kind, .slice A2 xs.length c2, .string o.text, .int .i64 o.bits, .int .i64 o.hash]) (by simp [results, Try.results72, go_sem, r0, r1, r2, r3, r4, r5]) rfl ?_
  refine ⟨A2, c2, rfl, ?_, ?_⟩
  · refine own_lower (base := (w1.setCell ⟨w.heap.size, 0, none⟩ (.int .i64 x)).heap.size) ?_ (by omega)
    exact ownsRow_setCell_below (ownsRow_setCell_below (ownsRow_setCell_below (ownsRow_setCell_below (ownsRow_setCell_below (ownsRow_setCell_below (ownsRow_setCell_below HO2.out (by show w.heap.size < _; omega) _) (by show w.heap.size + 1 < _; omega) _) (by show w.heap.size + 1 < _; omega) _) (by show w.heap.size + 1 < _; omega) _) (by show w.heap.size + 1 < _; omega) _) (by show w.heap.size + 1 < _; omega) _) (by show w.heap.size + 1 < _; omega) _
  · exact ((((((HB2.out.setCell (p := ⟨w.heap.size, 2, none⟩) (by simp) _).setCell (p := ⟨w.heap.size + 1, 0, none⟩) (by simp) _).setCell (p := ⟨w.heap.size + 1, 1, none⟩) (by simp) _).setCell (p := ⟨w.heap.size + 1, 2, none⟩) (by simp) _).setCell (p := ⟨w.heap.size + 1, 3, none⟩) (by simp) _).setCell (p := ⟨w.heap.size + 1, 4, none⟩) (by simp) _).setCell (p := ⟨w.heap.size + 1, 5, none⟩) (by simp) _
end Go.Proofs.Ytelljlmjhnjpiaa
