/- An object appended to a row of the call's own. -/
import Derived.Test.YtfdjghllnbiffaaY
namespace Go.Proofs.Ytfdjghllnbiffaa
open Go.RowKit
theorem wp_app_run {P : Program} {w : World} {o : Oper} {a : Act} {K : Act → World → Prop} {Q : Exit → Act → World → Prop} (s x : Operand) (t : TypeId)
    (ho : o.op = .call { callee := .builtin .append, args := #[s, x], argTypes := #[t, t] }) (v1 : Value) (w1 : World) (hrun : (Builtin.append_ #[t, t] o.type #[a.eval s, a.eval x]).run P w = .ok v1 w1)
    (h : K (a.put o.dst v1) w1) : Oper.wp P o a w K Q := by
  unfold Oper.wp
  simp [execOp, ho, resolve, invoke, builtin, hrun, Result.andThen]
  exact h
theorem wpList_app_run {P : Program} {w : World} {ops : Array Oper} {rest : List Oper} {o : Oper} {a : Act} {Q : Exit → Act → World → Prop} (hgd : o.guard = none) (s x : Operand) (t : TypeId)
    (ho : o.op = .call { callee := .builtin .append, args := #[s, x], argTypes := #[t, t] }) (v1 : Value) (w1 : World) (hrun : (Builtin.append_ #[t, t] o.type #[a.eval s, a.eval x]).run P w = .ok v1 w1)
    (h : wpList P ops Q rest (a.put o.dst v1) w1) : wpList P ops Q (o :: rest) a w :=
  wpList_plain hgd fun _ hK => wp_app_run s x t ho v1 w1 hrun (hK _ _ h)
def obC (o : Ob) (S : Option Addr) (d : Nat) : Array Value := #[.int .i64 o.cls, .int .i64 o.kind, .slice S o.slots.length d, .string o.text, .int .i64 o.bits, .int .i64 o.hash]
/-- an object appended, run -/
theorem run_app_obj (w : World) (base b : Nat) (A : Option Addr) (c : Nat) (ls : List LO) (hO : OwnH w base A c ls) (hl : ls.length ≤ 100000) (o : Ob) (S : Option Addr) (d : Nat)
    (hI : w.ownsRow b 3 1 (.slice S o.slots.length d) o.slots.length (o.slots.map (Value.int .i64))) (hb : base ≤ b) (hnew : ∀ (i : Nat) (li : LO) (a : Addr), ls[i]? = some li → li.S = some a → a.block < b) (hbase : base ≤ w.heap.size) :
    ∃ A' c' w', (Builtin.append_ #[22, 22] 22 #[.slice A ls.length c, .slice (some ⟨w.heap.size, 0, none⟩) 1 1]).run Try.prog (w.alloc (.cells (obC o S d) 46)) = .ok (.slice A' (ls.length + 1) c') w' ∧
      OwnH w' base A' c' (ls ++ [⟨o, S, d⟩]) ∧ (w.alloc (.cells (obC o S d) 46)).grownBy w' (Value.slice A ls.length c).ownBlock := by
  obtain ⟨j0, hj, hy0, hy1, hy2⟩ := info_parts obj_info
  have hal := below_alloc w (.cells (obC o S d) 46)
  have hO1 := hO.later hal
  have hI1 := own_later hI hal
  obtain ⟨v', w', h1, h2, h3, -⟩ := run_append_own (P := Try.prog) (w.alloc (.cells (obC o S d) 46)) base 22 22 46 j0 (.agg #[.int .i64 0, .int .i64 0, .slice none 0 0, .string ⟨#[]⟩, .int .i64 0, .int .i64 0]) 6 72 Try.underlying22 hj hy0 hy1 hy2 rfl (by decide) _ _ _ hO1.row ⟨w.heap.size, 0, none⟩ 1 1 (LO.mk o S d).cells rfl (by
      intro j u hu
      have := (Lies.new w 46 (obC o S d)).cell j
      rw [Addr.add_lit, Nat.zero_add, this]
      simpa [LO.cells, obC] using hu) (by
      intro u hu
      simp [LO.cells] at hu
      rcases hu with rfl | rfl | rfl | rfl | rfl | rfl <;> rfl) (by unfold maxLen; omega) (by omega) (Nat.le_trans hbase hal.size)
  obtain ⟨A', c', rfl⟩ := own_form h2
  exact ⟨A', c', w', h1, hO1.push (b := b) (l := ⟨o, S, d⟩) hI1 hb hnew h2 h3, h3⟩
theorem OwnH.off {w : World} {base g : Nat} {A : Option Addr} {c : Nat} {ls : List LO} {cs : Array Value} (h : OwnH w base A c ls) (hB : Lies w g 24 cs) (o : Nat) (u : Value) : OwnH (w.setCell ⟨g, o, none⟩ u) base A c ls :=
  ⟨ownsRow_setCell_other h.row (own_blk_ne h.row hB (by decide)) _, fun i l hl => ownsRow_setCell_other (h.ints i l hl) (own_blk_ne (h.ints i l hl) hB (by decide)) _, h.apart⟩
theorem own_obs {w : World} {base : Nat} {A : Option Addr} {c : Nat} {ls : List LO} {os : List Ob} (h : OwnH w base A c ls) (e : ls.map (·.o) = os) : ObsR w A os := by rw [← e]; exact h.obs
end Go.Proofs.Ytfdjghllnbiffaa
