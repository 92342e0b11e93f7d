/- An object appended to a row of the call's own. Writes into a heap of the call's own: one slot, one text; what an error leaves. unchanged, Set, the program's and the document's. -/
import Derived.Test.YtkpfmbdkfgeboaaY
import Derived.Test.YtkpfmbdkfgeboaaR
namespace Go.Proofs.Ytkpfmbdkfgeboaa
open Go.RowKit
theorem wp_app_run {P : Program} {w : World} {o : Oper} {a : Act} {K : Act → World → Prop} {Q : Exit → Act → World → Prop} (s x : Operand) (t : TypeId)
    (ho : o.op = .call { callee := .builtin .append, args := #[s, x], argTypes := #[t, t] }) (v1 : Value) (w1 : World) (hrun : (Builtin.append_ #[t, t] o.type #[a.eval s, a.eval x]).run P w = .ok v1 w1)
    (h : K (a.put o.dst v1) w1) : Oper.wp P o a w K Q := by
  unfold Oper.wp
  simp [execOp, ho, resolve, invoke, builtin, hrun, Result.andThen]
  exact h
theorem wpList_app_run {P : Program} {w : World} {ops : Array Oper} {rest : List Oper} {o : Oper} {a : Act} {Q : Exit → Act → World → Prop} (hgd : o.guard = none) (s x : Operand) (t : TypeId)
    (ho : o.op = .call { callee := .builtin .append, args := #[s, x], argTypes := #[t, t] }) (v1 : Value) (w1 : World) (hrun : (Builtin.append_ #[t, t] o.type #[a.eval s, a.eval x]).run P w = .ok v1 w1)
    (h : wpList P ops Q rest (a.put o.dst v1) w1) : wpList P ops Q (o :: rest) a w :=
  wpList_plain hgd fun _ hK => wp_app_run s x t ho v1 w1 hrun (hK _ _ h)
def obC (o : Ob) (S : Option Addr) (d : Nat) : Array Value := #[.int .i64 o.cls, .int .i64 o.kind, .slice S o.slots.length d, .string o.text, .int .i64 o.bits, .int .i64 o.hash]
/-- an object appended, run -/
theorem run_app_obj (w : World) (base b : Nat) (A : Option Addr) (c : Nat) (ls : List LO) (hO : OwnH w base A c ls) (hl : ls.length ≤ 100000) (o : Ob) (S : Option Addr) (d : Nat)
    (hI : w.ownsRow b 3 1 (.slice S o.slots.length d) o.slots.length (o.slots.map (Value.int .i64))) (hb : base ≤ b) (hnew : ∀ (i : Nat) (li : LO) (a : Addr), ls[i]? = some li → li.S = some a → a.block < b) (hbase : base ≤ w.heap.size) :
    ∃ A' c' w', (Builtin.append_ #[22, 22] 22 #[.slice A ls.length c, .slice (some ⟨w.heap.size, 0, none⟩) 1 1]).run Try.prog (w.alloc (.cells (obC o S d) 43)) = .ok (.slice A' (ls.length + 1) c') w' ∧
      OwnH w' base A' c' (ls ++ [⟨o, S, d⟩]) ∧ (w.alloc (.cells (obC o S d) 43)).grownBy w' (Value.slice A ls.length c).ownBlock := by
  obtain ⟨j0, hj, hy0, hy1, hy2⟩ := info_parts obj_info
  have hal := below_alloc w (.cells (obC o S d) 43)
  have hO1 := hO.later hal
  have hI1 := own_later hI hal
  obtain ⟨v', w', h1, h2, h3, -⟩ := run_append_own (P := Try.prog) (w.alloc (.cells (obC o S d) 43)) base 22 22 43 j0 (.agg #[.int .i64 0, .int .i64 0, .slice none 0 0, .string ⟨#[]⟩, .int .i64 0, .int .i64 0]) 6 72 Try.underlying22 hj hy0 hy1 hy2 rfl (by decide) _ _ _ hO1.row ⟨w.heap.size, 0, none⟩ 1 1 (LO.mk o S d).cells rfl (by
      intro j u hu
      have := (Lies.new w 43 (obC o S d)).cell j
      rw [Addr.add_lit, Nat.zero_add, this]
      simpa [LO.cells, obC] using hu) (by
      intro u hu
      simp [LO.cells] at hu
      rcases hu with rfl | rfl | rfl | rfl | rfl | rfl <;> rfl) (by unfold maxLen; omega) (by omega) (Nat.le_trans hbase hal.size)
  obtain ⟨A', c', rfl⟩ := own_form h2
  exact ⟨A', c', w', h1, hO1.push (b := b) (l := ⟨o, S, d⟩) hI1 hb hnew h2 h3, h3⟩
theorem OwnH.off {w : World} {base g : Nat} {A : Option Addr} {c : Nat} {ls : List LO} {cs : Array Value} (h : OwnH w base A c ls) (hB : Lies w g 24 cs) (o : Nat) (u : Value) : OwnH (w.setCell ⟨g, o, none⟩ u) base A c ls :=
  ⟨ownsRow_setCell_other h.row (own_blk_ne h.row hB (by decide)) _, fun i l hl => ownsRow_setCell_other (h.ints i l hl) (own_blk_ne (h.ints i l hl) hB (by decide)) _, h.apart⟩
theorem own_obs {w : World} {base : Nat} {A : Option Addr} {c : Nat} {ls : List LO} {os : List Ob} (h : OwnH w base A c ls) (e : ls.map (·.o) = os) : ObsR w A os := by rw [← e]; exact h.obs
end Go.Proofs.Ytkpfmbdkfgeboaa
namespace Go.Proofs.Ytkpfmbdkfgeboaa
open Go.RowKit
theorem rowOf_upd (ls : List LO) (k : Nat) (l' : LO) (hk : k < ls.length) (j : Nat) : (rowOf (ls.set k l'))[j]? = if j / 6 = k then l'.cells[j % 6]? else (rowOf ls)[j]? := by
  by_cases hj : j < ls.length * 6
  · have hi : j / 6 < ls.length := by omega
    have hi' : j / 6 < (ls.set k l').length := by simpa using hi
    have e1 := rowOf_get ls (j / 6) (j % 6) ls[j / 6] (List.getElem?_eq_getElem hi) (by omega)
    have e2 := rowOf_get (ls.set k l') (j / 6) (j % 6) _ (List.getElem?_eq_getElem hi') (by omega)
    rw [show j / 6 * 6 + j % 6 = j by omega] at e1 e2
    rw [e2, e1]
    by_cases hjk : j / 6 = k
    · rw [if_pos hjk, List.getElem_set, if_pos hjk.symm]
    · rw [if_neg hjk, List.getElem_set, if_neg (fun e => hjk e.symm)]
  · rw [if_neg (by omega), List.getElem?_eq_none (by rw [rowOf_length]; simp; omega), List.getElem?_eq_none (by rw [rowOf_length]; omega)]
theorem rowOf_same (ls : List LO) (k : Nat) (l l' : LO) (hk : ls[k]? = some l) (h : l'.cells = l.cells) : rowOf (ls.set k l') = rowOf ls := by
  have hkl : k < ls.length := (List.getElem?_eq_some_iff.1 hk).1
  apply List.ext_getElem?
  intro j
  rw [rowOf_upd ls k l' hkl]
  by_cases e : j / 6 = k
  · rw [if_pos e, h]
    have := rowOf_get ls k (j % 6) l hk (by omega)
    rw [← this]; congr 1; omega
  · rw [if_neg e]
theorem rowOf_text (ls : List LO) (k : Nat) (l : LO) (s : ByteArray) (hk : ls[k]? = some l) : rowOf (ls.set k ⟨{ l.o with text := s }, l.S, l.c⟩) = (rowOf ls).set (k * 6 + 3) (.string s) := by
  have hkl : k < ls.length := (List.getElem?_eq_some_iff.1 hk).1
  apply List.ext_getElem?
  intro j
  rw [rowOf_upd ls k _ hkl, List.getElem?_set, rowOf_length]
  by_cases e : j / 6 = k
  · rw [if_pos e]
    have h0 := rowOf_get ls k (j % 6) l hk (by omega)
    rw [show k * 6 + j % 6 = j by omega] at h0
    by_cases h3 : k * 6 + 3 = j
    · rw [if_pos h3, if_pos (by omega), show j % 6 = 3 by omega]; rfl
    · rw [if_neg h3, h0]
      have hr : j % 6 = 0 ∨ j % 6 = 1 ∨ j % 6 = 2 ∨ j % 6 = 4 ∨ j % 6 = 5 := by omega
      rcases hr with r | r | r | r | r <;> rw [r] <;> rfl
  · rw [if_neg e, if_neg (by omega)]
theorem set_get {α : Type} {ls : List α} {i j : Nat} {l m : α} (h : (ls.set i l)[j]? = some m) : (i = j ∧ l = m) ∨ (i ≠ j ∧ ls[j]? = some m) := by
  rw [List.getElem?_set] at h
  by_cases e : i = j
  · rw [if_pos e] at h
    split at h
    · exact .inl ⟨e, Option.some.inj h⟩
    · cases h
  · rw [if_neg e] at h; exact .inr ⟨e, h⟩
theorem OwnH.slot {w : World} {base : Nat} {A : Option Addr} {c : Nat} {ls : List LO} (h : OwnH w base A c ls) {i j g : Nat} {x : Int} {l : LO} (hl : ls[i]? = some l) (hS : l.S = some ⟨g, 0, none⟩) :
    OwnH (w.setCell ⟨g, j, none⟩ (.int .i64 x)) base A c (ls.set i ⟨{ l.o with slots := l.o.slots.set j x }, l.S, l.c⟩) := by
  have hi := h.ints i l hl
  rw [hS] at hi
  obtain ⟨cur, hB, _, _, _⟩ := own_blk hi
  refine ⟨?_, fun k m hm => ?_, fun k k' lk lk' a b hk hk' hlt ha hb => ?_⟩
  · rw [rowOf_same ls i l _ hl (by simp [LO.cells]), List.length_set]
    exact ownsRow_setCell_other h.row (own_blk_ne h.row hB (by decide)) _
  · rcases set_get hm with ⟨rfl, rfl⟩ | ⟨hne, hm⟩
    · simp only [List.length_set, List.map_set]
      rw [hS]
      exact (hi.stored j (.int .i64 x)).1
    · have hm2 := h.ints k m hm
      refine ownsRow_setCell_other hm2 ?_ _
      intro e
      cases hmS : m.S with
      | none => rw [hmS] at e; cases e
      | some a =>
        rw [hmS] at e
        have e' : a.block = g := by simpa [Value.ownBlock] using e
        rcases Nat.lt_or_gt_of_ne hne with hlt | hlt
        · exact h.apart i k l m _ a hl hm hlt hS hmS e'.symm
        · exact h.apart k i m l a _ hm hl hlt hmS hS e'
  · rcases set_get hk with ⟨rfl, rfl⟩ | ⟨hne, hk⟩ <;> rcases set_get hk' with ⟨rfl, rfl⟩ | ⟨hne', hk'⟩
    · omega
    · exact h.apart _ _ l lk' a b hl hk' hlt ha hb
    · exact h.apart _ _ lk l a b hk hl hlt ha hb
    · exact h.apart _ _ lk lk' a b hk hk' hlt ha hb
theorem OwnH.text {w : World} {base g c : Nat} {ls : List LO} (h : OwnH w base (some ⟨g, 0, none⟩) c ls) {i : Nat} {s : ByteArray} {l : LO} (hl : ls[i]? = some l) :
    OwnH (w.setCell ⟨g, i * 6 + 3, none⟩ (.string s)) base (some ⟨g, 0, none⟩) c (ls.set i ⟨{ l.o with text := s }, l.S, l.c⟩) := by
  obtain ⟨cur, hB, _, _, _⟩ := own_blk h.row
  refine ⟨?_, fun k m hm => ?_, fun k k' lk lk' a b hk hk' hlt ha hb => ?_⟩
  · rw [rowOf_text ls i l s hl, List.length_set]
    exact (h.row.stored _ _).1
  · rcases set_get hm with ⟨rfl, rfl⟩ | ⟨hne, hm⟩
    · exact ownsRow_setCell_other (h.ints _ l hl) (own_blk_ne (h.ints _ l hl) hB (by decide)) _
    · exact ownsRow_setCell_other (h.ints k m hm) (own_blk_ne (h.ints k m hm) hB (by decide)) _
  · rcases set_get hk with ⟨rfl, rfl⟩ | ⟨hne, hk⟩ <;> rcases set_get hk' with ⟨rfl, rfl⟩ | ⟨hne', hk'⟩
    · omega
    · exact h.apart _ _ l lk' a b hl hk' hlt ha hb
    · exact h.apart _ _ lk l a b hk hl hlt ha hb
    · exact h.apart _ _ lk lk' a b hk hk' hlt ha hb

def zeroH : Hp := ⟨[], 0, 0⟩
theorem ObsR.nil (w : World) : ObsR w none [] := fun h => by simp at h
/-- a heap is returned; a heap and an error -/
def HeapOne (w : World) (h' : Hp) (e : Ending) (w' : World) : Prop := ∃ A c, e = .returned (.agg #[.slice A h'.objs.length c, .int .i64 h'.cap, .int .i64 h'.last]) ∧ ObsR w' A h'.objs ∧ Below w.heap.size w w'
def HeapTwo (w : World) (h' : Hp) (en : Int) (e : Ending) (w' : World) : Prop := ∃ A c, e = .returned (.tuple #[.agg #[.slice A h'.objs.length c, .int .i64 h'.cap, .int .i64 h'.last], .int .i64 en]) ∧ ObsR w' A h'.objs ∧ Below w.heap.size w w'
/-- a heap of the call's own is returned -/
def HeapOwn (w : World) (h' : Hp) (e : Ending) (w' : World) : Prop := ∃ A c ls, e = .returned (.agg #[.slice A h'.objs.length c, .int .i64 h'.cap, .int .i64 h'.last]) ∧ ls.map (·.o) = h'.objs ∧ OwnH w' w.heap.size A c ls ∧ Below w.heap.size w w'
theorem may_slots {h : Hp} (hm : mayB h = true) {ls : List LO} (hls : ls.map (·.o) = h.objs) : ls.length = h.objs.length ∧ ls.length ≤ 256 ∧ ∀ l ∈ ls, l.o.slots.length ≤ 64 := by
  have hl : ls.length = h.objs.length := by rw [← hls]; simp
  refine ⟨hl, by rw [hl]; exact may_len hm, fun l hl => ?_⟩
  have : l.o ∈ h.objs := by rw [← hls]; exact List.mem_map_of_mem hl
  exact (kind_len (ob_kind (may_all hm _ this))).1
end Go.Proofs.Ytkpfmbdkfgeboaa
namespace Go.Proofs.Ytkpfmbdkfgeboaa
open Go.RowKit
/-- a heap of the call's own is returned, and an error -/
def HeapOwn2 (w : World) (h' : Hp) (en : Int) (e : Ending) (w' : World) : Prop := ∃ A c ls, e = .returned (.tuple #[.agg #[.slice A h'.objs.length c, .int .i64 h'.cap, .int .i64 h'.last], .int .i64 en]) ∧ ls.map (·.o) = h'.objs ∧ OwnH w' w.heap.size A c ls ∧ Below w.heap.size w w'
/-- what stands for the heap beside an error -/
def unH (h : Hp) (en : Int) : Hp := if en = 1 then zeroH else h
/-- the heap behind Set, and its error -/
def setH (h : Hp) (v k x : Int) : Hp := { h with objs := h.objs.set (atV v).toNat { obAt h v with slots := (obAt h v).slots.set k.toNat x } }
def setE (h : Hp) (v k x : Int) : Int := if plE h v 0 k = 0 then (if hasB h.objs.length x then 0 else 31) else plE h v 0 k
def setR (h : Hp) (v k x : Int) : Hp := if setE h v k x = 0 then setH h v k x else unH h (setE h v k x)
theorem plE_may {h : Hp} {v kind k : Int} (e : plE h v kind k ≠ 1) : mayB h = true := by
  cases hm : mayB h
  · exact absurd (by unfold plE; rw [if_pos hm]) e
  · rfl
theorem ObsR.setc {w : World} {A : Option Addr} {os : List Ob} (h : ObsR w A os) {B : Nat} {w0 : World} (_ : B ≤ w0.heap.size) : ObsR w A os := h
end Go.Proofs.Ytkpfmbdkfgeboaa
