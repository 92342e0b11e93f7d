/- An object appended to a row of the call's own. Writes into a heap of the call's own: one slot, one text; what an error leaves. unchanged, Set, the program's and the document's. -/
import Derived.Test.YtimmoaomhilaeaaY
import Derived.Test.YtimmoaomhilaeaaR
namespace Go.Proofs.Ytimmoaomhilaeaa
open Go.RowKit
theorem wp_app_run {P : Program} {w : World} {o : Oper} {a : Act} {K : Act → World → Prop} {Q : Exit → Act → World → Prop} (s x : Operand) (t : TypeId)
    (ho : o.op = .call { callee := .builtin .append, args := #[s, x], argTypes := #[t, t] }) (v1 : Value) (w1 : World) (hrun : (Builtin.append_ #[t, t] o.type #[a.eval s, a.eval x]).run P w = .ok v1 w1)
    (h : K (a.put o.dst v1) w1) : Oper.wp P o a w K Q := by
  unfold Oper.wp
  simp [execOp, ho, resolve, invoke, builtin, hrun, Result.andThen]
  exact h
theorem wpList_app_run {P : Program} {w : World} {ops : Array Oper} {rest : List Oper} {o : Oper} {a : Act} {Q : Exit → Act → World → Prop} (hgd : o.guard = none) (s x : Operand) (t : TypeId)
    (ho : o.op = .call { callee := .builtin .append, args := #[s, x], argTypes := #[t, t] }) (v1 : Value) (w1 : World) (hrun : (Builtin.append_ #[t, t] o.type #[a.eval s, a.eval x]).run P w = .ok v1 w1)
    (h : wpList P ops Q rest (a.put o.dst v1) w1) : wpList P ops Q (o :: rest) a w :=
  wpList_plain hgd fun _ hK => wp_app_run s x t ho v1 w1 hrun (hK _ _ h)
def obC (o : Ob) (S : Option Addr) (d : Nat) : Array Value := #[.int .i64 o.cls, .int .i64 o.kind, .slice S o.slots.length d, .string o.text, .int .i64 o.bits, .int .i64 o.hash]
end Go.Proofs.Ytimmoaomhilaeaa
namespace Go.Proofs.Ytimmoaomhilaeaa
open Go.RowKit
theorem rowOf_upd (ls : List LO) (k : Nat) (l' : LO) (hk : k < ls.length) (j : Nat) : (rowOf (ls.set k l'))[j]? = if j / 6 = k then l'.cells[j % 6]? else (rowOf ls)[j]? := by
  by_cases hj : j < ls.length * 6
  · have hi : j / 6 < ls.length := by omega
    have hi' : j / 6 < (ls.set k l').length := by simpa using hi
    have e1 := rowOf_get ls (j / 6) (j % 6) ls[j / 6] (List.getElem?_eq_getElem hi) (by omega)
    have e2 := rowOf_get (ls.set k l') (j / 6) (j % 6) _ (List.getElem?_eq_getElem hi') (by omega)
    rw [show j / 6 * 6 + j % 6 = j by omega] at e1 e2
    rw [e2, e1]
    by_cases hjk : j / 6 = k
    · rw [if_pos hjk, List.getElem_set, if_pos hjk.symm]
    · rw [if_neg hjk, List.getElem_set, if_neg (fun e => hjk e.symm)]
  · rw [if_neg (by omega), List.getElem?_eq_none (by rw [rowOf_length]; simp; omega), List.getElem?_eq_none (by rw [rowOf_length]; omega)]
theorem rowOf_same (ls : List LO) (k : Nat) (l l' : LO) (hk : ls[k]? = some l) (h : l'.cells = l.cells) : rowOf (ls.set k l') = rowOf ls := by
  have hkl : k < ls.length := (List.getElem?_eq_some_iff.1 hk).1
  apply List.ext_getElem?
  intro j
  rw [rowOf_upd ls k l' hkl]
  by_cases e : j / 6 = k
  · rw [if_pos e, h]
    have := rowOf_get ls k (j % 6) l hk (by omega)
    rw [← this]; congr 1; omega
  · rw [if_neg e]
theorem rowOf_text (ls : List LO) (k : Nat) (l : LO) (s : ByteArray) (hk : ls[k]? = some l) : rowOf (ls.set k ⟨{ l.o with text := s }, l.S, l.c⟩) = (rowOf ls).set (k * 6 + 3) (.string s) := by
  have hkl : k < ls.length := (List.getElem?_eq_some_iff.1 hk).1
  apply List.ext_getElem?
  intro j
  rw [rowOf_upd ls k _ hkl, List.getElem?_set, rowOf_length]
  by_cases e : j / 6 = k
  · rw [if_pos e]
    have h0 := rowOf_get ls k (j % 6) l hk (by omega)
    rw [show k * 6 + j % 6 = j by omega] at h0
    by_cases h3 : k * 6 + 3 = j
    · rw [if_pos h3, if_pos (by omega), show j % 6 = 3 by omega]; rfl
    · rw [if_neg h3, h0]
      have hr : j % 6 = 0 ∨ j % 6 = 1 ∨ j % 6 = 2 ∨ j % 6 = 4 ∨ j % 6 = 5 := by omega
      rcases hr with r | r | r | r | r <;> rw [r] <;> rfl
  · rw [if_neg e, if_neg (by omega)]
theorem set_get {α : Type} {ls : List α} {i j : Nat} {l m : α} (h : (ls.set i l)[j]? = some m) : (i = j ∧ l = m) ∨ (i ≠ j ∧ ls[j]? = some m) := by
  rw [List.getElem?_set] at h
  by_cases e : i = j
  · rw [if_pos e] at h
    split at h
    · exact .inl ⟨e, Option.some.inj h⟩
    · cases h
  · rw [if_neg e] at h; exact .inr ⟨e, h⟩
def zeroH : Hp := ⟨[], 0, 0⟩
theorem ObsR.nil (w : World) : ObsR w none [] := fun h => by simp at h
/-- a heap is returned; a heap and an error -/
def HeapOne (w : World) (h' : Hp) (e : Ending) (w' : World) : Prop := ∃ A c, e = .returned (.agg #[.slice A h'.objs.length c, .int .i64 h'.cap, .int .i64 h'.last]) ∧ ObsR w' A h'.objs ∧ Below w.heap.size w w'
def HeapTwo (w : World) (h' : Hp) (en : Int) (e : Ending) (w' : World) : Prop := ∃ A c, e = .returned (.tuple #[.agg #[.slice A h'.objs.length c, .int .i64 h'.cap, .int .i64 h'.last], .int .i64 en]) ∧ ObsR w' A h'.objs ∧ Below w.heap.size w w'
theorem may_slots {h : Hp} (hm : mayB h = true) {ls : List LO} (hls : ls.map (·.o) = h.objs) : ls.length = h.objs.length ∧ ls.length ≤ 256 ∧ ∀ l ∈ ls, l.o.slots.length ≤ 64 := by
  have hl : ls.length = h.objs.length := by rw [← hls]; simp
  refine ⟨hl, by rw [hl]; exact may_len hm, fun l hl => ?_⟩
  have : l.o ∈ h.objs := by rw [← hls]; exact List.mem_map_of_mem hl
  exact (kind_len (ob_kind (may_all hm _ this))).1
end Go.Proofs.Ytimmoaomhilaeaa
namespace Go.Proofs.Ytimmoaomhilaeaa
open Go.RowKit
/-- what stands for the heap beside an error -/
def unH (h : Hp) (en : Int) : Hp := if en = 1 then zeroH else h
/-- the heap behind Set, and its error -/
def setH (h : Hp) (v k x : Int) : Hp := { h with objs := h.objs.set (atV v).toNat { obAt h v with slots := (obAt h v).slots.set k.toNat x } }
def setE (h : Hp) (v k x : Int) : Int := if plE h v 0 k = 0 then (if hasB h.objs.length x then 0 else 31) else plE h v 0 k
def setR (h : Hp) (v k x : Int) : Hp := if setE h v k x = 0 then setH h v k x else unH h (setE h v k x)
theorem plE_may {h : Hp} {v kind k : Int} (e : plE h v kind k ≠ 1) : mayB h = true := by
  cases hm : mayB h
  · exact absurd (by unfold plE; rw [if_pos hm]) e
  · rfl
theorem ObsR.setc {w : World} {A : Option Addr} {os : List Ob} (h : ObsR w A os) {B : Nat} {w0 : World} (_ : B ≤ w0.heap.size) : ObsR w A os := h
end Go.Proofs.Ytimmoaomhilaeaa
