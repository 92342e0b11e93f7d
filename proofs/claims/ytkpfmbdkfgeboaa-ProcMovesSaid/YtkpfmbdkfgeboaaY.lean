/- The document's Copy: the same heap in memory of the call's own. -/
import Derived.Test.YtkpfmbdkfgeboaaS
import Derived.Laws.AppendOwnNone
namespace Go.Proofs.Ytkpfmbdkfgeboaa
open Go.RowKit
theorem apart_row {w : World} {base b : Nat} {A1 : Option Addr} {n1 c1 n : Nat} {v : Value} {xs ys : List Value} (hr : w.ownsRow base 43 6 (.slice A1 n1 c1) n1 xs) (hi : w.ownsRow b 3 1 v n ys) :
    v.ownBlock = none ∨ v.ownBlock ≠ (Value.slice A1 n1 c1).ownBlock := by
  cases A1 with
  | none => cases hv : v.ownBlock <;> simp [Value.ownBlock]
  | some a =>
    obtain ⟨cur, hB, _, _, _⟩ := own_blk (b := a.block) (o := a.off) (s := a.spot) hr
    exact .inr (own_blk_ne hi hB (by decide))
theorem OwnH.push {w w2 : World} {base b : Nat} {A1 A2 : Option Addr} {c1 c2 : Nat} {cur : List LO} {l : LO} (h : OwnH w base A1 c1 cur)
    (hS : w.ownsRow b 3 1 (.slice l.S l.o.slots.length l.c) l.o.slots.length (l.o.slots.map (Value.int .i64))) (hb : base ≤ b)
    (hnew : ∀ (i : Nat) (li : LO) (a : Addr), cur[i]? = some li → li.S = some a → a.block < b)
    (hrow : w2.ownsRow base 43 6 (.slice A2 (cur.length + 1) c2) (cur.length + 1) (rowOf cur ++ l.cells)) (hg : w.grownBy w2 (Value.slice A1 cur.length c1).ownBlock) : OwnH w2 base A2 c2 (cur ++ [l]) := by
  refine ⟨?_, fun i m hm => ?_, fun i j li lj a b' hi hj hij ha hb' => ?_⟩
  · rw [List.length_append, rowOf_append]
    simpa [rowOf] using hrow
  · by_cases e : i < cur.length
    · rw [List.getElem?_append_left e] at hm
      have h3 := h.ints i m hm
      exact h3.kept hg (apart_row h.row h3)
    · rw [List.getElem?_append_right (by omega)] at hm
      have : m = l := by
        cases e2 : i - cur.length with
        | zero => rw [e2] at hm; simpa using hm.symm
        | succ t => rw [e2] at hm; simp at hm
      subst this
      exact own_lower (hS.kept hg (apart_row h.row hS)) hb
  · by_cases e : j < cur.length
    · rw [List.getElem?_append_left (by omega)] at hi
      rw [List.getElem?_append_left e] at hj
      exact h.apart i j li lj a b' hi hj hij ha hb'
    · rw [List.getElem?_append_right (by omega)] at hj
      have hjl : j - cur.length = 0 := by
        cases e2 : j - cur.length with
        | zero => rfl
        | succ t => rw [e2] at hj; simp at hj
      rw [hjl] at hj
      obtain rfl : l = lj := by simpa using hj
      rw [List.getElem?_append_left (by omega)] at hi
      have h1 := hnew i li a hi ha
      have hb2 : l.S = some b' := hb'
      rw [hb2] at hS
      obtain ⟨_, _, _, _, h2⟩ := own_blk (b := b'.block) (o := b'.off) (s := b'.spot) hS
      omega
theorem OwnH.blk_lt {w : World} {base : Nat} {A1 : Option Addr} {c1 : Nat} {cur : List LO} (h : OwnH w base A1 c1 cur) {i : Nat} {li : LO} {a : Addr} (hl : cur[i]? = some li) (ha : li.S = some a) : a.block < w.heap.size := by
  have h1 := h.ints i li hl
  rw [ha] at h1
  exact (h1.lt a.block rfl).2
theorem OwnH.nil (w : World) (base : Nat) : OwnH w base none 0 [] :=
  ⟨World.ownsRow_nil _ _ _ _, fun i l hl => by simp at hl, fun i j li lj a b hi => by simp at hi⟩
theorem OwnH.low {w : World} {base : Nat} {A1 : Option Addr} {c1 : Nat} {cur : List LO} (h : OwnH w base A1 c1 cur) {p : Addr} (hp : p.block < base) (u : Value) : OwnH (w.setCell p u) base A1 c1 cur :=
  ⟨ownsRow_setCell_below h.row hp u, fun i l hl => ownsRow_setCell_below (h.ints i l hl) hp u, h.apart⟩
theorem OwnH.lower {w : World} {base B : Nat} {A1 : Option Addr} {c1 : Nat} {cur : List LO} (h : OwnH w base A1 c1 cur) (hB : B ≤ base) : OwnH w B A1 c1 cur :=
  ⟨own_lower h.row hB, fun i l hl => own_lower (h.ints i l hl) hB, h.apart⟩
theorem Lies.grown {w w' : World} {g : Nat} {t : TypeId} {cs : Array Value} {row : Option Nat} (h : Lies w g t cs) (hb : w.grownBy w' row) (hg : some g ≠ row) : Lies w' g t cs := (hb.block g h.lt hg).trans h

theorem grown_refl (w : World) (row : Option Nat) : w.grownBy w row := ⟨rfl, rfl, rfl, Nat.le_refl _, fun _ _ _ => rfl⟩
theorem ints_none {w : World} {S : Option Addr} {xs : List Int} (h : IntsR w S xs) (hS : S = none) : xs = [] := by
  cases xs with
  | nil => rfl
  | cons x t => obtain ⟨b, o, e, _⟩ := h (by simp); rw [hS] at e; cases e
/-- append of a list of ints that lies somewhere, nil or not, to a row of the call's own -/
theorem wpList_append_ints {P : Program} {w : World} {ops : Array Oper} {rest : List Oper} {o : Oper} {a : Act} {Q : Exit → Act → World → Prop} (hgd : o.guard = none) (s x : Operand) (t : TypeId)
    (ho : o.op = .call { callee := .builtin .append, args := #[s, x], argTypes := #[t, t] })
    (base : Nat) (i : TypeInfo) (ht : P.underlying t = some (.slice 3)) (hi : P.info? 3 = some i) (hz : i.zero = some (.int .i64 0)) (hsize : i.size = 1) (hby : i.bytes = 8)
    (v : Value) (n : Nat) (ys : List Value) (hs : a.eval s = v) (hown : w.ownsRow base 3 1 v n ys)
    (S : Option Addr) (c : Nat) (xs : List Int) (hx : a.eval x = .slice S xs.length c) (hr : IntsR w S xs) (hn : S = none → c = 0)
    (h63 : n + xs.length ≤ 1000000) (hbase : base ≤ w.heap.size)
    (h : ∀ v' w', w'.ownsRow base 3 1 v' (n + xs.length) (ys ++ xs.map (Value.int .i64)) → w.grownBy w' v.ownBlock → wpList P ops Q rest (a.put o.dst v') w') : wpList P ops Q (o :: rest) a w := by
  cases S with
  | none =>
    have hx0 := ints_none hr rfl
    subst hx0
    rw [hn rfl] at hx
    refine wpList_append_own_none hgd s x t ho base 3 i 1 ht hi v n ys hs hown hx ?_
    exact h v w (by simpa using hown) (grown_refl _ _)
  | some ad =>
    refine wpList_append_own _ hgd s x t ho base 3 i (.int .i64 0) 1 8 ht hi hz hsize hby rfl (by decide) v n ys hs hown ad xs.length c (xs.map (Value.int .i64)) hx (by simp) ?_ ?_ (by unfold maxLen; omega) (by omega) hbase (fun v' w' h1 h2 _ => h v' w' h1 h2)
    · intro j u hj
      have hjn : j < xs.length := by have := (List.getElem?_eq_some_iff.1 hj).1; simpa using this
      obtain ⟨b, o, e, hlt, hc⟩ := hr (by omega)
      cases e
      have := hc j xs[j] (List.getElem?_eq_getElem hjn)
      rw [List.getElem?_map, List.getElem?_eq_getElem hjn] at hj
      cases hj
      rw [Addr.add_lit]
      exact this
    · intro u hu; obtain ⟨x, _, rfl⟩ := List.mem_map.1 hu; rfl
end Go.Proofs.Ytkpfmbdkfgeboaa
