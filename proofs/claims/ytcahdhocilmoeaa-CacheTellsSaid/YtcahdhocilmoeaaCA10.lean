/- Two blocks of memory that a call writes; rows of five cells: read, stored, made, emptied. -/
import Derived.Test.YtcahdhocilmoeaaSA10
import Derived.Test.YtcahdhocilmoeaaC
import Derived.Laws.CopyRow
import Derived.Laws.Tables
namespace Go.Proofs.Ytcahdhocilmoeaa
open Go.RowKit
set_option maxRecDepth 100000
/-- only blocks p and q have changed, and what is new -/
structure Only2 (p q : Nat) (w w' : World) : Prop where
  os : w'.os = w.os
  tape : w'.tape = w.tape
  output : w'.output = w.output
  size : w.heap.size ≤ w'.heap.size
  block : ∀ k, k < w.heap.size → k ≠ p → k ≠ q → w'.heap[k]? = w.heap[k]?
section
variable {p q : Nat} {w w' w1 : World}
theorem only2_below (h : Below w.heap.size w w') : Only2 p q w w' := ⟨h.os, h.tape, h.output, h.size, fun k hk _ _ => h.block k hk⟩
theorem Only2.refl (p q : Nat) (w : World) : Only2 p q w w := only2_below (Below.refl _ _)
theorem Only2.trans (h : Only2 p q w w1) (k : Only2 p q w1 w') : Only2 p q w w' :=
  ⟨k.os.trans h.os, k.tape.trans h.tape, k.output.trans h.output, Nat.le_trans h.size k.size, fun i hi h1 h2 => (k.block i (Nat.lt_of_lt_of_le hi h.size) h1 h2).trans (h.block i hi h1 h2)⟩
theorem only2_p (p q : Nat) (w : World) (i : Nat) (v : Value) : Only2 p q w (w.setCell ⟨p, i, none⟩ v) :=
  ⟨rfl, rfl, rfl, by simp, fun k _ hk _ => Below.heap_setCell w _ v k hk⟩
theorem only2_row (p q : Nat) (w : World) (cs : Array Value) : Only2 p q w (w.setRow q cs) :=
  ⟨rfl, rfl, rfl, by simp, fun k _ _ hk => setRow_other w q k cs hk⟩
theorem Only2.lies {k : Nat} {t : TypeId} {cs : Array Value} (h : Only2 p q w w') (hl : Lies w k t cs) (h1 : k ≠ p) (h2 : k ≠ q) : Lies w' k t cs := by
  show w'.heap[k]? = _
  rw [h.block k hl.lt h1 h2]; exact hl
theorem Only2.from_ {B : Nat} {w0 : World} (h : Only2 p q w w') (hb : Below B w0 w) (hp : B ≤ p) (hq : B ≤ q) (hB : B ≤ w.heap.size) : Below B w0 w' :=
  hb.trans ⟨h.os, h.tape, h.output, h.size, fun k hk => h.block k (by omega) (by omega) (by omega)⟩
theorem Lies.row {g : Nat} {t : TypeId} {cs cs' : Array Value} (h : Lies w g t cs) : Lies (w.setRow g cs') g t cs' := setRow_heap w g cs cs' t (0, 0) h
theorem Lies.farRow {g k : Nat} {t : TypeId} {cs cs' : Array Value} (h : Lies w k t cs) (hn : k ≠ g) : Lies (w.setRow g cs') k t cs := by
  show (w.setRow g cs').heap[k]? = _
  rw [setRow_other w g k cs' hn]; exact h
end
/-! Rows of five cells each -/
section
variable {f : En → List Value} (hf : ∀ x, (f x).length = 5)
include hf
theorem flat5_len (L : List En) : (L.flatMap f).length = L.length * 5 := by
  induction L with
  | nil => rfl
  | cons x L ih => rw [List.flatMap_cons, List.length_append, hf, ih, List.length_cons]; omega
theorem flat5_at : ∀ (L : List En) (i k : Nat), k < 5 → i < L.length → (L.flatMap f)[i * 5 + k]? = (f (L.getD i em10))[k]?
  | [], i, k, _, h => by simp at h
  | x :: L, 0, k, hk, _ => by
    rw [List.flatMap_cons, List.getElem?_append_left (by rw [hf]; omega), Nat.zero_mul, Nat.zero_add]
    rfl
  | x :: L, i + 1, k, hk, h => by
    have ih := flat5_at L i k hk (by simpa using h)
    rw [List.flatMap_cons, List.getElem?_append_right (by rw [hf]; omega), hf]
    rw [show (i + 1) * 5 + k - 5 = i * 5 + k by omega, ih]
    rfl
theorem flat5_set : ∀ (L : List En) (i : Nat) (x : En), i < L.length → (L.set i x).flatMap f = (L.flatMap f).take (i * 5) ++ f x ++ (L.flatMap f).drop (i * 5 + 5)
  | [], i, x, h => by simp at h
  | y :: L, 0, x, _ => by
    rw [List.set_cons_zero, List.flatMap_cons, List.flatMap_cons, Nat.zero_mul, List.take_zero, List.nil_append, Nat.zero_add, ← hf y, List.drop_left]
  | y :: L, i + 1, x, h => by
    have ih := flat5_set L i x (by simpa using h)
    have e : (i + 1) * 5 = (f y).length + i * 5 := by rw [hf]; omega
    rw [List.set_cons_succ, List.flatMap_cons, List.flatMap_cons, ih, e, List.take_length_add_append, Nat.add_assoc, List.drop_length_add_append, List.append_assoc, List.append_assoc, List.append_assoc]
end
/-- storing some cells in the middle of a block -/
theorem run_store_part {P : Program} (w : World) (g o : Nat) (t ty : TypeId) (old : Array Value) (cells : List Value) (hg : Lies w g t old) (hi : (P.info? ty).map (·.size) = some cells.length)
    (ho : o + cells.length ≤ old.size) (h1 : ∀ v ∈ cells, v.oneCell' = true) :
    (storeVar ty ⟨g, o, none⟩ (.agg cells.toArray)).run P w = .ok () (w.setRow g (old.toList.take o ++ cells ++ old.toList.drop (o + cells.length)).toArray) := by
  have := run_storeCells_at P g o t cells 0 old w hg (by simpa using ho) h1
  rw [Nat.add_zero] at this
  cases hq : P.info? ty with
  | none => simp [hq] at hi
  | some i =>
    have hs : cells.length = i.size := by simp [hq] at hi; omega
    simp [storeVar, sizeOf, typeInfo, hq, Value.cells, hs] at this ⊢
    exact this
theorem wpList_store_part {P : Program} {ops : Array Oper} {rest : List Oper} {o : Oper} {a : Act} {w : World} {Q : Exit → Act → World → Prop} (hgd : o.guard = none) (ty : TypeId) (x y : Operand) (ho : o.op = .store ty x y)
    (g k : Nat) (cells : List Value) (hx : a.eval x = .pointer (some ⟨g, k, none⟩)) (hy : a.eval y = .agg cells.toArray)
    (t : TypeId) (old : Array Value) (hg : Lies w g t old) (hi : (P.info? ty).map (·.size) = some cells.length)
    (hold : k + cells.length ≤ old.size) (h1 : ∀ v ∈ cells, v.oneCell' = true)
    (h : wpList P ops Q rest (a.put o.dst undef) (w.setRow g (old.toList.take k ++ cells ++ old.toList.drop (k + cells.length)).toArray)) : wpList P ops Q (o :: rest) a w :=
  wpList_plain hgd fun _ hK => by
    unfold Oper.wp execOp
    simp only [ho, hx, hy, Instr.storeAt, Instr.sureAddr, Sem.run_bind, Sem.run_pure, Result.andThen_ok, run_store_part w g k t ty old cells hg hi hold h1]
    exact hK _ _ h
/-- n times five zeros -/
theorem zero5 (z0 z1 z2 z3 z4 : Value) (n : Nat) : (Builtin.zeroCells #[z0, z1, z2, z3, z4] n).toList = (List.replicate n em10).flatMap (fun _ => [z0, z1, z2, z3, z4]) := by
  have hl : ((List.replicate n em10).flatMap (fun _ => [z0, z1, z2, z3, z4])).length = n * 5 := by
    rw [flat5_len (f := fun _ => [z0, z1, z2, z3, z4]) (fun _ => rfl), List.length_replicate]
  apply List.ext_getElem?
  intro k
  by_cases hk : k < n * 5
  · have e : k = k / 5 * 5 + k % 5 := by omega
    have h5 : k % 5 < 5 := Nat.mod_lt _ (by decide)
    have hr : ((List.replicate n em10).flatMap (fun _ => [z0, z1, z2, z3, z4]))[k]? = ([z0, z1, z2, z3, z4])[k % 5]? := by
      conv => lhs; rw [e]
      exact flat5_at (f := fun _ => [z0, z1, z2, z3, z4]) (fun _ => rfl) (List.replicate n em10) (k / 5) (k % 5) h5 (by rw [List.length_replicate]; omega)
    rw [hr]
    simp only [Builtin.zeroCells, Array.toList_map, List.getElem?_map, Array.toList_range, List.size_toArray, List.length_cons, List.length_nil]
    rw [List.getElem?_range hk]
    rcases (by omega : k % 5 = 0 ∨ k % 5 = 1 ∨ k % 5 = 2 ∨ k % 5 = 3 ∨ k % 5 = 4) with h | h | h | h | h <;> simp [h]
  · rw [List.getElem?_eq_none (by simp [Builtin.zeroCells]; omega), List.getElem?_eq_none (by rw [hl]; omega)]
/-- 'clear' of a whole row -/
theorem run_clear_row {P : Program} (w : World) (t e ty : TypeId) (z : Value) (ht : P.underlying t = some (.slice e)) (hv : (zeroValue e).run P w = .ok z w) (g n c : Nat) (hn : 0 < n) (old : Array Value) (hg : Lies w g e old)
    (hs : (Builtin.zeroCells z.cells n).size = old.size) (h1 : ∀ v ∈ (Builtin.zeroCells z.cells n).toList, v.oneCell' = true) :
    (Builtin.clear_ #[t] ty #[.slice (some ⟨g, 0, none⟩) n c]).run P w = .ok (.tuple #[]) (w.setRow g (Builtin.zeroCells z.cells n)) := by
  have hst := run_storeCells_at P g 0 e (Builtin.zeroCells z.cells n).toList 0 old w hg (by simp [hs]) h1
  simp only [Nat.zero_add, List.take_zero, List.nil_append, Array.length_toList] at hst
  rw [List.drop_eq_nil_of_le (by simp [hs]), List.append_nil] at hst
  obtain ⟨m, rfl⟩ : ∃ m, n = m + 1 := ⟨n - 1, by omega⟩
  simp [Builtin.clear_, run_underlying ht, hv, hst]
/-! The program's cache, and the document's -/
def en10 (x : En) : List Value := [.int .i64 x.c, .int .i64 x.s, .bool x.full, .int .i64 x.m, .int .i64 x.k]
def er10 (x : En) : List Value := [.int .i64 x.c, .int .i64 x.s, .int .i64 x.m, .int .i64 x.k, .bool x.full]
def pc10 (L : List En) : Array Value := (L.flatMap en10).toArray
def rc10 (L : List En) : Array Value := (L.flatMap er10).toArray
theorem pc10_size (L : List En) : (pc10 L).size = L.length * 5 := by unfold pc10; rw [List.size_toArray, flat5_len (fun _ => rfl)]
theorem rc10_size (L : List En) : (rc10 L).size = L.length * 5 := by unfold rc10; rw [List.size_toArray, flat5_len (fun _ => rfl)]
theorem pc10_at (L : List En) (i k : Nat) (hk : k < 5) (hi : i < L.length) : (pc10 L)[i * 5 + k]? = (en10 (L.getD i em10))[k]? := by
  unfold pc10; rw [List.getElem?_toArray]; exact flat5_at (fun _ => rfl) L i k hk hi
theorem rc10_at (L : List En) (i k : Nat) (hk : k < 5) (hi : i < L.length) : (rc10 L)[i * 5 + k]? = (er10 (L.getD i em10))[k]? := by
  unfold rc10; rw [List.getElem?_toArray]; exact flat5_at (fun _ => rfl) L i k hk hi
theorem pc10_set (L : List En) (i : Nat) (x : En) (h : i < L.length) : ((pc10 L).toList.take (i * 5) ++ en10 x ++ (pc10 L).toList.drop (i * 5 + (en10 x).length)).toArray = pc10 (L.set i x) := by
  unfold pc10; rw [flat5_set (fun _ => rfl) L i x h]; rfl
theorem rc10_set (L : List En) (i : Nat) (x : En) (h : i < L.length) : ((rc10 L).toList.take (i * 5) ++ er10 x ++ (rc10 L).toList.drop (i * 5 + (er10 x).length)).toArray = rc10 (L.set i x) := by
  unfold rc10; rw [flat5_set (fun _ => rfl) L i x h]; rfl
theorem pc10_new (n : Nat) : Builtin.zeroCells #[.int .i64 0, .int .i64 0, .bool false, .int .i64 0, .int .i64 0] n = pc10 (nw10 n) := by
  apply Array.toList_inj.1
  rw [zero5]
  unfold pc10 nw10
  induction n with
  | zero => rfl
  | succ n ih => rw [List.replicate_succ, List.flatMap_cons, List.flatMap_cons, ih]; rfl
theorem rc10_new (n : Nat) : Builtin.zeroCells #[.int .i64 0, .int .i64 0, .int .i64 0, .int .i64 0, .bool false] n = rc10 (nw10 n) := by
  apply Array.toList_inj.1
  rw [zero5]
  unfold rc10 nw10
  induction n with
  | zero => rfl
  | succ n ih => rw [List.replicate_succ, List.flatMap_cons, List.flatMap_cons, ih]; rfl
theorem pc10_one (L : List En) : ∀ v ∈ (pc10 L).toList, v.oneCell' = true := by
  intro v hv
  unfold pc10 at hv
  obtain ⟨x, _, hx⟩ := List.mem_flatMap.1 hv
  simp only [en10, List.mem_cons, List.not_mem_nil, or_false] at hx
  rcases hx with rfl | rfl | rfl | rfl | rfl <;> rfl
/-- block p is a cache of the program's, its places in block q -/
structure Ca (w : World) (p q : Nat) (L : List En) (n m : Int) : Prop where
  box : Lies w p 84 #[.slice (some ⟨q, 0, none⟩) L.length L.length, .int .i64 n, .int .i64 m]
  row : Lies w q 92 (pc10 L)
structure Cr (w : World) (p q : Nat) (L : List En) (n m : Int) : Prop where
  box : Lies w p 63 #[.slice (some ⟨q, 0, none⟩) L.length L.length, .int .i64 n, .int .i64 m]
  row : Lies w q 86 (rc10 L)
section
variable {w w' : World} {p q : Nat} {L : List En} {n m : Int}
theorem Ca.later (h : Ca w p q L n m) (hb : Below w.heap.size w w') : Ca w' p q L n m := ⟨h.box.later hb, h.row.later hb⟩
theorem Cr.later (h : Cr w p q L n m) (hb : Below w.heap.size w w') : Cr w' p q L n m := ⟨h.box.later hb, h.row.later hb⟩
theorem Ca.ne (h : Ca w p q L n m) : p ≠ q := lies_ne h.box h.row (by decide)
theorem Cr.ne (h : Cr w p q L n m) : p ≠ q := lies_ne h.box h.row (by decide)
end
theorem place_info : (Try.prog.info? 92).map (fun i => (i.zero, i.size, i.bytes)) = some (some (.agg #[.int .i64 0, .int .i64 0, .bool false, .int .i64 0, .int .i64 0]), 5, 40) := by kernel_rfl
theorem entry_info : (Try.prog.info? 86).map (fun i => (i.zero, i.size, i.bytes)) = some (some (.agg #[.int .i64 0, .int .i64 0, .int .i64 0, .int .i64 0, .bool false]), 5, 40) := by kernel_rfl
end Go.Proofs.Ytcahdhocilmoeaa
