/- What canon's numbering is in memory: a struct of a map and a list; and what turns while it grows. -/
import Derived.Test.YtjpibkcbgogfoaaCT
import Derived.Test.YtjpibkcbgogfoaaAO
import Derived.Test.YtjpibkcbgogfoaaVS
import Derived.Test.YtjpibkcbgogfoaaAP
import Derived.Maps.OwnSet
import Derived.Maps.AppendAt
namespace Go.Proofs.Ytjpibkcbgogfoaa
open Go.RowKit
open Go.Maps (IsMap has_put_same has_put_other atKey_put_same atKey_put_other)
/-- the map from the old numbers to the places in the list -/
def MapIs (D : DataW Unit) (M : List Nat) : Prop := ∀ i : Nat, Maps.has D (.int .i64 i) = decide (i ∈ M) ∧ (i ∈ M → D.atKey (.int .i64 i) (.lit (.int .i64 0)) = .lit (.int .i64 (M.idxOf i)))
theorem mapIs_nil : MapIs (.map []) [] := fun i => ⟨by simp [Maps.has_eq], fun h => by simp at h⟩
theorem mapIs_put {D : DataW Unit} {M : List Nat} (h : MapIs D M) (hD : IsMap D) {i : Nat} (hi : i ∉ M) : MapIs (D.put (.int .i64 i) (.lit (.int .i64 M.length))) (M ++ [i]) := fun j => by
  by_cases e : j = i
  · subst e
    refine ⟨by rw [has_put_same (k := .int .i64 (j : Int)) hD trivial]; simp, fun _ => ?_⟩
    rw [atKey_put_same (k := .int .i64 (j : Int)) hD trivial, List.idxOf_append, if_neg hi, List.idxOf_cons_self]
    simp
  · have hne : (Lit.int .i64 (j : Int)) ≠ .int .i64 (i : Int) := fun g => by
      injection g with _ g; omega
    refine ⟨by rw [has_put_other hne, (h j).1]; simp [e], fun hm => ?_⟩
    have hm' : j ∈ M := by simpa [e] using hm
    rw [atKey_put_other hne, (h j).2 hm', List.idxOf_append, if_pos hm']
/-- a numbering that has met M -/
structure NumS (w : World) (nb mb : Nat) (A : Option Addr) (c : Nat) (M : List Nat) : Prop where
  box : Lies w nb 82 #[.map (some mb), .slice A M.length c]
  map : ∃ D : DataW Unit, w.ownsMap Try.prog 3 (plainElem Try.prog 3) mb M.length D ∧ MapIs D M
  row : w.ownsRow 0 3 1 (.slice A M.length c) M.length ((iL M).map (Value.int .i64))
/-- between the two worlds nothing turned but a numbering -/
structure Turns (w w' : World) (nb mb : Nat) (A A' : Option Addr) : Prop where
  os : w'.os = w.os
  tape : w'.tape = w.tape
  output : w'.output = w.output
  size : w.heap.size ≤ w'.heap.size
  block : ∀ k, k < w.heap.size → k ≠ nb → k ≠ mb → (∀ a, A = some a → k ≠ a.block) → w'.heap[k]? = w.heap[k]?
  new : (∀ a', A' = some a' → (∃ a, A = some a ∧ a'.block = a.block) ∨ w.heap.size ≤ a'.block)
section
variable {w w' u : World} {nb mb : Nat} {A A' B : Option Addr}
theorem Turns.refl (w : World) (nb mb : Nat) (A : Option Addr) : Turns w w nb mb A A := ⟨rfl, rfl, rfl, Nat.le_refl _, fun _ _ _ _ _ => rfl, fun a h => .inl ⟨a, h, rfl⟩⟩
theorem Turns.trans (h : Turns w w' nb mb A A') (g : Turns w' u nb mb A' B) : Turns w u nb mb A B := by
  refine ⟨g.os.trans h.os, g.tape.trans h.tape, g.output.trans h.output, Nat.le_trans h.size g.size, fun k hk h1 h2 h3 => ?_, fun a ha => ?_⟩
  · refine (g.block k (Nat.lt_of_lt_of_le hk h.size) h1 h2 fun a' ha' => ?_).trans (h.block k hk h1 h2 h3)
    rcases h.new a' ha' with ⟨a, ha, e⟩ | e
    · rw [e]; exact h3 a ha
    · omega
  · rcases g.new a ha with ⟨a', ha', e⟩ | e
    · rcases h.new a' ha' with ⟨a0, h0, e0⟩ | e0
      · exact .inl ⟨a0, h0, e.trans e0⟩
      · exact .inr (by omega)
    · exact .inr (Nat.le_trans h.size e)
theorem Turns.of_below (h : Below w.heap.size w w') (nb mb : Nat) (A : Option Addr) : Turns w w' nb mb A A := ⟨h.os, h.tape, h.output, h.size, fun k hk _ _ _ => h.block k hk, fun a h => .inl ⟨a, h, rfl⟩⟩
theorem Turns.below (h : Turns w w' nb mb A A') {b : Nat} (hb : b ≤ w.heap.size) (h1 : b ≤ nb) (h2 : b ≤ mb) (h3 : ∀ a, A = some a → b ≤ a.block) : Below b w w' :=
  ⟨h.os, h.tape, h.output, h.size, fun k hk => h.block k (by omega) (by omega) (by omega) fun a ha => by have := h3 a ha; omega⟩
theorem Turns.lies {g : Nat} {t : TypeId} {cs : Array Value} (h : Turns w w' nb mb A A') (l : Lies w g t cs) (h1 : g ≠ nb) (h2 : g ≠ mb) (h3 : ∀ a, A = some a → g ≠ a.block) : Lies w' g t cs := (h.block g l.lt h1 h2 h3).trans l
theorem map_lies {b n g : Nat} {t : TypeId} {cs : Array Value} {D : DataW Unit} (h : w.ownsMap Try.prog 3 (plainElem Try.prog 3) b n D) (l : Lies w g t cs) : g ≠ b := fun e => by
  subst e
  obtain ⟨es, clock, hb, -⟩ := h
  have : some (Obj.map es clock) = some (Obj.cells cs t (0, 0)) := hb.symm.trans l
  cases this
theorem Turns.row {base : Nat} {e : TypeId} {size n : Nat} {v : Value} {xs : List Value} (h : Turns w w' nb mb A A') (r : w.ownsRow base e size v n xs) (h1 : v.ownBlock ≠ some nb) (h2 : v.ownBlock ≠ some mb) (h3 : ∀ a, A = some a → v.ownBlock ≠ some a.block) : w'.ownsRow base e size v n xs := by
  refine ⟨r.1, ?_⟩
  rcases r.2 with hn | ⟨g, cap, cur, rfl, hb, hgg, rest⟩
  · exact .inl hn
  · refine .inr ⟨g, cap, cur, rfl, hb, ?_, rest⟩
    rw [h.block g (Array.getElem?_eq_some_iff.1 hgg).1 (fun e => h1 (by rw [← e]; rfl)) (fun e => h2 (by rw [← e]; rfl)) (fun a ha e => h3 a ha (by rw [← e]; rfl))]
    exact hgg
end
section
variable {w w' : World} {nb mb : Nat} {A : Option Addr} {c : Nat} {M : List Nat}
theorem NumS.later (s : NumS w nb mb A c M) (hb : Below w.heap.size w w') : NumS w' nb mb A c M :=
  ⟨s.box.later hb, by
    obtain ⟨D, h, hm⟩ := s.map
    exact ⟨D, h.kept (row := none) ⟨hb.os, hb.tape, hb.output, hb.size, fun k hk _ => hb.block k hk⟩ (by simp), hm⟩, own_later s.row hb⟩
theorem NumS.ne (s : NumS w nb mb A c M) : nb ≠ mb := by
  obtain ⟨D, h, -⟩ := s.map
  exact map_lies h s.box
theorem NumS.rowBlock (s : NumS w nb mb A c M) {a : Addr} (ha : A = some a) : ∃ cur, Lies w a.block 3 cur := by
  have h := s.row
  rw [ha] at h
  obtain ⟨cur, hl, -⟩ := own_blk (b := a.block) (o := a.off) (s := a.spot) h
  exact ⟨cur, hl⟩
theorem NumS.ne_row (s : NumS w nb mb A c M) {a : Addr} (ha : A = some a) : a.block ≠ nb ∧ a.block ≠ mb := by
  obtain ⟨cur, hl⟩ := s.rowBlock ha
  refine ⟨fun e => ?_, ?_⟩
  · rw [e] at hl
    have : some (Obj.cells cur 3 (0, 0)) = some (Obj.cells _ _ (0, 0)) := hl.symm.trans s.box
    have h2 : (3 : TypeId) = 82 := by
      injection this with this
      injection this
    exact absurd h2 (by decide)
  · obtain ⟨D, h, -⟩ := s.map
    exact map_lies h hl
/-- a row of another block, of whatever type, is none of the numbering's, but it lies in the list's block -/
theorem NumS.apart (s : NumS w nb mb A c M) {base : Nat} {e : TypeId} {size n : Nat} {v : Value} {xs : List Value} (r : w.ownsRow base e size v n xs) (he : e ≠ 82) : v.ownBlock ≠ some nb ∧ v.ownBlock ≠ some mb := by
  refine ⟨own_blk_ne r s.box he, fun h => ?_⟩
  obtain ⟨D, hD, -⟩ := s.map
  rcases r.2 with ⟨e0, _⟩ | ⟨b, cap, cur, e0, _, hh, _⟩
  · rw [e0] at h; cases h
  · rw [e0] at h
    obtain rfl : b = mb := by simpa [Value.ownBlock] using h
    exact map_lies hD (show Lies w b e cur from hh) rfl
end
/-- more numbers, and those that were given stay -/
theorem cnV_pre {h : Hp} {M : List Nat} {v : Int} (m : MetV h M v) (t : List Nat) : cnV h (M ++ t) v = cnV h M v := by
  unfold cnV
  by_cases hr : refB h.objs.length v = true
  · rw [if_pos hr, if_pos hr, List.idxOf_append, if_pos (m hr)]
  · rw [if_neg hr, if_neg hr]
theorem cnO_pre {h : Hp} {M : List Nat} {o : Ob} (m : ∀ v ∈ o.cls :: o.slots, MetV h M v) (t : List Nat) : cnO h (M ++ t) o = cnO h M o := by
  unfold cnO
  rw [cnV_pre (m _ (by simp)), List.map_congr_left fun v hv => cnV_pre (m v (List.mem_cons_of_mem _ hv)) t]
/-- values turned so far -/
def toK (h : Hp) (M : List Nat) (vs : List Int) (k : Nat) : List Int := (vs.take k).map (cnV h (meets h M (vs.take k)))
theorem toK_len {h : Hp} {M : List Nat} {vs : List Int} {k : Nat} (hk : k ≤ vs.length) : (toK h M vs k).length = k := by unfold toK; rw [List.length_map, List.length_take]; omega
theorem toK_all (h : Hp) (M : List Nat) (vs : List Int) : toK h M vs vs.length = vs.map (cnV h (meets h M vs)) := by unfold toK; rw [List.take_length]
theorem toK_succ {h : Hp} {M : List Nat} {vs : List Int} {k : Nat} (hk : k < vs.length) : toK h M vs (k + 1) = toK h M vs k ++ [cnV h (meetL h (meets h M (vs.take k)) vs[k]) vs[k]] := by
  unfold toK
  rw [meets_take hk, List.take_succ_eq_append_getElem hk, List.map_append]
  congr 1
  obtain ⟨t, ht⟩ := meetL_pre h (meets h M (vs.take k)) vs[k]
  rw [ht]
  exact List.map_congr_left fun v hv => cnV_pre (meets_all _ v hv) t
end Go.Proofs.Ytjpibkcbgogfoaa
