/- Copies of lists of objects and of ints: slices.Clone, in memory of the call's own. -/
import Derived.Test.YtimmoaomhilaeaaM
import Derived.Laws.EntriesVeiled
import Derived.Deep.AppendLies
import Derived.Maps.AppendAt
namespace Go.Proofs.Ytimmoaomhilaeaa
open Go.RowKit
theorem int_info : (Try.prog.info? 3).map (fun i => (i.zero, i.size, i.bytes)) = some (some (.int .i64 0), 1, 8) := by kernel_rfl
/-- an object, and where its slots lie -/
structure LO where
  o : Ob
  S : Option Addr
  c : Nat
def LO.cells (l : LO) : List Value := [.int .i64 l.o.cls, .int .i64 l.o.kind, .slice l.S l.o.slots.length l.c, .string l.o.text, .int .i64 l.o.bits, .int .i64 l.o.hash]
def rowOf (ls : List LO) : List Value := ls.flatMap LO.cells
theorem rowOf_length (ls : List LO) : (rowOf ls).length = ls.length * 6 := by
  unfold rowOf
  induction ls with
  | nil => rfl
  | cons l ls ih => rw [List.flatMap_cons, List.length_append, ih]; simp [LO.cells]; omega
theorem rowOf_get (ls : List LO) (i j : Nat) (l : LO) (hi : ls[i]? = some l) (hj : j < 6) : (rowOf ls)[i * 6 + j]? = l.cells[j]? := by
  unfold rowOf
  induction ls generalizing i with
  | nil => simp at hi
  | cons m ls ih =>
    have hl : m.cells.length = 6 := rfl
    cases i with
    | zero =>
      obtain rfl : m = l := by simpa using hi
      rw [List.flatMap_cons, List.getElem?_append_left (by omega)]; simp
    | succ i =>
      rw [List.flatMap_cons, List.getElem?_append_right (by omega), hl]
      rw [show (i + 1) * 6 + j - 6 = i * 6 + j by omega]
      exact ih i (by simpa using hi)
theorem rowOf_one (ls : List LO) : ∀ u ∈ rowOf ls, u.oneCell' = true := by
  intro u hu
  obtain ⟨l, _, hl⟩ := List.mem_flatMap.1 hu
  simp [LO.cells] at hl
  rcases hl with rfl | rfl | rfl | rfl | rfl | rfl <;> rfl
theorem rowOf_append (a b : List LO) : rowOf (a ++ b) = rowOf a ++ rowOf b := by unfold rowOf; rw [List.flatMap_append]

/-- a slice of objects that is laid as ls says -/
structure LaidR (w : World) (A : Option Addr) (ls : List LO) : Prop where
  row : 0 < ls.length → ∃ b off, A = some ⟨b, off, none⟩ ∧ b < w.heap.size ∧ ∀ j u, (rowOf ls)[j]? = some u → w.cell? ⟨b, off + j, none⟩ = some u
  ints : ∀ l ∈ ls, IntsR w l.S l.o.slots
  nils : ∀ l ∈ ls, l.S = none → l.c = 0
theorem pick_list {P : Nat → LO → Prop} : ∀ (os : List Ob) (n : Nat), (∀ i o, os[i]? = some o → ∃ l : LO, l.o = o ∧ P (n + i) l) → ∃ ls : List LO, ls.map (·.o) = os ∧ ∀ i l, ls[i]? = some l → P (n + i) l
  | [], n, _ => ⟨[], rfl, fun i l h => by simp at h⟩
  | o :: os, n, h => by
    obtain ⟨l, hl, hp⟩ := h 0 o rfl
    obtain ⟨ls, h1, h2⟩ := pick_list os (n + 1) (fun i o' ho => by
      obtain ⟨m, hm, hq⟩ := h (i + 1) o' (by simpa using ho)
      exact ⟨m, hm, by rw [show n + 1 + i = n + (i + 1) by omega]; exact hq⟩)
    refine ⟨l :: ls, by simp [hl, h1], fun i m hm => ?_⟩
    cases i with
    | zero => obtain rfl : l = m := by simpa using hm
              exact hp
    | succ i => rw [show n + (i + 1) = n + 1 + i by omega]; exact h2 i m (by simpa using hm)
theorem ObsR.laid {w : World} {A : Option Addr} {os : List Ob} (h : ObsR w A os) : ∃ ls, ls.map (·.o) = os ∧ LaidR w A ls := by
  by_cases hn : 0 < os.length
  · obtain ⟨b, off, e, hlt, hc⟩ := h hn
    obtain ⟨ls, h1, h2⟩ := pick_list (P := fun i l => ObC w b (off + i * 6) l.S l.c l.o ∧ IntsR w l.S l.o.slots ∧ (l.S = none → l.c = 0)) os 0 (fun i o ho => by
      obtain ⟨S, c, k1, k2, _, k3⟩ := hc i o ho
      exact ⟨⟨o, S, c⟩, rfl, by rw [Nat.zero_add]; exact k1, k2, k3⟩)
    refine ⟨ls, h1, fun _ => ⟨b, off, e, hlt, fun j u hu => ?_⟩, fun l hl => ?_, fun l hl => ?_⟩
    · have hj : j < ls.length * 6 := by
        have := (List.getElem?_eq_some_iff.1 hu).1
        rwa [rowOf_length] at this
      have hi : j / 6 < ls.length := by omega
      have e1 := rowOf_get ls (j / 6) (j % 6) ls[j / 6] (List.getElem?_eq_getElem hi) (by omega)
      rw [show j / 6 * 6 + j % 6 = j by omega, hu] at e1
      obtain ⟨⟨c0, c1, c2, c3, c4, c5⟩, _⟩ := h2 (j / 6) _ (List.getElem?_eq_getElem hi)
      rw [Nat.zero_add] at c0 c1 c2 c3 c4 c5
      have hr : j % 6 = 0 ∨ j % 6 = 1 ∨ j % 6 = 2 ∨ j % 6 = 3 ∨ j % 6 = 4 ∨ j % 6 = 5 := by omega
      have ej : j = j / 6 * 6 + j % 6 := by omega
      generalize j / 6 = q at *
      rcases hr with r | r | r | r | r | r <;> rw [r] at e1 ej <;> simp [LO.cells] at e1 <;> subst e1 <;> rw [ej] <;> simp only [← Nat.add_assoc, Nat.add_zero] <;> assumption
    · obtain ⟨i, hi, rfl⟩ := List.getElem_of_mem hl
      exact (h2 i _ (List.getElem?_eq_getElem hi)).2.1
    · obtain ⟨i, hi, rfl⟩ := List.getElem_of_mem hl
      exact (h2 i _ (List.getElem?_eq_getElem hi)).2.2
  · have : os = [] := List.eq_nil_of_length_eq_zero (by omega)
    subst this
    exact ⟨[], rfl, fun h => by simp at h, fun l hl => by simp at hl, fun l hl => by simp at hl⟩
theorem LaidR.obs {w : World} {A : Option Addr} {ls : List LO} (h : LaidR w A ls) (hc : ∀ l ∈ ls, l.o.slots.length ≤ l.c) : ObsR w A (ls.map (·.o)) := fun hn => by
  obtain ⟨b, off, e, hlt, hcell⟩ := h.row (by simpa using hn)
  refine ⟨b, off, e, hlt, fun i o ho => ?_⟩
  have hi : i < ls.length := by have := (List.getElem?_eq_some_iff.1 ho).1; simpa using this
  have hl : ls[i]? = some ls[i] := List.getElem?_eq_getElem hi
  obtain rfl : ls[i].o = o := by simpa [hi] using ho
  have g := fun j hj u hu => hcell (i * 6 + j) u ((rowOf_get ls i j _ hl hj).trans hu)
  refine ⟨ls[i].S, ls[i].c, ⟨g 0 (by omega) _ rfl, ?_, ?_, ?_, ?_, ?_⟩, h.ints _ (List.getElem_mem hi), hc _ (List.getElem_mem hi), h.nils _ (List.getElem_mem hi)⟩
  · rw [Nat.add_assoc]; exact g 1 (by omega) _ rfl
  · rw [Nat.add_assoc]; exact g 2 (by omega) _ rfl
  · rw [Nat.add_assoc]; exact g 3 (by omega) _ rfl
  · rw [Nat.add_assoc]; exact g 4 (by omega) _ rfl
  · rw [Nat.add_assoc]; exact g 5 (by omega) _ rfl

set_option maxHeartbeats 1000000 in
theorem clone1_any (S : Option Addr) (xs : List Int) (d : Nat) (w : World) (hs : IntsR w S xs) (hl : xs.length ≤ 17592186044416) :
    Calls Try.prog 19 #[.slice S xs.length d] w fun e w' => Fresh w w' 3 1 xs.length (xs.map (Value.int .i64)) e := by
  obtain ⟨i0, hi, hz0, hz1, hz2⟩ := info_parts int_info
  cases S with
  | none =>
    have hx : xs = [] := by
      cases xs with
      | nil => rfl
      | cons x t => obtain ⟨b, o, e, _⟩ := hs (by simp); cases e
    subst hx
    have q22 : ∀ (w : World) (a : Option Addr) (n c n' c' : Nat), (binOp .eql 22 (.slice a n c) (.slice none n' c')).run Try.prog w = .ok (.bool a.isNone) w := fun w a n c n' c' => Lib.run_eql_slice_nil w _ _ a n c n' c' Try.underlying22
    clear hs hi hz0 hz1 hz2
    go_enter Try.func19, Try.ntmps19
    go_wp2
    go_ret
    exact ⟨none, 0, rfl, World.ownsRow_nil _ _ _ _, Below.refl _ _⟩
  | some a =>
    have q22 : ∀ (w : World) (a : Option Addr) (n c n' c' : Nat), (binOp .eql 22 (.slice a n c) (.slice none n' c')).run Try.prog w = .ok (.bool a.isNone) w := fun w a n c n' c' => Lib.run_eql_slice_nil w _ _ a n c n' c' Try.underlying22
    have HS := hid hs
    clear hs
    go_enter Try.func19, Try.ntmps19
    go_wp2_with (at_builtin; refine wpList_append_own _ rfl _ _ 22 rfl w.heap.size 3 i0 (.int .i64 0) 1 8 Try.underlying22 hi hz0 hz1 hz2 rfl (by decide) _ _ _ rfl (World.ownsRow_made w #[] 0 (Nat.le_refl _) (Nat.zero_le _) rfl) a xs.length d (xs.map (Value.int .i64)) rfl ?qc1 ?qc2 ?qc3 ?qc4 ?qc5 ?qc6 ?_)
    case qc1 => simp
    case qc2 =>
      intro j u hj
      have hjn : j < xs.length := by have := (List.getElem?_eq_some_iff.1 hj).1; simpa using this
      obtain ⟨b, o, e, hlt, hc⟩ := HS.out (by omega)
      cases e
      have := hc j xs[j] (List.getElem?_eq_getElem hjn)
      rw [List.getElem?_map, List.getElem?_eq_getElem hjn] at hj
      cases hj
      rw [Addr.add_lit]
      exact cell_old this
    case qc3 => intro u hu; obtain ⟨x, _, rfl⟩ := List.mem_map.1 hu; rfl
    case qc4 => unfold maxLen; omega
    case qc5 => omega
    case qc6 => simp
    intro v' w1 hown hgrow hnil
    go_wp2
    go_ret
    obtain ⟨A, c, rfl⟩ := own_form hown
    refine ⟨A, c, by simp, by simpa using hown, ?_⟩
    exact ((Below.refl _ w).alloc (Nat.le_refl _) _).grown hgrow (by simp) (by intro k hk; simp [Value.ownBlock] at hk; omega)
end Go.Proofs.Ytimmoaomhilaeaa
