/- A heap of the call's own in which two objects have changed places. -/
import Derived.Test.YtkpfmbdkfgeboaaGreatRS
namespace Go.Proofs.YtkpfmbdkfgeboaaGreat
open Go.RowKit
def put6 (xs : List Value) (i : Nat) (l : LO) : List Value :=
  (((((xs.set (i * 6) (.int .i64 l.o.cls)).set (i * 6 + 1) (.int .i64 l.o.kind)).set (i * 6 + 2) (.slice l.S l.o.slots.length l.c)).set (i * 6 + 3) (.string l.o.text)).set (i * 6 + 4) (.int .i64 l.o.bits)).set (i * 6 + 5) (.int .i64 l.o.hash)
def set6 (w : World) (g i : Nat) (l : LO) : World :=
  (((((w.setCell ⟨g, i * 6, none⟩ (.int .i64 l.o.cls)).setCell ⟨g, i * 6 + 1, none⟩ (.int .i64 l.o.kind)).setCell ⟨g, i * 6 + 2, none⟩ (.slice l.S l.o.slots.length l.c)).setCell ⟨g, i * 6 + 3, none⟩ (.string l.o.text)).setCell ⟨g, i * 6 + 4, none⟩ (.int .i64 l.o.bits)).setCell ⟨g, i * 6 + 5, none⟩ (.int .i64 l.o.hash)
theorem rowOf_put (ls : List LO) (i : Nat) (l : LO) (hi : i < ls.length) : rowOf (ls.set i l) = put6 (rowOf ls) i l := by
  apply List.ext_getElem?
  intro j
  rw [rowOf_upd ls i l hi]
  unfold put6
  simp only [List.getElem?_set, List.length_set, rowOf_length]
  by_cases e : j / 6 = i
  · rw [if_pos e]
    have hr : j = i * 6 ∨ j = i * 6 + 1 ∨ j = i * 6 + 2 ∨ j = i * 6 + 3 ∨ j = i * 6 + 4 ∨ j = i * 6 + 5 := by omega
    have h0 : i * 6 < ls.length * 6 := by omega
    have h1 : i * 6 + 1 < ls.length * 6 := by omega
    have h2 : i * 6 + 2 < ls.length * 6 := by omega
    have h3 : i * 6 + 3 < ls.length * 6 := by omega
    have h4 : i * 6 + 4 < ls.length * 6 := by omega
    have h5 : i * 6 + 5 < ls.length * 6 := by omega
    have m0 : i * 6 % 6 = 0 := by omega
    have m1 : (i * 6 + 1) % 6 = 1 := by omega
    have m2 : (i * 6 + 2) % 6 = 2 := by omega
    have m3 : (i * 6 + 3) % 6 = 3 := by omega
    have m4 : (i * 6 + 4) % 6 = 4 := by omega
    have m5 : (i * 6 + 5) % 6 = 5 := by omega
    rcases hr with r | r | r | r | r | r <;> subst r <;> simp [LO.cells, h0, h1, h2, h3, h4, h5, m0, m1, m2, m3, m4, m5]
  · rw [if_neg e, if_neg (by omega), if_neg (by omega), if_neg (by omega), if_neg (by omega), if_neg (by omega), if_neg (by omega)]
theorem own_set6 {w : World} {base g c n i : Nat} {xs : List Value} (h : w.ownsRow base 41 6 (.slice (some ⟨g, 0, none⟩) n c) n xs) (l : LO) : (set6 w g i l).ownsRow base 41 6 (.slice (some ⟨g, 0, none⟩) n c) n (put6 xs i l) :=
  ((((((h.stored _ _).1.stored _ _).1.stored _ _).1.stored _ _).1.stored _ _).1.stored _ _).1
theorem ints_set6 {w : World} {b g n i : Nat} {v : Value} {xs : List Value} (h : w.ownsRow b 3 1 v n xs) (hne : v.ownBlock ≠ some g) (l : LO) : (set6 w g i l).ownsRow b 3 1 v n xs :=
  ownsRow_setCell_other (ownsRow_setCell_other (ownsRow_setCell_other (ownsRow_setCell_other (ownsRow_setCell_other (ownsRow_setCell_other h (by exact hne) _) (by exact hne) _) (by exact hne) _) (by exact hne) _) (by exact hne) _) (by exact hne) _
theorem below_set6 {B : Nat} {w0 w : World} {g i : Nat} (h : Below B w0 w) (hg : B ≤ g) (l : LO) : Below B w0 (set6 w g i l) :=
  (((((h.setCell (p := ⟨g, _, none⟩) hg _).setCell (p := ⟨g, _, none⟩) hg _).setCell (p := ⟨g, _, none⟩) hg _).setCell (p := ⟨g, _, none⟩) hg _).setCell (p := ⟨g, _, none⟩) hg _).setCell (p := ⟨g, _, none⟩) hg _
theorem blk_set6 {w : World} {g i b : Nat} {t : TypeId} {cs : Array Value} (h : Lies w b t cs) (hne : b ≠ g) (l : LO) : Lies (set6 w g i l) b t cs :=
  (((((h.far (p := ⟨g, _, none⟩) hne _).far (p := ⟨g, _, none⟩) hne _).far (p := ⟨g, _, none⟩) hne _).far (p := ⟨g, _, none⟩) hne _).far (p := ⟨g, _, none⟩) hne _).far (p := ⟨g, _, none⟩) hne _
theorem cell_set6 {w : World} {g i b o : Nat} {v : Value} (h : w.cell? ⟨b, o, none⟩ = some v) (hne : b ≠ g) (l : LO) : (set6 w g i l).cell? ⟨b, o, none⟩ = some v :=
  cell_far hne (cell_far hne (cell_far hne (cell_far hne (cell_far hne (cell_far hne h)))))
def swp (i k p : Nat) : Nat := if p = k then i else if p = i then k else p
theorem swap_get {ls : List LO} {i k : Nat} {l m : LO} (hl : ls[i]? = some l) (hm : ls[k]? = some m) (p : Nat) : ((ls.set i m).set k l)[p]? = ls[swp i k p]? := by
  have hil : i < ls.length := (List.getElem?_eq_some_iff.1 hl).1
  have hkl : k < ls.length := (List.getElem?_eq_some_iff.1 hm).1
  unfold swp
  by_cases e : p = k
  · subst e; rw [if_pos rfl, List.getElem?_set, if_pos rfl, List.length_set, if_pos hkl, hl]
  · rw [if_neg e, List.getElem?_set, if_neg (fun g => e g.symm), List.getElem?_set]
    by_cases e2 : p = i
    · subst e2; rw [if_pos rfl, if_pos hil, if_pos rfl, hm]
    · rw [if_neg (fun g => e2 g.symm), if_neg e2]
theorem swp_inj {i k p q : Nat} (h : p ≠ q) : swp i k p ≠ swp i k q := by
  unfold swp
  repeat' split
  all_goals omega
theorem OwnH.swap {w : World} {base g c i k : Nat} {ls : List LO} {l m : LO} (h : OwnH w base (some ⟨g, 0, none⟩) c ls) (hl : ls[i]? = some l) (hm : ls[k]? = some m) :
    OwnH (set6 (set6 w g i m) g k l) base (some ⟨g, 0, none⟩) c ((ls.set i m).set k l) := by
  have hil : i < ls.length := (List.getElem?_eq_some_iff.1 hl).1
  have hkl : k < ls.length := (List.getElem?_eq_some_iff.1 hm).1
  obtain ⟨cur, hB, _, _, _⟩ := own_blk h.row
  refine ⟨?_, fun p n hn => ?_, fun p q lp lq a b hp hq hlt ha hb => ?_⟩
  · rw [rowOf_put _ k l (by simpa using hkl), rowOf_put ls i m hil, List.length_set, List.length_set]
    exact own_set6 (own_set6 h.row m) l
  · rw [swap_get hl hm] at hn
    have h3 := h.ints _ n hn
    exact ints_set6 (ints_set6 h3 (own_blk_ne h3 hB (by decide)) m) (own_blk_ne h3 hB (by decide)) l
  · rw [swap_get hl hm] at hp hq
    have hne := swp_inj (i := i) (k := k) (show p ≠ q by omega)
    rcases Nat.lt_or_gt_of_ne hne with h1 | h1
    · exact h.apart _ _ lp lq a b hp hq h1 ha hb
    · exact fun e => h.apart _ _ lq lp b a hq hp h1 hb ha e.symm
theorem swap_objs {ls : List LO} {os : List Ob} {i k : Nat} {l m : LO} (h : ls.map (·.o) = os) : ((ls.set i m).set k l).map (·.o) = (os.set i m.o).set k l.o := by
  rw [List.map_set, List.map_set, h]
end Go.Proofs.YtkpfmbdkfgeboaaGreat
