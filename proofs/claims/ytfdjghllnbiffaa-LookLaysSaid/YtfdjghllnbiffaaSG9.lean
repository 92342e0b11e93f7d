/- Two slots laid ahead of an object's own, in a copy of the call's own. -/
import Derived.Test.YtfdjghllnbiffaaSF9
import Derived.Test.YtfdjghllnbiffaaAO
namespace Go.Proofs.Ytfdjghllnbiffaa
open Go.RowKit
theorem obs_ahead9 {w : World} {base g c k B : Nat} {ls : List LO} {l : LO} {x y : Int} {S : Option Addr} {d : Nat} (hO : OwnH w base (some ⟨g, 0, none⟩) c ls) (hl : ls[k]? = some l)
    (hI : w.ownsRow B 3 1 (.slice S (l.o.slots.length + 2) d) (l.o.slots.length + 2) ((x :: y :: l.o.slots).map (Value.int .i64))) :
    ObsR (w.setCell ⟨g, k * 6 + 2, none⟩ (.slice S (l.o.slots.length + 2) d)) (some ⟨g, 0, none⟩) ((ls.map (·.o)).set k (ahead9 l.o x y)) := by
  obtain ⟨cur, hB, -, -, -⟩ := own_blk hO.row
  have hk : k < ls.length := (List.getElem?_eq_some_iff.1 hl).1
  have R := (hO.row.stored (k * 6 + 2) (.slice S (l.o.slots.length + 2) d)).1
  have hlt : g < (w.setCell ⟨g, k * 6 + 2, none⟩ (.slice S (l.o.slots.length + 2) d)).heap.size := by
    have := hB.lt
    simpa using this
  intro _
  refine ⟨g, 0, rfl, hlt, fun i o ho => ?_⟩
  rw [List.getElem?_set] at ho
  have hi : i < ls.length := by
    split at ho
    · omega
    · have := (List.getElem?_eq_some_iff.1 ho).1
      simpa using this
  obtain ⟨m, hm⟩ : ∃ m, ls[i]? = some m := ⟨_, List.getElem?_eq_getElem hi⟩
  have cell : ∀ j, j < 6 → (i = k → j ≠ 2) → (w.setCell ⟨g, k * 6 + 2, none⟩ (.slice S (l.o.slots.length + 2) d)).cell? ⟨g, i * 6 + j, none⟩ = m.cells[j]? := fun j hj hne => by
    rw [R.cellAt (i * 6 + j) (by omega), List.getElem?_set_ne (by intro e; exact hne (by omega) (by omega)), rowOf_get ls i j _ hm hj]
  have d0 := cell 0 (by omega) (by omega)
  have d1 := cell 1 (by omega) (by omega)
  have d3 := cell 3 (by omega) (by omega)
  have d4 := cell 4 (by omega) (by omega)
  have d5 := cell 5 (by omega) (by omega)
  rw [Nat.add_zero] at d0
  by_cases hik : i = k
  · subst hik
    rw [if_pos rfl, if_pos (by simpa using hk)] at ho
    obtain rfl := Option.some.inj ho
    rw [hl] at hm
    obtain rfl := Option.some.inj hm
    have d2 : (w.setCell ⟨g, i * 6 + 2, none⟩ (.slice S (l.o.slots.length + 2) d)).cell? ⟨g, i * 6 + 2, none⟩ = some (.slice S (l.o.slots.length + 2) d) := by
      rw [R.cellAt (i * 6 + 2) (by omega), List.getElem?_set_self (by rw [rowOf_length]; omega)]
    have hI2 := ownsRow_setCell_other hI (a := ⟨g, i * 6 + 2, none⟩) (own_blk_ne hI hB (by decide)) (.slice S (l.o.slots.length + 2) d)
    have hints := own_ints (S := S) (xs := x :: y :: l.o.slots) (by simpa using hI2)
    refine ⟨S, d, ?_, hints, ?_, fun e => own_nil hI e⟩
    · rw [Nat.zero_add]
      exact ⟨d0, d1, d2, d3, d4, d5⟩
    · have := own_cap hI
      show (x :: y :: l.o.slots).length ≤ d
      simp only [List.length_cons]; omega
  · rw [if_neg (fun e => hik e.symm), List.getElem?_map, hm] at ho
    obtain rfl := Option.some.inj ho
    have hO2 := hO.ints i m hm
    have hI2 := ownsRow_setCell_other hO2 (a := ⟨g, k * 6 + 2, none⟩) (own_blk_ne hO2 hB (by decide)) (.slice S (l.o.slots.length + 2) d)
    refine ⟨m.S, m.c, ?_, own_ints hI2, own_cap hO2, fun e => own_nil hO2 e⟩
    rw [Nat.zero_add]
    exact ⟨d0, d1, cell 2 (by omega) (fun e => absurd e hik), d3, d4, d5⟩
theorem int_info9 : (Try.prog.info? 3).map (fun i => (i.zero, i.size, i.bytes)) = some (some (.int .i64 0), 1, 8) := by kernel_rfl
theorem own_two9 (w : World) (x y : Int) : (w.alloc (.cells #[.int .i64 x, .int .i64 y] 3)).ownsRow w.heap.size 3 1 (.slice (some ⟨w.heap.size, 0, none⟩) 2 2) 2 ([x, y].map (Value.int .i64)) := by
  refine ⟨rfl, .inr ⟨w.heap.size, 2, #[.int .i64 x, .int .i64 y], rfl, Nat.le_refl _, ?_, by omega, by unfold maxLen; omega, rfl, rfl⟩⟩
  show (w.heap.push _)[w.heap.size]? = _
  simp
/-- two numbers, and some behind them, run -/
theorem run_two9 {w : World} {base : Nat} {x y : Int} {v : Value} (hown : w.ownsRow base 3 1 v 2 ([x, y].map (Value.int .i64))) (S : Option Addr) (d : Nat) (xs : List Int) (hr : IntsR w S xs) (hn : S = none → d = 0) (hl : xs.length ≤ 1000) (hbase : base ≤ w.heap.size) :
    ∃ A c w', (Builtin.append_ #[44, 44] 44 #[v, .slice S xs.length d]).run Try.prog w = .ok (.slice A (xs.length + 2) c) w' ∧ w'.ownsRow base 3 1 (.slice A (xs.length + 2) c) (xs.length + 2) ((x :: y :: xs).map (Value.int .i64)) ∧ w.grownBy w' v.ownBlock := by
  obtain ⟨i0, hi, hz0, hz1, hz2⟩ := info_parts int_info9
  cases S with
  | none =>
    have hx0 : xs = [] := by
      cases xs with
      | nil => rfl
      | cons a t => obtain ⟨b, o, e, _⟩ := hr (by simp); cases e
    subst hx0
    rw [hn rfl]
    obtain ⟨A, c, rfl⟩ := own_form hown
    exact ⟨A, c, w, run_append_owned_none w base 44 44 3 i0 1 Try.underlying44 hi _ 2 _ hown, hown, ⟨rfl, rfl, rfl, Nat.le_refl _, fun _ _ _ => rfl⟩⟩
  | some ad =>
    obtain ⟨v', w', h1, h2, h3, -⟩ := run_append_own (P := Try.prog) w base 44 44 3 i0 (.int .i64 0) 1 8 Try.underlying44 hi hz0 hz1 hz2 rfl (by decide) v 2 _ hown ad xs.length d (xs.map (Value.int .i64)) (by simp) (fun j u hu => by
      have hjn : j < xs.length := by have := (List.getElem?_eq_some_iff.1 hu).1; simpa using this
      obtain ⟨b, o, e, hlt, hc⟩ := hr (by omega)
      cases e
      rw [List.getElem?_map, List.getElem?_eq_getElem hjn] at hu
      cases hu
      rw [Addr.add_lit]
      exact hc j _ (List.getElem?_eq_getElem hjn)) (fun u hu => by obtain ⟨x, _, rfl⟩ := List.mem_map.1 hu; rfl) (by unfold maxLen; omega) (by omega) hbase
    rw [Nat.add_comm 2] at h2
    obtain ⟨A, c, rfl⟩ := own_form h2
    exact ⟨A, c, w', h1, by simpa using h2, h3⟩
end Go.Proofs.Ytfdjghllnbiffaa
