/- Copies of lists of objects and of ints: slices.Clone, in memory of the call's own. What may be: the closures, the library's ContainsFunc, May. What may be, of a whole heap: IndexFunc and ContainsFunc over objects, heap.May. -/
import Derived.Test.YtnilempeldlieaaGreatJ01
import Derived.Laws.EntriesVeiled
import Derived.Deep.AppendLies
import Derived.Maps.AppendAt
namespace Go.Proofs.YtnilempeldlieaaGreat
open Go.RowKit
theorem int_info : (Tryz.prog.info? 3).map (fun i => (i.zero, i.size, i.bytes)) = some (some (.int .i64 0), 1, 8) := by kernel_rfl
theorem obj_info : (Tryz.prog.info? 41).map (fun i => (i.zero, i.size, i.bytes)) = some (some (.agg #[.int .i64 0, .int .i64 0, .slice none 0 0, .string ⟨#[]⟩, .int .i64 0, .int .i64 0]), 6, 72) := by kernel_rfl

structure LO where
  o : Ob
  S : Option Addr
  c : Nat
def LO.cells (l : LO) : List Value := [.int .i64 l.o.cls, .int .i64 l.o.kind, .slice l.S l.o.slots.length l.c, .string l.o.text, .int .i64 l.o.bits, .int .i64 l.o.hash]
def rowOf (ls : List LO) : List Value := ls.flatMap LO.cells
theorem rowOf_length (ls : List LO) : (rowOf ls).length = ls.length * 6 := by
  unfold rowOf
  induction ls with
  | nil => rfl
  | cons l ls ih => rw [List.flatMap_cons, List.length_append, ih]; simp [LO.cells]; omega
theorem rowOf_get (ls : List LO) (i j : Nat) (l : LO) (hi : ls[i]? = some l) (hj : j < 6) : (rowOf ls)[i * 6 + j]? = l.cells[j]? := by
  unfold rowOf
  induction ls generalizing i with
  | nil => simp at hi
  | cons m ls ih =>
    have hl : m.cells.length = 6 := rfl
    cases i with
    | zero =>
      obtain rfl : m = l := by simpa using hi
      rw [List.flatMap_cons, List.getElem?_append_left (by omega)]; simp
    | succ i =>
      rw [List.flatMap_cons, List.getElem?_append_right (by omega), hl]
      rw [show (i + 1) * 6 + j - 6 = i * 6 + j by omega]
      exact ih i (by simpa using hi)
theorem rowOf_one (ls : List LO) : ∀ u ∈ rowOf ls, u.oneCell' = true := by
  intro u hu
  obtain ⟨l, _, hl⟩ := List.mem_flatMap.1 hu
  simp [LO.cells] at hl
  rcases hl with rfl | rfl | rfl | rfl | rfl | rfl <;> rfl
theorem rowOf_append (a b : List LO) : rowOf (a ++ b) = rowOf a ++ rowOf b := by unfold rowOf; rw [List.flatMap_append]

structure LaidR (w : World) (A : Option Addr) (ls : List LO) : Prop where
  row : 0 < ls.length → ∃ b off, A = some ⟨b, off, none⟩ ∧ b < w.heap.size ∧ ∀ j u, (rowOf ls)[j]? = some u → w.cell? ⟨b, off + j, none⟩ = some u
  ints : ∀ l ∈ ls, IntsR w l.S l.o.slots
  nils : ∀ l ∈ ls, l.S = none → l.c = 0
theorem pick_list {P : Nat → LO → Prop} : ∀ (os : List Ob) (n : Nat), (∀ i o, os[i]? = some o → ∃ l : LO, l.o = o ∧ P (n + i) l) → ∃ ls : List LO, ls.map (·.o) = os ∧ ∀ i l, ls[i]? = some l → P (n + i) l
  | [], n, _ => ⟨[], rfl, fun i l h => by simp at h⟩
  | o :: os, n, h => by
    obtain ⟨l, hl, hp⟩ := h 0 o rfl
    obtain ⟨ls, h1, h2⟩ := pick_list os (n + 1) (fun i o' ho => by
      obtain ⟨m, hm, hq⟩ := h (i + 1) o' (by simpa using ho)
      exact ⟨m, hm, by rw [show n + 1 + i = n + (i + 1) by omega]; exact hq⟩)
    refine ⟨l :: ls, by simp [hl, h1], fun i m hm => ?_⟩
    cases i with
    | zero => obtain rfl : l = m := by simpa using hm
              exact hp
    | succ i => rw [show n + (i + 1) = n + 1 + i by omega]; exact h2 i m (by simpa using hm)
theorem ObsR.laid {w : World} {A : Option Addr} {os : List Ob} (h : ObsR w A os) : ∃ ls, ls.map (·.o) = os ∧ LaidR w A ls := by
  by_cases hn : 0 < os.length
  · obtain ⟨b, off, e, hlt, hc⟩ := h hn
    obtain ⟨ls, h1, h2⟩ := pick_list (P := fun i l => ObC w b (off + i * 6) l.S l.c l.o ∧ IntsR w l.S l.o.slots ∧ (l.S = none → l.c = 0)) os 0 (fun i o ho => by
      obtain ⟨S, c, k1, k2, _, k3⟩ := hc i o ho
      exact ⟨⟨o, S, c⟩, rfl, by rw [Nat.zero_add]; exact k1, k2, k3⟩)
    refine ⟨ls, h1, fun _ => ⟨b, off, e, hlt, fun j u hu => ?_⟩, fun l hl => ?_, fun l hl => ?_⟩
    · have hj : j < ls.length * 6 := by
        have := (List.getElem?_eq_some_iff.1 hu).1
        rwa [rowOf_length] at this
      have hi : j / 6 < ls.length := by omega
      have e1 := rowOf_get ls (j / 6) (j % 6) ls[j / 6] (List.getElem?_eq_getElem hi) (by omega)
      rw [show j / 6 * 6 + j % 6 = j by omega, hu] at e1
      obtain ⟨⟨c0, c1, c2, c3, c4, c5⟩, _⟩ := h2 (j / 6) _ (List.getElem?_eq_getElem hi)
      rw [Nat.zero_add] at c0 c1 c2 c3 c4 c5
      have hr : j % 6 = 0 ∨ j % 6 = 1 ∨ j % 6 = 2 ∨ j % 6 = 3 ∨ j % 6 = 4 ∨ j % 6 = 5 := by omega
      have ej : j = j / 6 * 6 + j % 6 := by omega
      generalize j / 6 = q at *
      rcases hr with r | r | r | r | r | r <;> rw [r] at e1 ej <;> simp [LO.cells] at e1 <;> subst e1 <;> rw [ej] <;> simp only [← Nat.add_assoc, Nat.add_zero] <;> assumption
    · obtain ⟨i, hi, rfl⟩ := List.getElem_of_mem hl
      exact (h2 i _ (List.getElem?_eq_getElem hi)).2.1
    · obtain ⟨i, hi, rfl⟩ := List.getElem_of_mem hl
      exact (h2 i _ (List.getElem?_eq_getElem hi)).2.2
  · have : os = [] := List.eq_nil_of_length_eq_zero (by omega)
    subst this
    exact ⟨[], rfl, fun h => by simp at h, fun l hl => by simp at hl, fun l hl => by simp at hl⟩
theorem LaidR.obs {w : World} {A : Option Addr} {ls : List LO} (h : LaidR w A ls) (hc : ∀ l ∈ ls, l.o.slots.length ≤ l.c) : ObsR w A (ls.map (·.o)) := fun hn => by
  obtain ⟨b, off, e, hlt, hcell⟩ := h.row (by simpa using hn)
  refine ⟨b, off, e, hlt, fun i o ho => ?_⟩
  have hi : i < ls.length := by have := (List.getElem?_eq_some_iff.1 ho).1; simpa using this
  have hl : ls[i]? = some ls[i] := List.getElem?_eq_getElem hi
  obtain rfl : ls[i].o = o := by simpa [hi] using ho
  have g := fun j hj u hu => hcell (i * 6 + j) u ((rowOf_get ls i j _ hl hj).trans hu)
  refine ⟨ls[i].S, ls[i].c, ⟨g 0 (by omega) _ rfl, ?_, ?_, ?_, ?_, ?_⟩, h.ints _ (List.getElem_mem hi), hc _ (List.getElem_mem hi), h.nils _ (List.getElem_mem hi)⟩
  · rw [Nat.add_assoc]; exact g 1 (by omega) _ rfl
  · rw [Nat.add_assoc]; exact g 2 (by omega) _ rfl
  · rw [Nat.add_assoc]; exact g 3 (by omega) _ rfl
  · rw [Nat.add_assoc]; exact g 4 (by omega) _ rfl
  · rw [Nat.add_assoc]; exact g 5 (by omega) _ rfl

set_option maxHeartbeats 1000000 in
theorem clone1_any (S : Option Addr) (xs : List Int) (d : Nat) (w : World) (hs : IntsR w S xs) (hl : xs.length ≤ 17592186044416) :
    Calls Tryz.prog 72 #[.slice S xs.length d] w fun e w' => Fresh w w' 3 1 xs.length (xs.map (Value.int .i64)) e := by
  obtain ⟨i0, hi, hz0, hz1, hz2⟩ := info_parts int_info
  cases S with
  | none =>
    have hx : xs = [] := by
      cases xs with
      | nil => rfl
      | cons x t => obtain ⟨b, o, e, _⟩ := hs (by simp); cases e
    subst hx
    have q22 : ∀ (w : World) (a : Option Addr) (n c n' c' : Nat), (binOp .eql 34 (.slice a n c) (.slice none n' c')).run Tryz.prog w = .ok (.bool a.isNone) w := fun w a n c n' c' => Lib.run_eql_slice_nil w _ _ a n c n' c' Tryz.underlying34
    clear hs hi hz0 hz1 hz2
    go_enter Tryz.func72, Tryz.ntmps72
    go_wp2
    go_ret
    exact ⟨none, 0, rfl, World.ownsRow_nil _ _ _ _, Below.refl _ _⟩
  | some a =>
    have q22 : ∀ (w : World) (a : Option Addr) (n c n' c' : Nat), (binOp .eql 34 (.slice a n c) (.slice none n' c')).run Tryz.prog w = .ok (.bool a.isNone) w := fun w a n c n' c' => Lib.run_eql_slice_nil w _ _ a n c n' c' Tryz.underlying34
    have HS := hid hs
    clear hs
    go_enter Tryz.func72, Tryz.ntmps72
    go_wp2_with (at_builtin; refine wpList_append_own _ rfl _ _ 34 rfl w.heap.size 3 i0 (.int .i64 0) 1 8 Tryz.underlying34 hi hz0 hz1 hz2 rfl (by decide) _ _ _ rfl (World.ownsRow_made w #[] 0 (Nat.le_refl _) (Nat.zero_le _) rfl) a xs.length d (xs.map (Value.int .i64)) rfl ?qc1 ?qc2 ?qc3 ?qc4 ?qc5 ?qc6 ?_)
    case qc1 => simp
    case qc2 =>
      intro j u hj
      have hjn : j < xs.length := by have := (List.getElem?_eq_some_iff.1 hj).1; simpa using this
      obtain ⟨b, o, e, hlt, hc⟩ := HS.out (by omega)
      cases e
      have := hc j xs[j] (List.getElem?_eq_getElem hjn)
      rw [List.getElem?_map, List.getElem?_eq_getElem hjn] at hj
      cases hj
      rw [Addr.add_lit]
      exact cell_old this
    case qc3 => intro u hu; obtain ⟨x, _, rfl⟩ := List.mem_map.1 hu; rfl
    case qc4 => unfold maxLen; omega
    case qc5 => omega
    case qc6 => simp
    intro v' w1 hown hgrow hnil
    go_wp2
    go_ret
    obtain ⟨A, c, rfl⟩ := own_form hown
    refine ⟨A, c, by simp, by simpa using hown, ?_⟩
    exact ((Below.refl _ w).alloc (Nat.le_refl _) _).grown hgrow (by simp) (by intro k hk; simp [Value.ownBlock] at hk; omega)
set_option maxHeartbeats 1000000 in
theorem clone2_any (A : Option Addr) (ls : List LO) (d : Nat) (w : World) (hs : LaidR w A ls) (hl : ls.length ≤ 256) :
    Calls Tryz.prog 71 #[.slice A ls.length d] w fun e w' => Fresh w w' 41 6 ls.length (rowOf ls) e := by
  obtain ⟨i0, hi, hz0, hz1, hz2⟩ := info_parts obj_info
  have q22 : ∀ (w : World) (a : Option Addr) (n c n' c' : Nat), (binOp .eql 22 (.slice a n c) (.slice none n' c')).run Tryz.prog w = .ok (.bool a.isNone) w := fun w a n c n' c' => Lib.run_eql_slice_nil w _ _ a n c n' c' Tryz.underlying22
  cases A with
  | none =>
    have hx : ls = [] := by
      cases ls with
      | nil => rfl
      | cons x t => obtain ⟨b, o, e, _⟩ := hs.row (by simp); cases e
    subst hx
    clear hs hi hz0 hz1 hz2
    go_enter Tryz.func71, Tryz.ntmps71
    go_wp2
    go_ret
    exact ⟨none, 0, rfl, World.ownsRow_nil _ _ _ _, Below.refl _ _⟩
  | some a =>
    have HS := hid hs
    clear hs
    go_enter Tryz.func71, Tryz.ntmps71
    go_wp2_with (at_builtin; refine wpList_append_own _ rfl _ _ 22 rfl w.heap.size 41 i0 (.agg #[.int .i64 0, .int .i64 0, .slice none 0 0, .string ⟨#[]⟩, .int .i64 0, .int .i64 0]) 6 72 Tryz.underlying22 hi hz0 hz1 hz2 rfl (by decide) _ _ _ rfl (World.ownsRow_made w #[] 0 (Nat.le_refl _) (Nat.zero_le _) rfl) a ls.length d (rowOf ls) rfl ?qc1 ?qc2 ?qc3 ?qc4 ?qc5 ?qc6 ?_)
    case qc1 => exact rowOf_length ls
    case qc2 =>
      intro j u hj
      have hjn : j < ls.length * 6 := by have := (List.getElem?_eq_some_iff.1 hj).1; rwa [rowOf_length] at this
      obtain ⟨b, o, e, hlt, hc⟩ := HS.out.row (by omega)
      cases e
      rw [Addr.add_lit]
      exact cell_old (hc j u hj)
    case qc3 => exact rowOf_one ls
    case qc4 => unfold maxLen; omega
    case qc5 => omega
    case qc6 => simp
    intro v' w1 hown hgrow hnil
    go_wp2
    go_ret
    obtain ⟨A, c, rfl⟩ := own_form hown
    refine ⟨A, c, by simp, by simpa using hown, ?_⟩
    exact ((Below.refl _ w).alloc (Nat.le_refl _) _).grown hgrow (by simp) (by intro k hk; simp [Value.ownBlock] at hk; omega)
end Go.Proofs.YtnilempeldlieaaGreat
namespace Go.Proofs.YtnilempeldlieaaGreat
open Go.RowKit
structure BoxH (w : World) (b : Nat) (h : Hp) (A : Option Addr) (c : Nat) : Prop where
  b0 : w.cell? ⟨b, 0, none⟩ = some (.slice A h.objs.length c)
  b1 : w.cell? ⟨b, 1, none⟩ = some (.int .i64 h.cap)
  b2 : w.cell? ⟨b, 2, none⟩ = some (.int .i64 h.last)
theorem BoxH.below {w w' : World} {b : Nat} {h : Hp} {A : Option Addr} {c : Nat} (k : BoxH w b h A c) (hlt : b < w.heap.size) (hb : Below w.heap.size w w') : BoxH w' b h A c :=
  ⟨(hb.cell (p := ⟨b, _, none⟩) hlt).trans k.b0, (hb.cell (p := ⟨b, _, none⟩) hlt).trans k.b1, (hb.cell (p := ⟨b, _, none⟩) hlt).trans k.b2⟩

theorem may1_any (h : Hp) (x : Int) (A : Option Addr) (c b : Nat) (w : World) (hb : BoxH w b h A c) :
    Calls Tryz.prog 104 #[.int .i64 x, .pointer (some ⟨b, 0, none⟩)] w fun e w' => e = .returned (.bool (!hasB h.objs.length x)) ∧ Below w.heap.size w w' := by
  obtain ⟨h0, h1, h2⟩ := hb
  go_enter Tryz.func104, Tryz.ntmps104
  go_wp2_with (first | (go_at_call 105; refine (isval_any h _ A c _).mono ?_; rintro e w' ⟨rfl, hb⟩))
  go_ret
  exact ⟨rfl, hb⟩
theorem idx1_any (h : Hp) (A : Option Addr) (c b : Nat) (S : Option Addr) (xs : List Int) (d : Nat) (w : World) (hb : BoxH w b h A c) (hlt : b < w.heap.size) (hs : IntsR w S xs) (hl : xs.length ≤ 9223372036854775807) :
    Calls Tryz.prog 116 #[.slice S xs.length d, .func (.func 104) #[] #[.pointer (some ⟨b, 0, none⟩)]] w fun e w' => ∃ n : Int, e = .returned (.int .i64 n) ∧ (n < 0 ↔ xs.all (hasB h.objs.length) = true) ∧ Below w.heap.size w w' := by
  go_enter Tryz.func116, Tryz.ntmps116
  go_wp2
  go_loopw [8] (fun i wr => ∃ k : Nat, k ≤ xs.length ∧ i = .int .i64 k ∧ (xs.take k).all (hasB h.objs.length) = true ∧ Below w.heap.size w wr) (fun i _ => xs.length - (intOf i).toNat)
  case atStart => exact ⟨0, Nat.zero_le _, rfl, rfl, Below.refl _ _⟩
  case round =>
    obtain ⟨k, hk, rfl, hall, hbw⟩ := hrel
    by_cases hlt2 : k < xs.length
    next =>
     obtain ⟨bs, os, rfl, hbs, hcs⟩ := hs (by omega)
     have hcell : wr.cell? ⟨bs, os + k, none⟩ = some (.int .i64 xs[k]) := (hbw.cell (p := ⟨bs, os + k, none⟩) hbs).trans (hcs k _ (List.getElem?_eq_getElem hlt2))
     have hbr := hid (hb.below hlt hbw)
     have htk : (xs.take (k + 1)).all (hasB h.objs.length) = ((xs.take k).all (hasB h.objs.length) && hasB h.objs.length xs[k]) := by
       rw [List.take_succ_eq_append_getElem hlt2, List.all_append]; simp
     have HT := hid htk
     have HA := hid hall
     have HW := hid hbw
     have HS := hid hs
     clear htk hall hbw hcs hb hs
     cases hv : hasB h.objs.length xs[k]
     next =>
      go_wp2_with (first | (go_at_call 104; refine (may1_any h _ A c b _ hbr.out).mono ?_; rintro e w' ⟨rfl, hb⟩))
      go_ret
      refine ⟨k, rfl, ?_, HW.out.trans (hb.mono HW.out.size)⟩
      constructor
      next =>
       intro hh; omega
      next =>
       intro hh
       have := List.all_eq_true.1 hh xs[k] (List.getElem_mem hlt2)
       rw [hv] at this; cases this
     next =>
      go_wp2_with (first | (go_at_call 104; refine (may1_any h _ A c b _ hbr.out).mono ?_; rintro e w' ⟨rfl, hb⟩))
      go_roundw
      case rel => exact ⟨k + 1, by omega, by go_num, by rw [HT.out, HA.out, hv]; rfl, HW.out.trans (hb.mono HW.out.size)⟩
      case measure => simp [intOf]; omega
    next =>
     have e : k = xs.length := by omega
     subst e
     have HA := hid hall
     have HW := hid hbw
     clear hall hbw
     go_wp2
     go_ret
     refine ⟨-1, rfl, ⟨fun _ => ?_, fun _ => by omega⟩, HW.out⟩
     have := HA.out
     rwa [List.take_length] at this
theorem con1_any (h : Hp) (A : Option Addr) (c b : Nat) (S : Option Addr) (xs : List Int) (d : Nat) (w : World) (hb : BoxH w b h A c) (hlt : b < w.heap.size) (hs : IntsR w S xs) (hl : xs.length ≤ 9223372036854775807) :
    Calls Tryz.prog 70 #[.slice S xs.length d, .func (.func 104) #[] #[.pointer (some ⟨b, 0, none⟩)]] w fun e w' => e = .returned (.bool (!xs.all (hasB h.objs.length))) ∧ Below w.heap.size w w' := by
  have K := hid (idx1_any h A c b S xs d w hb hlt hs hl)
  clear hs hl hlt hb
  go_enter Tryz.func70, Tryz.ntmps70
  go_wp2_with fail
  refine K.out.mono ?_
  rintro e w' ⟨n, rfl, hn, hb⟩
  have e2 : (!xs.all (hasB h.objs.length)) = decide (0 ≤ n) := by
    cases hx : xs.all (hasB h.objs.length) <;> rw [hx] at hn <;> simp at hn ⊢ <;> omega
  have E2 := hid e2
  clear hn e2 K
  go_wp2
  go_ret
  exact ⟨by rw [E2.out]; rfl, hb⟩

def kiB (o : Ob) : Bool :=
  if o.kind = 0 then decide ((o.slots.length : Int) ≤ 64) && decide (o.text.toList = []) && (o.bits == 0)
  else if o.kind = 1 then decide (o.slots = []) && decide ((o.text.size : Int) ≤ 64) && (o.bits == 0)
  else if o.kind = 2 then decide (o.slots = []) && decide (o.text.toList = []) && (o.bits == canon o.bits) else false
def obB (n : Nat) (o : Ob) : Bool := refB n o.cls && haB o.hash && kiB o && o.slots.all (hasB n)
def mayB (h : Hp) : Bool := decide (1 ≤ h.cap ∧ h.cap ≤ 256 ∧ (h.objs.length : Int) ≤ h.cap) && haB h.last && h.objs.all (obB h.objs.length)


theorem ret_bool {a b : Bool} (h : a = b) : Ending.returned (.bool a) = .returned (.bool b) := by rw [h]
set_option maxHeartbeats 1000000 in
theorem kind_of (o : Ob) (S : Option Addr) (c : Nat) (w : World) : Calls Tryz.prog 108 #[.agg #[.int .i64 o.cls, .int .i64 o.kind, .slice S o.slots.length c, .string o.text, .int .i64 o.bits, .int .i64 o.hash]] w fun e w' => e = .returned (.bool (kiB o)) ∧ Below w.heap.size w w' := by
  have HB := hid (below_alloc w (.cells #[.int .i64 o.cls, .int .i64 o.kind, .slice S o.slots.length c, .string o.text, .int .i64 o.bits, .int .i64 o.hash] 41))
  by_cases k0 : o.kind = 0
  next =>
   have K0 := hid k0
   have k0' : (o.kind == 0) = true := by simpa using k0
   clear k0
   go_enter Tryz.func108, Tryz.ntmps108
   go_wp2
   all_goals go_ret
   all_goals
     refine ⟨ret_bool ?_, below_alloc _ _⟩
     unfold kiB
     rw [if_pos K0.out]
     simp_all
     try omega
  next =>
   have K0 := hid k0
   have k0' : (o.kind == 0) = false := by simpa using k0
   clear k0
   by_cases k1 : o.kind = 1
   next =>
    have K1 := hid k1
    have k1' : (o.kind == 1) = true := by simpa using k1
    clear k1
    go_enter Tryz.func108, Tryz.ntmps108
    go_wp2
    all_goals go_ret
    all_goals
      refine ⟨ret_bool ?_, below_alloc _ _⟩
      unfold kiB
      rw [if_neg K0.out, if_pos K1.out]
      simp_all
      try omega
   next =>
    have K1 := hid k1
    have k1' : (o.kind == 1) = false := by simpa using k1
    clear k1
    by_cases k2 : o.kind = 2
    next =>
     have K2 := hid k2
     have k2' : (o.kind == 2) = true := by simpa using k2
     clear k2
     by_cases e1 : o.slots = []
     next =>
      have e1' : ((o.slots.length : Int) == 0) = true := by rw [e1]; rfl
      have E1 := hid e1
      clear e1
      by_cases e2 : o.text.toList = []
      next =>
       have e2' : o.text.toList.isEmpty = true := by rw [e2]; rfl
       have E2 := hid e2
       clear e2
       go_enter Tryz.func108, Tryz.ntmps108
       go_wp2
       go_quiet ((go_at_call 166; exact Calls.quiet_of_same ((canon_any _ _).mono fun _ _ ⟨he, hw⟩ => ⟨he, hw.symm⟩)))
       go_wp2
       go_ret
       refine ⟨ret_bool ?_, (below_alloc _ _).trans ⟨rfl, rfl, rfl, Nat.le_refl _, fun _ _ => rfl⟩⟩
       unfold kiB
       rw [if_neg K0.out, if_neg K1.out, if_pos K2.out]
       simp [E1.out, E2.out]
      next =>
       have e2' : o.text.toList.isEmpty = false := by simpa using e2
       have E2 := hid e2
       clear e2
       go_enter Tryz.func108, Tryz.ntmps108
       go_wp2
       go_quiet ((go_at_call 166; exact Calls.quiet_of_same ((canon_any _ _).mono fun _ _ ⟨he, hw⟩ => ⟨he, hw.symm⟩)))
       go_wp2
       go_ret
       refine ⟨ret_bool ?_, (below_alloc _ _).trans ⟨rfl, rfl, rfl, Nat.le_refl _, fun _ _ => rfl⟩⟩
       unfold kiB
       rw [if_neg K0.out, if_neg K1.out, if_pos K2.out]
       simp [E1.out, E2.out]
     next =>
      have e1' : ((o.slots.length : Int) == 0) = false := by simpa using e1
      have E1 := hid e1
      clear e1
      next =>
       go_enter Tryz.func108, Tryz.ntmps108
       go_wp2
       go_quiet ((go_at_call 166; exact Calls.quiet_of_same ((canon_any _ _).mono fun _ _ ⟨he, hw⟩ => ⟨he, hw.symm⟩)))
       go_wp2
       go_ret
       refine ⟨ret_bool ?_, (below_alloc _ _).trans ⟨rfl, rfl, rfl, Nat.le_refl _, fun _ _ => rfl⟩⟩
       unfold kiB
       rw [if_neg K0.out, if_neg K1.out, if_pos K2.out]
       simp [E1.out]
    next =>
     have K2 := hid k2
     have k2' : (o.kind == 2) = false := by simpa using k2
     clear k2
     go_enter Tryz.func108, Tryz.ntmps108
     go_wp2
     all_goals go_ret
     refine ⟨ret_bool ?_, HB.out⟩
     unfold kiB
     rw [if_neg K0.out, if_neg K1.out, if_neg K2.out]

set_option maxHeartbeats 1000000 in
theorem may2_any (h : Hp) (o : Ob) (S : Option Addr) (d : Nat) (A : Option Addr) (c b bf : Nat) (w : World) (hb : BoxH w b h A c) (hlt : b < w.heap.size) (hf : w.cell? ⟨bf, 0, none⟩ = some (.func (.func 104) #[] #[.pointer (some ⟨b, 0, none⟩)])) (hltf : bf < w.heap.size)
    (hs : IntsR w S o.slots) (hl : o.slots.length ≤ 9223372036854775807) :
    Calls Tryz.prog 106 #[.agg #[.int .i64 o.cls, .int .i64 o.kind, .slice S o.slots.length d, .string o.text, .int .i64 o.bits, .int .i64 o.hash], .pointer (some ⟨b, 0, none⟩), .pointer (some ⟨bf, 0, none⟩)] w fun e w' => e = .returned (.bool (!obB h.objs.length o)) ∧ Below w.heap.size w w' := by
  have HB0 := hid (below_alloc w (.cells #[.int .i64 o.cls, .int .i64 o.kind, .slice S o.slots.length d, .string o.text, .int .i64 o.bits, .int .i64 o.hash] 41))
  have HS := hid hs
  have HX := hid hb
  have hlt1 : b < w.heap.size + 1 := by omega
  have hltf1 : bf < w.heap.size + 1 := by omega
  obtain ⟨h0, h1, h2⟩ := hb
  clear hs
  go_enter Tryz.func106, Tryz.ntmps106
  go_wp2_with fail
  refine (find_any h _ A c _).mono ?_
  rintro e w1 ⟨rfl, hb1⟩
  have HB1 := hid (HB0.out.trans (hb1.mono (by simp)))
  obtain ⟨hc1, hf1⟩ := bcell hb1
  have hz1 : w.heap.size + 1 ≤ w1.heap.size := by have := hb1.size; simp at this; omega
  clear hb1
  cases r0 : refB h.objs.length o.cls
  next =>
   go_wp2
   go_ret
   exact ⟨ret_bool (by unfold obB; rw [r0]; rfl), HB1.out⟩
  next =>
   cases r1 : haB o.hash
   next =>
    go_wp2_with (first | (go_at_call 103; refine (ishash_any _ _).mono ?_; rintro e w' ⟨rfl, rfl⟩))
    go_ret
    exact ⟨ret_bool (by unfold obB; rw [r0, r1]; rfl), HB1.out⟩
   next =>
    go_wp2_with (first | (go_at_call 103; refine (ishash_any _ _).mono ?_; rintro e w' ⟨rfl, rfl⟩))
    refine (kind_of o S d _).mono ?_
    rintro e w2 ⟨rfl, hb2⟩
    have HB2 := hid (HB1.out.trans (hb2.mono HB1.out.size))
    have hz2 : w.heap.size + 1 ≤ w2.heap.size := by have := hb2.size; omega
    have hlt2 : b < w1.heap.size := by omega
    have hltf2 : bf < w1.heap.size := by omega
    have hlt2' : w.heap.size < w1.heap.size := by omega
    obtain ⟨hc2, hf2⟩ := bcell hb2
    clear hb2
    cases r2 : kiB o
    next =>
     go_wp2
     go_ret
     exact ⟨ret_bool (by unfold obB; rw [r0, r1, r2]; rfl), HB2.out⟩
    next =>
     go_wp2_with fail
     refine (con1_any h A c b S o.slots d _ (HX.out.below hlt HB2.out) (by omega) (HS.out.below HB2.out) hl).mono ?_
     rintro e w3 ⟨rfl, hb3⟩
     have HB3 := hid (HB2.out.trans (hb3.mono HB2.out.size))
     go_wp2
     go_ret
     exact ⟨ret_bool (by unfold obB; rw [r0, r1, r2]; rfl), HB3.out⟩
end Go.Proofs.YtnilempeldlieaaGreat
namespace Go.Proofs.YtnilempeldlieaaGreat
open Go.RowKit
theorem Hp.Fit.slots {h : Hp} (f : h.Fit) {o : Ob} (ho : o ∈ h.objs) : o.slots.length ≤ 9223372036854775807 := f.2 o ho
set_option maxHeartbeats 1000000 in
theorem idx2_any (h : Hp) (A : Option Addr) (c b bf : Nat) (w : World) (hb : BoxH w b h A c) (hlt : b < w.heap.size) (hf : w.cell? ⟨bf, 0, none⟩ = some (.func (.func 104) #[] #[.pointer (some ⟨b, 0, none⟩)])) (hltf : bf < w.heap.size)
    (hs : ObsR w A h.objs) (fit : h.Fit) (m : Nat) (hm : m = h.objs.length) :
    Calls Tryz.prog 167 #[.slice A m c, .func (.func 106) #[] #[.pointer (some ⟨b, 0, none⟩), .pointer (some ⟨bf, 0, none⟩)]] w fun e w' => ∃ n : Int, e = .returned (.int .i64 n) ∧ (n < 0 ↔ h.objs.all (obB m) = true) ∧ Below w.heap.size w w' := by
  have hl : m ≤ 9223372036854775807 := by rw [hm]; exact fit.1
  have HM := hid hm
  have HF := hid fit
  have HO := hid hs
  have HX := hid hb
  have HC := hid hf
  clear hm fit hs hb hf
  go_enter Tryz.func167, Tryz.ntmps167
  go_wp2
  go_loopw [8] (fun i wr => ∃ k : Nat, k ≤ m ∧ i = .int .i64 k ∧ (h.objs.take k).all (obB m) = true ∧ Below w.heap.size w wr) (fun i _ => m - (intOf i).toNat)
  case atStart => exact ⟨0, Nat.zero_le _, rfl, rfl, Below.refl _ _⟩
  case round =>
    obtain ⟨k, hk, rfl, hall, hbw⟩ := hrel
    by_cases hlt2 : k < m
    · have hkl : k < h.objs.length := by rw [← HM.out]; exact hlt2
      obtain ⟨bs, os, rfl, hbs, hcs⟩ := HO.out (by omega)
      obtain ⟨S, d, hob, hin, hsd⟩ := hcs k _ (List.getElem?_eq_getElem hkl)
      obtain ⟨c0, c1, c2, c3, c4, c5⟩ := hob.below hbs hbw
      have hin' := hid (hin.below hbw)
      have HA := hid hall
      have HW := hid hbw
      have HT : Hid ((h.objs.take (k + 1)).all (obB m) = ((h.objs.take k).all (obB m) && obB m h.objs[k])) := by
        show _ = _
        rw [List.take_succ_eq_append_getElem hkl, List.all_append]; simp
      clear hall hbw hcs hob hin
      have HC' := hid ((HW.out.cell (p := ⟨bf, 0, none⟩) hltf).trans HC.out)
      cases hv : obB m h.objs[k]
      · go_wp2_with fail
        refine (may2_any h h.objs[k] S d (some ⟨bs, os, none⟩) c b bf _ (HX.out.below hlt HW.out) (Nat.lt_of_lt_of_le hlt HW.out.size) HC'.out (Nat.lt_of_lt_of_le hltf HW.out.size) hin'.out (HF.out.slots (List.getElem_mem hkl))).mono ?_
        rintro e w' ⟨rfl, hb⟩
        have hv' : obB h.objs.length h.objs[k] = false := by rw [← HM.out]; exact hv
        have HB := hid hb
        clear hb
        go_wp2
        go_ret
        refine ⟨k, rfl, ?_, HW.out.trans (HB.out.mono HW.out.size)⟩
        constructor
        · intro hh; omega
        · intro hh
          have := List.all_eq_true.1 hh h.objs[k] (List.getElem_mem hkl)
          rw [hv] at this; cases this
      · go_wp2_with fail
        refine (may2_any h h.objs[k] S d (some ⟨bs, os, none⟩) c b bf _ (HX.out.below hlt HW.out) (Nat.lt_of_lt_of_le hlt HW.out.size) HC'.out (Nat.lt_of_lt_of_le hltf HW.out.size) hin'.out (HF.out.slots (List.getElem_mem hkl))).mono ?_
        rintro e w' ⟨rfl, hb⟩
        have hv' : obB h.objs.length h.objs[k] = true := by rw [← HM.out]; exact hv
        have HB := hid hb
        clear hb
        go_wp2
        go_roundw
        case rel => exact ⟨k + 1, by omega, by go_num, by rw [HT.out, HA.out, hv]; rfl, HW.out.trans (HB.out.mono HW.out.size)⟩
        case measure => simp [intOf]; omega
    · have e : k = m := by omega
      have HA := hid hall
      have HW := hid hbw
      clear hall hbw
      go_wp2
      go_ret
      refine ⟨-1, rfl, ⟨fun _ => ?_, fun _ => by omega⟩, HW.out⟩
      have := HA.out
      rwa [e, HM.out, List.take_length, ← HM.out] at this
set_option maxHeartbeats 1000000 in
theorem con2_any (h : Hp) (A : Option Addr) (c b bf : Nat) (w : World) (hb : BoxH w b h A c) (hlt : b < w.heap.size) (hf : w.cell? ⟨bf, 0, none⟩ = some (.func (.func 104) #[] #[.pointer (some ⟨b, 0, none⟩)])) (hltf : bf < w.heap.size)
    (hs : ObsR w A h.objs) (fit : h.Fit) (m : Nat) (hm : m = h.objs.length) :
    Calls Tryz.prog 109 #[.slice A m c, .func (.func 106) #[] #[.pointer (some ⟨b, 0, none⟩), .pointer (some ⟨bf, 0, none⟩)]] w fun e w' => e = .returned (.bool (!h.objs.all (obB m))) ∧ Below w.heap.size w w' := by
  have K := hid (idx2_any h A c b bf w hb hlt hf hltf hs fit m hm)
  clear hs fit hlt hb hf hltf hm
  go_enter Tryz.func109, Tryz.ntmps109
  go_wp2_with fail
  refine K.out.mono ?_
  rintro e w' ⟨n, rfl, hn, hb⟩
  have e2 : (!h.objs.all (obB m)) = decide (0 ≤ n) := by
    cases hx : h.objs.all (obB m) <;> rw [hx] at hn <;> simp at hn ⊢ <;> omega
  have E2 := hid e2
  clear hn e2 K
  go_wp2
  go_ret
  exact ⟨by rw [E2.out]; rfl, hb⟩
theorem BoxH.new (w : World) (h : Hp) (A : Option Addr) (c : Nat) : BoxH (w.alloc (.cells #[Value.slice A h.objs.length c, Value.int .i64 h.cap, Value.int .i64 h.last] 24)) w.heap.size h A c :=
  ⟨by go_simp, by go_simp, by go_simp⟩
set_option maxHeartbeats 1000000 in
theorem may_any (h : Hp) (A : Option Addr) (c : Nat) (w : World) (hs : ObsR w A h.objs) (fit : h.Fit) :
    Calls Tryz.prog 55 #[.agg #[.slice A h.objs.length c, .int .i64 h.cap, .int .i64 h.last]] w fun e w' => e = .returned (.bool (mayB h)) ∧ Below w.heap.size w w' := by
  have HB0 := hid (below_alloc w (.cells #[Value.slice A h.objs.length c, Value.int .i64 h.cap, Value.int .i64 h.last] 24))
  have HO := hid hs
  have HF := hid fit
  clear hs fit
  by_cases g1 : h.cap < 1
  · have e : mayB h = false := by unfold mayB; rw [decide_eq_false (by omega)]; rfl
    rw [e]; clear e
    go_enter Tryz.func55, Tryz.ntmps55
    go_wp2
    go_ret; exact ⟨rfl, HB0.out⟩
  · have g1' : 1 ≤ h.cap := by omega
    clear g1
    by_cases g2 : 256 < h.cap
    · have e : mayB h = false := by unfold mayB; rw [decide_eq_false (by omega)]; rfl
      rw [e]; clear e
      go_enter Tryz.func55, Tryz.ntmps55
      go_wp2
      go_ret; exact ⟨rfl, HB0.out⟩
    · have g2' : h.cap ≤ 256 := by omega
      clear g2
      by_cases g3 : h.cap < (h.objs.length : Int)
      · have e : mayB h = false := by unfold mayB; rw [decide_eq_false (by omega)]; rfl
        rw [e]; clear e
        go_enter Tryz.func55, Tryz.ntmps55
        go_wp2
        go_ret; exact ⟨rfl, HB0.out⟩
      · have g3' : (h.objs.length : Int) ≤ h.cap := by omega
        clear g3
        have e : mayB h = (haB h.last && h.objs.all (obB h.objs.length)) := by unfold mayB; rw [decide_eq_true ⟨g1', g2', g3'⟩]; rfl
        rw [e]; clear e
        cases g4 : haB h.last
        · go_enter Tryz.func55, Tryz.ntmps55
          go_wp2_with (first | (go_at_call 103; refine (ishash_any _ _).mono ?_; rintro e w' ⟨rfl, rfl⟩))
          go_ret; exact ⟨rfl, HB0.out⟩
        · go_enter Tryz.func55, Tryz.ntmps55
          go_wp2_with (first | (go_at_call 103; refine (ishash_any _ _).mono ?_; rintro e w' ⟨rfl, rfl⟩) | (go_at_call 109; refine (con2_any h A c w.heap.size (w.heap.size + 1) _ ?_ ?_ ?_ ?_ ?_ HF.out h.objs.length rfl).mono ?_))
          · exact (BoxH.new w h A c).below (by simp) (below_alloc _ _)
          · simp; omega
          · go_simp
          · simp
          · exact HO.out.below (below_alloc2 _ _ _)
          rintro e w' ⟨rfl, hb⟩
          have HB := hid hb
          clear hb
          go_wp2
          go_ret
          exact ⟨ret_bool (by simp), (below_alloc2 _ _ _).trans (HB.out.mono (by simp; omega))⟩
end Go.Proofs.YtnilempeldlieaaGreat
