/- The document's answers on what may be, what is wrong with a place, and what is read there. An object appended to a row of the call's own. Writes into a heap of the call's own: one slot, one text; what an error leaves. unchanged, Set, the program's and the document's. Heaps that may be are small. What was written is read at its place, and all else is as it was: over plain heaps. How a law's row is closed behind its walk, over any program: where the call has left all old memory as it was ('Below'), the arguments read as they read before, and the answer is true. Arguments opened: a heap, whatever it has, reads as a plain heap; an asking as three numbers. A place of a heap: the program's word. Classes, and methods, in plain mathematics: what a class is, what is found, and under what; that paths are short. A pair laid first into a class's own dictionary, in plain mathematics. What package look answers, in plain mathematics. -/
import Derived.Test.YtnilempeldlieaaGreatJ05
import Derived.Test.YtnilempeldlieaaGreatJ04
import Derived.Below
import Derived.Carry
import Derived.ProofKit
import Derived.OpenShut
import Derived.Lib.SmallJoins
import Derived.Deep.Slices
import Derived.Deep.Fields
namespace Go.Proofs.YtnilempeldlieaaGreat
open Go.RowKit
set_option maxRecDepth 100000 in
set_option maxHeartbeats 4000000 in
theorem rmay_any (h : Hp) (A : Option Addr) (c : Nat) (w : World) (hs : ObsR w A h.objs) (fit : h.Fit) :
    Calls Tryz.prog 31 #[.agg #[.slice A h.objs.length c, .int .i64 h.cap, .int .i64 h.last]] w fun e w' => e = .returned (.bool (mayB h)) ∧ Below w.heap.size w w' := by
  have HB0 := hid (below_alloc w (.cells #[Value.slice A h.objs.length c, Value.int .i64 h.cap, Value.int .i64 h.last] 24))
  have HX := hid (BoxH.new w h A c)
  have HS := hid hs
  have HF := hid fit
  have hl : h.objs.length ≤ 9223372036854775807 := fit.1
  clear hs fit
  go_enter Tryz.func31, Tryz.ntmps31
  go_wp2
  go_loopw [3] (fun i wr => ∃ k : Nat, k ≤ h.objs.length ∧ i = .int .i64 k ∧ (h.objs.take k).all (obB h.objs.length) = true ∧ Below w.heap.size w wr ∧ BoxH wr w.heap.size h A c) (fun i _ => h.objs.length - (intOf i).toNat)
  case atStart => exact ⟨0, Nat.zero_le _, rfl, rfl, HB0.out, HX.out⟩
  case round =>
    obtain ⟨k, hk, rfl, hall, hbw, hX⟩ := hrel
    have HA := hid hall
    have HW := hid hbw
    have HX' := hid hX
    clear hall hbw HX
    obtain ⟨e0, e1, e2⟩ := hX
    by_cases hlt : k < h.objs.length
    next =>
     obtain ⟨bs, os, rfl, hbs, hcs⟩ := HS.out (by omega)
     obtain ⟨S, d, hob, hin, _⟩ := hcs k _ (List.getElem?_eq_getElem hlt)
     obtain ⟨c0, c1, c2, c3, c4, c5⟩ := hob.below hbs HW.out
     have HI := hid (hin.below HW.out)
     have hol := HF.out.slots (List.getElem_mem hlt)
     have HT : Hid ((h.objs.take (k + 1)).all (obB h.objs.length) = ((h.objs.take k).all (obB h.objs.length) && obB h.objs.length h.objs[k])) := by
       show _ = _
       rw [List.take_succ_eq_append_getElem hlt, List.all_append]; simp
     obtain ⟨o, ho⟩ : ∃ o, o = h.objs[k] := ⟨_, rfl⟩
     have HO := hid ho
     rw [← ho] at c0 c1 c2 c3 c4 c5 HI hol HT
     clear hcs hob hin ho
     go_wp2
     go_region_held3 (fun w' => w'.cell? ⟨w.heap.size, 0, none⟩ = some (.slice (some ⟨bs, os, none⟩) h.objs.length c) ∧ w'.cell? ⟨w.heap.size, 1, none⟩ = some (.int .i64 h.cap) ∧ w'.cell? ⟨w.heap.size, 2, none⟩ = some (.int .i64 h.last) ∧
         w'.cell? ⟨bs, os + k * 6, none⟩ = some (.int .i64 o.cls) ∧ w'.cell? ⟨bs, os + k * 6 + 1, none⟩ = some (.int .i64 o.kind) ∧ w'.cell? ⟨bs, os + k * 6 + 2, none⟩ = some (.slice S o.slots.length d) ∧ w'.cell? ⟨bs, os + k * 6 + 3, none⟩ = some (.string o.text) ∧ w'.cell? ⟨bs, os + k * 6 + 4, none⟩ = some (.int .i64 o.bits) ∧ w'.cell? ⟨bs, os + k * 6 + 5, none⟩ = some (.int .i64 o.hash))
       (first | exact ⟨e0, e1, e2, c0, c1, c2, c3, c4, c5⟩ | exact ⟨cell_later hb e0, cell_later hb e1, cell_later hb e2, cell_later hb c0, cell_later hb c1, cell_later hb c2, cell_later hb c3, cell_later hb c4, cell_later hb c5⟩)
       (first | (go_at_call 58; refine (robj_any h o S d (some ⟨bs, os, none⟩) c _ (HI.out.below (Below.refl _ _).drew) hol).mono ?_; rintro e w' ⟨rfl, hb⟩))
     have HBW : Hid (Below w.heap.size w w') := below_go HW.out.drew HW.out.size hb
     have HXW : Hid (BoxH w' w.heap.size h (some ⟨bs, os, none⟩) c) := HX'.out.later ((Below.refl _ _).drew.trans hb)
     clear hb e0 e1 e2 c0 c1 c2 c3 c4 c5
     cases hv : obB h.objs.length o
     next =>
      go_wp2
      go_ret
      refine ⟨ret_bool ?_, HBW.out⟩
      have : h.objs.all (obB h.objs.length) = false := by
        cases hx : h.objs.all (obB h.objs.length)
        next =>
         rfl
        next =>
         have := List.all_eq_true.1 hx h.objs[k] (List.getElem_mem hlt)
         rw [← HO.out, hv] at this; cases this
      simp [mayB, this]
     next =>
      go_wp2
      go_roundw
      case rel => exact ⟨k + 1, by omega, by go_num, by rw [HT.out, HA.out, hv]; rfl, HBW.out, HXW.out⟩
      case measure => simp [intOf]; omega
    next =>
     have HM : Hid (mayB h = (decide (1 ≤ h.cap ∧ h.cap ≤ 256 ∧ (h.objs.length : Int) ≤ h.cap) && haB h.last)) := by
       have := HA.out
       rw [List.take_of_length_le (by omega)] at this
       show _ = _
       unfold mayB; rw [this]; simp
     by_cases g1 : 1 ≤ h.cap
     next =>
      by_cases g2 : h.cap ≤ 256
      next =>
       by_cases g3 : (h.objs.length : Int) ≤ h.cap
       next =>
        go_wp2_with (first | (go_at_call 59; refine (rhash_any _ _).mono ?_; rintro e w' ⟨rfl, rfl⟩))
        go_ret
        exact ⟨ret_bool (by rw [HM.out, decide_eq_true ⟨g1, g2, g3⟩]; rfl), HW.out⟩
       next =>
        have g3' : h.cap < (h.objs.length : Int) := by omega
        clear g3
        go_wp2
        go_ret
        exact ⟨ret_bool (by rw [HM.out, decide_eq_false (by omega)]; rfl), HW.out⟩
      next =>
       have g2' : 256 < h.cap := by omega
       clear g2
       go_wp2
       go_ret
       exact ⟨ret_bool (by rw [HM.out, decide_eq_false (by omega)]; rfl), HW.out⟩
     next =>
      have g1' : h.cap < 1 := by omega
      clear g1
      go_wp2
      go_ret
      exact ⟨ret_bool (by rw [HM.out, decide_eq_false (by omega)]; rfl), HW.out⟩
theorem ret_int {a b : Int} (h : a = b) : Ending.returned (.int .i64 a) = .returned (.int .i64 b) := by rw [h]
set_option maxRecDepth 100000 in
set_option maxHeartbeats 4000000 in
theorem wrong_any (h : Hp) (v kind k : Int) (hkk : kind = 0 ∨ kind = 1) (A : Option Addr) (c : Nat) (w : World) (hs : ObsR w A h.objs) (fit : h.Fit) :
    Calls Tryz.prog 118 #[.agg #[.slice A h.objs.length c, .int .i64 h.cap, .int .i64 h.last], .int .i64 v, .int .i64 kind, .int .i64 k] w fun e w' => e = .returned (.int .i64 (plE h v kind k)) ∧ Below w.heap.size w w' := by
  have HB0 := hid (below_alloc w (.cells #[Value.slice A h.objs.length c, Value.int .i64 h.cap, Value.int .i64 h.last] 24))
  have HX := hid (BoxH.new w h A c)
  have HS := hid hs
  have HF := hid fit
  have HKK := hid hkk
  clear hs fit hkk
  cases hm : mayB h
  next =>
   have e1 : plE h v kind k = 1 := by unfold plE; rw [if_pos hm]
   rw [e1]; clear e1
   go_enter Tryz.func118, Tryz.ntmps118
   go_wp2_with fail
   refine (rmay_any h A c _ (HS.out.below HB0.out) HF.out).mono ?_
   rintro e w1 ⟨rfl, hb1⟩
   have HB1 := hid hb1
   clear hb1
   go_wp2_with fail
   go_ret
   exact ⟨rfl, HB0.out.trans (HB1.out.mono (by simp))⟩
  next =>
   cases hr : refB h.objs.length v
   next =>
    have e1 : plE h v kind k = 31 := by unfold plE; rw [if_neg (by rw [hm]; decide), if_pos hr]
    have hri : refI h.objs.length v = -1 := by simp [refI, hr]
    rw [e1]; clear e1
    go_enter Tryz.func118, Tryz.ntmps118
    go_wp2_with fail
    refine (rmay_any h A c _ (HS.out.below HB0.out) HF.out).mono ?_
    rintro e w1 ⟨rfl, hb1⟩
    obtain ⟨x0, x1, x2⟩ := HX.out.later hb1
    have HB1 := hid (HB0.out.trans (hb1.mono (by simp)))
    clear hb1
    go_wp2_with fail
    refine (rref_any h _ A c _).mono ?_
    rintro e w2 ⟨rfl, hb2⟩
    have HB2 := hid (HB1.out.trans (hb2.mono HB1.out.size))
    clear hb2
    go_wp2_with fail
    go_ret
    exact ⟨rfl, HB2.out⟩
   next =>
    obtain ⟨i, hi, hv, ho⟩ := obAt_get hr
    have hmem : obAt h v ∈ h.objs := List.mem_of_getElem? ho
    obtain ⟨hl1, hl2, hl3, hl4, hl5, hl6⟩ := kind_len (ob_kind (may_all hm _ hmem))
    have hrv : refI h.objs.length v = (i : Int) := by unfold refI; rw [if_pos hr, hv]
    have E1 : Hid (plE h v kind k = if (obAt h v).kind ≠ kind then 33 else if k < 0 ∨ szO kind (obAt h v) ≤ k then 32 else 0) := by
      show _ = _
      unfold plE; rw [if_neg (by rw [hm]; decide), if_neg (by rw [hr]; decide)]
    obtain ⟨b, off, rfl, hlt, hc⟩ := HS.out (by omega)
    obtain ⟨S, d, hob, hin, hsd⟩ := hc i _ ho
    obtain ⟨o, hoo⟩ : ∃ o, o = obAt h v := ⟨_, rfl⟩
    have HOO := hid hoo
    rw [← hoo] at hl1 hl2 hl3 hl4 hl5 hl6 hob
    have HOB := hid hob
    have hi0 : ¬ ((i : Int) < 0) := by omega
    clear hc hin hsd hob hoo hmem ho hv hl3 hl4
    go_enter Tryz.func118, Tryz.ntmps118
    go_wp2_with fail
    refine (rmay_any h (some ⟨b, off, none⟩) c _ (HS.out.below HB0.out) HF.out).mono ?_
    rintro e w1 ⟨rfl, hb1⟩
    have HX1 := hid (HX.out.later hb1)
    obtain ⟨x0, x1, x2⟩ := HX1.out
    have HB1 := hid (HB0.out.trans (hb1.mono (by simp)))
    clear hb1
    go_wp2_with fail
    refine (rref_any h _ (some ⟨b, off, none⟩) c _).mono ?_
    rintro e w2 ⟨rfl, hb2⟩
    have HB2 := hid (HB1.out.trans (hb2.mono HB1.out.size))
    clear x0 x1 x2
    obtain ⟨x0, x1, x2⟩ := HX1.out.later hb2
    obtain ⟨c0, c1, c2, c3, c4, c5⟩ := HOB.out.below hlt HB2.out
    clear hb2
    by_cases gk : o.kind = kind
    next =>
     have gk' : (o.kind != kind) = false := by simp [gk]
     have GK := hid gk
     clear gk
     rcases HKK.out with hk0 | hk0
     all_goals
       have EK : Hid (szO kind o = if kind = 1 then (o.text.size : Int) else (o.slots.length : Int)) := rfl
       subst hk0
       by_cases g0 : k < 0
       next =>
        go_wp2_with fail
        go_ret
        exact ⟨ret_int (by rw [E1.out, ← HOO.out, if_neg (by simp [GK.out]), if_pos (.inl g0)]), HB2.out⟩
       next =>
        have g0' : 0 ≤ k := by omega
        clear g0
        go_wp2_with fail
        all_goals go_ret
        all_goals
          refine ⟨ret_int ?_, HB2.out⟩
          rw [E1.out, ← HOO.out, if_neg (by simp [GK.out]), EK.out]
          first | (rw [if_neg (by simp; omega)]; done) | (rw [if_pos (by simp; omega)]; done) | skip
    next =>
     have gk' : (o.kind != kind) = true := by simp [gk]
     have GK := hid gk
     clear gk
     go_wp2_with fail
     go_ret
     exact ⟨ret_int (by rw [E1.out, ← HOO.out, if_pos GK.out]), HB2.out⟩
end Go.Proofs.YtnilempeldlieaaGreat
namespace Go.Proofs.YtnilempeldlieaaGreat
open Go.RowKit
theorem wp_app_run {P : Program} {w : World} {o : Oper} {a : Act} {K : Act → World → Prop} {Q : Exit → Act → World → Prop} (s x : Operand) (t : TypeId)
    (ho : o.op = .call { callee := .builtin .append, args := #[s, x], argTypes := #[t, t] }) (v1 : Value) (w1 : World) (hrun : (Builtin.append_ #[t, t] o.type #[a.eval s, a.eval x]).run P w = .ok v1 w1)
    (h : K (a.put o.dst v1) w1) : Oper.wp P o a w K Q := by
  unfold Oper.wp
  simp [execOp, ho, resolve, invoke, builtin, hrun, Result.andThen]
  exact h
theorem wpList_app_run {P : Program} {w : World} {ops : Array Oper} {rest : List Oper} {o : Oper} {a : Act} {Q : Exit → Act → World → Prop} (hgd : o.guard = none) (s x : Operand) (t : TypeId)
    (ho : o.op = .call { callee := .builtin .append, args := #[s, x], argTypes := #[t, t] }) (v1 : Value) (w1 : World) (hrun : (Builtin.append_ #[t, t] o.type #[a.eval s, a.eval x]).run P w = .ok v1 w1)
    (h : wpList P ops Q rest (a.put o.dst v1) w1) : wpList P ops Q (o :: rest) a w :=
  wpList_plain hgd fun _ hK => wp_app_run s x t ho v1 w1 hrun (hK _ _ h)
theorem OwnH.off {w : World} {base g : Nat} {A : Option Addr} {c : Nat} {ls : List LO} {cs : Array Value} (h : OwnH w base A c ls) (hB : Lies w g 24 cs) (o : Nat) (u : Value) : OwnH (w.setCell ⟨g, o, none⟩ u) base A c ls :=
  ⟨ownsRow_setCell_other h.row (own_blk_ne h.row hB (by decide)) _, fun i l hl => ownsRow_setCell_other (h.ints i l hl) (own_blk_ne (h.ints i l hl) hB (by decide)) _, h.apart⟩
theorem own_obs {w : World} {base : Nat} {A : Option Addr} {c : Nat} {ls : List LO} {os : List Ob} (h : OwnH w base A c ls) (e : ls.map (·.o) = os) : ObsR w A os := by rw [← e]; exact h.obs
end Go.Proofs.YtnilempeldlieaaGreat
namespace Go.Proofs.YtnilempeldlieaaGreat
open Go.RowKit
theorem rowOf_upd (ls : List LO) (k : Nat) (l' : LO) (hk : k < ls.length) (j : Nat) : (rowOf (ls.set k l'))[j]? = if j / 6 = k then l'.cells[j % 6]? else (rowOf ls)[j]? := by
  by_cases hj : j < ls.length * 6
  · have hi : j / 6 < ls.length := by omega
    have hi' : j / 6 < (ls.set k l').length := by simpa using hi
    have e1 := rowOf_get ls (j / 6) (j % 6) ls[j / 6] (List.getElem?_eq_getElem hi) (by omega)
    have e2 := rowOf_get (ls.set k l') (j / 6) (j % 6) _ (List.getElem?_eq_getElem hi') (by omega)
    rw [show j / 6 * 6 + j % 6 = j by omega] at e1 e2
    rw [e2, e1]
    by_cases hjk : j / 6 = k
    · rw [if_pos hjk, List.getElem_set, if_pos hjk.symm]
    · rw [if_neg hjk, List.getElem_set, if_neg (fun e => hjk e.symm)]
  · rw [if_neg (by omega), List.getElem?_eq_none (by rw [rowOf_length]; simp; omega), List.getElem?_eq_none (by rw [rowOf_length]; omega)]
theorem rowOf_same (ls : List LO) (k : Nat) (l l' : LO) (hk : ls[k]? = some l) (h : l'.cells = l.cells) : rowOf (ls.set k l') = rowOf ls := by
  have hkl : k < ls.length := (List.getElem?_eq_some_iff.1 hk).1
  apply List.ext_getElem?
  intro j
  rw [rowOf_upd ls k l' hkl]
  by_cases e : j / 6 = k
  · rw [if_pos e, h]
    have := rowOf_get ls k (j % 6) l hk (by omega)
    rw [← this]; congr 1; omega
  · rw [if_neg e]
theorem rowOf_text (ls : List LO) (k : Nat) (l : LO) (s : ByteArray) (hk : ls[k]? = some l) : rowOf (ls.set k ⟨{ l.o with text := s }, l.S, l.c⟩) = (rowOf ls).set (k * 6 + 3) (.string s) := by
  have hkl : k < ls.length := (List.getElem?_eq_some_iff.1 hk).1
  apply List.ext_getElem?
  intro j
  rw [rowOf_upd ls k _ hkl, List.getElem?_set, rowOf_length]
  by_cases e : j / 6 = k
  · rw [if_pos e]
    have h0 := rowOf_get ls k (j % 6) l hk (by omega)
    rw [show k * 6 + j % 6 = j by omega] at h0
    by_cases h3 : k * 6 + 3 = j
    · rw [if_pos h3, if_pos (by omega), show j % 6 = 3 by omega]; rfl
    · rw [if_neg h3, h0]
      have hr : j % 6 = 0 ∨ j % 6 = 1 ∨ j % 6 = 2 ∨ j % 6 = 4 ∨ j % 6 = 5 := by omega
      rcases hr with r | r | r | r | r <;> rw [r] <;> rfl
  · rw [if_neg e, if_neg (by omega)]
theorem set_get {α : Type} {ls : List α} {i j : Nat} {l m : α} (h : (ls.set i l)[j]? = some m) : (i = j ∧ l = m) ∨ (i ≠ j ∧ ls[j]? = some m) := by
  rw [List.getElem?_set] at h
  by_cases e : i = j
  · rw [if_pos e] at h
    split at h
    · exact .inl ⟨e, Option.some.inj h⟩
    · cases h
  · rw [if_neg e] at h; exact .inr ⟨e, h⟩
theorem OwnH.slot {w : World} {base : Nat} {A : Option Addr} {c : Nat} {ls : List LO} (h : OwnH w base A c ls) {i j g : Nat} {x : Int} {l : LO} (hl : ls[i]? = some l) (hS : l.S = some ⟨g, 0, none⟩) :
    OwnH (w.setCell ⟨g, j, none⟩ (.int .i64 x)) base A c (ls.set i ⟨{ l.o with slots := l.o.slots.set j x }, l.S, l.c⟩) := by
  have hi := h.ints i l hl
  rw [hS] at hi
  obtain ⟨cur, hB, _, _, _⟩ := own_blk hi
  refine ⟨?_, fun k m hm => ?_, fun k k' lk lk' a b hk hk' hlt ha hb => ?_⟩
  · rw [rowOf_same ls i l _ hl (by simp [LO.cells]), List.length_set]
    exact ownsRow_setCell_other h.row (own_blk_ne h.row hB (by decide)) _
  · rcases set_get hm with ⟨rfl, rfl⟩ | ⟨hne, hm⟩
    · simp only [List.length_set, List.map_set]
      rw [hS]
      exact (hi.stored j (.int .i64 x)).1
    · have hm2 := h.ints k m hm
      refine ownsRow_setCell_other hm2 ?_ _
      intro e
      cases hmS : m.S with
      | none => rw [hmS] at e; cases e
      | some a =>
        rw [hmS] at e
        have e' : a.block = g := by simpa [Value.ownBlock] using e
        rcases Nat.lt_or_gt_of_ne hne with hlt | hlt
        · exact h.apart i k l m _ a hl hm hlt hS hmS e'.symm
        · exact h.apart k i m l a _ hm hl hlt hmS hS e'
  · rcases set_get hk with ⟨rfl, rfl⟩ | ⟨hne, hk⟩ <;> rcases set_get hk' with ⟨rfl, rfl⟩ | ⟨hne', hk'⟩
    · omega
    · exact h.apart _ _ l lk' a b hl hk' hlt ha hb
    · exact h.apart _ _ lk l a b hk hl hlt ha hb
    · exact h.apart _ _ lk lk' a b hk hk' hlt ha hb
theorem OwnH.text {w : World} {base g c : Nat} {ls : List LO} (h : OwnH w base (some ⟨g, 0, none⟩) c ls) {i : Nat} {s : ByteArray} {l : LO} (hl : ls[i]? = some l) :
    OwnH (w.setCell ⟨g, i * 6 + 3, none⟩ (.string s)) base (some ⟨g, 0, none⟩) c (ls.set i ⟨{ l.o with text := s }, l.S, l.c⟩) := by
  obtain ⟨cur, hB, _, _, _⟩ := own_blk h.row
  refine ⟨?_, fun k m hm => ?_, fun k k' lk lk' a b hk hk' hlt ha hb => ?_⟩
  · rw [rowOf_text ls i l s hl, List.length_set]
    exact (h.row.stored _ _).1
  · rcases set_get hm with ⟨rfl, rfl⟩ | ⟨hne, hm⟩
    · exact ownsRow_setCell_other (h.ints _ l hl) (own_blk_ne (h.ints _ l hl) hB (by decide)) _
    · exact ownsRow_setCell_other (h.ints k m hm) (own_blk_ne (h.ints k m hm) hB (by decide)) _
  · rcases set_get hk with ⟨rfl, rfl⟩ | ⟨hne, hk⟩ <;> rcases set_get hk' with ⟨rfl, rfl⟩ | ⟨hne', hk'⟩
    · omega
    · exact h.apart _ _ l lk' a b hl hk' hlt ha hb
    · exact h.apart _ _ lk l a b hk hl hlt ha hb
    · exact h.apart _ _ lk lk' a b hk hk' hlt ha hb

def zeroH : Hp := ⟨[], 0, 0⟩
theorem ObsR.nil (w : World) : ObsR w none [] := fun h => by simp at h
def HeapTwo (w : World) (h' : Hp) (en : Int) (e : Ending) (w' : World) : Prop := ∃ A c, e = .returned (.tuple #[.agg #[.slice A h'.objs.length c, .int .i64 h'.cap, .int .i64 h'.last], .int .i64 en]) ∧ ObsR w' A h'.objs ∧ Below w.heap.size w w'
def HeapOwn (w : World) (h' : Hp) (e : Ending) (w' : World) : Prop := ∃ A c ls, e = .returned (.agg #[.slice A h'.objs.length c, .int .i64 h'.cap, .int .i64 h'.last]) ∧ ls.map (·.o) = h'.objs ∧ OwnH w' w.heap.size A c ls ∧ Below w.heap.size w w'
theorem may_slots {h : Hp} (hm : mayB h = true) {ls : List LO} (hls : ls.map (·.o) = h.objs) : ls.length = h.objs.length ∧ ls.length ≤ 256 ∧ ∀ l ∈ ls, l.o.slots.length ≤ 64 := by
  have hl : ls.length = h.objs.length := by rw [← hls]; simp
  refine ⟨hl, by rw [hl]; exact may_len hm, fun l hl => ?_⟩
  have : l.o ∈ h.objs := by rw [← hls]; exact List.mem_map_of_mem hl
  exact (kind_len (ob_kind (may_all hm _ this))).1
theorem clone_h (h : Hp) (A : Option Addr) (c : Nat) (w : World) (hs : ObsR w A h.objs) (hm : mayB h = true) : Calls Tryz.prog 214 #[.agg #[.slice A h.objs.length c, .int .i64 h.cap, .int .i64 h.last]] w (HeapOwn w h) := by
  obtain ⟨ls, h1, h2⟩ := hs.laid
  obtain ⟨e1, e2, e3⟩ := may_slots hm h1
  rw [← e1]
  refine (clone_any h.cap h.last A c ls w h2 e2 e3).mono ?_
  rintro e w' ⟨A', c', ls', rfl, h3, h4, h5⟩
  exact ⟨A', c', ls', by rw [e1], by rw [h3, h1], h4, h5⟩
theorem copy_h (h : Hp) (A : Option Addr) (c : Nat) (w : World) (hs : ObsR w A h.objs) (hm : mayB h = true) : Calls Tryz.prog 119 #[.agg #[.slice A h.objs.length c, .int .i64 h.cap, .int .i64 h.last]] w (HeapOwn w h) := by
  obtain ⟨ls, h1, h2⟩ := hs.laid
  obtain ⟨e1, e2, e3⟩ := may_slots hm h1
  rw [← e1]
  refine (copy_any h.cap h.last A c ls w h2 e2 e3).mono ?_
  rintro e w' ⟨A', c', ls', rfl, h3, h4, h5⟩
  exact ⟨A', c', ls', by rw [e1], by rw [h3, h1], h4, h5⟩
end Go.Proofs.YtnilempeldlieaaGreat
namespace Go.Proofs.YtnilempeldlieaaGreat
open Go.RowKit
def HeapOwn2 (w : World) (h' : Hp) (en : Int) (e : Ending) (w' : World) : Prop := ∃ A c ls, e = .returned (.tuple #[.agg #[.slice A h'.objs.length c, .int .i64 h'.cap, .int .i64 h'.last], .int .i64 en]) ∧ ls.map (·.o) = h'.objs ∧ OwnH w' w.heap.size A c ls ∧ Below w.heap.size w w'
def unH (h : Hp) (en : Int) : Hp := if en = 1 then zeroH else h
set_option maxRecDepth 100000 in
set_option maxHeartbeats 4000000 in
theorem unchanged_any (h : Hp) (en : Int) (A : Option Addr) (c : Nat) (w : World) (hs : ObsR w A h.objs) (hm : en ≠ 1 → mayB h = true) :
    Calls Tryz.prog 213 #[.agg #[.slice A h.objs.length c, .int .i64 h.cap, .int .i64 h.last], .int .i64 en] w (HeapOwn w (unH h en)) := by
  have HB0 := hid (below_alloc2 w (.cells #[Value.slice A h.objs.length c, Value.int .i64 h.cap, Value.int .i64 h.last] 24) (.cells #[.slice none 0 0, .int .i64 0, .int .i64 0] 24))
  have HS := hid hs
  have HM := hid hm
  clear hs hm
  by_cases e1 : en = 1
  · have HU : Hid (unH h en = zeroH) := by show _ = _; unfold unH; rw [if_pos e1]
    subst e1
    go_enter Tryz.func213, Tryz.ntmps213
    go_wp2
    refine bodyPost_ret (v := .agg #[.slice none 0 0, .int .i64 0, .int .i64 0]) (by simp [results, Tryz.results213, go_sem]) rfl ?_
    rw [HU.out]
    exact ⟨none, 0, [], rfl, rfl, OwnH.nil _ _, HB0.out⟩
  · have HU : Hid (unH h en = h) := by show _ = _; unfold unH; rw [if_neg e1]
    have e1' : (en == 1) = false := by simpa using e1
    have hmm := HM.out e1
    have K1 := hid (Lies.new (w.alloc (.cells #[Value.slice A h.objs.length c, Value.int .i64 h.cap, Value.int .i64 h.last] 24)) 24 #[.slice none 0 0, .int .i64 0, .int .i64 0])
    have HMM := hid hmm
    clear e1 hmm
    go_enter Tryz.func213, Tryz.ntmps213
    go_wp2_with fail
    refine (clone_h h A c _ (HS.out.below HB0.out) HMM.out).mono ?_
    rintro e w1 ⟨A1, c1, ls, rfl, hls, hown, hb⟩
    have k1 := K1.out.later hb
    rw [show (w.alloc (.cells #[Value.slice A h.objs.length c, Value.int .i64 h.cap, Value.int .i64 h.last] 24)).heap.size = w.heap.size + 1 by simp] at k1
    have HO := hid hown
    have HB := hid (HB0.out.trans (hb.mono (by simp; omega)))
    have HLS := hid hls
    obtain ⟨h0, h1, h2⟩ := k1.c3
    obtain ⟨i0, i1, i2⟩ := k1.f3
    have KK := hid k1
    clear hown hb hls k1
    go_wp2
    have K0 := ((KK.out.set_ 0 (.slice A1 h.objs.length c1)).set_ 1 (.int .i64 h.cap)).set_ 2 (.int .i64 h.last)
    have r0 := K0.cell 0
    have r1 := K0.cell 1
    have r2 := K0.cell 2
    simp only [List.setIfInBounds_toArray, List.set_cons_zero, List.set_cons_succ, List.getElem?_toArray, List.getElem?_cons_zero, List.getElem?_cons_succ] at r0 r1 r2
    refine bodyPost_ret (v := .agg #[.slice A1 h.objs.length c1, .int .i64 h.cap, .int .i64 h.last]) (by simp [results, Tryz.results213, go_sem, r0, r1, r2]) rfl ?_
    rw [HU.out]
    refine ⟨A1, c1, ls, rfl, HLS.out, (((HO.out.low (p := ⟨w.heap.size + 1, 0, none⟩) (by simp) _).low (p := ⟨w.heap.size + 1, 1, none⟩) (by simp) _).low (p := ⟨w.heap.size + 1, 2, none⟩) (by simp) _).lower (by simp; omega), ?_⟩
    exact ((HB.out.setCell (p := ⟨w.heap.size + 1, 0, none⟩) (by simp) _).setCell (p := ⟨w.heap.size + 1, 1, none⟩) (by simp) _).setCell (p := ⟨w.heap.size + 1, 2, none⟩) (by simp) _
def setH (h : Hp) (v k x : Int) : Hp := { h with objs := h.objs.set (atV v).toNat { obAt h v with slots := (obAt h v).slots.set k.toNat x } }
def setE (h : Hp) (v k x : Int) : Int := if plE h v 0 k = 0 then (if hasB h.objs.length x then 0 else 31) else plE h v 0 k
def setR (h : Hp) (v k x : Int) : Hp := if setE h v k x = 0 then setH h v k x else unH h (setE h v k x)
theorem plE_may {h : Hp} {v kind k : Int} (e : plE h v kind k ≠ 1) : mayB h = true := by
  cases hm : mayB h
  · exact absurd (by unfold plE; rw [if_pos hm]) e
  · rfl
end Go.Proofs.YtnilempeldlieaaGreat
namespace Go.Proofs.YtnilempeldlieaaGreat
open Go.RowKit
theorem may_fit {h : Hp} (hm : mayB h = true) : h.Fit :=
  ⟨by have := may_len hm; omega, fun o ho => by have := (kind_len (ob_kind (may_all hm o ho))).1; show o.slots.length ≤ _; omega⟩
end Go.Proofs.YtnilempeldlieaaGreat
namespace Go.Proofs.YtnilempeldlieaaGreat
open Go.RowKit
def putO (h : Hp) (i : Nat) (o : Ob) : Hp := { h with objs := h.objs.set i o }
theorem putO_len (h : Hp) (i : Nat) (o : Ob) : (putO h i o).objs.length = h.objs.length := by simp [putO]
theorem putO_may {h : Hp} (hm : mayB h = true) {i : Nat} {o : Ob} (ho : obB h.objs.length o = true) : mayB (putO h i o) = true := by
  have hm' := hm
  unfold mayB at hm ⊢
  rw [putO_len]
  simp only [Bool.and_eq_true] at hm ⊢
  refine ⟨hm.1, List.all_eq_true.2 fun p hp => ?_⟩
  rcases List.mem_or_eq_of_mem_set hp with h1 | h1
  · exact may_all hm' p h1
  · rw [h1]; exact ho
theorem setH_put (h : Hp) (v k x : Int) : setH h v k x = putO h (atV v).toNat { obAt h v with slots := (obAt h v).slots.set k.toNat x } := rfl
structure Placed (h : Hp) (v k : Int) : Prop where
  may : mayB h = true
  ref : refB h.objs.length v = true
  kind : (obAt h v).kind = 0
  lo : 0 ≤ k
  hi : k.toNat < (obAt h v).slots.length
theorem placed {h : Hp} {v k : Int} (e : plE h v 0 k = 0) : Placed h v k := by
  obtain ⟨h1, h2, h3, h4, h5⟩ := pl_ok e
  refine ⟨h1, h2, h3, h4, ?_⟩
  unfold szO at h5
  rw [if_neg (by decide)] at h5
  omega
theorem ob_mem {h : Hp} {v : Int} (hv : refB h.objs.length v = true) : obAt h v ∈ h.objs := by
  obtain ⟨i, _, _, ho⟩ := obAt_get hv
  exact List.mem_of_getElem? ho
theorem slots_ob {n : Nat} {o : Ob} (h : obB n o = true) (hk : o.kind = 0) {j : Nat} {x : Int} (hx : hasB n x = true) : obB n { o with slots := o.slots.set j x } = true := by
  unfold obB at h ⊢
  simp only [Bool.and_eq_true] at h ⊢
  obtain ⟨⟨⟨h1, h2⟩, h3⟩, h4⟩ := h
  refine ⟨⟨⟨h1, h2⟩, ?_⟩, ?_⟩
  · unfold kiB at h3 ⊢
    rw [if_pos hk] at h3
    rw [if_pos hk]
    simpa using h3
  · refine List.all_eq_true.2 fun y hy => ?_
    rcases List.mem_or_eq_of_mem_set hy with g | g
    · exact List.all_eq_true.1 h4 y g
    · rw [g]; exact hx
theorem set_may {h : Hp} {v k x : Int} (p : Placed h v k) (hx : hasB h.objs.length x = true) : mayB (setH h v k x) = true := by
  rw [setH_put]
  exact putO_may p.may (slots_ob (may_all p.may _ (ob_mem p.ref)) p.kind hx)
theorem setH_len (h : Hp) (v k x : Int) : (setH h v k x).objs.length = h.objs.length := putO_len _ _ _
theorem geV_has {h : Hp} {v k : Int} (e : plE h v 0 k = 0) : hasB h.objs.length (geV h v k) = true := by
  have p := placed e
  have h2 : geV h v k = (obAt h v).slots.getD k.toNat 0 := by unfold geV; rw [if_pos e]
  have ho := may_all p.may _ (ob_mem p.ref)
  unfold obB at ho
  simp only [Bool.and_eq_true] at ho
  rw [h2, List.getD_eq_getElem?_getD, List.getElem?_eq_getElem p.hi]
  exact List.all_eq_true.1 ho.2 _ (List.getElem_mem p.hi)
end Go.Proofs.YtnilempeldlieaaGreat
namespace Go.Proofs.YtnilempeldlieaaGreat
open Go.RowKit Go.WideShapes Go.ChangeShapes
section
variable {H : Type} {enc : TypeId × Value → H} {P : Program}
theorem trodAll_later (hl : laidOutB P = true) {W W' : World} (hb : Below W.heap.size W W') :
    ∀ (ts : List TypeId) (vs : List Value) (ds : List (DataW H)) (ps : List MemPlace), ts.all (fun t => P.readableRec t && decide (t < P.types.size)) = true → (∀ x ∈ ps, x.block < W.heap.size) →
      DataW.TrodAll enc P W 0 (fun _ => true) true ts vs ds ps → DataW.TrodAll enc P W' 0 (fun b => decide (b < W.heap.size)) true ts vs ds ps
  | [], [], [], _, _, _, h => h
  | t :: ts, v :: vs, d :: ds, _, ht, hp, ⟨p, q, h1, h2, e⟩ => by
    subst e
    simp only [List.all_cons, Bool.and_eq_true, decide_eq_true_eq] at ht
    exact ⟨p, q, Below.trod hl ht.1.1 ht.1.2 h1 hb (fun x hx => hp x (List.mem_append_left _ hx)), trodAll_later hl hb ts vs ds q ht.2 (fun x hx => hp x (List.mem_append_right _ hx)) h2, rfl⟩
theorem law_post {f : Func} {s : ChangeSpec} {W W' : World} {args : Array Value} {ds : List (DataW H)} {before : List MemPlace} {tb : TypeId} (hl : laidOutB P = true)
    (hts : f.params.toList.all (fun t => P.readableRec t && decide (t < P.types.size)) = true) (hvars : s.vars = []) (hrt : f.resultTypes = #[tb]) (hub : P.underlying tb = some .bool)
    (hW : DataW.Whole enc P f.params.toList s.vars false W args.toList ds [] before) (hfn : s.fn H ds = { results := [.lit (.bool true)], args := ds }) (hb : Below W.heap.size W W') :
    s.post enc P f false true false false W args (.bool true) W' := by
  have hlt : ∀ x ∈ before, x.block < W.heap.size := fun x hx => hW.lt x hx
  have hW' := hW
  obtain ⟨p, q, hA, hV, e, -, -⟩ := hW
  rw [hvars] at hV
  obtain ⟨-, rfl⟩ := trodVars_none hV
  rw [List.append_nil] at e
  subst e
  refine ⟨ds, [], before, [], before, [], hW', ?_, ?_, ?_, hb.frame _, fun h => by cases h⟩
  · rw [List.append_nil, hfn, hrt]
    exact trodAll_mk1 (shut_bool hub _)
  · rw [List.append_nil, hfn]
    exact trodAll_later hl hb _ _ _ _ hts hlt hA
  · rw [List.append_nil, hfn, hvars]
    exact rfl
end
end Go.Proofs.YtnilempeldlieaaGreat
namespace Go.Proofs.YtnilempeldlieaaGreat
open Go.ChangeShapes Go.WideShapes Go.RowKit Go.Deep Go.Joins
set_option maxRecDepth 100000
theorem cells24 : Tryz.prog.cellsOf 24 = 3 := by kernel_rfl
theorem cells46 : Tryz.prog.cellsOf 41 = 6 := by kernel_rfl
theorem cells3 : Tryz.prog.cellsOf 3 = 1 := by kernel_rfl
section
variable {H : Type} {enc : TypeId × Value → H} {w : World} {base : Nat} {spare : Nat → Bool} {held : Bool}
theorem spot_none {w : World} {a : Addr} {v : Value} (h : w.cell? a = some v) : a = ⟨a.block, a.off, none⟩ := by
  obtain ⟨b, o, s⟩ := a
  cases s with
  | none => rfl
  | some t =>
    exfalso
    unfold World.cell? at h
    split at h
    · simp at h
    · cases h
theorem add_off (b o i : Nat) : (⟨b, o, none⟩ : Addr).add i = ⟨b, o + i, none⟩ := by
  unfold Addr.add
  split
  · rename_i e; subst e; rfl
  · rfl
theorem open_ints_r {fuel : Nat} {v : Value} {x : DataW H × List MemPlace} (h : DataW.trod enc Tryz.prog w base spare held fuel 34 [v] = some x) :
    ∃ S c xs, v = .slice S (xs : List Int).length c ∧ IntsR w S xs ∧ xs.length ≤ c ∧ (S = none → c = 0) ∧ xs.length ≤ 9223372036854775807 := by
  rcases open_ints Tryz.underlying34 Tryz.underlying3 cells3 h with ⟨e, _⟩ | ⟨a, len, cap, zs, e, _, hl, hm, hz, _, hc, _⟩
  · refine ⟨none, 0, [], by simpa using e, fun hn => by simp at hn, Nat.le_refl _, fun _ => rfl, by simp⟩
  · have hlz : len ≤ zs.length := by rw [hz]; split <;> omega
    have ht : (zs.take len).length = len := by rw [List.length_take]; omega
    refine ⟨some a, cap, zs.take len, by rw [ht]; simpa using e, fun hn => ?_, by omega, (fun g => by cases g), by unfold maxLen at hm; omega⟩
    have h0 := hc 0 (by omega)
    have ha := spot_none (show w.cell? a = _ from by simpa [Addr.add] using h0)
    refine ⟨a.block, a.off, by rw [← ha], ?_, fun j x hx => ?_⟩
    · have := World.block_lt_of_cell? w _ (show w.cell? a = _ from by simpa [Addr.add] using h0)
      exact this
    · have hj : j < len := by have := (List.getElem?_eq_some_iff.1 hx).1; omega
      have := hc j (by omega)
      rw [ha, add_off] at this
      rw [this]
      rw [List.getElem?_take, if_pos hj] at hx
      rw [List.getD_eq_getElem?_getD, hx]; rfl
end
end Go.Proofs.YtnilempeldlieaaGreat
namespace Go.Proofs.YtnilempeldlieaaGreat
open Go.RowKit
set_option maxRecDepth 100000 in
set_option maxHeartbeats 4000000 in
theorem place_any (h : Hp) (v kind k : Int) (hkk : kind = 0 ∨ kind = 1) (A : Option Addr) (c : Nat) (w : World) (hs : ObsR w A h.objs) (fit : h.Fit) :
    Calls Tryz.prog 212 #[.agg #[.slice A h.objs.length c, .int .i64 h.cap, .int .i64 h.last], .int .i64 v, .int .i64 kind, .int .i64 k] w fun e w' => e = .returned (.tuple #[.int .i64 (plV h v kind k), .int .i64 (plE h v kind k)]) ∧ Below w.heap.size w w' := by
  have HB0 := hid (below_alloc w (.cells #[Value.slice A h.objs.length c, Value.int .i64 h.cap, Value.int .i64 h.last] 24))
  have HX := hid (BoxH.new w h A c)
  have HS := hid hs
  have HF := hid fit
  have HKK := hid hkk
  clear hs fit hkk
  cases hm : mayB h
  next =>
   have e1 : plE h v kind k = 1 := by unfold plE; rw [if_pos hm]
   have e2 : plV h v kind k = 0 := by unfold plV; rw [e1]; rfl
   rw [e1, e2]; clear e1 e2
   go_enter Tryz.func212, Tryz.ntmps212
   go_wp2_with fail
   refine (may_any h A c _ (HS.out.below HB0.out) HF.out).mono ?_
   rintro e w1 ⟨rfl, hb1⟩
   have HB1 := hid hb1
   clear hb1
   go_wp2_with fail
   go_ret2
   exact ⟨rfl, HB0.out.trans (HB1.out.mono (by simp))⟩
  next =>
   cases hr : refB h.objs.length v
   next =>
    have e1 : plE h v kind k = 31 := by unfold plE; rw [if_neg (by rw [hm]; decide), if_pos hr]
    have e2 : plV h v kind k = 0 := by unfold plV; rw [e1]; rfl
    rw [e1, e2]; clear e1 e2
    go_enter Tryz.func212, Tryz.ntmps212
    go_wp2_with fail
    refine (may_any h A c _ (HS.out.below HB0.out) HF.out).mono ?_
    rintro e w1 ⟨rfl, hb1⟩
    obtain ⟨x0, x1, x2⟩ := HX.out.later hb1
    have HB1 := hid (HB0.out.trans (hb1.mono (by simp)))
    clear hb1
    go_wp2_with fail
    refine (find_any h _ A c _).mono ?_
    rintro e w2 ⟨rfl, hb2⟩
    have HB2 := hid (HB1.out.trans (hb2.mono HB1.out.size))
    clear hb2
    go_wp2_with fail
    go_ret2
    exact ⟨rfl, HB2.out⟩
   next =>
    obtain ⟨i, hi, hv, ho⟩ := obAt_get hr
    have hmem : obAt h v ∈ h.objs := List.mem_of_getElem? ho
    obtain ⟨hl1, hl2, hl3, hl4, hl5, hl6⟩ := kind_len (ob_kind (may_all hm _ hmem))
    have hrv : refV h.objs.length v = (i : Int) := by unfold refV; rw [if_pos hr, hv]
    have E1 : Hid (plE h v kind k = if (obAt h v).kind ≠ kind then 33 else if k < 0 ∨ szO kind (obAt h v) ≤ k then 32 else 0) := by
      show _ = _
      unfold plE; rw [if_neg (by rw [hm]; decide), if_neg (by rw [hr]; decide)]
    have HV := hid hv
    obtain ⟨b, off, rfl, hlt, hc⟩ := HS.out (by omega)
    obtain ⟨S, d, hob, hin, hsd⟩ := hc i _ ho
    obtain ⟨o, hoo⟩ : ∃ o, o = obAt h v := ⟨_, rfl⟩
    have HOO := hid hoo
    rw [← hoo] at hl1 hl2 hl3 hl4 hl5 hl6 hob
    have HOB := hid hob
    have HL := hid (And.intro hl3 hl4)
    clear hc hin hsd hob hoo hmem ho hv hl3 hl4
    go_enter Tryz.func212, Tryz.ntmps212
    go_wp2_with fail
    refine (may_any h (some ⟨b, off, none⟩) c _ (HS.out.below HB0.out) HF.out).mono ?_
    rintro e w1 ⟨rfl, hb1⟩
    have HX1 := hid (HX.out.later hb1)
    obtain ⟨x0, x1, x2⟩ := HX1.out
    have HB1 := hid (HB0.out.trans (hb1.mono (by simp)))
    clear hb1
    go_wp2_with fail
    refine (find_any h _ (some ⟨b, off, none⟩) c _).mono ?_
    rintro e w2 ⟨rfl, hb2⟩
    have HB2 := hid (HB1.out.trans (hb2.mono HB1.out.size))
    clear x0 x1 x2
    obtain ⟨x0, x1, x2⟩ := HX1.out.later hb2
    obtain ⟨c0, c1, c2, c3, c4, c5⟩ := HOB.out.below hlt HB2.out
    clear hb2
    by_cases gk : o.kind = kind
    next =>
     have gk' : (o.kind != kind) = false := by simp [gk]
     have GK := hid gk
     clear gk
     by_cases g0 : k < 0
     next =>
      go_wp2_with fail
      go_ret2
      have e1 : plE h v kind k = 32 := by rw [E1.out, ← HOO.out, if_neg (by simp [GK.out]), if_pos (.inl g0)]
      exact ⟨by rw [show plV h v kind k = 0 by unfold plV; rw [e1]; rfl, e1]; rfl, HB2.out.trans ((below_alloc _ _).mono HB2.out.size)⟩
     next =>
      have g0' : 0 ≤ k := by omega
      clear g0
      have hsz : szO kind o = (o.slots.length : Int) + (o.text.size : Int) := by
        unfold szO
        rcases HKK.out with e | e
        next =>
         have := HL.out.1 (by rw [GK.out, e])
         rw [e, if_neg (by decide)]; omega
        next =>
         have := HL.out.2 (by rw [GK.out, e])
         rw [e, if_pos rfl]; omega
      have HSZ := hid hsz
      clear hsz
      by_cases g1 : (o.slots.length : Int) + (o.text.size : Int) ≤ k
      next =>
       go_wp2_with fail
       go_ret2
       have e1 : plE h v kind k = 32 := by rw [E1.out, ← HOO.out, if_neg (by simp [GK.out]), if_pos (.inr (by rw [HSZ.out]; exact g1))]
       exact ⟨by rw [show plV h v kind k = 0 by unfold plV; rw [e1]; rfl, e1]; rfl, HB2.out.trans ((below_alloc _ _).mono HB2.out.size)⟩
      next =>
       have g1' : k < (o.slots.length : Int) + (o.text.size : Int) := by omega
       clear g1
       go_wp2_with fail
       go_ret2
       have e1 : plE h v kind k = 0 := by rw [E1.out, ← HOO.out, if_neg (by simp [GK.out]), if_neg (by rw [HSZ.out]; omega)]
       exact ⟨by rw [show plV h v kind k = i by unfold plV; rw [if_pos e1, HV.out], e1]; rfl, HB2.out.trans ((below_alloc _ _).mono HB2.out.size)⟩
    next =>
     have gk' : (o.kind != kind) = true := by simp [gk]
     have GK := hid gk
     clear gk
     go_wp2_with fail
     go_ret2
     have e1 : plE h v kind k = 33 := by rw [E1.out, ← HOO.out, if_pos GK.out]
     exact ⟨by rw [show plV h v kind k = 0 by unfold plV; rw [e1]; rfl, e1]; rfl, HB2.out.trans ((below_alloc _ _).mono HB2.out.size)⟩
end Go.Proofs.YtnilempeldlieaaGreat
namespace Go.Proofs.YtnilempeldlieaaGreat
open Go.RowKit
def paL9 (h : Hp) (v : Int) : List Int := if refI h.objs.length v = 0 ∨ refI h.objs.length v < 0 ∨ (obAt h v).kind ≠ 0 then [] else (obAt h v).slots
def paB9 (h : Hp) (v : Int) : Bool := decide (refI h.objs.length v = 0) || (decide (0 ≤ refI h.objs.length v) && decide ((obAt h v).kind = 0))
def sl9 (h : Hp) (c : Int) (k : Nat) : Int := (obAt h c).slots.getD k 0
def clB9 (h : Hp) (c : Int) : Bool :=
  mayB h && (refB h.objs.length c && (decide ((obAt h c).kind = 0) && (decide (3 ≤ (obAt h c).slots.length) && (refB h.objs.length (sl9 h c 0) && (paB9 h (sl9 h c 1) && (nB (sl9 h c 2) && decide (0 ≤ nV (sl9 h c 2) ∧ nV (sl9 h c 2) ≤ 64)))))))
theorem ref_is9 {n : Nat} {v : Int} (p : refB n v = true) : v = 2 * atV v ∧ (atV v).toNat < n := by
  obtain ⟨h1, h2, h3⟩ := refB_no p
  have h4 := atB_iff.1 h1
  have h5 : atV v = v / 2 := by unfold atV; rw [if_pos h1]
  omega
end Go.Proofs.YtnilempeldlieaaGreat
namespace Go.Proofs.YtnilempeldlieaaGreat
open Go.RowKit
section
variable {h : Hp} {d x y : Int}
theorem ref_pos9 {n : Nat} {d : Int} (hd : refB n d = true) (h0 : d ≠ 0) : 0 < refI n d := by
  have h1 := refB_no hd
  have h2 := ref_is9 hd
  rw [refI_nonneg hd]; omega
end
end Go.Proofs.YtnilempeldlieaaGreat
namespace Go.Proofs.YtnilempeldlieaaGreat
open Go.RowKit
def lf9 (h : Hp) (v : Int) : Int × Int := if mayB h = false then (0, 1) else if nB v then (6, 0) else if refB h.objs.length v then ((obAt h v).cls, 0) else (0, 31)
end Go.Proofs.YtnilempeldlieaaGreat
