/- The document's answers on what may be, what is wrong with a place, and what is read there. An object appended to a row of the call's own. Writes into a heap of the call's own: one slot, one text; what an error leaves. unchanged, Set, the program's and the document's. Compaction over plain heaps: new numbers, values by a table, the heap that is left. -/
import Derived.Test.YtnilempeldlieaaWD
import Derived.Test.YtnilempeldlieaaM03
import Derived.Test.YtnilempeldlieaaWY
namespace Go.Proofs.Ytnilempeldlieaa
open Go.RowKit
set_option maxRecDepth 100000 in
set_option maxHeartbeats 4000000 in
theorem rmay_any (h : Hp) (A : Option Addr) (c : Nat) (w : World) (hs : ObsR w A h.objs) (fit : h.Fit) :
    Calls Try.prog 23 #[.agg #[.slice A h.objs.length c, .int .i64 h.cap, .int .i64 h.last]] w fun e w' => e = .returned (.bool (mayB h)) ∧ Below w.heap.size w w' := by
  have HB0 := hid (below_alloc w (.cells #[Value.slice A h.objs.length c, Value.int .i64 h.cap, Value.int .i64 h.last] 24))
  have HX := hid (BoxH.new w h A c)
  have HS := hid hs
  have HF := hid fit
  have hl : h.objs.length ≤ 9223372036854775807 := fit.1
  clear hs fit
  go_enter Try.func23, Try.ntmps23
  go_wp2
  go_loopw [3] (fun i wr => ∃ k : Nat, k ≤ h.objs.length ∧ i = .int .i64 k ∧ (h.objs.take k).all (obB h.objs.length) = true ∧ Below w.heap.size w wr ∧ BoxH wr w.heap.size h A c) (fun i _ => h.objs.length - (intOf i).toNat)
  case atStart => exact ⟨0, Nat.zero_le _, rfl, rfl, HB0.out, HX.out⟩
  case round =>
    obtain ⟨k, hk, rfl, hall, hbw, hX⟩ := hrel
    have HA := hid hall
    have HW := hid hbw
    have HX' := hid hX
    clear hall hbw HX
    obtain ⟨e0, e1, e2⟩ := hX
    by_cases hlt : k < h.objs.length
    · obtain ⟨bs, os, rfl, hbs, hcs⟩ := HS.out (by omega)
      obtain ⟨S, d, hob, hin, _⟩ := hcs k _ (List.getElem?_eq_getElem hlt)
      obtain ⟨c0, c1, c2, c3, c4, c5⟩ := hob.below hbs HW.out
      have HI := hid (hin.below HW.out)
      have hol := HF.out.slots (List.getElem_mem hlt)
      have HT : Hid ((h.objs.take (k + 1)).all (obB h.objs.length) = ((h.objs.take k).all (obB h.objs.length) && obB h.objs.length h.objs[k])) := by
        show _ = _
        rw [List.take_succ_eq_append_getElem hlt, List.all_append]; simp
      obtain ⟨o, ho⟩ : ∃ o, o = h.objs[k] := ⟨_, rfl⟩
      have HO := hid ho
      rw [← ho] at c0 c1 c2 c3 c4 c5 HI hol HT
      clear hcs hob hin ho
      go_wp2
      go_region_held3 (fun w' => w'.cell? ⟨w.heap.size, 0, none⟩ = some (.slice (some ⟨bs, os, none⟩) h.objs.length c) ∧ w'.cell? ⟨w.heap.size, 1, none⟩ = some (.int .i64 h.cap) ∧ w'.cell? ⟨w.heap.size, 2, none⟩ = some (.int .i64 h.last) ∧
          w'.cell? ⟨bs, os + k * 6, none⟩ = some (.int .i64 o.cls) ∧ w'.cell? ⟨bs, os + k * 6 + 1, none⟩ = some (.int .i64 o.kind) ∧ w'.cell? ⟨bs, os + k * 6 + 2, none⟩ = some (.slice S o.slots.length d) ∧ w'.cell? ⟨bs, os + k * 6 + 3, none⟩ = some (.string o.text) ∧ w'.cell? ⟨bs, os + k * 6 + 4, none⟩ = some (.int .i64 o.bits) ∧ w'.cell? ⟨bs, os + k * 6 + 5, none⟩ = some (.int .i64 o.hash))
        (first | exact ⟨e0, e1, e2, c0, c1, c2, c3, c4, c5⟩ | exact ⟨cell_later hb e0, cell_later hb e1, cell_later hb e2, cell_later hb c0, cell_later hb c1, cell_later hb c2, cell_later hb c3, cell_later hb c4, cell_later hb c5⟩)
        (first | (go_at_call 39; refine (robj_any h o S d (some ⟨bs, os, none⟩) c _ (HI.out.below (Below.refl _ _).drew) hol).mono ?_; rintro e w' ⟨rfl, hb⟩))
      have HBW : Hid (Below w.heap.size w w') := below_go HW.out.drew HW.out.size hb
      have HXW : Hid (BoxH w' w.heap.size h (some ⟨bs, os, none⟩) c) := HX'.out.later ((Below.refl _ _).drew.trans hb)
      clear hb e0 e1 e2 c0 c1 c2 c3 c4 c5
      cases hv : obB h.objs.length o
      · go_wp2
        go_ret
        refine ⟨ret_bool ?_, HBW.out⟩
        have : h.objs.all (obB h.objs.length) = false := by
          cases hx : h.objs.all (obB h.objs.length)
          · rfl
          · have := List.all_eq_true.1 hx h.objs[k] (List.getElem_mem hlt)
            rw [← HO.out, hv] at this; cases this
        simp [mayB, this]
      · go_wp2
        go_roundw
        case rel => exact ⟨k + 1, by omega, by go_num, by rw [HT.out, HA.out, hv]; rfl, HBW.out, HXW.out⟩
        case measure => simp [intOf]; omega
    · have HM : Hid (mayB h = (decide (1 ≤ h.cap ∧ h.cap ≤ 256 ∧ (h.objs.length : Int) ≤ h.cap) && haB h.last)) := by
        have := HA.out
        rw [List.take_of_length_le (by omega)] at this
        show _ = _
        unfold mayB; rw [this]; simp
      by_cases g1 : 1 ≤ h.cap
      · by_cases g2 : h.cap ≤ 256
        · by_cases g3 : (h.objs.length : Int) ≤ h.cap
          · go_wp2_with (first | (go_at_call 40; refine (rhash_any _ _).mono ?_; rintro e w' ⟨rfl, rfl⟩))
            go_ret
            exact ⟨ret_bool (by rw [HM.out, decide_eq_true ⟨g1, g2, g3⟩]; rfl), HW.out⟩
          · have g3' : h.cap < (h.objs.length : Int) := by omega
            clear g3
            go_wp2
            go_ret
            exact ⟨ret_bool (by rw [HM.out, decide_eq_false (by omega)]; rfl), HW.out⟩
        · have g2' : 256 < h.cap := by omega
          clear g2
          go_wp2
          go_ret
          exact ⟨ret_bool (by rw [HM.out, decide_eq_false (by omega)]; rfl), HW.out⟩
      · have g1' : h.cap < 1 := by omega
        clear g1
        go_wp2
        go_ret
        exact ⟨ret_bool (by rw [HM.out, decide_eq_false (by omega)]; rfl), HW.out⟩
theorem ret_int {a b : Int} (h : a = b) : Ending.returned (.int .i64 a) = .returned (.int .i64 b) := by rw [h]
end Go.Proofs.Ytnilempeldlieaa
namespace Go.Proofs.Ytnilempeldlieaa
open Go.RowKit
theorem wp_app_run {P : Program} {w : World} {o : Oper} {a : Act} {K : Act → World → Prop} {Q : Exit → Act → World → Prop} (s x : Operand) (t : TypeId)
    (ho : o.op = .call { callee := .builtin .append, args := #[s, x], argTypes := #[t, t] }) (v1 : Value) (w1 : World) (hrun : (Builtin.append_ #[t, t] o.type #[a.eval s, a.eval x]).run P w = .ok v1 w1)
    (h : K (a.put o.dst v1) w1) : Oper.wp P o a w K Q := by
  unfold Oper.wp
  simp [execOp, ho, resolve, invoke, builtin, hrun, Result.andThen]
  exact h
theorem wpList_app_run {P : Program} {w : World} {ops : Array Oper} {rest : List Oper} {o : Oper} {a : Act} {Q : Exit → Act → World → Prop} (hgd : o.guard = none) (s x : Operand) (t : TypeId)
    (ho : o.op = .call { callee := .builtin .append, args := #[s, x], argTypes := #[t, t] }) (v1 : Value) (w1 : World) (hrun : (Builtin.append_ #[t, t] o.type #[a.eval s, a.eval x]).run P w = .ok v1 w1)
    (h : wpList P ops Q rest (a.put o.dst v1) w1) : wpList P ops Q (o :: rest) a w :=
  wpList_plain hgd fun _ hK => wp_app_run s x t ho v1 w1 hrun (hK _ _ h)
def obC (o : Ob) (S : Option Addr) (d : Nat) : Array Value := #[.int .i64 o.cls, .int .i64 o.kind, .slice S o.slots.length d, .string o.text, .int .i64 o.bits, .int .i64 o.hash]
/-- an object appended, run -/
theorem run_app_obj (w : World) (base b : Nat) (A : Option Addr) (c : Nat) (ls : List LO) (hO : OwnH w base A c ls) (hl : ls.length ≤ 100000) (o : Ob) (S : Option Addr) (d : Nat)
    (hI : w.ownsRow b 3 1 (.slice S o.slots.length d) o.slots.length (o.slots.map (Value.int .i64))) (hb : base ≤ b) (hnew : ∀ (i : Nat) (li : LO) (a : Addr), ls[i]? = some li → li.S = some a → a.block < b) (hbase : base ≤ w.heap.size) :
    ∃ A' c' w', (Builtin.append_ #[22, 22] 22 #[.slice A ls.length c, .slice (some ⟨w.heap.size, 0, none⟩) 1 1]).run Try.prog (w.alloc (.cells (obC o S d) 39)) = .ok (.slice A' (ls.length + 1) c') w' ∧
      OwnH w' base A' c' (ls ++ [⟨o, S, d⟩]) ∧ (w.alloc (.cells (obC o S d) 39)).grownBy w' (Value.slice A ls.length c).ownBlock := by
  obtain ⟨j0, hj, hy0, hy1, hy2⟩ := info_parts obj_info
  have hal := below_alloc w (.cells (obC o S d) 39)
  have hO1 := hO.later hal
  have hI1 := own_later hI hal
  obtain ⟨v', w', h1, h2, h3, -⟩ := run_append_own (P := Try.prog) (w.alloc (.cells (obC o S d) 39)) base 22 22 39 j0 (.agg #[.int .i64 0, .int .i64 0, .slice none 0 0, .string ⟨#[]⟩, .int .i64 0, .int .i64 0]) 6 72 Try.underlying22 hj hy0 hy1 hy2 rfl (by decide) _ _ _ hO1.row ⟨w.heap.size, 0, none⟩ 1 1 (LO.mk o S d).cells rfl (by
      intro j u hu
      have := (Lies.new w 39 (obC o S d)).cell j
      rw [Addr.add_lit, Nat.zero_add, this]
      simpa [LO.cells, obC] using hu) (by
      intro u hu
      simp [LO.cells] at hu
      rcases hu with rfl | rfl | rfl | rfl | rfl | rfl <;> rfl) (by unfold maxLen; omega) (by omega) (Nat.le_trans hbase hal.size)
  obtain ⟨A', c', rfl⟩ := own_form h2
  exact ⟨A', c', w', h1, hO1.push (b := b) (l := ⟨o, S, d⟩) hI1 hb hnew h2 h3, h3⟩
theorem OwnH.off {w : World} {base g : Nat} {A : Option Addr} {c : Nat} {ls : List LO} {cs : Array Value} (h : OwnH w base A c ls) (hB : Lies w g 24 cs) (o : Nat) (u : Value) : OwnH (w.setCell ⟨g, o, none⟩ u) base A c ls :=
  ⟨ownsRow_setCell_other h.row (own_blk_ne h.row hB (by decide)) _, fun i l hl => ownsRow_setCell_other (h.ints i l hl) (own_blk_ne (h.ints i l hl) hB (by decide)) _, h.apart⟩
theorem own_obs {w : World} {base : Nat} {A : Option Addr} {c : Nat} {ls : List LO} {os : List Ob} (h : OwnH w base A c ls) (e : ls.map (·.o) = os) : ObsR w A os := by rw [← e]; exact h.obs
end Go.Proofs.Ytnilempeldlieaa
namespace Go.Proofs.Ytnilempeldlieaa
open Go.RowKit
theorem rowOf_upd (ls : List LO) (k : Nat) (l' : LO) (hk : k < ls.length) (j : Nat) : (rowOf (ls.set k l'))[j]? = if j / 6 = k then l'.cells[j % 6]? else (rowOf ls)[j]? := by
  by_cases hj : j < ls.length * 6
  · have hi : j / 6 < ls.length := by omega
    have hi' : j / 6 < (ls.set k l').length := by simpa using hi
    have e1 := rowOf_get ls (j / 6) (j % 6) ls[j / 6] (List.getElem?_eq_getElem hi) (by omega)
    have e2 := rowOf_get (ls.set k l') (j / 6) (j % 6) _ (List.getElem?_eq_getElem hi') (by omega)
    rw [show j / 6 * 6 + j % 6 = j by omega] at e1 e2
    rw [e2, e1]
    by_cases hjk : j / 6 = k
    · rw [if_pos hjk, List.getElem_set, if_pos hjk.symm]
    · rw [if_neg hjk, List.getElem_set, if_neg (fun e => hjk e.symm)]
  · rw [if_neg (by omega), List.getElem?_eq_none (by rw [rowOf_length]; simp; omega), List.getElem?_eq_none (by rw [rowOf_length]; omega)]
theorem rowOf_same (ls : List LO) (k : Nat) (l l' : LO) (hk : ls[k]? = some l) (h : l'.cells = l.cells) : rowOf (ls.set k l') = rowOf ls := by
  have hkl : k < ls.length := (List.getElem?_eq_some_iff.1 hk).1
  apply List.ext_getElem?
  intro j
  rw [rowOf_upd ls k l' hkl]
  by_cases e : j / 6 = k
  · rw [if_pos e, h]
    have := rowOf_get ls k (j % 6) l hk (by omega)
    rw [← this]; congr 1; omega
  · rw [if_neg e]
theorem rowOf_text (ls : List LO) (k : Nat) (l : LO) (s : ByteArray) (hk : ls[k]? = some l) : rowOf (ls.set k ⟨{ l.o with text := s }, l.S, l.c⟩) = (rowOf ls).set (k * 6 + 3) (.string s) := by
  have hkl : k < ls.length := (List.getElem?_eq_some_iff.1 hk).1
  apply List.ext_getElem?
  intro j
  rw [rowOf_upd ls k _ hkl, List.getElem?_set, rowOf_length]
  by_cases e : j / 6 = k
  · rw [if_pos e]
    have h0 := rowOf_get ls k (j % 6) l hk (by omega)
    rw [show k * 6 + j % 6 = j by omega] at h0
    by_cases h3 : k * 6 + 3 = j
    · rw [if_pos h3, if_pos (by omega), show j % 6 = 3 by omega]; rfl
    · rw [if_neg h3, h0]
      have hr : j % 6 = 0 ∨ j % 6 = 1 ∨ j % 6 = 2 ∨ j % 6 = 4 ∨ j % 6 = 5 := by omega
      rcases hr with r | r | r | r | r <;> rw [r] <;> rfl
  · rw [if_neg e, if_neg (by omega)]
theorem set_get {α : Type} {ls : List α} {i j : Nat} {l m : α} (h : (ls.set i l)[j]? = some m) : (i = j ∧ l = m) ∨ (i ≠ j ∧ ls[j]? = some m) := by
  rw [List.getElem?_set] at h
  by_cases e : i = j
  · rw [if_pos e] at h
    split at h
    · exact .inl ⟨e, Option.some.inj h⟩
    · cases h
  · rw [if_neg e] at h; exact .inr ⟨e, h⟩
theorem OwnH.slot {w : World} {base : Nat} {A : Option Addr} {c : Nat} {ls : List LO} (h : OwnH w base A c ls) {i j g : Nat} {x : Int} {l : LO} (hl : ls[i]? = some l) (hS : l.S = some ⟨g, 0, none⟩) :
    OwnH (w.setCell ⟨g, j, none⟩ (.int .i64 x)) base A c (ls.set i ⟨{ l.o with slots := l.o.slots.set j x }, l.S, l.c⟩) := by
  have hi := h.ints i l hl
  rw [hS] at hi
  obtain ⟨cur, hB, _, _, _⟩ := own_blk hi
  refine ⟨?_, fun k m hm => ?_, fun k k' lk lk' a b hk hk' hlt ha hb => ?_⟩
  · rw [rowOf_same ls i l _ hl (by simp [LO.cells]), List.length_set]
    exact ownsRow_setCell_other h.row (own_blk_ne h.row hB (by decide)) _
  · rcases set_get hm with ⟨rfl, rfl⟩ | ⟨hne, hm⟩
    · simp only [List.length_set, List.map_set]
      rw [hS]
      exact (hi.stored j (.int .i64 x)).1
    · have hm2 := h.ints k m hm
      refine ownsRow_setCell_other hm2 ?_ _
      intro e
      cases hmS : m.S with
      | none => rw [hmS] at e; cases e
      | some a =>
        rw [hmS] at e
        have e' : a.block = g := by simpa [Value.ownBlock] using e
        rcases Nat.lt_or_gt_of_ne hne with hlt | hlt
        · exact h.apart i k l m _ a hl hm hlt hS hmS e'.symm
        · exact h.apart k i m l a _ hm hl hlt hmS hS e'
  · rcases set_get hk with ⟨rfl, rfl⟩ | ⟨hne, hk⟩ <;> rcases set_get hk' with ⟨rfl, rfl⟩ | ⟨hne', hk'⟩
    · omega
    · exact h.apart _ _ l lk' a b hl hk' hlt ha hb
    · exact h.apart _ _ lk l a b hk hl hlt ha hb
    · exact h.apart _ _ lk lk' a b hk hk' hlt ha hb
theorem OwnH.text {w : World} {base g c : Nat} {ls : List LO} (h : OwnH w base (some ⟨g, 0, none⟩) c ls) {i : Nat} {s : ByteArray} {l : LO} (hl : ls[i]? = some l) :
    OwnH (w.setCell ⟨g, i * 6 + 3, none⟩ (.string s)) base (some ⟨g, 0, none⟩) c (ls.set i ⟨{ l.o with text := s }, l.S, l.c⟩) := by
  obtain ⟨cur, hB, _, _, _⟩ := own_blk h.row
  refine ⟨?_, fun k m hm => ?_, fun k k' lk lk' a b hk hk' hlt ha hb => ?_⟩
  · rw [rowOf_text ls i l s hl, List.length_set]
    exact (h.row.stored _ _).1
  · rcases set_get hm with ⟨rfl, rfl⟩ | ⟨hne, hm⟩
    · exact ownsRow_setCell_other (h.ints _ l hl) (own_blk_ne (h.ints _ l hl) hB (by decide)) _
    · exact ownsRow_setCell_other (h.ints k m hm) (own_blk_ne (h.ints k m hm) hB (by decide)) _
  · rcases set_get hk with ⟨rfl, rfl⟩ | ⟨hne, hk⟩ <;> rcases set_get hk' with ⟨rfl, rfl⟩ | ⟨hne', hk'⟩
    · omega
    · exact h.apart _ _ l lk' a b hl hk' hlt ha hb
    · exact h.apart _ _ lk l a b hk hl hlt ha hb
    · exact h.apart _ _ lk lk' a b hk hk' hlt ha hb

def zeroH : Hp := ⟨[], 0, 0⟩
theorem ObsR.nil (w : World) : ObsR w none [] := fun h => by simp at h
/-- a heap is returned; a heap and an error -/
def HeapOne (w : World) (h' : Hp) (e : Ending) (w' : World) : Prop := ∃ A c, e = .returned (.agg #[.slice A h'.objs.length c, .int .i64 h'.cap, .int .i64 h'.last]) ∧ ObsR w' A h'.objs ∧ Below w.heap.size w w'
def HeapTwo (w : World) (h' : Hp) (en : Int) (e : Ending) (w' : World) : Prop := ∃ A c, e = .returned (.tuple #[.agg #[.slice A h'.objs.length c, .int .i64 h'.cap, .int .i64 h'.last], .int .i64 en]) ∧ ObsR w' A h'.objs ∧ Below w.heap.size w w'
/-- a heap of the call's own is returned -/
def HeapOwn (w : World) (h' : Hp) (e : Ending) (w' : World) : Prop := ∃ A c ls, e = .returned (.agg #[.slice A h'.objs.length c, .int .i64 h'.cap, .int .i64 h'.last]) ∧ ls.map (·.o) = h'.objs ∧ OwnH w' w.heap.size A c ls ∧ Below w.heap.size w w'
theorem may_slots {h : Hp} (hm : mayB h = true) {ls : List LO} (hls : ls.map (·.o) = h.objs) : ls.length = h.objs.length ∧ ls.length ≤ 256 ∧ ∀ l ∈ ls, l.o.slots.length ≤ 64 := by
  have hl : ls.length = h.objs.length := by rw [← hls]; simp
  refine ⟨hl, by rw [hl]; exact may_len hm, fun l hl => ?_⟩
  have : l.o ∈ h.objs := by rw [← hls]; exact List.mem_map_of_mem hl
  exact (kind_len (ob_kind (may_all hm _ this))).1
theorem copy_h (h : Hp) (A : Option Addr) (c : Nat) (w : World) (hs : ObsR w A h.objs) (hm : mayB h = true) : Calls Try.prog 14 #[.agg #[.slice A h.objs.length c, .int .i64 h.cap, .int .i64 h.last]] w (HeapOwn w h) := by
  obtain ⟨ls, h1, h2⟩ := hs.laid
  obtain ⟨e1, e2, e3⟩ := may_slots hm h1
  rw [← e1]
  refine (copy_any h.cap h.last A c ls w h2 e2 e3).mono ?_
  rintro e w' ⟨A', c', ls', rfl, h3, h4, h5⟩
  exact ⟨A', c', ls', by rw [e1], by rw [h3, h1], h4, h5⟩
end Go.Proofs.Ytnilempeldlieaa
namespace Go.Proofs.Ytnilempeldlieaa
open Go.RowKit
/-- a heap of the call's own is returned, and an error -/
def HeapOwn2 (w : World) (h' : Hp) (en : Int) (e : Ending) (w' : World) : Prop := ∃ A c ls, e = .returned (.tuple #[.agg #[.slice A h'.objs.length c, .int .i64 h'.cap, .int .i64 h'.last], .int .i64 en]) ∧ ls.map (·.o) = h'.objs ∧ OwnH w' w.heap.size A c ls ∧ Below w.heap.size w w'
/-- what stands for the heap beside an error -/
def unH (h : Hp) (en : Int) : Hp := if en = 1 then zeroH else h
/-- the heap behind Set, and its error -/
def setH (h : Hp) (v k x : Int) : Hp := { h with objs := h.objs.set (atV v).toNat { obAt h v with slots := (obAt h v).slots.set k.toNat x } }
def setE (h : Hp) (v k x : Int) : Int := if plE h v 0 k = 0 then (if hasB h.objs.length x then 0 else 31) else plE h v 0 k
def setR (h : Hp) (v k x : Int) : Hp := if setE h v k x = 0 then setH h v k x else unH h (setE h v k x)
theorem plE_may {h : Hp} {v kind k : Int} (e : plE h v kind k ≠ 1) : mayB h = true := by
  cases hm : mayB h
  · exact absurd (by unfold plE; rw [if_pos hm]) e
  · rfl
theorem ObsR.setc {w : World} {A : Option Addr} {os : List Ob} (h : ObsR w A os) {B : Nat} {w0 : World} (_ : B ≤ w0.heap.size) : ObsR w A os := h
end Go.Proofs.Ytnilempeldlieaa
namespace Go.Proofs.Ytnilempeldlieaa
open Go.RowKit
/-- has v a value by the table; which -/
def vaB (t : List Int) (v : Int) : Bool := nB v || (atB v && decide (atV v < t.length) && nuB (t.getD (atV v).toNat 0))
def vaV (t : List Int) (v : Int) : Int := if nB v then v else if atB v && decide (atV v < t.length) then reV (t.getD (atV v).toNat 0) else 0
/-- an object whose values are those by the table -/
def moO (t : List Int) (o : Ob) : Ob := { o with cls := vaV t o.cls, slots := o.slots.map (vaV t) }
/-- of the first k objects those that have a number in the table -/
def kept (t : List Int) (k : Nat) : List Nat := (List.range k).filter fun i => decide (0 ≤ t.getD i (-1))
def obsK (h : Hp) (t : List Int) (k : Nat) : List Ob := (kept t k).map fun i => moO t (h.objs.getD i default)
/-- the number of i, if it is one of the first k of L -/
def newK (L : List Nat) (k i : Nat) : Int := if L.idxOf i < k then (L.idxOf i : Int) else -1
noncomputable def tabL (h : Hp) (rs : List Int) : List Int := if liE h rs = 0 then (List.range h.objs.length).map (newK (liveN h rs) (liveN h rs).length) else []
noncomputable def coH (h : Hp) (rs : List Int) : Hp := if liE h rs = 0 then ⟨obsK h (tabL h rs) h.objs.length, h.cap, h.last⟩ else zeroH
noncomputable def coL (h : Hp) (rs : List Int) : List Int := if liE h rs = 0 then rs.map (vaV (tabL h rs)) else []
theorem tabL_no {h : Hp} {rs : List Int} (e : liE h rs ≠ 0) : tabL h rs = [] := by unfold tabL; rw [if_neg e]
theorem coH_no {h : Hp} {rs : List Int} (e : liE h rs ≠ 0) : coH h rs = zeroH := by unfold coH; rw [if_neg e]
theorem coL_no {h : Hp} {rs : List Int} (e : liE h rs ≠ 0) : coL h rs = [] := by unfold coL; rw [if_neg e]
theorem tabL_yes {h : Hp} {rs : List Int} (e : liE h rs = 0) : tabL h rs = (List.range h.objs.length).map (newK (liveN h rs) (liveN h rs).length) := by unfold tabL; rw [if_pos e]
theorem coH_yes {h : Hp} {rs : List Int} (e : liE h rs = 0) : coH h rs = ⟨obsK h (tabL h rs) h.objs.length, h.cap, h.last⟩ := by unfold coH; rw [if_pos e]
theorem coL_yes {h : Hp} {rs : List Int} (e : liE h rs = 0) : coL h rs = rs.map (vaV (tabL h rs)) := by unfold coL; rw [if_pos e]
theorem tabL_len {h : Hp} {rs : List Int} (e : liE h rs = 0) : (tabL h rs).length = h.objs.length := by rw [tabL_yes e]; simp
theorem tabL_le (h : Hp) (rs : List Int) : (tabL h rs).length ≤ h.objs.length := by
  by_cases e : liE h rs = 0
  · exact Nat.le_of_eq (tabL_len e)
  · rw [tabL_no e]; exact Nat.zero_le _
theorem coL_le (h : Hp) (rs : List Int) : (coL h rs).length ≤ rs.length := by
  by_cases e : liE h rs = 0
  · rw [coL_yes e]; simp
  · rw [coL_no e]; exact Nat.zero_le _
theorem li_ok {h : Hp} {rs : List Int} (e : liE h rs = 0) : mayB h = true ∧ (∀ v ∈ rs, hasB h.objs.length v = true) ∧ liL h rs = liveL h rs := by
  refine ⟨?_, ?_, by unfold liL; rw [if_pos e]⟩
  · cases hm : mayB h
    · unfold liE at e; rw [hm] at e; simp at e
    · rfl
  · unfold liE at e
    split at e
    · split at e
      · rename_i h1; exact List.all_eq_true.1 h1
      · cases e
    · cases e
theorem idx_get {L : List Nat} (hn : L.Nodup) {k : Nat} (hk : k < L.length) : L.idxOf L[k] = k := hn.idxOf_getElem k hk
theorem sorted_nodup {L : List Nat} (h : L.Pairwise (· < ·)) : L.Nodup := h.imp fun hab e => by omega
theorem liveN_nodup (h : Hp) (rs : List Int) : (liveN h rs).Nodup := sorted_nodup (liveN_sorted h rs)
theorem liveN_lt {h : Hp} {rs : List Int} {i : Nat} (hi : i ∈ liveN h rs) : i < h.objs.length := (mem_liveN.1 hi).lt
theorem newK_in {L : List Nat} {i : Nat} (hi : i ∈ L) : newK L L.length i = (L.idxOf i : Int) := by
  unfold newK; rw [if_pos (List.idxOf_lt_length_iff.2 hi)]
theorem newK_out {L : List Nat} {i : Nat} (hi : i ∉ L) : newK L L.length i = -1 := by
  unfold newK; rw [if_neg fun h => hi (List.idxOf_lt_length_iff.1 h)]
theorem newK_zero (L : List Nat) (i : Nat) : newK L 0 i = -1 := by unfold newK; rw [if_neg (Nat.not_lt_zero _)]
/-- one more of those that are reached has its number written -/
theorem newK_step {L : List Nat} (hn : L.Nodup) {n k : Nat} (hk : k < L.length) : ((List.range n).map (newK L k)).set L[k] (k : Int) = (List.range n).map (newK L (k + 1)) := by
  apply List.ext_getElem?
  intro j
  rw [List.getElem?_set, List.getElem?_map, List.getElem?_map, List.length_map, List.length_range]
  by_cases hj : j < n
  · rw [List.getElem?_range hj]
    simp only [Option.map_some]
    by_cases e : L[k] = j
    · rw [if_pos e, if_pos (by omega)]
      have : L.idxOf j = k := by rw [← e]; exact idx_get hn hk
      unfold newK; rw [this, if_pos (Nat.lt_succ_self k)]
    · rw [if_neg e]
      unfold newK
      have : L.idxOf j ≠ k := fun g => e (by
        have hm : L.idxOf j < L.length := by omega
        have := List.getElem_idxOf hm
        simp only [g] at this
        exact this)
      by_cases g : L.idxOf j < k
      · rw [if_pos g, if_pos (by omega)]
      · rw [if_neg g, if_neg (by omega)]
  · have h1 : (List.range n)[j]? = none := List.getElem?_eq_none (by simp; omega)
    rw [h1]
    by_cases e : L[k] = j
    · rw [if_pos e, if_neg (by omega)]; rfl
    · rw [if_neg e]; rfl
/-- how many of a list are less -/
def plI (L : List Int) (x : Int) : Nat := (L.filter fun y => decide (y < x)).length
theorem plI_le (L : List Int) (x : Int) : plI L x ≤ L.length := List.length_filter_le _ _
theorem idx_sorted : ∀ (L : List Nat), L.Pairwise (· < ·) → ∀ i ∈ L, (L.filter fun y => decide (y < i)).length = L.idxOf i
  | [], _, i, hi => by simp at hi
  | a :: L, h, i, hi => by
    rw [List.pairwise_cons] at h
    by_cases e : a = i
    · subst e
      have : L.filter (fun y => decide (y < a)) = [] := List.filter_eq_nil_iff.2 fun y hy => by have := h.1 y hy; simp; omega
      rw [List.filter_cons_of_neg (by simp), this]
      simp
    · have hi' : i ∈ L := by rcases List.mem_cons.1 hi with g | g; exact absurd g.symm e; exact g
      have := h.1 i hi'
      rw [List.filter_cons_of_pos (by simpa using this), List.length_cons, idx_sorted L h.2 i hi', List.idxOf_cons]
      have : (a == i) = false := by simpa using e
      rw [this]; rfl
theorem plI_live {h : Hp} {rs : List Int} {i : Nat} (hi : i ∈ liveN h rs) : plI (liveL h rs) i = (liveN h rs).idxOf i := by
  rw [← idx_sorted _ (liveN_sorted h rs) i hi]
  unfold plI liveL
  rw [List.filter_map, List.length_map]
  congr 1
  refine List.filter_congr fun y _ => ?_
  show decide ((y : Int) < (i : Int)) = _
  simp
theorem mem_liveL_nat {h : Hp} {rs : List Int} {i : Nat} : ((i : Int) ∈ liveL h rs) ↔ i ∈ liveN h rs := by
  rw [mem_liveL, mem_liveN]
  constructor
  · rintro ⟨j, hj, r⟩; obtain rfl : i = j := by omega
    exact r
  · exact fun r => ⟨i, rfl, r⟩
theorem tab_at {h : Hp} {rs : List Int} (e : liE h rs = 0) {i : Nat} (hi : i < h.objs.length) (d : Int) : (tabL h rs).getD i d = newK (liveN h rs) (liveN h rs).length i := by
  rw [tabL_yes e, List.getD_eq_getElem?_getD, List.getElem?_map, List.getElem?_range hi]; rfl
theorem tab_in {h : Hp} {rs : List Int} (e : liE h rs = 0) {i : Nat} (hi : i ∈ liveN h rs) (d : Int) : (tabL h rs).getD i d = ((liveN h rs).idxOf i : Int) := by
  rw [tab_at e (liveN_lt hi), newK_in hi]
theorem tab_out {h : Hp} {rs : List Int} (e : liE h rs = 0) {i : Nat} (hn : i < h.objs.length) (hi : i ∉ liveN h rs) (d : Int) : (tabL h rs).getD i d = -1 := by
  rw [tab_at e hn, newK_out hi]
theorem kept_all {h : Hp} {rs : List Int} (e : liE h rs = 0) : kept (tabL h rs) h.objs.length = liveN h rs := by
  unfold kept liveN
  refine List.filter_congr fun i hi => ?_
  have hn := List.mem_range.1 hi
  by_cases hr : i ∈ liveN h rs
  · rw [tab_in e hr, decide_eq_true (by omega)]
    simpa using mem_liveN.1 hr
  · rw [tab_out e hn hr]
    have : ¬ Reach h rs i := fun r => hr (mem_liveN.2 r)
    simp [this]
theorem kept_succ (t : List Int) (k : Nat) : kept t (k + 1) = kept t k ++ if 0 ≤ t.getD k (-1) then [k] else [] := by
  unfold kept
  rw [List.range_succ, List.filter_append]
  congr 1
  by_cases g : 0 ≤ t.getD k (-1)
  · rw [if_pos g, List.filter_cons_of_pos (by simpa using g)]; rfl
  · rw [if_neg g, List.filter_cons_of_neg (by simpa using g)]; rfl
theorem obsK_in (h : Hp) (t : List Int) {k : Nat} (hk : k < h.objs.length) (g : 0 ≤ t.getD k (-1)) : obsK h t (k + 1) = obsK h t k ++ [moO t h.objs[k]] := by
  unfold obsK
  rw [kept_succ, if_pos g, List.map_append]
  simp [List.getD_eq_getElem?_getD, List.getElem?_eq_getElem hk]
theorem obsK_out (h : Hp) (t : List Int) {k : Nat} (g : ¬ 0 ≤ t.getD k (-1)) : obsK h t (k + 1) = obsK h t k := by
  unfold obsK
  rw [kept_succ, if_neg g, List.append_nil]
theorem obsK_le (h : Hp) (t : List Int) (k : Nat) : (obsK h t k).length ≤ k := by
  unfold obsK kept
  rw [List.length_map]
  have := List.length_filter_le (fun i => decide (0 ≤ t.getD i (-1))) (List.range k)
  rwa [List.length_range] at this
theorem coH_objs {h : Hp} {rs : List Int} (e : liE h rs = 0) : (coH h rs).objs = (liveN h rs).map fun i => moO (tabL h rs) (h.objs.getD i default) := by
  rw [coH_yes e]
  show obsK h (tabL h rs) h.objs.length = _
  unfold obsK
  rw [kept_all e]
theorem coH_len {h : Hp} {rs : List Int} (e : liE h rs = 0) : (coH h rs).objs.length = (liveN h rs).length := by rw [coH_objs e, List.length_map]
theorem coH_get {h : Hp} {rs : List Int} (e : liE h rs = 0) {k : Nat} (hk : k < (liveN h rs).length) : ∃ o, h.objs[(liveN h rs)[k]]? = some o ∧ (coH h rs).objs[k]? = some (moO (tabL h rs) o) := by
  have hi := liveN_lt (List.getElem_mem hk)
  refine ⟨_, List.getElem?_eq_getElem hi, ?_⟩
  rw [coH_objs e, List.getElem?_map, List.getElem?_eq_getElem hk]
  simp only [Option.map_some]
  rw [List.getD_eq_getElem?_getD, List.getElem?_eq_getElem hi]; rfl
/-- v is a value of the heap, and what it is the ref of is reached -/
def LiveV (h : Hp) (rs : List Int) (v : Int) : Prop := hasB h.objs.length v = true ∧ (refB h.objs.length v = true → (atV v).toNat ∈ liveN h rs)
theorem nat_ref {n : Nat} {v : Int} (hr : refB n v = true) : v = 2 * ((atV v).toNat : Int) := by
  obtain ⟨a, -, -⟩ := refB_no hr
  have := atB_iff.1 a
  have e := refB_nat hr
  have h2 : atV v = v / 2 := by unfold atV; rw [if_pos a]
  omega
theorem nB_no {n : Nat} {v : Int} (hr : refB n v = true) : nB v = false := by
  obtain ⟨a, -, -⟩ := refB_no hr
  cases hn : nB v
  · rfl
  · have := nB_iff.1 hn; have := atB_iff.1 a; omega
theorem has_not {n : Nat} {v : Int} (h : hasB n v = true) (hr : refB n v = false) : nB v = true := by
  unfold hasB at h; rwa [hr, Bool.or_false] at h
theorem va_small {t : List Int} {v : Int} (hn : nB v = true) : vaV t v = v ∧ vaB t v = true := by
  unfold vaV vaB; rw [hn]; simp
theorem va_ref {h : Hp} {rs : List Int} (e : liE h rs = 0) {v : Int} (hr : refB h.objs.length v = true) (hi : (atV v).toNat ∈ liveN h rs) :
    vaV (tabL h rs) v = 2 * ((liveN h rs).idxOf (atV v).toNat : Int) ∧ vaB (tabL h rs) v = true := by
  obtain ⟨a, b, c⟩ := refB_no hr
  have hm := (li_ok e).1
  have h256 := may_len hm
  have hx : (liveN h rs).idxOf (atV v).toNat < (liveN h rs).length := List.idxOf_lt_length_iff.2 hi
  have hle := liveN_le h rs
  have hnu : nuB ((liveN h rs).idxOf (atV v).toNat : Int) = true := nuB_iff.2 (by omega)
  have hlt : decide (atV v < (tabL h rs).length) = true := by rw [tabL_len e]; simpa using c
  unfold vaV vaB
  rw [nB_no hr, a, hlt, tab_in e hi, hnu]
  unfold reV
  rw [hnu]
  simp
theorem va_gone {h : Hp} {rs : List Int} (e : liE h rs = 0) {v : Int} (hr : refB h.objs.length v = true) (hi : (atV v).toNat ∉ liveN h rs) :
    vaV (tabL h rs) v = 0 ∧ vaB (tabL h rs) v = false := by
  obtain ⟨a, b, c⟩ := refB_no hr
  have hlt : decide (atV v < (tabL h rs).length) = true := by rw [tabL_len e]; simpa using c
  have hnu : nuB (-1) = false := by decide
  unfold vaV vaB
  rw [nB_no hr, a, hlt, tab_out e (refB_nat hr).1 hi, hnu]
  unfold reV
  rw [hnu]
  simp
theorem ref_two {n i : Nat} (hn : n ≤ 256) (hi : i < n) : refB n (2 * (i : Int)) = true ∧ atV (2 * (i : Int)) = i := ⟨ref_even hn hi, (at_even (by omega)).2⟩
theorem va_live {h : Hp} {rs : List Int} (e : liE h rs = 0) {v : Int} (hl : LiveV h rs v) :
    hasB (coH h rs).objs.length (vaV (tabL h rs) v) = true ∧ vaB (tabL h rs) v = true ∧ refB (coH h rs).objs.length (vaV (tabL h rs) v) = refB h.objs.length v := by
  have hm := (li_ok e).1
  have h256 := may_len hm
  have hle := liveN_le h rs
  cases hr : refB h.objs.length v
  · have hn := has_not hl.1 hr
    rw [(va_small hn).1]
    refine ⟨by unfold hasB; rw [hn]; rfl, (va_small hn).2, ?_⟩
    cases hc : refB (coH h rs).objs.length v
    · rfl
    · rw [nB_no hc] at hn; cases hn
  · have hi := hl.2 hr
    obtain ⟨e1, e2⟩ := va_ref e hr hi
    have hx : (liveN h rs).idxOf (atV v).toNat < (liveN h rs).length := List.idxOf_lt_length_iff.2 hi
    obtain ⟨r1, r2⟩ := ref_two (n := (coH h rs).objs.length) (by rw [coH_len e]; omega) (by rw [coH_len e]; exact hx)
    rw [e1, r1]
    exact ⟨by unfold hasB; rw [r1, Bool.or_true], e2, rfl⟩
theorem live_root {h : Hp} {rs : List Int} (e : liE h rs = 0) {v : Int} (hv : v ∈ rs) : LiveV h rs v :=
  ⟨(li_ok e).2.1 v hv, fun hr => mem_liveN.2 (.root v hv hr)⟩
theorem live_step {h : Hp} {rs : List Int} (e : liE h rs = 0) {i : Nat} (hi : i ∈ liveN h rs) {o : Ob} (ho : h.objs[i]? = some o) {v : Int} (hv : v ∈ o.cls :: o.slots) : LiveV h rs v := by
  obtain ⟨h1, h2⟩ := ob_vals (may_all (li_ok e).1 _ (List.mem_of_getElem? ho))
  refine ⟨?_, fun hr => mem_liveN.2 (.step i o v (mem_liveN.1 hi) ho hv hr)⟩
  rcases List.mem_cons.1 hv with g | g
  · rw [g]; exact ref_has h1
  · exact h2 v g
theorem kiB_mo (t : List Int) (o : Ob) : kiB (moO t o) = kiB o := by
  obtain ⟨cl, ki, sl, te, bi, ha⟩ := o
  cases sl with
  | nil => rfl
  | cons a l =>
    unfold kiB
    simp only [moO, List.map_cons, List.length_cons, List.length_map]
    rfl
theorem mo_ob {h : Hp} {rs : List Int} (e : liE h rs = 0) {i : Nat} (hi : i ∈ liveN h rs) {o : Ob} (ho : h.objs[i]? = some o) : obB (coH h rs).objs.length (moO (tabL h rs) o) = true := by
  have hob := may_all (li_ok e).1 _ (List.mem_of_getElem? ho)
  obtain ⟨h1, h2⟩ := ob_vals hob
  unfold obB at hob ⊢
  simp only [Bool.and_eq_true] at hob ⊢
  obtain ⟨⟨⟨-, hh⟩, hk⟩, -⟩ := hob
  refine ⟨⟨⟨?_, hh⟩, ?_⟩, ?_⟩
  · have := (va_live e (live_step e hi ho (v := o.cls) (by simp))).2.2
    rw [h1] at this
    exact this
  · rw [kiB_mo]; exact hk
  · refine List.all_eq_true.2 fun y hy => ?_
    obtain ⟨v, hv, rfl⟩ := List.mem_map.1 hy
    exact (va_live e (live_step e hi ho (List.mem_cons_of_mem _ hv))).1
theorem co_may {h : Hp} {rs : List Int} (e : liE h rs = 0) : mayB (coH h rs) = true := by
  have hm := (li_ok e).1
  have hle := liveN_le h rs
  have hl := coH_len e
  have hall : ∀ o ∈ (coH h rs).objs, obB (coH h rs).objs.length o = true := fun o ho => by
    obtain ⟨k, hk, rfl⟩ := List.getElem_of_mem ho
    obtain ⟨o, h1, h2⟩ := coH_get e (k := k) (by omega)
    rw [List.getElem?_eq_getElem hk] at h2
    rw [Option.some.inj h2]
    exact mo_ob e (List.getElem_mem (by omega)) h1
  have hc : (coH h rs).cap = h.cap ∧ (coH h rs).last = h.last := by rw [coH_yes e]; exact ⟨rfl, rfl⟩
  unfold mayB at hm ⊢
  rw [hc.1, hc.2]
  simp only [Bool.and_eq_true, decide_eq_true_eq] at hm ⊢
  exact ⟨⟨⟨hm.1.1.1, hm.1.1.2.1, by omega⟩, hm.1.2⟩, List.all_eq_true.2 hall⟩
theorem co_liE {h : Hp} {rs : List Int} (e : liE h rs = 0) : liE (coH h rs) (coL h rs) = 0 := by
  unfold liE
  rw [if_pos (co_may e), if_pos]
  refine List.all_eq_true.2 fun y hy => ?_
  rw [coL_yes e] at hy
  obtain ⟨v, hv, rfl⟩ := List.mem_map.1 hy
  exact (va_live e (live_root e hv)).1
/-- what was reached is reached at its new number -/
theorem co_reach {h : Hp} {rs : List Int} (e : liE h rs = 0) {i : Nat} (r : Reach h rs i) : Reach (coH h rs) (coL h rs) ((liveN h rs).idxOf i) := by
  have hm := (li_ok e).1
  have h256 := may_len hm
  have hle := liveN_le h rs
  have hl := coH_len e
  have key : ∀ v, refB h.objs.length v = true → (atV v).toNat ∈ liveN h rs → refB (coH h rs).objs.length (vaV (tabL h rs) v) = true ∧ (atV (vaV (tabL h rs) v)).toNat = (liveN h rs).idxOf (atV v).toNat := fun v hr hi => by
    have hx : (liveN h rs).idxOf (atV v).toNat < (liveN h rs).length := List.idxOf_lt_length_iff.2 hi
    obtain ⟨r1, r2⟩ := ref_two (n := (coH h rs).objs.length) (by omega) (by rw [hl]; exact hx)
    rw [(va_ref e hr hi).1]
    exact ⟨r1, by rw [r2]; rfl⟩
  have hs : i ∈ liveN h rs ∧ Reach (coH h rs) (coL h rs) ((liveN h rs).idxOf i) := by
    refine r.least (fun i => i ∈ liveN h rs ∧ Reach (coH h rs) (coL h rs) ((liveN h rs).idxOf i)) (fun v hv hr => ?_) (fun i o v hi ho hv hr => ?_)
    · have hi : (atV v).toNat ∈ liveN h rs := mem_liveN.2 (.root v hv hr)
      obtain ⟨k1, k2⟩ := key v hr hi
      refine ⟨hi, ?_⟩
      rw [← k2]
      exact .root _ (by rw [coL_yes e]; exact List.mem_map.2 ⟨v, hv, rfl⟩) k1
    · have hi' : (atV v).toNat ∈ liveN h rs := mem_liveN.2 (.step i o v (mem_liveN.1 hi.1) ho hv hr)
      obtain ⟨k1, k2⟩ := key v hr hi'
      have hx : (liveN h rs).idxOf i < (liveN h rs).length := List.idxOf_lt_length_iff.2 hi.1
      obtain ⟨o', ho', hc⟩ := coH_get e hx
      rw [List.getElem_idxOf hx, ho] at ho'
      obtain rfl : o = o' := Option.some.inj ho'
      refine ⟨hi', ?_⟩
      rw [← k2]
      refine .step _ (moO (tabL h rs) o) _ hi.2 hc ?_ k1
      rcases List.mem_cons.1 hv with g | g
      · rw [g]; exact List.mem_cons_self ..
      · exact List.mem_cons_of_mem _ (List.mem_map.2 ⟨v, g, rfl⟩)
  exact hs.2
theorem co_liveN {h : Hp} {rs : List Int} (e : liE h rs = 0) : liveN (coH h rs) (coL h rs) = List.range (coH h rs).objs.length := by
  unfold liveN
  refine List.filter_eq_self.2 fun k hk => ?_
  have hk' := List.mem_range.1 hk
  rw [coH_len e] at hk'
  have := co_reach e (mem_liveN.1 (List.getElem_mem hk'))
  rw [idx_get (liveN_nodup h rs) hk'] at this
  simpa using this
theorem co_live {h : Hp} {rs : List Int} (e : liE h rs = 0) : (liL (coH h rs) (coL h rs)).length = (coH h rs).objs.length := by
  rw [(li_ok (co_liE e)).2.2, liveL_length, co_liveN e, List.length_range]
theorem va_again {h : Hp} {rs : List Int} (e : liE h rs = 0) (hl : liveN h rs = List.range h.objs.length) {v : Int} (hv : hasB h.objs.length v = true) : vaV (tabL h rs) v = v := by
  cases hr : refB h.objs.length v
  · exact (va_small (has_not hv hr)).1
  · have hlt := (refB_nat hr).1
    have hi : (atV v).toNat ∈ liveN h rs := by rw [hl]; exact List.mem_range.2 hlt
    rw [(va_ref e hr hi).1, hl]
    have : (List.range h.objs.length).idxOf (atV v).toNat = (atV v).toNat := by
      have := idx_get (L := List.range h.objs.length) List.nodup_range (k := (atV v).toNat) (by simpa using hlt)
      rwa [List.getElem_range] at this
    rw [this]
    exact (nat_ref hr).symm
theorem mo_again {h : Hp} {rs : List Int} (e : liE h rs = 0) (hl : liveN h rs = List.range h.objs.length) {o : Ob} (ho : o ∈ h.objs) : moO (tabL h rs) o = o := by
  obtain ⟨h1, h2⟩ := ob_vals (may_all (li_ok e).1 _ ho)
  unfold moO
  rw [va_again e hl (ref_has h1)]
  have : o.slots.map (vaV (tabL h rs)) = o.slots := by
    conv => rhs; rw [← List.map_id o.slots]
    exact List.map_congr_left fun v hv => va_again e hl (h2 v hv)
  rw [this]
theorem all_again {h : Hp} {rs : List Int} (e : liE h rs = 0) (hl : liveN h rs = List.range h.objs.length) : coH h rs = h ∧ coL h rs = rs := by
  have h1 : (coH h rs).objs = h.objs := by
    rw [coH_objs e, hl]
    apply List.ext_getElem?
    intro j
    rw [List.getElem?_map]
    by_cases hj : j < h.objs.length
    · rw [List.getElem?_range hj, List.getElem?_eq_getElem hj]
      simp only [Option.map_some]
      rw [List.getD_eq_getElem?_getD, List.getElem?_eq_getElem hj]
      show some (moO _ h.objs[j]) = _
      rw [mo_again e hl (List.getElem_mem hj)]
    · rw [List.getElem?_eq_none (by simp; omega), List.getElem?_eq_none (by omega)]; rfl
  constructor
  · have h2 := coH_yes e
    cases hc : coH h rs with
    | mk os cp la =>
      rw [hc] at h1 h2
      injection h2 with _ h3 h4
      simp only at h1
      rw [h1, h3, h4]
  · rw [coL_yes e]
    conv => rhs; rw [← List.map_id rs]
    exact List.map_congr_left fun v hv => va_again e hl ((li_ok e).2.1 v hv)
/-- compacted again it is as it is -/
theorem co_again {h : Hp} {rs : List Int} (e : liE h rs = 0) : coH (coH h rs) (coL h rs) = coH h rs ∧ coL (coH h rs) (coL h rs) = coL h rs :=
  all_again (co_liE e) (co_liveN e)
/-- unlike values of what is reached have unlike values -/
theorem va_inj {h : Hp} {rs : List Int} (e : liE h rs = 0) {u v : Int} (hu : LiveV h rs u) (hv : LiveV h rs v) : vaV (tabL h rs) u = vaV (tabL h rs) v ↔ u = v := by
  refine ⟨fun g => ?_, fun g => by rw [g]⟩
  cases ru : refB h.objs.length u <;> cases rv : refB h.objs.length v
  · rwa [(va_small (has_not hu.1 ru)).1, (va_small (has_not hv.1 rv)).1] at g
  · have h1 := has_not hu.1 ru
    rw [(va_small h1).1, (va_ref e rv (hv.2 rv)).1] at g
    have := nB_iff.1 h1
    omega
  · have h1 := has_not hv.1 rv
    rw [(va_small h1).1, (va_ref e ru (hu.2 ru)).1] at g
    have := nB_iff.1 h1
    omega
  · rw [(va_ref e ru (hu.2 ru)).1, (va_ref e rv (hv.2 rv)).1] at g
    have h1 : (liveN h rs).idxOf (atV u).toNat = (liveN h rs).idxOf (atV v).toNat := by omega
    have h2 := List.getElem_idxOf (List.idxOf_lt_length_iff.2 (hu.2 ru))
    have h3 := List.getElem_idxOf (List.idxOf_lt_length_iff.2 (hv.2 rv))
    simp only [h1] at h2
    have h4 : (atV u).toNat = (atV v).toNat := h2.symm.trans h3
    rw [nat_ref ru, nat_ref rv, h4]
end Go.Proofs.Ytnilempeldlieaa
