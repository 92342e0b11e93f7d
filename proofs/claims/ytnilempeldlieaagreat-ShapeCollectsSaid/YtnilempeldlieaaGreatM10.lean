/- What canon's numbering is in memory: a struct of a map and a list; and what turns while it grows. (*numbering).value walked: the number of what a value is the ref of, given if it has none. (*numbering).values walked: what stands for each of a list. -/
import Derived.Test.YtnilempeldlieaaGreatM07
import Derived.Test.YtnilempeldlieaaGreatM05
import Derived.Test.YtnilempeldlieaaGreatM09
import Derived.Maps.OwnSet
import Derived.Maps.AppendAt
namespace Go.Proofs.YtnilempeldlieaaGreat
open Go.RowKit
open Go.Maps (IsMap has_put_same has_put_other atKey_put_same atKey_put_other)
/-- the map from the old numbers to the places in the list -/
def MapIs (D : DataW Unit) (M : List Nat) : Prop := ∀ i : Nat, Maps.has D (.int .i64 i) = decide (i ∈ M) ∧ (i ∈ M → D.atKey (.int .i64 i) (.lit (.int .i64 0)) = .lit (.int .i64 (M.idxOf i)))
theorem mapIs_nil : MapIs (.map []) [] := fun i => ⟨by simp [Maps.has_eq], fun h => by simp at h⟩
theorem mapIs_put {D : DataW Unit} {M : List Nat} (h : MapIs D M) (hD : IsMap D) {i : Nat} (hi : i ∉ M) : MapIs (D.put (.int .i64 i) (.lit (.int .i64 M.length))) (M ++ [i]) := fun j => by
  by_cases e : j = i
  · subst e
    refine ⟨by rw [has_put_same (k := .int .i64 (j : Int)) hD trivial]; simp, fun _ => ?_⟩
    rw [atKey_put_same (k := .int .i64 (j : Int)) hD trivial, List.idxOf_append, if_neg hi, List.idxOf_cons_self]
    simp
  · have hne : (Lit.int .i64 (j : Int)) ≠ .int .i64 (i : Int) := fun g => by
      injection g with _ g; omega
    refine ⟨by rw [has_put_other hne, (h j).1]; simp [e], fun hm => ?_⟩
    have hm' : j ∈ M := by simpa [e] using hm
    rw [atKey_put_other hne, (h j).2 hm', List.idxOf_append, if_pos hm']
/-- a numbering that has met M -/
structure NumS (w : World) (nb mb : Nat) (A : Option Addr) (c : Nat) (M : List Nat) : Prop where
  box : Lies w nb 113 #[.map (some mb), .slice A M.length c]
  map : ∃ D : DataW Unit, w.ownsMap Tryz.prog 3 (plainElem Tryz.prog 3) mb M.length D ∧ MapIs D M
  row : w.ownsRow 0 3 1 (.slice A M.length c) M.length ((iL M).map (Value.int .i64))
/-- between the two worlds nothing turned but a numbering -/
structure Turns (w w' : World) (nb mb : Nat) (A A' : Option Addr) : Prop where
  os : w'.os = w.os
  tape : w'.tape = w.tape
  output : w'.output = w.output
  size : w.heap.size ≤ w'.heap.size
  block : ∀ k, k < w.heap.size → k ≠ nb → k ≠ mb → (∀ a, A = some a → k ≠ a.block) → w'.heap[k]? = w.heap[k]?
  new : (∀ a', A' = some a' → (∃ a, A = some a ∧ a'.block = a.block) ∨ w.heap.size ≤ a'.block)
section
variable {w w' u : World} {nb mb : Nat} {A A' B : Option Addr}
theorem Turns.refl (w : World) (nb mb : Nat) (A : Option Addr) : Turns w w nb mb A A := ⟨rfl, rfl, rfl, Nat.le_refl _, fun _ _ _ _ _ => rfl, fun a h => .inl ⟨a, h, rfl⟩⟩
theorem Turns.trans (h : Turns w w' nb mb A A') (g : Turns w' u nb mb A' B) : Turns w u nb mb A B := by
  refine ⟨g.os.trans h.os, g.tape.trans h.tape, g.output.trans h.output, Nat.le_trans h.size g.size, fun k hk h1 h2 h3 => ?_, fun a ha => ?_⟩
  · refine (g.block k (Nat.lt_of_lt_of_le hk h.size) h1 h2 fun a' ha' => ?_).trans (h.block k hk h1 h2 h3)
    rcases h.new a' ha' with ⟨a, ha, e⟩ | e
    · rw [e]; exact h3 a ha
    · omega
  · rcases g.new a ha with ⟨a', ha', e⟩ | e
    · rcases h.new a' ha' with ⟨a0, h0, e0⟩ | e0
      · exact .inl ⟨a0, h0, e.trans e0⟩
      · exact .inr (by omega)
    · exact .inr (Nat.le_trans h.size e)
theorem Turns.of_below (h : Below w.heap.size w w') (nb mb : Nat) (A : Option Addr) : Turns w w' nb mb A A := ⟨h.os, h.tape, h.output, h.size, fun k hk _ _ _ => h.block k hk, fun a h => .inl ⟨a, h, rfl⟩⟩
theorem Turns.below (h : Turns w w' nb mb A A') {b : Nat} (hb : b ≤ w.heap.size) (h1 : b ≤ nb) (h2 : b ≤ mb) (h3 : ∀ a, A = some a → b ≤ a.block) : Below b w w' :=
  ⟨h.os, h.tape, h.output, h.size, fun k hk => h.block k (by omega) (by omega) (by omega) fun a ha => by have := h3 a ha; omega⟩
theorem Turns.lies {g : Nat} {t : TypeId} {cs : Array Value} (h : Turns w w' nb mb A A') (l : Lies w g t cs) (h1 : g ≠ nb) (h2 : g ≠ mb) (h3 : ∀ a, A = some a → g ≠ a.block) : Lies w' g t cs := (h.block g l.lt h1 h2 h3).trans l
theorem map_lies {b n g : Nat} {t : TypeId} {cs : Array Value} {D : DataW Unit} (h : w.ownsMap Tryz.prog 3 (plainElem Tryz.prog 3) b n D) (l : Lies w g t cs) : g ≠ b := fun e => by
  subst e
  obtain ⟨es, clock, hb, -⟩ := h
  have : some (Obj.map es clock) = some (Obj.cells cs t (0, 0)) := hb.symm.trans l
  cases this
theorem Turns.row {base : Nat} {e : TypeId} {size n : Nat} {v : Value} {xs : List Value} (h : Turns w w' nb mb A A') (r : w.ownsRow base e size v n xs) (h1 : v.ownBlock ≠ some nb) (h2 : v.ownBlock ≠ some mb) (h3 : ∀ a, A = some a → v.ownBlock ≠ some a.block) : w'.ownsRow base e size v n xs := by
  refine ⟨r.1, ?_⟩
  rcases r.2 with hn | ⟨g, cap, cur, rfl, hb, hgg, rest⟩
  · exact .inl hn
  · refine .inr ⟨g, cap, cur, rfl, hb, ?_, rest⟩
    rw [h.block g (Array.getElem?_eq_some_iff.1 hgg).1 (fun e => h1 (by rw [← e]; rfl)) (fun e => h2 (by rw [← e]; rfl)) (fun a ha e => h3 a ha (by rw [← e]; rfl))]
    exact hgg
end
section
variable {w w' : World} {nb mb : Nat} {A : Option Addr} {c : Nat} {M : List Nat}
theorem NumS.later (s : NumS w nb mb A c M) (hb : Below w.heap.size w w') : NumS w' nb mb A c M :=
  ⟨s.box.later hb, by
    obtain ⟨D, h, hm⟩ := s.map
    exact ⟨D, h.kept (row := none) ⟨hb.os, hb.tape, hb.output, hb.size, fun k hk _ => hb.block k hk⟩ (by simp), hm⟩, own_later s.row hb⟩
theorem NumS.ne (s : NumS w nb mb A c M) : nb ≠ mb := by
  obtain ⟨D, h, -⟩ := s.map
  exact map_lies h s.box
theorem NumS.rowBlock (s : NumS w nb mb A c M) {a : Addr} (ha : A = some a) : ∃ cur, Lies w a.block 3 cur := by
  have h := s.row
  rw [ha] at h
  obtain ⟨cur, hl, -⟩ := own_blk (b := a.block) (o := a.off) (s := a.spot) h
  exact ⟨cur, hl⟩
theorem NumS.ne_row (s : NumS w nb mb A c M) {a : Addr} (ha : A = some a) : a.block ≠ nb ∧ a.block ≠ mb := by
  obtain ⟨cur, hl⟩ := s.rowBlock ha
  refine ⟨fun e => ?_, ?_⟩
  · rw [e] at hl
    have : some (Obj.cells cur 3 (0, 0)) = some (Obj.cells _ _ (0, 0)) := hl.symm.trans s.box
    have h2 : (3 : TypeId) = 113 := by
      injection this with this
      injection this
    exact absurd h2 (by decide)
  · obtain ⟨D, h, -⟩ := s.map
    exact map_lies h hl
/-- a row of another block, of whatever type, is none of the numbering's, but it lies in the list's block -/
theorem NumS.apart (s : NumS w nb mb A c M) {base : Nat} {e : TypeId} {size n : Nat} {v : Value} {xs : List Value} (r : w.ownsRow base e size v n xs) (he : e ≠ 113) : v.ownBlock ≠ some nb ∧ v.ownBlock ≠ some mb := by
  refine ⟨own_blk_ne r s.box he, fun h => ?_⟩
  obtain ⟨D, hD, -⟩ := s.map
  rcases r.2 with ⟨e0, _⟩ | ⟨b, cap, cur, e0, _, hh, _⟩
  · rw [e0] at h; cases h
  · rw [e0] at h
    obtain rfl : b = mb := by simpa [Value.ownBlock] using h
    exact map_lies hD (show Lies w b e cur from hh) rfl
end
/-- more numbers, and those that were given stay -/
theorem cnV_pre {h : Hp} {M : List Nat} {v : Int} (m : MetV h M v) (t : List Nat) : cnV h (M ++ t) v = cnV h M v := by
  unfold cnV
  by_cases hr : refB h.objs.length v = true
  · rw [if_pos hr, if_pos hr, List.idxOf_append, if_pos (m hr)]
  · rw [if_neg hr, if_neg hr]
theorem cnO_pre {h : Hp} {M : List Nat} {o : Ob} (m : ∀ v ∈ o.cls :: o.slots, MetV h M v) (t : List Nat) : cnO h (M ++ t) o = cnO h M o := by
  unfold cnO
  rw [cnV_pre (m _ (by simp)), List.map_congr_left fun v hv => cnV_pre (m v (List.mem_cons_of_mem _ hv)) t]
/-- values turned so far -/
def toK (h : Hp) (M : List Nat) (vs : List Int) (k : Nat) : List Int := (vs.take k).map (cnV h (meets h M (vs.take k)))
theorem toK_len {h : Hp} {M : List Nat} {vs : List Int} {k : Nat} (hk : k ≤ vs.length) : (toK h M vs k).length = k := by unfold toK; rw [List.length_map, List.length_take]; omega
theorem toK_all (h : Hp) (M : List Nat) (vs : List Int) : toK h M vs vs.length = vs.map (cnV h (meets h M vs)) := by unfold toK; rw [List.take_length]
theorem toK_succ {h : Hp} {M : List Nat} {vs : List Int} {k : Nat} (hk : k < vs.length) : toK h M vs (k + 1) = toK h M vs k ++ [cnV h (meetL h (meets h M (vs.take k)) vs[k]) vs[k]] := by
  unfold toK
  rw [meets_take hk, List.take_succ_eq_append_getElem hk, List.map_append]
  congr 1
  obtain ⟨t, ht⟩ := meetL_pre h (meets h M (vs.take k)) vs[k]
  rw [ht]
  exact List.map_congr_left fun v hv => cnV_pre (meets_all _ v hv) t
end Go.Proofs.YtnilempeldlieaaGreat
namespace Go.Proofs.YtnilempeldlieaaGreat
open Go.RowKit
set_option maxRecDepth 100000
theorem wpList_append_one_at {w : World} {ops : Array Oper} {rest : List Oper} {o : Oper} {a : Act} {Q : Exit → Act → World → Prop} (hgd : o.guard = none) (s x : Operand)
    (ho : o.op = .call { callee := .builtin .append, args := #[s, x], argTypes := #[34, 34] }) (base : Nat)
    (v : Value) (n : Nat) (xs : List Int) (hs : a.eval s = v) (hown : w.ownsRow base 3 1 v n (xs.map (Value.int .i64))) (y : Int) (g : Nat) (hx : a.eval x = .slice (some ⟨g, 0, none⟩) 1 1) (hg : Lies w g 3 #[.int .i64 y])
    (hn : n ≤ 1000000) (hbase : base ≤ w.heap.size)
    (h : ∀ v' w', w'.ownsRow base 3 1 v' (n + 1) ((xs ++ [y]).map (Value.int .i64)) → w.grownBy w' v.ownBlock → (v'.ownBlock = v.ownBlock ∨ v'.ownBlock = some w.heap.size) → wpList Tryz.prog ops Q rest (a.put o.dst v') w') : wpList Tryz.prog ops Q (o :: rest) a w := by
  obtain ⟨i0, hi0, hz0, hz1, hz2⟩ := info_parts int_info
  refine wpList_append_own_at _ hgd s x 34 ho base 3 i0 (.int .i64 0) 1 8 Tryz.underlying34 hi0 hz0 hz1 hz2 rfl (by decide) _ _ _ hs hown ⟨g, 0, none⟩ 1 1 [.int .i64 y] hx rfl ?_ ?_ (by unfold maxLen; omega) (by omega) hbase ?_
  · intro j u hu
    have := hg.cell j
    rw [Addr.add_lit, Nat.zero_add, this]
    simpa using hu
  · intro u hu
    obtain rfl : u = .int .i64 y := by simpa using hu
    rfl
  · intro v' w' h1 h2 _ h3
    exact h v' w' (by simpa using h1) h2 h3
theorem law3 : Maps.Keyed Tryz.prog 3 := Maps.int_keyed Tryz.underlying3
theorem zero3 (w : World) : (zeroValue 3).run Tryz.prog w = .ok (.int .i64 0) w := by kernel_rfl
/-- a value that is a SmallInteger stays -/
theorem number_small (v : Int) (nb : Nat) (w : World) (ha : atB v = false) :
    Calls Tryz.prog 171 #[.pointer (some ⟨nb, 0, none⟩), .int .i64 v] w fun e w' => e = .returned (.int .i64 v) ∧ w = w' := by
  go_enter Tryz.func171, Tryz.ntmps171
  go_wp2_with (first | (go_at_call 110; refine (at_any _ _).mono ?_; rintro e w' ⟨rfl, rfl⟩))
  go_ret
  exact ⟨rfl, rfl⟩
theorem number_met (i : Nat) (M : List Nat) (v : Int) (nb mb : Nat) (A : Option Addr) (c : Nat) (w : World) (s : NumS w nb mb A c M) (ha : atB v = true) (hi : atV v = i) (hi2 : i ≤ 256) (hM : M.length ≤ 256) (hm : i ∈ M) :
    Calls Tryz.prog 171 #[.pointer (some ⟨nb, 0, none⟩), .int .i64 v] w fun e w' => e = .returned (.int .i64 (2 * (M.idxOf i : Int))) ∧ w = w' := by
  obtain ⟨D, hD, hI⟩ := s.map
  have HD := hid hD
  have hat0 := (hI i).2 hm
  have hhas := (hI i).1
  rw [decide_eq_true hm] at hhas
  have hlt : M.idxOf i < M.length := List.idxOf_lt_length_iff.2 hm
  have c0 := s.box.cell 0
  simp only [List.getElem?_toArray, List.getElem?_cons_zero] at c0
  obtain ⟨x, hx⟩ : ∃ x : Int, x = (M.idxOf i : Int) := ⟨_, rfl⟩
  rw [← hx] at hat0 ⊢
  have hr1 : reV x = 2 * x := by unfold reV; rw [if_pos (nuB_iff.2 (by omega))]
  have HX : Hid (0 ≤ x ∧ x < 256) := by show _ ∧ _; omega
  have HAT := hid hat0
  have HH := hid hhas
  have HR := hid hr1
  have hkey : keyOf Tryz.prog 3 (.int .i64 (i : Int)) = some (.int .i64 (i : Int)) := Maps.keyOf_int_mk Tryz.underlying3 (WalkArith.wf_i64 (by omega))
  clear hD hI hm hat0 hhas hr1 hx hlt
  go_enter Tryz.func171, Tryz.ntmps171
  go_wp2_with fail
  refine (at_any _ _).mono ?_
  rintro e w' ⟨rfl, rfl⟩
  rw [hi, ha]
  go_wp2_with (first
    | (at_lookup; refine wpList_lookup_own_ok_int _ rfl _ _ 111 rfl 3 3 .i64 law3 Tryz.underlying111 Tryz.underlying3 (zero3 _) mb M.length D rfl HD.out _ _ rfl hkey ?_; intro x2 hat hwc; rw [HH.out]; obtain rfl : x = x2 := (by have := HAT.out.symm.trans hat; simpa using this))
    | fail)
  refine (ref_any _ _).mono ?_
  rintro e w' ⟨rfl, rfl⟩
  rw [HR.out]
  go_wp2_with fail
  go_ret
  exact ⟨rfl, rfl⟩
theorem turned_turns {w w1 : World} {nb mb : Nat} (h : w.mapTurned w1 mb) (A : Option Addr) : Turns w w1 nb mb A A := by
  have g := h.grown
  exact ⟨g.os, g.tape, g.output, g.size, fun k hk _ h2 _ => g.block k hk (by simpa using h2), fun a h => .inl ⟨a, h, rfl⟩⟩
theorem row_ne {A : Option Addr} {nb mb n c : Nat} (h : ∀ a, A = some a → a.block ≠ nb ∧ a.block ≠ mb) : some nb ≠ (Value.slice A n c).ownBlock := fun e => by
  cases A with
  | none => simp [Value.ownBlock] at e
  | some a => exact (h a rfl).1 (by simpa [Value.ownBlock] using e.symm)
theorem row_map {w w1 : World} {nb mb : Nat} {A : Option Addr} {n c : Nat} {xs cs : _} {t : TypeId} (h : w.mapTurned w1 mb) (hn : ∀ a, A = some a → a.block ≠ nb ∧ a.block ≠ mb) (_ : nb ≠ mb) (_ : Lies w nb t cs)
    (r : w.ownsRow 0 3 1 (.slice A n c) n xs) : w1.ownsRow 0 3 1 (.slice A n c) n xs :=
  r.kept h.grown (by
    cases A with
    | none => exact .inl rfl
    | some a => exact .inr fun e => (hn a rfl).2 (by simpa [Value.ownBlock] using e))
theorem grown_set (w : World) (p : Addr) (u : Value) : w.grownBy (w.setCell p u) (some p.block) :=
  ⟨rfl, rfl, rfl, by simp, fun k _ hk => Below.heap_setCell w p u k (fun e => hk (by rw [e]))⟩
theorem turns_grown {w w' : World} {nb mb n m c d : Nat} {A A4 : Option Addr} (h : w.grownBy w' (Value.slice A n c).ownBlock) (h3 : (Value.slice A4 m d).ownBlock = (Value.slice A n c).ownBlock ∨ (Value.slice A4 m d).ownBlock = some w.heap.size) : Turns w w' nb mb A A4 := by
  refine ⟨h.os, h.tape, h.output, h.size, fun k hk _ _ hA => h.block k hk fun e => ?_, fun a ha => ?_⟩
  · cases A with
    | none => simp [Value.ownBlock] at e
    | some a => exact hA a rfl (by simpa [Value.ownBlock] using e)
  · subst ha
    rcases h3 with e | e
    · cases A with
      | none => simp [Value.ownBlock] at e
      | some b => exact .inl ⟨b, rfl, by simpa [Value.ownBlock] using e⟩
    · exact .inr (Nat.le_of_eq (by simpa [Value.ownBlock] using e.symm))
theorem turns_set (w : World) (nb mb o : Nat) (A : Option Addr) (u : Value) : Turns w (w.setCell ⟨nb, o, none⟩ u) nb mb A A :=
  ⟨rfl, rfl, rfl, by simp, fun k _ h1 _ _ => Below.heap_setCell w _ u k h1, fun a h => .inl ⟨a, h, rfl⟩⟩
theorem num_end {w w1 w' : World} {nb mb c c4 i : Nat} {A A4 : Option Addr} {M : List Nat} {D : DataW Unit} (ht : w.mapTurned w1 mb) (ho : w1.ownsMap Tryz.prog 3 (plainElem Tryz.prog 3) mb (M.length + 1) D) (hm : MapIs D (M ++ [i])) (hne : nb ≠ mb) (hnr : ∀ a, A = some a → a.block ≠ nb ∧ a.block ≠ mb)
    (hb : Lies w' nb 113 #[.map (some mb), .slice A M.length c]) (h1 : w'.ownsRow 0 3 1 (.slice A4 (M.length + 1) c4) (M.length + 1) ((iL M).map (Value.int .i64) ++ [.int .i64 (i : Int)]))
    (h2 : (w1.alloc (.cells #[.int .i64 (i : Int)] 3)).grownBy w' (Value.slice A M.length c).ownBlock) (h3 : (Value.slice A4 (M.length + 1) c4).ownBlock = (Value.slice A M.length c).ownBlock ∨ (Value.slice A4 (M.length + 1) c4).ownBlock = some (w1.heap.size + 1)) :
    NumS (w'.setCell ⟨nb, 1, none⟩ (.slice A4 (M.length + 1) c4)) nb mb A4 c4 (M ++ [i]) ∧ Turns w (w'.setCell ⟨nb, 1, none⟩ (.slice A4 (M.length + 1) c4)) nb mb A A4 := by
  have hl : (M ++ [i]).length = M.length + 1 := by simp
  have hiL : (iL (M ++ [i])).map (Value.int .i64) = (iL M).map (Value.int .i64) ++ [.int .i64 (i : Int)] := by unfold iL; simp
  refine ⟨⟨?_, ⟨D, ?_, hm⟩, ?_⟩, ?_⟩
  · rw [hl]
    have := hb.set_ 1 (.slice A4 (M.length + 1) c4)
    simpa using this
  · rw [hl]
    refine ((ho.alloc _).kept h2 fun e => ?_).setCell (a := ⟨nb, 1, none⟩) (fun e => hne e.symm) _
    cases A with
    | none => simp [Value.ownBlock] at e
    | some a => exact (hnr a rfl).2 (by simpa [Value.ownBlock] using e.symm)
  · rw [hl, hiL]
    exact h1.kept (grown_set w' ⟨nb, 1, none⟩ _) (.inr (own_blk_ne h1 hb (by decide)))
  · refine (turned_turns ht A).trans ((Turns.of_below (below_alloc w1 _) nb mb A).trans ((turns_grown (m := M.length + 1) (d := c4) h2 ?_).trans (turns_set w' nb mb 1 A4 _)))
    simpa using h3
set_option maxHeartbeats 1500000 in
theorem number_new (i : Nat) (M : List Nat) (v : Int) (nb mb : Nat) (A : Option Addr) (c : Nat) (w : World) (s : NumS w nb mb A c M) (ha : atB v = true) (hi : atV v = i) (hi2 : i ≤ 256) (hM : M.length ≤ 256) (hm : i ∉ M) :
    Calls Tryz.prog 171 #[.pointer (some ⟨nb, 0, none⟩), .int .i64 v] w fun e w' => ∃ A' c', e = .returned (.int .i64 (2 * (M.length : Int))) ∧ NumS w' nb mb A' c' (M ++ [i]) ∧ Turns w w' nb mb A A' := by
  obtain ⟨D, hD, hI⟩ := s.map
  have hne := s.ne
  have hrow := s.row
  have hnr : ∀ a, A = some a → a.block ≠ nb ∧ a.block ≠ mb := fun a h => s.ne_row h
  have hbox := s.box
  have hhas := (hI i).1
  rw [decide_eq_false hm] at hhas
  have c0 := s.box.cell 0
  simp only [List.getElem?_toArray, List.getElem?_cons_zero] at c0
  have c1 := s.box.cell 1
  simp only [List.getElem?_toArray, List.getElem?_cons_zero, List.getElem?_cons_succ] at c1
  obtain ⟨x, hx⟩ : ∃ x : Nat, x = M.length := ⟨_, rfl⟩
  have hPUT := mapIs_put hI hD.isMap hm
  have hcl := cast_len M
  have hiL : iL M ++ [(i : Int)] = iL (M ++ [i]) := by unfold iL; rw [List.map_append]; rfl
  have hl1 : (M ++ [i]).length = M.length + 1 := by simp
  have HIL := hid hiL
  have HL1 := hid hl1
  have HPUT := hid hPUT
  have HHAS := hid hhas
  have HROW := hid hrow
  have HBOX := hid hbox
  have HD := hid hD
  have HNR := hid hnr
  have HNE := hid hne
  have hr1 : reV (M.length : Int) = 2 * (M.length : Int) := by unfold reV; rw [if_pos (nuB_iff.2 (by omega))]
  have HR := hid hr1
  have hkey : keyOf Tryz.prog 3 (.int .i64 (i : Int)) = some (.int .i64 (i : Int)) := Maps.keyOf_int_mk Tryz.underlying3 (WalkArith.wf_i64 (by omega))
  clear hD hI hm hhas hr1 hrow hbox hPUT hiL hl1 hnr hne s hx hcl
  go_enter Tryz.func171, Tryz.ntmps171
  go_wp2_with fail
  refine (at_any _ _).mono ?_
  rintro e w' ⟨rfl, rfl⟩
  rw [hi, ha]
  go_upto_region 8 with (first
    | (at_lookup; refine wpList_lookup_own_ok_int _ rfl _ _ 111 rfl 3 3 .i64 law3 Tryz.underlying111 Tryz.underlying3 (zero3 _) mb M.length D rfl HD.out _ _ rfl hkey ?_; intro x2 hat hwc; rw [HHAS.out])
    | (at_mapUpdate; (refine wpList_mapUpdate_in _ rfl _ _ _ 111 rfl 3 3 law3 Tryz.underlying111 _ mb M.length D rfl HD.out (by unfold maxLen; omega) _ _ _ rfl rfl hkey _ [] (plainElem_int Tryz.underlying3 (WalkArith.wf_i64 (by omega))) ?_); intro w1 hown1 hturn1; have HO1 := hid hown1; have HT1 := hid hturn1; have HB1 := hid (Turns.lies (turned_turns (nb := mb) hturn1 none) HBOX.out HNE.out HNE.out (by simp)); have c1' := HB1.out.cell 1; simp only [List.getElem?_toArray, List.getElem?_cons_zero, List.getElem?_cons_succ] at c1'; clear hown1 hturn1; clear hwc hat c0 c1; have HAL := hid (below_alloc w1 (.cells #[.int .i64 (i : Int)] 3)); have HROW1 := hid (row_map HT1.out HNR.out HNE.out HBOX.out HROW.out); have HROW2 := hid (own_later HROW1.out HAL.out); have HN := hid (Lies.new w1 3 #[.int .i64 (i : Int)]); have HB2 := hid (HB1.out.later HAL.out))
    | fail)
  go_wp2_with (at_builtin; refine wpList_append_one_at rfl (.tmp 45) (.tmp 47) rfl 0 _ _ _ rfl HROW2.out _ _ rfl HN.out (by omega) (Nat.zero_le _) ?_)
  intro v' w' h1 h2 h3
  obtain ⟨A4, c4, rfl⟩ := own_form h1
  have HB3 := hid (HB2.out.grown h2 (row_ne HNR.out))
  have f3 := HB3.out.frozen 1
  have c3 := HB3.out.cell 1
  simp only [List.getElem?_toArray, List.getElem?_cons_zero, List.getElem?_cons_succ] at c3
  have H1 := hid h1
  have H2 := hid h2
  have H3 := hid h3
  clear h1 h2 h3
  go_wp2_with fail
  refine (ref_any _ _).mono ?_
  rintro e w2 ⟨rfl, rfl⟩
  rw [HR.out]
  go_wp2_with fail
  go_ret
  obtain ⟨e1, e2⟩ := num_end HT1.out HO1.out HPUT.out HNE.out HNR.out HB3.out H1.out H2.out H3.out
  exact ⟨A4, c4, rfl, e1, e2⟩
/-- what a value stands for, and who is met by it -/
theorem number6_any (h : Hp) (M : List Nat) (v : Int) (nb mb : Nat) (A : Option Addr) (c : Nat) (w : World) (s : NumS w nb mb A c M) (hv : hasB h.objs.length v = true) (hn : h.objs.length ≤ 256) (hM : M.length ≤ 256) :
    Calls Tryz.prog 171 #[.pointer (some ⟨nb, 0, none⟩), .int .i64 v] w fun e w' => ∃ A' c', e = .returned (.int .i64 (cnV h (meetL h M v) v)) ∧ NumS w' nb mb A' c' (meetL h M v) ∧ Turns w w' nb mb A A' := by
  cases hr : refB h.objs.length v
  · have e : meetL h M v = M := by unfold meetL; rw [if_neg (by rw [hr]; simp)]
    have ha : atB v = false := by
      have h1 := nB_iff.1 (has_not hv hr)
      cases ha : atB v
      · rfl
      · have := atB_iff.1 ha; omega
    rw [e, cn_small hr]
    refine (number_small v nb w ha).mono ?_
    rintro e w' ⟨rfl, rfl⟩
    exact ⟨A, c, rfl, s, .refl _ _ _ _⟩
  · obtain ⟨ha, h0, h1⟩ := refB_no hr
    obtain ⟨i, hi⟩ : ∃ i : Nat, atV v = i := ⟨(atV v).toNat, by omega⟩
    have hit : (atV v).toNat = i := by omega
    rw [cn_ref hr, hit]
    by_cases hm : i ∈ M
    · have e : meetL h M v = M := by unfold meetL; rw [if_neg (by rw [hit]; exact fun c => c.2 hm)]
      rw [e]
      refine (number_met i M v nb mb A c w s ha hi (by omega) hM hm).mono ?_
      rintro e w' ⟨rfl, rfl⟩
      exact ⟨A, c, rfl, s, .refl _ _ _ _⟩
    · have e : meetL h M v = M ++ [i] := by unfold meetL; rw [if_pos ⟨hr, by rw [hit]; exact hm⟩, hit]
      have e2 : (M ++ [i]).idxOf i = M.length := by rw [List.idxOf_append, if_neg hm, List.idxOf_cons_self, Nat.zero_add]
      rw [e, e2]
      exact number_new i M v nb mb A c w s ha hi (by omega) hM hm
end Go.Proofs.YtnilempeldlieaaGreat
namespace Go.Proofs.YtnilempeldlieaaGreat
open Go.RowKit
set_option maxRecDepth 100000
/-- each number once, and below -/
structure Okay (h : Hp) (M : List Nat) : Prop where
  nodup : M.Nodup
  lt : ∀ i ∈ M, i < h.objs.length
theorem Okay.len {h : Hp} {M : List Nat} (o : Okay h M) : M.length ≤ h.objs.length := nodup_le o.nodup o.lt
theorem Okay.meet {h : Hp} {M : List Nat} (o : Okay h M) (v : Int) : Okay h (meetL h M v) := by
  unfold meetL
  split
  · rename_i hc
    refine ⟨List.nodup_append.2 ⟨o.nodup, by simp, fun a ha b hb e => ?_⟩, fun i hi => ?_⟩
    · have hb2 : b = (atV v).toNat := by simpa using hb
      rw [e, hb2] at ha; exact hc.2 ha
    · rcases List.mem_append.1 hi with g | g
      · exact o.lt i g
      · have hb2 : i = (atV v).toNat := by simpa using g
        rw [hb2]; exact (refB_nat hc.1).1
  · exact o
theorem Okay.meets {h : Hp} : ∀ (vs : List Int) {M : List Nat}, Okay h M → Okay h (meets h M vs)
  | [], _, o => o
  | v :: vs, _, o => Okay.meets vs (o.meet v)
theorem Turns.later {w w1 w2 : World} {nb mb : Nat} {A A1 : Option Addr} (h : Turns w w1 nb mb A A1) (g : Below w.heap.size w1 w2) : Turns w w2 nb mb A A1 :=
  ⟨g.os.trans h.os, g.tape.trans h.tape, g.output.trans h.output, Nat.le_trans h.size g.size, fun k hk h1 h2 h3 => (g.block k hk).trans (h.block k hk h1 h2 h3), h.new⟩
theorem NumS.grown {w w' : World} {nb mb c : Nat} {A : Option Addr} {M : List Nat} (s : NumS w nb mb A c M) {row : Option Nat} (g : w.grownBy w' row) (h1 : some nb ≠ row) (h2 : some mb ≠ row) (h3 : ∀ a, A = some a → some a.block ≠ row) : NumS w' nb mb A c M :=
  ⟨s.box.grown g h1, by
    obtain ⟨D, h, hm⟩ := s.map
    exact ⟨D, h.kept g h2, hm⟩, s.row.kept g (by
      cases A with
      | none => exact .inl rfl
      | some a => exact .inr (h3 a rfl))⟩
/-- two rows in different blocks -/
def Off (S A : Option Addr) : Prop := ∀ a b, S = some a → A = some b → a.block ≠ b.block
theorem off_blk {S A : Option Addr} {n c : Nat} (h : Off S A) : ∀ a, A = some a → (Value.slice S n c).ownBlock ≠ some a.block := fun a ha e => by
  cases S with
  | none => simp [Value.ownBlock] at e
  | some b => exact h b a rfl ha (by simpa [Value.ownBlock] using e)
theorem off_turn {w w' : World} {nb mb n c base : Nat} {S A A' : Option Addr} {xs : List Value} (h : Off S A) (t : Turns w w' nb mb A A') (r : w.ownsRow base 3 1 (.slice S n c) n xs) : Off S A' := fun a b ha hb => by
  subst ha
  have hlt := (r.lt a.block rfl).2
  rcases t.new b hb with ⟨b0, h0, e⟩ | e
  · rw [e]; exact h a b0 rfl h0
  · omega
theorem off_grow {w : World} {n c m d : Nat} {S S' A : Option Addr} (h : Off S A) (hA : ∀ a, A = some a → a.block < w.heap.size) (h3 : (Value.slice S' m d).ownBlock = (Value.slice S n c).ownBlock ∨ (Value.slice S' m d).ownBlock = some w.heap.size) : Off S' A := fun a b ha hb => by
  subst ha
  rcases h3 with e | e
  · cases S with
    | none => simp [Value.ownBlock] at e
    | some s =>
      have e2 : a.block = s.block := by simpa [Value.ownBlock] using e
      rw [e2]; exact h s b rfl hb
  · have e2 : a.block = w.heap.size := by simpa [Value.ownBlock] using e
    have := hA b hb
    omega
/-- what values gives back -/
def ValsOwn (w : World) (nb mb : Nat) (A : Option Addr) (M : List Nat) (L : List Int) (e : Ending) (w' : World) : Prop :=
  ∃ A' c' S d, e = .returned (.slice S L.length d) ∧ NumS w' nb mb A' c' M ∧ Turns w w' nb mb A A' ∧ w'.ownsRow w.heap.size 3 1 (.slice S L.length d) L.length (L.map (Value.int .i64)) ∧ Off S A'
set_option maxHeartbeats 2000000 in
theorem values6_any (h : Hp) (M : List Nat) (vs : List Int) (nb mb : Nat) (A R : Option Addr) (c d : Nat) (w0 w : World) (s : NumS w nb mb A c M) (hb0 : Below w0.heap.size w0 w) (hr : IntsR w0 R vs) (hnb : w0.heap.size ≤ nb) (hmb : w0.heap.size ≤ mb) (hA : ∀ a, A = some a → w0.heap.size ≤ a.block)
    (hv : ∀ v ∈ vs, hasB h.objs.length v = true) (hn : h.objs.length ≤ 256) (ok : Okay h M) (hl : vs.length ≤ 100000) :
    Calls Tryz.prog 113 #[.pointer (some ⟨nb, 0, none⟩), .slice R vs.length d] w (ValsOwn w nb mb A (meets h M vs) (vs.map (cnV h (meets h M vs)))) := by
  have HS := hid s
  have HB0 := hid hb0
  have HR := hid hr
  have HA := hid hA
  have HV := hid hv
  have HOK := hid ok
  clear s hb0 hr hA hv ok
  go_enter Tryz.func113, Tryz.ntmps113
  go_wp2_with fail
  go_loopw [10, 5] (fun i s wr => ∃ (k : Nat) (A1 S1 : Option Addr) (c1 d1 : Nat), k ≤ vs.length ∧ i = .int .i64 k ∧ s = .slice S1 (toK h M vs k).length d1 ∧ NumS wr nb mb A1 c1 (meets h M (vs.take k)) ∧ Turns w wr nb mb A A1 ∧ wr.ownsRow w.heap.size 3 1 (.slice S1 (toK h M vs k).length d1) (toK h M vs k).length ((toK h M vs k).map (Value.int .i64)) ∧ Off S1 A1) (fun i _ _ => vs.length - (intOf i).toNat)
  case atStart => exact ⟨0, A, none, c, 0, Nat.zero_le _, rfl, rfl, HS.out, .refl _ _ _ _, World.ownsRow_nil _ _ _ _, fun a b ha => by cases ha⟩
  case round =>
    obtain ⟨k, A1, S1, c1, d1, hk, rfl, rfl, hs1, ht1, hown, hoff⟩ := hrel
    rename World => wj
    have HS1 := hid hs1
    have HT1 := hid ht1
    have HO := hid hown
    have HF := hid hoff
    have htl := Nat.le_of_eq (toK_len (h := h) (M := M) (vs := vs) hk)
    clear hs1 ht1 hown hoff
    by_cases hlt : k < vs.length
    · have HBJ := hid (HB0.out.trans (HT1.out.below HB0.out.size hnb hmb HA.out))
      obtain ⟨b, o, rfl, hb, hc⟩ := HR.out (by omega)
      have hcell := (HBJ.out.cell (p := ⟨b, o + k, none⟩) hb).trans (hc k _ (List.getElem?_eq_getElem hlt))
      have hvk := HV.out _ (List.getElem_mem hlt)
      have hMl := (HOK.out.meets (vs.take k)).len
      have HTK := hid (toK_succ (h := h) (M := M) hlt)
      have HMT := hid (meets_take (h := h) (M := M) hlt)
      obtain ⟨x, hx⟩ : ∃ x, x = vs[k] := ⟨_, rfl⟩
      rw [← hx] at hcell hvk HTK HMT
      obtain ⟨y, hy⟩ : ∃ y, y = cnV h (meetL h (meets h M (vs.take k)) x) x := ⟨_, rfl⟩
      rw [← hy] at HTK
      have HY := hid hy
      clear hc hx hy
      go_wp2_with fail
      refine (number6_any h _ x nb mb A1 c1 wj HS1.out hvk hn (by omega)).mono ?_
      rintro e w2 ⟨A2, c2, rfl, hs2, ht2⟩
      rw [← HY.out]
      rw [← HMT.out] at hs2
      have ap1 := HS1.out.apart HO.out (by decide)
      have HO2 := hid (ht2.row HO.out ap1.1 ap1.2 (off_blk HF.out))
      have HF2 := hid (off_turn HF.out ht2 HO.out)
      have HT2 := hid (HT1.out.trans ht2)
      have HAL := hid (below_alloc w2 (.cells #[.int .i64 y] 3))
      have HO3 := hid (own_later HO2.out HAL.out)
      have HS3 := hid (hs2.later HAL.out)
      have HT3 := hid (HT2.out.later (HAL.out.mono HT2.out.size))
      have HN := hid (Lies.new w2 3 #[.int .i64 y])
      have hz2 : w.heap.size ≤ (w2.alloc (.cells #[.int .i64 y] 3)).heap.size := HT3.out.size
      clear ap1 hs2 ht2 hcell hvk
      go_wp2_with (at_builtin; refine wpList_append_one_at rfl (.tmp 14) (.tmp 18) rfl w.heap.size _ _ _ rfl HO3.out _ _ rfl HN.out (by omega) hz2 ?_)
      intro v' w' h1 h2 h3
      obtain ⟨A4, c4, rfl⟩ := own_form h1
      have hps := congrArg List.length HTK.out
      rw [List.length_append, List.length_singleton] at hps
      have h1 : w'.ownsRow w.heap.size 3 1 (.slice A4 (toK h M vs (k + 1)).length c4) (toK h M vs (k + 1)).length ((toK h M vs (k + 1)).map (Value.int .i64)) := by rw [hps, HTK.out, List.map_append]; exact h1
      have ap3 := HS3.out.apart HO3.out (by decide)
      have hs4 := HS3.out.grown h2 (fun e => ap3.1 e.symm) (fun e => ap3.2 e.symm) (fun a ha e => off_blk HF2.out a ha e.symm)
      have hb4 : Below w.heap.size (w2.alloc (.cells #[.int .i64 y] 3)) w' := ⟨h2.os, h2.tape, h2.output, h2.size, fun q hq => h2.block q (by omega) fun e => by have := (HO3.out.lt q e.symm).1; omega⟩
      have ht4 := HT3.out.later hb4
      have hf4 := off_grow HF2.out (fun a ha => by obtain ⟨cur, hl⟩ := HS3.out.rowBlock ha; exact hl.lt) (by simpa using h3)
      have H1 := hid h1
      have HS4 := hid hs4
      have HT4 := hid ht4
      have HF4 := hid hf4
      have HPL := hid hps
      clear h1 h2 h3 hs4 ht4 hf4 hb4 ap3 hps
      go_wp2_with fail
      go_roundw
      case rel => exact ⟨k + 1, A2, A4, c2, c4, by omega, by go_num, by rw [HPL.out], HS4.out, HT4.out, H1.out, HF4.out⟩
      case measure => simp [intOf]; omega
    · obtain rfl : k = vs.length := by omega
      go_wp2_with fail
      go_ret
      have hO := HO.out
      have hS := HS1.out
      rw [toK_all] at hO
      rw [List.take_length] at hS
      exact ⟨A1, c1, S1, d1, by rw [toK_all]; rfl, hS, HT1.out, hO, HF.out⟩
end Go.Proofs.YtnilempeldlieaaGreat
