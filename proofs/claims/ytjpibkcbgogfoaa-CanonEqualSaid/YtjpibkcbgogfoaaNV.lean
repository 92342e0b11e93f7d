/- (*numbering).value walked: the number of what a value is the ref of, given if it has none. -/
import Derived.Test.YtjpibkcbgogfoaaNU
namespace Go.Proofs.Ytjpibkcbgogfoaa
open Go.RowKit
set_option maxRecDepth 100000
theorem wpList_append_one_at {w : World} {ops : Array Oper} {rest : List Oper} {o : Oper} {a : Act} {Q : Exit → Act → World → Prop} (hgd : o.guard = none) (s x : Operand)
    (ho : o.op = .call { callee := .builtin .append, args := #[s, x], argTypes := #[44, 44] }) (base : Nat)
    (v : Value) (n : Nat) (xs : List Int) (hs : a.eval s = v) (hown : w.ownsRow base 3 1 v n (xs.map (Value.int .i64))) (y : Int) (g : Nat) (hx : a.eval x = .slice (some ⟨g, 0, none⟩) 1 1) (hg : Lies w g 3 #[.int .i64 y])
    (hn : n ≤ 1000000) (hbase : base ≤ w.heap.size)
    (h : ∀ v' w', w'.ownsRow base 3 1 v' (n + 1) ((xs ++ [y]).map (Value.int .i64)) → w.grownBy w' v.ownBlock → (v'.ownBlock = v.ownBlock ∨ v'.ownBlock = some w.heap.size) → wpList Try.prog ops Q rest (a.put o.dst v') w') : wpList Try.prog ops Q (o :: rest) a w := by
  obtain ⟨i0, hi0, hz0, hz1, hz2⟩ := info_parts int_info
  refine wpList_append_own_at _ hgd s x 44 ho base 3 i0 (.int .i64 0) 1 8 Try.underlying44 hi0 hz0 hz1 hz2 rfl (by decide) _ _ _ hs hown ⟨g, 0, none⟩ 1 1 [.int .i64 y] hx rfl ?_ ?_ (by unfold maxLen; omega) (by omega) hbase ?_
  · intro j u hu
    have := hg.cell j
    rw [Addr.add_lit, Nat.zero_add, this]
    simpa using hu
  · intro u hu
    obtain rfl : u = .int .i64 y := by simpa using hu
    rfl
  · intro v' w' h1 h2 _ h3
    exact h v' w' (by simpa using h1) h2 h3
theorem law3 : Maps.Keyed Try.prog 3 := Maps.int_keyed Try.underlying3
theorem zero3 (w : World) : (zeroValue 3).run Try.prog w = .ok (.int .i64 0) w := by kernel_rfl
/-- a value that is a SmallInteger stays -/
theorem number_small (v : Int) (nb : Nat) (w : World) (ha : atB v = false) :
    Calls Try.prog 93 #[.pointer (some ⟨nb, 0, none⟩), .int .i64 v] w fun e w' => e = .returned (.int .i64 v) ∧ w = w' := by
  go_enter Try.func93, Try.ntmps93
  go_wp2_with (first | (go_at_call 81; refine (at_any _ _).mono ?_; rintro e w' ⟨rfl, rfl⟩))
  go_ret
  exact ⟨rfl, rfl⟩
theorem number_met (i : Nat) (M : List Nat) (v : Int) (nb mb : Nat) (A : Option Addr) (c : Nat) (w : World) (s : NumS w nb mb A c M) (ha : atB v = true) (hi : atV v = i) (hi2 : i ≤ 256) (hM : M.length ≤ 256) (hm : i ∈ M) :
    Calls Try.prog 93 #[.pointer (some ⟨nb, 0, none⟩), .int .i64 v] w fun e w' => e = .returned (.int .i64 (2 * (M.idxOf i : Int))) ∧ w = w' := by
  obtain ⟨D, hD, hI⟩ := s.map
  have HD := hid hD
  have hat0 := (hI i).2 hm
  have hhas := (hI i).1
  rw [decide_eq_true hm] at hhas
  have hlt : M.idxOf i < M.length := List.idxOf_lt_length_iff.2 hm
  have c0 := s.box.cell 0
  simp only [List.getElem?_toArray, List.getElem?_cons_zero] at c0
  obtain ⟨x, hx⟩ : ∃ x : Int, x = (M.idxOf i : Int) := ⟨_, rfl⟩
  rw [← hx] at hat0 ⊢
  have hr1 : reV x = 2 * x := by unfold reV; rw [if_pos (nuB_iff.2 (by omega))]
  have HX : Hid (0 ≤ x ∧ x < 256) := by show _ ∧ _; omega
  have HAT := hid hat0
  have HH := hid hhas
  have HR := hid hr1
  have hkey : keyOf Try.prog 3 (.int .i64 (i : Int)) = some (.int .i64 (i : Int)) := Maps.keyOf_int_mk Try.underlying3 (WalkArith.wf_i64 (by omega))
  clear hD hI hm hat0 hhas hr1 hx hlt
  go_enter Try.func93, Try.ntmps93
  go_wp2_with fail
  refine (at_any _ _).mono ?_
  rintro e w' ⟨rfl, rfl⟩
  rw [hi, ha]
  go_wp2_with (first
    | (at_lookup; refine wpList_lookup_own_ok_int _ rfl _ _ 80 rfl 3 3 .i64 law3 Try.underlying80 Try.underlying3 (zero3 _) mb M.length D rfl HD.out _ _ rfl hkey ?_; intro x2 hat hwc; rw [HH.out]; obtain rfl : x = x2 := (by have := HAT.out.symm.trans hat; simpa using this))
    | fail)
  refine (ref_any _ _).mono ?_
  rintro e w' ⟨rfl, rfl⟩
  rw [HR.out]
  go_wp2_with fail
  go_ret
  exact ⟨rfl, rfl⟩
theorem turned_turns {w w1 : World} {nb mb : Nat} (h : w.mapTurned w1 mb) (A : Option Addr) : Turns w w1 nb mb A A := by
  have g := h.grown
  exact ⟨g.os, g.tape, g.output, g.size, fun k hk _ h2 _ => g.block k hk (by simpa using h2), fun a h => .inl ⟨a, h, rfl⟩⟩
theorem row_ne {A : Option Addr} {nb mb n c : Nat} (h : ∀ a, A = some a → a.block ≠ nb ∧ a.block ≠ mb) : some nb ≠ (Value.slice A n c).ownBlock := fun e => by
  cases A with
  | none => simp [Value.ownBlock] at e
  | some a => exact (h a rfl).1 (by simpa [Value.ownBlock] using e.symm)
theorem row_map {w w1 : World} {nb mb : Nat} {A : Option Addr} {n c : Nat} {xs cs : _} {t : TypeId} (h : w.mapTurned w1 mb) (hn : ∀ a, A = some a → a.block ≠ nb ∧ a.block ≠ mb) (_ : nb ≠ mb) (_ : Lies w nb t cs)
    (r : w.ownsRow 0 3 1 (.slice A n c) n xs) : w1.ownsRow 0 3 1 (.slice A n c) n xs :=
  r.kept h.grown (by
    cases A with
    | none => exact .inl rfl
    | some a => exact .inr fun e => (hn a rfl).2 (by simpa [Value.ownBlock] using e))
theorem grown_set (w : World) (p : Addr) (u : Value) : w.grownBy (w.setCell p u) (some p.block) :=
  ⟨rfl, rfl, rfl, by simp, fun k _ hk => Below.heap_setCell w p u k (fun e => hk (by rw [e]))⟩
theorem turns_grown {w w' : World} {nb mb n m c d : Nat} {A A4 : Option Addr} (h : w.grownBy w' (Value.slice A n c).ownBlock) (h3 : (Value.slice A4 m d).ownBlock = (Value.slice A n c).ownBlock ∨ (Value.slice A4 m d).ownBlock = some w.heap.size) : Turns w w' nb mb A A4 := by
  refine ⟨h.os, h.tape, h.output, h.size, fun k hk _ _ hA => h.block k hk fun e => ?_, fun a ha => ?_⟩
  · cases A with
    | none => simp [Value.ownBlock] at e
    | some a => exact hA a rfl (by simpa [Value.ownBlock] using e)
  · subst ha
    rcases h3 with e | e
    · cases A with
      | none => simp [Value.ownBlock] at e
      | some b => exact .inl ⟨b, rfl, by simpa [Value.ownBlock] using e⟩
    · exact .inr (Nat.le_of_eq (by simpa [Value.ownBlock] using e.symm))
theorem turns_set (w : World) (nb mb o : Nat) (A : Option Addr) (u : Value) : Turns w (w.setCell ⟨nb, o, none⟩ u) nb mb A A :=
  ⟨rfl, rfl, rfl, by simp, fun k _ h1 _ _ => Below.heap_setCell w _ u k h1, fun a h => .inl ⟨a, h, rfl⟩⟩
theorem num_end {w w1 w' : World} {nb mb c c4 i : Nat} {A A4 : Option Addr} {M : List Nat} {D : DataW Unit} (ht : w.mapTurned w1 mb) (ho : w1.ownsMap Try.prog 3 (plainElem Try.prog 3) mb (M.length + 1) D) (hm : MapIs D (M ++ [i])) (hne : nb ≠ mb) (hnr : ∀ a, A = some a → a.block ≠ nb ∧ a.block ≠ mb)
    (hb : Lies w' nb 82 #[.map (some mb), .slice A M.length c]) (h1 : w'.ownsRow 0 3 1 (.slice A4 (M.length + 1) c4) (M.length + 1) ((iL M).map (Value.int .i64) ++ [.int .i64 (i : Int)]))
    (h2 : (w1.alloc (.cells #[.int .i64 (i : Int)] 3)).grownBy w' (Value.slice A M.length c).ownBlock) (h3 : (Value.slice A4 (M.length + 1) c4).ownBlock = (Value.slice A M.length c).ownBlock ∨ (Value.slice A4 (M.length + 1) c4).ownBlock = some (w1.heap.size + 1)) :
    NumS (w'.setCell ⟨nb, 1, none⟩ (.slice A4 (M.length + 1) c4)) nb mb A4 c4 (M ++ [i]) ∧ Turns w (w'.setCell ⟨nb, 1, none⟩ (.slice A4 (M.length + 1) c4)) nb mb A A4 := by
  have hl : (M ++ [i]).length = M.length + 1 := by simp
  have hiL : (iL (M ++ [i])).map (Value.int .i64) = (iL M).map (Value.int .i64) ++ [.int .i64 (i : Int)] := by unfold iL; simp
  refine ⟨⟨?_, ⟨D, ?_, hm⟩, ?_⟩, ?_⟩
  · rw [hl]
    have := hb.set_ 1 (.slice A4 (M.length + 1) c4)
    simpa using this
  · rw [hl]
    refine ((ho.alloc _).kept h2 fun e => ?_).setCell (a := ⟨nb, 1, none⟩) (fun e => hne e.symm) _
    cases A with
    | none => simp [Value.ownBlock] at e
    | some a => exact (hnr a rfl).2 (by simpa [Value.ownBlock] using e.symm)
  · rw [hl, hiL]
    exact h1.kept (grown_set w' ⟨nb, 1, none⟩ _) (.inr (own_blk_ne h1 hb (by decide)))
  · refine (turned_turns ht A).trans ((Turns.of_below (below_alloc w1 _) nb mb A).trans ((turns_grown (m := M.length + 1) (d := c4) h2 ?_).trans (turns_set w' nb mb 1 A4 _)))
    simpa using h3
set_option maxHeartbeats 1500000 in
theorem number_new (i : Nat) (M : List Nat) (v : Int) (nb mb : Nat) (A : Option Addr) (c : Nat) (w : World) (s : NumS w nb mb A c M) (ha : atB v = true) (hi : atV v = i) (hi2 : i ≤ 256) (hM : M.length ≤ 256) (hm : i ∉ M) :
    Calls Try.prog 93 #[.pointer (some ⟨nb, 0, none⟩), .int .i64 v] w fun e w' => ∃ A' c', e = .returned (.int .i64 (2 * (M.length : Int))) ∧ NumS w' nb mb A' c' (M ++ [i]) ∧ Turns w w' nb mb A A' := by
  obtain ⟨D, hD, hI⟩ := s.map
  have hne := s.ne
  have hrow := s.row
  have hnr : ∀ a, A = some a → a.block ≠ nb ∧ a.block ≠ mb := fun a h => s.ne_row h
  have hbox := s.box
  have hhas := (hI i).1
  rw [decide_eq_false hm] at hhas
  have c0 := s.box.cell 0
  simp only [List.getElem?_toArray, List.getElem?_cons_zero] at c0
  have c1 := s.box.cell 1
  simp only [List.getElem?_toArray, List.getElem?_cons_zero, List.getElem?_cons_succ] at c1
  obtain ⟨x, hx⟩ : ∃ x : Nat, x = M.length := ⟨_, rfl⟩
  have hPUT := mapIs_put hI hD.isMap hm
  have hcl := cast_len M
  have hiL : iL M ++ [(i : Int)] = iL (M ++ [i]) := by unfold iL; rw [List.map_append]; rfl
  have hl1 : (M ++ [i]).length = M.length + 1 := by simp
  have HIL := hid hiL
  have HL1 := hid hl1
  have HPUT := hid hPUT
  have HHAS := hid hhas
  have HROW := hid hrow
  have HBOX := hid hbox
  have HD := hid hD
  have HNR := hid hnr
  have HNE := hid hne
  have hr1 : reV (M.length : Int) = 2 * (M.length : Int) := by unfold reV; rw [if_pos (nuB_iff.2 (by omega))]
  have HR := hid hr1
  have hkey : keyOf Try.prog 3 (.int .i64 (i : Int)) = some (.int .i64 (i : Int)) := Maps.keyOf_int_mk Try.underlying3 (WalkArith.wf_i64 (by omega))
  clear hD hI hm hhas hr1 hrow hbox hPUT hiL hl1 hnr hne s hx hcl
  go_enter Try.func93, Try.ntmps93
  go_wp2_with fail
  refine (at_any _ _).mono ?_
  rintro e w' ⟨rfl, rfl⟩
  rw [hi, ha]
  go_upto_region 8 with (first
    | (at_lookup; refine wpList_lookup_own_ok_int _ rfl _ _ 80 rfl 3 3 .i64 law3 Try.underlying80 Try.underlying3 (zero3 _) mb M.length D rfl HD.out _ _ rfl hkey ?_; intro x2 hat hwc; rw [HHAS.out])
    | (at_mapUpdate; (refine wpList_mapUpdate_in _ rfl _ _ _ 80 rfl 3 3 law3 Try.underlying80 _ mb M.length D rfl HD.out (by unfold maxLen; omega) _ _ _ rfl rfl hkey _ [] (plainElem_int Try.underlying3 (WalkArith.wf_i64 (by omega))) ?_); intro w1 hown1 hturn1; have HO1 := hid hown1; have HT1 := hid hturn1; have HB1 := hid (Turns.lies (turned_turns (nb := mb) hturn1 none) HBOX.out HNE.out HNE.out (by simp)); have c1' := HB1.out.cell 1; simp only [List.getElem?_toArray, List.getElem?_cons_zero, List.getElem?_cons_succ] at c1'; clear hown1 hturn1; clear hwc hat c0 c1; have HAL := hid (below_alloc w1 (.cells #[.int .i64 (i : Int)] 3)); have HROW1 := hid (row_map HT1.out HNR.out HNE.out HBOX.out HROW.out); have HROW2 := hid (own_later HROW1.out HAL.out); have HN := hid (Lies.new w1 3 #[.int .i64 (i : Int)]); have HB2 := hid (HB1.out.later HAL.out))
    | fail)
  go_wp2_with (at_builtin; refine wpList_append_one_at rfl (.tmp 45) (.tmp 47) rfl 0 _ _ _ rfl HROW2.out _ _ rfl HN.out (by omega) (Nat.zero_le _) ?_)
  intro v' w' h1 h2 h3
  obtain ⟨A4, c4, rfl⟩ := own_form h1
  have HB3 := hid (HB2.out.grown h2 (row_ne HNR.out))
  have f3 := HB3.out.frozen 1
  have c3 := HB3.out.cell 1
  simp only [List.getElem?_toArray, List.getElem?_cons_zero, List.getElem?_cons_succ] at c3
  have H1 := hid h1
  have H2 := hid h2
  have H3 := hid h3
  clear h1 h2 h3
  go_wp2_with fail
  refine (ref_any _ _).mono ?_
  rintro e w2 ⟨rfl, rfl⟩
  rw [HR.out]
  go_wp2_with fail
  go_ret
  obtain ⟨e1, e2⟩ := num_end HT1.out HO1.out HPUT.out HNE.out HNR.out HB3.out H1.out H2.out H3.out
  exact ⟨A4, c4, rfl, e1, e2⟩
/-- what a value stands for, and who is met by it -/
theorem number6_any (h : Hp) (M : List Nat) (v : Int) (nb mb : Nat) (A : Option Addr) (c : Nat) (w : World) (s : NumS w nb mb A c M) (hv : hasB h.objs.length v = true) (hn : h.objs.length ≤ 256) (hM : M.length ≤ 256) :
    Calls Try.prog 93 #[.pointer (some ⟨nb, 0, none⟩), .int .i64 v] w fun e w' => ∃ A' c', e = .returned (.int .i64 (cnV h (meetL h M v) v)) ∧ NumS w' nb mb A' c' (meetL h M v) ∧ Turns w w' nb mb A A' := by
  cases hr : refB h.objs.length v
  · have e : meetL h M v = M := by unfold meetL; rw [if_neg (by rw [hr]; simp)]
    have ha : atB v = false := by
      have h1 := nB_iff.1 (has_not hv hr)
      cases ha : atB v
      · rfl
      · have := atB_iff.1 ha; omega
    rw [e, cn_small hr]
    refine (number_small v nb w ha).mono ?_
    rintro e w' ⟨rfl, rfl⟩
    exact ⟨A, c, rfl, s, .refl _ _ _ _⟩
  · obtain ⟨ha, h0, h1⟩ := refB_no hr
    obtain ⟨i, hi⟩ : ∃ i : Nat, atV v = i := ⟨(atV v).toNat, by omega⟩
    have hit : (atV v).toNat = i := by omega
    rw [cn_ref hr, hit]
    by_cases hm : i ∈ M
    · have e : meetL h M v = M := by unfold meetL; rw [if_neg (by rw [hit]; exact fun c => c.2 hm)]
      rw [e]
      refine (number_met i M v nb mb A c w s ha hi (by omega) hM hm).mono ?_
      rintro e w' ⟨rfl, rfl⟩
      exact ⟨A, c, rfl, s, .refl _ _ _ _⟩
    · have e : meetL h M v = M ++ [i] := by unfold meetL; rw [if_pos ⟨hr, by rw [hit]; exact hm⟩, hit]
      have e2 : (M ++ [i]).idxOf i = M.length := by rw [List.idxOf_append, if_neg hm, List.idxOf_cons_self, Nat.zero_add]
      rw [e, e2]
      exact number_new i M v nb mb A c w s ha hi (by omega) hM hm
end Go.Proofs.Ytjpibkcbgogfoaa
