/- What the lines of a text are, read one by one: the program's Parse. -/
import Derived.Test.YtobelbaeaamkkaaDoorTL11
import Derived.RangeFuncFrom
import Derived.RangeFuncBox
namespace Go.Proofs.YtobelbaeaamkkaaDoor
open Go.RowKit Go.Shelf
attribute [local go_sem] Oper.semAt_some
set_option maxRecDepth 100000
theorem keeps_below11 {w w' : World} (hb : Below w.heap.size w w') : KeepsOthers w w' := ⟨hb.size, fun r _ h _ => (hb.block r (Array.getElem?_eq_some_iff.1 h).1).trans h⟩
/-- what has been read of the lines that have come -/
def pd11 (pre : List Ln11) : List In := pre.filterMap fun x => rd11 x.1.1
def Ok11 (pre : List Ln11) : Prop := pre.map (fun x => (rd11 x.1.1, x.1.2)) = (pd11 pre).map (fun y => (some y, true)) ∧ (pd11 pre).length ≤ 32
def Bad11 (pre : List Ln11) : Prop := ∃ p x, pre = p ++ [x] ∧ (rd11 x.1.1 = none ∨ x.1.2 = false ∨ 32 ≤ p.length)
theorem pd_snoc11 {pre : List Ln11} {x : Ln11} {y : In} (h : rd11 x.1.1 = some y) : pd11 (pre ++ [x]) = pd11 pre ++ [y] := by
  unfold pd11
  rw [List.filterMap_append]
  simp [h]
theorem ok_snoc11 {pre : List Ln11} {x : Ln11} {y : In} (h : Ok11 pre) (hr : rd11 x.1.1 = some y) (he : x.1.2 = true) (hl : (pd11 pre).length ≠ 32) : Ok11 (pre ++ [x]) := by
  obtain ⟨h1, h2⟩ := h
  refine ⟨?_, ?_⟩
  · rw [pd_snoc11 hr, List.map_append, List.map_append, h1]
    simp [hr, he]
  · rw [pd_snoc11 hr, List.length_append]
    show _ + 1 ≤ _
    omega
theorem ok_len11 {pre : List Ln11} (h : Ok11 pre) : (pd11 pre).length = pre.length := by
  have := congrArg List.length h.1
  rw [List.length_map, List.length_map] at this
  exact this.symm
theorem ok_done11 {b : List UInt8} {ys : List Ln11} (h : Ok11 ys) (hS : ys.map (·.1) = lns11 b) : Pa11 b = (pd11 ys, 0) := by
  refine pa_done11 ?_ h.2
  rw [← hS, List.map_map]
  exact h.1
theorem bad_done11 {b : List UInt8} {pre : List Ln11} (h : Bad11 pre) (hS : pre.map (·.1) <+: lns11 b) : Pa11 b = ([], 111) := by
  obtain ⟨p, x, rfl, hb⟩ := h
  rw [List.map_append] at hS
  refine pa_bad11 (pre := p.map (·.1)) (x := x.1) hS ?_
  rw [List.length_map]
  exact hb
theorem res2_11 {w W : World} {r0 r1 : Nat} {t0 t1 : TypeId} {a c : Value} (v e : Value) (K0 : Boxed W r0 t0 a) (K1 : Boxed W r1 t1 c) (hne : r0 ≠ r1) (h0 : w.heap.size ≤ r0) (h1 : w.heap.size ≤ r1) (hB : Below w.heap.size w W) :
    KeepsOthers W ((W.setCell ⟨r0, 0, none⟩ v).setCell ⟨r1, 0, none⟩ e) ∧ Boxed ((W.setCell ⟨r0, 0, none⟩ v).setCell ⟨r1, 0, none⟩ e) r0 t0 v ∧ Boxed ((W.setCell ⟨r0, 0, none⟩ v).setCell ⟨r1, 0, none⟩ e) r1 t1 e ∧ Below w.heap.size w ((W.setCell ⟨r0, 0, none⟩ v).setCell ⟨r1, 0, none⟩ e) :=
  ⟨(KeepsOthers.setCell _ _ _).trans (KeepsOthers.setCell _ _ _), (K0.set v).other hne e, (K1.other hne.symm v).set e, (hB.setCell (p := ⟨r0, 0, none⟩) h0 _).setCell (p := ⟨r1, 0, none⟩) h1 _⟩
/-- what stands between two lines -/
def IP11 (w : World) (pre : List Ln11) (W : World) : Prop :=
  ((∃ v, Boxed W (w.heap.size + 1 + 1) 22 v ∧ W.ownsRow w.heap.size 34 2 v (pd11 pre).length ((pd11 pre).flatMap in211) ∧ Ok11 pre) ∧ Boxed W w.heap.size 22 (.slice none 0 0) ∧ Boxed W (w.heap.size + 1) 24 (.int .i64 0)) ∧ Below w.heap.size w W
def IX11 (w : World) (cd : Code) (pre : List Ln11) (W : World) : Prop :=
  ((cd = .ret ∧ Bad11 pre) ∧ Boxed W w.heap.size 22 (.slice none 0 0) ∧ Boxed W (w.heap.size + 1) 24 (.int .i64 111)) ∧ Below w.heap.size w W
theorem ip_own11 (w : World) (B : Nat) (hB : w.heap.size ≤ B) : OwnFrom B (IP11 w) :=
  OwnFrom.and (Own.from (fun s A C row hs hg hr => ⟨holdsRow_own w.heap.size (w.heap.size + 1 + 1) 22 34 2 (fun pre => (pd11 pre).length) (fun pre => (pd11 pre).flatMap in211) (fun pre _ => Ok11 pre) s A C row hs.1 hg hr,
    boxed_own (β := List Ln11) w.heap.size 22 (fun _ => .slice none 0 0) s A C row hs.2.1 hg hr, boxed_own (β := List Ln11) (w.heap.size + 1) 24 (fun _ => .int .i64 0) s A C row hs.2.2 hg hr⟩) B) (ownFrom_below (Nat.le_refl _) hB)
theorem ix_own11 (w : World) (B : Nat) (hB : w.heap.size ≤ B) (cd : Code) : OwnFrom B (IX11 w cd) :=
  OwnFrom.and (Own.from (fun s A C row hs hg hr => ⟨hs.1,
    boxed_own (β := List Ln11) w.heap.size 22 (fun _ => .slice none 0 0) s A C row hs.2.1 hg hr, boxed_own (β := List Ln11) (w.heap.size + 1) 24 (fun _ => .int .i64 111) s A C row hs.2.2 hg hr⟩) B) (ownFrom_below (Nat.le_refl _) hB)
set_option maxHeartbeats 4000000 in
theorem cparse_any11 (b : List UInt8) (w : World) (hb : b.length ≤ 1000) (hv : Vr11 w) : Calls Tryd.prog 18 #[.string (str b)] w (PaP11 w b) := by
  refine (callsIn_wide (n := 5)).1 ?_
  obtain ⟨w0, hw0⟩ : ∃ w0, w0 = ((w.alloc (.cells #[.slice none 0 0] 22)).alloc (.cells #[.int .i64 0] 24)).alloc (.cells #[.slice none 0 0] 22) := ⟨_, rfl⟩
  have HB0 : Hid (Below w.heap.size w w0) := by show Below _ _ _; rw [hw0]; exact (below_alloc2 _ _ _).alloc (by simp; omega) _
  have H00 : Hid (Lies w0 w.heap.size 22 #[.slice none 0 0]) := by
    show Lies _ _ _ _
    rw [hw0]; exact ((Lies.new _ _ _).alloc _).alloc _
  have H10 : Hid (Lies w0 (w.heap.size + 1) 24 #[.int .i64 0]) := by
    show Lies _ _ _ _
    have := (Lies.new (w.alloc (.cells #[.slice none 0 0] 22)) 24 #[.int .i64 0]).alloc (.cells #[.slice none 0 0] 22)
    rw [hw0]; simpa using this
  have H20 : Hid (Lies w0 (w.heap.size + 1 + 1) 22 #[.slice none 0 0]) := by
    show Lies _ _ _ _
    have := Lies.new ((w.alloc (.cells #[.slice none 0 0] 22)).alloc (.cells #[.int .i64 0] 24)) 22 #[.slice none 0 0]
    rw [hw0]; simpa using this
  have HV := hid hv
  clear hv
  refine callsIn_of_wp_marks Tryd.func18 rfl trivial ?_ rfl
  simp only [Tryd.ntmps18, List.size_toArray, List.length_cons, List.length_nil, Nat.reduceAdd, Nat.reduceSub, Array.replicate_succ, Array.replicate_zero, List.push_toArray, List.append_toArray, List.nil_append, List.cons_append]
  gi_wp2_with fail
  rw [← hw0]
  clear hw0
  refine ⟨trivial, ?_⟩
  refine (callsIn_wide.2 (plines_any11 b w0)).mono ?_
  rintro e2 w2 ⟨rfl, hw2⟩
  have HC2 : Hid (w2.cell? ⟨w0.heap.size, 0, none⟩ = some (.string (str b))) := by
    show _ = _
    rw [hw2]; simp
  have hb2 : Below w0.heap.size w0 w2 := by rw [hw2]; exact below_alloc _ _
  have HB2 := hid (HB0.out.trans (hb2.mono HB0.out.size))
  have H02 := hid (H00.out.later hb2)
  have H12 := hid (H10.out.later hb2)
  have H22 := hid (H20.out.later hb2)
  have hww : w.heap.size ≤ w2.heap.size := HB2.out.size
  clear hb2 hw2
  gi_wp2
  refine wpIn_rangeFunc_ownF rfl (by omega) (gf := 44) (lb := #[.pointer (some ⟨w0.heap.size, 0, none⟩)]) rfl trivial (enters_of Tryd.func44 (by kernel_rfl) rfl)
    (plines_stops11 b hb 4 (by omega) w0.heap.size w.heap.size w2 (HV.out.later HB2.out) HC2.out hww (fun w' h => HV.out.later (HB2.out.trans h))) belowK_t (belowK_b hww) (Below.refl _ _) (fun _ => rfl)
    (IP11 w) (IX11 w) (ip_own11 w _ hww) (fun cd => ix_own11 w _ hww cd)
    ⟨⟨⟨.slice none 0 0, H22.out, World.ownsRow_nil _ _ _ _, rfl, by decide⟩, H02.out, H12.out⟩, HB2.out⟩
    ?a1 ?assign ?body ?done ?stop
  case assign =>
    intro l x W K hK
    gi_wp2
    exact hK
  case body =>
    rintro l pre x W ⟨⟨⟨v, hv, hown, hG⟩, hr0, hr1⟩, hB⟩ hlen
    have HHV := hid hv
    have HOW := hid hown
    have HG := hid hG
    have HR0 := hid hr0
    have HR1 := hid hr1
    have HB := hid hB
    have HXL := hid x.2
    clear hv hown hG hr0 hr1 hB
    gi_wp2_with fail
    refine ⟨trivial, ?_⟩
    refine (CallsIn.inRound l (callsIn_wide.2 (instrof_any11 x.1.1 (by have := HXL.out; omega) W (HV.out.later HB.out)))).mono ?_
    rintro e3 w3 ⟨i, c, rfl, h1, h2, hb3⟩
    have HB3 := hid (then_w HB.out hb3)
    obtain ⟨w4, hw4⟩ : ∃ u, u = w3.alloc (.cells #[.int .i64 i.op, .int .i64 i.a] 34) := ⟨_, rfl⟩
    have hb4 : Below W.heap.size W w4 := by rw [hw4]; exact then_w hb3 (below_alloc _ _)
    have hX4 : Lies w4 w3.heap.size 34 #[.int .i64 i.op, .int .i64 i.a] := by rw [hw4]; exact Lies.new _ _ _
    have HK4 := hid (keeps_below11 hb4)
    have HB4 := hid (then_w HB.out hb4)
    have HR04 : Hid (Boxed w4 w.heap.size 22 (.slice none 0 0)) := (hb4.block _ HR0.out.lt).trans HR0.out
    have HR14 : Hid (Boxed w4 (w.heap.size + 1) 24 (.int .i64 0)) := (hb4.block _ HR1.out.lt).trans HR1.out
    have HV4 : Hid (Boxed w4 (w.heap.size + 1 + 1) 22 v) := (hb4.block _ HHV.out.lt).trans HHV.out
    have HO4 := hid (own_later HOW.out hb4)
    have HBW : Hid (Below w.heap.size W w4) := hb4.mono HB.out.size
    obtain ⟨bi, hbi⟩ : ∃ u, u = w3.heap.size := ⟨_, rfl⟩
    rw [← hbi] at hX4
    have HX4 := hid hX4
    clear hb3 hb4 hX4
    obtain ⟨A, n, cp, rfl⟩ : ∃ A n cp, v = .slice A n cp := by
      rcases HOW.out.2 with ⟨rfl, _⟩ | ⟨g, cap, cur, rfl, _⟩
      · exact ⟨none, 0, 0, rfl⟩
      · exact ⟨_, _, _, rfl⟩
    have HN : Hid (n = (pd11 pre).length) := by
      show _ = _
      rcases HOW.out.2 with ⟨e, h0⟩ | ⟨g, cap, cur, e, _⟩
      · injection e with _ e _; omega
      · injection e with _ e _
    cases c
    · have HRD := hid (h2 rfl)
      clear h1 h2
      subst hw4
      have HBX : Hid (Bad11 (pre ++ [x])) := ⟨pre, x, rfl, .inl HRD.out⟩
      have r0 := Boxed.cell HR04.out
      have r1 := Boxed.cell HR14.out
      have f0 := Boxed.frozen HR04.out
      have f1 := Boxed.frozen HR14.out
      gi_wp2
      obtain ⟨q1, q2, q3, q4⟩ := res2_11 (w := w) (.slice none 0 0) (.int .i64 111) HR04.out HR14.out (by omega) (Nat.le_refl _) (by omega) HB4.out
      exact ⟨HK4.out.trans q1, ⟨⟨rfl, HBX.out⟩, q2, q3⟩, q4⟩
    · have HRD := hid (h1 rfl)
      clear h1 h2
      cases hend : x.1.2
      · have HEND := hid hend
        subst hw4
        have HBX : Hid (Bad11 (pre ++ [x])) := ⟨pre, x, rfl, .inr (.inl HEND.out)⟩
        have r0 := Boxed.cell HR04.out
        have r1 := Boxed.cell HR14.out
        have f0 := Boxed.frozen HR04.out
        have f1 := Boxed.frozen HR14.out
        have b0 := Boxed.cell HV4.out
        gi_wp2
        obtain ⟨q1, q2, q3, q4⟩ := res2_11 (w := w) (.slice none 0 0) (.int .i64 111) HR04.out HR14.out (by omega) (Nat.le_refl _) (by omega) HB4.out
        exact ⟨HK4.out.trans q1, ⟨⟨rfl, HBX.out⟩, q2, q3⟩, q4⟩
      · have HEND := hid hend
        by_cases h32 : n = 32
        · have HE : Hid (32 ≤ pre.length) := by show _ ≤ _; rw [← ok_len11 HG.out, ← HN.out, h32]; exact Nat.le_refl _
          have h32I : (n : Int) = 32 := by omega
          have h32B : ((n : Int) == 32) = true := by rw [h32I]; rfl
          have h32C : (n == 32) = true := by rw [h32]; rfl
          subst hw4
          have HBX : Hid (Bad11 (pre ++ [x])) := ⟨pre, x, rfl, .inr (.inr HE.out)⟩
          have r0 := Boxed.cell HR04.out
          have r1 := Boxed.cell HR14.out
          have f0 := Boxed.frozen HR04.out
          have f1 := Boxed.frozen HR14.out
          have b0 := Boxed.cell HV4.out
          gi_wp2
          obtain ⟨q1, q2, q3, q4⟩ := res2_11 (w := w) (.slice none 0 0) (.int .i64 111) HR04.out HR14.out (by omega) (Nat.le_refl _) (by omega) HB4.out
          exact ⟨HK4.out.trans q1, ⟨⟨rfl, HBX.out⟩, q2, q3⟩, q4⟩
        · have h32I : ¬ (n : Int) = 32 := by omega
          have h32B : ((n : Int) == 32) = false := beq_eq_false_iff_ne.2 h32I
          have h32C : (n == 32) = false := beq_eq_false_iff_ne.2 h32
          obtain ⟨i0, hi0, hz0, hz1, hz2⟩ := info_parts instr_info11
          have HOK : Hid (Ok11 (pre ++ [x])) := ok_snoc11 HG.out HRD.out HEND.out (by rw [← HN.out]; exact h32)
          have HPD : Hid (pd11 (pre ++ [x]) = pd11 pre ++ [i]) := pd_snoc11 HRD.out
          have HLL : Hid ((pd11 pre).length ≤ 32) := HG.out.2
          have hs4 : w.heap.size ≤ w4.heap.size := HB4.out.size
          have HS4 := hid hs4
          clear hs4
          subst hw4
          have b0 := Boxed.cell HV4.out
          have bf := Boxed.frozen HV4.out
          have x0 := HX4.out.cell 0
          have x1 := HX4.out.cell 1
          simp only [List.getElem?_toArray, List.getElem?_cons_zero, List.getElem?_cons_succ] at x0 x1
          subst hbi
          gi_wp2_with (gi_at_builtin; refine wpListIn_append_own _ rfl _ _ 22 rfl w.heap.size 34 i0 _ 2 16 Tryd.underlying22 hi0 hz0 hz1 hz2 rfl (by decide) _ _ _ rfl (HO4.out.alloc _) ⟨w3.heap.size + 1, 0, none⟩ 1 1 (in211 i) rfl rfl ?c1 ?c2 ?c3 ?c4 ?c5 ?_)
          case c1 =>
            intro j u hj
            have hj2 : j < 2 := (List.getElem?_eq_some_iff.1 hj).1
            have hL := Lies.new (w3.alloc (.cells #[.int .i64 i.op, .int .i64 i.a] 34)) 34 #[.int .i64 i.op, .int .i64 i.a]
            rw [World.size_alloc] at hL
            rw [Addr.add_lit, Nat.zero_add, hL.cell, List.getElem?_toArray]
            exact hj
          case c2 => intro u hu; simp only [in211, List.mem_cons, List.not_mem_nil, or_false] at hu; rcases hu with rfl | rfl <;> rfl
          case c3 => unfold maxLen; have := HLL.out; omega
          case c4 => have := HLL.out; omega
          case c5 => have := HS4.out; rw [World.size_alloc]; omega
          intro v' w5 hown' hgrow _
          obtain ⟨g', cap', rfl⟩ := ownsRow_succ hown'
          have HR05 : Hid (Boxed w5 w.heap.size 22 (.slice none 0 0)) := (HR04.out.alloc _).kept hgrow (HR04.out.not_row (by decide) HO4.out)
          have HR15 : Hid (Boxed w5 (w.heap.size + 1) 24 (.int .i64 0)) := (HR14.out.alloc _).kept hgrow (HR14.out.not_row (by decide) HO4.out)
          obtain ⟨hv1, hv2, hr2, hk2, hb2⟩ := HV4.out.appended (by decide) HO4.out HS4.out (by omega) hown' hgrow
          have c1 := hv1.cell
          have f1 := hv1.frozen
          have HV6 := hid hv2
          have HO6 := hid hr2
          have HK6 := hid hk2
          have HB6 := hid hb2
          clear hown' hgrow hv1 hv2 hr2 hk2 hb2
          gi_wp2
          refine ⟨HK4.out.trans HK6.out, HBW.out.trans HB6.out, ⟨⟨_, HV6.out, ?_, HOK.out⟩, HR05.out.other (by omega) _, HR15.out.other (by omega) _⟩, HB4.out.trans HB6.out⟩
          rw [HPD.out, List.length_append, List.flatMap_append]
          have := HO6.out
          simpa using this
  case done =>
    rintro D ys W hD hS ⟨⟨⟨v, hv, hown, hG⟩, hr0, hr1⟩, hB⟩ hK
    obtain ⟨A, cp, rfl, hin, -⟩ := own_ins11 hown
    have HOW := hid hown
    have HP := hid (ok_done11 hG hS)
    have HV9 := hid hv
    have b0 := hv.cell
    have HR0 := hid hr0
    have HR1 := hid hr1
    have r0 := hr0.cell
    have r1 := hr1.cell
    have f0 := hr0.frozen
    have f1 := hr1.frozen
    have HB := hid hB
    obtain ⟨l, hl⟩ : ∃ l, l = pd11 ys := ⟨_, rfl⟩
    rw [← hl] at HOW HP HV9 b0
    clear hv hown hG hr0 hr1 hB hS hin hl
    gi_wp2
    obtain ⟨q1, q2, q3, q4⟩ := res2_11 (w := w) (.slice A l.length cp) (.int .i64 0) HR0.out HR1.out (by omega) (Nat.le_refl _) (by omega) HB.out
    have hK' := q1.same D _ hK rfl
    have hO : ((W.setCell ⟨w.heap.size, 0, none⟩ (.slice A l.length cp)).setCell ⟨w.heap.size + 1, 0, none⟩ (.int .i64 0)).ownsRow w.heap.size 34 2 (.slice A l.length cp) l.length (l.flatMap in211) := by
      have h1 := HOW.out.kept (grownBy_setCell' W w.heap.size (.slice A l.length cp)) (.inr (HR0.out.not_row (by decide) HOW.out).symm)
      exact h1.kept (grownBy_setCell' _ (w.heap.size + 1) (.int .i64 0)) (.inr ((HR1.out.other (by omega) _).not_row (by decide) h1).symm)
    have hO2 := ownsRow_putObj hO (.deferred none) hK' rfl
    obtain ⟨A', cp', e', hin, -⟩ := own_ins11 hO2
    obtain ⟨rfl, rfl⟩ : A = A' ∧ cp = cp' := by
      injection e' with h1 _ h2
      exact ⟨h1, h2⟩
    refine ⟨by simp, .inl ⟨_, _, rfl, run_takeDeferred hK', ?_⟩⟩
    have c0 := cell_kept q2.cell (grownBy_putObj' _ D (.deferred none)) (fun r e => by cases e; exact ⟨_, hK', rfl⟩)
    have c1 := cell_kept q3.cell (grownBy_putObj' _ D (.deferred none)) (fun r e => by cases e; exact ⟨_, hK', rfl⟩)
    refine ⟨.tuple #[.slice A l.length cp, .int .i64 0], ?_, A, cp, by rw [HP.out], by rw [HP.out]; exact hin, q4.trans (belowK_b (w := w) (Nat.le_refl _) _ D _ _ (by omega) hK' rfl rfl)⟩
    simp [results, Tryd.f18, go_sem, c0, c1]
  case stop =>
    rintro D cd pre W hD hpre ⟨⟨⟨rfl, hbad⟩, hr0, hr1⟩, hB⟩ hK
    have HP := hid (bad_done11 hbad hpre)
    have HB := hid hB
    have HR0 := hid hr0
    have HR1 := hid hr1
    clear hbad hB hr0 hr1
    gi_wp2
    refine ⟨by simp, .inl ⟨_, _, rfl, run_takeDeferred hK, ?_⟩⟩
    have c0 := cell_kept (Boxed.cell HR0.out) (grownBy_putObj' _ D (.deferred none)) (fun r e => by cases e; exact ⟨_, hK, rfl⟩)
    have c1 := cell_kept (Boxed.cell HR1.out) (grownBy_putObj' _ D (.deferred none)) (fun r e => by cases e; exact ⟨_, hK, rfl⟩)
    refine ⟨.tuple #[.slice none 0 0, .int .i64 111], ?_, none, 0, by rw [HP.out]; rfl, by rw [HP.out]; exact fun h => absurd h (Nat.lt_irrefl 0), HB.out.trans (belowK_b (w := w) (Nat.le_refl _) W D _ _ (by omega) hK rfl rfl)⟩
    simp [results, Tryd.f18, go_sem, c0, c1]
end Go.Proofs.YtobelbaeaamkkaaDoor
