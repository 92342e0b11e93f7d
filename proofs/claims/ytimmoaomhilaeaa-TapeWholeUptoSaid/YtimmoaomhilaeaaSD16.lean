/- The document's words on tapes: what is drawn. -/
import Derived.Test.YtimmoaomhilaeaaSC16
import Derived.Test.YtimmoaomhilaeaaMB16
namespace Go.Proofs.Ytimmoaomhilaeaa
open Go.RowKit
set_option maxRecDepth 100000
/-- the answer: an input, a tape, and an error -/
def DrawA (w : World) (n : Int) (u : Tp) (er : Int) (e : Ending) (w' : World) : Prop :=
  ∃ P p Q q, e = .returned (.tuple #[.int .i64 n, .agg #[.slice P u.log.length p, .slice Q u.rest.length q], .int .i64 er]) ∧ IntsR w' P u.log ∧ IntsR w' Q u.rest ∧ (P = none → p = 0) ∧ (Q = none → q = 0) ∧ u.log.length ≤ p ∧ u.rest.length ≤ q ∧ Below w.heap.size w w'
def drB (t : Tp) (k : Int) : Bool := dvB t k && decide (k ≠ 1000)
def drN (t : Tp) (k : Int) : Int := if drB t k = true then (allT t).getD k.toNat 0 else 0
def drT (t : Tp) (k : Int) : Tp := if drB t k = true then (if k < t.log.length then t else ⟨t.log ++ [drN t k], t.rest.drop 1⟩) else ⟨[], []⟩
def drE (t : Tp) (k : Int) : Int := if drB t k = true then 0 else 160
theorem drT_no {t : Tp} {k : Int} (h : drB t k = false) : drT t k = ⟨[], []⟩ := by unfold drT; rw [if_neg (by rw [h]; decide)]
theorem drE_no {t : Tp} {k : Int} (h : drB t k = false) : drE t k = 160 := by unfold drE; rw [if_neg (by rw [h]; decide)]
theorem drN_no {t : Tp} {k : Int} (h : drB t k = false) : drN t k = 0 := by unfold drN; rw [if_neg (by rw [h]; decide)]
theorem drE_yes {t : Tp} {k : Int} (h : drB t k = true) : drE t k = 0 := by unfold drE; rw [if_pos h]
theorem drT_log {t : Tp} {m : Nat} (h : drB t m = true) (hm : m < t.log.length) : drT t m = t ∧ drN t m = t.log[m] := by
  refine ⟨by unfold drT; rw [if_pos h, if_pos (by omega)], ?_⟩
  unfold drN
  rw [if_pos h]
  simp [allT, List.getElem?_append_left hm, List.getElem?_eq_getElem hm]
theorem drT_new {t : Tp} {m : Nat} (h : drB t m = true) (hm : m = t.log.length) : drT t m = ⟨t.log ++ [t.rest.getD 0 0], t.rest.drop 1⟩ ∧ drN t m = t.rest.getD 0 0 := by
  have e : drN t m = t.rest.getD 0 0 := by
    unfold drN
    rw [if_pos h]
    subst hm
    simp [allT, List.getElem?_append_right]
  refine ⟨?_, e⟩
  unfold drT
  rw [if_pos h, if_neg (by omega), e]
set_option maxHeartbeats 4000000 in
theorem rdraw_any16 (t : Tp) (A B : Option Addr) (c d : Nat) (w : World) (hA : IntsR w A t.log) (hB : IntsR w B t.rest) (nA : A = none → c = 0) (nB : B = none → d = 0) (lA : t.log.length ≤ c) (lB : t.rest.length ≤ d) (k : Int) (hl : t.log.length + t.rest.length ≤ 1048576) :
    Calls Try.prog 9 #[.agg #[.slice A t.log.length c, .slice B t.rest.length d], .int .i64 k] w (DrawA w (drN t k) (drT t k) (drE t k)) := by
  obtain ⟨w0, hw0⟩ : ∃ w0, w0 = (w.alloc (.cells #[.slice A t.log.length c, .slice B t.rest.length d] 24)).alloc (.cells #[.slice none 0 0, .slice none 0 0] 24) := ⟨_, rfl⟩
  have HB0 : Hid (Below w.heap.size w w0) := by show Below _ _ _; rw [hw0]; exact below_alloc2 w _ _
  have X0 : Hid (Lies w0 w.heap.size 24 #[.slice A t.log.length c, .slice B t.rest.length d]) := by show Lies _ _ _ _; rw [hw0]; exact (Lies.new w _ _).alloc _
  have K0 : Hid (Lies w0 (w.heap.size + 1) 24 #[.slice none 0 0, .slice none 0 0]) := by
    show Lies _ _ _ _
    rw [hw0]
    have := Lies.new (w.alloc (.cells #[.slice A t.log.length c, .slice B t.rest.length d] 24)) 24 #[.slice none 0 0, .slice none 0 0]
    simpa [Hid] using this
  have RA0 := hid (hA.below HB0.out)
  have RB0 := hid (hB.below HB0.out)
  have NA := hid nA
  have NB := hid nB
  have RB := hid hB
  have RA := hid hA
  have LA := hid lA
  have LB := hid lB
  clear hA hB nA nB lA lB
  go_enter Try.func9, Try.ntmps9
  go_upto_region 1 with fail
  rw [← hw0]
  clear hw0
  have x0 := X0.out.cell 0
  have x1 := X0.out.cell 1
  have y0 := K0.out.cell 0
  have y1 := K0.out.cell 1
  have yf0 := K0.out.frozen 0
  have yf1 := K0.out.frozen 1
  simp only [List.getElem?_toArray, List.getElem?_cons_zero, List.getElem?_cons_succ] at x0 x1 y0 y1
  go_wp2_with fail
  refine (rcheck_any16 t A B c d _ RA0.out RB0.out NA.out NB.out hl).mono ?_
  rintro e w1 ⟨rfl, hb⟩
  have X1 := hid (X0.out.later hb)
  have K1 := hid (K0.out.later hb)
  have HB1 := hid (then_w HB0.out hb)
  have RA1 := hid (RA0.out.below hb)
  have RB1 := hid (RB0.out.below hb)
  clear hb
  clear x0 x1 y0 y1 yf0 yf1
  by_cases hm : mayT t = true
  · by_cases h0 : 0 ≤ k
    · by_cases h1 : k ≤ (t.log.length : Int)
      · by_cases h2 : k = 1000
        · have E : Hid (drB t k = false) := by show _ = _; unfold drB; rw [decide_eq_false (fun h => h h2), Bool.and_false]
          subst h2
          rw [ckT_yes hm]
          have x0 := X1.out.cell 0
          have x1 := X1.out.cell 1
          have y0 := K1.out.cell 0
          have y1 := K1.out.cell 1
          have yf0 := K1.out.frozen 0
          have yf1 := K1.out.frozen 1
          simp only [List.getElem?_toArray, List.getElem?_cons_zero, List.getElem?_cons_succ] at x0 x1 y0 y1
          go_wp2_with fail
          clear x0 x1 y0 y1 yf0 yf1
          have KF := (K1.out.set_ 0 (.slice none 0 0)).set_ 1 (.slice none 0 0)
          have r0 := KF.cell 0
          have r1 := KF.cell 1
          simp only [List.setIfInBounds_toArray, List.set_cons_zero, List.set_cons_succ, List.getElem?_toArray, List.getElem?_cons_zero, List.getElem?_cons_succ] at r0 r1
          refine bodyPost_ret (v := .tuple #[.int .i64 0, .agg #[.slice none 0 0, .slice none 0 0], .int .i64 160]) (by simp [results, Try.results9, go_sem, r0, r1]) rfl ?_
          exact ⟨none, 0, none, 0, by rw [drN_no E.out, drT_no E.out, drE_no E.out]; rfl, by rw [drT_no E.out]; exact ints_nil16 _ _, by rw [drT_no E.out]; exact ints_nil16 _ _, fun _ => rfl, fun _ => rfl, by rw [drT_no E.out]; exact Nat.le_refl _, by rw [drT_no E.out]; exact Nat.le_refl _, (HB1.out.setCell (p := ⟨w.heap.size + 1, 0, none⟩) (by simp) _).setCell (p := ⟨w.heap.size + 1, 1, none⟩) (by simp) _⟩
        · have E : Hid (drB t k = true) := by show _ = _; unfold drB dvB; rw [hm, decide_eq_true h0, decide_eq_true h1, decide_eq_true h2]; rfl
          rw [ckT_yes hm]
          have HM := hid hm
          clear hm
          obtain ⟨m, rfl⟩ : ∃ m : Nat, k = m := ⟨k.toNat, by omega⟩
          have hq : ((m : Int) == 1000) = false := by simpa using h2
          by_cases h3 : m < t.log.length
          · obtain ⟨bs, os, rfl, hbs, hcs⟩ := RA1.out (by omega)
            have hm2 : m < t.log.length := by omega
            have hcell : w1.cell? ⟨bs, os + m, none⟩ = some (.int .i64 t.log[m]) := hcs m _ (List.getElem?_eq_getElem hm2)
            have EV : Hid (drT t m = t ∧ drN t m = t.log[m]) := by show _ ∧ _; exact drT_log E.out hm2
            clear hcs
            have x0 := X1.out.cell 0
            have x1 := X1.out.cell 1
            have y0 := K1.out.cell 0
            have y1 := K1.out.cell 1
            have yf0 := K1.out.frozen 0
            have yf1 := K1.out.frozen 1
            simp only [List.getElem?_toArray, List.getElem?_cons_zero, List.getElem?_cons_succ] at x0 x1 y0 y1
            go_upto_region 4 with fail
            go_region
            clear y0 y1 yf0 yf1 x0 x1 hcell
            have KF := ((K1.out.set_ 0 (.slice (some ⟨bs, os, none⟩) t.log.length c)).set_ 1 (.slice B t.rest.length d)).drew
            have h1 := ((HB1.out.setCell (p := ⟨w.heap.size + 1, 0, none⟩) (by simp) (.slice (some ⟨bs, os, none⟩) t.log.length c)).setCell (p := ⟨w.heap.size + 1, 1, none⟩) (by simp) (.slice B t.rest.length d)).drew
            have r0 := KF.cell 0
            have r1 := KF.cell 1
            simp only [List.setIfInBounds_toArray, List.set_cons_zero, List.set_cons_succ, List.getElem?_toArray, List.getElem?_cons_zero, List.getElem?_cons_succ] at r0 r1
            go_wp2_with fail
            refine bodyPost_ret (v := .tuple #[.int .i64 t.log[m], .agg #[.slice (some ⟨bs, os, none⟩) t.log.length c, .slice B t.rest.length d], .int .i64 0]) (by simp [results, Try.results9, go_sem, r0, r1]) rfl ?_
            exact ⟨some ⟨bs, os, none⟩, c, B, d, by rw [EV.out.1, EV.out.2, drE_yes E.out], by rw [EV.out.1]; exact RA.out.below h1, by rw [EV.out.1]; exact RB.out.below h1, NA.out, NB.out, by rw [EV.out.1]; exact LA.out, by rw [EV.out.1]; exact LB.out, h1⟩
          · obtain rfl : m = t.log.length := by omega
            have HLN : Hid (t.log.length + t.rest.length ≤ 1000) := by
              show _ ≤ _
              have := HM.out
              unfold mayT at this
              rw [Bool.and_eq_true, decide_eq_true_iff, allT_len] at this
              exact this.2
            clear h3 h0 h1 h2
            by_cases h4 : t.rest.length = 0
            · have hr : t.rest = [] := List.eq_nil_of_length_eq_zero h4
              have EV : Hid (drT t t.log.length = ⟨t.log ++ [0], []⟩ ∧ drN t t.log.length = 0) := by
                show _ ∧ _
                have := drT_new E.out rfl
                rw [hr] at this
                exact this
              obtain ⟨g3, c3, wa, hr1, hb1, hg1, ho1⟩ := app_any16 (w1.alloc (.cells #[] 3)) w1.heap.size (Lies.new _ _ _) t.log A c (RA1.out.below (below_alloc _ _)) NA.out (by have := HLN.out; omega)
              have HR1 := hid hr1
              have HBa : Hid (Below w1.heap.size w1 wa) := dt16 (below_alloc _ _) hb1
              have GE3 : Hid (w1.heap.size ≤ g3) := by
                show _ ≤ _
                rcases hg1 with h | h
                · exact Nat.le_of_eq h.symm
                · exact Nat.le_trans (below_alloc w1 (.cells #[] 3)).size h
              have R3 : Hid (wa.ownsRow w1.heap.size 3 1 (.slice (some ⟨g3, 0, none⟩) t.log.length c3) t.log.length (t.log.map (Value.int .i64))) := own_base16 ho1 GE3.out
              clear hr1 hb1 hg1 ho1
              have hbb := below_alloc wa (.cells #[.int .i64 0] 3)
              obtain ⟨v5, wb, hr2, ho2, hg2⟩ := run_app_ints16 (wa.alloc (.cells #[.int .i64 0] 3)) w1.heap.size _ _ t.log (own_later R3.out hbb) (some ⟨wa.heap.size, 0, none⟩) 1 [0] (ints_lies16 (Lies.new _ _ _)) (fun h => by cases h) (by have := HLN.out; simp; omega) (Nat.le_trans HBa.out.size hbb.size)
              obtain ⟨A5, c5, rfl⟩ := own_form ho2
              have HR2 := hid hr2
              have R5 := hid ho2
              have HBb : Hid (Below w1.heap.size w1 wb) := (dt16 HBa.out hbb).grown hg2 (Nat.le_trans HBa.out.size hbb.size) (fun k hk => ((own_later R3.out hbb).lt k hk).1)
              clear hr2 ho2 hg2 hbb
              have x0 := X1.out.cell 0
              have x1 := X1.out.cell 1
              have y0 := K1.out.cell 0
              have y1 := K1.out.cell 1
              have yf0 := K1.out.frozen 0
              have yf1 := K1.out.frozen 1
              simp only [List.getElem?_toArray, List.getElem?_cons_zero, List.getElem?_cons_succ] at x0 x1 y0 y1
              obtain ⟨z0, z1⟩ := (K1.out.later HBb.out).c2
              obtain ⟨zf0, zf1⟩ := (K1.out.later HBb.out).f2
              obtain ⟨u0, u1⟩ := (X1.out.alloc (.cells #[] 3)).c2
              go_wp2_with (first | (at_builtin; refine wpList_append_run16 rfl (.tmp 41) (.tmp 43) 22 rfl _ _ HR1.out ?_) | (at_builtin; refine wpList_append_run16 rfl (.tmp 44) (.tmp 45) 22 rfl _ _ HR2.out ?_))
              clear x0 x1 y0 y1 yf0 yf1 z0 z1 zf0 zf1 u0 u1
              have KF := ((K1.out.later HBb.out).set_ 0 (.slice A5 (t.log.length + 1) c5)).set_ 1 (.slice none 0 0)
              have h1 := ((then_w HB1.out HBb.out).setCell (p := ⟨w.heap.size + 1, 0, none⟩) (by simp) (.slice A5 (t.log.length + 1) c5)).setCell (p := ⟨w.heap.size + 1, 1, none⟩) (by simp) (.slice none 0 0)
              have hlt : w.heap.size + 1 < w1.heap.size := K1.out.lt
              have r0 := KF.cell 0
              have r1 := KF.cell 1
              simp only [List.setIfInBounds_toArray, List.set_cons_zero, List.set_cons_succ, List.getElem?_toArray, List.getElem?_cons_zero, List.getElem?_cons_succ] at r0 r1
              refine bodyPost_ret (v := .tuple #[.int .i64 0, .agg #[.slice A5 (t.log.length + 1) c5, .slice none 0 0], .int .i64 0]) (by simp [results, Try.results9, go_sem, r0, r1]) rfl ?_
              refine ⟨A5, c5, none, 0, ?_, ?_, ?_, own_nil16 R5.out, fun _ => rfl, ?_, ?_, h1⟩
              · rw [EV.out.1, EV.out.2, drE_yes E.out]; show _ = Ending.returned (.tuple #[.int .i64 0, .agg #[.slice A5 (t.log ++ [0]).length c5, .slice none 0 0], .int .i64 0]); rw [List.length_append]; rfl
              · rw [EV.out.1]; exact own_ints (xs := t.log ++ [0]) (c := c5) (by rw [List.length_append]; exact own_far16 (own_far16 R5.out hlt 0 _) hlt 1 _)
              · rw [EV.out.1]; exact ints_nil16 _ _
              · rw [EV.out.1]; show (t.log ++ [0]).length ≤ c5; rw [List.length_append]; exact own_cap R5.out
              · rw [EV.out.1]; exact Nat.le_refl _
            · obtain ⟨x, xs, hr⟩ : ∃ x xs, t.rest = x :: xs := by
                cases h : t.rest with
                | nil => rw [h] at h4; exact absurd rfl h4
                | cons x xs => exact ⟨x, xs, rfl⟩
              have EV : Hid (drT t t.log.length = ⟨t.log ++ [x], xs⟩ ∧ drN t t.log.length = x) := by
                show _ ∧ _
                have := drT_new E.out rfl
                rw [hr] at this
                exact this
              have HXS : Hid (xs.length + 1 = t.rest.length) := by show _ = _; rw [hr]; rfl
              obtain ⟨bt, ot, rfl, hbt, hct⟩ := RB.out (by omega)
              have HX : Hid (w1.cell? ⟨bt, ot, none⟩ = some (.int .i64 x)) := by
                obtain ⟨b2, o2, e, h2, hc2⟩ := RB1.out (by omega)
                cases e
                exact hc2 0 x (by rw [hr]; rfl)
              have NBT : Hid (bt ≠ w.heap.size + 1) := by show _ ≠ _; omega
              have HBT : Hid (bt < w1.heap.size) := by show _ < _; have := K1.out.lt; omega
              have hd1 : 1 ≤ d := by have := LB.out; omega
              have RQ0 : Hid (IntsR w1 (some ⟨bt, ot + 1, none⟩) xs) := by have := IntsR.tail16 RB1.out; rw [hr] at this; exact this
              have RQ1 : Hid (IntsR w1 (if d = 1 then some ⟨bt, ot, none⟩ else some ⟨bt, ot + 1, none⟩ : Option Addr) xs) := by
                show IntsR _ _ _
                by_cases h : d = 1
                · have e : xs = [] := List.eq_nil_of_length_eq_zero (by have := HXS.out; have := LB.out; omega)
                  rw [e]; exact ints_nil16 _ _
                · rw [if_neg h]; exact RQ0.out
              have NQ : Hid ((if d = 1 then some ⟨bt, ot, none⟩ else some ⟨bt, ot + 1, none⟩ : Option Addr) = none → d - 1 = 0) := fun e => by split at e <;> cases e
              have hq1 : (1 : Int) ≤ (xs.length : Int) + 1 := by omega
              clear hbt hct RQ0
              have x0 := X1.out.cell 0
              have x1 := X1.out.cell 1
              have y0 := K1.out.cell 0
              have y1 := K1.out.cell 1
              have yf0 := K1.out.frozen 0
              have yf1 := K1.out.frozen 1
              simp only [List.getElem?_toArray, List.getElem?_cons_zero, List.getElem?_cons_succ] at x0 x1 y0 y1
              go_upto_region 7 with fail
              refine wp_region_held_drew (S := (fun w' => w'.cell? ⟨w.heap.size, 0, none⟩ = some (.slice A t.log.length c) ∧ w'.cell? ⟨w.heap.size, 1, none⟩ = some (.slice (some ⟨bt, ot, none⟩) t.rest.length d) ∧ w'.cell? ⟨bt, ot, none⟩ = some (.int .i64 x))) (by kernel_rfl) ?_ (fun hH0 => ?_)
              · exact ⟨x0, x1, HX.out⟩
              obtain ⟨vd, hvd⟩ : ∃ y_, y_ = w1.drew := ⟨_, rfl⟩
              rw [← hvd] at hH0 ⊢
              have HB_vd : Hid (Below w1.heap.size w1 vd) := by show Below _ _ _; rw [hvd]; exact (Below.refl _ _).drew
              clear hvd x0 x1 y0 y1 yf0 yf1
              refine wpAnyH_take (i := 0) (oi := { dst := some 48, op := Go.Op.fieldAddr 24 (Go.Operand.tmp 2) 1, type := 0, pos := "ref.go:39", after := #[], guard := none }) (v := ?vv9) rfl (by kernel_rfl) (by kernel_rfl) (by kernel_rfl) (fun _ _ _ h => h) (Or.inl ⟨by rfl, ?hy9⟩) (by assumption) ?rr9
              case hy9 => intro w hSw; (try dsimp only at hSw); go_simp; all_goals with_reducible rfl
              try simp only [Act.put, List.setIfInBounds_toArray, List.set_cons_zero, List.set_cons_succ]
              refine wpAnyH_take (i := 1) (oi := { dst := some 49, op := Go.Op.load 22 (Go.Operand.tmp 48), type := 22, pos := "ref.go:39", after := #[{ on := 0, ground := Go.Ground.data }], guard := none }) (v := ?vv10) rfl (by kernel_rfl) (by kernel_rfl) (by kernel_rfl) (fun _ _ _ h => h) (Or.inl ⟨by rfl, ?hy10⟩) (by assumption) ?rr10
              case hy10 => intro w hSw; (try dsimp only at hSw); go_simp; all_goals with_reducible rfl
              try simp only [Act.put, List.setIfInBounds_toArray, List.set_cons_zero, List.set_cons_succ]
              refine wpAnyH_take (i := 2) (oi := { dst := some 50, op := Go.Op.indexAddr 22 (Go.Operand.tmp 49) (Go.Operand.const (Go.Value.int Go.IntKind.i64 0)), type := 0, pos := "ref.go:39", after := #[{ on := 1, ground := Go.Ground.data }], guard := none }) (v := ?vv11) rfl (by kernel_rfl) (by kernel_rfl) (by kernel_rfl) (fun _ _ _ h => h) (Or.inl ⟨by rfl, ?hy11⟩) (by assumption) ?rr11
              case hy11 => intro w hSw; (try dsimp only at hSw); go_simp; all_goals with_reducible rfl
              try simp only [Act.put, List.setIfInBounds_toArray, List.set_cons_zero, List.set_cons_succ]
              refine wpAnyH_take (i := 3) (oi := { dst := some 51, op := Go.Op.load 3 (Go.Operand.tmp 50), type := 3, pos := "ref.go:39", after := #[{ on := 2, ground := Go.Ground.data }], guard := none }) (v := ?vv12) rfl (by kernel_rfl) (by kernel_rfl) (by kernel_rfl) (fun _ _ _ h => h) (Or.inl ⟨by rfl, ?hy12⟩) (by assumption) ?rr12
              case hy12 => intro w hSw; (try dsimp only at hSw); go_simp; all_goals with_reducible rfl
              try simp only [Act.put, List.setIfInBounds_toArray, List.set_cons_zero, List.set_cons_succ]
              refine wpAnyH_take (i := 5) (oi := { dst := some 53, op := Go.Op.fieldAddr 24 (Go.Operand.tmp 2) 0, type := 0, pos := "ref.go:39", after := #[], guard := none }) (v := ?vv13) rfl (by kernel_rfl) (by kernel_rfl) (by kernel_rfl) (fun _ _ _ h => h) (Or.inl ⟨by rfl, ?hy13⟩) (by assumption) ?rr13
              case hy13 => intro w hSw; (try dsimp only at hSw); go_simp; all_goals with_reducible rfl
              try simp only [Act.put, List.setIfInBounds_toArray, List.set_cons_zero, List.set_cons_succ]
              refine wpAnyH_take (i := 6) (oi := { dst := some 54, op := Go.Op.load 22 (Go.Operand.tmp 53), type := 22, pos := "ref.go:39", after := #[{ on := 5, ground := Go.Ground.data }], guard := none }) (v := ?vv14) rfl (by kernel_rfl) (by kernel_rfl) (by kernel_rfl) (fun _ _ _ h => h) (Or.inl ⟨by rfl, ?hy14⟩) (by assumption) ?rr14
              case hy14 => intro w hSw; (try dsimp only at hSw); go_simp; all_goals with_reducible rfl
              try simp only [Act.put, List.setIfInBounds_toArray, List.set_cons_zero, List.set_cons_succ]
              refine wpAnyH_take (i := 8) (oi := { dst := some 56, op := Go.Op.fieldAddr 24 (Go.Operand.tmp 2) 1, type := 0, pos := "ref.go:39", after := #[], guard := none }) (v := ?vv15) rfl (by kernel_rfl) (by kernel_rfl) (by kernel_rfl) (fun _ _ _ h => h) (Or.inl ⟨by rfl, ?hy15⟩) (by assumption) ?rr15
              case hy15 => intro w hSw; (try dsimp only at hSw); go_simp; all_goals with_reducible rfl
              try simp only [Act.put, List.setIfInBounds_toArray, List.set_cons_zero, List.set_cons_succ]
              refine wpAnyH_take (i := 9) (oi := { dst := some 57, op := Go.Op.load 22 (Go.Operand.tmp 56), type := 22, pos := "ref.go:39", after := #[{ on := 8, ground := Go.Ground.data }], guard := none }) (v := ?vv16) rfl (by kernel_rfl) (by kernel_rfl) (by kernel_rfl) (fun _ _ _ h => h) (Or.inl ⟨by rfl, ?hy16⟩) (by assumption) ?rr16
              case hy16 => intro w hSw; (try dsimp only at hSw); go_simp; all_goals with_reducible rfl
              try simp only [Act.put, List.setIfInBounds_toArray, List.set_cons_zero, List.set_cons_succ]
              refine wpAnyH_take (i := 10) (oi := { dst := some 58, op := Go.Op.indexAddr 22 (Go.Operand.tmp 57) (Go.Operand.const (Go.Value.int Go.IntKind.i64 0)), type := 0, pos := "ref.go:39", after := #[{ on := 9, ground := Go.Ground.data }], guard := none }) (v := ?vv17) rfl (by kernel_rfl) (by kernel_rfl) (by kernel_rfl) (fun _ _ _ h => h) (Or.inl ⟨by rfl, ?hy17⟩) (by assumption) ?rr17
              case hy17 => intro w hSw; (try dsimp only at hSw); go_simp; all_goals with_reducible rfl
              try simp only [Act.put, List.setIfInBounds_toArray, List.set_cons_zero, List.set_cons_succ]
              refine wpAnyH_take (i := 11) (oi := { dst := some 59, op := Go.Op.load 3 (Go.Operand.tmp 58), type := 3, pos := "ref.go:39", after := #[{ on := 10, ground := Go.Ground.data }], guard := none }) (v := ?vv18) rfl (by kernel_rfl) (by kernel_rfl) (by kernel_rfl) (fun _ _ _ h => h) (Or.inl ⟨by rfl, ?hy18⟩) (by assumption) ?rr18
              case hy18 => intro w hSw; (try dsimp only at hSw); go_simp; all_goals with_reducible rfl
              try simp only [Act.put, List.setIfInBounds_toArray, List.set_cons_zero, List.set_cons_succ]
              refine wpAnyH_take (i := 15) (oi := { dst := some 63, op := Go.Op.fieldAddr 24 (Go.Operand.tmp 2) 1, type := 0, pos := "ref.go:39", after := #[], guard := none }) (v := ?vv19) rfl (by kernel_rfl) (by kernel_rfl) (by kernel_rfl) (fun _ _ _ h => h) (Or.inl ⟨by rfl, ?hy19⟩) (by assumption) ?rr19
              case hy19 => intro w hSw; (try dsimp only at hSw); go_simp; all_goals with_reducible rfl
              try simp only [Act.put, List.setIfInBounds_toArray, List.set_cons_zero, List.set_cons_succ]
              refine wpAnyH_take (i := 16) (oi := { dst := some 64, op := Go.Op.load 22 (Go.Operand.tmp 63), type := 22, pos := "ref.go:39", after := #[{ on := 15, ground := Go.Ground.data }], guard := none }) (v := ?vv20) rfl (by kernel_rfl) (by kernel_rfl) (by kernel_rfl) (fun _ _ _ h => h) (Or.inl ⟨by rfl, ?hy20⟩) (by assumption) ?rr20
              case hy20 => intro w hSw; (try dsimp only at hSw); go_simp; all_goals with_reducible rfl
              try simp only [Act.put, List.setIfInBounds_toArray, List.set_cons_zero, List.set_cons_succ]
              refine wpAnyH_take (i := 17) (oi := { dst := some 65, op := Go.Op.slice 22 (Go.Operand.tmp 64) (some (Go.Operand.const (Go.Value.int Go.IntKind.i64 1))) none none, type := 22, pos := "ref.go:39", after := #[{ on := 16, ground := Go.Ground.data }], guard := none }) (v := ?vv21) rfl (by kernel_rfl) (by kernel_rfl) (by kernel_rfl) (fun _ _ _ h => h) (Or.inl ⟨by rfl, ?hy21⟩) (by assumption) ?rr21
              case hy21 => intro w hSw; (try dsimp only at hSw); go_simp; all_goals with_reducible rfl
              try simp only [Act.put, List.setIfInBounds_toArray, List.set_cons_zero, List.set_cons_succ]
              refine wpAnyH_ready (rs := [4, 12, 14]) (by kernel_rfl) (by simp) ?_
              refine AllReadyH.cons (i := 4) (o := { dst := some 52, op := Go.Op.buildSlice 22 0 #[], type := 22, pos := "ref.go:39", after := #[], guard := none }) rfl (fun K hK => ?_) (AllReadyH.cons (i := 12) (o := { dst := some 60, op := Go.Op.buildSlice 22 1 #[(0, Go.Operand.tmp 59)], type := 22, pos := "ref.go:39", after := #[{ on := 11, ground := Go.Ground.data }], guard := none }) rfl (fun K hK => ?_) (AllReadyH.cons (i := 14) (o := { dst := some 62, op := Go.Op.buildSlice 22 0 #[], type := 22, pos := "ref.go:39", after := #[], guard := none }) rfl (fun K hK => ?_) AllReadyH.nil))
              · go_simp
                obtain ⟨vd_4, hw⟩ : ∃ y_, y_ = vd.alloc (.cells #[] 3) := ⟨_, rfl⟩
                obtain ⟨b4, hb⟩ : ∃ y_, y_ = vd.heap.size := ⟨_, rfl⟩
                rw [← hw, ← hb]
                have BNvd_4 : Hid (Below vd.heap.size vd vd_4) := by show Below _ _ _; rw [hw]; exact below_alloc _ _
                have L4_vd_4 : Hid (Lies vd_4 b4 3 #[]) := by show Lies _ _ _ _; rw [hw, hb]; exact Lies.new _ _ _
                have BE4 : Hid (w1.heap.size ≤ b4) := by show _ ≤ _; rw [hb]; exact HB_vd.out.size
                clear hw hb
                have HB_vd_4 := hid (dt16 HB_vd.out BNvd_4.out)
                refine hK.out _ _ ?_ (fun hH1 => ?_)
                · exact ⟨(X1.out.later HB_vd_4.out).c2.1, (X1.out.later HB_vd_4.out).c2.2, (HB_vd_4.out.cell (p := ⟨bt, ot, none⟩) HBT.out).trans HX.out⟩
                clear hK K
                try simp only [Act.put, List.setIfInBounds_toArray, List.set_cons_zero, List.set_cons_succ]
                refine wpAnyH_ready (rs := [7, 12, 14]) (by kernel_rfl) (by simp) ?_
                refine AllReadyH.cons (i := 7) (o := { dst := some 55, op := Go.Op.call { callee := Go.Callee.builtin Go.Builtin.append, args := #[Go.Operand.tmp 52, Go.Operand.tmp 54], argTypes := #[22, 22] }, type := 22, pos := "ref.go:39", after := #[{ on := 4, ground := Go.Ground.data }, { on := 6, ground := Go.Ground.data }], guard := none }) rfl (fun K hK => ?_) (AllReadyH.cons (i := 12) (o := { dst := some 60, op := Go.Op.buildSlice 22 1 #[(0, Go.Operand.tmp 59)], type := 22, pos := "ref.go:39", after := #[{ on := 11, ground := Go.Ground.data }], guard := none }) rfl (fun K hK => ?_) (AllReadyH.cons (i := 14) (o := { dst := some 62, op := Go.Op.buildSlice 22 0 #[], type := 22, pos := "ref.go:39", after := #[], guard := none }) rfl (fun K hK => ?_) AllReadyH.nil))
                · obtain ⟨g7, c7, vd_4_7, hr, hb, hg, ho⟩ := app_any16 vd_4 b4 L4_vd_4.out t.log A c (RA1.out.below HB_vd_4.out) NA.out (by have := HLN.out; omega)
                  have BNvd_4_7 := hid hb
                  have HR7 := hid hr
                  have R7_vd_4_7 : Hid (vd_4_7.ownsRow g7 3 1 (.slice (some ⟨g7, 0, none⟩) t.log.length c7) t.log.length (t.log.map (Value.int .i64))) := ho
                  have GE7 : Hid (w1.heap.size ≤ g7) := by
                    show _ ≤ _
                    rcases hg with h | h
                    · rw [h]; exact BE4.out
                    · exact Nat.le_trans HB_vd_4.out.size h
                  clear hr hb hg ho
                  have HB_vd_4_7 := hid (dt16 HB_vd_4.out BNvd_4_7.out)
                  have L4_vd_4_7 := hid (L4_vd_4.out.later BNvd_4_7.out)
                  rw [if_pos (by rfl)]
                  refine wp_append_run16 (.tmp 52) (.tmp 54) 22 rfl _ _ HR7.out ?_
                  refine hK.out _ _ ?_ (fun hH2 => ?_)
                  · exact ⟨(X1.out.later HB_vd_4_7.out).c2.1, (X1.out.later HB_vd_4_7.out).c2.2, (HB_vd_4_7.out.cell (p := ⟨bt, ot, none⟩) HBT.out).trans HX.out⟩
                  clear hK K
                  try simp only [Act.put, List.setIfInBounds_toArray, List.set_cons_zero, List.set_cons_succ]
                  refine wpAnyH_ready (rs := [12, 14]) (by kernel_rfl) (by simp) ?_
                  refine AllReadyH.cons (i := 12) (o := { dst := some 60, op := Go.Op.buildSlice 22 1 #[(0, Go.Operand.tmp 59)], type := 22, pos := "ref.go:39", after := #[{ on := 11, ground := Go.Ground.data }], guard := none }) rfl (fun K hK => ?_) (AllReadyH.cons (i := 14) (o := { dst := some 62, op := Go.Op.buildSlice 22 0 #[], type := 22, pos := "ref.go:39", after := #[], guard := none }) rfl (fun K hK => ?_) AllReadyH.nil)
                  · go_simp
                    obtain ⟨vd_4_7_12, hw⟩ : ∃ y_, y_ = vd_4_7.alloc (.cells #[.int .i64 x] 3) := ⟨_, rfl⟩
                    obtain ⟨b12, hb⟩ : ∃ y_, y_ = vd_4_7.heap.size := ⟨_, rfl⟩
                    rw [← hw, ← hb]
                    have BNvd_4_7_12 : Hid (Below vd_4_7.heap.size vd_4_7 vd_4_7_12) := by show Below _ _ _; rw [hw]; exact below_alloc _ _
                    have L12_vd_4_7_12 : Hid (Lies vd_4_7_12 b12 3 #[.int .i64 x]) := by show Lies _ _ _ _; rw [hw, hb]; exact Lies.new _ _ _
                    have NE4_12 : Hid (b4 ≠ b12) := by show _ ≠ _; rw [hb]; exact Nat.ne_of_lt L4_vd_4_7.out.lt
                    have NG7_12 : Hid (g7 ≠ b12) := by show _ ≠ _; rw [hb]; exact Nat.ne_of_lt (R7_vd_4_7.out.lt g7 rfl).2
                    have BE12 : Hid (w1.heap.size ≤ b12) := by show _ ≤ _; rw [hb]; exact HB_vd_4_7.out.size
                    clear hw hb
                    have HB_vd_4_7_12 := hid (dt16 HB_vd_4_7.out BNvd_4_7_12.out)
                    have L4_vd_4_7_12 := hid (L4_vd_4_7.out.later BNvd_4_7_12.out)
                    have R7_vd_4_7_12 := hid (own_later R7_vd_4_7.out BNvd_4_7_12.out)
                    refine hK.out _ _ ?_ (fun hH3 => ?_)
                    · exact ⟨(X1.out.later HB_vd_4_7_12.out).c2.1, (X1.out.later HB_vd_4_7_12.out).c2.2, (HB_vd_4_7_12.out.cell (p := ⟨bt, ot, none⟩) HBT.out).trans HX.out⟩
                    clear hK K
                    try simp only [Act.put, List.setIfInBounds_toArray, List.set_cons_zero, List.set_cons_succ]
                    refine wpAnyH_ready (rs := [13, 14]) (by kernel_rfl) (by simp) ?_
                    refine AllReadyH.cons (i := 13) (o := { dst := some 61, op := Go.Op.call { callee := Go.Callee.builtin Go.Builtin.append, args := #[Go.Operand.tmp 55, Go.Operand.tmp 60], argTypes := #[22, 22] }, type := 22, pos := "ref.go:39", after := #[{ on := 7, ground := Go.Ground.data }, { on := 12, ground := Go.Ground.data }, { on := 7, ground := Go.Ground.chain }], guard := none }) rfl (fun K hK => ?_) (AllReadyH.cons (i := 14) (o := { dst := some 62, op := Go.Op.buildSlice 22 0 #[], type := 22, pos := "ref.go:39", after := #[], guard := none }) rfl (fun K hK => ?_) AllReadyH.nil)
                    · obtain ⟨v13, vd_4_7_12_13, hr, ho, hg⟩ := run_app_ints16 vd_4_7_12 w1.heap.size _ _ t.log (own_base16 R7_vd_4_7_12.out GE7.out) (some ⟨b12, 0, none⟩) 1 [x] (ints_lies16 L12_vd_4_7_12.out) (fun h => by cases h) (by have := HLN.out; simp; omega) HB_vd_4_7_12.out.size
                      obtain ⟨A13, c13, rfl⟩ := own_form ho
                      have HR13 := hid hr
                      have R13_vd_4_7_12_13 := hid ho
                      have HB_vd_4_7_12_13 : Hid (Below w1.heap.size w1 vd_4_7_12_13) := HB_vd_4_7_12.out.grown hg HB_vd_4_7_12.out.size (fun k hk => ((own_base16 R7_vd_4_7_12.out GE7.out).lt k hk).1)
                      clear hr ho hg
                      rw [if_pos (by rfl)]
                      refine wp_append_run16 (.tmp 55) (.tmp 60) 22 rfl _ _ HR13.out ?_
                      refine hK.out _ _ ?_ (fun hH4 => ?_)
                      · exact ⟨(X1.out.later HB_vd_4_7_12_13.out).c2.1, (X1.out.later HB_vd_4_7_12_13.out).c2.2, (HB_vd_4_7_12_13.out.cell (p := ⟨bt, ot, none⟩) HBT.out).trans HX.out⟩
                      clear hK K
                      try simp only [Act.put, List.setIfInBounds_toArray, List.set_cons_zero, List.set_cons_succ]
                      refine wpAnyH_ready (rs := [14]) (by kernel_rfl) (by simp) ?_
                      refine AllReadyH.cons (i := 14) (o := { dst := some 62, op := Go.Op.buildSlice 22 0 #[], type := 22, pos := "ref.go:39", after := #[], guard := none }) rfl (fun K hK => ?_) AllReadyH.nil
                      go_simp
                      obtain ⟨vd_4_7_12_13_14, hw⟩ : ∃ y_, y_ = vd_4_7_12_13.alloc (.cells #[] 3) := ⟨_, rfl⟩
                      obtain ⟨b14, hb⟩ : ∃ y_, y_ = vd_4_7_12_13.heap.size := ⟨_, rfl⟩
                      rw [← hw, ← hb]
                      have BNvd_4_7_12_13_14 : Hid (Below vd_4_7_12_13.heap.size vd_4_7_12_13 vd_4_7_12_13_14) := by show Below _ _ _; rw [hw]; exact below_alloc _ _
                      have L14_vd_4_7_12_13_14 : Hid (Lies vd_4_7_12_13_14 b14 3 #[]) := by show Lies _ _ _ _; rw [hw, hb]; exact Lies.new _ _ _
                      have BE14 : Hid (w1.heap.size ≤ b14) := by show _ ≤ _; rw [hb]; exact HB_vd_4_7_12_13.out.size
                      clear hw hb
                      have HB_vd_4_7_12_13_14 := hid (dt16 HB_vd_4_7_12_13.out BNvd_4_7_12_13_14.out)
                      have R13_vd_4_7_12_13_14 := hid (own_later R13_vd_4_7_12_13.out BNvd_4_7_12_13_14.out)
                      refine hK.out _ _ ?_ (fun hH5 => ?_)
                      · exact ⟨(X1.out.later HB_vd_4_7_12_13_14.out).c2.1, (X1.out.later HB_vd_4_7_12_13_14.out).c2.2, (HB_vd_4_7_12_13_14.out.cell (p := ⟨bt, ot, none⟩) HBT.out).trans HX.out⟩
                      clear hK K
                      try simp only [Act.put, List.setIfInBounds_toArray, List.set_cons_zero, List.set_cons_succ]
                      refine wpAnyH_ready (rs := [18]) (by kernel_rfl) (by simp) ?_
                      refine AllReadyH.cons (i := 18) (o := { dst := some 66, op := Go.Op.call { callee := Go.Callee.builtin Go.Builtin.append, args := #[Go.Operand.tmp 62, Go.Operand.tmp 65], argTypes := #[22, 22] }, type := 22, pos := "ref.go:39", after := #[{ on := 14, ground := Go.Ground.data }, { on := 17, ground := Go.Ground.data }, { on := 13, ground := Go.Ground.chain }], guard := none }) rfl (fun K hK => ?_) AllReadyH.nil
                      obtain ⟨g18, c18, vd_4_7_12_13_14_18, hr, hb, hg, ho⟩ := app_any16 vd_4_7_12_13_14 b14 L14_vd_4_7_12_13_14.out xs (if d = 1 then some ⟨bt, ot, none⟩ else some ⟨bt, ot + 1, none⟩ : Option Addr) (d - 1) (RQ1.out.below HB_vd_4_7_12_13_14.out) NQ.out (by have := HLN.out; have := HXS.out; omega)
                      have BNvd_4_7_12_13_14_18 := hid hb
                      have HR18 := hid hr
                      have R18_vd_4_7_12_13_14_18 : Hid (vd_4_7_12_13_14_18.ownsRow g18 3 1 (.slice (some ⟨g18, 0, none⟩) xs.length c18) xs.length (xs.map (Value.int .i64))) := ho
                      have GE18 : Hid (w1.heap.size ≤ g18) := by
                        show _ ≤ _
                        rcases hg with h | h
                        · rw [h]; exact BE14.out
                        · exact Nat.le_trans HB_vd_4_7_12_13_14.out.size h
                      clear hr hb hg ho
                      have HB_vd_4_7_12_13_14_18 := hid (dt16 HB_vd_4_7_12_13_14.out BNvd_4_7_12_13_14_18.out)
                      have R13_vd_4_7_12_13_14_18 := hid (own_later R13_vd_4_7_12_13_14.out BNvd_4_7_12_13_14_18.out)
                      have L14_vd_4_7_12_13_14_18 := hid (L14_vd_4_7_12_13_14.out.later BNvd_4_7_12_13_14_18.out)
                      rw [if_pos (by rfl)]
                      refine wp_append_run16 (.tmp 62) (.tmp 65) 22 rfl _ _ HR18.out ?_
                      refine hK.out _ _ ?_ (fun hH6 => ?_)
                      · exact ⟨(X1.out.later HB_vd_4_7_12_13_14_18.out).c2.1, (X1.out.later HB_vd_4_7_12_13_14_18.out).c2.2, (HB_vd_4_7_12_13_14_18.out.cell (p := ⟨bt, ot, none⟩) HBT.out).trans HX.out⟩
                      clear hK K
                      try simp only [Act.put, List.setIfInBounds_toArray, List.set_cons_zero, List.set_cons_succ]
                      refine wpAnyH_take (i := 19) (oi := { dst := some 67, op := Go.Op.build 24 #[(0, Go.Operand.tmp 61), (1, Go.Operand.tmp 66)], type := 24, pos := "ref.go:39", after := #[{ on := 13, ground := Go.Ground.data }, { on := 18, ground := Go.Ground.data }, { on := 20, ground := Go.Ground.gcOnly Go.Departure.lateStores }], guard := none }) (v := ?vv22) rfl (by kernel_rfl) (by kernel_rfl) (by kernel_rfl) (fun _ _ _ h => h) (Or.inl ⟨by rfl, ?hy22⟩) (by assumption) ?rr22
                      case hy22 => intro w hSw; (try dsimp only at hSw); go_simp; all_goals with_reducible rfl
                      try simp only [Act.put, List.setIfInBounds_toArray, List.set_cons_zero, List.set_cons_succ]
                      refine wpAnyH_take (i := 20) (oi := { dst := some 4, op := Go.Op.assign (Go.Operand.tmp 51), type := 3, pos := "ref.go:39", after := #[{ on := 3, ground := Go.Ground.data }, { on := 18, ground := Go.Ground.chain }, { on := 0, ground := Go.Ground.phase }, { on := 1, ground := Go.Ground.phase }, { on := 2, ground := Go.Ground.phase }, { on := 3, ground := Go.Ground.phase }, { on := 4, ground := Go.Ground.textOnly Go.Departure.lateStores }, { on := 5, ground := Go.Ground.textOnly Go.Departure.lateStores }, { on := 6, ground := Go.Ground.textOnly Go.Departure.lateStores }, { on := 7, ground := Go.Ground.textOnly Go.Departure.lateStoresUnsure }, { on := 8, ground := Go.Ground.textOnly Go.Departure.lateStores }, { on := 9, ground := Go.Ground.textOnly Go.Departure.lateStores }, { on := 10, ground := Go.Ground.textOnly Go.Departure.lateStores }, { on := 11, ground := Go.Ground.textOnly Go.Departure.lateStores }, { on := 12, ground := Go.Ground.textOnly Go.Departure.lateStores }, { on := 13, ground := Go.Ground.textOnly Go.Departure.lateStoresUnsure }, { on := 14, ground := Go.Ground.textOnly Go.Departure.lateStores }, { on := 15, ground := Go.Ground.textOnly Go.Departure.lateStores }, { on := 16, ground := Go.Ground.textOnly Go.Departure.lateStores }, { on := 17, ground := Go.Ground.textOnly Go.Departure.lateStoresUnsure }, { on := 18, ground := Go.Ground.textOnly Go.Departure.lateStoresUnsure }, { on := 19, ground := Go.Ground.textOnly Go.Departure.lateStores }], guard := none }) (v := ?vv23) rfl (by kernel_rfl) (by kernel_rfl) (by kernel_rfl) (fun _ _ _ h => h) (Or.inl ⟨by rfl, ?hy23⟩) (by assumption) ?rr23
                      case hy23 => intro w hSw; (try dsimp only at hSw); go_simp; all_goals with_reducible rfl
                      try simp only [Act.put, List.setIfInBounds_toArray, List.set_cons_zero, List.set_cons_succ]
                      refine wpAnyH_ready (rs := [21]) (by kernel_rfl) (by simp) ?_
                      refine AllReadyH.cons (i := 21) (o := { dst := none, op := Go.Op.store 24 (Go.Operand.tmp 5) (Go.Operand.tmp 67), type := 0, pos := "ref.go:39", after := #[{ on := 19, ground := Go.Ground.data }, { on := 20, ground := Go.Ground.chain }, { on := 0, ground := Go.Ground.phase }, { on := 1, ground := Go.Ground.phase }, { on := 2, ground := Go.Ground.phase }, { on := 3, ground := Go.Ground.phase }, { on := 4, ground := Go.Ground.phase }, { on := 5, ground := Go.Ground.phase }, { on := 6, ground := Go.Ground.phase }, { on := 7, ground := Go.Ground.phase }, { on := 8, ground := Go.Ground.phase }, { on := 9, ground := Go.Ground.phase }, { on := 10, ground := Go.Ground.phase }, { on := 11, ground := Go.Ground.phase }, { on := 12, ground := Go.Ground.phase }, { on := 13, ground := Go.Ground.phase }, { on := 14, ground := Go.Ground.phase }, { on := 15, ground := Go.Ground.phase }, { on := 16, ground := Go.Ground.phase }, { on := 17, ground := Go.Ground.phase }, { on := 18, ground := Go.Ground.phase }, { on := 19, ground := Go.Ground.phase }, { on := 20, ground := Go.Ground.phase }], guard := none }) rfl (fun K hK => ?_) AllReadyH.nil
                      obtain ⟨z0, z1⟩ := (K1.out.later HB_vd_4_7_12_13_14_18.out).c2
                      obtain ⟨zf0, zf1⟩ := (K1.out.later HB_vd_4_7_12_13_14_18.out).f2
                      go_simp
                      refine hK.out _ _ ?_ (fun hH7 => ?_)
                      · exact ⟨((((X1.out.later HB_vd_4_7_12_13_14_18.out).far (p := ⟨w.heap.size + 1, 0, none⟩) (by simp) _).far (p := ⟨w.heap.size + 1, 1, none⟩) (by simp) _)).c2.1, ((((X1.out.later HB_vd_4_7_12_13_14_18.out).far (p := ⟨w.heap.size + 1, 0, none⟩) (by simp) _).far (p := ⟨w.heap.size + 1, 1, none⟩) (by simp) _)).c2.2, far_cell16 NBT.out (far_cell16 NBT.out ((HB_vd_4_7_12_13_14_18.out.cell (p := ⟨bt, ot, none⟩) HBT.out).trans HX.out))⟩
                      clear hK K
                      try simp only [Act.put, List.setIfInBounds_toArray, List.set_cons_zero, List.set_cons_succ]
                      clear z0 z1 zf0 zf1
                      refine wpAnyH_take (i := 22) (oi := { dst := some 6, op := Go.Op.assign (Go.Operand.const (Go.Value.int Go.IntKind.i64 0)), type := 26, pos := "ref.go:39", after := #[{ on := 21, ground := Go.Ground.chain }, { on := 0, ground := Go.Ground.phase }, { on := 1, ground := Go.Ground.phase }, { on := 2, ground := Go.Ground.phase }, { on := 3, ground := Go.Ground.phase }, { on := 4, ground := Go.Ground.phase }, { on := 5, ground := Go.Ground.phase }, { on := 6, ground := Go.Ground.phase }, { on := 7, ground := Go.Ground.phase }, { on := 8, ground := Go.Ground.phase }, { on := 9, ground := Go.Ground.phase }, { on := 10, ground := Go.Ground.phase }, { on := 11, ground := Go.Ground.phase }, { on := 12, ground := Go.Ground.phase }, { on := 13, ground := Go.Ground.phase }, { on := 14, ground := Go.Ground.phase }, { on := 15, ground := Go.Ground.phase }, { on := 16, ground := Go.Ground.phase }, { on := 17, ground := Go.Ground.phase }, { on := 18, ground := Go.Ground.phase }, { on := 19, ground := Go.Ground.phase }, { on := 20, ground := Go.Ground.phase }, { on := 21, ground := Go.Ground.phase }], guard := none }) (v := ?vv24) rfl (by kernel_rfl) (by kernel_rfl) (by kernel_rfl) (fun _ _ _ h => h) (Or.inl ⟨by rfl, ?hy24⟩) (by assumption) ?rr24
                      case hy24 => intro w hSw; (try dsimp only at hSw); go_simp; all_goals with_reducible rfl
                      try simp only [Act.put, List.setIfInBounds_toArray, List.set_cons_zero, List.set_cons_succ]
                      refine wpAnyH_done (by kernel_rfl) ?_ _
                      have KF := ((K1.out.later HB_vd_4_7_12_13_14_18.out).set_ 0 (.slice A13 (t.log.length + 1) c13)).set_ 1 (.slice (some ⟨g18, 0, none⟩) xs.length c18)
                      have h1 := ((then_w HB1.out HB_vd_4_7_12_13_14_18.out).setCell (p := ⟨w.heap.size + 1, 0, none⟩) (by simp) (.slice A13 (t.log.length + 1) c13)).setCell (p := ⟨w.heap.size + 1, 1, none⟩) (by simp) (.slice (some ⟨g18, 0, none⟩) xs.length c18)
                      have hlt : w.heap.size + 1 < w1.heap.size := K1.out.lt
                      have r0 := KF.cell 0
                      have r1 := KF.cell 1
                      simp only [List.setIfInBounds_toArray, List.set_cons_zero, List.set_cons_succ, List.getElem?_toArray, List.getElem?_cons_zero, List.getElem?_cons_succ] at r0 r1
                      go_wp2_with fail
                      all_goals
                        refine bodyPost_ret (v := .tuple #[.int .i64 x, .agg #[.slice A13 (t.log.length + 1) c13, .slice (some ⟨g18, 0, none⟩) xs.length c18], .int .i64 0]) (by simp [results, Try.results9, go_sem, r0, r1]) rfl ?_
                        refine ⟨A13, c13, some ⟨g18, 0, none⟩, c18, ?_, ?_, ?_, own_nil16 R13_vd_4_7_12_13_14_18.out, (fun e => by cases e), ?_, ?_, h1⟩
                        · rw [EV.out.1, EV.out.2, drE_yes E.out]; show _ = Ending.returned (.tuple #[.int .i64 x, .agg #[.slice A13 (t.log ++ [x]).length c13, .slice (some ⟨g18, 0, none⟩) xs.length c18], .int .i64 0]); rw [List.length_append]; rfl
                        · rw [EV.out.1]; exact own_ints (xs := t.log ++ [x]) (c := c13) (by rw [List.length_append]; exact own_far16 (own_far16 R13_vd_4_7_12_13_14_18.out hlt 0 _) hlt 1 _)
                        · rw [EV.out.1]; exact own_ints (xs := xs) (c := c18) (own_far16 (own_far16 R18_vd_4_7_12_13_14_18.out (Nat.lt_of_lt_of_le hlt GE18.out) 0 _) (Nat.lt_of_lt_of_le hlt GE18.out) 1 _)
                        · rw [EV.out.1]; show (t.log ++ [x]).length ≤ c13; rw [List.length_append]; exact own_cap R13_vd_4_7_12_13_14_18.out
                        · rw [EV.out.1]; exact own_cap R18_vd_4_7_12_13_14_18.out
                    · go_simp
                      obtain ⟨vd_4_7_12_14, hw⟩ : ∃ y_, y_ = vd_4_7_12.alloc (.cells #[] 3) := ⟨_, rfl⟩
                      obtain ⟨b14, hb⟩ : ∃ y_, y_ = vd_4_7_12.heap.size := ⟨_, rfl⟩
                      rw [← hw, ← hb]
                      have BNvd_4_7_12_14 : Hid (Below vd_4_7_12.heap.size vd_4_7_12 vd_4_7_12_14) := by show Below _ _ _; rw [hw]; exact below_alloc _ _
                      have L14_vd_4_7_12_14 : Hid (Lies vd_4_7_12_14 b14 3 #[]) := by show Lies _ _ _ _; rw [hw, hb]; exact Lies.new _ _ _
                      have NE4_14 : Hid (b4 ≠ b14) := by show _ ≠ _; rw [hb]; exact Nat.ne_of_lt L4_vd_4_7_12.out.lt
                      have NG7_14 : Hid (g7 ≠ b14) := by show _ ≠ _; rw [hb]; exact Nat.ne_of_lt (R7_vd_4_7_12.out.lt g7 rfl).2
                      have BE14 : Hid (w1.heap.size ≤ b14) := by show _ ≤ _; rw [hb]; exact HB_vd_4_7_12.out.size
                      clear hw hb
                      have HB_vd_4_7_12_14 := hid (dt16 HB_vd_4_7_12.out BNvd_4_7_12_14.out)
                      have L4_vd_4_7_12_14 := hid (L4_vd_4_7_12.out.later BNvd_4_7_12_14.out)
                      have R7_vd_4_7_12_14 := hid (own_later R7_vd_4_7_12.out BNvd_4_7_12_14.out)
                      have L12_vd_4_7_12_14 := hid (L12_vd_4_7_12.out.later BNvd_4_7_12_14.out)
                      refine hK.out _ _ ?_ (fun hH4 => ?_)
                      · exact ⟨(X1.out.later HB_vd_4_7_12_14.out).c2.1, (X1.out.later HB_vd_4_7_12_14.out).c2.2, (HB_vd_4_7_12_14.out.cell (p := ⟨bt, ot, none⟩) HBT.out).trans HX.out⟩
                      clear hK K
                      try simp only [Act.put, List.setIfInBounds_toArray, List.set_cons_zero, List.set_cons_succ]
                      refine wpAnyH_ready (rs := [13]) (by kernel_rfl) (by simp) ?_
                      refine AllReadyH.cons (i := 13) (o := { dst := some 61, op := Go.Op.call { callee := Go.Callee.builtin Go.Builtin.append, args := #[Go.Operand.tmp 55, Go.Operand.tmp 60], argTypes := #[22, 22] }, type := 22, pos := "ref.go:39", after := #[{ on := 7, ground := Go.Ground.data }, { on := 12, ground := Go.Ground.data }, { on := 7, ground := Go.Ground.chain }], guard := none }) rfl (fun K hK => ?_) AllReadyH.nil
                      obtain ⟨v13, vd_4_7_12_14_13, hr, ho, hg⟩ := run_app_ints16 vd_4_7_12_14 w1.heap.size _ _ t.log (own_base16 R7_vd_4_7_12_14.out GE7.out) (some ⟨b12, 0, none⟩) 1 [x] (ints_lies16 L12_vd_4_7_12_14.out) (fun h => by cases h) (by have := HLN.out; simp; omega) HB_vd_4_7_12_14.out.size
                      obtain ⟨A13, c13, rfl⟩ := own_form ho
                      have HR13 := hid hr
                      have R13_vd_4_7_12_14_13 := hid ho
                      have HB_vd_4_7_12_14_13 : Hid (Below w1.heap.size w1 vd_4_7_12_14_13) := HB_vd_4_7_12_14.out.grown hg HB_vd_4_7_12_14.out.size (fun k hk => ((own_base16 R7_vd_4_7_12_14.out GE7.out).lt k hk).1)
                      have L14_vd_4_7_12_14_13 := hid (lies_grown16 hg L14_vd_4_7_12_14.out (fun h => NG7_14.out (Option.some.inj h)))
                      clear hr ho hg
                      rw [if_pos (by rfl)]
                      refine wp_append_run16 (.tmp 55) (.tmp 60) 22 rfl _ _ HR13.out ?_
                      refine hK.out _ _ ?_ (fun hH5 => ?_)
                      · exact ⟨(X1.out.later HB_vd_4_7_12_14_13.out).c2.1, (X1.out.later HB_vd_4_7_12_14_13.out).c2.2, (HB_vd_4_7_12_14_13.out.cell (p := ⟨bt, ot, none⟩) HBT.out).trans HX.out⟩
                      clear hK K
                      try simp only [Act.put, List.setIfInBounds_toArray, List.set_cons_zero, List.set_cons_succ]
                      refine wpAnyH_ready (rs := [18]) (by kernel_rfl) (by simp) ?_
                      refine AllReadyH.cons (i := 18) (o := { dst := some 66, op := Go.Op.call { callee := Go.Callee.builtin Go.Builtin.append, args := #[Go.Operand.tmp 62, Go.Operand.tmp 65], argTypes := #[22, 22] }, type := 22, pos := "ref.go:39", after := #[{ on := 14, ground := Go.Ground.data }, { on := 17, ground := Go.Ground.data }, { on := 13, ground := Go.Ground.chain }], guard := none }) rfl (fun K hK => ?_) AllReadyH.nil
                      obtain ⟨g18, c18, vd_4_7_12_14_13_18, hr, hb, hg, ho⟩ := app_any16 vd_4_7_12_14_13 b14 L14_vd_4_7_12_14_13.out xs (if d = 1 then some ⟨bt, ot, none⟩ else some ⟨bt, ot + 1, none⟩ : Option Addr) (d - 1) (RQ1.out.below HB_vd_4_7_12_14_13.out) NQ.out (by have := HLN.out; have := HXS.out; omega)
                      have BNvd_4_7_12_14_13_18 := hid hb
                      have HR18 := hid hr
                      have R18_vd_4_7_12_14_13_18 : Hid (vd_4_7_12_14_13_18.ownsRow g18 3 1 (.slice (some ⟨g18, 0, none⟩) xs.length c18) xs.length (xs.map (Value.int .i64))) := ho
                      have GE18 : Hid (w1.heap.size ≤ g18) := by
                        show _ ≤ _
                        rcases hg with h | h
                        · rw [h]; exact BE14.out
                        · exact Nat.le_trans HB_vd_4_7_12_14_13.out.size h
                      clear hr hb hg ho
                      have HB_vd_4_7_12_14_13_18 := hid (dt16 HB_vd_4_7_12_14_13.out BNvd_4_7_12_14_13_18.out)
                      have L14_vd_4_7_12_14_13_18 := hid (L14_vd_4_7_12_14_13.out.later BNvd_4_7_12_14_13_18.out)
                      have R13_vd_4_7_12_14_13_18 := hid (own_later R13_vd_4_7_12_14_13.out BNvd_4_7_12_14_13_18.out)
                      rw [if_pos (by rfl)]
                      refine wp_append_run16 (.tmp 62) (.tmp 65) 22 rfl _ _ HR18.out ?_
                      refine hK.out _ _ ?_ (fun hH6 => ?_)
                      · exact ⟨(X1.out.later HB_vd_4_7_12_14_13_18.out).c2.1, (X1.out.later HB_vd_4_7_12_14_13_18.out).c2.2, (HB_vd_4_7_12_14_13_18.out.cell (p := ⟨bt, ot, none⟩) HBT.out).trans HX.out⟩
                      clear hK K
                      try simp only [Act.put, List.setIfInBounds_toArray, List.set_cons_zero, List.set_cons_succ]
                      refine wpAnyH_take (i := 19) (oi := { dst := some 67, op := Go.Op.build 24 #[(0, Go.Operand.tmp 61), (1, Go.Operand.tmp 66)], type := 24, pos := "ref.go:39", after := #[{ on := 13, ground := Go.Ground.data }, { on := 18, ground := Go.Ground.data }, { on := 20, ground := Go.Ground.gcOnly Go.Departure.lateStores }], guard := none }) (v := ?vv25) rfl (by kernel_rfl) (by kernel_rfl) (by kernel_rfl) (fun _ _ _ h => h) (Or.inl ⟨by rfl, ?hy25⟩) (by assumption) ?rr25
                      case hy25 => intro w hSw; (try dsimp only at hSw); go_simp; all_goals with_reducible rfl
                      try simp only [Act.put, List.setIfInBounds_toArray, List.set_cons_zero, List.set_cons_succ]
                      refine wpAnyH_take (i := 20) (oi := { dst := some 4, op := Go.Op.assign (Go.Operand.tmp 51), type := 3, pos := "ref.go:39", after := #[{ on := 3, ground := Go.Ground.data }, { on := 18, ground := Go.Ground.chain }, { on := 0, ground := Go.Ground.phase }, { on := 1, ground := Go.Ground.phase }, { on := 2, ground := Go.Ground.phase }, { on := 3, ground := Go.Ground.phase }, { on := 4, ground := Go.Ground.textOnly Go.Departure.lateStores }, { on := 5, ground := Go.Ground.textOnly Go.Departure.lateStores }, { on := 6, ground := Go.Ground.textOnly Go.Departure.lateStores }, { on := 7, ground := Go.Ground.textOnly Go.Departure.lateStoresUnsure }, { on := 8, ground := Go.Ground.textOnly Go.Departure.lateStores }, { on := 9, ground := Go.Ground.textOnly Go.Departure.lateStores }, { on := 10, ground := Go.Ground.textOnly Go.Departure.lateStores }, { on := 11, ground := Go.Ground.textOnly Go.Departure.lateStores }, { on := 12, ground := Go.Ground.textOnly Go.Departure.lateStores }, { on := 13, ground := Go.Ground.textOnly Go.Departure.lateStoresUnsure }, { on := 14, ground := Go.Ground.textOnly Go.Departure.lateStores }, { on := 15, ground := Go.Ground.textOnly Go.Departure.lateStores }, { on := 16, ground := Go.Ground.textOnly Go.Departure.lateStores }, { on := 17, ground := Go.Ground.textOnly Go.Departure.lateStoresUnsure }, { on := 18, ground := Go.Ground.textOnly Go.Departure.lateStoresUnsure }, { on := 19, ground := Go.Ground.textOnly Go.Departure.lateStores }], guard := none }) (v := ?vv26) rfl (by kernel_rfl) (by kernel_rfl) (by kernel_rfl) (fun _ _ _ h => h) (Or.inl ⟨by rfl, ?hy26⟩) (by assumption) ?rr26
                      case hy26 => intro w hSw; (try dsimp only at hSw); go_simp; all_goals with_reducible rfl
                      try simp only [Act.put, List.setIfInBounds_toArray, List.set_cons_zero, List.set_cons_succ]
                      refine wpAnyH_ready (rs := [21]) (by kernel_rfl) (by simp) ?_
                      refine AllReadyH.cons (i := 21) (o := { dst := none, op := Go.Op.store 24 (Go.Operand.tmp 5) (Go.Operand.tmp 67), type := 0, pos := "ref.go:39", after := #[{ on := 19, ground := Go.Ground.data }, { on := 20, ground := Go.Ground.chain }, { on := 0, ground := Go.Ground.phase }, { on := 1, ground := Go.Ground.phase }, { on := 2, ground := Go.Ground.phase }, { on := 3, ground := Go.Ground.phase }, { on := 4, ground := Go.Ground.phase }, { on := 5, ground := Go.Ground.phase }, { on := 6, ground := Go.Ground.phase }, { on := 7, ground := Go.Ground.phase }, { on := 8, ground := Go.Ground.phase }, { on := 9, ground := Go.Ground.phase }, { on := 10, ground := Go.Ground.phase }, { on := 11, ground := Go.Ground.phase }, { on := 12, ground := Go.Ground.phase }, { on := 13, ground := Go.Ground.phase }, { on := 14, ground := Go.Ground.phase }, { on := 15, ground := Go.Ground.phase }, { on := 16, ground := Go.Ground.phase }, { on := 17, ground := Go.Ground.phase }, { on := 18, ground := Go.Ground.phase }, { on := 19, ground := Go.Ground.phase }, { on := 20, ground := Go.Ground.phase }], guard := none }) rfl (fun K hK => ?_) AllReadyH.nil
                      obtain ⟨z0, z1⟩ := (K1.out.later HB_vd_4_7_12_14_13_18.out).c2
                      obtain ⟨zf0, zf1⟩ := (K1.out.later HB_vd_4_7_12_14_13_18.out).f2
                      go_simp
                      refine hK.out _ _ ?_ (fun hH7 => ?_)
                      · exact ⟨((((X1.out.later HB_vd_4_7_12_14_13_18.out).far (p := ⟨w.heap.size + 1, 0, none⟩) (by simp) _).far (p := ⟨w.heap.size + 1, 1, none⟩) (by simp) _)).c2.1, ((((X1.out.later HB_vd_4_7_12_14_13_18.out).far (p := ⟨w.heap.size + 1, 0, none⟩) (by simp) _).far (p := ⟨w.heap.size + 1, 1, none⟩) (by simp) _)).c2.2, far_cell16 NBT.out (far_cell16 NBT.out ((HB_vd_4_7_12_14_13_18.out.cell (p := ⟨bt, ot, none⟩) HBT.out).trans HX.out))⟩
                      clear hK K
                      try simp only [Act.put, List.setIfInBounds_toArray, List.set_cons_zero, List.set_cons_succ]
                      clear z0 z1 zf0 zf1
                      refine wpAnyH_take (i := 22) (oi := { dst := some 6, op := Go.Op.assign (Go.Operand.const (Go.Value.int Go.IntKind.i64 0)), type := 26, pos := "ref.go:39", after := #[{ on := 21, ground := Go.Ground.chain }, { on := 0, ground := Go.Ground.phase }, { on := 1, ground := Go.Ground.phase }, { on := 2, ground := Go.Ground.phase }, { on := 3, ground := Go.Ground.phase }, { on := 4, ground := Go.Ground.phase }, { on := 5, ground := Go.Ground.phase }, { on := 6, ground := Go.Ground.phase }, { on := 7, ground := Go.Ground.phase }, { on := 8, ground := Go.Ground.phase }, { on := 9, ground := Go.Ground.phase }, { on := 10, ground := Go.Ground.phase }, { on := 11, ground := Go.Ground.phase }, { on := 12, ground := Go.Ground.phase }, { on := 13, ground := Go.Ground.phase }, { on := 14, ground := Go.Ground.phase }, { on := 15, ground := Go.Ground.phase }, { on := 16, ground := Go.Ground.phase }, { on := 17, ground := Go.Ground.phase }, { on := 18, ground := Go.Ground.phase }, { on := 19, ground := Go.Ground.phase }, { on := 20, ground := Go.Ground.phase }, { on := 21, ground := Go.Ground.phase }], guard := none }) (v := ?vv27) rfl (by kernel_rfl) (by kernel_rfl) (by kernel_rfl) (fun _ _ _ h => h) (Or.inl ⟨by rfl, ?hy27⟩) (by assumption) ?rr27
                      case hy27 => intro w hSw; (try dsimp only at hSw); go_simp; all_goals with_reducible rfl
                      try simp only [Act.put, List.setIfInBounds_toArray, List.set_cons_zero, List.set_cons_succ]
                      refine wpAnyH_done (by kernel_rfl) ?_ _
                      have KF := ((K1.out.later HB_vd_4_7_12_14_13_18.out).set_ 0 (.slice A13 (t.log.length + 1) c13)).set_ 1 (.slice (some ⟨g18, 0, none⟩) xs.length c18)
                      have h1 := ((then_w HB1.out HB_vd_4_7_12_14_13_18.out).setCell (p := ⟨w.heap.size + 1, 0, none⟩) (by simp) (.slice A13 (t.log.length + 1) c13)).setCell (p := ⟨w.heap.size + 1, 1, none⟩) (by simp) (.slice (some ⟨g18, 0, none⟩) xs.length c18)
                      have hlt : w.heap.size + 1 < w1.heap.size := K1.out.lt
                      have r0 := KF.cell 0
                      have r1 := KF.cell 1
                      simp only [List.setIfInBounds_toArray, List.set_cons_zero, List.set_cons_succ, List.getElem?_toArray, List.getElem?_cons_zero, List.getElem?_cons_succ] at r0 r1
                      go_wp2_with fail
                      all_goals
                        refine bodyPost_ret (v := .tuple #[.int .i64 x, .agg #[.slice A13 (t.log.length + 1) c13, .slice (some ⟨g18, 0, none⟩) xs.length c18], .int .i64 0]) (by simp [results, Try.results9, go_sem, r0, r1]) rfl ?_
                        refine ⟨A13, c13, some ⟨g18, 0, none⟩, c18, ?_, ?_, ?_, own_nil16 R13_vd_4_7_12_14_13_18.out, (fun e => by cases e), ?_, ?_, h1⟩
                        · rw [EV.out.1, EV.out.2, drE_yes E.out]; show _ = Ending.returned (.tuple #[.int .i64 x, .agg #[.slice A13 (t.log ++ [x]).length c13, .slice (some ⟨g18, 0, none⟩) xs.length c18], .int .i64 0]); rw [List.length_append]; rfl
                        · rw [EV.out.1]; exact own_ints (xs := t.log ++ [x]) (c := c13) (by rw [List.length_append]; exact own_far16 (own_far16 R13_vd_4_7_12_14_13_18.out hlt 0 _) hlt 1 _)
                        · rw [EV.out.1]; exact own_ints (xs := xs) (c := c18) (own_far16 (own_far16 R18_vd_4_7_12_14_13_18.out (Nat.lt_of_lt_of_le hlt GE18.out) 0 _) (Nat.lt_of_lt_of_le hlt GE18.out) 1 _)
                        · rw [EV.out.1]; show (t.log ++ [x]).length ≤ c13; rw [List.length_append]; exact own_cap R13_vd_4_7_12_14_13_18.out
                        · rw [EV.out.1]; exact own_cap R18_vd_4_7_12_14_13_18.out
                  · go_simp
                    obtain ⟨vd_4_7_14, hw⟩ : ∃ y_, y_ = vd_4_7.alloc (.cells #[] 3) := ⟨_, rfl⟩
                    obtain ⟨b14, hb⟩ : ∃ y_, y_ = vd_4_7.heap.size := ⟨_, rfl⟩
                    rw [← hw, ← hb]
                    have BNvd_4_7_14 : Hid (Below vd_4_7.heap.size vd_4_7 vd_4_7_14) := by show Below _ _ _; rw [hw]; exact below_alloc _ _
                    have L14_vd_4_7_14 : Hid (Lies vd_4_7_14 b14 3 #[]) := by show Lies _ _ _ _; rw [hw, hb]; exact Lies.new _ _ _
                    have NE4_14 : Hid (b4 ≠ b14) := by show _ ≠ _; rw [hb]; exact Nat.ne_of_lt L4_vd_4_7.out.lt
                    have NG7_14 : Hid (g7 ≠ b14) := by show _ ≠ _; rw [hb]; exact Nat.ne_of_lt (R7_vd_4_7.out.lt g7 rfl).2
                    have BE14 : Hid (w1.heap.size ≤ b14) := by show _ ≤ _; rw [hb]; exact HB_vd_4_7.out.size
                    clear hw hb
                    have HB_vd_4_7_14 := hid (dt16 HB_vd_4_7.out BNvd_4_7_14.out)
                    have L4_vd_4_7_14 := hid (L4_vd_4_7.out.later BNvd_4_7_14.out)
                    have R7_vd_4_7_14 := hid (own_later R7_vd_4_7.out BNvd_4_7_14.out)
                    refine hK.out _ _ ?_ (fun hH3 => ?_)
                    · exact ⟨(X1.out.later HB_vd_4_7_14.out).c2.1, (X1.out.later HB_vd_4_7_14.out).c2.2, (HB_vd_4_7_14.out.cell (p := ⟨bt, ot, none⟩) HBT.out).trans HX.out⟩
                    clear hK K
                    try simp only [Act.put, List.setIfInBounds_toArray, List.set_cons_zero, List.set_cons_succ]
                    refine wpAnyH_ready (rs := [12]) (by kernel_rfl) (by simp) ?_
                    refine AllReadyH.cons (i := 12) (o := { dst := some 60, op := Go.Op.buildSlice 22 1 #[(0, Go.Operand.tmp 59)], type := 22, pos := "ref.go:39", after := #[{ on := 11, ground := Go.Ground.data }], guard := none }) rfl (fun K hK => ?_) AllReadyH.nil
                    go_simp
                    obtain ⟨vd_4_7_14_12, hw⟩ : ∃ y_, y_ = vd_4_7_14.alloc (.cells #[.int .i64 x] 3) := ⟨_, rfl⟩
                    obtain ⟨b12, hb⟩ : ∃ y_, y_ = vd_4_7_14.heap.size := ⟨_, rfl⟩
                    rw [← hw, ← hb]
                    have BNvd_4_7_14_12 : Hid (Below vd_4_7_14.heap.size vd_4_7_14 vd_4_7_14_12) := by show Below _ _ _; rw [hw]; exact below_alloc _ _
                    have L12_vd_4_7_14_12 : Hid (Lies vd_4_7_14_12 b12 3 #[.int .i64 x]) := by show Lies _ _ _ _; rw [hw, hb]; exact Lies.new _ _ _
                    have NE4_12 : Hid (b4 ≠ b12) := by show _ ≠ _; rw [hb]; exact Nat.ne_of_lt L4_vd_4_7_14.out.lt
                    have NG7_12 : Hid (g7 ≠ b12) := by show _ ≠ _; rw [hb]; exact Nat.ne_of_lt (R7_vd_4_7_14.out.lt g7 rfl).2
                    have NE14_12 : Hid (b14 ≠ b12) := by show _ ≠ _; rw [hb]; exact Nat.ne_of_lt L14_vd_4_7_14.out.lt
                    have BE12 : Hid (w1.heap.size ≤ b12) := by show _ ≤ _; rw [hb]; exact HB_vd_4_7_14.out.size
                    clear hw hb
                    have HB_vd_4_7_14_12 := hid (dt16 HB_vd_4_7_14.out BNvd_4_7_14_12.out)
                    have L4_vd_4_7_14_12 := hid (L4_vd_4_7_14.out.later BNvd_4_7_14_12.out)
                    have R7_vd_4_7_14_12 := hid (own_later R7_vd_4_7_14.out BNvd_4_7_14_12.out)
                    have L14_vd_4_7_14_12 := hid (L14_vd_4_7_14.out.later BNvd_4_7_14_12.out)
                    refine hK.out _ _ ?_ (fun hH4 => ?_)
                    · exact ⟨(X1.out.later HB_vd_4_7_14_12.out).c2.1, (X1.out.later HB_vd_4_7_14_12.out).c2.2, (HB_vd_4_7_14_12.out.cell (p := ⟨bt, ot, none⟩) HBT.out).trans HX.out⟩
                    clear hK K
                    try simp only [Act.put, List.setIfInBounds_toArray, List.set_cons_zero, List.set_cons_succ]
                    refine wpAnyH_ready (rs := [13]) (by kernel_rfl) (by simp) ?_
                    refine AllReadyH.cons (i := 13) (o := { dst := some 61, op := Go.Op.call { callee := Go.Callee.builtin Go.Builtin.append, args := #[Go.Operand.tmp 55, Go.Operand.tmp 60], argTypes := #[22, 22] }, type := 22, pos := "ref.go:39", after := #[{ on := 7, ground := Go.Ground.data }, { on := 12, ground := Go.Ground.data }, { on := 7, ground := Go.Ground.chain }], guard := none }) rfl (fun K hK => ?_) AllReadyH.nil
                    obtain ⟨v13, vd_4_7_14_12_13, hr, ho, hg⟩ := run_app_ints16 vd_4_7_14_12 w1.heap.size _ _ t.log (own_base16 R7_vd_4_7_14_12.out GE7.out) (some ⟨b12, 0, none⟩) 1 [x] (ints_lies16 L12_vd_4_7_14_12.out) (fun h => by cases h) (by have := HLN.out; simp; omega) HB_vd_4_7_14_12.out.size
                    obtain ⟨A13, c13, rfl⟩ := own_form ho
                    have HR13 := hid hr
                    have R13_vd_4_7_14_12_13 := hid ho
                    have HB_vd_4_7_14_12_13 : Hid (Below w1.heap.size w1 vd_4_7_14_12_13) := HB_vd_4_7_14_12.out.grown hg HB_vd_4_7_14_12.out.size (fun k hk => ((own_base16 R7_vd_4_7_14_12.out GE7.out).lt k hk).1)
                    have L14_vd_4_7_14_12_13 := hid (lies_grown16 hg L14_vd_4_7_14_12.out (fun h => NG7_14.out (Option.some.inj h)))
                    clear hr ho hg
                    rw [if_pos (by rfl)]
                    refine wp_append_run16 (.tmp 55) (.tmp 60) 22 rfl _ _ HR13.out ?_
                    refine hK.out _ _ ?_ (fun hH5 => ?_)
                    · exact ⟨(X1.out.later HB_vd_4_7_14_12_13.out).c2.1, (X1.out.later HB_vd_4_7_14_12_13.out).c2.2, (HB_vd_4_7_14_12_13.out.cell (p := ⟨bt, ot, none⟩) HBT.out).trans HX.out⟩
                    clear hK K
                    try simp only [Act.put, List.setIfInBounds_toArray, List.set_cons_zero, List.set_cons_succ]
                    refine wpAnyH_ready (rs := [18]) (by kernel_rfl) (by simp) ?_
                    refine AllReadyH.cons (i := 18) (o := { dst := some 66, op := Go.Op.call { callee := Go.Callee.builtin Go.Builtin.append, args := #[Go.Operand.tmp 62, Go.Operand.tmp 65], argTypes := #[22, 22] }, type := 22, pos := "ref.go:39", after := #[{ on := 14, ground := Go.Ground.data }, { on := 17, ground := Go.Ground.data }, { on := 13, ground := Go.Ground.chain }], guard := none }) rfl (fun K hK => ?_) AllReadyH.nil
                    obtain ⟨g18, c18, vd_4_7_14_12_13_18, hr, hb, hg, ho⟩ := app_any16 vd_4_7_14_12_13 b14 L14_vd_4_7_14_12_13.out xs (if d = 1 then some ⟨bt, ot, none⟩ else some ⟨bt, ot + 1, none⟩ : Option Addr) (d - 1) (RQ1.out.below HB_vd_4_7_14_12_13.out) NQ.out (by have := HLN.out; have := HXS.out; omega)
                    have BNvd_4_7_14_12_13_18 := hid hb
                    have HR18 := hid hr
                    have R18_vd_4_7_14_12_13_18 : Hid (vd_4_7_14_12_13_18.ownsRow g18 3 1 (.slice (some ⟨g18, 0, none⟩) xs.length c18) xs.length (xs.map (Value.int .i64))) := ho
                    have GE18 : Hid (w1.heap.size ≤ g18) := by
                      show _ ≤ _
                      rcases hg with h | h
                      · rw [h]; exact BE14.out
                      · exact Nat.le_trans HB_vd_4_7_14_12_13.out.size h
                    clear hr hb hg ho
                    have HB_vd_4_7_14_12_13_18 := hid (dt16 HB_vd_4_7_14_12_13.out BNvd_4_7_14_12_13_18.out)
                    have L14_vd_4_7_14_12_13_18 := hid (L14_vd_4_7_14_12_13.out.later BNvd_4_7_14_12_13_18.out)
                    have R13_vd_4_7_14_12_13_18 := hid (own_later R13_vd_4_7_14_12_13.out BNvd_4_7_14_12_13_18.out)
                    rw [if_pos (by rfl)]
                    refine wp_append_run16 (.tmp 62) (.tmp 65) 22 rfl _ _ HR18.out ?_
                    refine hK.out _ _ ?_ (fun hH6 => ?_)
                    · exact ⟨(X1.out.later HB_vd_4_7_14_12_13_18.out).c2.1, (X1.out.later HB_vd_4_7_14_12_13_18.out).c2.2, (HB_vd_4_7_14_12_13_18.out.cell (p := ⟨bt, ot, none⟩) HBT.out).trans HX.out⟩
                    clear hK K
                    try simp only [Act.put, List.setIfInBounds_toArray, List.set_cons_zero, List.set_cons_succ]
                    refine wpAnyH_take (i := 19) (oi := { dst := some 67, op := Go.Op.build 24 #[(0, Go.Operand.tmp 61), (1, Go.Operand.tmp 66)], type := 24, pos := "ref.go:39", after := #[{ on := 13, ground := Go.Ground.data }, { on := 18, ground := Go.Ground.data }, { on := 20, ground := Go.Ground.gcOnly Go.Departure.lateStores }], guard := none }) (v := ?vv28) rfl (by kernel_rfl) (by kernel_rfl) (by kernel_rfl) (fun _ _ _ h => h) (Or.inl ⟨by rfl, ?hy28⟩) (by assumption) ?rr28
                    case hy28 => intro w hSw; (try dsimp only at hSw); go_simp; all_goals with_reducible rfl
                    try simp only [Act.put, List.setIfInBounds_toArray, List.set_cons_zero, List.set_cons_succ]
                    refine wpAnyH_take (i := 20) (oi := { dst := some 4, op := Go.Op.assign (Go.Operand.tmp 51), type := 3, pos := "ref.go:39", after := #[{ on := 3, ground := Go.Ground.data }, { on := 18, ground := Go.Ground.chain }, { on := 0, ground := Go.Ground.phase }, { on := 1, ground := Go.Ground.phase }, { on := 2, ground := Go.Ground.phase }, { on := 3, ground := Go.Ground.phase }, { on := 4, ground := Go.Ground.textOnly Go.Departure.lateStores }, { on := 5, ground := Go.Ground.textOnly Go.Departure.lateStores }, { on := 6, ground := Go.Ground.textOnly Go.Departure.lateStores }, { on := 7, ground := Go.Ground.textOnly Go.Departure.lateStoresUnsure }, { on := 8, ground := Go.Ground.textOnly Go.Departure.lateStores }, { on := 9, ground := Go.Ground.textOnly Go.Departure.lateStores }, { on := 10, ground := Go.Ground.textOnly Go.Departure.lateStores }, { on := 11, ground := Go.Ground.textOnly Go.Departure.lateStores }, { on := 12, ground := Go.Ground.textOnly Go.Departure.lateStores }, { on := 13, ground := Go.Ground.textOnly Go.Departure.lateStoresUnsure }, { on := 14, ground := Go.Ground.textOnly Go.Departure.lateStores }, { on := 15, ground := Go.Ground.textOnly Go.Departure.lateStores }, { on := 16, ground := Go.Ground.textOnly Go.Departure.lateStores }, { on := 17, ground := Go.Ground.textOnly Go.Departure.lateStoresUnsure }, { on := 18, ground := Go.Ground.textOnly Go.Departure.lateStoresUnsure }, { on := 19, ground := Go.Ground.textOnly Go.Departure.lateStores }], guard := none }) (v := ?vv29) rfl (by kernel_rfl) (by kernel_rfl) (by kernel_rfl) (fun _ _ _ h => h) (Or.inl ⟨by rfl, ?hy29⟩) (by assumption) ?rr29
                    case hy29 => intro w hSw; (try dsimp only at hSw); go_simp; all_goals with_reducible rfl
                    try simp only [Act.put, List.setIfInBounds_toArray, List.set_cons_zero, List.set_cons_succ]
                    refine wpAnyH_ready (rs := [21]) (by kernel_rfl) (by simp) ?_
                    refine AllReadyH.cons (i := 21) (o := { dst := none, op := Go.Op.store 24 (Go.Operand.tmp 5) (Go.Operand.tmp 67), type := 0, pos := "ref.go:39", after := #[{ on := 19, ground := Go.Ground.data }, { on := 20, ground := Go.Ground.chain }, { on := 0, ground := Go.Ground.phase }, { on := 1, ground := Go.Ground.phase }, { on := 2, ground := Go.Ground.phase }, { on := 3, ground := Go.Ground.phase }, { on := 4, ground := Go.Ground.phase }, { on := 5, ground := Go.Ground.phase }, { on := 6, ground := Go.Ground.phase }, { on := 7, ground := Go.Ground.phase }, { on := 8, ground := Go.Ground.phase }, { on := 9, ground := Go.Ground.phase }, { on := 10, ground := Go.Ground.phase }, { on := 11, ground := Go.Ground.phase }, { on := 12, ground := Go.Ground.phase }, { on := 13, ground := Go.Ground.phase }, { on := 14, ground := Go.Ground.phase }, { on := 15, ground := Go.Ground.phase }, { on := 16, ground := Go.Ground.phase }, { on := 17, ground := Go.Ground.phase }, { on := 18, ground := Go.Ground.phase }, { on := 19, ground := Go.Ground.phase }, { on := 20, ground := Go.Ground.phase }], guard := none }) rfl (fun K hK => ?_) AllReadyH.nil
                    obtain ⟨z0, z1⟩ := (K1.out.later HB_vd_4_7_14_12_13_18.out).c2
                    obtain ⟨zf0, zf1⟩ := (K1.out.later HB_vd_4_7_14_12_13_18.out).f2
                    go_simp
                    refine hK.out _ _ ?_ (fun hH7 => ?_)
                    · exact ⟨((((X1.out.later HB_vd_4_7_14_12_13_18.out).far (p := ⟨w.heap.size + 1, 0, none⟩) (by simp) _).far (p := ⟨w.heap.size + 1, 1, none⟩) (by simp) _)).c2.1, ((((X1.out.later HB_vd_4_7_14_12_13_18.out).far (p := ⟨w.heap.size + 1, 0, none⟩) (by simp) _).far (p := ⟨w.heap.size + 1, 1, none⟩) (by simp) _)).c2.2, far_cell16 NBT.out (far_cell16 NBT.out ((HB_vd_4_7_14_12_13_18.out.cell (p := ⟨bt, ot, none⟩) HBT.out).trans HX.out))⟩
                    clear hK K
                    try simp only [Act.put, List.setIfInBounds_toArray, List.set_cons_zero, List.set_cons_succ]
                    clear z0 z1 zf0 zf1
                    refine wpAnyH_take (i := 22) (oi := { dst := some 6, op := Go.Op.assign (Go.Operand.const (Go.Value.int Go.IntKind.i64 0)), type := 26, pos := "ref.go:39", after := #[{ on := 21, ground := Go.Ground.chain }, { on := 0, ground := Go.Ground.phase }, { on := 1, ground := Go.Ground.phase }, { on := 2, ground := Go.Ground.phase }, { on := 3, ground := Go.Ground.phase }, { on := 4, ground := Go.Ground.phase }, { on := 5, ground := Go.Ground.phase }, { on := 6, ground := Go.Ground.phase }, { on := 7, ground := Go.Ground.phase }, { on := 8, ground := Go.Ground.phase }, { on := 9, ground := Go.Ground.phase }, { on := 10, ground := Go.Ground.phase }, { on := 11, ground := Go.Ground.phase }, { on := 12, ground := Go.Ground.phase }, { on := 13, ground := Go.Ground.phase }, { on := 14, ground := Go.Ground.phase }, { on := 15, ground := Go.Ground.phase }, { on := 16, ground := Go.Ground.phase }, { on := 17, ground := Go.Ground.phase }, { on := 18, ground := Go.Ground.phase }, { on := 19, ground := Go.Ground.phase }, { on := 20, ground := Go.Ground.phase }, { on := 21, ground := Go.Ground.phase }], guard := none }) (v := ?vv30) rfl (by kernel_rfl) (by kernel_rfl) (by kernel_rfl) (fun _ _ _ h => h) (Or.inl ⟨by rfl, ?hy30⟩) (by assumption) ?rr30
                    case hy30 => intro w hSw; (try dsimp only at hSw); go_simp; all_goals with_reducible rfl
                    try simp only [Act.put, List.setIfInBounds_toArray, List.set_cons_zero, List.set_cons_succ]
                    refine wpAnyH_done (by kernel_rfl) ?_ _
                    have KF := ((K1.out.later HB_vd_4_7_14_12_13_18.out).set_ 0 (.slice A13 (t.log.length + 1) c13)).set_ 1 (.slice (some ⟨g18, 0, none⟩) xs.length c18)
                    have h1 := ((then_w HB1.out HB_vd_4_7_14_12_13_18.out).setCell (p := ⟨w.heap.size + 1, 0, none⟩) (by simp) (.slice A13 (t.log.length + 1) c13)).setCell (p := ⟨w.heap.size + 1, 1, none⟩) (by simp) (.slice (some ⟨g18, 0, none⟩) xs.length c18)
                    have hlt : w.heap.size + 1 < w1.heap.size := K1.out.lt
                    have r0 := KF.cell 0
                    have r1 := KF.cell 1
                    simp only [List.setIfInBounds_toArray, List.set_cons_zero, List.set_cons_succ, List.getElem?_toArray, List.getElem?_cons_zero, List.getElem?_cons_succ] at r0 r1
                    go_wp2_with fail
                    all_goals
                      refine bodyPost_ret (v := .tuple #[.int .i64 x, .agg #[.slice A13 (t.log.length + 1) c13, .slice (some ⟨g18, 0, none⟩) xs.length c18], .int .i64 0]) (by simp [results, Try.results9, go_sem, r0, r1]) rfl ?_
                      refine ⟨A13, c13, some ⟨g18, 0, none⟩, c18, ?_, ?_, ?_, own_nil16 R13_vd_4_7_14_12_13_18.out, (fun e => by cases e), ?_, ?_, h1⟩
                      · rw [EV.out.1, EV.out.2, drE_yes E.out]; show _ = Ending.returned (.tuple #[.int .i64 x, .agg #[.slice A13 (t.log ++ [x]).length c13, .slice (some ⟨g18, 0, none⟩) xs.length c18], .int .i64 0]); rw [List.length_append]; rfl
                      · rw [EV.out.1]; exact own_ints (xs := t.log ++ [x]) (c := c13) (by rw [List.length_append]; exact own_far16 (own_far16 R13_vd_4_7_14_12_13_18.out hlt 0 _) hlt 1 _)
                      · rw [EV.out.1]; exact own_ints (xs := xs) (c := c18) (own_far16 (own_far16 R18_vd_4_7_14_12_13_18.out (Nat.lt_of_lt_of_le hlt GE18.out) 0 _) (Nat.lt_of_lt_of_le hlt GE18.out) 1 _)
                      · rw [EV.out.1]; show (t.log ++ [x]).length ≤ c13; rw [List.length_append]; exact own_cap R13_vd_4_7_14_12_13_18.out
                      · rw [EV.out.1]; exact own_cap R18_vd_4_7_14_12_13_18.out
                · go_simp
                  obtain ⟨vd_4_12, hw⟩ : ∃ y_, y_ = vd_4.alloc (.cells #[.int .i64 x] 3) := ⟨_, rfl⟩
                  obtain ⟨b12, hb⟩ : ∃ y_, y_ = vd_4.heap.size := ⟨_, rfl⟩
                  rw [← hw, ← hb]
                  have BNvd_4_12 : Hid (Below vd_4.heap.size vd_4 vd_4_12) := by show Below _ _ _; rw [hw]; exact below_alloc _ _
                  have L12_vd_4_12 : Hid (Lies vd_4_12 b12 3 #[.int .i64 x]) := by show Lies _ _ _ _; rw [hw, hb]; exact Lies.new _ _ _
                  have NE4_12 : Hid (b4 ≠ b12) := by show _ ≠ _; rw [hb]; exact Nat.ne_of_lt L4_vd_4.out.lt
                  have BE12 : Hid (w1.heap.size ≤ b12) := by show _ ≤ _; rw [hb]; exact HB_vd_4.out.size
                  clear hw hb
                  have HB_vd_4_12 := hid (dt16 HB_vd_4.out BNvd_4_12.out)
                  have L4_vd_4_12 := hid (L4_vd_4.out.later BNvd_4_12.out)
                  refine hK.out _ _ ?_ (fun hH2 => ?_)
                  · exact ⟨(X1.out.later HB_vd_4_12.out).c2.1, (X1.out.later HB_vd_4_12.out).c2.2, (HB_vd_4_12.out.cell (p := ⟨bt, ot, none⟩) HBT.out).trans HX.out⟩
                  clear hK K
                  try simp only [Act.put, List.setIfInBounds_toArray, List.set_cons_zero, List.set_cons_succ]
                  refine wpAnyH_ready (rs := [7, 14]) (by kernel_rfl) (by simp) ?_
                  refine AllReadyH.cons (i := 7) (o := { dst := some 55, op := Go.Op.call { callee := Go.Callee.builtin Go.Builtin.append, args := #[Go.Operand.tmp 52, Go.Operand.tmp 54], argTypes := #[22, 22] }, type := 22, pos := "ref.go:39", after := #[{ on := 4, ground := Go.Ground.data }, { on := 6, ground := Go.Ground.data }], guard := none }) rfl (fun K hK => ?_) (AllReadyH.cons (i := 14) (o := { dst := some 62, op := Go.Op.buildSlice 22 0 #[], type := 22, pos := "ref.go:39", after := #[], guard := none }) rfl (fun K hK => ?_) AllReadyH.nil)
                  · obtain ⟨g7, c7, vd_4_12_7, hr, hb, hg, ho⟩ := app_any16 vd_4_12 b4 L4_vd_4_12.out t.log A c (RA1.out.below HB_vd_4_12.out) NA.out (by have := HLN.out; omega)
                    have BNvd_4_12_7 := hid hb
                    have HR7 := hid hr
                    have R7_vd_4_12_7 : Hid (vd_4_12_7.ownsRow g7 3 1 (.slice (some ⟨g7, 0, none⟩) t.log.length c7) t.log.length (t.log.map (Value.int .i64))) := ho
                    have GE7 : Hid (w1.heap.size ≤ g7) := by
                      show _ ≤ _
                      rcases hg with h | h
                      · rw [h]; exact BE4.out
                      · exact Nat.le_trans HB_vd_4_12.out.size h
                    clear hr hb hg ho
                    have HB_vd_4_12_7 := hid (dt16 HB_vd_4_12.out BNvd_4_12_7.out)
                    have L4_vd_4_12_7 := hid (L4_vd_4_12.out.later BNvd_4_12_7.out)
                    have L12_vd_4_12_7 := hid (L12_vd_4_12.out.later BNvd_4_12_7.out)
                    rw [if_pos (by rfl)]
                    refine wp_append_run16 (.tmp 52) (.tmp 54) 22 rfl _ _ HR7.out ?_
                    refine hK.out _ _ ?_ (fun hH3 => ?_)
                    · exact ⟨(X1.out.later HB_vd_4_12_7.out).c2.1, (X1.out.later HB_vd_4_12_7.out).c2.2, (HB_vd_4_12_7.out.cell (p := ⟨bt, ot, none⟩) HBT.out).trans HX.out⟩
                    clear hK K
                    try simp only [Act.put, List.setIfInBounds_toArray, List.set_cons_zero, List.set_cons_succ]
                    refine wpAnyH_ready (rs := [13, 14]) (by kernel_rfl) (by simp) ?_
                    refine AllReadyH.cons (i := 13) (o := { dst := some 61, op := Go.Op.call { callee := Go.Callee.builtin Go.Builtin.append, args := #[Go.Operand.tmp 55, Go.Operand.tmp 60], argTypes := #[22, 22] }, type := 22, pos := "ref.go:39", after := #[{ on := 7, ground := Go.Ground.data }, { on := 12, ground := Go.Ground.data }, { on := 7, ground := Go.Ground.chain }], guard := none }) rfl (fun K hK => ?_) (AllReadyH.cons (i := 14) (o := { dst := some 62, op := Go.Op.buildSlice 22 0 #[], type := 22, pos := "ref.go:39", after := #[], guard := none }) rfl (fun K hK => ?_) AllReadyH.nil)
                    · obtain ⟨v13, vd_4_12_7_13, hr, ho, hg⟩ := run_app_ints16 vd_4_12_7 w1.heap.size _ _ t.log (own_base16 R7_vd_4_12_7.out GE7.out) (some ⟨b12, 0, none⟩) 1 [x] (ints_lies16 L12_vd_4_12_7.out) (fun h => by cases h) (by have := HLN.out; simp; omega) HB_vd_4_12_7.out.size
                      obtain ⟨A13, c13, rfl⟩ := own_form ho
                      have HR13 := hid hr
                      have R13_vd_4_12_7_13 := hid ho
                      have HB_vd_4_12_7_13 : Hid (Below w1.heap.size w1 vd_4_12_7_13) := HB_vd_4_12_7.out.grown hg HB_vd_4_12_7.out.size (fun k hk => ((own_base16 R7_vd_4_12_7.out GE7.out).lt k hk).1)
                      clear hr ho hg
                      rw [if_pos (by rfl)]
                      refine wp_append_run16 (.tmp 55) (.tmp 60) 22 rfl _ _ HR13.out ?_
                      refine hK.out _ _ ?_ (fun hH4 => ?_)
                      · exact ⟨(X1.out.later HB_vd_4_12_7_13.out).c2.1, (X1.out.later HB_vd_4_12_7_13.out).c2.2, (HB_vd_4_12_7_13.out.cell (p := ⟨bt, ot, none⟩) HBT.out).trans HX.out⟩
                      clear hK K
                      try simp only [Act.put, List.setIfInBounds_toArray, List.set_cons_zero, List.set_cons_succ]
                      refine wpAnyH_ready (rs := [14]) (by kernel_rfl) (by simp) ?_
                      refine AllReadyH.cons (i := 14) (o := { dst := some 62, op := Go.Op.buildSlice 22 0 #[], type := 22, pos := "ref.go:39", after := #[], guard := none }) rfl (fun K hK => ?_) AllReadyH.nil
                      go_simp
                      obtain ⟨vd_4_12_7_13_14, hw⟩ : ∃ y_, y_ = vd_4_12_7_13.alloc (.cells #[] 3) := ⟨_, rfl⟩
                      obtain ⟨b14, hb⟩ : ∃ y_, y_ = vd_4_12_7_13.heap.size := ⟨_, rfl⟩
                      rw [← hw, ← hb]
                      have BNvd_4_12_7_13_14 : Hid (Below vd_4_12_7_13.heap.size vd_4_12_7_13 vd_4_12_7_13_14) := by show Below _ _ _; rw [hw]; exact below_alloc _ _
                      have L14_vd_4_12_7_13_14 : Hid (Lies vd_4_12_7_13_14 b14 3 #[]) := by show Lies _ _ _ _; rw [hw, hb]; exact Lies.new _ _ _
                      have BE14 : Hid (w1.heap.size ≤ b14) := by show _ ≤ _; rw [hb]; exact HB_vd_4_12_7_13.out.size
                      clear hw hb
                      have HB_vd_4_12_7_13_14 := hid (dt16 HB_vd_4_12_7_13.out BNvd_4_12_7_13_14.out)
                      have R13_vd_4_12_7_13_14 := hid (own_later R13_vd_4_12_7_13.out BNvd_4_12_7_13_14.out)
                      refine hK.out _ _ ?_ (fun hH5 => ?_)
                      · exact ⟨(X1.out.later HB_vd_4_12_7_13_14.out).c2.1, (X1.out.later HB_vd_4_12_7_13_14.out).c2.2, (HB_vd_4_12_7_13_14.out.cell (p := ⟨bt, ot, none⟩) HBT.out).trans HX.out⟩
                      clear hK K
                      try simp only [Act.put, List.setIfInBounds_toArray, List.set_cons_zero, List.set_cons_succ]
                      refine wpAnyH_ready (rs := [18]) (by kernel_rfl) (by simp) ?_
                      refine AllReadyH.cons (i := 18) (o := { dst := some 66, op := Go.Op.call { callee := Go.Callee.builtin Go.Builtin.append, args := #[Go.Operand.tmp 62, Go.Operand.tmp 65], argTypes := #[22, 22] }, type := 22, pos := "ref.go:39", after := #[{ on := 14, ground := Go.Ground.data }, { on := 17, ground := Go.Ground.data }, { on := 13, ground := Go.Ground.chain }], guard := none }) rfl (fun K hK => ?_) AllReadyH.nil
                      obtain ⟨g18, c18, vd_4_12_7_13_14_18, hr, hb, hg, ho⟩ := app_any16 vd_4_12_7_13_14 b14 L14_vd_4_12_7_13_14.out xs (if d = 1 then some ⟨bt, ot, none⟩ else some ⟨bt, ot + 1, none⟩ : Option Addr) (d - 1) (RQ1.out.below HB_vd_4_12_7_13_14.out) NQ.out (by have := HLN.out; have := HXS.out; omega)
                      have BNvd_4_12_7_13_14_18 := hid hb
                      have HR18 := hid hr
                      have R18_vd_4_12_7_13_14_18 : Hid (vd_4_12_7_13_14_18.ownsRow g18 3 1 (.slice (some ⟨g18, 0, none⟩) xs.length c18) xs.length (xs.map (Value.int .i64))) := ho
                      have GE18 : Hid (w1.heap.size ≤ g18) := by
                        show _ ≤ _
                        rcases hg with h | h
                        · rw [h]; exact BE14.out
                        · exact Nat.le_trans HB_vd_4_12_7_13_14.out.size h
                      clear hr hb hg ho
                      have HB_vd_4_12_7_13_14_18 := hid (dt16 HB_vd_4_12_7_13_14.out BNvd_4_12_7_13_14_18.out)
                      have R13_vd_4_12_7_13_14_18 := hid (own_later R13_vd_4_12_7_13_14.out BNvd_4_12_7_13_14_18.out)
                      have L14_vd_4_12_7_13_14_18 := hid (L14_vd_4_12_7_13_14.out.later BNvd_4_12_7_13_14_18.out)
                      rw [if_pos (by rfl)]
                      refine wp_append_run16 (.tmp 62) (.tmp 65) 22 rfl _ _ HR18.out ?_
                      refine hK.out _ _ ?_ (fun hH6 => ?_)
                      · exact ⟨(X1.out.later HB_vd_4_12_7_13_14_18.out).c2.1, (X1.out.later HB_vd_4_12_7_13_14_18.out).c2.2, (HB_vd_4_12_7_13_14_18.out.cell (p := ⟨bt, ot, none⟩) HBT.out).trans HX.out⟩
                      clear hK K
                      try simp only [Act.put, List.setIfInBounds_toArray, List.set_cons_zero, List.set_cons_succ]
                      refine wpAnyH_take (i := 19) (oi := { dst := some 67, op := Go.Op.build 24 #[(0, Go.Operand.tmp 61), (1, Go.Operand.tmp 66)], type := 24, pos := "ref.go:39", after := #[{ on := 13, ground := Go.Ground.data }, { on := 18, ground := Go.Ground.data }, { on := 20, ground := Go.Ground.gcOnly Go.Departure.lateStores }], guard := none }) (v := ?vv31) rfl (by kernel_rfl) (by kernel_rfl) (by kernel_rfl) (fun _ _ _ h => h) (Or.inl ⟨by rfl, ?hy31⟩) (by assumption) ?rr31
                      case hy31 => intro w hSw; (try dsimp only at hSw); go_simp; all_goals with_reducible rfl
                      try simp only [Act.put, List.setIfInBounds_toArray, List.set_cons_zero, List.set_cons_succ]
                      refine wpAnyH_take (i := 20) (oi := { dst := some 4, op := Go.Op.assign (Go.Operand.tmp 51), type := 3, pos := "ref.go:39", after := #[{ on := 3, ground := Go.Ground.data }, { on := 18, ground := Go.Ground.chain }, { on := 0, ground := Go.Ground.phase }, { on := 1, ground := Go.Ground.phase }, { on := 2, ground := Go.Ground.phase }, { on := 3, ground := Go.Ground.phase }, { on := 4, ground := Go.Ground.textOnly Go.Departure.lateStores }, { on := 5, ground := Go.Ground.textOnly Go.Departure.lateStores }, { on := 6, ground := Go.Ground.textOnly Go.Departure.lateStores }, { on := 7, ground := Go.Ground.textOnly Go.Departure.lateStoresUnsure }, { on := 8, ground := Go.Ground.textOnly Go.Departure.lateStores }, { on := 9, ground := Go.Ground.textOnly Go.Departure.lateStores }, { on := 10, ground := Go.Ground.textOnly Go.Departure.lateStores }, { on := 11, ground := Go.Ground.textOnly Go.Departure.lateStores }, { on := 12, ground := Go.Ground.textOnly Go.Departure.lateStores }, { on := 13, ground := Go.Ground.textOnly Go.Departure.lateStoresUnsure }, { on := 14, ground := Go.Ground.textOnly Go.Departure.lateStores }, { on := 15, ground := Go.Ground.textOnly Go.Departure.lateStores }, { on := 16, ground := Go.Ground.textOnly Go.Departure.lateStores }, { on := 17, ground := Go.Ground.textOnly Go.Departure.lateStoresUnsure }, { on := 18, ground := Go.Ground.textOnly Go.Departure.lateStoresUnsure }, { on := 19, ground := Go.Ground.textOnly Go.Departure.lateStores }], guard := none }) (v := ?vv32) rfl (by kernel_rfl) (by kernel_rfl) (by kernel_rfl) (fun _ _ _ h => h) (Or.inl ⟨by rfl, ?hy32⟩) (by assumption) ?rr32
                      case hy32 => intro w hSw; (try dsimp only at hSw); go_simp; all_goals with_reducible rfl
                      try simp only [Act.put, List.setIfInBounds_toArray, List.set_cons_zero, List.set_cons_succ]
                      refine wpAnyH_ready (rs := [21]) (by kernel_rfl) (by simp) ?_
                      refine AllReadyH.cons (i := 21) (o := { dst := none, op := Go.Op.store 24 (Go.Operand.tmp 5) (Go.Operand.tmp 67), type := 0, pos := "ref.go:39", after := #[{ on := 19, ground := Go.Ground.data }, { on := 20, ground := Go.Ground.chain }, { on := 0, ground := Go.Ground.phase }, { on := 1, ground := Go.Ground.phase }, { on := 2, ground := Go.Ground.phase }, { on := 3, ground := Go.Ground.phase }, { on := 4, ground := Go.Ground.phase }, { on := 5, ground := Go.Ground.phase }, { on := 6, ground := Go.Ground.phase }, { on := 7, ground := Go.Ground.phase }, { on := 8, ground := Go.Ground.phase }, { on := 9, ground := Go.Ground.phase }, { on := 10, ground := Go.Ground.phase }, { on := 11, ground := Go.Ground.phase }, { on := 12, ground := Go.Ground.phase }, { on := 13, ground := Go.Ground.phase }, { on := 14, ground := Go.Ground.phase }, { on := 15, ground := Go.Ground.phase }, { on := 16, ground := Go.Ground.phase }, { on := 17, ground := Go.Ground.phase }, { on := 18, ground := Go.Ground.phase }, { on := 19, ground := Go.Ground.phase }, { on := 20, ground := Go.Ground.phase }], guard := none }) rfl (fun K hK => ?_) AllReadyH.nil
                      obtain ⟨z0, z1⟩ := (K1.out.later HB_vd_4_12_7_13_14_18.out).c2
                      obtain ⟨zf0, zf1⟩ := (K1.out.later HB_vd_4_12_7_13_14_18.out).f2
                      go_simp
                      refine hK.out _ _ ?_ (fun hH7 => ?_)
                      · exact ⟨((((X1.out.later HB_vd_4_12_7_13_14_18.out).far (p := ⟨w.heap.size + 1, 0, none⟩) (by simp) _).far (p := ⟨w.heap.size + 1, 1, none⟩) (by simp) _)).c2.1, ((((X1.out.later HB_vd_4_12_7_13_14_18.out).far (p := ⟨w.heap.size + 1, 0, none⟩) (by simp) _).far (p := ⟨w.heap.size + 1, 1, none⟩) (by simp) _)).c2.2, far_cell16 NBT.out (far_cell16 NBT.out ((HB_vd_4_12_7_13_14_18.out.cell (p := ⟨bt, ot, none⟩) HBT.out).trans HX.out))⟩
                      clear hK K
                      try simp only [Act.put, List.setIfInBounds_toArray, List.set_cons_zero, List.set_cons_succ]
                      clear z0 z1 zf0 zf1
                      refine wpAnyH_take (i := 22) (oi := { dst := some 6, op := Go.Op.assign (Go.Operand.const (Go.Value.int Go.IntKind.i64 0)), type := 26, pos := "ref.go:39", after := #[{ on := 21, ground := Go.Ground.chain }, { on := 0, ground := Go.Ground.phase }, { on := 1, ground := Go.Ground.phase }, { on := 2, ground := Go.Ground.phase }, { on := 3, ground := Go.Ground.phase }, { on := 4, ground := Go.Ground.phase }, { on := 5, ground := Go.Ground.phase }, { on := 6, ground := Go.Ground.phase }, { on := 7, ground := Go.Ground.phase }, { on := 8, ground := Go.Ground.phase }, { on := 9, ground := Go.Ground.phase }, { on := 10, ground := Go.Ground.phase }, { on := 11, ground := Go.Ground.phase }, { on := 12, ground := Go.Ground.phase }, { on := 13, ground := Go.Ground.phase }, { on := 14, ground := Go.Ground.phase }, { on := 15, ground := Go.Ground.phase }, { on := 16, ground := Go.Ground.phase }, { on := 17, ground := Go.Ground.phase }, { on := 18, ground := Go.Ground.phase }, { on := 19, ground := Go.Ground.phase }, { on := 20, ground := Go.Ground.phase }, { on := 21, ground := Go.Ground.phase }], guard := none }) (v := ?vv33) rfl (by kernel_rfl) (by kernel_rfl) (by kernel_rfl) (fun _ _ _ h => h) (Or.inl ⟨by rfl, ?hy33⟩) (by assumption) ?rr33
                      case hy33 => intro w hSw; (try dsimp only at hSw); go_simp; all_goals with_reducible rfl
                      try simp only [Act.put, List.setIfInBounds_toArray, List.set_cons_zero, List.set_cons_succ]
                      refine wpAnyH_done (by kernel_rfl) ?_ _
                      have KF := ((K1.out.later HB_vd_4_12_7_13_14_18.out).set_ 0 (.slice A13 (t.log.length + 1) c13)).set_ 1 (.slice (some ⟨g18, 0, none⟩) xs.length c18)
                      have h1 := ((then_w HB1.out HB_vd_4_12_7_13_14_18.out).setCell (p := ⟨w.heap.size + 1, 0, none⟩) (by simp) (.slice A13 (t.log.length + 1) c13)).setCell (p := ⟨w.heap.size + 1, 1, none⟩) (by simp) (.slice (some ⟨g18, 0, none⟩) xs.length c18)
                      have hlt : w.heap.size + 1 < w1.heap.size := K1.out.lt
                      have r0 := KF.cell 0
                      have r1 := KF.cell 1
                      simp only [List.setIfInBounds_toArray, List.set_cons_zero, List.set_cons_succ, List.getElem?_toArray, List.getElem?_cons_zero, List.getElem?_cons_succ] at r0 r1
                      go_wp2_with fail
                      all_goals
                        refine bodyPost_ret (v := .tuple #[.int .i64 x, .agg #[.slice A13 (t.log.length + 1) c13, .slice (some ⟨g18, 0, none⟩) xs.length c18], .int .i64 0]) (by simp [results, Try.results9, go_sem, r0, r1]) rfl ?_
                        refine ⟨A13, c13, some ⟨g18, 0, none⟩, c18, ?_, ?_, ?_, own_nil16 R13_vd_4_12_7_13_14_18.out, (fun e => by cases e), ?_, ?_, h1⟩
                        · rw [EV.out.1, EV.out.2, drE_yes E.out]; show _ = Ending.returned (.tuple #[.int .i64 x, .agg #[.slice A13 (t.log ++ [x]).length c13, .slice (some ⟨g18, 0, none⟩) xs.length c18], .int .i64 0]); rw [List.length_append]; rfl
                        · rw [EV.out.1]; exact own_ints (xs := t.log ++ [x]) (c := c13) (by rw [List.length_append]; exact own_far16 (own_far16 R13_vd_4_12_7_13_14_18.out hlt 0 _) hlt 1 _)
                        · rw [EV.out.1]; exact own_ints (xs := xs) (c := c18) (own_far16 (own_far16 R18_vd_4_12_7_13_14_18.out (Nat.lt_of_lt_of_le hlt GE18.out) 0 _) (Nat.lt_of_lt_of_le hlt GE18.out) 1 _)
                        · rw [EV.out.1]; show (t.log ++ [x]).length ≤ c13; rw [List.length_append]; exact own_cap R13_vd_4_12_7_13_14_18.out
                        · rw [EV.out.1]; exact own_cap R18_vd_4_12_7_13_14_18.out
                    · go_simp
                      obtain ⟨vd_4_12_7_14, hw⟩ : ∃ y_, y_ = vd_4_12_7.alloc (.cells #[] 3) := ⟨_, rfl⟩
                      obtain ⟨b14, hb⟩ : ∃ y_, y_ = vd_4_12_7.heap.size := ⟨_, rfl⟩
                      rw [← hw, ← hb]
                      have BNvd_4_12_7_14 : Hid (Below vd_4_12_7.heap.size vd_4_12_7 vd_4_12_7_14) := by show Below _ _ _; rw [hw]; exact below_alloc _ _
                      have L14_vd_4_12_7_14 : Hid (Lies vd_4_12_7_14 b14 3 #[]) := by show Lies _ _ _ _; rw [hw, hb]; exact Lies.new _ _ _
                      have NE4_14 : Hid (b4 ≠ b14) := by show _ ≠ _; rw [hb]; exact Nat.ne_of_lt L4_vd_4_12_7.out.lt
                      have NG7_14 : Hid (g7 ≠ b14) := by show _ ≠ _; rw [hb]; exact Nat.ne_of_lt (R7_vd_4_12_7.out.lt g7 rfl).2
                      have BE14 : Hid (w1.heap.size ≤ b14) := by show _ ≤ _; rw [hb]; exact HB_vd_4_12_7.out.size
                      clear hw hb
                      have HB_vd_4_12_7_14 := hid (dt16 HB_vd_4_12_7.out BNvd_4_12_7_14.out)
                      have L4_vd_4_12_7_14 := hid (L4_vd_4_12_7.out.later BNvd_4_12_7_14.out)
                      have L12_vd_4_12_7_14 := hid (L12_vd_4_12_7.out.later BNvd_4_12_7_14.out)
                      have R7_vd_4_12_7_14 := hid (own_later R7_vd_4_12_7.out BNvd_4_12_7_14.out)
                      refine hK.out _ _ ?_ (fun hH4 => ?_)
                      · exact ⟨(X1.out.later HB_vd_4_12_7_14.out).c2.1, (X1.out.later HB_vd_4_12_7_14.out).c2.2, (HB_vd_4_12_7_14.out.cell (p := ⟨bt, ot, none⟩) HBT.out).trans HX.out⟩
                      clear hK K
                      try simp only [Act.put, List.setIfInBounds_toArray, List.set_cons_zero, List.set_cons_succ]
                      refine wpAnyH_ready (rs := [13]) (by kernel_rfl) (by simp) ?_
                      refine AllReadyH.cons (i := 13) (o := { dst := some 61, op := Go.Op.call { callee := Go.Callee.builtin Go.Builtin.append, args := #[Go.Operand.tmp 55, Go.Operand.tmp 60], argTypes := #[22, 22] }, type := 22, pos := "ref.go:39", after := #[{ on := 7, ground := Go.Ground.data }, { on := 12, ground := Go.Ground.data }, { on := 7, ground := Go.Ground.chain }], guard := none }) rfl (fun K hK => ?_) AllReadyH.nil
                      obtain ⟨v13, vd_4_12_7_14_13, hr, ho, hg⟩ := run_app_ints16 vd_4_12_7_14 w1.heap.size _ _ t.log (own_base16 R7_vd_4_12_7_14.out GE7.out) (some ⟨b12, 0, none⟩) 1 [x] (ints_lies16 L12_vd_4_12_7_14.out) (fun h => by cases h) (by have := HLN.out; simp; omega) HB_vd_4_12_7_14.out.size
                      obtain ⟨A13, c13, rfl⟩ := own_form ho
                      have HR13 := hid hr
                      have R13_vd_4_12_7_14_13 := hid ho
                      have HB_vd_4_12_7_14_13 : Hid (Below w1.heap.size w1 vd_4_12_7_14_13) := HB_vd_4_12_7_14.out.grown hg HB_vd_4_12_7_14.out.size (fun k hk => ((own_base16 R7_vd_4_12_7_14.out GE7.out).lt k hk).1)
                      have L14_vd_4_12_7_14_13 := hid (lies_grown16 hg L14_vd_4_12_7_14.out (fun h => NG7_14.out (Option.some.inj h)))
                      clear hr ho hg
                      rw [if_pos (by rfl)]
                      refine wp_append_run16 (.tmp 55) (.tmp 60) 22 rfl _ _ HR13.out ?_
                      refine hK.out _ _ ?_ (fun hH5 => ?_)
                      · exact ⟨(X1.out.later HB_vd_4_12_7_14_13.out).c2.1, (X1.out.later HB_vd_4_12_7_14_13.out).c2.2, (HB_vd_4_12_7_14_13.out.cell (p := ⟨bt, ot, none⟩) HBT.out).trans HX.out⟩
                      clear hK K
                      try simp only [Act.put, List.setIfInBounds_toArray, List.set_cons_zero, List.set_cons_succ]
                      refine wpAnyH_ready (rs := [18]) (by kernel_rfl) (by simp) ?_
                      refine AllReadyH.cons (i := 18) (o := { dst := some 66, op := Go.Op.call { callee := Go.Callee.builtin Go.Builtin.append, args := #[Go.Operand.tmp 62, Go.Operand.tmp 65], argTypes := #[22, 22] }, type := 22, pos := "ref.go:39", after := #[{ on := 14, ground := Go.Ground.data }, { on := 17, ground := Go.Ground.data }, { on := 13, ground := Go.Ground.chain }], guard := none }) rfl (fun K hK => ?_) AllReadyH.nil
                      obtain ⟨g18, c18, vd_4_12_7_14_13_18, hr, hb, hg, ho⟩ := app_any16 vd_4_12_7_14_13 b14 L14_vd_4_12_7_14_13.out xs (if d = 1 then some ⟨bt, ot, none⟩ else some ⟨bt, ot + 1, none⟩ : Option Addr) (d - 1) (RQ1.out.below HB_vd_4_12_7_14_13.out) NQ.out (by have := HLN.out; have := HXS.out; omega)
                      have BNvd_4_12_7_14_13_18 := hid hb
                      have HR18 := hid hr
                      have R18_vd_4_12_7_14_13_18 : Hid (vd_4_12_7_14_13_18.ownsRow g18 3 1 (.slice (some ⟨g18, 0, none⟩) xs.length c18) xs.length (xs.map (Value.int .i64))) := ho
                      have GE18 : Hid (w1.heap.size ≤ g18) := by
                        show _ ≤ _
                        rcases hg with h | h
                        · rw [h]; exact BE14.out
                        · exact Nat.le_trans HB_vd_4_12_7_14_13.out.size h
                      clear hr hb hg ho
                      have HB_vd_4_12_7_14_13_18 := hid (dt16 HB_vd_4_12_7_14_13.out BNvd_4_12_7_14_13_18.out)
                      have L14_vd_4_12_7_14_13_18 := hid (L14_vd_4_12_7_14_13.out.later BNvd_4_12_7_14_13_18.out)
                      have R13_vd_4_12_7_14_13_18 := hid (own_later R13_vd_4_12_7_14_13.out BNvd_4_12_7_14_13_18.out)
                      rw [if_pos (by rfl)]
                      refine wp_append_run16 (.tmp 62) (.tmp 65) 22 rfl _ _ HR18.out ?_
                      refine hK.out _ _ ?_ (fun hH6 => ?_)
                      · exact ⟨(X1.out.later HB_vd_4_12_7_14_13_18.out).c2.1, (X1.out.later HB_vd_4_12_7_14_13_18.out).c2.2, (HB_vd_4_12_7_14_13_18.out.cell (p := ⟨bt, ot, none⟩) HBT.out).trans HX.out⟩
                      clear hK K
                      try simp only [Act.put, List.setIfInBounds_toArray, List.set_cons_zero, List.set_cons_succ]
                      refine wpAnyH_take (i := 19) (oi := { dst := some 67, op := Go.Op.build 24 #[(0, Go.Operand.tmp 61), (1, Go.Operand.tmp 66)], type := 24, pos := "ref.go:39", after := #[{ on := 13, ground := Go.Ground.data }, { on := 18, ground := Go.Ground.data }, { on := 20, ground := Go.Ground.gcOnly Go.Departure.lateStores }], guard := none }) (v := ?vv34) rfl (by kernel_rfl) (by kernel_rfl) (by kernel_rfl) (fun _ _ _ h => h) (Or.inl ⟨by rfl, ?hy34⟩) (by assumption) ?rr34
                      case hy34 => intro w hSw; (try dsimp only at hSw); go_simp; all_goals with_reducible rfl
                      try simp only [Act.put, List.setIfInBounds_toArray, List.set_cons_zero, List.set_cons_succ]
                      refine wpAnyH_take (i := 20) (oi := { dst := some 4, op := Go.Op.assign (Go.Operand.tmp 51), type := 3, pos := "ref.go:39", after := #[{ on := 3, ground := Go.Ground.data }, { on := 18, ground := Go.Ground.chain }, { on := 0, ground := Go.Ground.phase }, { on := 1, ground := Go.Ground.phase }, { on := 2, ground := Go.Ground.phase }, { on := 3, ground := Go.Ground.phase }, { on := 4, ground := Go.Ground.textOnly Go.Departure.lateStores }, { on := 5, ground := Go.Ground.textOnly Go.Departure.lateStores }, { on := 6, ground := Go.Ground.textOnly Go.Departure.lateStores }, { on := 7, ground := Go.Ground.textOnly Go.Departure.lateStoresUnsure }, { on := 8, ground := Go.Ground.textOnly Go.Departure.lateStores }, { on := 9, ground := Go.Ground.textOnly Go.Departure.lateStores }, { on := 10, ground := Go.Ground.textOnly Go.Departure.lateStores }, { on := 11, ground := Go.Ground.textOnly Go.Departure.lateStores }, { on := 12, ground := Go.Ground.textOnly Go.Departure.lateStores }, { on := 13, ground := Go.Ground.textOnly Go.Departure.lateStoresUnsure }, { on := 14, ground := Go.Ground.textOnly Go.Departure.lateStores }, { on := 15, ground := Go.Ground.textOnly Go.Departure.lateStores }, { on := 16, ground := Go.Ground.textOnly Go.Departure.lateStores }, { on := 17, ground := Go.Ground.textOnly Go.Departure.lateStoresUnsure }, { on := 18, ground := Go.Ground.textOnly Go.Departure.lateStoresUnsure }, { on := 19, ground := Go.Ground.textOnly Go.Departure.lateStores }], guard := none }) (v := ?vv35) rfl (by kernel_rfl) (by kernel_rfl) (by kernel_rfl) (fun _ _ _ h => h) (Or.inl ⟨by rfl, ?hy35⟩) (by assumption) ?rr35
                      case hy35 => intro w hSw; (try dsimp only at hSw); go_simp; all_goals with_reducible rfl
                      try simp only [Act.put, List.setIfInBounds_toArray, List.set_cons_zero, List.set_cons_succ]
                      refine wpAnyH_ready (rs := [21]) (by kernel_rfl) (by simp) ?_
                      refine AllReadyH.cons (i := 21) (o := { dst := none, op := Go.Op.store 24 (Go.Operand.tmp 5) (Go.Operand.tmp 67), type := 0, pos := "ref.go:39", after := #[{ on := 19, ground := Go.Ground.data }, { on := 20, ground := Go.Ground.chain }, { on := 0, ground := Go.Ground.phase }, { on := 1, ground := Go.Ground.phase }, { on := 2, ground := Go.Ground.phase }, { on := 3, ground := Go.Ground.phase }, { on := 4, ground := Go.Ground.phase }, { on := 5, ground := Go.Ground.phase }, { on := 6, ground := Go.Ground.phase }, { on := 7, ground := Go.Ground.phase }, { on := 8, ground := Go.Ground.phase }, { on := 9, ground := Go.Ground.phase }, { on := 10, ground := Go.Ground.phase }, { on := 11, ground := Go.Ground.phase }, { on := 12, ground := Go.Ground.phase }, { on := 13, ground := Go.Ground.phase }, { on := 14, ground := Go.Ground.phase }, { on := 15, ground := Go.Ground.phase }, { on := 16, ground := Go.Ground.phase }, { on := 17, ground := Go.Ground.phase }, { on := 18, ground := Go.Ground.phase }, { on := 19, ground := Go.Ground.phase }, { on := 20, ground := Go.Ground.phase }], guard := none }) rfl (fun K hK => ?_) AllReadyH.nil
                      obtain ⟨z0, z1⟩ := (K1.out.later HB_vd_4_12_7_14_13_18.out).c2
                      obtain ⟨zf0, zf1⟩ := (K1.out.later HB_vd_4_12_7_14_13_18.out).f2
                      go_simp
                      refine hK.out _ _ ?_ (fun hH7 => ?_)
                      · exact ⟨((((X1.out.later HB_vd_4_12_7_14_13_18.out).far (p := ⟨w.heap.size + 1, 0, none⟩) (by simp) _).far (p := ⟨w.heap.size + 1, 1, none⟩) (by simp) _)).c2.1, ((((X1.out.later HB_vd_4_12_7_14_13_18.out).far (p := ⟨w.heap.size + 1, 0, none⟩) (by simp) _).far (p := ⟨w.heap.size + 1, 1, none⟩) (by simp) _)).c2.2, far_cell16 NBT.out (far_cell16 NBT.out ((HB_vd_4_12_7_14_13_18.out.cell (p := ⟨bt, ot, none⟩) HBT.out).trans HX.out))⟩
                      clear hK K
                      try simp only [Act.put, List.setIfInBounds_toArray, List.set_cons_zero, List.set_cons_succ]
                      clear z0 z1 zf0 zf1
                      refine wpAnyH_take (i := 22) (oi := { dst := some 6, op := Go.Op.assign (Go.Operand.const (Go.Value.int Go.IntKind.i64 0)), type := 26, pos := "ref.go:39", after := #[{ on := 21, ground := Go.Ground.chain }, { on := 0, ground := Go.Ground.phase }, { on := 1, ground := Go.Ground.phase }, { on := 2, ground := Go.Ground.phase }, { on := 3, ground := Go.Ground.phase }, { on := 4, ground := Go.Ground.phase }, { on := 5, ground := Go.Ground.phase }, { on := 6, ground := Go.Ground.phase }, { on := 7, ground := Go.Ground.phase }, { on := 8, ground := Go.Ground.phase }, { on := 9, ground := Go.Ground.phase }, { on := 10, ground := Go.Ground.phase }, { on := 11, ground := Go.Ground.phase }, { on := 12, ground := Go.Ground.phase }, { on := 13, ground := Go.Ground.phase }, { on := 14, ground := Go.Ground.phase }, { on := 15, ground := Go.Ground.phase }, { on := 16, ground := Go.Ground.phase }, { on := 17, ground := Go.Ground.phase }, { on := 18, ground := Go.Ground.phase }, { on := 19, ground := Go.Ground.phase }, { on := 20, ground := Go.Ground.phase }, { on := 21, ground := Go.Ground.phase }], guard := none }) (v := ?vv36) rfl (by kernel_rfl) (by kernel_rfl) (by kernel_rfl) (fun _ _ _ h => h) (Or.inl ⟨by rfl, ?hy36⟩) (by assumption) ?rr36
                      case hy36 => intro w hSw; (try dsimp only at hSw); go_simp; all_goals with_reducible rfl
                      try simp only [Act.put, List.setIfInBounds_toArray, List.set_cons_zero, List.set_cons_succ]
                      refine wpAnyH_done (by kernel_rfl) ?_ _
                      have KF := ((K1.out.later HB_vd_4_12_7_14_13_18.out).set_ 0 (.slice A13 (t.log.length + 1) c13)).set_ 1 (.slice (some ⟨g18, 0, none⟩) xs.length c18)
                      have h1 := ((then_w HB1.out HB_vd_4_12_7_14_13_18.out).setCell (p := ⟨w.heap.size + 1, 0, none⟩) (by simp) (.slice A13 (t.log.length + 1) c13)).setCell (p := ⟨w.heap.size + 1, 1, none⟩) (by simp) (.slice (some ⟨g18, 0, none⟩) xs.length c18)
                      have hlt : w.heap.size + 1 < w1.heap.size := K1.out.lt
                      have r0 := KF.cell 0
                      have r1 := KF.cell 1
                      simp only [List.setIfInBounds_toArray, List.set_cons_zero, List.set_cons_succ, List.getElem?_toArray, List.getElem?_cons_zero, List.getElem?_cons_succ] at r0 r1
                      go_wp2_with fail
                      all_goals
                        refine bodyPost_ret (v := .tuple #[.int .i64 x, .agg #[.slice A13 (t.log.length + 1) c13, .slice (some ⟨g18, 0, none⟩) xs.length c18], .int .i64 0]) (by simp [results, Try.results9, go_sem, r0, r1]) rfl ?_
                        refine ⟨A13, c13, some ⟨g18, 0, none⟩, c18, ?_, ?_, ?_, own_nil16 R13_vd_4_12_7_14_13_18.out, (fun e => by cases e), ?_, ?_, h1⟩
                        · rw [EV.out.1, EV.out.2, drE_yes E.out]; show _ = Ending.returned (.tuple #[.int .i64 x, .agg #[.slice A13 (t.log ++ [x]).length c13, .slice (some ⟨g18, 0, none⟩) xs.length c18], .int .i64 0]); rw [List.length_append]; rfl
                        · rw [EV.out.1]; exact own_ints (xs := t.log ++ [x]) (c := c13) (by rw [List.length_append]; exact own_far16 (own_far16 R13_vd_4_12_7_14_13_18.out hlt 0 _) hlt 1 _)
                        · rw [EV.out.1]; exact own_ints (xs := xs) (c := c18) (own_far16 (own_far16 R18_vd_4_12_7_14_13_18.out (Nat.lt_of_lt_of_le hlt GE18.out) 0 _) (Nat.lt_of_lt_of_le hlt GE18.out) 1 _)
                        · rw [EV.out.1]; show (t.log ++ [x]).length ≤ c13; rw [List.length_append]; exact own_cap R13_vd_4_12_7_14_13_18.out
                        · rw [EV.out.1]; exact own_cap R18_vd_4_12_7_14_13_18.out
                  · go_simp
                    obtain ⟨vd_4_12_14, hw⟩ : ∃ y_, y_ = vd_4_12.alloc (.cells #[] 3) := ⟨_, rfl⟩
                    obtain ⟨b14, hb⟩ : ∃ y_, y_ = vd_4_12.heap.size := ⟨_, rfl⟩
                    rw [← hw, ← hb]
                    have BNvd_4_12_14 : Hid (Below vd_4_12.heap.size vd_4_12 vd_4_12_14) := by show Below _ _ _; rw [hw]; exact below_alloc _ _
                    have L14_vd_4_12_14 : Hid (Lies vd_4_12_14 b14 3 #[]) := by show Lies _ _ _ _; rw [hw, hb]; exact Lies.new _ _ _
                    have NE4_14 : Hid (b4 ≠ b14) := by show _ ≠ _; rw [hb]; exact Nat.ne_of_lt L4_vd_4_12.out.lt
                    have BE14 : Hid (w1.heap.size ≤ b14) := by show _ ≤ _; rw [hb]; exact HB_vd_4_12.out.size
                    clear hw hb
                    have HB_vd_4_12_14 := hid (dt16 HB_vd_4_12.out BNvd_4_12_14.out)
                    have L4_vd_4_12_14 := hid (L4_vd_4_12.out.later BNvd_4_12_14.out)
                    have L12_vd_4_12_14 := hid (L12_vd_4_12.out.later BNvd_4_12_14.out)
                    refine hK.out _ _ ?_ (fun hH3 => ?_)
                    · exact ⟨(X1.out.later HB_vd_4_12_14.out).c2.1, (X1.out.later HB_vd_4_12_14.out).c2.2, (HB_vd_4_12_14.out.cell (p := ⟨bt, ot, none⟩) HBT.out).trans HX.out⟩
                    clear hK K
                    try simp only [Act.put, List.setIfInBounds_toArray, List.set_cons_zero, List.set_cons_succ]
                    refine wpAnyH_ready (rs := [7]) (by kernel_rfl) (by simp) ?_
                    refine AllReadyH.cons (i := 7) (o := { dst := some 55, op := Go.Op.call { callee := Go.Callee.builtin Go.Builtin.append, args := #[Go.Operand.tmp 52, Go.Operand.tmp 54], argTypes := #[22, 22] }, type := 22, pos := "ref.go:39", after := #[{ on := 4, ground := Go.Ground.data }, { on := 6, ground := Go.Ground.data }], guard := none }) rfl (fun K hK => ?_) AllReadyH.nil
                    obtain ⟨g7, c7, vd_4_12_14_7, hr, hb, hg, ho⟩ := app_any16 vd_4_12_14 b4 L4_vd_4_12_14.out t.log A c (RA1.out.below HB_vd_4_12_14.out) NA.out (by have := HLN.out; omega)
                    have BNvd_4_12_14_7 := hid hb
                    have HR7 := hid hr
                    have R7_vd_4_12_14_7 : Hid (vd_4_12_14_7.ownsRow g7 3 1 (.slice (some ⟨g7, 0, none⟩) t.log.length c7) t.log.length (t.log.map (Value.int .i64))) := ho
                    have GE7 : Hid (w1.heap.size ≤ g7) := by
                      show _ ≤ _
                      rcases hg with h | h
                      · rw [h]; exact BE4.out
                      · exact Nat.le_trans HB_vd_4_12_14.out.size h
                    have NG7_14 : Hid (g7 ≠ b14) := by
                      show _ ≠ _
                      rcases hg with h | h
                      · rw [h]; exact NE4_14.out
                      · have := L14_vd_4_12_14.out.lt; omega
                    clear hr hb hg ho
                    have HB_vd_4_12_14_7 := hid (dt16 HB_vd_4_12_14.out BNvd_4_12_14_7.out)
                    have L4_vd_4_12_14_7 := hid (L4_vd_4_12_14.out.later BNvd_4_12_14_7.out)
                    have L12_vd_4_12_14_7 := hid (L12_vd_4_12_14.out.later BNvd_4_12_14_7.out)
                    have L14_vd_4_12_14_7 := hid (L14_vd_4_12_14.out.later BNvd_4_12_14_7.out)
                    rw [if_pos (by rfl)]
                    refine wp_append_run16 (.tmp 52) (.tmp 54) 22 rfl _ _ HR7.out ?_
                    refine hK.out _ _ ?_ (fun hH4 => ?_)
                    · exact ⟨(X1.out.later HB_vd_4_12_14_7.out).c2.1, (X1.out.later HB_vd_4_12_14_7.out).c2.2, (HB_vd_4_12_14_7.out.cell (p := ⟨bt, ot, none⟩) HBT.out).trans HX.out⟩
                    clear hK K
                    try simp only [Act.put, List.setIfInBounds_toArray, List.set_cons_zero, List.set_cons_succ]
                    refine wpAnyH_ready (rs := [13]) (by kernel_rfl) (by simp) ?_
                    refine AllReadyH.cons (i := 13) (o := { dst := some 61, op := Go.Op.call { callee := Go.Callee.builtin Go.Builtin.append, args := #[Go.Operand.tmp 55, Go.Operand.tmp 60], argTypes := #[22, 22] }, type := 22, pos := "ref.go:39", after := #[{ on := 7, ground := Go.Ground.data }, { on := 12, ground := Go.Ground.data }, { on := 7, ground := Go.Ground.chain }], guard := none }) rfl (fun K hK => ?_) AllReadyH.nil
                    obtain ⟨v13, vd_4_12_14_7_13, hr, ho, hg⟩ := run_app_ints16 vd_4_12_14_7 w1.heap.size _ _ t.log (own_base16 R7_vd_4_12_14_7.out GE7.out) (some ⟨b12, 0, none⟩) 1 [x] (ints_lies16 L12_vd_4_12_14_7.out) (fun h => by cases h) (by have := HLN.out; simp; omega) HB_vd_4_12_14_7.out.size
                    obtain ⟨A13, c13, rfl⟩ := own_form ho
                    have HR13 := hid hr
                    have R13_vd_4_12_14_7_13 := hid ho
                    have HB_vd_4_12_14_7_13 : Hid (Below w1.heap.size w1 vd_4_12_14_7_13) := HB_vd_4_12_14_7.out.grown hg HB_vd_4_12_14_7.out.size (fun k hk => ((own_base16 R7_vd_4_12_14_7.out GE7.out).lt k hk).1)
                    have L14_vd_4_12_14_7_13 := hid (lies_grown16 hg L14_vd_4_12_14_7.out (fun h => NG7_14.out (Option.some.inj h)))
                    clear hr ho hg
                    rw [if_pos (by rfl)]
                    refine wp_append_run16 (.tmp 55) (.tmp 60) 22 rfl _ _ HR13.out ?_
                    refine hK.out _ _ ?_ (fun hH5 => ?_)
                    · exact ⟨(X1.out.later HB_vd_4_12_14_7_13.out).c2.1, (X1.out.later HB_vd_4_12_14_7_13.out).c2.2, (HB_vd_4_12_14_7_13.out.cell (p := ⟨bt, ot, none⟩) HBT.out).trans HX.out⟩
                    clear hK K
                    try simp only [Act.put, List.setIfInBounds_toArray, List.set_cons_zero, List.set_cons_succ]
                    refine wpAnyH_ready (rs := [18]) (by kernel_rfl) (by simp) ?_
                    refine AllReadyH.cons (i := 18) (o := { dst := some 66, op := Go.Op.call { callee := Go.Callee.builtin Go.Builtin.append, args := #[Go.Operand.tmp 62, Go.Operand.tmp 65], argTypes := #[22, 22] }, type := 22, pos := "ref.go:39", after := #[{ on := 14, ground := Go.Ground.data }, { on := 17, ground := Go.Ground.data }, { on := 13, ground := Go.Ground.chain }], guard := none }) rfl (fun K hK => ?_) AllReadyH.nil
                    obtain ⟨g18, c18, vd_4_12_14_7_13_18, hr, hb, hg, ho⟩ := app_any16 vd_4_12_14_7_13 b14 L14_vd_4_12_14_7_13.out xs (if d = 1 then some ⟨bt, ot, none⟩ else some ⟨bt, ot + 1, none⟩ : Option Addr) (d - 1) (RQ1.out.below HB_vd_4_12_14_7_13.out) NQ.out (by have := HLN.out; have := HXS.out; omega)
                    have BNvd_4_12_14_7_13_18 := hid hb
                    have HR18 := hid hr
                    have R18_vd_4_12_14_7_13_18 : Hid (vd_4_12_14_7_13_18.ownsRow g18 3 1 (.slice (some ⟨g18, 0, none⟩) xs.length c18) xs.length (xs.map (Value.int .i64))) := ho
                    have GE18 : Hid (w1.heap.size ≤ g18) := by
                      show _ ≤ _
                      rcases hg with h | h
                      · rw [h]; exact BE14.out
                      · exact Nat.le_trans HB_vd_4_12_14_7_13.out.size h
                    clear hr hb hg ho
                    have HB_vd_4_12_14_7_13_18 := hid (dt16 HB_vd_4_12_14_7_13.out BNvd_4_12_14_7_13_18.out)
                    have L14_vd_4_12_14_7_13_18 := hid (L14_vd_4_12_14_7_13.out.later BNvd_4_12_14_7_13_18.out)
                    have R13_vd_4_12_14_7_13_18 := hid (own_later R13_vd_4_12_14_7_13.out BNvd_4_12_14_7_13_18.out)
                    rw [if_pos (by rfl)]
                    refine wp_append_run16 (.tmp 62) (.tmp 65) 22 rfl _ _ HR18.out ?_
                    refine hK.out _ _ ?_ (fun hH6 => ?_)
                    · exact ⟨(X1.out.later HB_vd_4_12_14_7_13_18.out).c2.1, (X1.out.later HB_vd_4_12_14_7_13_18.out).c2.2, (HB_vd_4_12_14_7_13_18.out.cell (p := ⟨bt, ot, none⟩) HBT.out).trans HX.out⟩
                    clear hK K
                    try simp only [Act.put, List.setIfInBounds_toArray, List.set_cons_zero, List.set_cons_succ]
                    refine wpAnyH_take (i := 19) (oi := { dst := some 67, op := Go.Op.build 24 #[(0, Go.Operand.tmp 61), (1, Go.Operand.tmp 66)], type := 24, pos := "ref.go:39", after := #[{ on := 13, ground := Go.Ground.data }, { on := 18, ground := Go.Ground.data }, { on := 20, ground := Go.Ground.gcOnly Go.Departure.lateStores }], guard := none }) (v := ?vv37) rfl (by kernel_rfl) (by kernel_rfl) (by kernel_rfl) (fun _ _ _ h => h) (Or.inl ⟨by rfl, ?hy37⟩) (by assumption) ?rr37
                    case hy37 => intro w hSw; (try dsimp only at hSw); go_simp; all_goals with_reducible rfl
                    try simp only [Act.put, List.setIfInBounds_toArray, List.set_cons_zero, List.set_cons_succ]
                    refine wpAnyH_take (i := 20) (oi := { dst := some 4, op := Go.Op.assign (Go.Operand.tmp 51), type := 3, pos := "ref.go:39", after := #[{ on := 3, ground := Go.Ground.data }, { on := 18, ground := Go.Ground.chain }, { on := 0, ground := Go.Ground.phase }, { on := 1, ground := Go.Ground.phase }, { on := 2, ground := Go.Ground.phase }, { on := 3, ground := Go.Ground.phase }, { on := 4, ground := Go.Ground.textOnly Go.Departure.lateStores }, { on := 5, ground := Go.Ground.textOnly Go.Departure.lateStores }, { on := 6, ground := Go.Ground.textOnly Go.Departure.lateStores }, { on := 7, ground := Go.Ground.textOnly Go.Departure.lateStoresUnsure }, { on := 8, ground := Go.Ground.textOnly Go.Departure.lateStores }, { on := 9, ground := Go.Ground.textOnly Go.Departure.lateStores }, { on := 10, ground := Go.Ground.textOnly Go.Departure.lateStores }, { on := 11, ground := Go.Ground.textOnly Go.Departure.lateStores }, { on := 12, ground := Go.Ground.textOnly Go.Departure.lateStores }, { on := 13, ground := Go.Ground.textOnly Go.Departure.lateStoresUnsure }, { on := 14, ground := Go.Ground.textOnly Go.Departure.lateStores }, { on := 15, ground := Go.Ground.textOnly Go.Departure.lateStores }, { on := 16, ground := Go.Ground.textOnly Go.Departure.lateStores }, { on := 17, ground := Go.Ground.textOnly Go.Departure.lateStoresUnsure }, { on := 18, ground := Go.Ground.textOnly Go.Departure.lateStoresUnsure }, { on := 19, ground := Go.Ground.textOnly Go.Departure.lateStores }], guard := none }) (v := ?vv38) rfl (by kernel_rfl) (by kernel_rfl) (by kernel_rfl) (fun _ _ _ h => h) (Or.inl ⟨by rfl, ?hy38⟩) (by assumption) ?rr38
                    case hy38 => intro w hSw; (try dsimp only at hSw); go_simp; all_goals with_reducible rfl
                    try simp only [Act.put, List.setIfInBounds_toArray, List.set_cons_zero, List.set_cons_succ]
                    refine wpAnyH_ready (rs := [21]) (by kernel_rfl) (by simp) ?_
                    refine AllReadyH.cons (i := 21) (o := { dst := none, op := Go.Op.store 24 (Go.Operand.tmp 5) (Go.Operand.tmp 67), type := 0, pos := "ref.go:39", after := #[{ on := 19, ground := Go.Ground.data }, { on := 20, ground := Go.Ground.chain }, { on := 0, ground := Go.Ground.phase }, { on := 1, ground := Go.Ground.phase }, { on := 2, ground := Go.Ground.phase }, { on := 3, ground := Go.Ground.phase }, { on := 4, ground := Go.Ground.phase }, { on := 5, ground := Go.Ground.phase }, { on := 6, ground := Go.Ground.phase }, { on := 7, ground := Go.Ground.phase }, { on := 8, ground := Go.Ground.phase }, { on := 9, ground := Go.Ground.phase }, { on := 10, ground := Go.Ground.phase }, { on := 11, ground := Go.Ground.phase }, { on := 12, ground := Go.Ground.phase }, { on := 13, ground := Go.Ground.phase }, { on := 14, ground := Go.Ground.phase }, { on := 15, ground := Go.Ground.phase }, { on := 16, ground := Go.Ground.phase }, { on := 17, ground := Go.Ground.phase }, { on := 18, ground := Go.Ground.phase }, { on := 19, ground := Go.Ground.phase }, { on := 20, ground := Go.Ground.phase }], guard := none }) rfl (fun K hK => ?_) AllReadyH.nil
                    obtain ⟨z0, z1⟩ := (K1.out.later HB_vd_4_12_14_7_13_18.out).c2
                    obtain ⟨zf0, zf1⟩ := (K1.out.later HB_vd_4_12_14_7_13_18.out).f2
                    go_simp
                    refine hK.out _ _ ?_ (fun hH7 => ?_)
                    · exact ⟨((((X1.out.later HB_vd_4_12_14_7_13_18.out).far (p := ⟨w.heap.size + 1, 0, none⟩) (by simp) _).far (p := ⟨w.heap.size + 1, 1, none⟩) (by simp) _)).c2.1, ((((X1.out.later HB_vd_4_12_14_7_13_18.out).far (p := ⟨w.heap.size + 1, 0, none⟩) (by simp) _).far (p := ⟨w.heap.size + 1, 1, none⟩) (by simp) _)).c2.2, far_cell16 NBT.out (far_cell16 NBT.out ((HB_vd_4_12_14_7_13_18.out.cell (p := ⟨bt, ot, none⟩) HBT.out).trans HX.out))⟩
                    clear hK K
                    try simp only [Act.put, List.setIfInBounds_toArray, List.set_cons_zero, List.set_cons_succ]
                    clear z0 z1 zf0 zf1
                    refine wpAnyH_take (i := 22) (oi := { dst := some 6, op := Go.Op.assign (Go.Operand.const (Go.Value.int Go.IntKind.i64 0)), type := 26, pos := "ref.go:39", after := #[{ on := 21, ground := Go.Ground.chain }, { on := 0, ground := Go.Ground.phase }, { on := 1, ground := Go.Ground.phase }, { on := 2, ground := Go.Ground.phase }, { on := 3, ground := Go.Ground.phase }, { on := 4, ground := Go.Ground.phase }, { on := 5, ground := Go.Ground.phase }, { on := 6, ground := Go.Ground.phase }, { on := 7, ground := Go.Ground.phase }, { on := 8, ground := Go.Ground.phase }, { on := 9, ground := Go.Ground.phase }, { on := 10, ground := Go.Ground.phase }, { on := 11, ground := Go.Ground.phase }, { on := 12, ground := Go.Ground.phase }, { on := 13, ground := Go.Ground.phase }, { on := 14, ground := Go.Ground.phase }, { on := 15, ground := Go.Ground.phase }, { on := 16, ground := Go.Ground.phase }, { on := 17, ground := Go.Ground.phase }, { on := 18, ground := Go.Ground.phase }, { on := 19, ground := Go.Ground.phase }, { on := 20, ground := Go.Ground.phase }, { on := 21, ground := Go.Ground.phase }], guard := none }) (v := ?vv39) rfl (by kernel_rfl) (by kernel_rfl) (by kernel_rfl) (fun _ _ _ h => h) (Or.inl ⟨by rfl, ?hy39⟩) (by assumption) ?rr39
                    case hy39 => intro w hSw; (try dsimp only at hSw); go_simp; all_goals with_reducible rfl
                    try simp only [Act.put, List.setIfInBounds_toArray, List.set_cons_zero, List.set_cons_succ]
                    refine wpAnyH_done (by kernel_rfl) ?_ _
                    have KF := ((K1.out.later HB_vd_4_12_14_7_13_18.out).set_ 0 (.slice A13 (t.log.length + 1) c13)).set_ 1 (.slice (some ⟨g18, 0, none⟩) xs.length c18)
                    have h1 := ((then_w HB1.out HB_vd_4_12_14_7_13_18.out).setCell (p := ⟨w.heap.size + 1, 0, none⟩) (by simp) (.slice A13 (t.log.length + 1) c13)).setCell (p := ⟨w.heap.size + 1, 1, none⟩) (by simp) (.slice (some ⟨g18, 0, none⟩) xs.length c18)
                    have hlt : w.heap.size + 1 < w1.heap.size := K1.out.lt
                    have r0 := KF.cell 0
                    have r1 := KF.cell 1
                    simp only [List.setIfInBounds_toArray, List.set_cons_zero, List.set_cons_succ, List.getElem?_toArray, List.getElem?_cons_zero, List.getElem?_cons_succ] at r0 r1
                    go_wp2_with fail
                    all_goals
                      refine bodyPost_ret (v := .tuple #[.int .i64 x, .agg #[.slice A13 (t.log.length + 1) c13, .slice (some ⟨g18, 0, none⟩) xs.length c18], .int .i64 0]) (by simp [results, Try.results9, go_sem, r0, r1]) rfl ?_
                      refine ⟨A13, c13, some ⟨g18, 0, none⟩, c18, ?_, ?_, ?_, own_nil16 R13_vd_4_12_14_7_13_18.out, (fun e => by cases e), ?_, ?_, h1⟩
                      · rw [EV.out.1, EV.out.2, drE_yes E.out]; show _ = Ending.returned (.tuple #[.int .i64 x, .agg #[.slice A13 (t.log ++ [x]).length c13, .slice (some ⟨g18, 0, none⟩) xs.length c18], .int .i64 0]); rw [List.length_append]; rfl
                      · rw [EV.out.1]; exact own_ints (xs := t.log ++ [x]) (c := c13) (by rw [List.length_append]; exact own_far16 (own_far16 R13_vd_4_12_14_7_13_18.out hlt 0 _) hlt 1 _)
                      · rw [EV.out.1]; exact own_ints (xs := xs) (c := c18) (own_far16 (own_far16 R18_vd_4_12_14_7_13_18.out (Nat.lt_of_lt_of_le hlt GE18.out) 0 _) (Nat.lt_of_lt_of_le hlt GE18.out) 1 _)
                      · rw [EV.out.1]; show (t.log ++ [x]).length ≤ c13; rw [List.length_append]; exact own_cap R13_vd_4_12_14_7_13_18.out
                      · rw [EV.out.1]; exact own_cap R18_vd_4_12_14_7_13_18.out
                · go_simp
                  obtain ⟨vd_4_14, hw⟩ : ∃ y_, y_ = vd_4.alloc (.cells #[] 3) := ⟨_, rfl⟩
                  obtain ⟨b14, hb⟩ : ∃ y_, y_ = vd_4.heap.size := ⟨_, rfl⟩
                  rw [← hw, ← hb]
                  have BNvd_4_14 : Hid (Below vd_4.heap.size vd_4 vd_4_14) := by show Below _ _ _; rw [hw]; exact below_alloc _ _
                  have L14_vd_4_14 : Hid (Lies vd_4_14 b14 3 #[]) := by show Lies _ _ _ _; rw [hw, hb]; exact Lies.new _ _ _
                  have NE4_14 : Hid (b4 ≠ b14) := by show _ ≠ _; rw [hb]; exact Nat.ne_of_lt L4_vd_4.out.lt
                  have BE14 : Hid (w1.heap.size ≤ b14) := by show _ ≤ _; rw [hb]; exact HB_vd_4.out.size
                  clear hw hb
                  have HB_vd_4_14 := hid (dt16 HB_vd_4.out BNvd_4_14.out)
                  have L4_vd_4_14 := hid (L4_vd_4.out.later BNvd_4_14.out)
                  refine hK.out _ _ ?_ (fun hH2 => ?_)
                  · exact ⟨(X1.out.later HB_vd_4_14.out).c2.1, (X1.out.later HB_vd_4_14.out).c2.2, (HB_vd_4_14.out.cell (p := ⟨bt, ot, none⟩) HBT.out).trans HX.out⟩
                  clear hK K
                  try simp only [Act.put, List.setIfInBounds_toArray, List.set_cons_zero, List.set_cons_succ]
                  refine wpAnyH_ready (rs := [7, 12]) (by kernel_rfl) (by simp) ?_
                  refine AllReadyH.cons (i := 7) (o := { dst := some 55, op := Go.Op.call { callee := Go.Callee.builtin Go.Builtin.append, args := #[Go.Operand.tmp 52, Go.Operand.tmp 54], argTypes := #[22, 22] }, type := 22, pos := "ref.go:39", after := #[{ on := 4, ground := Go.Ground.data }, { on := 6, ground := Go.Ground.data }], guard := none }) rfl (fun K hK => ?_) (AllReadyH.cons (i := 12) (o := { dst := some 60, op := Go.Op.buildSlice 22 1 #[(0, Go.Operand.tmp 59)], type := 22, pos := "ref.go:39", after := #[{ on := 11, ground := Go.Ground.data }], guard := none }) rfl (fun K hK => ?_) AllReadyH.nil)
                  · obtain ⟨g7, c7, vd_4_14_7, hr, hb, hg, ho⟩ := app_any16 vd_4_14 b4 L4_vd_4_14.out t.log A c (RA1.out.below HB_vd_4_14.out) NA.out (by have := HLN.out; omega)
                    have BNvd_4_14_7 := hid hb
                    have HR7 := hid hr
                    have R7_vd_4_14_7 : Hid (vd_4_14_7.ownsRow g7 3 1 (.slice (some ⟨g7, 0, none⟩) t.log.length c7) t.log.length (t.log.map (Value.int .i64))) := ho
                    have GE7 : Hid (w1.heap.size ≤ g7) := by
                      show _ ≤ _
                      rcases hg with h | h
                      · rw [h]; exact BE4.out
                      · exact Nat.le_trans HB_vd_4_14.out.size h
                    have NG7_14 : Hid (g7 ≠ b14) := by
                      show _ ≠ _
                      rcases hg with h | h
                      · rw [h]; exact NE4_14.out
                      · have := L14_vd_4_14.out.lt; omega
                    clear hr hb hg ho
                    have HB_vd_4_14_7 := hid (dt16 HB_vd_4_14.out BNvd_4_14_7.out)
                    have L4_vd_4_14_7 := hid (L4_vd_4_14.out.later BNvd_4_14_7.out)
                    have L14_vd_4_14_7 := hid (L14_vd_4_14.out.later BNvd_4_14_7.out)
                    rw [if_pos (by rfl)]
                    refine wp_append_run16 (.tmp 52) (.tmp 54) 22 rfl _ _ HR7.out ?_
                    refine hK.out _ _ ?_ (fun hH3 => ?_)
                    · exact ⟨(X1.out.later HB_vd_4_14_7.out).c2.1, (X1.out.later HB_vd_4_14_7.out).c2.2, (HB_vd_4_14_7.out.cell (p := ⟨bt, ot, none⟩) HBT.out).trans HX.out⟩
                    clear hK K
                    try simp only [Act.put, List.setIfInBounds_toArray, List.set_cons_zero, List.set_cons_succ]
                    refine wpAnyH_ready (rs := [12]) (by kernel_rfl) (by simp) ?_
                    refine AllReadyH.cons (i := 12) (o := { dst := some 60, op := Go.Op.buildSlice 22 1 #[(0, Go.Operand.tmp 59)], type := 22, pos := "ref.go:39", after := #[{ on := 11, ground := Go.Ground.data }], guard := none }) rfl (fun K hK => ?_) AllReadyH.nil
                    go_simp
                    obtain ⟨vd_4_14_7_12, hw⟩ : ∃ y_, y_ = vd_4_14_7.alloc (.cells #[.int .i64 x] 3) := ⟨_, rfl⟩
                    obtain ⟨b12, hb⟩ : ∃ y_, y_ = vd_4_14_7.heap.size := ⟨_, rfl⟩
                    rw [← hw, ← hb]
                    have BNvd_4_14_7_12 : Hid (Below vd_4_14_7.heap.size vd_4_14_7 vd_4_14_7_12) := by show Below _ _ _; rw [hw]; exact below_alloc _ _
                    have L12_vd_4_14_7_12 : Hid (Lies vd_4_14_7_12 b12 3 #[.int .i64 x]) := by show Lies _ _ _ _; rw [hw, hb]; exact Lies.new _ _ _
                    have NE4_12 : Hid (b4 ≠ b12) := by show _ ≠ _; rw [hb]; exact Nat.ne_of_lt L4_vd_4_14_7.out.lt
                    have NE14_12 : Hid (b14 ≠ b12) := by show _ ≠ _; rw [hb]; exact Nat.ne_of_lt L14_vd_4_14_7.out.lt
                    have NG7_12 : Hid (g7 ≠ b12) := by show _ ≠ _; rw [hb]; exact Nat.ne_of_lt (R7_vd_4_14_7.out.lt g7 rfl).2
                    have BE12 : Hid (w1.heap.size ≤ b12) := by show _ ≤ _; rw [hb]; exact HB_vd_4_14_7.out.size
                    clear hw hb
                    have HB_vd_4_14_7_12 := hid (dt16 HB_vd_4_14_7.out BNvd_4_14_7_12.out)
                    have L4_vd_4_14_7_12 := hid (L4_vd_4_14_7.out.later BNvd_4_14_7_12.out)
                    have L14_vd_4_14_7_12 := hid (L14_vd_4_14_7.out.later BNvd_4_14_7_12.out)
                    have R7_vd_4_14_7_12 := hid (own_later R7_vd_4_14_7.out BNvd_4_14_7_12.out)
                    refine hK.out _ _ ?_ (fun hH4 => ?_)
                    · exact ⟨(X1.out.later HB_vd_4_14_7_12.out).c2.1, (X1.out.later HB_vd_4_14_7_12.out).c2.2, (HB_vd_4_14_7_12.out.cell (p := ⟨bt, ot, none⟩) HBT.out).trans HX.out⟩
                    clear hK K
                    try simp only [Act.put, List.setIfInBounds_toArray, List.set_cons_zero, List.set_cons_succ]
                    refine wpAnyH_ready (rs := [13]) (by kernel_rfl) (by simp) ?_
                    refine AllReadyH.cons (i := 13) (o := { dst := some 61, op := Go.Op.call { callee := Go.Callee.builtin Go.Builtin.append, args := #[Go.Operand.tmp 55, Go.Operand.tmp 60], argTypes := #[22, 22] }, type := 22, pos := "ref.go:39", after := #[{ on := 7, ground := Go.Ground.data }, { on := 12, ground := Go.Ground.data }, { on := 7, ground := Go.Ground.chain }], guard := none }) rfl (fun K hK => ?_) AllReadyH.nil
                    obtain ⟨v13, vd_4_14_7_12_13, hr, ho, hg⟩ := run_app_ints16 vd_4_14_7_12 w1.heap.size _ _ t.log (own_base16 R7_vd_4_14_7_12.out GE7.out) (some ⟨b12, 0, none⟩) 1 [x] (ints_lies16 L12_vd_4_14_7_12.out) (fun h => by cases h) (by have := HLN.out; simp; omega) HB_vd_4_14_7_12.out.size
                    obtain ⟨A13, c13, rfl⟩ := own_form ho
                    have HR13 := hid hr
                    have R13_vd_4_14_7_12_13 := hid ho
                    have HB_vd_4_14_7_12_13 : Hid (Below w1.heap.size w1 vd_4_14_7_12_13) := HB_vd_4_14_7_12.out.grown hg HB_vd_4_14_7_12.out.size (fun k hk => ((own_base16 R7_vd_4_14_7_12.out GE7.out).lt k hk).1)
                    have L14_vd_4_14_7_12_13 := hid (lies_grown16 hg L14_vd_4_14_7_12.out (fun h => NG7_14.out (Option.some.inj h)))
                    clear hr ho hg
                    rw [if_pos (by rfl)]
                    refine wp_append_run16 (.tmp 55) (.tmp 60) 22 rfl _ _ HR13.out ?_
                    refine hK.out _ _ ?_ (fun hH5 => ?_)
                    · exact ⟨(X1.out.later HB_vd_4_14_7_12_13.out).c2.1, (X1.out.later HB_vd_4_14_7_12_13.out).c2.2, (HB_vd_4_14_7_12_13.out.cell (p := ⟨bt, ot, none⟩) HBT.out).trans HX.out⟩
                    clear hK K
                    try simp only [Act.put, List.setIfInBounds_toArray, List.set_cons_zero, List.set_cons_succ]
                    refine wpAnyH_ready (rs := [18]) (by kernel_rfl) (by simp) ?_
                    refine AllReadyH.cons (i := 18) (o := { dst := some 66, op := Go.Op.call { callee := Go.Callee.builtin Go.Builtin.append, args := #[Go.Operand.tmp 62, Go.Operand.tmp 65], argTypes := #[22, 22] }, type := 22, pos := "ref.go:39", after := #[{ on := 14, ground := Go.Ground.data }, { on := 17, ground := Go.Ground.data }, { on := 13, ground := Go.Ground.chain }], guard := none }) rfl (fun K hK => ?_) AllReadyH.nil
                    obtain ⟨g18, c18, vd_4_14_7_12_13_18, hr, hb, hg, ho⟩ := app_any16 vd_4_14_7_12_13 b14 L14_vd_4_14_7_12_13.out xs (if d = 1 then some ⟨bt, ot, none⟩ else some ⟨bt, ot + 1, none⟩ : Option Addr) (d - 1) (RQ1.out.below HB_vd_4_14_7_12_13.out) NQ.out (by have := HLN.out; have := HXS.out; omega)
                    have BNvd_4_14_7_12_13_18 := hid hb
                    have HR18 := hid hr
                    have R18_vd_4_14_7_12_13_18 : Hid (vd_4_14_7_12_13_18.ownsRow g18 3 1 (.slice (some ⟨g18, 0, none⟩) xs.length c18) xs.length (xs.map (Value.int .i64))) := ho
                    have GE18 : Hid (w1.heap.size ≤ g18) := by
                      show _ ≤ _
                      rcases hg with h | h
                      · rw [h]; exact BE14.out
                      · exact Nat.le_trans HB_vd_4_14_7_12_13.out.size h
                    clear hr hb hg ho
                    have HB_vd_4_14_7_12_13_18 := hid (dt16 HB_vd_4_14_7_12_13.out BNvd_4_14_7_12_13_18.out)
                    have L14_vd_4_14_7_12_13_18 := hid (L14_vd_4_14_7_12_13.out.later BNvd_4_14_7_12_13_18.out)
                    have R13_vd_4_14_7_12_13_18 := hid (own_later R13_vd_4_14_7_12_13.out BNvd_4_14_7_12_13_18.out)
                    rw [if_pos (by rfl)]
                    refine wp_append_run16 (.tmp 62) (.tmp 65) 22 rfl _ _ HR18.out ?_
                    refine hK.out _ _ ?_ (fun hH6 => ?_)
                    · exact ⟨(X1.out.later HB_vd_4_14_7_12_13_18.out).c2.1, (X1.out.later HB_vd_4_14_7_12_13_18.out).c2.2, (HB_vd_4_14_7_12_13_18.out.cell (p := ⟨bt, ot, none⟩) HBT.out).trans HX.out⟩
                    clear hK K
                    try simp only [Act.put, List.setIfInBounds_toArray, List.set_cons_zero, List.set_cons_succ]
                    refine wpAnyH_take (i := 19) (oi := { dst := some 67, op := Go.Op.build 24 #[(0, Go.Operand.tmp 61), (1, Go.Operand.tmp 66)], type := 24, pos := "ref.go:39", after := #[{ on := 13, ground := Go.Ground.data }, { on := 18, ground := Go.Ground.data }, { on := 20, ground := Go.Ground.gcOnly Go.Departure.lateStores }], guard := none }) (v := ?vv40) rfl (by kernel_rfl) (by kernel_rfl) (by kernel_rfl) (fun _ _ _ h => h) (Or.inl ⟨by rfl, ?hy40⟩) (by assumption) ?rr40
                    case hy40 => intro w hSw; (try dsimp only at hSw); go_simp; all_goals with_reducible rfl
                    try simp only [Act.put, List.setIfInBounds_toArray, List.set_cons_zero, List.set_cons_succ]
                    refine wpAnyH_take (i := 20) (oi := { dst := some 4, op := Go.Op.assign (Go.Operand.tmp 51), type := 3, pos := "ref.go:39", after := #[{ on := 3, ground := Go.Ground.data }, { on := 18, ground := Go.Ground.chain }, { on := 0, ground := Go.Ground.phase }, { on := 1, ground := Go.Ground.phase }, { on := 2, ground := Go.Ground.phase }, { on := 3, ground := Go.Ground.phase }, { on := 4, ground := Go.Ground.textOnly Go.Departure.lateStores }, { on := 5, ground := Go.Ground.textOnly Go.Departure.lateStores }, { on := 6, ground := Go.Ground.textOnly Go.Departure.lateStores }, { on := 7, ground := Go.Ground.textOnly Go.Departure.lateStoresUnsure }, { on := 8, ground := Go.Ground.textOnly Go.Departure.lateStores }, { on := 9, ground := Go.Ground.textOnly Go.Departure.lateStores }, { on := 10, ground := Go.Ground.textOnly Go.Departure.lateStores }, { on := 11, ground := Go.Ground.textOnly Go.Departure.lateStores }, { on := 12, ground := Go.Ground.textOnly Go.Departure.lateStores }, { on := 13, ground := Go.Ground.textOnly Go.Departure.lateStoresUnsure }, { on := 14, ground := Go.Ground.textOnly Go.Departure.lateStores }, { on := 15, ground := Go.Ground.textOnly Go.Departure.lateStores }, { on := 16, ground := Go.Ground.textOnly Go.Departure.lateStores }, { on := 17, ground := Go.Ground.textOnly Go.Departure.lateStoresUnsure }, { on := 18, ground := Go.Ground.textOnly Go.Departure.lateStoresUnsure }, { on := 19, ground := Go.Ground.textOnly Go.Departure.lateStores }], guard := none }) (v := ?vv41) rfl (by kernel_rfl) (by kernel_rfl) (by kernel_rfl) (fun _ _ _ h => h) (Or.inl ⟨by rfl, ?hy41⟩) (by assumption) ?rr41
                    case hy41 => intro w hSw; (try dsimp only at hSw); go_simp; all_goals with_reducible rfl
                    try simp only [Act.put, List.setIfInBounds_toArray, List.set_cons_zero, List.set_cons_succ]
                    refine wpAnyH_ready (rs := [21]) (by kernel_rfl) (by simp) ?_
                    refine AllReadyH.cons (i := 21) (o := { dst := none, op := Go.Op.store 24 (Go.Operand.tmp 5) (Go.Operand.tmp 67), type := 0, pos := "ref.go:39", after := #[{ on := 19, ground := Go.Ground.data }, { on := 20, ground := Go.Ground.chain }, { on := 0, ground := Go.Ground.phase }, { on := 1, ground := Go.Ground.phase }, { on := 2, ground := Go.Ground.phase }, { on := 3, ground := Go.Ground.phase }, { on := 4, ground := Go.Ground.phase }, { on := 5, ground := Go.Ground.phase }, { on := 6, ground := Go.Ground.phase }, { on := 7, ground := Go.Ground.phase }, { on := 8, ground := Go.Ground.phase }, { on := 9, ground := Go.Ground.phase }, { on := 10, ground := Go.Ground.phase }, { on := 11, ground := Go.Ground.phase }, { on := 12, ground := Go.Ground.phase }, { on := 13, ground := Go.Ground.phase }, { on := 14, ground := Go.Ground.phase }, { on := 15, ground := Go.Ground.phase }, { on := 16, ground := Go.Ground.phase }, { on := 17, ground := Go.Ground.phase }, { on := 18, ground := Go.Ground.phase }, { on := 19, ground := Go.Ground.phase }, { on := 20, ground := Go.Ground.phase }], guard := none }) rfl (fun K hK => ?_) AllReadyH.nil
                    obtain ⟨z0, z1⟩ := (K1.out.later HB_vd_4_14_7_12_13_18.out).c2
                    obtain ⟨zf0, zf1⟩ := (K1.out.later HB_vd_4_14_7_12_13_18.out).f2
                    go_simp
                    refine hK.out _ _ ?_ (fun hH7 => ?_)
                    · exact ⟨((((X1.out.later HB_vd_4_14_7_12_13_18.out).far (p := ⟨w.heap.size + 1, 0, none⟩) (by simp) _).far (p := ⟨w.heap.size + 1, 1, none⟩) (by simp) _)).c2.1, ((((X1.out.later HB_vd_4_14_7_12_13_18.out).far (p := ⟨w.heap.size + 1, 0, none⟩) (by simp) _).far (p := ⟨w.heap.size + 1, 1, none⟩) (by simp) _)).c2.2, far_cell16 NBT.out (far_cell16 NBT.out ((HB_vd_4_14_7_12_13_18.out.cell (p := ⟨bt, ot, none⟩) HBT.out).trans HX.out))⟩
                    clear hK K
                    try simp only [Act.put, List.setIfInBounds_toArray, List.set_cons_zero, List.set_cons_succ]
                    clear z0 z1 zf0 zf1
                    refine wpAnyH_take (i := 22) (oi := { dst := some 6, op := Go.Op.assign (Go.Operand.const (Go.Value.int Go.IntKind.i64 0)), type := 26, pos := "ref.go:39", after := #[{ on := 21, ground := Go.Ground.chain }, { on := 0, ground := Go.Ground.phase }, { on := 1, ground := Go.Ground.phase }, { on := 2, ground := Go.Ground.phase }, { on := 3, ground := Go.Ground.phase }, { on := 4, ground := Go.Ground.phase }, { on := 5, ground := Go.Ground.phase }, { on := 6, ground := Go.Ground.phase }, { on := 7, ground := Go.Ground.phase }, { on := 8, ground := Go.Ground.phase }, { on := 9, ground := Go.Ground.phase }, { on := 10, ground := Go.Ground.phase }, { on := 11, ground := Go.Ground.phase }, { on := 12, ground := Go.Ground.phase }, { on := 13, ground := Go.Ground.phase }, { on := 14, ground := Go.Ground.phase }, { on := 15, ground := Go.Ground.phase }, { on := 16, ground := Go.Ground.phase }, { on := 17, ground := Go.Ground.phase }, { on := 18, ground := Go.Ground.phase }, { on := 19, ground := Go.Ground.phase }, { on := 20, ground := Go.Ground.phase }, { on := 21, ground := Go.Ground.phase }], guard := none }) (v := ?vv42) rfl (by kernel_rfl) (by kernel_rfl) (by kernel_rfl) (fun _ _ _ h => h) (Or.inl ⟨by rfl, ?hy42⟩) (by assumption) ?rr42
                    case hy42 => intro w hSw; (try dsimp only at hSw); go_simp; all_goals with_reducible rfl
                    try simp only [Act.put, List.setIfInBounds_toArray, List.set_cons_zero, List.set_cons_succ]
                    refine wpAnyH_done (by kernel_rfl) ?_ _
                    have KF := ((K1.out.later HB_vd_4_14_7_12_13_18.out).set_ 0 (.slice A13 (t.log.length + 1) c13)).set_ 1 (.slice (some ⟨g18, 0, none⟩) xs.length c18)
                    have h1 := ((then_w HB1.out HB_vd_4_14_7_12_13_18.out).setCell (p := ⟨w.heap.size + 1, 0, none⟩) (by simp) (.slice A13 (t.log.length + 1) c13)).setCell (p := ⟨w.heap.size + 1, 1, none⟩) (by simp) (.slice (some ⟨g18, 0, none⟩) xs.length c18)
                    have hlt : w.heap.size + 1 < w1.heap.size := K1.out.lt
                    have r0 := KF.cell 0
                    have r1 := KF.cell 1
                    simp only [List.setIfInBounds_toArray, List.set_cons_zero, List.set_cons_succ, List.getElem?_toArray, List.getElem?_cons_zero, List.getElem?_cons_succ] at r0 r1
                    go_wp2_with fail
                    all_goals
                      refine bodyPost_ret (v := .tuple #[.int .i64 x, .agg #[.slice A13 (t.log.length + 1) c13, .slice (some ⟨g18, 0, none⟩) xs.length c18], .int .i64 0]) (by simp [results, Try.results9, go_sem, r0, r1]) rfl ?_
                      refine ⟨A13, c13, some ⟨g18, 0, none⟩, c18, ?_, ?_, ?_, own_nil16 R13_vd_4_14_7_12_13_18.out, (fun e => by cases e), ?_, ?_, h1⟩
                      · rw [EV.out.1, EV.out.2, drE_yes E.out]; show _ = Ending.returned (.tuple #[.int .i64 x, .agg #[.slice A13 (t.log ++ [x]).length c13, .slice (some ⟨g18, 0, none⟩) xs.length c18], .int .i64 0]); rw [List.length_append]; rfl
                      · rw [EV.out.1]; exact own_ints (xs := t.log ++ [x]) (c := c13) (by rw [List.length_append]; exact own_far16 (own_far16 R13_vd_4_14_7_12_13_18.out hlt 0 _) hlt 1 _)
                      · rw [EV.out.1]; exact own_ints (xs := xs) (c := c18) (own_far16 (own_far16 R18_vd_4_14_7_12_13_18.out (Nat.lt_of_lt_of_le hlt GE18.out) 0 _) (Nat.lt_of_lt_of_le hlt GE18.out) 1 _)
                      · rw [EV.out.1]; show (t.log ++ [x]).length ≤ c13; rw [List.length_append]; exact own_cap R13_vd_4_14_7_12_13_18.out
                      · rw [EV.out.1]; exact own_cap R18_vd_4_14_7_12_13_18.out
                  · go_simp
                    obtain ⟨vd_4_14_12, hw⟩ : ∃ y_, y_ = vd_4_14.alloc (.cells #[.int .i64 x] 3) := ⟨_, rfl⟩
                    obtain ⟨b12, hb⟩ : ∃ y_, y_ = vd_4_14.heap.size := ⟨_, rfl⟩
                    rw [← hw, ← hb]
                    have BNvd_4_14_12 : Hid (Below vd_4_14.heap.size vd_4_14 vd_4_14_12) := by show Below _ _ _; rw [hw]; exact below_alloc _ _
                    have L12_vd_4_14_12 : Hid (Lies vd_4_14_12 b12 3 #[.int .i64 x]) := by show Lies _ _ _ _; rw [hw, hb]; exact Lies.new _ _ _
                    have NE4_12 : Hid (b4 ≠ b12) := by show _ ≠ _; rw [hb]; exact Nat.ne_of_lt L4_vd_4_14.out.lt
                    have NE14_12 : Hid (b14 ≠ b12) := by show _ ≠ _; rw [hb]; exact Nat.ne_of_lt L14_vd_4_14.out.lt
                    have BE12 : Hid (w1.heap.size ≤ b12) := by show _ ≤ _; rw [hb]; exact HB_vd_4_14.out.size
                    clear hw hb
                    have HB_vd_4_14_12 := hid (dt16 HB_vd_4_14.out BNvd_4_14_12.out)
                    have L4_vd_4_14_12 := hid (L4_vd_4_14.out.later BNvd_4_14_12.out)
                    have L14_vd_4_14_12 := hid (L14_vd_4_14.out.later BNvd_4_14_12.out)
                    refine hK.out _ _ ?_ (fun hH3 => ?_)
                    · exact ⟨(X1.out.later HB_vd_4_14_12.out).c2.1, (X1.out.later HB_vd_4_14_12.out).c2.2, (HB_vd_4_14_12.out.cell (p := ⟨bt, ot, none⟩) HBT.out).trans HX.out⟩
                    clear hK K
                    try simp only [Act.put, List.setIfInBounds_toArray, List.set_cons_zero, List.set_cons_succ]
                    refine wpAnyH_ready (rs := [7]) (by kernel_rfl) (by simp) ?_
                    refine AllReadyH.cons (i := 7) (o := { dst := some 55, op := Go.Op.call { callee := Go.Callee.builtin Go.Builtin.append, args := #[Go.Operand.tmp 52, Go.Operand.tmp 54], argTypes := #[22, 22] }, type := 22, pos := "ref.go:39", after := #[{ on := 4, ground := Go.Ground.data }, { on := 6, ground := Go.Ground.data }], guard := none }) rfl (fun K hK => ?_) AllReadyH.nil
                    obtain ⟨g7, c7, vd_4_14_12_7, hr, hb, hg, ho⟩ := app_any16 vd_4_14_12 b4 L4_vd_4_14_12.out t.log A c (RA1.out.below HB_vd_4_14_12.out) NA.out (by have := HLN.out; omega)
                    have BNvd_4_14_12_7 := hid hb
                    have HR7 := hid hr
                    have R7_vd_4_14_12_7 : Hid (vd_4_14_12_7.ownsRow g7 3 1 (.slice (some ⟨g7, 0, none⟩) t.log.length c7) t.log.length (t.log.map (Value.int .i64))) := ho
                    have GE7 : Hid (w1.heap.size ≤ g7) := by
                      show _ ≤ _
                      rcases hg with h | h
                      · rw [h]; exact BE4.out
                      · exact Nat.le_trans HB_vd_4_14_12.out.size h
                    have NG7_14 : Hid (g7 ≠ b14) := by
                      show _ ≠ _
                      rcases hg with h | h
                      · rw [h]; exact NE4_14.out
                      · have := L14_vd_4_14_12.out.lt; omega
                    clear hr hb hg ho
                    have HB_vd_4_14_12_7 := hid (dt16 HB_vd_4_14_12.out BNvd_4_14_12_7.out)
                    have L4_vd_4_14_12_7 := hid (L4_vd_4_14_12.out.later BNvd_4_14_12_7.out)
                    have L14_vd_4_14_12_7 := hid (L14_vd_4_14_12.out.later BNvd_4_14_12_7.out)
                    have L12_vd_4_14_12_7 := hid (L12_vd_4_14_12.out.later BNvd_4_14_12_7.out)
                    rw [if_pos (by rfl)]
                    refine wp_append_run16 (.tmp 52) (.tmp 54) 22 rfl _ _ HR7.out ?_
                    refine hK.out _ _ ?_ (fun hH4 => ?_)
                    · exact ⟨(X1.out.later HB_vd_4_14_12_7.out).c2.1, (X1.out.later HB_vd_4_14_12_7.out).c2.2, (HB_vd_4_14_12_7.out.cell (p := ⟨bt, ot, none⟩) HBT.out).trans HX.out⟩
                    clear hK K
                    try simp only [Act.put, List.setIfInBounds_toArray, List.set_cons_zero, List.set_cons_succ]
                    refine wpAnyH_ready (rs := [13]) (by kernel_rfl) (by simp) ?_
                    refine AllReadyH.cons (i := 13) (o := { dst := some 61, op := Go.Op.call { callee := Go.Callee.builtin Go.Builtin.append, args := #[Go.Operand.tmp 55, Go.Operand.tmp 60], argTypes := #[22, 22] }, type := 22, pos := "ref.go:39", after := #[{ on := 7, ground := Go.Ground.data }, { on := 12, ground := Go.Ground.data }, { on := 7, ground := Go.Ground.chain }], guard := none }) rfl (fun K hK => ?_) AllReadyH.nil
                    obtain ⟨v13, vd_4_14_12_7_13, hr, ho, hg⟩ := run_app_ints16 vd_4_14_12_7 w1.heap.size _ _ t.log (own_base16 R7_vd_4_14_12_7.out GE7.out) (some ⟨b12, 0, none⟩) 1 [x] (ints_lies16 L12_vd_4_14_12_7.out) (fun h => by cases h) (by have := HLN.out; simp; omega) HB_vd_4_14_12_7.out.size
                    obtain ⟨A13, c13, rfl⟩ := own_form ho
                    have HR13 := hid hr
                    have R13_vd_4_14_12_7_13 := hid ho
                    have HB_vd_4_14_12_7_13 : Hid (Below w1.heap.size w1 vd_4_14_12_7_13) := HB_vd_4_14_12_7.out.grown hg HB_vd_4_14_12_7.out.size (fun k hk => ((own_base16 R7_vd_4_14_12_7.out GE7.out).lt k hk).1)
                    have L14_vd_4_14_12_7_13 := hid (lies_grown16 hg L14_vd_4_14_12_7.out (fun h => NG7_14.out (Option.some.inj h)))
                    clear hr ho hg
                    rw [if_pos (by rfl)]
                    refine wp_append_run16 (.tmp 55) (.tmp 60) 22 rfl _ _ HR13.out ?_
                    refine hK.out _ _ ?_ (fun hH5 => ?_)
                    · exact ⟨(X1.out.later HB_vd_4_14_12_7_13.out).c2.1, (X1.out.later HB_vd_4_14_12_7_13.out).c2.2, (HB_vd_4_14_12_7_13.out.cell (p := ⟨bt, ot, none⟩) HBT.out).trans HX.out⟩
                    clear hK K
                    try simp only [Act.put, List.setIfInBounds_toArray, List.set_cons_zero, List.set_cons_succ]
                    refine wpAnyH_ready (rs := [18]) (by kernel_rfl) (by simp) ?_
                    refine AllReadyH.cons (i := 18) (o := { dst := some 66, op := Go.Op.call { callee := Go.Callee.builtin Go.Builtin.append, args := #[Go.Operand.tmp 62, Go.Operand.tmp 65], argTypes := #[22, 22] }, type := 22, pos := "ref.go:39", after := #[{ on := 14, ground := Go.Ground.data }, { on := 17, ground := Go.Ground.data }, { on := 13, ground := Go.Ground.chain }], guard := none }) rfl (fun K hK => ?_) AllReadyH.nil
                    obtain ⟨g18, c18, vd_4_14_12_7_13_18, hr, hb, hg, ho⟩ := app_any16 vd_4_14_12_7_13 b14 L14_vd_4_14_12_7_13.out xs (if d = 1 then some ⟨bt, ot, none⟩ else some ⟨bt, ot + 1, none⟩ : Option Addr) (d - 1) (RQ1.out.below HB_vd_4_14_12_7_13.out) NQ.out (by have := HLN.out; have := HXS.out; omega)
                    have BNvd_4_14_12_7_13_18 := hid hb
                    have HR18 := hid hr
                    have R18_vd_4_14_12_7_13_18 : Hid (vd_4_14_12_7_13_18.ownsRow g18 3 1 (.slice (some ⟨g18, 0, none⟩) xs.length c18) xs.length (xs.map (Value.int .i64))) := ho
                    have GE18 : Hid (w1.heap.size ≤ g18) := by
                      show _ ≤ _
                      rcases hg with h | h
                      · rw [h]; exact BE14.out
                      · exact Nat.le_trans HB_vd_4_14_12_7_13.out.size h
                    clear hr hb hg ho
                    have HB_vd_4_14_12_7_13_18 := hid (dt16 HB_vd_4_14_12_7_13.out BNvd_4_14_12_7_13_18.out)
                    have L14_vd_4_14_12_7_13_18 := hid (L14_vd_4_14_12_7_13.out.later BNvd_4_14_12_7_13_18.out)
                    have R13_vd_4_14_12_7_13_18 := hid (own_later R13_vd_4_14_12_7_13.out BNvd_4_14_12_7_13_18.out)
                    rw [if_pos (by rfl)]
                    refine wp_append_run16 (.tmp 62) (.tmp 65) 22 rfl _ _ HR18.out ?_
                    refine hK.out _ _ ?_ (fun hH6 => ?_)
                    · exact ⟨(X1.out.later HB_vd_4_14_12_7_13_18.out).c2.1, (X1.out.later HB_vd_4_14_12_7_13_18.out).c2.2, (HB_vd_4_14_12_7_13_18.out.cell (p := ⟨bt, ot, none⟩) HBT.out).trans HX.out⟩
                    clear hK K
                    try simp only [Act.put, List.setIfInBounds_toArray, List.set_cons_zero, List.set_cons_succ]
                    refine wpAnyH_take (i := 19) (oi := { dst := some 67, op := Go.Op.build 24 #[(0, Go.Operand.tmp 61), (1, Go.Operand.tmp 66)], type := 24, pos := "ref.go:39", after := #[{ on := 13, ground := Go.Ground.data }, { on := 18, ground := Go.Ground.data }, { on := 20, ground := Go.Ground.gcOnly Go.Departure.lateStores }], guard := none }) (v := ?vv43) rfl (by kernel_rfl) (by kernel_rfl) (by kernel_rfl) (fun _ _ _ h => h) (Or.inl ⟨by rfl, ?hy43⟩) (by assumption) ?rr43
                    case hy43 => intro w hSw; (try dsimp only at hSw); go_simp; all_goals with_reducible rfl
                    try simp only [Act.put, List.setIfInBounds_toArray, List.set_cons_zero, List.set_cons_succ]
                    refine wpAnyH_take (i := 20) (oi := { dst := some 4, op := Go.Op.assign (Go.Operand.tmp 51), type := 3, pos := "ref.go:39", after := #[{ on := 3, ground := Go.Ground.data }, { on := 18, ground := Go.Ground.chain }, { on := 0, ground := Go.Ground.phase }, { on := 1, ground := Go.Ground.phase }, { on := 2, ground := Go.Ground.phase }, { on := 3, ground := Go.Ground.phase }, { on := 4, ground := Go.Ground.textOnly Go.Departure.lateStores }, { on := 5, ground := Go.Ground.textOnly Go.Departure.lateStores }, { on := 6, ground := Go.Ground.textOnly Go.Departure.lateStores }, { on := 7, ground := Go.Ground.textOnly Go.Departure.lateStoresUnsure }, { on := 8, ground := Go.Ground.textOnly Go.Departure.lateStores }, { on := 9, ground := Go.Ground.textOnly Go.Departure.lateStores }, { on := 10, ground := Go.Ground.textOnly Go.Departure.lateStores }, { on := 11, ground := Go.Ground.textOnly Go.Departure.lateStores }, { on := 12, ground := Go.Ground.textOnly Go.Departure.lateStores }, { on := 13, ground := Go.Ground.textOnly Go.Departure.lateStoresUnsure }, { on := 14, ground := Go.Ground.textOnly Go.Departure.lateStores }, { on := 15, ground := Go.Ground.textOnly Go.Departure.lateStores }, { on := 16, ground := Go.Ground.textOnly Go.Departure.lateStores }, { on := 17, ground := Go.Ground.textOnly Go.Departure.lateStoresUnsure }, { on := 18, ground := Go.Ground.textOnly Go.Departure.lateStoresUnsure }, { on := 19, ground := Go.Ground.textOnly Go.Departure.lateStores }], guard := none }) (v := ?vv44) rfl (by kernel_rfl) (by kernel_rfl) (by kernel_rfl) (fun _ _ _ h => h) (Or.inl ⟨by rfl, ?hy44⟩) (by assumption) ?rr44
                    case hy44 => intro w hSw; (try dsimp only at hSw); go_simp; all_goals with_reducible rfl
                    try simp only [Act.put, List.setIfInBounds_toArray, List.set_cons_zero, List.set_cons_succ]
                    refine wpAnyH_ready (rs := [21]) (by kernel_rfl) (by simp) ?_
                    refine AllReadyH.cons (i := 21) (o := { dst := none, op := Go.Op.store 24 (Go.Operand.tmp 5) (Go.Operand.tmp 67), type := 0, pos := "ref.go:39", after := #[{ on := 19, ground := Go.Ground.data }, { on := 20, ground := Go.Ground.chain }, { on := 0, ground := Go.Ground.phase }, { on := 1, ground := Go.Ground.phase }, { on := 2, ground := Go.Ground.phase }, { on := 3, ground := Go.Ground.phase }, { on := 4, ground := Go.Ground.phase }, { on := 5, ground := Go.Ground.phase }, { on := 6, ground := Go.Ground.phase }, { on := 7, ground := Go.Ground.phase }, { on := 8, ground := Go.Ground.phase }, { on := 9, ground := Go.Ground.phase }, { on := 10, ground := Go.Ground.phase }, { on := 11, ground := Go.Ground.phase }, { on := 12, ground := Go.Ground.phase }, { on := 13, ground := Go.Ground.phase }, { on := 14, ground := Go.Ground.phase }, { on := 15, ground := Go.Ground.phase }, { on := 16, ground := Go.Ground.phase }, { on := 17, ground := Go.Ground.phase }, { on := 18, ground := Go.Ground.phase }, { on := 19, ground := Go.Ground.phase }, { on := 20, ground := Go.Ground.phase }], guard := none }) rfl (fun K hK => ?_) AllReadyH.nil
                    obtain ⟨z0, z1⟩ := (K1.out.later HB_vd_4_14_12_7_13_18.out).c2
                    obtain ⟨zf0, zf1⟩ := (K1.out.later HB_vd_4_14_12_7_13_18.out).f2
                    go_simp
                    refine hK.out _ _ ?_ (fun hH7 => ?_)
                    · exact ⟨((((X1.out.later HB_vd_4_14_12_7_13_18.out).far (p := ⟨w.heap.size + 1, 0, none⟩) (by simp) _).far (p := ⟨w.heap.size + 1, 1, none⟩) (by simp) _)).c2.1, ((((X1.out.later HB_vd_4_14_12_7_13_18.out).far (p := ⟨w.heap.size + 1, 0, none⟩) (by simp) _).far (p := ⟨w.heap.size + 1, 1, none⟩) (by simp) _)).c2.2, far_cell16 NBT.out (far_cell16 NBT.out ((HB_vd_4_14_12_7_13_18.out.cell (p := ⟨bt, ot, none⟩) HBT.out).trans HX.out))⟩
                    clear hK K
                    try simp only [Act.put, List.setIfInBounds_toArray, List.set_cons_zero, List.set_cons_succ]
                    clear z0 z1 zf0 zf1
                    refine wpAnyH_take (i := 22) (oi := { dst := some 6, op := Go.Op.assign (Go.Operand.const (Go.Value.int Go.IntKind.i64 0)), type := 26, pos := "ref.go:39", after := #[{ on := 21, ground := Go.Ground.chain }, { on := 0, ground := Go.Ground.phase }, { on := 1, ground := Go.Ground.phase }, { on := 2, ground := Go.Ground.phase }, { on := 3, ground := Go.Ground.phase }, { on := 4, ground := Go.Ground.phase }, { on := 5, ground := Go.Ground.phase }, { on := 6, ground := Go.Ground.phase }, { on := 7, ground := Go.Ground.phase }, { on := 8, ground := Go.Ground.phase }, { on := 9, ground := Go.Ground.phase }, { on := 10, ground := Go.Ground.phase }, { on := 11, ground := Go.Ground.phase }, { on := 12, ground := Go.Ground.phase }, { on := 13, ground := Go.Ground.phase }, { on := 14, ground := Go.Ground.phase }, { on := 15, ground := Go.Ground.phase }, { on := 16, ground := Go.Ground.phase }, { on := 17, ground := Go.Ground.phase }, { on := 18, ground := Go.Ground.phase }, { on := 19, ground := Go.Ground.phase }, { on := 20, ground := Go.Ground.phase }, { on := 21, ground := Go.Ground.phase }], guard := none }) (v := ?vv45) rfl (by kernel_rfl) (by kernel_rfl) (by kernel_rfl) (fun _ _ _ h => h) (Or.inl ⟨by rfl, ?hy45⟩) (by assumption) ?rr45
                    case hy45 => intro w hSw; (try dsimp only at hSw); go_simp; all_goals with_reducible rfl
                    try simp only [Act.put, List.setIfInBounds_toArray, List.set_cons_zero, List.set_cons_succ]
                    refine wpAnyH_done (by kernel_rfl) ?_ _
                    have KF := ((K1.out.later HB_vd_4_14_12_7_13_18.out).set_ 0 (.slice A13 (t.log.length + 1) c13)).set_ 1 (.slice (some ⟨g18, 0, none⟩) xs.length c18)
                    have h1 := ((then_w HB1.out HB_vd_4_14_12_7_13_18.out).setCell (p := ⟨w.heap.size + 1, 0, none⟩) (by simp) (.slice A13 (t.log.length + 1) c13)).setCell (p := ⟨w.heap.size + 1, 1, none⟩) (by simp) (.slice (some ⟨g18, 0, none⟩) xs.length c18)
                    have hlt : w.heap.size + 1 < w1.heap.size := K1.out.lt
                    have r0 := KF.cell 0
                    have r1 := KF.cell 1
                    simp only [List.setIfInBounds_toArray, List.set_cons_zero, List.set_cons_succ, List.getElem?_toArray, List.getElem?_cons_zero, List.getElem?_cons_succ] at r0 r1
                    go_wp2_with fail
                    all_goals
                      refine bodyPost_ret (v := .tuple #[.int .i64 x, .agg #[.slice A13 (t.log.length + 1) c13, .slice (some ⟨g18, 0, none⟩) xs.length c18], .int .i64 0]) (by simp [results, Try.results9, go_sem, r0, r1]) rfl ?_
                      refine ⟨A13, c13, some ⟨g18, 0, none⟩, c18, ?_, ?_, ?_, own_nil16 R13_vd_4_14_12_7_13_18.out, (fun e => by cases e), ?_, ?_, h1⟩
                      · rw [EV.out.1, EV.out.2, drE_yes E.out]; show _ = Ending.returned (.tuple #[.int .i64 x, .agg #[.slice A13 (t.log ++ [x]).length c13, .slice (some ⟨g18, 0, none⟩) xs.length c18], .int .i64 0]); rw [List.length_append]; rfl
                      · rw [EV.out.1]; exact own_ints (xs := t.log ++ [x]) (c := c13) (by rw [List.length_append]; exact own_far16 (own_far16 R13_vd_4_14_12_7_13_18.out hlt 0 _) hlt 1 _)
                      · rw [EV.out.1]; exact own_ints (xs := xs) (c := c18) (own_far16 (own_far16 R18_vd_4_14_12_7_13_18.out (Nat.lt_of_lt_of_le hlt GE18.out) 0 _) (Nat.lt_of_lt_of_le hlt GE18.out) 1 _)
                      · rw [EV.out.1]; show (t.log ++ [x]).length ≤ c13; rw [List.length_append]; exact own_cap R13_vd_4_14_12_7_13_18.out
                      · rw [EV.out.1]; exact own_cap R18_vd_4_14_12_7_13_18.out
              · go_simp
                obtain ⟨vd_12, hw⟩ : ∃ y_, y_ = vd.alloc (.cells #[.int .i64 x] 3) := ⟨_, rfl⟩
                obtain ⟨b12, hb⟩ : ∃ y_, y_ = vd.heap.size := ⟨_, rfl⟩
                rw [← hw, ← hb]
                have BNvd_12 : Hid (Below vd.heap.size vd vd_12) := by show Below _ _ _; rw [hw]; exact below_alloc _ _
                have L12_vd_12 : Hid (Lies vd_12 b12 3 #[.int .i64 x]) := by show Lies _ _ _ _; rw [hw, hb]; exact Lies.new _ _ _
                have BE12 : Hid (w1.heap.size ≤ b12) := by show _ ≤ _; rw [hb]; exact HB_vd.out.size
                clear hw hb
                have HB_vd_12 := hid (dt16 HB_vd.out BNvd_12.out)
                refine hK.out _ _ ?_ (fun hH1 => ?_)
                · exact ⟨(X1.out.later HB_vd_12.out).c2.1, (X1.out.later HB_vd_12.out).c2.2, (HB_vd_12.out.cell (p := ⟨bt, ot, none⟩) HBT.out).trans HX.out⟩
                clear hK K
                try simp only [Act.put, List.setIfInBounds_toArray, List.set_cons_zero, List.set_cons_succ]
                refine wpAnyH_ready (rs := [4, 14]) (by kernel_rfl) (by simp) ?_
                refine AllReadyH.cons (i := 4) (o := { dst := some 52, op := Go.Op.buildSlice 22 0 #[], type := 22, pos := "ref.go:39", after := #[], guard := none }) rfl (fun K hK => ?_) (AllReadyH.cons (i := 14) (o := { dst := some 62, op := Go.Op.buildSlice 22 0 #[], type := 22, pos := "ref.go:39", after := #[], guard := none }) rfl (fun K hK => ?_) AllReadyH.nil)
                · go_simp
                  obtain ⟨vd_12_4, hw⟩ : ∃ y_, y_ = vd_12.alloc (.cells #[] 3) := ⟨_, rfl⟩
                  obtain ⟨b4, hb⟩ : ∃ y_, y_ = vd_12.heap.size := ⟨_, rfl⟩
                  rw [← hw, ← hb]
                  have BNvd_12_4 : Hid (Below vd_12.heap.size vd_12 vd_12_4) := by show Below _ _ _; rw [hw]; exact below_alloc _ _
                  have L4_vd_12_4 : Hid (Lies vd_12_4 b4 3 #[]) := by show Lies _ _ _ _; rw [hw, hb]; exact Lies.new _ _ _
                  have BE4 : Hid (w1.heap.size ≤ b4) := by show _ ≤ _; rw [hb]; exact HB_vd_12.out.size
                  clear hw hb
                  have HB_vd_12_4 := hid (dt16 HB_vd_12.out BNvd_12_4.out)
                  have L12_vd_12_4 := hid (L12_vd_12.out.later BNvd_12_4.out)
                  refine hK.out _ _ ?_ (fun hH2 => ?_)
                  · exact ⟨(X1.out.later HB_vd_12_4.out).c2.1, (X1.out.later HB_vd_12_4.out).c2.2, (HB_vd_12_4.out.cell (p := ⟨bt, ot, none⟩) HBT.out).trans HX.out⟩
                  clear hK K
                  try simp only [Act.put, List.setIfInBounds_toArray, List.set_cons_zero, List.set_cons_succ]
                  refine wpAnyH_ready (rs := [7, 14]) (by kernel_rfl) (by simp) ?_
                  refine AllReadyH.cons (i := 7) (o := { dst := some 55, op := Go.Op.call { callee := Go.Callee.builtin Go.Builtin.append, args := #[Go.Operand.tmp 52, Go.Operand.tmp 54], argTypes := #[22, 22] }, type := 22, pos := "ref.go:39", after := #[{ on := 4, ground := Go.Ground.data }, { on := 6, ground := Go.Ground.data }], guard := none }) rfl (fun K hK => ?_) (AllReadyH.cons (i := 14) (o := { dst := some 62, op := Go.Op.buildSlice 22 0 #[], type := 22, pos := "ref.go:39", after := #[], guard := none }) rfl (fun K hK => ?_) AllReadyH.nil)
                  · obtain ⟨g7, c7, vd_12_4_7, hr, hb, hg, ho⟩ := app_any16 vd_12_4 b4 L4_vd_12_4.out t.log A c (RA1.out.below HB_vd_12_4.out) NA.out (by have := HLN.out; omega)
                    have BNvd_12_4_7 := hid hb
                    have HR7 := hid hr
                    have R7_vd_12_4_7 : Hid (vd_12_4_7.ownsRow g7 3 1 (.slice (some ⟨g7, 0, none⟩) t.log.length c7) t.log.length (t.log.map (Value.int .i64))) := ho
                    have GE7 : Hid (w1.heap.size ≤ g7) := by
                      show _ ≤ _
                      rcases hg with h | h
                      · rw [h]; exact BE4.out
                      · exact Nat.le_trans HB_vd_12_4.out.size h
                    clear hr hb hg ho
                    have HB_vd_12_4_7 := hid (dt16 HB_vd_12_4.out BNvd_12_4_7.out)
                    have L12_vd_12_4_7 := hid (L12_vd_12_4.out.later BNvd_12_4_7.out)
                    have L4_vd_12_4_7 := hid (L4_vd_12_4.out.later BNvd_12_4_7.out)
                    rw [if_pos (by rfl)]
                    refine wp_append_run16 (.tmp 52) (.tmp 54) 22 rfl _ _ HR7.out ?_
                    refine hK.out _ _ ?_ (fun hH3 => ?_)
                    · exact ⟨(X1.out.later HB_vd_12_4_7.out).c2.1, (X1.out.later HB_vd_12_4_7.out).c2.2, (HB_vd_12_4_7.out.cell (p := ⟨bt, ot, none⟩) HBT.out).trans HX.out⟩
                    clear hK K
                    try simp only [Act.put, List.setIfInBounds_toArray, List.set_cons_zero, List.set_cons_succ]
                    refine wpAnyH_ready (rs := [13, 14]) (by kernel_rfl) (by simp) ?_
                    refine AllReadyH.cons (i := 13) (o := { dst := some 61, op := Go.Op.call { callee := Go.Callee.builtin Go.Builtin.append, args := #[Go.Operand.tmp 55, Go.Operand.tmp 60], argTypes := #[22, 22] }, type := 22, pos := "ref.go:39", after := #[{ on := 7, ground := Go.Ground.data }, { on := 12, ground := Go.Ground.data }, { on := 7, ground := Go.Ground.chain }], guard := none }) rfl (fun K hK => ?_) (AllReadyH.cons (i := 14) (o := { dst := some 62, op := Go.Op.buildSlice 22 0 #[], type := 22, pos := "ref.go:39", after := #[], guard := none }) rfl (fun K hK => ?_) AllReadyH.nil)
                    · obtain ⟨v13, vd_12_4_7_13, hr, ho, hg⟩ := run_app_ints16 vd_12_4_7 w1.heap.size _ _ t.log (own_base16 R7_vd_12_4_7.out GE7.out) (some ⟨b12, 0, none⟩) 1 [x] (ints_lies16 L12_vd_12_4_7.out) (fun h => by cases h) (by have := HLN.out; simp; omega) HB_vd_12_4_7.out.size
                      obtain ⟨A13, c13, rfl⟩ := own_form ho
                      have HR13 := hid hr
                      have R13_vd_12_4_7_13 := hid ho
                      have HB_vd_12_4_7_13 : Hid (Below w1.heap.size w1 vd_12_4_7_13) := HB_vd_12_4_7.out.grown hg HB_vd_12_4_7.out.size (fun k hk => ((own_base16 R7_vd_12_4_7.out GE7.out).lt k hk).1)
                      clear hr ho hg
                      rw [if_pos (by rfl)]
                      refine wp_append_run16 (.tmp 55) (.tmp 60) 22 rfl _ _ HR13.out ?_
                      refine hK.out _ _ ?_ (fun hH4 => ?_)
                      · exact ⟨(X1.out.later HB_vd_12_4_7_13.out).c2.1, (X1.out.later HB_vd_12_4_7_13.out).c2.2, (HB_vd_12_4_7_13.out.cell (p := ⟨bt, ot, none⟩) HBT.out).trans HX.out⟩
                      clear hK K
                      try simp only [Act.put, List.setIfInBounds_toArray, List.set_cons_zero, List.set_cons_succ]
                      refine wpAnyH_ready (rs := [14]) (by kernel_rfl) (by simp) ?_
                      refine AllReadyH.cons (i := 14) (o := { dst := some 62, op := Go.Op.buildSlice 22 0 #[], type := 22, pos := "ref.go:39", after := #[], guard := none }) rfl (fun K hK => ?_) AllReadyH.nil
                      go_simp
                      obtain ⟨vd_12_4_7_13_14, hw⟩ : ∃ y_, y_ = vd_12_4_7_13.alloc (.cells #[] 3) := ⟨_, rfl⟩
                      obtain ⟨b14, hb⟩ : ∃ y_, y_ = vd_12_4_7_13.heap.size := ⟨_, rfl⟩
                      rw [← hw, ← hb]
                      have BNvd_12_4_7_13_14 : Hid (Below vd_12_4_7_13.heap.size vd_12_4_7_13 vd_12_4_7_13_14) := by show Below _ _ _; rw [hw]; exact below_alloc _ _
                      have L14_vd_12_4_7_13_14 : Hid (Lies vd_12_4_7_13_14 b14 3 #[]) := by show Lies _ _ _ _; rw [hw, hb]; exact Lies.new _ _ _
                      have BE14 : Hid (w1.heap.size ≤ b14) := by show _ ≤ _; rw [hb]; exact HB_vd_12_4_7_13.out.size
                      clear hw hb
                      have HB_vd_12_4_7_13_14 := hid (dt16 HB_vd_12_4_7_13.out BNvd_12_4_7_13_14.out)
                      have R13_vd_12_4_7_13_14 := hid (own_later R13_vd_12_4_7_13.out BNvd_12_4_7_13_14.out)
                      refine hK.out _ _ ?_ (fun hH5 => ?_)
                      · exact ⟨(X1.out.later HB_vd_12_4_7_13_14.out).c2.1, (X1.out.later HB_vd_12_4_7_13_14.out).c2.2, (HB_vd_12_4_7_13_14.out.cell (p := ⟨bt, ot, none⟩) HBT.out).trans HX.out⟩
                      clear hK K
                      try simp only [Act.put, List.setIfInBounds_toArray, List.set_cons_zero, List.set_cons_succ]
                      refine wpAnyH_ready (rs := [18]) (by kernel_rfl) (by simp) ?_
                      refine AllReadyH.cons (i := 18) (o := { dst := some 66, op := Go.Op.call { callee := Go.Callee.builtin Go.Builtin.append, args := #[Go.Operand.tmp 62, Go.Operand.tmp 65], argTypes := #[22, 22] }, type := 22, pos := "ref.go:39", after := #[{ on := 14, ground := Go.Ground.data }, { on := 17, ground := Go.Ground.data }, { on := 13, ground := Go.Ground.chain }], guard := none }) rfl (fun K hK => ?_) AllReadyH.nil
                      obtain ⟨g18, c18, vd_12_4_7_13_14_18, hr, hb, hg, ho⟩ := app_any16 vd_12_4_7_13_14 b14 L14_vd_12_4_7_13_14.out xs (if d = 1 then some ⟨bt, ot, none⟩ else some ⟨bt, ot + 1, none⟩ : Option Addr) (d - 1) (RQ1.out.below HB_vd_12_4_7_13_14.out) NQ.out (by have := HLN.out; have := HXS.out; omega)
                      have BNvd_12_4_7_13_14_18 := hid hb
                      have HR18 := hid hr
                      have R18_vd_12_4_7_13_14_18 : Hid (vd_12_4_7_13_14_18.ownsRow g18 3 1 (.slice (some ⟨g18, 0, none⟩) xs.length c18) xs.length (xs.map (Value.int .i64))) := ho
                      have GE18 : Hid (w1.heap.size ≤ g18) := by
                        show _ ≤ _
                        rcases hg with h | h
                        · rw [h]; exact BE14.out
                        · exact Nat.le_trans HB_vd_12_4_7_13_14.out.size h
                      clear hr hb hg ho
                      have HB_vd_12_4_7_13_14_18 := hid (dt16 HB_vd_12_4_7_13_14.out BNvd_12_4_7_13_14_18.out)
                      have R13_vd_12_4_7_13_14_18 := hid (own_later R13_vd_12_4_7_13_14.out BNvd_12_4_7_13_14_18.out)
                      have L14_vd_12_4_7_13_14_18 := hid (L14_vd_12_4_7_13_14.out.later BNvd_12_4_7_13_14_18.out)
                      rw [if_pos (by rfl)]
                      refine wp_append_run16 (.tmp 62) (.tmp 65) 22 rfl _ _ HR18.out ?_
                      refine hK.out _ _ ?_ (fun hH6 => ?_)
                      · exact ⟨(X1.out.later HB_vd_12_4_7_13_14_18.out).c2.1, (X1.out.later HB_vd_12_4_7_13_14_18.out).c2.2, (HB_vd_12_4_7_13_14_18.out.cell (p := ⟨bt, ot, none⟩) HBT.out).trans HX.out⟩
                      clear hK K
                      try simp only [Act.put, List.setIfInBounds_toArray, List.set_cons_zero, List.set_cons_succ]
                      refine wpAnyH_take (i := 19) (oi := { dst := some 67, op := Go.Op.build 24 #[(0, Go.Operand.tmp 61), (1, Go.Operand.tmp 66)], type := 24, pos := "ref.go:39", after := #[{ on := 13, ground := Go.Ground.data }, { on := 18, ground := Go.Ground.data }, { on := 20, ground := Go.Ground.gcOnly Go.Departure.lateStores }], guard := none }) (v := ?vv46) rfl (by kernel_rfl) (by kernel_rfl) (by kernel_rfl) (fun _ _ _ h => h) (Or.inl ⟨by rfl, ?hy46⟩) (by assumption) ?rr46
                      case hy46 => intro w hSw; (try dsimp only at hSw); go_simp; all_goals with_reducible rfl
                      try simp only [Act.put, List.setIfInBounds_toArray, List.set_cons_zero, List.set_cons_succ]
                      refine wpAnyH_take (i := 20) (oi := { dst := some 4, op := Go.Op.assign (Go.Operand.tmp 51), type := 3, pos := "ref.go:39", after := #[{ on := 3, ground := Go.Ground.data }, { on := 18, ground := Go.Ground.chain }, { on := 0, ground := Go.Ground.phase }, { on := 1, ground := Go.Ground.phase }, { on := 2, ground := Go.Ground.phase }, { on := 3, ground := Go.Ground.phase }, { on := 4, ground := Go.Ground.textOnly Go.Departure.lateStores }, { on := 5, ground := Go.Ground.textOnly Go.Departure.lateStores }, { on := 6, ground := Go.Ground.textOnly Go.Departure.lateStores }, { on := 7, ground := Go.Ground.textOnly Go.Departure.lateStoresUnsure }, { on := 8, ground := Go.Ground.textOnly Go.Departure.lateStores }, { on := 9, ground := Go.Ground.textOnly Go.Departure.lateStores }, { on := 10, ground := Go.Ground.textOnly Go.Departure.lateStores }, { on := 11, ground := Go.Ground.textOnly Go.Departure.lateStores }, { on := 12, ground := Go.Ground.textOnly Go.Departure.lateStores }, { on := 13, ground := Go.Ground.textOnly Go.Departure.lateStoresUnsure }, { on := 14, ground := Go.Ground.textOnly Go.Departure.lateStores }, { on := 15, ground := Go.Ground.textOnly Go.Departure.lateStores }, { on := 16, ground := Go.Ground.textOnly Go.Departure.lateStores }, { on := 17, ground := Go.Ground.textOnly Go.Departure.lateStoresUnsure }, { on := 18, ground := Go.Ground.textOnly Go.Departure.lateStoresUnsure }, { on := 19, ground := Go.Ground.textOnly Go.Departure.lateStores }], guard := none }) (v := ?vv47) rfl (by kernel_rfl) (by kernel_rfl) (by kernel_rfl) (fun _ _ _ h => h) (Or.inl ⟨by rfl, ?hy47⟩) (by assumption) ?rr47
                      case hy47 => intro w hSw; (try dsimp only at hSw); go_simp; all_goals with_reducible rfl
                      try simp only [Act.put, List.setIfInBounds_toArray, List.set_cons_zero, List.set_cons_succ]
                      refine wpAnyH_ready (rs := [21]) (by kernel_rfl) (by simp) ?_
                      refine AllReadyH.cons (i := 21) (o := { dst := none, op := Go.Op.store 24 (Go.Operand.tmp 5) (Go.Operand.tmp 67), type := 0, pos := "ref.go:39", after := #[{ on := 19, ground := Go.Ground.data }, { on := 20, ground := Go.Ground.chain }, { on := 0, ground := Go.Ground.phase }, { on := 1, ground := Go.Ground.phase }, { on := 2, ground := Go.Ground.phase }, { on := 3, ground := Go.Ground.phase }, { on := 4, ground := Go.Ground.phase }, { on := 5, ground := Go.Ground.phase }, { on := 6, ground := Go.Ground.phase }, { on := 7, ground := Go.Ground.phase }, { on := 8, ground := Go.Ground.phase }, { on := 9, ground := Go.Ground.phase }, { on := 10, ground := Go.Ground.phase }, { on := 11, ground := Go.Ground.phase }, { on := 12, ground := Go.Ground.phase }, { on := 13, ground := Go.Ground.phase }, { on := 14, ground := Go.Ground.phase }, { on := 15, ground := Go.Ground.phase }, { on := 16, ground := Go.Ground.phase }, { on := 17, ground := Go.Ground.phase }, { on := 18, ground := Go.Ground.phase }, { on := 19, ground := Go.Ground.phase }, { on := 20, ground := Go.Ground.phase }], guard := none }) rfl (fun K hK => ?_) AllReadyH.nil
                      obtain ⟨z0, z1⟩ := (K1.out.later HB_vd_12_4_7_13_14_18.out).c2
                      obtain ⟨zf0, zf1⟩ := (K1.out.later HB_vd_12_4_7_13_14_18.out).f2
                      go_simp
                      refine hK.out _ _ ?_ (fun hH7 => ?_)
                      · exact ⟨((((X1.out.later HB_vd_12_4_7_13_14_18.out).far (p := ⟨w.heap.size + 1, 0, none⟩) (by simp) _).far (p := ⟨w.heap.size + 1, 1, none⟩) (by simp) _)).c2.1, ((((X1.out.later HB_vd_12_4_7_13_14_18.out).far (p := ⟨w.heap.size + 1, 0, none⟩) (by simp) _).far (p := ⟨w.heap.size + 1, 1, none⟩) (by simp) _)).c2.2, far_cell16 NBT.out (far_cell16 NBT.out ((HB_vd_12_4_7_13_14_18.out.cell (p := ⟨bt, ot, none⟩) HBT.out).trans HX.out))⟩
                      clear hK K
                      try simp only [Act.put, List.setIfInBounds_toArray, List.set_cons_zero, List.set_cons_succ]
                      clear z0 z1 zf0 zf1
                      refine wpAnyH_take (i := 22) (oi := { dst := some 6, op := Go.Op.assign (Go.Operand.const (Go.Value.int Go.IntKind.i64 0)), type := 26, pos := "ref.go:39", after := #[{ on := 21, ground := Go.Ground.chain }, { on := 0, ground := Go.Ground.phase }, { on := 1, ground := Go.Ground.phase }, { on := 2, ground := Go.Ground.phase }, { on := 3, ground := Go.Ground.phase }, { on := 4, ground := Go.Ground.phase }, { on := 5, ground := Go.Ground.phase }, { on := 6, ground := Go.Ground.phase }, { on := 7, ground := Go.Ground.phase }, { on := 8, ground := Go.Ground.phase }, { on := 9, ground := Go.Ground.phase }, { on := 10, ground := Go.Ground.phase }, { on := 11, ground := Go.Ground.phase }, { on := 12, ground := Go.Ground.phase }, { on := 13, ground := Go.Ground.phase }, { on := 14, ground := Go.Ground.phase }, { on := 15, ground := Go.Ground.phase }, { on := 16, ground := Go.Ground.phase }, { on := 17, ground := Go.Ground.phase }, { on := 18, ground := Go.Ground.phase }, { on := 19, ground := Go.Ground.phase }, { on := 20, ground := Go.Ground.phase }, { on := 21, ground := Go.Ground.phase }], guard := none }) (v := ?vv48) rfl (by kernel_rfl) (by kernel_rfl) (by kernel_rfl) (fun _ _ _ h => h) (Or.inl ⟨by rfl, ?hy48⟩) (by assumption) ?rr48
                      case hy48 => intro w hSw; (try dsimp only at hSw); go_simp; all_goals with_reducible rfl
                      try simp only [Act.put, List.setIfInBounds_toArray, List.set_cons_zero, List.set_cons_succ]
                      refine wpAnyH_done (by kernel_rfl) ?_ _
                      have KF := ((K1.out.later HB_vd_12_4_7_13_14_18.out).set_ 0 (.slice A13 (t.log.length + 1) c13)).set_ 1 (.slice (some ⟨g18, 0, none⟩) xs.length c18)
                      have h1 := ((then_w HB1.out HB_vd_12_4_7_13_14_18.out).setCell (p := ⟨w.heap.size + 1, 0, none⟩) (by simp) (.slice A13 (t.log.length + 1) c13)).setCell (p := ⟨w.heap.size + 1, 1, none⟩) (by simp) (.slice (some ⟨g18, 0, none⟩) xs.length c18)
                      have hlt : w.heap.size + 1 < w1.heap.size := K1.out.lt
                      have r0 := KF.cell 0
                      have r1 := KF.cell 1
                      simp only [List.setIfInBounds_toArray, List.set_cons_zero, List.set_cons_succ, List.getElem?_toArray, List.getElem?_cons_zero, List.getElem?_cons_succ] at r0 r1
                      go_wp2_with fail
                      all_goals
                        refine bodyPost_ret (v := .tuple #[.int .i64 x, .agg #[.slice A13 (t.log.length + 1) c13, .slice (some ⟨g18, 0, none⟩) xs.length c18], .int .i64 0]) (by simp [results, Try.results9, go_sem, r0, r1]) rfl ?_
                        refine ⟨A13, c13, some ⟨g18, 0, none⟩, c18, ?_, ?_, ?_, own_nil16 R13_vd_12_4_7_13_14_18.out, (fun e => by cases e), ?_, ?_, h1⟩
                        · rw [EV.out.1, EV.out.2, drE_yes E.out]; show _ = Ending.returned (.tuple #[.int .i64 x, .agg #[.slice A13 (t.log ++ [x]).length c13, .slice (some ⟨g18, 0, none⟩) xs.length c18], .int .i64 0]); rw [List.length_append]; rfl
                        · rw [EV.out.1]; exact own_ints (xs := t.log ++ [x]) (c := c13) (by rw [List.length_append]; exact own_far16 (own_far16 R13_vd_12_4_7_13_14_18.out hlt 0 _) hlt 1 _)
                        · rw [EV.out.1]; exact own_ints (xs := xs) (c := c18) (own_far16 (own_far16 R18_vd_12_4_7_13_14_18.out (Nat.lt_of_lt_of_le hlt GE18.out) 0 _) (Nat.lt_of_lt_of_le hlt GE18.out) 1 _)
                        · rw [EV.out.1]; show (t.log ++ [x]).length ≤ c13; rw [List.length_append]; exact own_cap R13_vd_12_4_7_13_14_18.out
                        · rw [EV.out.1]; exact own_cap R18_vd_12_4_7_13_14_18.out
                    · go_simp
                      obtain ⟨vd_12_4_7_14, hw⟩ : ∃ y_, y_ = vd_12_4_7.alloc (.cells #[] 3) := ⟨_, rfl⟩
                      obtain ⟨b14, hb⟩ : ∃ y_, y_ = vd_12_4_7.heap.size := ⟨_, rfl⟩
                      rw [← hw, ← hb]
                      have BNvd_12_4_7_14 : Hid (Below vd_12_4_7.heap.size vd_12_4_7 vd_12_4_7_14) := by show Below _ _ _; rw [hw]; exact below_alloc _ _
                      have L14_vd_12_4_7_14 : Hid (Lies vd_12_4_7_14 b14 3 #[]) := by show Lies _ _ _ _; rw [hw, hb]; exact Lies.new _ _ _
                      have NE4_14 : Hid (b4 ≠ b14) := by show _ ≠ _; rw [hb]; exact Nat.ne_of_lt L4_vd_12_4_7.out.lt
                      have NG7_14 : Hid (g7 ≠ b14) := by show _ ≠ _; rw [hb]; exact Nat.ne_of_lt (R7_vd_12_4_7.out.lt g7 rfl).2
                      have BE14 : Hid (w1.heap.size ≤ b14) := by show _ ≤ _; rw [hb]; exact HB_vd_12_4_7.out.size
                      clear hw hb
                      have HB_vd_12_4_7_14 := hid (dt16 HB_vd_12_4_7.out BNvd_12_4_7_14.out)
                      have L12_vd_12_4_7_14 := hid (L12_vd_12_4_7.out.later BNvd_12_4_7_14.out)
                      have L4_vd_12_4_7_14 := hid (L4_vd_12_4_7.out.later BNvd_12_4_7_14.out)
                      have R7_vd_12_4_7_14 := hid (own_later R7_vd_12_4_7.out BNvd_12_4_7_14.out)
                      refine hK.out _ _ ?_ (fun hH4 => ?_)
                      · exact ⟨(X1.out.later HB_vd_12_4_7_14.out).c2.1, (X1.out.later HB_vd_12_4_7_14.out).c2.2, (HB_vd_12_4_7_14.out.cell (p := ⟨bt, ot, none⟩) HBT.out).trans HX.out⟩
                      clear hK K
                      try simp only [Act.put, List.setIfInBounds_toArray, List.set_cons_zero, List.set_cons_succ]
                      refine wpAnyH_ready (rs := [13]) (by kernel_rfl) (by simp) ?_
                      refine AllReadyH.cons (i := 13) (o := { dst := some 61, op := Go.Op.call { callee := Go.Callee.builtin Go.Builtin.append, args := #[Go.Operand.tmp 55, Go.Operand.tmp 60], argTypes := #[22, 22] }, type := 22, pos := "ref.go:39", after := #[{ on := 7, ground := Go.Ground.data }, { on := 12, ground := Go.Ground.data }, { on := 7, ground := Go.Ground.chain }], guard := none }) rfl (fun K hK => ?_) AllReadyH.nil
                      obtain ⟨v13, vd_12_4_7_14_13, hr, ho, hg⟩ := run_app_ints16 vd_12_4_7_14 w1.heap.size _ _ t.log (own_base16 R7_vd_12_4_7_14.out GE7.out) (some ⟨b12, 0, none⟩) 1 [x] (ints_lies16 L12_vd_12_4_7_14.out) (fun h => by cases h) (by have := HLN.out; simp; omega) HB_vd_12_4_7_14.out.size
                      obtain ⟨A13, c13, rfl⟩ := own_form ho
                      have HR13 := hid hr
                      have R13_vd_12_4_7_14_13 := hid ho
                      have HB_vd_12_4_7_14_13 : Hid (Below w1.heap.size w1 vd_12_4_7_14_13) := HB_vd_12_4_7_14.out.grown hg HB_vd_12_4_7_14.out.size (fun k hk => ((own_base16 R7_vd_12_4_7_14.out GE7.out).lt k hk).1)
                      have L14_vd_12_4_7_14_13 := hid (lies_grown16 hg L14_vd_12_4_7_14.out (fun h => NG7_14.out (Option.some.inj h)))
                      clear hr ho hg
                      rw [if_pos (by rfl)]
                      refine wp_append_run16 (.tmp 55) (.tmp 60) 22 rfl _ _ HR13.out ?_
                      refine hK.out _ _ ?_ (fun hH5 => ?_)
                      · exact ⟨(X1.out.later HB_vd_12_4_7_14_13.out).c2.1, (X1.out.later HB_vd_12_4_7_14_13.out).c2.2, (HB_vd_12_4_7_14_13.out.cell (p := ⟨bt, ot, none⟩) HBT.out).trans HX.out⟩
                      clear hK K
                      try simp only [Act.put, List.setIfInBounds_toArray, List.set_cons_zero, List.set_cons_succ]
                      refine wpAnyH_ready (rs := [18]) (by kernel_rfl) (by simp) ?_
                      refine AllReadyH.cons (i := 18) (o := { dst := some 66, op := Go.Op.call { callee := Go.Callee.builtin Go.Builtin.append, args := #[Go.Operand.tmp 62, Go.Operand.tmp 65], argTypes := #[22, 22] }, type := 22, pos := "ref.go:39", after := #[{ on := 14, ground := Go.Ground.data }, { on := 17, ground := Go.Ground.data }, { on := 13, ground := Go.Ground.chain }], guard := none }) rfl (fun K hK => ?_) AllReadyH.nil
                      obtain ⟨g18, c18, vd_12_4_7_14_13_18, hr, hb, hg, ho⟩ := app_any16 vd_12_4_7_14_13 b14 L14_vd_12_4_7_14_13.out xs (if d = 1 then some ⟨bt, ot, none⟩ else some ⟨bt, ot + 1, none⟩ : Option Addr) (d - 1) (RQ1.out.below HB_vd_12_4_7_14_13.out) NQ.out (by have := HLN.out; have := HXS.out; omega)
                      have BNvd_12_4_7_14_13_18 := hid hb
                      have HR18 := hid hr
                      have R18_vd_12_4_7_14_13_18 : Hid (vd_12_4_7_14_13_18.ownsRow g18 3 1 (.slice (some ⟨g18, 0, none⟩) xs.length c18) xs.length (xs.map (Value.int .i64))) := ho
                      have GE18 : Hid (w1.heap.size ≤ g18) := by
                        show _ ≤ _
                        rcases hg with h | h
                        · rw [h]; exact BE14.out
                        · exact Nat.le_trans HB_vd_12_4_7_14_13.out.size h
                      clear hr hb hg ho
                      have HB_vd_12_4_7_14_13_18 := hid (dt16 HB_vd_12_4_7_14_13.out BNvd_12_4_7_14_13_18.out)
                      have L14_vd_12_4_7_14_13_18 := hid (L14_vd_12_4_7_14_13.out.later BNvd_12_4_7_14_13_18.out)
                      have R13_vd_12_4_7_14_13_18 := hid (own_later R13_vd_12_4_7_14_13.out BNvd_12_4_7_14_13_18.out)
                      rw [if_pos (by rfl)]
                      refine wp_append_run16 (.tmp 62) (.tmp 65) 22 rfl _ _ HR18.out ?_
                      refine hK.out _ _ ?_ (fun hH6 => ?_)
                      · exact ⟨(X1.out.later HB_vd_12_4_7_14_13_18.out).c2.1, (X1.out.later HB_vd_12_4_7_14_13_18.out).c2.2, (HB_vd_12_4_7_14_13_18.out.cell (p := ⟨bt, ot, none⟩) HBT.out).trans HX.out⟩
                      clear hK K
                      try simp only [Act.put, List.setIfInBounds_toArray, List.set_cons_zero, List.set_cons_succ]
                      refine wpAnyH_take (i := 19) (oi := { dst := some 67, op := Go.Op.build 24 #[(0, Go.Operand.tmp 61), (1, Go.Operand.tmp 66)], type := 24, pos := "ref.go:39", after := #[{ on := 13, ground := Go.Ground.data }, { on := 18, ground := Go.Ground.data }, { on := 20, ground := Go.Ground.gcOnly Go.Departure.lateStores }], guard := none }) (v := ?vv49) rfl (by kernel_rfl) (by kernel_rfl) (by kernel_rfl) (fun _ _ _ h => h) (Or.inl ⟨by rfl, ?hy49⟩) (by assumption) ?rr49
                      case hy49 => intro w hSw; (try dsimp only at hSw); go_simp; all_goals with_reducible rfl
                      try simp only [Act.put, List.setIfInBounds_toArray, List.set_cons_zero, List.set_cons_succ]
                      refine wpAnyH_take (i := 20) (oi := { dst := some 4, op := Go.Op.assign (Go.Operand.tmp 51), type := 3, pos := "ref.go:39", after := #[{ on := 3, ground := Go.Ground.data }, { on := 18, ground := Go.Ground.chain }, { on := 0, ground := Go.Ground.phase }, { on := 1, ground := Go.Ground.phase }, { on := 2, ground := Go.Ground.phase }, { on := 3, ground := Go.Ground.phase }, { on := 4, ground := Go.Ground.textOnly Go.Departure.lateStores }, { on := 5, ground := Go.Ground.textOnly Go.Departure.lateStores }, { on := 6, ground := Go.Ground.textOnly Go.Departure.lateStores }, { on := 7, ground := Go.Ground.textOnly Go.Departure.lateStoresUnsure }, { on := 8, ground := Go.Ground.textOnly Go.Departure.lateStores }, { on := 9, ground := Go.Ground.textOnly Go.Departure.lateStores }, { on := 10, ground := Go.Ground.textOnly Go.Departure.lateStores }, { on := 11, ground := Go.Ground.textOnly Go.Departure.lateStores }, { on := 12, ground := Go.Ground.textOnly Go.Departure.lateStores }, { on := 13, ground := Go.Ground.textOnly Go.Departure.lateStoresUnsure }, { on := 14, ground := Go.Ground.textOnly Go.Departure.lateStores }, { on := 15, ground := Go.Ground.textOnly Go.Departure.lateStores }, { on := 16, ground := Go.Ground.textOnly Go.Departure.lateStores }, { on := 17, ground := Go.Ground.textOnly Go.Departure.lateStoresUnsure }, { on := 18, ground := Go.Ground.textOnly Go.Departure.lateStoresUnsure }, { on := 19, ground := Go.Ground.textOnly Go.Departure.lateStores }], guard := none }) (v := ?vv50) rfl (by kernel_rfl) (by kernel_rfl) (by kernel_rfl) (fun _ _ _ h => h) (Or.inl ⟨by rfl, ?hy50⟩) (by assumption) ?rr50
                      case hy50 => intro w hSw; (try dsimp only at hSw); go_simp; all_goals with_reducible rfl
                      try simp only [Act.put, List.setIfInBounds_toArray, List.set_cons_zero, List.set_cons_succ]
                      refine wpAnyH_ready (rs := [21]) (by kernel_rfl) (by simp) ?_
                      refine AllReadyH.cons (i := 21) (o := { dst := none, op := Go.Op.store 24 (Go.Operand.tmp 5) (Go.Operand.tmp 67), type := 0, pos := "ref.go:39", after := #[{ on := 19, ground := Go.Ground.data }, { on := 20, ground := Go.Ground.chain }, { on := 0, ground := Go.Ground.phase }, { on := 1, ground := Go.Ground.phase }, { on := 2, ground := Go.Ground.phase }, { on := 3, ground := Go.Ground.phase }, { on := 4, ground := Go.Ground.phase }, { on := 5, ground := Go.Ground.phase }, { on := 6, ground := Go.Ground.phase }, { on := 7, ground := Go.Ground.phase }, { on := 8, ground := Go.Ground.phase }, { on := 9, ground := Go.Ground.phase }, { on := 10, ground := Go.Ground.phase }, { on := 11, ground := Go.Ground.phase }, { on := 12, ground := Go.Ground.phase }, { on := 13, ground := Go.Ground.phase }, { on := 14, ground := Go.Ground.phase }, { on := 15, ground := Go.Ground.phase }, { on := 16, ground := Go.Ground.phase }, { on := 17, ground := Go.Ground.phase }, { on := 18, ground := Go.Ground.phase }, { on := 19, ground := Go.Ground.phase }, { on := 20, ground := Go.Ground.phase }], guard := none }) rfl (fun K hK => ?_) AllReadyH.nil
                      obtain ⟨z0, z1⟩ := (K1.out.later HB_vd_12_4_7_14_13_18.out).c2
                      obtain ⟨zf0, zf1⟩ := (K1.out.later HB_vd_12_4_7_14_13_18.out).f2
                      go_simp
                      refine hK.out _ _ ?_ (fun hH7 => ?_)
                      · exact ⟨((((X1.out.later HB_vd_12_4_7_14_13_18.out).far (p := ⟨w.heap.size + 1, 0, none⟩) (by simp) _).far (p := ⟨w.heap.size + 1, 1, none⟩) (by simp) _)).c2.1, ((((X1.out.later HB_vd_12_4_7_14_13_18.out).far (p := ⟨w.heap.size + 1, 0, none⟩) (by simp) _).far (p := ⟨w.heap.size + 1, 1, none⟩) (by simp) _)).c2.2, far_cell16 NBT.out (far_cell16 NBT.out ((HB_vd_12_4_7_14_13_18.out.cell (p := ⟨bt, ot, none⟩) HBT.out).trans HX.out))⟩
                      clear hK K
                      try simp only [Act.put, List.setIfInBounds_toArray, List.set_cons_zero, List.set_cons_succ]
                      clear z0 z1 zf0 zf1
                      refine wpAnyH_take (i := 22) (oi := { dst := some 6, op := Go.Op.assign (Go.Operand.const (Go.Value.int Go.IntKind.i64 0)), type := 26, pos := "ref.go:39", after := #[{ on := 21, ground := Go.Ground.chain }, { on := 0, ground := Go.Ground.phase }, { on := 1, ground := Go.Ground.phase }, { on := 2, ground := Go.Ground.phase }, { on := 3, ground := Go.Ground.phase }, { on := 4, ground := Go.Ground.phase }, { on := 5, ground := Go.Ground.phase }, { on := 6, ground := Go.Ground.phase }, { on := 7, ground := Go.Ground.phase }, { on := 8, ground := Go.Ground.phase }, { on := 9, ground := Go.Ground.phase }, { on := 10, ground := Go.Ground.phase }, { on := 11, ground := Go.Ground.phase }, { on := 12, ground := Go.Ground.phase }, { on := 13, ground := Go.Ground.phase }, { on := 14, ground := Go.Ground.phase }, { on := 15, ground := Go.Ground.phase }, { on := 16, ground := Go.Ground.phase }, { on := 17, ground := Go.Ground.phase }, { on := 18, ground := Go.Ground.phase }, { on := 19, ground := Go.Ground.phase }, { on := 20, ground := Go.Ground.phase }, { on := 21, ground := Go.Ground.phase }], guard := none }) (v := ?vv51) rfl (by kernel_rfl) (by kernel_rfl) (by kernel_rfl) (fun _ _ _ h => h) (Or.inl ⟨by rfl, ?hy51⟩) (by assumption) ?rr51
                      case hy51 => intro w hSw; (try dsimp only at hSw); go_simp; all_goals with_reducible rfl
                      try simp only [Act.put, List.setIfInBounds_toArray, List.set_cons_zero, List.set_cons_succ]
                      refine wpAnyH_done (by kernel_rfl) ?_ _
                      have KF := ((K1.out.later HB_vd_12_4_7_14_13_18.out).set_ 0 (.slice A13 (t.log.length + 1) c13)).set_ 1 (.slice (some ⟨g18, 0, none⟩) xs.length c18)
                      have h1 := ((then_w HB1.out HB_vd_12_4_7_14_13_18.out).setCell (p := ⟨w.heap.size + 1, 0, none⟩) (by simp) (.slice A13 (t.log.length + 1) c13)).setCell (p := ⟨w.heap.size + 1, 1, none⟩) (by simp) (.slice (some ⟨g18, 0, none⟩) xs.length c18)
                      have hlt : w.heap.size + 1 < w1.heap.size := K1.out.lt
                      have r0 := KF.cell 0
                      have r1 := KF.cell 1
                      simp only [List.setIfInBounds_toArray, List.set_cons_zero, List.set_cons_succ, List.getElem?_toArray, List.getElem?_cons_zero, List.getElem?_cons_succ] at r0 r1
                      go_wp2_with fail
                      all_goals
                        refine bodyPost_ret (v := .tuple #[.int .i64 x, .agg #[.slice A13 (t.log.length + 1) c13, .slice (some ⟨g18, 0, none⟩) xs.length c18], .int .i64 0]) (by simp [results, Try.results9, go_sem, r0, r1]) rfl ?_
                        refine ⟨A13, c13, some ⟨g18, 0, none⟩, c18, ?_, ?_, ?_, own_nil16 R13_vd_12_4_7_14_13_18.out, (fun e => by cases e), ?_, ?_, h1⟩
                        · rw [EV.out.1, EV.out.2, drE_yes E.out]; show _ = Ending.returned (.tuple #[.int .i64 x, .agg #[.slice A13 (t.log ++ [x]).length c13, .slice (some ⟨g18, 0, none⟩) xs.length c18], .int .i64 0]); rw [List.length_append]; rfl
                        · rw [EV.out.1]; exact own_ints (xs := t.log ++ [x]) (c := c13) (by rw [List.length_append]; exact own_far16 (own_far16 R13_vd_12_4_7_14_13_18.out hlt 0 _) hlt 1 _)
                        · rw [EV.out.1]; exact own_ints (xs := xs) (c := c18) (own_far16 (own_far16 R18_vd_12_4_7_14_13_18.out (Nat.lt_of_lt_of_le hlt GE18.out) 0 _) (Nat.lt_of_lt_of_le hlt GE18.out) 1 _)
                        · rw [EV.out.1]; show (t.log ++ [x]).length ≤ c13; rw [List.length_append]; exact own_cap R13_vd_12_4_7_14_13_18.out
                        · rw [EV.out.1]; exact own_cap R18_vd_12_4_7_14_13_18.out
                  · go_simp
                    obtain ⟨vd_12_4_14, hw⟩ : ∃ y_, y_ = vd_12_4.alloc (.cells #[] 3) := ⟨_, rfl⟩
                    obtain ⟨b14, hb⟩ : ∃ y_, y_ = vd_12_4.heap.size := ⟨_, rfl⟩
                    rw [← hw, ← hb]
                    have BNvd_12_4_14 : Hid (Below vd_12_4.heap.size vd_12_4 vd_12_4_14) := by show Below _ _ _; rw [hw]; exact below_alloc _ _
                    have L14_vd_12_4_14 : Hid (Lies vd_12_4_14 b14 3 #[]) := by show Lies _ _ _ _; rw [hw, hb]; exact Lies.new _ _ _
                    have NE4_14 : Hid (b4 ≠ b14) := by show _ ≠ _; rw [hb]; exact Nat.ne_of_lt L4_vd_12_4.out.lt
                    have BE14 : Hid (w1.heap.size ≤ b14) := by show _ ≤ _; rw [hb]; exact HB_vd_12_4.out.size
                    clear hw hb
                    have HB_vd_12_4_14 := hid (dt16 HB_vd_12_4.out BNvd_12_4_14.out)
                    have L12_vd_12_4_14 := hid (L12_vd_12_4.out.later BNvd_12_4_14.out)
                    have L4_vd_12_4_14 := hid (L4_vd_12_4.out.later BNvd_12_4_14.out)
                    refine hK.out _ _ ?_ (fun hH3 => ?_)
                    · exact ⟨(X1.out.later HB_vd_12_4_14.out).c2.1, (X1.out.later HB_vd_12_4_14.out).c2.2, (HB_vd_12_4_14.out.cell (p := ⟨bt, ot, none⟩) HBT.out).trans HX.out⟩
                    clear hK K
                    try simp only [Act.put, List.setIfInBounds_toArray, List.set_cons_zero, List.set_cons_succ]
                    refine wpAnyH_ready (rs := [7]) (by kernel_rfl) (by simp) ?_
                    refine AllReadyH.cons (i := 7) (o := { dst := some 55, op := Go.Op.call { callee := Go.Callee.builtin Go.Builtin.append, args := #[Go.Operand.tmp 52, Go.Operand.tmp 54], argTypes := #[22, 22] }, type := 22, pos := "ref.go:39", after := #[{ on := 4, ground := Go.Ground.data }, { on := 6, ground := Go.Ground.data }], guard := none }) rfl (fun K hK => ?_) AllReadyH.nil
                    obtain ⟨g7, c7, vd_12_4_14_7, hr, hb, hg, ho⟩ := app_any16 vd_12_4_14 b4 L4_vd_12_4_14.out t.log A c (RA1.out.below HB_vd_12_4_14.out) NA.out (by have := HLN.out; omega)
                    have BNvd_12_4_14_7 := hid hb
                    have HR7 := hid hr
                    have R7_vd_12_4_14_7 : Hid (vd_12_4_14_7.ownsRow g7 3 1 (.slice (some ⟨g7, 0, none⟩) t.log.length c7) t.log.length (t.log.map (Value.int .i64))) := ho
                    have GE7 : Hid (w1.heap.size ≤ g7) := by
                      show _ ≤ _
                      rcases hg with h | h
                      · rw [h]; exact BE4.out
                      · exact Nat.le_trans HB_vd_12_4_14.out.size h
                    have NG7_14 : Hid (g7 ≠ b14) := by
                      show _ ≠ _
                      rcases hg with h | h
                      · rw [h]; exact NE4_14.out
                      · have := L14_vd_12_4_14.out.lt; omega
                    clear hr hb hg ho
                    have HB_vd_12_4_14_7 := hid (dt16 HB_vd_12_4_14.out BNvd_12_4_14_7.out)
                    have L12_vd_12_4_14_7 := hid (L12_vd_12_4_14.out.later BNvd_12_4_14_7.out)
                    have L4_vd_12_4_14_7 := hid (L4_vd_12_4_14.out.later BNvd_12_4_14_7.out)
                    have L14_vd_12_4_14_7 := hid (L14_vd_12_4_14.out.later BNvd_12_4_14_7.out)
                    rw [if_pos (by rfl)]
                    refine wp_append_run16 (.tmp 52) (.tmp 54) 22 rfl _ _ HR7.out ?_
                    refine hK.out _ _ ?_ (fun hH4 => ?_)
                    · exact ⟨(X1.out.later HB_vd_12_4_14_7.out).c2.1, (X1.out.later HB_vd_12_4_14_7.out).c2.2, (HB_vd_12_4_14_7.out.cell (p := ⟨bt, ot, none⟩) HBT.out).trans HX.out⟩
                    clear hK K
                    try simp only [Act.put, List.setIfInBounds_toArray, List.set_cons_zero, List.set_cons_succ]
                    refine wpAnyH_ready (rs := [13]) (by kernel_rfl) (by simp) ?_
                    refine AllReadyH.cons (i := 13) (o := { dst := some 61, op := Go.Op.call { callee := Go.Callee.builtin Go.Builtin.append, args := #[Go.Operand.tmp 55, Go.Operand.tmp 60], argTypes := #[22, 22] }, type := 22, pos := "ref.go:39", after := #[{ on := 7, ground := Go.Ground.data }, { on := 12, ground := Go.Ground.data }, { on := 7, ground := Go.Ground.chain }], guard := none }) rfl (fun K hK => ?_) AllReadyH.nil
                    obtain ⟨v13, vd_12_4_14_7_13, hr, ho, hg⟩ := run_app_ints16 vd_12_4_14_7 w1.heap.size _ _ t.log (own_base16 R7_vd_12_4_14_7.out GE7.out) (some ⟨b12, 0, none⟩) 1 [x] (ints_lies16 L12_vd_12_4_14_7.out) (fun h => by cases h) (by have := HLN.out; simp; omega) HB_vd_12_4_14_7.out.size
                    obtain ⟨A13, c13, rfl⟩ := own_form ho
                    have HR13 := hid hr
                    have R13_vd_12_4_14_7_13 := hid ho
                    have HB_vd_12_4_14_7_13 : Hid (Below w1.heap.size w1 vd_12_4_14_7_13) := HB_vd_12_4_14_7.out.grown hg HB_vd_12_4_14_7.out.size (fun k hk => ((own_base16 R7_vd_12_4_14_7.out GE7.out).lt k hk).1)
                    have L14_vd_12_4_14_7_13 := hid (lies_grown16 hg L14_vd_12_4_14_7.out (fun h => NG7_14.out (Option.some.inj h)))
                    clear hr ho hg
                    rw [if_pos (by rfl)]
                    refine wp_append_run16 (.tmp 55) (.tmp 60) 22 rfl _ _ HR13.out ?_
                    refine hK.out _ _ ?_ (fun hH5 => ?_)
                    · exact ⟨(X1.out.later HB_vd_12_4_14_7_13.out).c2.1, (X1.out.later HB_vd_12_4_14_7_13.out).c2.2, (HB_vd_12_4_14_7_13.out.cell (p := ⟨bt, ot, none⟩) HBT.out).trans HX.out⟩
                    clear hK K
                    try simp only [Act.put, List.setIfInBounds_toArray, List.set_cons_zero, List.set_cons_succ]
                    refine wpAnyH_ready (rs := [18]) (by kernel_rfl) (by simp) ?_
                    refine AllReadyH.cons (i := 18) (o := { dst := some 66, op := Go.Op.call { callee := Go.Callee.builtin Go.Builtin.append, args := #[Go.Operand.tmp 62, Go.Operand.tmp 65], argTypes := #[22, 22] }, type := 22, pos := "ref.go:39", after := #[{ on := 14, ground := Go.Ground.data }, { on := 17, ground := Go.Ground.data }, { on := 13, ground := Go.Ground.chain }], guard := none }) rfl (fun K hK => ?_) AllReadyH.nil
                    obtain ⟨g18, c18, vd_12_4_14_7_13_18, hr, hb, hg, ho⟩ := app_any16 vd_12_4_14_7_13 b14 L14_vd_12_4_14_7_13.out xs (if d = 1 then some ⟨bt, ot, none⟩ else some ⟨bt, ot + 1, none⟩ : Option Addr) (d - 1) (RQ1.out.below HB_vd_12_4_14_7_13.out) NQ.out (by have := HLN.out; have := HXS.out; omega)
                    have BNvd_12_4_14_7_13_18 := hid hb
                    have HR18 := hid hr
                    have R18_vd_12_4_14_7_13_18 : Hid (vd_12_4_14_7_13_18.ownsRow g18 3 1 (.slice (some ⟨g18, 0, none⟩) xs.length c18) xs.length (xs.map (Value.int .i64))) := ho
                    have GE18 : Hid (w1.heap.size ≤ g18) := by
                      show _ ≤ _
                      rcases hg with h | h
                      · rw [h]; exact BE14.out
                      · exact Nat.le_trans HB_vd_12_4_14_7_13.out.size h
                    clear hr hb hg ho
                    have HB_vd_12_4_14_7_13_18 := hid (dt16 HB_vd_12_4_14_7_13.out BNvd_12_4_14_7_13_18.out)
                    have L14_vd_12_4_14_7_13_18 := hid (L14_vd_12_4_14_7_13.out.later BNvd_12_4_14_7_13_18.out)
                    have R13_vd_12_4_14_7_13_18 := hid (own_later R13_vd_12_4_14_7_13.out BNvd_12_4_14_7_13_18.out)
                    rw [if_pos (by rfl)]
                    refine wp_append_run16 (.tmp 62) (.tmp 65) 22 rfl _ _ HR18.out ?_
                    refine hK.out _ _ ?_ (fun hH6 => ?_)
                    · exact ⟨(X1.out.later HB_vd_12_4_14_7_13_18.out).c2.1, (X1.out.later HB_vd_12_4_14_7_13_18.out).c2.2, (HB_vd_12_4_14_7_13_18.out.cell (p := ⟨bt, ot, none⟩) HBT.out).trans HX.out⟩
                    clear hK K
                    try simp only [Act.put, List.setIfInBounds_toArray, List.set_cons_zero, List.set_cons_succ]
                    refine wpAnyH_take (i := 19) (oi := { dst := some 67, op := Go.Op.build 24 #[(0, Go.Operand.tmp 61), (1, Go.Operand.tmp 66)], type := 24, pos := "ref.go:39", after := #[{ on := 13, ground := Go.Ground.data }, { on := 18, ground := Go.Ground.data }, { on := 20, ground := Go.Ground.gcOnly Go.Departure.lateStores }], guard := none }) (v := ?vv52) rfl (by kernel_rfl) (by kernel_rfl) (by kernel_rfl) (fun _ _ _ h => h) (Or.inl ⟨by rfl, ?hy52⟩) (by assumption) ?rr52
                    case hy52 => intro w hSw; (try dsimp only at hSw); go_simp; all_goals with_reducible rfl
                    try simp only [Act.put, List.setIfInBounds_toArray, List.set_cons_zero, List.set_cons_succ]
                    refine wpAnyH_take (i := 20) (oi := { dst := some 4, op := Go.Op.assign (Go.Operand.tmp 51), type := 3, pos := "ref.go:39", after := #[{ on := 3, ground := Go.Ground.data }, { on := 18, ground := Go.Ground.chain }, { on := 0, ground := Go.Ground.phase }, { on := 1, ground := Go.Ground.phase }, { on := 2, ground := Go.Ground.phase }, { on := 3, ground := Go.Ground.phase }, { on := 4, ground := Go.Ground.textOnly Go.Departure.lateStores }, { on := 5, ground := Go.Ground.textOnly Go.Departure.lateStores }, { on := 6, ground := Go.Ground.textOnly Go.Departure.lateStores }, { on := 7, ground := Go.Ground.textOnly Go.Departure.lateStoresUnsure }, { on := 8, ground := Go.Ground.textOnly Go.Departure.lateStores }, { on := 9, ground := Go.Ground.textOnly Go.Departure.lateStores }, { on := 10, ground := Go.Ground.textOnly Go.Departure.lateStores }, { on := 11, ground := Go.Ground.textOnly Go.Departure.lateStores }, { on := 12, ground := Go.Ground.textOnly Go.Departure.lateStores }, { on := 13, ground := Go.Ground.textOnly Go.Departure.lateStoresUnsure }, { on := 14, ground := Go.Ground.textOnly Go.Departure.lateStores }, { on := 15, ground := Go.Ground.textOnly Go.Departure.lateStores }, { on := 16, ground := Go.Ground.textOnly Go.Departure.lateStores }, { on := 17, ground := Go.Ground.textOnly Go.Departure.lateStoresUnsure }, { on := 18, ground := Go.Ground.textOnly Go.Departure.lateStoresUnsure }, { on := 19, ground := Go.Ground.textOnly Go.Departure.lateStores }], guard := none }) (v := ?vv53) rfl (by kernel_rfl) (by kernel_rfl) (by kernel_rfl) (fun _ _ _ h => h) (Or.inl ⟨by rfl, ?hy53⟩) (by assumption) ?rr53
                    case hy53 => intro w hSw; (try dsimp only at hSw); go_simp; all_goals with_reducible rfl
                    try simp only [Act.put, List.setIfInBounds_toArray, List.set_cons_zero, List.set_cons_succ]
                    refine wpAnyH_ready (rs := [21]) (by kernel_rfl) (by simp) ?_
                    refine AllReadyH.cons (i := 21) (o := { dst := none, op := Go.Op.store 24 (Go.Operand.tmp 5) (Go.Operand.tmp 67), type := 0, pos := "ref.go:39", after := #[{ on := 19, ground := Go.Ground.data }, { on := 20, ground := Go.Ground.chain }, { on := 0, ground := Go.Ground.phase }, { on := 1, ground := Go.Ground.phase }, { on := 2, ground := Go.Ground.phase }, { on := 3, ground := Go.Ground.phase }, { on := 4, ground := Go.Ground.phase }, { on := 5, ground := Go.Ground.phase }, { on := 6, ground := Go.Ground.phase }, { on := 7, ground := Go.Ground.phase }, { on := 8, ground := Go.Ground.phase }, { on := 9, ground := Go.Ground.phase }, { on := 10, ground := Go.Ground.phase }, { on := 11, ground := Go.Ground.phase }, { on := 12, ground := Go.Ground.phase }, { on := 13, ground := Go.Ground.phase }, { on := 14, ground := Go.Ground.phase }, { on := 15, ground := Go.Ground.phase }, { on := 16, ground := Go.Ground.phase }, { on := 17, ground := Go.Ground.phase }, { on := 18, ground := Go.Ground.phase }, { on := 19, ground := Go.Ground.phase }, { on := 20, ground := Go.Ground.phase }], guard := none }) rfl (fun K hK => ?_) AllReadyH.nil
                    obtain ⟨z0, z1⟩ := (K1.out.later HB_vd_12_4_14_7_13_18.out).c2
                    obtain ⟨zf0, zf1⟩ := (K1.out.later HB_vd_12_4_14_7_13_18.out).f2
                    go_simp
                    refine hK.out _ _ ?_ (fun hH7 => ?_)
                    · exact ⟨((((X1.out.later HB_vd_12_4_14_7_13_18.out).far (p := ⟨w.heap.size + 1, 0, none⟩) (by simp) _).far (p := ⟨w.heap.size + 1, 1, none⟩) (by simp) _)).c2.1, ((((X1.out.later HB_vd_12_4_14_7_13_18.out).far (p := ⟨w.heap.size + 1, 0, none⟩) (by simp) _).far (p := ⟨w.heap.size + 1, 1, none⟩) (by simp) _)).c2.2, far_cell16 NBT.out (far_cell16 NBT.out ((HB_vd_12_4_14_7_13_18.out.cell (p := ⟨bt, ot, none⟩) HBT.out).trans HX.out))⟩
                    clear hK K
                    try simp only [Act.put, List.setIfInBounds_toArray, List.set_cons_zero, List.set_cons_succ]
                    clear z0 z1 zf0 zf1
                    refine wpAnyH_take (i := 22) (oi := { dst := some 6, op := Go.Op.assign (Go.Operand.const (Go.Value.int Go.IntKind.i64 0)), type := 26, pos := "ref.go:39", after := #[{ on := 21, ground := Go.Ground.chain }, { on := 0, ground := Go.Ground.phase }, { on := 1, ground := Go.Ground.phase }, { on := 2, ground := Go.Ground.phase }, { on := 3, ground := Go.Ground.phase }, { on := 4, ground := Go.Ground.phase }, { on := 5, ground := Go.Ground.phase }, { on := 6, ground := Go.Ground.phase }, { on := 7, ground := Go.Ground.phase }, { on := 8, ground := Go.Ground.phase }, { on := 9, ground := Go.Ground.phase }, { on := 10, ground := Go.Ground.phase }, { on := 11, ground := Go.Ground.phase }, { on := 12, ground := Go.Ground.phase }, { on := 13, ground := Go.Ground.phase }, { on := 14, ground := Go.Ground.phase }, { on := 15, ground := Go.Ground.phase }, { on := 16, ground := Go.Ground.phase }, { on := 17, ground := Go.Ground.phase }, { on := 18, ground := Go.Ground.phase }, { on := 19, ground := Go.Ground.phase }, { on := 20, ground := Go.Ground.phase }, { on := 21, ground := Go.Ground.phase }], guard := none }) (v := ?vv54) rfl (by kernel_rfl) (by kernel_rfl) (by kernel_rfl) (fun _ _ _ h => h) (Or.inl ⟨by rfl, ?hy54⟩) (by assumption) ?rr54
                    case hy54 => intro w hSw; (try dsimp only at hSw); go_simp; all_goals with_reducible rfl
                    try simp only [Act.put, List.setIfInBounds_toArray, List.set_cons_zero, List.set_cons_succ]
                    refine wpAnyH_done (by kernel_rfl) ?_ _
                    have KF := ((K1.out.later HB_vd_12_4_14_7_13_18.out).set_ 0 (.slice A13 (t.log.length + 1) c13)).set_ 1 (.slice (some ⟨g18, 0, none⟩) xs.length c18)
                    have h1 := ((then_w HB1.out HB_vd_12_4_14_7_13_18.out).setCell (p := ⟨w.heap.size + 1, 0, none⟩) (by simp) (.slice A13 (t.log.length + 1) c13)).setCell (p := ⟨w.heap.size + 1, 1, none⟩) (by simp) (.slice (some ⟨g18, 0, none⟩) xs.length c18)
                    have hlt : w.heap.size + 1 < w1.heap.size := K1.out.lt
                    have r0 := KF.cell 0
                    have r1 := KF.cell 1
                    simp only [List.setIfInBounds_toArray, List.set_cons_zero, List.set_cons_succ, List.getElem?_toArray, List.getElem?_cons_zero, List.getElem?_cons_succ] at r0 r1
                    go_wp2_with fail
                    all_goals
                      refine bodyPost_ret (v := .tuple #[.int .i64 x, .agg #[.slice A13 (t.log.length + 1) c13, .slice (some ⟨g18, 0, none⟩) xs.length c18], .int .i64 0]) (by simp [results, Try.results9, go_sem, r0, r1]) rfl ?_
                      refine ⟨A13, c13, some ⟨g18, 0, none⟩, c18, ?_, ?_, ?_, own_nil16 R13_vd_12_4_14_7_13_18.out, (fun e => by cases e), ?_, ?_, h1⟩
                      · rw [EV.out.1, EV.out.2, drE_yes E.out]; show _ = Ending.returned (.tuple #[.int .i64 x, .agg #[.slice A13 (t.log ++ [x]).length c13, .slice (some ⟨g18, 0, none⟩) xs.length c18], .int .i64 0]); rw [List.length_append]; rfl
                      · rw [EV.out.1]; exact own_ints (xs := t.log ++ [x]) (c := c13) (by rw [List.length_append]; exact own_far16 (own_far16 R13_vd_12_4_14_7_13_18.out hlt 0 _) hlt 1 _)
                      · rw [EV.out.1]; exact own_ints (xs := xs) (c := c18) (own_far16 (own_far16 R18_vd_12_4_14_7_13_18.out (Nat.lt_of_lt_of_le hlt GE18.out) 0 _) (Nat.lt_of_lt_of_le hlt GE18.out) 1 _)
                      · rw [EV.out.1]; show (t.log ++ [x]).length ≤ c13; rw [List.length_append]; exact own_cap R13_vd_12_4_14_7_13_18.out
                      · rw [EV.out.1]; exact own_cap R18_vd_12_4_14_7_13_18.out
                · go_simp
                  obtain ⟨vd_12_14, hw⟩ : ∃ y_, y_ = vd_12.alloc (.cells #[] 3) := ⟨_, rfl⟩
                  obtain ⟨b14, hb⟩ : ∃ y_, y_ = vd_12.heap.size := ⟨_, rfl⟩
                  rw [← hw, ← hb]
                  have BNvd_12_14 : Hid (Below vd_12.heap.size vd_12 vd_12_14) := by show Below _ _ _; rw [hw]; exact below_alloc _ _
                  have L14_vd_12_14 : Hid (Lies vd_12_14 b14 3 #[]) := by show Lies _ _ _ _; rw [hw, hb]; exact Lies.new _ _ _
                  have BE14 : Hid (w1.heap.size ≤ b14) := by show _ ≤ _; rw [hb]; exact HB_vd_12.out.size
                  clear hw hb
                  have HB_vd_12_14 := hid (dt16 HB_vd_12.out BNvd_12_14.out)
                  have L12_vd_12_14 := hid (L12_vd_12.out.later BNvd_12_14.out)
                  refine hK.out _ _ ?_ (fun hH2 => ?_)
                  · exact ⟨(X1.out.later HB_vd_12_14.out).c2.1, (X1.out.later HB_vd_12_14.out).c2.2, (HB_vd_12_14.out.cell (p := ⟨bt, ot, none⟩) HBT.out).trans HX.out⟩
                  clear hK K
                  try simp only [Act.put, List.setIfInBounds_toArray, List.set_cons_zero, List.set_cons_succ]
                  refine wpAnyH_ready (rs := [4]) (by kernel_rfl) (by simp) ?_
                  refine AllReadyH.cons (i := 4) (o := { dst := some 52, op := Go.Op.buildSlice 22 0 #[], type := 22, pos := "ref.go:39", after := #[], guard := none }) rfl (fun K hK => ?_) AllReadyH.nil
                  go_simp
                  obtain ⟨vd_12_14_4, hw⟩ : ∃ y_, y_ = vd_12_14.alloc (.cells #[] 3) := ⟨_, rfl⟩
                  obtain ⟨b4, hb⟩ : ∃ y_, y_ = vd_12_14.heap.size := ⟨_, rfl⟩
                  rw [← hw, ← hb]
                  have BNvd_12_14_4 : Hid (Below vd_12_14.heap.size vd_12_14 vd_12_14_4) := by show Below _ _ _; rw [hw]; exact below_alloc _ _
                  have L4_vd_12_14_4 : Hid (Lies vd_12_14_4 b4 3 #[]) := by show Lies _ _ _ _; rw [hw, hb]; exact Lies.new _ _ _
                  have NE14_4 : Hid (b14 ≠ b4) := by show _ ≠ _; rw [hb]; exact Nat.ne_of_lt L14_vd_12_14.out.lt
                  have BE4 : Hid (w1.heap.size ≤ b4) := by show _ ≤ _; rw [hb]; exact HB_vd_12_14.out.size
                  clear hw hb
                  have HB_vd_12_14_4 := hid (dt16 HB_vd_12_14.out BNvd_12_14_4.out)
                  have L12_vd_12_14_4 := hid (L12_vd_12_14.out.later BNvd_12_14_4.out)
                  have L14_vd_12_14_4 := hid (L14_vd_12_14.out.later BNvd_12_14_4.out)
                  refine hK.out _ _ ?_ (fun hH3 => ?_)
                  · exact ⟨(X1.out.later HB_vd_12_14_4.out).c2.1, (X1.out.later HB_vd_12_14_4.out).c2.2, (HB_vd_12_14_4.out.cell (p := ⟨bt, ot, none⟩) HBT.out).trans HX.out⟩
                  clear hK K
                  try simp only [Act.put, List.setIfInBounds_toArray, List.set_cons_zero, List.set_cons_succ]
                  refine wpAnyH_ready (rs := [7]) (by kernel_rfl) (by simp) ?_
                  refine AllReadyH.cons (i := 7) (o := { dst := some 55, op := Go.Op.call { callee := Go.Callee.builtin Go.Builtin.append, args := #[Go.Operand.tmp 52, Go.Operand.tmp 54], argTypes := #[22, 22] }, type := 22, pos := "ref.go:39", after := #[{ on := 4, ground := Go.Ground.data }, { on := 6, ground := Go.Ground.data }], guard := none }) rfl (fun K hK => ?_) AllReadyH.nil
                  obtain ⟨g7, c7, vd_12_14_4_7, hr, hb, hg, ho⟩ := app_any16 vd_12_14_4 b4 L4_vd_12_14_4.out t.log A c (RA1.out.below HB_vd_12_14_4.out) NA.out (by have := HLN.out; omega)
                  have BNvd_12_14_4_7 := hid hb
                  have HR7 := hid hr
                  have R7_vd_12_14_4_7 : Hid (vd_12_14_4_7.ownsRow g7 3 1 (.slice (some ⟨g7, 0, none⟩) t.log.length c7) t.log.length (t.log.map (Value.int .i64))) := ho
                  have GE7 : Hid (w1.heap.size ≤ g7) := by
                    show _ ≤ _
                    rcases hg with h | h
                    · rw [h]; exact BE4.out
                    · exact Nat.le_trans HB_vd_12_14_4.out.size h
                  have NG7_14 : Hid (g7 ≠ b14) := by
                    show _ ≠ _
                    rcases hg with h | h
                    · rw [h]; exact (Ne.symm NE14_4.out)
                    · have := L14_vd_12_14_4.out.lt; omega
                  clear hr hb hg ho
                  have HB_vd_12_14_4_7 := hid (dt16 HB_vd_12_14_4.out BNvd_12_14_4_7.out)
                  have L12_vd_12_14_4_7 := hid (L12_vd_12_14_4.out.later BNvd_12_14_4_7.out)
                  have L14_vd_12_14_4_7 := hid (L14_vd_12_14_4.out.later BNvd_12_14_4_7.out)
                  have L4_vd_12_14_4_7 := hid (L4_vd_12_14_4.out.later BNvd_12_14_4_7.out)
                  rw [if_pos (by rfl)]
                  refine wp_append_run16 (.tmp 52) (.tmp 54) 22 rfl _ _ HR7.out ?_
                  refine hK.out _ _ ?_ (fun hH4 => ?_)
                  · exact ⟨(X1.out.later HB_vd_12_14_4_7.out).c2.1, (X1.out.later HB_vd_12_14_4_7.out).c2.2, (HB_vd_12_14_4_7.out.cell (p := ⟨bt, ot, none⟩) HBT.out).trans HX.out⟩
                  clear hK K
                  try simp only [Act.put, List.setIfInBounds_toArray, List.set_cons_zero, List.set_cons_succ]
                  refine wpAnyH_ready (rs := [13]) (by kernel_rfl) (by simp) ?_
                  refine AllReadyH.cons (i := 13) (o := { dst := some 61, op := Go.Op.call { callee := Go.Callee.builtin Go.Builtin.append, args := #[Go.Operand.tmp 55, Go.Operand.tmp 60], argTypes := #[22, 22] }, type := 22, pos := "ref.go:39", after := #[{ on := 7, ground := Go.Ground.data }, { on := 12, ground := Go.Ground.data }, { on := 7, ground := Go.Ground.chain }], guard := none }) rfl (fun K hK => ?_) AllReadyH.nil
                  obtain ⟨v13, vd_12_14_4_7_13, hr, ho, hg⟩ := run_app_ints16 vd_12_14_4_7 w1.heap.size _ _ t.log (own_base16 R7_vd_12_14_4_7.out GE7.out) (some ⟨b12, 0, none⟩) 1 [x] (ints_lies16 L12_vd_12_14_4_7.out) (fun h => by cases h) (by have := HLN.out; simp; omega) HB_vd_12_14_4_7.out.size
                  obtain ⟨A13, c13, rfl⟩ := own_form ho
                  have HR13 := hid hr
                  have R13_vd_12_14_4_7_13 := hid ho
                  have HB_vd_12_14_4_7_13 : Hid (Below w1.heap.size w1 vd_12_14_4_7_13) := HB_vd_12_14_4_7.out.grown hg HB_vd_12_14_4_7.out.size (fun k hk => ((own_base16 R7_vd_12_14_4_7.out GE7.out).lt k hk).1)
                  have L14_vd_12_14_4_7_13 := hid (lies_grown16 hg L14_vd_12_14_4_7.out (fun h => NG7_14.out (Option.some.inj h)))
                  clear hr ho hg
                  rw [if_pos (by rfl)]
                  refine wp_append_run16 (.tmp 55) (.tmp 60) 22 rfl _ _ HR13.out ?_
                  refine hK.out _ _ ?_ (fun hH5 => ?_)
                  · exact ⟨(X1.out.later HB_vd_12_14_4_7_13.out).c2.1, (X1.out.later HB_vd_12_14_4_7_13.out).c2.2, (HB_vd_12_14_4_7_13.out.cell (p := ⟨bt, ot, none⟩) HBT.out).trans HX.out⟩
                  clear hK K
                  try simp only [Act.put, List.setIfInBounds_toArray, List.set_cons_zero, List.set_cons_succ]
                  refine wpAnyH_ready (rs := [18]) (by kernel_rfl) (by simp) ?_
                  refine AllReadyH.cons (i := 18) (o := { dst := some 66, op := Go.Op.call { callee := Go.Callee.builtin Go.Builtin.append, args := #[Go.Operand.tmp 62, Go.Operand.tmp 65], argTypes := #[22, 22] }, type := 22, pos := "ref.go:39", after := #[{ on := 14, ground := Go.Ground.data }, { on := 17, ground := Go.Ground.data }, { on := 13, ground := Go.Ground.chain }], guard := none }) rfl (fun K hK => ?_) AllReadyH.nil
                  obtain ⟨g18, c18, vd_12_14_4_7_13_18, hr, hb, hg, ho⟩ := app_any16 vd_12_14_4_7_13 b14 L14_vd_12_14_4_7_13.out xs (if d = 1 then some ⟨bt, ot, none⟩ else some ⟨bt, ot + 1, none⟩ : Option Addr) (d - 1) (RQ1.out.below HB_vd_12_14_4_7_13.out) NQ.out (by have := HLN.out; have := HXS.out; omega)
                  have BNvd_12_14_4_7_13_18 := hid hb
                  have HR18 := hid hr
                  have R18_vd_12_14_4_7_13_18 : Hid (vd_12_14_4_7_13_18.ownsRow g18 3 1 (.slice (some ⟨g18, 0, none⟩) xs.length c18) xs.length (xs.map (Value.int .i64))) := ho
                  have GE18 : Hid (w1.heap.size ≤ g18) := by
                    show _ ≤ _
                    rcases hg with h | h
                    · rw [h]; exact BE14.out
                    · exact Nat.le_trans HB_vd_12_14_4_7_13.out.size h
                  clear hr hb hg ho
                  have HB_vd_12_14_4_7_13_18 := hid (dt16 HB_vd_12_14_4_7_13.out BNvd_12_14_4_7_13_18.out)
                  have L14_vd_12_14_4_7_13_18 := hid (L14_vd_12_14_4_7_13.out.later BNvd_12_14_4_7_13_18.out)
                  have R13_vd_12_14_4_7_13_18 := hid (own_later R13_vd_12_14_4_7_13.out BNvd_12_14_4_7_13_18.out)
                  rw [if_pos (by rfl)]
                  refine wp_append_run16 (.tmp 62) (.tmp 65) 22 rfl _ _ HR18.out ?_
                  refine hK.out _ _ ?_ (fun hH6 => ?_)
                  · exact ⟨(X1.out.later HB_vd_12_14_4_7_13_18.out).c2.1, (X1.out.later HB_vd_12_14_4_7_13_18.out).c2.2, (HB_vd_12_14_4_7_13_18.out.cell (p := ⟨bt, ot, none⟩) HBT.out).trans HX.out⟩
                  clear hK K
                  try simp only [Act.put, List.setIfInBounds_toArray, List.set_cons_zero, List.set_cons_succ]
                  refine wpAnyH_take (i := 19) (oi := { dst := some 67, op := Go.Op.build 24 #[(0, Go.Operand.tmp 61), (1, Go.Operand.tmp 66)], type := 24, pos := "ref.go:39", after := #[{ on := 13, ground := Go.Ground.data }, { on := 18, ground := Go.Ground.data }, { on := 20, ground := Go.Ground.gcOnly Go.Departure.lateStores }], guard := none }) (v := ?vv55) rfl (by kernel_rfl) (by kernel_rfl) (by kernel_rfl) (fun _ _ _ h => h) (Or.inl ⟨by rfl, ?hy55⟩) (by assumption) ?rr55
                  case hy55 => intro w hSw; (try dsimp only at hSw); go_simp; all_goals with_reducible rfl
                  try simp only [Act.put, List.setIfInBounds_toArray, List.set_cons_zero, List.set_cons_succ]
                  refine wpAnyH_take (i := 20) (oi := { dst := some 4, op := Go.Op.assign (Go.Operand.tmp 51), type := 3, pos := "ref.go:39", after := #[{ on := 3, ground := Go.Ground.data }, { on := 18, ground := Go.Ground.chain }, { on := 0, ground := Go.Ground.phase }, { on := 1, ground := Go.Ground.phase }, { on := 2, ground := Go.Ground.phase }, { on := 3, ground := Go.Ground.phase }, { on := 4, ground := Go.Ground.textOnly Go.Departure.lateStores }, { on := 5, ground := Go.Ground.textOnly Go.Departure.lateStores }, { on := 6, ground := Go.Ground.textOnly Go.Departure.lateStores }, { on := 7, ground := Go.Ground.textOnly Go.Departure.lateStoresUnsure }, { on := 8, ground := Go.Ground.textOnly Go.Departure.lateStores }, { on := 9, ground := Go.Ground.textOnly Go.Departure.lateStores }, { on := 10, ground := Go.Ground.textOnly Go.Departure.lateStores }, { on := 11, ground := Go.Ground.textOnly Go.Departure.lateStores }, { on := 12, ground := Go.Ground.textOnly Go.Departure.lateStores }, { on := 13, ground := Go.Ground.textOnly Go.Departure.lateStoresUnsure }, { on := 14, ground := Go.Ground.textOnly Go.Departure.lateStores }, { on := 15, ground := Go.Ground.textOnly Go.Departure.lateStores }, { on := 16, ground := Go.Ground.textOnly Go.Departure.lateStores }, { on := 17, ground := Go.Ground.textOnly Go.Departure.lateStoresUnsure }, { on := 18, ground := Go.Ground.textOnly Go.Departure.lateStoresUnsure }, { on := 19, ground := Go.Ground.textOnly Go.Departure.lateStores }], guard := none }) (v := ?vv56) rfl (by kernel_rfl) (by kernel_rfl) (by kernel_rfl) (fun _ _ _ h => h) (Or.inl ⟨by rfl, ?hy56⟩) (by assumption) ?rr56
                  case hy56 => intro w hSw; (try dsimp only at hSw); go_simp; all_goals with_reducible rfl
                  try simp only [Act.put, List.setIfInBounds_toArray, List.set_cons_zero, List.set_cons_succ]
                  refine wpAnyH_ready (rs := [21]) (by kernel_rfl) (by simp) ?_
                  refine AllReadyH.cons (i := 21) (o := { dst := none, op := Go.Op.store 24 (Go.Operand.tmp 5) (Go.Operand.tmp 67), type := 0, pos := "ref.go:39", after := #[{ on := 19, ground := Go.Ground.data }, { on := 20, ground := Go.Ground.chain }, { on := 0, ground := Go.Ground.phase }, { on := 1, ground := Go.Ground.phase }, { on := 2, ground := Go.Ground.phase }, { on := 3, ground := Go.Ground.phase }, { on := 4, ground := Go.Ground.phase }, { on := 5, ground := Go.Ground.phase }, { on := 6, ground := Go.Ground.phase }, { on := 7, ground := Go.Ground.phase }, { on := 8, ground := Go.Ground.phase }, { on := 9, ground := Go.Ground.phase }, { on := 10, ground := Go.Ground.phase }, { on := 11, ground := Go.Ground.phase }, { on := 12, ground := Go.Ground.phase }, { on := 13, ground := Go.Ground.phase }, { on := 14, ground := Go.Ground.phase }, { on := 15, ground := Go.Ground.phase }, { on := 16, ground := Go.Ground.phase }, { on := 17, ground := Go.Ground.phase }, { on := 18, ground := Go.Ground.phase }, { on := 19, ground := Go.Ground.phase }, { on := 20, ground := Go.Ground.phase }], guard := none }) rfl (fun K hK => ?_) AllReadyH.nil
                  obtain ⟨z0, z1⟩ := (K1.out.later HB_vd_12_14_4_7_13_18.out).c2
                  obtain ⟨zf0, zf1⟩ := (K1.out.later HB_vd_12_14_4_7_13_18.out).f2
                  go_simp
                  refine hK.out _ _ ?_ (fun hH7 => ?_)
                  · exact ⟨((((X1.out.later HB_vd_12_14_4_7_13_18.out).far (p := ⟨w.heap.size + 1, 0, none⟩) (by simp) _).far (p := ⟨w.heap.size + 1, 1, none⟩) (by simp) _)).c2.1, ((((X1.out.later HB_vd_12_14_4_7_13_18.out).far (p := ⟨w.heap.size + 1, 0, none⟩) (by simp) _).far (p := ⟨w.heap.size + 1, 1, none⟩) (by simp) _)).c2.2, far_cell16 NBT.out (far_cell16 NBT.out ((HB_vd_12_14_4_7_13_18.out.cell (p := ⟨bt, ot, none⟩) HBT.out).trans HX.out))⟩
                  clear hK K
                  try simp only [Act.put, List.setIfInBounds_toArray, List.set_cons_zero, List.set_cons_succ]
                  clear z0 z1 zf0 zf1
                  refine wpAnyH_take (i := 22) (oi := { dst := some 6, op := Go.Op.assign (Go.Operand.const (Go.Value.int Go.IntKind.i64 0)), type := 26, pos := "ref.go:39", after := #[{ on := 21, ground := Go.Ground.chain }, { on := 0, ground := Go.Ground.phase }, { on := 1, ground := Go.Ground.phase }, { on := 2, ground := Go.Ground.phase }, { on := 3, ground := Go.Ground.phase }, { on := 4, ground := Go.Ground.phase }, { on := 5, ground := Go.Ground.phase }, { on := 6, ground := Go.Ground.phase }, { on := 7, ground := Go.Ground.phase }, { on := 8, ground := Go.Ground.phase }, { on := 9, ground := Go.Ground.phase }, { on := 10, ground := Go.Ground.phase }, { on := 11, ground := Go.Ground.phase }, { on := 12, ground := Go.Ground.phase }, { on := 13, ground := Go.Ground.phase }, { on := 14, ground := Go.Ground.phase }, { on := 15, ground := Go.Ground.phase }, { on := 16, ground := Go.Ground.phase }, { on := 17, ground := Go.Ground.phase }, { on := 18, ground := Go.Ground.phase }, { on := 19, ground := Go.Ground.phase }, { on := 20, ground := Go.Ground.phase }, { on := 21, ground := Go.Ground.phase }], guard := none }) (v := ?vv57) rfl (by kernel_rfl) (by kernel_rfl) (by kernel_rfl) (fun _ _ _ h => h) (Or.inl ⟨by rfl, ?hy57⟩) (by assumption) ?rr57
                  case hy57 => intro w hSw; (try dsimp only at hSw); go_simp; all_goals with_reducible rfl
                  try simp only [Act.put, List.setIfInBounds_toArray, List.set_cons_zero, List.set_cons_succ]
                  refine wpAnyH_done (by kernel_rfl) ?_ _
                  have KF := ((K1.out.later HB_vd_12_14_4_7_13_18.out).set_ 0 (.slice A13 (t.log.length + 1) c13)).set_ 1 (.slice (some ⟨g18, 0, none⟩) xs.length c18)
                  have h1 := ((then_w HB1.out HB_vd_12_14_4_7_13_18.out).setCell (p := ⟨w.heap.size + 1, 0, none⟩) (by simp) (.slice A13 (t.log.length + 1) c13)).setCell (p := ⟨w.heap.size + 1, 1, none⟩) (by simp) (.slice (some ⟨g18, 0, none⟩) xs.length c18)
                  have hlt : w.heap.size + 1 < w1.heap.size := K1.out.lt
                  have r0 := KF.cell 0
                  have r1 := KF.cell 1
                  simp only [List.setIfInBounds_toArray, List.set_cons_zero, List.set_cons_succ, List.getElem?_toArray, List.getElem?_cons_zero, List.getElem?_cons_succ] at r0 r1
                  go_wp2_with fail
                  all_goals
                    refine bodyPost_ret (v := .tuple #[.int .i64 x, .agg #[.slice A13 (t.log.length + 1) c13, .slice (some ⟨g18, 0, none⟩) xs.length c18], .int .i64 0]) (by simp [results, Try.results9, go_sem, r0, r1]) rfl ?_
                    refine ⟨A13, c13, some ⟨g18, 0, none⟩, c18, ?_, ?_, ?_, own_nil16 R13_vd_12_14_4_7_13_18.out, (fun e => by cases e), ?_, ?_, h1⟩
                    · rw [EV.out.1, EV.out.2, drE_yes E.out]; show _ = Ending.returned (.tuple #[.int .i64 x, .agg #[.slice A13 (t.log ++ [x]).length c13, .slice (some ⟨g18, 0, none⟩) xs.length c18], .int .i64 0]); rw [List.length_append]; rfl
                    · rw [EV.out.1]; exact own_ints (xs := t.log ++ [x]) (c := c13) (by rw [List.length_append]; exact own_far16 (own_far16 R13_vd_12_14_4_7_13_18.out hlt 0 _) hlt 1 _)
                    · rw [EV.out.1]; exact own_ints (xs := xs) (c := c18) (own_far16 (own_far16 R18_vd_12_14_4_7_13_18.out (Nat.lt_of_lt_of_le hlt GE18.out) 0 _) (Nat.lt_of_lt_of_le hlt GE18.out) 1 _)
                    · rw [EV.out.1]; show (t.log ++ [x]).length ≤ c13; rw [List.length_append]; exact own_cap R13_vd_12_14_4_7_13_18.out
                    · rw [EV.out.1]; exact own_cap R18_vd_12_14_4_7_13_18.out
              · go_simp
                obtain ⟨vd_14, hw⟩ : ∃ y_, y_ = vd.alloc (.cells #[] 3) := ⟨_, rfl⟩
                obtain ⟨b14, hb⟩ : ∃ y_, y_ = vd.heap.size := ⟨_, rfl⟩
                rw [← hw, ← hb]
                have BNvd_14 : Hid (Below vd.heap.size vd vd_14) := by show Below _ _ _; rw [hw]; exact below_alloc _ _
                have L14_vd_14 : Hid (Lies vd_14 b14 3 #[]) := by show Lies _ _ _ _; rw [hw, hb]; exact Lies.new _ _ _
                have BE14 : Hid (w1.heap.size ≤ b14) := by show _ ≤ _; rw [hb]; exact HB_vd.out.size
                clear hw hb
                have HB_vd_14 := hid (dt16 HB_vd.out BNvd_14.out)
                refine hK.out _ _ ?_ (fun hH1 => ?_)
                · exact ⟨(X1.out.later HB_vd_14.out).c2.1, (X1.out.later HB_vd_14.out).c2.2, (HB_vd_14.out.cell (p := ⟨bt, ot, none⟩) HBT.out).trans HX.out⟩
                clear hK K
                try simp only [Act.put, List.setIfInBounds_toArray, List.set_cons_zero, List.set_cons_succ]
                refine wpAnyH_ready (rs := [4, 12]) (by kernel_rfl) (by simp) ?_
                refine AllReadyH.cons (i := 4) (o := { dst := some 52, op := Go.Op.buildSlice 22 0 #[], type := 22, pos := "ref.go:39", after := #[], guard := none }) rfl (fun K hK => ?_) (AllReadyH.cons (i := 12) (o := { dst := some 60, op := Go.Op.buildSlice 22 1 #[(0, Go.Operand.tmp 59)], type := 22, pos := "ref.go:39", after := #[{ on := 11, ground := Go.Ground.data }], guard := none }) rfl (fun K hK => ?_) AllReadyH.nil)
                · go_simp
                  obtain ⟨vd_14_4, hw⟩ : ∃ y_, y_ = vd_14.alloc (.cells #[] 3) := ⟨_, rfl⟩
                  obtain ⟨b4, hb⟩ : ∃ y_, y_ = vd_14.heap.size := ⟨_, rfl⟩
                  rw [← hw, ← hb]
                  have BNvd_14_4 : Hid (Below vd_14.heap.size vd_14 vd_14_4) := by show Below _ _ _; rw [hw]; exact below_alloc _ _
                  have L4_vd_14_4 : Hid (Lies vd_14_4 b4 3 #[]) := by show Lies _ _ _ _; rw [hw, hb]; exact Lies.new _ _ _
                  have NE14_4 : Hid (b14 ≠ b4) := by show _ ≠ _; rw [hb]; exact Nat.ne_of_lt L14_vd_14.out.lt
                  have BE4 : Hid (w1.heap.size ≤ b4) := by show _ ≤ _; rw [hb]; exact HB_vd_14.out.size
                  clear hw hb
                  have HB_vd_14_4 := hid (dt16 HB_vd_14.out BNvd_14_4.out)
                  have L14_vd_14_4 := hid (L14_vd_14.out.later BNvd_14_4.out)
                  refine hK.out _ _ ?_ (fun hH2 => ?_)
                  · exact ⟨(X1.out.later HB_vd_14_4.out).c2.1, (X1.out.later HB_vd_14_4.out).c2.2, (HB_vd_14_4.out.cell (p := ⟨bt, ot, none⟩) HBT.out).trans HX.out⟩
                  clear hK K
                  try simp only [Act.put, List.setIfInBounds_toArray, List.set_cons_zero, List.set_cons_succ]
                  refine wpAnyH_ready (rs := [7, 12]) (by kernel_rfl) (by simp) ?_
                  refine AllReadyH.cons (i := 7) (o := { dst := some 55, op := Go.Op.call { callee := Go.Callee.builtin Go.Builtin.append, args := #[Go.Operand.tmp 52, Go.Operand.tmp 54], argTypes := #[22, 22] }, type := 22, pos := "ref.go:39", after := #[{ on := 4, ground := Go.Ground.data }, { on := 6, ground := Go.Ground.data }], guard := none }) rfl (fun K hK => ?_) (AllReadyH.cons (i := 12) (o := { dst := some 60, op := Go.Op.buildSlice 22 1 #[(0, Go.Operand.tmp 59)], type := 22, pos := "ref.go:39", after := #[{ on := 11, ground := Go.Ground.data }], guard := none }) rfl (fun K hK => ?_) AllReadyH.nil)
                  · obtain ⟨g7, c7, vd_14_4_7, hr, hb, hg, ho⟩ := app_any16 vd_14_4 b4 L4_vd_14_4.out t.log A c (RA1.out.below HB_vd_14_4.out) NA.out (by have := HLN.out; omega)
                    have BNvd_14_4_7 := hid hb
                    have HR7 := hid hr
                    have R7_vd_14_4_7 : Hid (vd_14_4_7.ownsRow g7 3 1 (.slice (some ⟨g7, 0, none⟩) t.log.length c7) t.log.length (t.log.map (Value.int .i64))) := ho
                    have GE7 : Hid (w1.heap.size ≤ g7) := by
                      show _ ≤ _
                      rcases hg with h | h
                      · rw [h]; exact BE4.out
                      · exact Nat.le_trans HB_vd_14_4.out.size h
                    have NG7_14 : Hid (g7 ≠ b14) := by
                      show _ ≠ _
                      rcases hg with h | h
                      · rw [h]; exact (Ne.symm NE14_4.out)
                      · have := L14_vd_14_4.out.lt; omega
                    clear hr hb hg ho
                    have HB_vd_14_4_7 := hid (dt16 HB_vd_14_4.out BNvd_14_4_7.out)
                    have L14_vd_14_4_7 := hid (L14_vd_14_4.out.later BNvd_14_4_7.out)
                    have L4_vd_14_4_7 := hid (L4_vd_14_4.out.later BNvd_14_4_7.out)
                    rw [if_pos (by rfl)]
                    refine wp_append_run16 (.tmp 52) (.tmp 54) 22 rfl _ _ HR7.out ?_
                    refine hK.out _ _ ?_ (fun hH3 => ?_)
                    · exact ⟨(X1.out.later HB_vd_14_4_7.out).c2.1, (X1.out.later HB_vd_14_4_7.out).c2.2, (HB_vd_14_4_7.out.cell (p := ⟨bt, ot, none⟩) HBT.out).trans HX.out⟩
                    clear hK K
                    try simp only [Act.put, List.setIfInBounds_toArray, List.set_cons_zero, List.set_cons_succ]
                    refine wpAnyH_ready (rs := [12]) (by kernel_rfl) (by simp) ?_
                    refine AllReadyH.cons (i := 12) (o := { dst := some 60, op := Go.Op.buildSlice 22 1 #[(0, Go.Operand.tmp 59)], type := 22, pos := "ref.go:39", after := #[{ on := 11, ground := Go.Ground.data }], guard := none }) rfl (fun K hK => ?_) AllReadyH.nil
                    go_simp
                    obtain ⟨vd_14_4_7_12, hw⟩ : ∃ y_, y_ = vd_14_4_7.alloc (.cells #[.int .i64 x] 3) := ⟨_, rfl⟩
                    obtain ⟨b12, hb⟩ : ∃ y_, y_ = vd_14_4_7.heap.size := ⟨_, rfl⟩
                    rw [← hw, ← hb]
                    have BNvd_14_4_7_12 : Hid (Below vd_14_4_7.heap.size vd_14_4_7 vd_14_4_7_12) := by show Below _ _ _; rw [hw]; exact below_alloc _ _
                    have L12_vd_14_4_7_12 : Hid (Lies vd_14_4_7_12 b12 3 #[.int .i64 x]) := by show Lies _ _ _ _; rw [hw, hb]; exact Lies.new _ _ _
                    have NE14_12 : Hid (b14 ≠ b12) := by show _ ≠ _; rw [hb]; exact Nat.ne_of_lt L14_vd_14_4_7.out.lt
                    have NE4_12 : Hid (b4 ≠ b12) := by show _ ≠ _; rw [hb]; exact Nat.ne_of_lt L4_vd_14_4_7.out.lt
                    have NG7_12 : Hid (g7 ≠ b12) := by show _ ≠ _; rw [hb]; exact Nat.ne_of_lt (R7_vd_14_4_7.out.lt g7 rfl).2
                    have BE12 : Hid (w1.heap.size ≤ b12) := by show _ ≤ _; rw [hb]; exact HB_vd_14_4_7.out.size
                    clear hw hb
                    have HB_vd_14_4_7_12 := hid (dt16 HB_vd_14_4_7.out BNvd_14_4_7_12.out)
                    have L14_vd_14_4_7_12 := hid (L14_vd_14_4_7.out.later BNvd_14_4_7_12.out)
                    have L4_vd_14_4_7_12 := hid (L4_vd_14_4_7.out.later BNvd_14_4_7_12.out)
                    have R7_vd_14_4_7_12 := hid (own_later R7_vd_14_4_7.out BNvd_14_4_7_12.out)
                    refine hK.out _ _ ?_ (fun hH4 => ?_)
                    · exact ⟨(X1.out.later HB_vd_14_4_7_12.out).c2.1, (X1.out.later HB_vd_14_4_7_12.out).c2.2, (HB_vd_14_4_7_12.out.cell (p := ⟨bt, ot, none⟩) HBT.out).trans HX.out⟩
                    clear hK K
                    try simp only [Act.put, List.setIfInBounds_toArray, List.set_cons_zero, List.set_cons_succ]
                    refine wpAnyH_ready (rs := [13]) (by kernel_rfl) (by simp) ?_
                    refine AllReadyH.cons (i := 13) (o := { dst := some 61, op := Go.Op.call { callee := Go.Callee.builtin Go.Builtin.append, args := #[Go.Operand.tmp 55, Go.Operand.tmp 60], argTypes := #[22, 22] }, type := 22, pos := "ref.go:39", after := #[{ on := 7, ground := Go.Ground.data }, { on := 12, ground := Go.Ground.data }, { on := 7, ground := Go.Ground.chain }], guard := none }) rfl (fun K hK => ?_) AllReadyH.nil
                    obtain ⟨v13, vd_14_4_7_12_13, hr, ho, hg⟩ := run_app_ints16 vd_14_4_7_12 w1.heap.size _ _ t.log (own_base16 R7_vd_14_4_7_12.out GE7.out) (some ⟨b12, 0, none⟩) 1 [x] (ints_lies16 L12_vd_14_4_7_12.out) (fun h => by cases h) (by have := HLN.out; simp; omega) HB_vd_14_4_7_12.out.size
                    obtain ⟨A13, c13, rfl⟩ := own_form ho
                    have HR13 := hid hr
                    have R13_vd_14_4_7_12_13 := hid ho
                    have HB_vd_14_4_7_12_13 : Hid (Below w1.heap.size w1 vd_14_4_7_12_13) := HB_vd_14_4_7_12.out.grown hg HB_vd_14_4_7_12.out.size (fun k hk => ((own_base16 R7_vd_14_4_7_12.out GE7.out).lt k hk).1)
                    have L14_vd_14_4_7_12_13 := hid (lies_grown16 hg L14_vd_14_4_7_12.out (fun h => NG7_14.out (Option.some.inj h)))
                    clear hr ho hg
                    rw [if_pos (by rfl)]
                    refine wp_append_run16 (.tmp 55) (.tmp 60) 22 rfl _ _ HR13.out ?_
                    refine hK.out _ _ ?_ (fun hH5 => ?_)
                    · exact ⟨(X1.out.later HB_vd_14_4_7_12_13.out).c2.1, (X1.out.later HB_vd_14_4_7_12_13.out).c2.2, (HB_vd_14_4_7_12_13.out.cell (p := ⟨bt, ot, none⟩) HBT.out).trans HX.out⟩
                    clear hK K
                    try simp only [Act.put, List.setIfInBounds_toArray, List.set_cons_zero, List.set_cons_succ]
                    refine wpAnyH_ready (rs := [18]) (by kernel_rfl) (by simp) ?_
                    refine AllReadyH.cons (i := 18) (o := { dst := some 66, op := Go.Op.call { callee := Go.Callee.builtin Go.Builtin.append, args := #[Go.Operand.tmp 62, Go.Operand.tmp 65], argTypes := #[22, 22] }, type := 22, pos := "ref.go:39", after := #[{ on := 14, ground := Go.Ground.data }, { on := 17, ground := Go.Ground.data }, { on := 13, ground := Go.Ground.chain }], guard := none }) rfl (fun K hK => ?_) AllReadyH.nil
                    obtain ⟨g18, c18, vd_14_4_7_12_13_18, hr, hb, hg, ho⟩ := app_any16 vd_14_4_7_12_13 b14 L14_vd_14_4_7_12_13.out xs (if d = 1 then some ⟨bt, ot, none⟩ else some ⟨bt, ot + 1, none⟩ : Option Addr) (d - 1) (RQ1.out.below HB_vd_14_4_7_12_13.out) NQ.out (by have := HLN.out; have := HXS.out; omega)
                    have BNvd_14_4_7_12_13_18 := hid hb
                    have HR18 := hid hr
                    have R18_vd_14_4_7_12_13_18 : Hid (vd_14_4_7_12_13_18.ownsRow g18 3 1 (.slice (some ⟨g18, 0, none⟩) xs.length c18) xs.length (xs.map (Value.int .i64))) := ho
                    have GE18 : Hid (w1.heap.size ≤ g18) := by
                      show _ ≤ _
                      rcases hg with h | h
                      · rw [h]; exact BE14.out
                      · exact Nat.le_trans HB_vd_14_4_7_12_13.out.size h
                    clear hr hb hg ho
                    have HB_vd_14_4_7_12_13_18 := hid (dt16 HB_vd_14_4_7_12_13.out BNvd_14_4_7_12_13_18.out)
                    have L14_vd_14_4_7_12_13_18 := hid (L14_vd_14_4_7_12_13.out.later BNvd_14_4_7_12_13_18.out)
                    have R13_vd_14_4_7_12_13_18 := hid (own_later R13_vd_14_4_7_12_13.out BNvd_14_4_7_12_13_18.out)
                    rw [if_pos (by rfl)]
                    refine wp_append_run16 (.tmp 62) (.tmp 65) 22 rfl _ _ HR18.out ?_
                    refine hK.out _ _ ?_ (fun hH6 => ?_)
                    · exact ⟨(X1.out.later HB_vd_14_4_7_12_13_18.out).c2.1, (X1.out.later HB_vd_14_4_7_12_13_18.out).c2.2, (HB_vd_14_4_7_12_13_18.out.cell (p := ⟨bt, ot, none⟩) HBT.out).trans HX.out⟩
                    clear hK K
                    try simp only [Act.put, List.setIfInBounds_toArray, List.set_cons_zero, List.set_cons_succ]
                    refine wpAnyH_take (i := 19) (oi := { dst := some 67, op := Go.Op.build 24 #[(0, Go.Operand.tmp 61), (1, Go.Operand.tmp 66)], type := 24, pos := "ref.go:39", after := #[{ on := 13, ground := Go.Ground.data }, { on := 18, ground := Go.Ground.data }, { on := 20, ground := Go.Ground.gcOnly Go.Departure.lateStores }], guard := none }) (v := ?vv58) rfl (by kernel_rfl) (by kernel_rfl) (by kernel_rfl) (fun _ _ _ h => h) (Or.inl ⟨by rfl, ?hy58⟩) (by assumption) ?rr58
                    case hy58 => intro w hSw; (try dsimp only at hSw); go_simp; all_goals with_reducible rfl
                    try simp only [Act.put, List.setIfInBounds_toArray, List.set_cons_zero, List.set_cons_succ]
                    refine wpAnyH_take (i := 20) (oi := { dst := some 4, op := Go.Op.assign (Go.Operand.tmp 51), type := 3, pos := "ref.go:39", after := #[{ on := 3, ground := Go.Ground.data }, { on := 18, ground := Go.Ground.chain }, { on := 0, ground := Go.Ground.phase }, { on := 1, ground := Go.Ground.phase }, { on := 2, ground := Go.Ground.phase }, { on := 3, ground := Go.Ground.phase }, { on := 4, ground := Go.Ground.textOnly Go.Departure.lateStores }, { on := 5, ground := Go.Ground.textOnly Go.Departure.lateStores }, { on := 6, ground := Go.Ground.textOnly Go.Departure.lateStores }, { on := 7, ground := Go.Ground.textOnly Go.Departure.lateStoresUnsure }, { on := 8, ground := Go.Ground.textOnly Go.Departure.lateStores }, { on := 9, ground := Go.Ground.textOnly Go.Departure.lateStores }, { on := 10, ground := Go.Ground.textOnly Go.Departure.lateStores }, { on := 11, ground := Go.Ground.textOnly Go.Departure.lateStores }, { on := 12, ground := Go.Ground.textOnly Go.Departure.lateStores }, { on := 13, ground := Go.Ground.textOnly Go.Departure.lateStoresUnsure }, { on := 14, ground := Go.Ground.textOnly Go.Departure.lateStores }, { on := 15, ground := Go.Ground.textOnly Go.Departure.lateStores }, { on := 16, ground := Go.Ground.textOnly Go.Departure.lateStores }, { on := 17, ground := Go.Ground.textOnly Go.Departure.lateStoresUnsure }, { on := 18, ground := Go.Ground.textOnly Go.Departure.lateStoresUnsure }, { on := 19, ground := Go.Ground.textOnly Go.Departure.lateStores }], guard := none }) (v := ?vv59) rfl (by kernel_rfl) (by kernel_rfl) (by kernel_rfl) (fun _ _ _ h => h) (Or.inl ⟨by rfl, ?hy59⟩) (by assumption) ?rr59
                    case hy59 => intro w hSw; (try dsimp only at hSw); go_simp; all_goals with_reducible rfl
                    try simp only [Act.put, List.setIfInBounds_toArray, List.set_cons_zero, List.set_cons_succ]
                    refine wpAnyH_ready (rs := [21]) (by kernel_rfl) (by simp) ?_
                    refine AllReadyH.cons (i := 21) (o := { dst := none, op := Go.Op.store 24 (Go.Operand.tmp 5) (Go.Operand.tmp 67), type := 0, pos := "ref.go:39", after := #[{ on := 19, ground := Go.Ground.data }, { on := 20, ground := Go.Ground.chain }, { on := 0, ground := Go.Ground.phase }, { on := 1, ground := Go.Ground.phase }, { on := 2, ground := Go.Ground.phase }, { on := 3, ground := Go.Ground.phase }, { on := 4, ground := Go.Ground.phase }, { on := 5, ground := Go.Ground.phase }, { on := 6, ground := Go.Ground.phase }, { on := 7, ground := Go.Ground.phase }, { on := 8, ground := Go.Ground.phase }, { on := 9, ground := Go.Ground.phase }, { on := 10, ground := Go.Ground.phase }, { on := 11, ground := Go.Ground.phase }, { on := 12, ground := Go.Ground.phase }, { on := 13, ground := Go.Ground.phase }, { on := 14, ground := Go.Ground.phase }, { on := 15, ground := Go.Ground.phase }, { on := 16, ground := Go.Ground.phase }, { on := 17, ground := Go.Ground.phase }, { on := 18, ground := Go.Ground.phase }, { on := 19, ground := Go.Ground.phase }, { on := 20, ground := Go.Ground.phase }], guard := none }) rfl (fun K hK => ?_) AllReadyH.nil
                    obtain ⟨z0, z1⟩ := (K1.out.later HB_vd_14_4_7_12_13_18.out).c2
                    obtain ⟨zf0, zf1⟩ := (K1.out.later HB_vd_14_4_7_12_13_18.out).f2
                    go_simp
                    refine hK.out _ _ ?_ (fun hH7 => ?_)
                    · exact ⟨((((X1.out.later HB_vd_14_4_7_12_13_18.out).far (p := ⟨w.heap.size + 1, 0, none⟩) (by simp) _).far (p := ⟨w.heap.size + 1, 1, none⟩) (by simp) _)).c2.1, ((((X1.out.later HB_vd_14_4_7_12_13_18.out).far (p := ⟨w.heap.size + 1, 0, none⟩) (by simp) _).far (p := ⟨w.heap.size + 1, 1, none⟩) (by simp) _)).c2.2, far_cell16 NBT.out (far_cell16 NBT.out ((HB_vd_14_4_7_12_13_18.out.cell (p := ⟨bt, ot, none⟩) HBT.out).trans HX.out))⟩
                    clear hK K
                    try simp only [Act.put, List.setIfInBounds_toArray, List.set_cons_zero, List.set_cons_succ]
                    clear z0 z1 zf0 zf1
                    refine wpAnyH_take (i := 22) (oi := { dst := some 6, op := Go.Op.assign (Go.Operand.const (Go.Value.int Go.IntKind.i64 0)), type := 26, pos := "ref.go:39", after := #[{ on := 21, ground := Go.Ground.chain }, { on := 0, ground := Go.Ground.phase }, { on := 1, ground := Go.Ground.phase }, { on := 2, ground := Go.Ground.phase }, { on := 3, ground := Go.Ground.phase }, { on := 4, ground := Go.Ground.phase }, { on := 5, ground := Go.Ground.phase }, { on := 6, ground := Go.Ground.phase }, { on := 7, ground := Go.Ground.phase }, { on := 8, ground := Go.Ground.phase }, { on := 9, ground := Go.Ground.phase }, { on := 10, ground := Go.Ground.phase }, { on := 11, ground := Go.Ground.phase }, { on := 12, ground := Go.Ground.phase }, { on := 13, ground := Go.Ground.phase }, { on := 14, ground := Go.Ground.phase }, { on := 15, ground := Go.Ground.phase }, { on := 16, ground := Go.Ground.phase }, { on := 17, ground := Go.Ground.phase }, { on := 18, ground := Go.Ground.phase }, { on := 19, ground := Go.Ground.phase }, { on := 20, ground := Go.Ground.phase }, { on := 21, ground := Go.Ground.phase }], guard := none }) (v := ?vv60) rfl (by kernel_rfl) (by kernel_rfl) (by kernel_rfl) (fun _ _ _ h => h) (Or.inl ⟨by rfl, ?hy60⟩) (by assumption) ?rr60
                    case hy60 => intro w hSw; (try dsimp only at hSw); go_simp; all_goals with_reducible rfl
                    try simp only [Act.put, List.setIfInBounds_toArray, List.set_cons_zero, List.set_cons_succ]
                    refine wpAnyH_done (by kernel_rfl) ?_ _
                    have KF := ((K1.out.later HB_vd_14_4_7_12_13_18.out).set_ 0 (.slice A13 (t.log.length + 1) c13)).set_ 1 (.slice (some ⟨g18, 0, none⟩) xs.length c18)
                    have h1 := ((then_w HB1.out HB_vd_14_4_7_12_13_18.out).setCell (p := ⟨w.heap.size + 1, 0, none⟩) (by simp) (.slice A13 (t.log.length + 1) c13)).setCell (p := ⟨w.heap.size + 1, 1, none⟩) (by simp) (.slice (some ⟨g18, 0, none⟩) xs.length c18)
                    have hlt : w.heap.size + 1 < w1.heap.size := K1.out.lt
                    have r0 := KF.cell 0
                    have r1 := KF.cell 1
                    simp only [List.setIfInBounds_toArray, List.set_cons_zero, List.set_cons_succ, List.getElem?_toArray, List.getElem?_cons_zero, List.getElem?_cons_succ] at r0 r1
                    go_wp2_with fail
                    all_goals
                      refine bodyPost_ret (v := .tuple #[.int .i64 x, .agg #[.slice A13 (t.log.length + 1) c13, .slice (some ⟨g18, 0, none⟩) xs.length c18], .int .i64 0]) (by simp [results, Try.results9, go_sem, r0, r1]) rfl ?_
                      refine ⟨A13, c13, some ⟨g18, 0, none⟩, c18, ?_, ?_, ?_, own_nil16 R13_vd_14_4_7_12_13_18.out, (fun e => by cases e), ?_, ?_, h1⟩
                      · rw [EV.out.1, EV.out.2, drE_yes E.out]; show _ = Ending.returned (.tuple #[.int .i64 x, .agg #[.slice A13 (t.log ++ [x]).length c13, .slice (some ⟨g18, 0, none⟩) xs.length c18], .int .i64 0]); rw [List.length_append]; rfl
                      · rw [EV.out.1]; exact own_ints (xs := t.log ++ [x]) (c := c13) (by rw [List.length_append]; exact own_far16 (own_far16 R13_vd_14_4_7_12_13_18.out hlt 0 _) hlt 1 _)
                      · rw [EV.out.1]; exact own_ints (xs := xs) (c := c18) (own_far16 (own_far16 R18_vd_14_4_7_12_13_18.out (Nat.lt_of_lt_of_le hlt GE18.out) 0 _) (Nat.lt_of_lt_of_le hlt GE18.out) 1 _)
                      · rw [EV.out.1]; show (t.log ++ [x]).length ≤ c13; rw [List.length_append]; exact own_cap R13_vd_14_4_7_12_13_18.out
                      · rw [EV.out.1]; exact own_cap R18_vd_14_4_7_12_13_18.out
                  · go_simp
                    obtain ⟨vd_14_4_12, hw⟩ : ∃ y_, y_ = vd_14_4.alloc (.cells #[.int .i64 x] 3) := ⟨_, rfl⟩
                    obtain ⟨b12, hb⟩ : ∃ y_, y_ = vd_14_4.heap.size := ⟨_, rfl⟩
                    rw [← hw, ← hb]
                    have BNvd_14_4_12 : Hid (Below vd_14_4.heap.size vd_14_4 vd_14_4_12) := by show Below _ _ _; rw [hw]; exact below_alloc _ _
                    have L12_vd_14_4_12 : Hid (Lies vd_14_4_12 b12 3 #[.int .i64 x]) := by show Lies _ _ _ _; rw [hw, hb]; exact Lies.new _ _ _
                    have NE14_12 : Hid (b14 ≠ b12) := by show _ ≠ _; rw [hb]; exact Nat.ne_of_lt L14_vd_14_4.out.lt
                    have NE4_12 : Hid (b4 ≠ b12) := by show _ ≠ _; rw [hb]; exact Nat.ne_of_lt L4_vd_14_4.out.lt
                    have BE12 : Hid (w1.heap.size ≤ b12) := by show _ ≤ _; rw [hb]; exact HB_vd_14_4.out.size
                    clear hw hb
                    have HB_vd_14_4_12 := hid (dt16 HB_vd_14_4.out BNvd_14_4_12.out)
                    have L14_vd_14_4_12 := hid (L14_vd_14_4.out.later BNvd_14_4_12.out)
                    have L4_vd_14_4_12 := hid (L4_vd_14_4.out.later BNvd_14_4_12.out)
                    refine hK.out _ _ ?_ (fun hH3 => ?_)
                    · exact ⟨(X1.out.later HB_vd_14_4_12.out).c2.1, (X1.out.later HB_vd_14_4_12.out).c2.2, (HB_vd_14_4_12.out.cell (p := ⟨bt, ot, none⟩) HBT.out).trans HX.out⟩
                    clear hK K
                    try simp only [Act.put, List.setIfInBounds_toArray, List.set_cons_zero, List.set_cons_succ]
                    refine wpAnyH_ready (rs := [7]) (by kernel_rfl) (by simp) ?_
                    refine AllReadyH.cons (i := 7) (o := { dst := some 55, op := Go.Op.call { callee := Go.Callee.builtin Go.Builtin.append, args := #[Go.Operand.tmp 52, Go.Operand.tmp 54], argTypes := #[22, 22] }, type := 22, pos := "ref.go:39", after := #[{ on := 4, ground := Go.Ground.data }, { on := 6, ground := Go.Ground.data }], guard := none }) rfl (fun K hK => ?_) AllReadyH.nil
                    obtain ⟨g7, c7, vd_14_4_12_7, hr, hb, hg, ho⟩ := app_any16 vd_14_4_12 b4 L4_vd_14_4_12.out t.log A c (RA1.out.below HB_vd_14_4_12.out) NA.out (by have := HLN.out; omega)
                    have BNvd_14_4_12_7 := hid hb
                    have HR7 := hid hr
                    have R7_vd_14_4_12_7 : Hid (vd_14_4_12_7.ownsRow g7 3 1 (.slice (some ⟨g7, 0, none⟩) t.log.length c7) t.log.length (t.log.map (Value.int .i64))) := ho
                    have GE7 : Hid (w1.heap.size ≤ g7) := by
                      show _ ≤ _
                      rcases hg with h | h
                      · rw [h]; exact BE4.out
                      · exact Nat.le_trans HB_vd_14_4_12.out.size h
                    have NG7_14 : Hid (g7 ≠ b14) := by
                      show _ ≠ _
                      rcases hg with h | h
                      · rw [h]; exact (Ne.symm NE14_4.out)
                      · have := L14_vd_14_4_12.out.lt; omega
                    clear hr hb hg ho
                    have HB_vd_14_4_12_7 := hid (dt16 HB_vd_14_4_12.out BNvd_14_4_12_7.out)
                    have L14_vd_14_4_12_7 := hid (L14_vd_14_4_12.out.later BNvd_14_4_12_7.out)
                    have L4_vd_14_4_12_7 := hid (L4_vd_14_4_12.out.later BNvd_14_4_12_7.out)
                    have L12_vd_14_4_12_7 := hid (L12_vd_14_4_12.out.later BNvd_14_4_12_7.out)
                    rw [if_pos (by rfl)]
                    refine wp_append_run16 (.tmp 52) (.tmp 54) 22 rfl _ _ HR7.out ?_
                    refine hK.out _ _ ?_ (fun hH4 => ?_)
                    · exact ⟨(X1.out.later HB_vd_14_4_12_7.out).c2.1, (X1.out.later HB_vd_14_4_12_7.out).c2.2, (HB_vd_14_4_12_7.out.cell (p := ⟨bt, ot, none⟩) HBT.out).trans HX.out⟩
                    clear hK K
                    try simp only [Act.put, List.setIfInBounds_toArray, List.set_cons_zero, List.set_cons_succ]
                    refine wpAnyH_ready (rs := [13]) (by kernel_rfl) (by simp) ?_
                    refine AllReadyH.cons (i := 13) (o := { dst := some 61, op := Go.Op.call { callee := Go.Callee.builtin Go.Builtin.append, args := #[Go.Operand.tmp 55, Go.Operand.tmp 60], argTypes := #[22, 22] }, type := 22, pos := "ref.go:39", after := #[{ on := 7, ground := Go.Ground.data }, { on := 12, ground := Go.Ground.data }, { on := 7, ground := Go.Ground.chain }], guard := none }) rfl (fun K hK => ?_) AllReadyH.nil
                    obtain ⟨v13, vd_14_4_12_7_13, hr, ho, hg⟩ := run_app_ints16 vd_14_4_12_7 w1.heap.size _ _ t.log (own_base16 R7_vd_14_4_12_7.out GE7.out) (some ⟨b12, 0, none⟩) 1 [x] (ints_lies16 L12_vd_14_4_12_7.out) (fun h => by cases h) (by have := HLN.out; simp; omega) HB_vd_14_4_12_7.out.size
                    obtain ⟨A13, c13, rfl⟩ := own_form ho
                    have HR13 := hid hr
                    have R13_vd_14_4_12_7_13 := hid ho
                    have HB_vd_14_4_12_7_13 : Hid (Below w1.heap.size w1 vd_14_4_12_7_13) := HB_vd_14_4_12_7.out.grown hg HB_vd_14_4_12_7.out.size (fun k hk => ((own_base16 R7_vd_14_4_12_7.out GE7.out).lt k hk).1)
                    have L14_vd_14_4_12_7_13 := hid (lies_grown16 hg L14_vd_14_4_12_7.out (fun h => NG7_14.out (Option.some.inj h)))
                    clear hr ho hg
                    rw [if_pos (by rfl)]
                    refine wp_append_run16 (.tmp 55) (.tmp 60) 22 rfl _ _ HR13.out ?_
                    refine hK.out _ _ ?_ (fun hH5 => ?_)
                    · exact ⟨(X1.out.later HB_vd_14_4_12_7_13.out).c2.1, (X1.out.later HB_vd_14_4_12_7_13.out).c2.2, (HB_vd_14_4_12_7_13.out.cell (p := ⟨bt, ot, none⟩) HBT.out).trans HX.out⟩
                    clear hK K
                    try simp only [Act.put, List.setIfInBounds_toArray, List.set_cons_zero, List.set_cons_succ]
                    refine wpAnyH_ready (rs := [18]) (by kernel_rfl) (by simp) ?_
                    refine AllReadyH.cons (i := 18) (o := { dst := some 66, op := Go.Op.call { callee := Go.Callee.builtin Go.Builtin.append, args := #[Go.Operand.tmp 62, Go.Operand.tmp 65], argTypes := #[22, 22] }, type := 22, pos := "ref.go:39", after := #[{ on := 14, ground := Go.Ground.data }, { on := 17, ground := Go.Ground.data }, { on := 13, ground := Go.Ground.chain }], guard := none }) rfl (fun K hK => ?_) AllReadyH.nil
                    obtain ⟨g18, c18, vd_14_4_12_7_13_18, hr, hb, hg, ho⟩ := app_any16 vd_14_4_12_7_13 b14 L14_vd_14_4_12_7_13.out xs (if d = 1 then some ⟨bt, ot, none⟩ else some ⟨bt, ot + 1, none⟩ : Option Addr) (d - 1) (RQ1.out.below HB_vd_14_4_12_7_13.out) NQ.out (by have := HLN.out; have := HXS.out; omega)
                    have BNvd_14_4_12_7_13_18 := hid hb
                    have HR18 := hid hr
                    have R18_vd_14_4_12_7_13_18 : Hid (vd_14_4_12_7_13_18.ownsRow g18 3 1 (.slice (some ⟨g18, 0, none⟩) xs.length c18) xs.length (xs.map (Value.int .i64))) := ho
                    have GE18 : Hid (w1.heap.size ≤ g18) := by
                      show _ ≤ _
                      rcases hg with h | h
                      · rw [h]; exact BE14.out
                      · exact Nat.le_trans HB_vd_14_4_12_7_13.out.size h
                    clear hr hb hg ho
                    have HB_vd_14_4_12_7_13_18 := hid (dt16 HB_vd_14_4_12_7_13.out BNvd_14_4_12_7_13_18.out)
                    have L14_vd_14_4_12_7_13_18 := hid (L14_vd_14_4_12_7_13.out.later BNvd_14_4_12_7_13_18.out)
                    have R13_vd_14_4_12_7_13_18 := hid (own_later R13_vd_14_4_12_7_13.out BNvd_14_4_12_7_13_18.out)
                    rw [if_pos (by rfl)]
                    refine wp_append_run16 (.tmp 62) (.tmp 65) 22 rfl _ _ HR18.out ?_
                    refine hK.out _ _ ?_ (fun hH6 => ?_)
                    · exact ⟨(X1.out.later HB_vd_14_4_12_7_13_18.out).c2.1, (X1.out.later HB_vd_14_4_12_7_13_18.out).c2.2, (HB_vd_14_4_12_7_13_18.out.cell (p := ⟨bt, ot, none⟩) HBT.out).trans HX.out⟩
                    clear hK K
                    try simp only [Act.put, List.setIfInBounds_toArray, List.set_cons_zero, List.set_cons_succ]
                    refine wpAnyH_take (i := 19) (oi := { dst := some 67, op := Go.Op.build 24 #[(0, Go.Operand.tmp 61), (1, Go.Operand.tmp 66)], type := 24, pos := "ref.go:39", after := #[{ on := 13, ground := Go.Ground.data }, { on := 18, ground := Go.Ground.data }, { on := 20, ground := Go.Ground.gcOnly Go.Departure.lateStores }], guard := none }) (v := ?vv61) rfl (by kernel_rfl) (by kernel_rfl) (by kernel_rfl) (fun _ _ _ h => h) (Or.inl ⟨by rfl, ?hy61⟩) (by assumption) ?rr61
                    case hy61 => intro w hSw; (try dsimp only at hSw); go_simp; all_goals with_reducible rfl
                    try simp only [Act.put, List.setIfInBounds_toArray, List.set_cons_zero, List.set_cons_succ]
                    refine wpAnyH_take (i := 20) (oi := { dst := some 4, op := Go.Op.assign (Go.Operand.tmp 51), type := 3, pos := "ref.go:39", after := #[{ on := 3, ground := Go.Ground.data }, { on := 18, ground := Go.Ground.chain }, { on := 0, ground := Go.Ground.phase }, { on := 1, ground := Go.Ground.phase }, { on := 2, ground := Go.Ground.phase }, { on := 3, ground := Go.Ground.phase }, { on := 4, ground := Go.Ground.textOnly Go.Departure.lateStores }, { on := 5, ground := Go.Ground.textOnly Go.Departure.lateStores }, { on := 6, ground := Go.Ground.textOnly Go.Departure.lateStores }, { on := 7, ground := Go.Ground.textOnly Go.Departure.lateStoresUnsure }, { on := 8, ground := Go.Ground.textOnly Go.Departure.lateStores }, { on := 9, ground := Go.Ground.textOnly Go.Departure.lateStores }, { on := 10, ground := Go.Ground.textOnly Go.Departure.lateStores }, { on := 11, ground := Go.Ground.textOnly Go.Departure.lateStores }, { on := 12, ground := Go.Ground.textOnly Go.Departure.lateStores }, { on := 13, ground := Go.Ground.textOnly Go.Departure.lateStoresUnsure }, { on := 14, ground := Go.Ground.textOnly Go.Departure.lateStores }, { on := 15, ground := Go.Ground.textOnly Go.Departure.lateStores }, { on := 16, ground := Go.Ground.textOnly Go.Departure.lateStores }, { on := 17, ground := Go.Ground.textOnly Go.Departure.lateStoresUnsure }, { on := 18, ground := Go.Ground.textOnly Go.Departure.lateStoresUnsure }, { on := 19, ground := Go.Ground.textOnly Go.Departure.lateStores }], guard := none }) (v := ?vv62) rfl (by kernel_rfl) (by kernel_rfl) (by kernel_rfl) (fun _ _ _ h => h) (Or.inl ⟨by rfl, ?hy62⟩) (by assumption) ?rr62
                    case hy62 => intro w hSw; (try dsimp only at hSw); go_simp; all_goals with_reducible rfl
                    try simp only [Act.put, List.setIfInBounds_toArray, List.set_cons_zero, List.set_cons_succ]
                    refine wpAnyH_ready (rs := [21]) (by kernel_rfl) (by simp) ?_
                    refine AllReadyH.cons (i := 21) (o := { dst := none, op := Go.Op.store 24 (Go.Operand.tmp 5) (Go.Operand.tmp 67), type := 0, pos := "ref.go:39", after := #[{ on := 19, ground := Go.Ground.data }, { on := 20, ground := Go.Ground.chain }, { on := 0, ground := Go.Ground.phase }, { on := 1, ground := Go.Ground.phase }, { on := 2, ground := Go.Ground.phase }, { on := 3, ground := Go.Ground.phase }, { on := 4, ground := Go.Ground.phase }, { on := 5, ground := Go.Ground.phase }, { on := 6, ground := Go.Ground.phase }, { on := 7, ground := Go.Ground.phase }, { on := 8, ground := Go.Ground.phase }, { on := 9, ground := Go.Ground.phase }, { on := 10, ground := Go.Ground.phase }, { on := 11, ground := Go.Ground.phase }, { on := 12, ground := Go.Ground.phase }, { on := 13, ground := Go.Ground.phase }, { on := 14, ground := Go.Ground.phase }, { on := 15, ground := Go.Ground.phase }, { on := 16, ground := Go.Ground.phase }, { on := 17, ground := Go.Ground.phase }, { on := 18, ground := Go.Ground.phase }, { on := 19, ground := Go.Ground.phase }, { on := 20, ground := Go.Ground.phase }], guard := none }) rfl (fun K hK => ?_) AllReadyH.nil
                    obtain ⟨z0, z1⟩ := (K1.out.later HB_vd_14_4_12_7_13_18.out).c2
                    obtain ⟨zf0, zf1⟩ := (K1.out.later HB_vd_14_4_12_7_13_18.out).f2
                    go_simp
                    refine hK.out _ _ ?_ (fun hH7 => ?_)
                    · exact ⟨((((X1.out.later HB_vd_14_4_12_7_13_18.out).far (p := ⟨w.heap.size + 1, 0, none⟩) (by simp) _).far (p := ⟨w.heap.size + 1, 1, none⟩) (by simp) _)).c2.1, ((((X1.out.later HB_vd_14_4_12_7_13_18.out).far (p := ⟨w.heap.size + 1, 0, none⟩) (by simp) _).far (p := ⟨w.heap.size + 1, 1, none⟩) (by simp) _)).c2.2, far_cell16 NBT.out (far_cell16 NBT.out ((HB_vd_14_4_12_7_13_18.out.cell (p := ⟨bt, ot, none⟩) HBT.out).trans HX.out))⟩
                    clear hK K
                    try simp only [Act.put, List.setIfInBounds_toArray, List.set_cons_zero, List.set_cons_succ]
                    clear z0 z1 zf0 zf1
                    refine wpAnyH_take (i := 22) (oi := { dst := some 6, op := Go.Op.assign (Go.Operand.const (Go.Value.int Go.IntKind.i64 0)), type := 26, pos := "ref.go:39", after := #[{ on := 21, ground := Go.Ground.chain }, { on := 0, ground := Go.Ground.phase }, { on := 1, ground := Go.Ground.phase }, { on := 2, ground := Go.Ground.phase }, { on := 3, ground := Go.Ground.phase }, { on := 4, ground := Go.Ground.phase }, { on := 5, ground := Go.Ground.phase }, { on := 6, ground := Go.Ground.phase }, { on := 7, ground := Go.Ground.phase }, { on := 8, ground := Go.Ground.phase }, { on := 9, ground := Go.Ground.phase }, { on := 10, ground := Go.Ground.phase }, { on := 11, ground := Go.Ground.phase }, { on := 12, ground := Go.Ground.phase }, { on := 13, ground := Go.Ground.phase }, { on := 14, ground := Go.Ground.phase }, { on := 15, ground := Go.Ground.phase }, { on := 16, ground := Go.Ground.phase }, { on := 17, ground := Go.Ground.phase }, { on := 18, ground := Go.Ground.phase }, { on := 19, ground := Go.Ground.phase }, { on := 20, ground := Go.Ground.phase }, { on := 21, ground := Go.Ground.phase }], guard := none }) (v := ?vv63) rfl (by kernel_rfl) (by kernel_rfl) (by kernel_rfl) (fun _ _ _ h => h) (Or.inl ⟨by rfl, ?hy63⟩) (by assumption) ?rr63
                    case hy63 => intro w hSw; (try dsimp only at hSw); go_simp; all_goals with_reducible rfl
                    try simp only [Act.put, List.setIfInBounds_toArray, List.set_cons_zero, List.set_cons_succ]
                    refine wpAnyH_done (by kernel_rfl) ?_ _
                    have KF := ((K1.out.later HB_vd_14_4_12_7_13_18.out).set_ 0 (.slice A13 (t.log.length + 1) c13)).set_ 1 (.slice (some ⟨g18, 0, none⟩) xs.length c18)
                    have h1 := ((then_w HB1.out HB_vd_14_4_12_7_13_18.out).setCell (p := ⟨w.heap.size + 1, 0, none⟩) (by simp) (.slice A13 (t.log.length + 1) c13)).setCell (p := ⟨w.heap.size + 1, 1, none⟩) (by simp) (.slice (some ⟨g18, 0, none⟩) xs.length c18)
                    have hlt : w.heap.size + 1 < w1.heap.size := K1.out.lt
                    have r0 := KF.cell 0
                    have r1 := KF.cell 1
                    simp only [List.setIfInBounds_toArray, List.set_cons_zero, List.set_cons_succ, List.getElem?_toArray, List.getElem?_cons_zero, List.getElem?_cons_succ] at r0 r1
                    go_wp2_with fail
                    all_goals
                      refine bodyPost_ret (v := .tuple #[.int .i64 x, .agg #[.slice A13 (t.log.length + 1) c13, .slice (some ⟨g18, 0, none⟩) xs.length c18], .int .i64 0]) (by simp [results, Try.results9, go_sem, r0, r1]) rfl ?_
                      refine ⟨A13, c13, some ⟨g18, 0, none⟩, c18, ?_, ?_, ?_, own_nil16 R13_vd_14_4_12_7_13_18.out, (fun e => by cases e), ?_, ?_, h1⟩
                      · rw [EV.out.1, EV.out.2, drE_yes E.out]; show _ = Ending.returned (.tuple #[.int .i64 x, .agg #[.slice A13 (t.log ++ [x]).length c13, .slice (some ⟨g18, 0, none⟩) xs.length c18], .int .i64 0]); rw [List.length_append]; rfl
                      · rw [EV.out.1]; exact own_ints (xs := t.log ++ [x]) (c := c13) (by rw [List.length_append]; exact own_far16 (own_far16 R13_vd_14_4_12_7_13_18.out hlt 0 _) hlt 1 _)
                      · rw [EV.out.1]; exact own_ints (xs := xs) (c := c18) (own_far16 (own_far16 R18_vd_14_4_12_7_13_18.out (Nat.lt_of_lt_of_le hlt GE18.out) 0 _) (Nat.lt_of_lt_of_le hlt GE18.out) 1 _)
                      · rw [EV.out.1]; show (t.log ++ [x]).length ≤ c13; rw [List.length_append]; exact own_cap R13_vd_14_4_12_7_13_18.out
                      · rw [EV.out.1]; exact own_cap R18_vd_14_4_12_7_13_18.out
                · go_simp
                  obtain ⟨vd_14_12, hw⟩ : ∃ y_, y_ = vd_14.alloc (.cells #[.int .i64 x] 3) := ⟨_, rfl⟩
                  obtain ⟨b12, hb⟩ : ∃ y_, y_ = vd_14.heap.size := ⟨_, rfl⟩
                  rw [← hw, ← hb]
                  have BNvd_14_12 : Hid (Below vd_14.heap.size vd_14 vd_14_12) := by show Below _ _ _; rw [hw]; exact below_alloc _ _
                  have L12_vd_14_12 : Hid (Lies vd_14_12 b12 3 #[.int .i64 x]) := by show Lies _ _ _ _; rw [hw, hb]; exact Lies.new _ _ _
                  have NE14_12 : Hid (b14 ≠ b12) := by show _ ≠ _; rw [hb]; exact Nat.ne_of_lt L14_vd_14.out.lt
                  have BE12 : Hid (w1.heap.size ≤ b12) := by show _ ≤ _; rw [hb]; exact HB_vd_14.out.size
                  clear hw hb
                  have HB_vd_14_12 := hid (dt16 HB_vd_14.out BNvd_14_12.out)
                  have L14_vd_14_12 := hid (L14_vd_14.out.later BNvd_14_12.out)
                  refine hK.out _ _ ?_ (fun hH2 => ?_)
                  · exact ⟨(X1.out.later HB_vd_14_12.out).c2.1, (X1.out.later HB_vd_14_12.out).c2.2, (HB_vd_14_12.out.cell (p := ⟨bt, ot, none⟩) HBT.out).trans HX.out⟩
                  clear hK K
                  try simp only [Act.put, List.setIfInBounds_toArray, List.set_cons_zero, List.set_cons_succ]
                  refine wpAnyH_ready (rs := [4]) (by kernel_rfl) (by simp) ?_
                  refine AllReadyH.cons (i := 4) (o := { dst := some 52, op := Go.Op.buildSlice 22 0 #[], type := 22, pos := "ref.go:39", after := #[], guard := none }) rfl (fun K hK => ?_) AllReadyH.nil
                  go_simp
                  obtain ⟨vd_14_12_4, hw⟩ : ∃ y_, y_ = vd_14_12.alloc (.cells #[] 3) := ⟨_, rfl⟩
                  obtain ⟨b4, hb⟩ : ∃ y_, y_ = vd_14_12.heap.size := ⟨_, rfl⟩
                  rw [← hw, ← hb]
                  have BNvd_14_12_4 : Hid (Below vd_14_12.heap.size vd_14_12 vd_14_12_4) := by show Below _ _ _; rw [hw]; exact below_alloc _ _
                  have L4_vd_14_12_4 : Hid (Lies vd_14_12_4 b4 3 #[]) := by show Lies _ _ _ _; rw [hw, hb]; exact Lies.new _ _ _
                  have NE14_4 : Hid (b14 ≠ b4) := by show _ ≠ _; rw [hb]; exact Nat.ne_of_lt L14_vd_14_12.out.lt
                  have BE4 : Hid (w1.heap.size ≤ b4) := by show _ ≤ _; rw [hb]; exact HB_vd_14_12.out.size
                  clear hw hb
                  have HB_vd_14_12_4 := hid (dt16 HB_vd_14_12.out BNvd_14_12_4.out)
                  have L14_vd_14_12_4 := hid (L14_vd_14_12.out.later BNvd_14_12_4.out)
                  have L12_vd_14_12_4 := hid (L12_vd_14_12.out.later BNvd_14_12_4.out)
                  refine hK.out _ _ ?_ (fun hH3 => ?_)
                  · exact ⟨(X1.out.later HB_vd_14_12_4.out).c2.1, (X1.out.later HB_vd_14_12_4.out).c2.2, (HB_vd_14_12_4.out.cell (p := ⟨bt, ot, none⟩) HBT.out).trans HX.out⟩
                  clear hK K
                  try simp only [Act.put, List.setIfInBounds_toArray, List.set_cons_zero, List.set_cons_succ]
                  refine wpAnyH_ready (rs := [7]) (by kernel_rfl) (by simp) ?_
                  refine AllReadyH.cons (i := 7) (o := { dst := some 55, op := Go.Op.call { callee := Go.Callee.builtin Go.Builtin.append, args := #[Go.Operand.tmp 52, Go.Operand.tmp 54], argTypes := #[22, 22] }, type := 22, pos := "ref.go:39", after := #[{ on := 4, ground := Go.Ground.data }, { on := 6, ground := Go.Ground.data }], guard := none }) rfl (fun K hK => ?_) AllReadyH.nil
                  obtain ⟨g7, c7, vd_14_12_4_7, hr, hb, hg, ho⟩ := app_any16 vd_14_12_4 b4 L4_vd_14_12_4.out t.log A c (RA1.out.below HB_vd_14_12_4.out) NA.out (by have := HLN.out; omega)
                  have BNvd_14_12_4_7 := hid hb
                  have HR7 := hid hr
                  have R7_vd_14_12_4_7 : Hid (vd_14_12_4_7.ownsRow g7 3 1 (.slice (some ⟨g7, 0, none⟩) t.log.length c7) t.log.length (t.log.map (Value.int .i64))) := ho
                  have GE7 : Hid (w1.heap.size ≤ g7) := by
                    show _ ≤ _
                    rcases hg with h | h
                    · rw [h]; exact BE4.out
                    · exact Nat.le_trans HB_vd_14_12_4.out.size h
                  have NG7_14 : Hid (g7 ≠ b14) := by
                    show _ ≠ _
                    rcases hg with h | h
                    · rw [h]; exact (Ne.symm NE14_4.out)
                    · have := L14_vd_14_12_4.out.lt; omega
                  clear hr hb hg ho
                  have HB_vd_14_12_4_7 := hid (dt16 HB_vd_14_12_4.out BNvd_14_12_4_7.out)
                  have L14_vd_14_12_4_7 := hid (L14_vd_14_12_4.out.later BNvd_14_12_4_7.out)
                  have L12_vd_14_12_4_7 := hid (L12_vd_14_12_4.out.later BNvd_14_12_4_7.out)
                  have L4_vd_14_12_4_7 := hid (L4_vd_14_12_4.out.later BNvd_14_12_4_7.out)
                  rw [if_pos (by rfl)]
                  refine wp_append_run16 (.tmp 52) (.tmp 54) 22 rfl _ _ HR7.out ?_
                  refine hK.out _ _ ?_ (fun hH4 => ?_)
                  · exact ⟨(X1.out.later HB_vd_14_12_4_7.out).c2.1, (X1.out.later HB_vd_14_12_4_7.out).c2.2, (HB_vd_14_12_4_7.out.cell (p := ⟨bt, ot, none⟩) HBT.out).trans HX.out⟩
                  clear hK K
                  try simp only [Act.put, List.setIfInBounds_toArray, List.set_cons_zero, List.set_cons_succ]
                  refine wpAnyH_ready (rs := [13]) (by kernel_rfl) (by simp) ?_
                  refine AllReadyH.cons (i := 13) (o := { dst := some 61, op := Go.Op.call { callee := Go.Callee.builtin Go.Builtin.append, args := #[Go.Operand.tmp 55, Go.Operand.tmp 60], argTypes := #[22, 22] }, type := 22, pos := "ref.go:39", after := #[{ on := 7, ground := Go.Ground.data }, { on := 12, ground := Go.Ground.data }, { on := 7, ground := Go.Ground.chain }], guard := none }) rfl (fun K hK => ?_) AllReadyH.nil
                  obtain ⟨v13, vd_14_12_4_7_13, hr, ho, hg⟩ := run_app_ints16 vd_14_12_4_7 w1.heap.size _ _ t.log (own_base16 R7_vd_14_12_4_7.out GE7.out) (some ⟨b12, 0, none⟩) 1 [x] (ints_lies16 L12_vd_14_12_4_7.out) (fun h => by cases h) (by have := HLN.out; simp; omega) HB_vd_14_12_4_7.out.size
                  obtain ⟨A13, c13, rfl⟩ := own_form ho
                  have HR13 := hid hr
                  have R13_vd_14_12_4_7_13 := hid ho
                  have HB_vd_14_12_4_7_13 : Hid (Below w1.heap.size w1 vd_14_12_4_7_13) := HB_vd_14_12_4_7.out.grown hg HB_vd_14_12_4_7.out.size (fun k hk => ((own_base16 R7_vd_14_12_4_7.out GE7.out).lt k hk).1)
                  have L14_vd_14_12_4_7_13 := hid (lies_grown16 hg L14_vd_14_12_4_7.out (fun h => NG7_14.out (Option.some.inj h)))
                  clear hr ho hg
                  rw [if_pos (by rfl)]
                  refine wp_append_run16 (.tmp 55) (.tmp 60) 22 rfl _ _ HR13.out ?_
                  refine hK.out _ _ ?_ (fun hH5 => ?_)
                  · exact ⟨(X1.out.later HB_vd_14_12_4_7_13.out).c2.1, (X1.out.later HB_vd_14_12_4_7_13.out).c2.2, (HB_vd_14_12_4_7_13.out.cell (p := ⟨bt, ot, none⟩) HBT.out).trans HX.out⟩
                  clear hK K
                  try simp only [Act.put, List.setIfInBounds_toArray, List.set_cons_zero, List.set_cons_succ]
                  refine wpAnyH_ready (rs := [18]) (by kernel_rfl) (by simp) ?_
                  refine AllReadyH.cons (i := 18) (o := { dst := some 66, op := Go.Op.call { callee := Go.Callee.builtin Go.Builtin.append, args := #[Go.Operand.tmp 62, Go.Operand.tmp 65], argTypes := #[22, 22] }, type := 22, pos := "ref.go:39", after := #[{ on := 14, ground := Go.Ground.data }, { on := 17, ground := Go.Ground.data }, { on := 13, ground := Go.Ground.chain }], guard := none }) rfl (fun K hK => ?_) AllReadyH.nil
                  obtain ⟨g18, c18, vd_14_12_4_7_13_18, hr, hb, hg, ho⟩ := app_any16 vd_14_12_4_7_13 b14 L14_vd_14_12_4_7_13.out xs (if d = 1 then some ⟨bt, ot, none⟩ else some ⟨bt, ot + 1, none⟩ : Option Addr) (d - 1) (RQ1.out.below HB_vd_14_12_4_7_13.out) NQ.out (by have := HLN.out; have := HXS.out; omega)
                  have BNvd_14_12_4_7_13_18 := hid hb
                  have HR18 := hid hr
                  have R18_vd_14_12_4_7_13_18 : Hid (vd_14_12_4_7_13_18.ownsRow g18 3 1 (.slice (some ⟨g18, 0, none⟩) xs.length c18) xs.length (xs.map (Value.int .i64))) := ho
                  have GE18 : Hid (w1.heap.size ≤ g18) := by
                    show _ ≤ _
                    rcases hg with h | h
                    · rw [h]; exact BE14.out
                    · exact Nat.le_trans HB_vd_14_12_4_7_13.out.size h
                  clear hr hb hg ho
                  have HB_vd_14_12_4_7_13_18 := hid (dt16 HB_vd_14_12_4_7_13.out BNvd_14_12_4_7_13_18.out)
                  have L14_vd_14_12_4_7_13_18 := hid (L14_vd_14_12_4_7_13.out.later BNvd_14_12_4_7_13_18.out)
                  have R13_vd_14_12_4_7_13_18 := hid (own_later R13_vd_14_12_4_7_13.out BNvd_14_12_4_7_13_18.out)
                  rw [if_pos (by rfl)]
                  refine wp_append_run16 (.tmp 62) (.tmp 65) 22 rfl _ _ HR18.out ?_
                  refine hK.out _ _ ?_ (fun hH6 => ?_)
                  · exact ⟨(X1.out.later HB_vd_14_12_4_7_13_18.out).c2.1, (X1.out.later HB_vd_14_12_4_7_13_18.out).c2.2, (HB_vd_14_12_4_7_13_18.out.cell (p := ⟨bt, ot, none⟩) HBT.out).trans HX.out⟩
                  clear hK K
                  try simp only [Act.put, List.setIfInBounds_toArray, List.set_cons_zero, List.set_cons_succ]
                  refine wpAnyH_take (i := 19) (oi := { dst := some 67, op := Go.Op.build 24 #[(0, Go.Operand.tmp 61), (1, Go.Operand.tmp 66)], type := 24, pos := "ref.go:39", after := #[{ on := 13, ground := Go.Ground.data }, { on := 18, ground := Go.Ground.data }, { on := 20, ground := Go.Ground.gcOnly Go.Departure.lateStores }], guard := none }) (v := ?vv64) rfl (by kernel_rfl) (by kernel_rfl) (by kernel_rfl) (fun _ _ _ h => h) (Or.inl ⟨by rfl, ?hy64⟩) (by assumption) ?rr64
                  case hy64 => intro w hSw; (try dsimp only at hSw); go_simp; all_goals with_reducible rfl
                  try simp only [Act.put, List.setIfInBounds_toArray, List.set_cons_zero, List.set_cons_succ]
                  refine wpAnyH_take (i := 20) (oi := { dst := some 4, op := Go.Op.assign (Go.Operand.tmp 51), type := 3, pos := "ref.go:39", after := #[{ on := 3, ground := Go.Ground.data }, { on := 18, ground := Go.Ground.chain }, { on := 0, ground := Go.Ground.phase }, { on := 1, ground := Go.Ground.phase }, { on := 2, ground := Go.Ground.phase }, { on := 3, ground := Go.Ground.phase }, { on := 4, ground := Go.Ground.textOnly Go.Departure.lateStores }, { on := 5, ground := Go.Ground.textOnly Go.Departure.lateStores }, { on := 6, ground := Go.Ground.textOnly Go.Departure.lateStores }, { on := 7, ground := Go.Ground.textOnly Go.Departure.lateStoresUnsure }, { on := 8, ground := Go.Ground.textOnly Go.Departure.lateStores }, { on := 9, ground := Go.Ground.textOnly Go.Departure.lateStores }, { on := 10, ground := Go.Ground.textOnly Go.Departure.lateStores }, { on := 11, ground := Go.Ground.textOnly Go.Departure.lateStores }, { on := 12, ground := Go.Ground.textOnly Go.Departure.lateStores }, { on := 13, ground := Go.Ground.textOnly Go.Departure.lateStoresUnsure }, { on := 14, ground := Go.Ground.textOnly Go.Departure.lateStores }, { on := 15, ground := Go.Ground.textOnly Go.Departure.lateStores }, { on := 16, ground := Go.Ground.textOnly Go.Departure.lateStores }, { on := 17, ground := Go.Ground.textOnly Go.Departure.lateStoresUnsure }, { on := 18, ground := Go.Ground.textOnly Go.Departure.lateStoresUnsure }, { on := 19, ground := Go.Ground.textOnly Go.Departure.lateStores }], guard := none }) (v := ?vv65) rfl (by kernel_rfl) (by kernel_rfl) (by kernel_rfl) (fun _ _ _ h => h) (Or.inl ⟨by rfl, ?hy65⟩) (by assumption) ?rr65
                  case hy65 => intro w hSw; (try dsimp only at hSw); go_simp; all_goals with_reducible rfl
                  try simp only [Act.put, List.setIfInBounds_toArray, List.set_cons_zero, List.set_cons_succ]
                  refine wpAnyH_ready (rs := [21]) (by kernel_rfl) (by simp) ?_
                  refine AllReadyH.cons (i := 21) (o := { dst := none, op := Go.Op.store 24 (Go.Operand.tmp 5) (Go.Operand.tmp 67), type := 0, pos := "ref.go:39", after := #[{ on := 19, ground := Go.Ground.data }, { on := 20, ground := Go.Ground.chain }, { on := 0, ground := Go.Ground.phase }, { on := 1, ground := Go.Ground.phase }, { on := 2, ground := Go.Ground.phase }, { on := 3, ground := Go.Ground.phase }, { on := 4, ground := Go.Ground.phase }, { on := 5, ground := Go.Ground.phase }, { on := 6, ground := Go.Ground.phase }, { on := 7, ground := Go.Ground.phase }, { on := 8, ground := Go.Ground.phase }, { on := 9, ground := Go.Ground.phase }, { on := 10, ground := Go.Ground.phase }, { on := 11, ground := Go.Ground.phase }, { on := 12, ground := Go.Ground.phase }, { on := 13, ground := Go.Ground.phase }, { on := 14, ground := Go.Ground.phase }, { on := 15, ground := Go.Ground.phase }, { on := 16, ground := Go.Ground.phase }, { on := 17, ground := Go.Ground.phase }, { on := 18, ground := Go.Ground.phase }, { on := 19, ground := Go.Ground.phase }, { on := 20, ground := Go.Ground.phase }], guard := none }) rfl (fun K hK => ?_) AllReadyH.nil
                  obtain ⟨z0, z1⟩ := (K1.out.later HB_vd_14_12_4_7_13_18.out).c2
                  obtain ⟨zf0, zf1⟩ := (K1.out.later HB_vd_14_12_4_7_13_18.out).f2
                  go_simp
                  refine hK.out _ _ ?_ (fun hH7 => ?_)
                  · exact ⟨((((X1.out.later HB_vd_14_12_4_7_13_18.out).far (p := ⟨w.heap.size + 1, 0, none⟩) (by simp) _).far (p := ⟨w.heap.size + 1, 1, none⟩) (by simp) _)).c2.1, ((((X1.out.later HB_vd_14_12_4_7_13_18.out).far (p := ⟨w.heap.size + 1, 0, none⟩) (by simp) _).far (p := ⟨w.heap.size + 1, 1, none⟩) (by simp) _)).c2.2, far_cell16 NBT.out (far_cell16 NBT.out ((HB_vd_14_12_4_7_13_18.out.cell (p := ⟨bt, ot, none⟩) HBT.out).trans HX.out))⟩
                  clear hK K
                  try simp only [Act.put, List.setIfInBounds_toArray, List.set_cons_zero, List.set_cons_succ]
                  clear z0 z1 zf0 zf1
                  refine wpAnyH_take (i := 22) (oi := { dst := some 6, op := Go.Op.assign (Go.Operand.const (Go.Value.int Go.IntKind.i64 0)), type := 26, pos := "ref.go:39", after := #[{ on := 21, ground := Go.Ground.chain }, { on := 0, ground := Go.Ground.phase }, { on := 1, ground := Go.Ground.phase }, { on := 2, ground := Go.Ground.phase }, { on := 3, ground := Go.Ground.phase }, { on := 4, ground := Go.Ground.phase }, { on := 5, ground := Go.Ground.phase }, { on := 6, ground := Go.Ground.phase }, { on := 7, ground := Go.Ground.phase }, { on := 8, ground := Go.Ground.phase }, { on := 9, ground := Go.Ground.phase }, { on := 10, ground := Go.Ground.phase }, { on := 11, ground := Go.Ground.phase }, { on := 12, ground := Go.Ground.phase }, { on := 13, ground := Go.Ground.phase }, { on := 14, ground := Go.Ground.phase }, { on := 15, ground := Go.Ground.phase }, { on := 16, ground := Go.Ground.phase }, { on := 17, ground := Go.Ground.phase }, { on := 18, ground := Go.Ground.phase }, { on := 19, ground := Go.Ground.phase }, { on := 20, ground := Go.Ground.phase }, { on := 21, ground := Go.Ground.phase }], guard := none }) (v := ?vv66) rfl (by kernel_rfl) (by kernel_rfl) (by kernel_rfl) (fun _ _ _ h => h) (Or.inl ⟨by rfl, ?hy66⟩) (by assumption) ?rr66
                  case hy66 => intro w hSw; (try dsimp only at hSw); go_simp; all_goals with_reducible rfl
                  try simp only [Act.put, List.setIfInBounds_toArray, List.set_cons_zero, List.set_cons_succ]
                  refine wpAnyH_done (by kernel_rfl) ?_ _
                  have KF := ((K1.out.later HB_vd_14_12_4_7_13_18.out).set_ 0 (.slice A13 (t.log.length + 1) c13)).set_ 1 (.slice (some ⟨g18, 0, none⟩) xs.length c18)
                  have h1 := ((then_w HB1.out HB_vd_14_12_4_7_13_18.out).setCell (p := ⟨w.heap.size + 1, 0, none⟩) (by simp) (.slice A13 (t.log.length + 1) c13)).setCell (p := ⟨w.heap.size + 1, 1, none⟩) (by simp) (.slice (some ⟨g18, 0, none⟩) xs.length c18)
                  have hlt : w.heap.size + 1 < w1.heap.size := K1.out.lt
                  have r0 := KF.cell 0
                  have r1 := KF.cell 1
                  simp only [List.setIfInBounds_toArray, List.set_cons_zero, List.set_cons_succ, List.getElem?_toArray, List.getElem?_cons_zero, List.getElem?_cons_succ] at r0 r1
                  go_wp2_with fail
                  all_goals
                    refine bodyPost_ret (v := .tuple #[.int .i64 x, .agg #[.slice A13 (t.log.length + 1) c13, .slice (some ⟨g18, 0, none⟩) xs.length c18], .int .i64 0]) (by simp [results, Try.results9, go_sem, r0, r1]) rfl ?_
                    refine ⟨A13, c13, some ⟨g18, 0, none⟩, c18, ?_, ?_, ?_, own_nil16 R13_vd_14_12_4_7_13_18.out, (fun e => by cases e), ?_, ?_, h1⟩
                    · rw [EV.out.1, EV.out.2, drE_yes E.out]; show _ = Ending.returned (.tuple #[.int .i64 x, .agg #[.slice A13 (t.log ++ [x]).length c13, .slice (some ⟨g18, 0, none⟩) xs.length c18], .int .i64 0]); rw [List.length_append]; rfl
                    · rw [EV.out.1]; exact own_ints (xs := t.log ++ [x]) (c := c13) (by rw [List.length_append]; exact own_far16 (own_far16 R13_vd_14_12_4_7_13_18.out hlt 0 _) hlt 1 _)
                    · rw [EV.out.1]; exact own_ints (xs := xs) (c := c18) (own_far16 (own_far16 R18_vd_14_12_4_7_13_18.out (Nat.lt_of_lt_of_le hlt GE18.out) 0 _) (Nat.lt_of_lt_of_le hlt GE18.out) 1 _)
                    · rw [EV.out.1]; show (t.log ++ [x]).length ≤ c13; rw [List.length_append]; exact own_cap R13_vd_14_12_4_7_13_18.out
                    · rw [EV.out.1]; exact own_cap R18_vd_14_12_4_7_13_18.out
      · have E : Hid (drB t k = false) := by show _ = _; unfold drB dvB; rw [decide_eq_false h1, Bool.and_false, Bool.false_and]
        rw [ckT_yes hm]
        have x0 := X1.out.cell 0
        have x1 := X1.out.cell 1
        have y0 := K1.out.cell 0
        have y1 := K1.out.cell 1
        have yf0 := K1.out.frozen 0
        have yf1 := K1.out.frozen 1
        simp only [List.getElem?_toArray, List.getElem?_cons_zero, List.getElem?_cons_succ] at x0 x1 y0 y1
        go_wp2_with fail
        clear x0 x1 y0 y1 yf0 yf1
        have KF := (K1.out.set_ 0 (.slice none 0 0)).set_ 1 (.slice none 0 0)
        have r0 := KF.cell 0
        have r1 := KF.cell 1
        simp only [List.setIfInBounds_toArray, List.set_cons_zero, List.set_cons_succ, List.getElem?_toArray, List.getElem?_cons_zero, List.getElem?_cons_succ] at r0 r1
        refine bodyPost_ret (v := .tuple #[.int .i64 0, .agg #[.slice none 0 0, .slice none 0 0], .int .i64 160]) (by simp [results, Try.results9, go_sem, r0, r1]) rfl ?_
        exact ⟨none, 0, none, 0, by rw [drN_no E.out, drT_no E.out, drE_no E.out]; rfl, by rw [drT_no E.out]; exact ints_nil16 _ _, by rw [drT_no E.out]; exact ints_nil16 _ _, fun _ => rfl, fun _ => rfl, by rw [drT_no E.out]; exact Nat.le_refl _, by rw [drT_no E.out]; exact Nat.le_refl _, (HB1.out.setCell (p := ⟨w.heap.size + 1, 0, none⟩) (by simp) _).setCell (p := ⟨w.heap.size + 1, 1, none⟩) (by simp) _⟩
    · have E : Hid (drB t k = false) := by show _ = _; unfold drB dvB; rw [decide_eq_false h0, Bool.and_false, Bool.false_and, Bool.false_and]
      rw [ckT_yes hm]
      have x0 := X1.out.cell 0
      have x1 := X1.out.cell 1
      have y0 := K1.out.cell 0
      have y1 := K1.out.cell 1
      have yf0 := K1.out.frozen 0
      have yf1 := K1.out.frozen 1
      simp only [List.getElem?_toArray, List.getElem?_cons_zero, List.getElem?_cons_succ] at x0 x1 y0 y1
      go_wp2_with fail
      clear x0 x1 y0 y1 yf0 yf1
      have KF := (K1.out.set_ 0 (.slice none 0 0)).set_ 1 (.slice none 0 0)
      have r0 := KF.cell 0
      have r1 := KF.cell 1
      simp only [List.setIfInBounds_toArray, List.set_cons_zero, List.set_cons_succ, List.getElem?_toArray, List.getElem?_cons_zero, List.getElem?_cons_succ] at r0 r1
      refine bodyPost_ret (v := .tuple #[.int .i64 0, .agg #[.slice none 0 0, .slice none 0 0], .int .i64 160]) (by simp [results, Try.results9, go_sem, r0, r1]) rfl ?_
      exact ⟨none, 0, none, 0, by rw [drN_no E.out, drT_no E.out, drE_no E.out]; rfl, by rw [drT_no E.out]; exact ints_nil16 _ _, by rw [drT_no E.out]; exact ints_nil16 _ _, fun _ => rfl, fun _ => rfl, by rw [drT_no E.out]; exact Nat.le_refl _, by rw [drT_no E.out]; exact Nat.le_refl _, (HB1.out.setCell (p := ⟨w.heap.size + 1, 0, none⟩) (by simp) _).setCell (p := ⟨w.heap.size + 1, 1, none⟩) (by simp) _⟩
  · have hm2 : mayT t = false := by simpa using hm
    have E : Hid (drB t k = false) := by show _ = _; unfold drB dvB; rw [hm2]; rfl
    rw [ckT_no hm2]
    clear hm hm2
    have x0 := X1.out.cell 0
    have x1 := X1.out.cell 1
    have y0 := K1.out.cell 0
    have y1 := K1.out.cell 1
    have yf0 := K1.out.frozen 0
    have yf1 := K1.out.frozen 1
    simp only [List.getElem?_toArray, List.getElem?_cons_zero, List.getElem?_cons_succ] at x0 x1 y0 y1
    go_wp2_with fail
    clear x0 x1 y0 y1 yf0 yf1
    have KF := (K1.out.set_ 0 (.slice none 0 0)).set_ 1 (.slice none 0 0)
    have r0 := KF.cell 0
    have r1 := KF.cell 1
    simp only [List.setIfInBounds_toArray, List.set_cons_zero, List.set_cons_succ, List.getElem?_toArray, List.getElem?_cons_zero, List.getElem?_cons_succ] at r0 r1
    refine bodyPost_ret (v := .tuple #[.int .i64 0, .agg #[.slice none 0 0, .slice none 0 0], .int .i64 160]) (by simp [results, Try.results9, go_sem, r0, r1]) rfl ?_
    exact ⟨none, 0, none, 0, by rw [drN_no E.out, drT_no E.out, drE_no E.out]; rfl, by rw [drT_no E.out]; exact ints_nil16 _ _, by rw [drT_no E.out]; exact ints_nil16 _ _, fun _ => rfl, fun _ => rfl, by rw [drT_no E.out]; exact Nat.le_refl _, by rw [drT_no E.out]; exact Nat.le_refl _, (HB1.out.setCell (p := ⟨w.heap.size + 1, 0, none⟩) (by simp) _).setCell (p := ⟨w.heap.size + 1, 1, none⟩) (by simp) _⟩
end Go.Proofs.Ytimmoaomhilaeaa
