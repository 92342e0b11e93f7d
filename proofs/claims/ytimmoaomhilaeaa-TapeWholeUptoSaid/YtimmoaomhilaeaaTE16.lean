/- The program's further: one input more in the Log, into whose memory it may write. -/
import Derived.Test.YtimmoaomhilaeaaTD16
namespace Go.Proofs.Ytimmoaomhilaeaa
open Go.RowKit
set_option maxRecDepth 100000
theorem grown_from16 {w w1 w2 : World} {row : Option Nat} (h : Below w.heap.size w w1) (hg : w1.grownBy w2 row) : w.grownBy w2 row :=
  ⟨hg.os.trans h.os, hg.tape.trans h.tape, hg.output.trans h.output, Nat.le_trans h.size hg.size, fun k hk hne => (hg.block k (Nat.lt_of_lt_of_le hk h.size) hne).trans (h.block k hk)⟩
theorem grown_set16 {w w2 : World} {row : Option Nat} (h : w.grownBy w2 row) {p : Addr} (hp : w.heap.size ≤ p.block) (u : Value) : w.grownBy (w2.setCell p u) row :=
  ⟨h.os, h.tape, h.output, by rw [World.size_setCell]; exact h.size, fun k hk hne => (Below.heap_setCell _ _ _ _ (by omega)).trans (h.block k hk hne)⟩
theorem own_off16 {w : World} {base g n size : Nat} {e : TypeId} {v : Value} {xs : List Value} (h : w.ownsRow base e size v n xs) (hg : v.ownBlock ≠ some g) (i : Nat) (u : Value) : (w.setCell ⟨g, i, none⟩ u).ownsRow base e size v n xs := by
  refine ⟨h.1, ?_⟩
  rcases h.2 with hn | ⟨g2, cap, cur, hv, hb, hr, hrest⟩
  · exact .inl hn
  · refine .inr ⟨g2, cap, cur, hv, hb, ?_, hrest⟩
    rw [Below.heap_setCell w ⟨g, i, none⟩ u g2 (fun e => hg (by rw [hv]; exact congrArg some e))]; exact hr
theorem ints_off16 {w : World} {g : Nat} {A : Option Addr} {xs : List Int} (h : IntsR w A xs) (hg : ∀ a, A = some a → a.block ≠ g) (i : Nat) (u : Value) : IntsR (w.setCell ⟨g, i, none⟩ u) A xs := fun h0 => by
  obtain ⟨b, o, e, hlt, hc⟩ := h h0
  exact ⟨b, o, e, by rw [World.size_setCell]; exact hlt, fun j x hj => far_cell16 (hg _ e) (hc j x hj)⟩
theorem ints_grown16 {w w2 : World} {row : Option Nat} {A : Option Addr} {xs : List Int} (h : IntsR w A xs) (h2 : w.grownBy w2 row) (hne : ∀ a, A = some a → row ≠ some a.block) : IntsR w2 A xs := fun h0 => by
  obtain ⟨b, o, e, hlt, hc⟩ := h h0
  exact ⟨b, o, e, Nat.lt_of_lt_of_le hlt h2.size, fun j x hj => (World.cell?_of_block (a := ⟨b, o + j, none⟩) (h2.block b hlt (fun e2 => hne _ e e2.symm))).trans (hc j x hj)⟩
def FurA (w : World) (base : Nat) (t : Tp) (A B : Option Addr) (c : Nat) (e : Ending) (w' : World) : Prop :=
  ∃ P p Q q, e = .returned (.agg #[.slice P (t.log.length + 1) p, .slice Q (t.rest.length - 1) q]) ∧ w'.ownsRow base 3 1 (.slice P (t.log.length + 1) p) (t.log.length + 1) ((t.log ++ [t.rest.getD 0 0]).map (Value.int .i64)) ∧
    IntsR w' Q (t.rest.drop 1) ∧ (∀ a, Q = some a → ∃ a', B = some a' ∧ a.block = a'.block) ∧ (Q = none → q = 0) ∧ t.rest.length - 1 ≤ q ∧ w.grownBy w' (Value.slice A t.log.length c).ownBlock
set_option maxHeartbeats 4000000 in
theorem pfurther_any16 (t : Tp) (A B : Option Addr) (c d base : Nat) (w : World) (hA : w.ownsRow base 3 1 (.slice A t.log.length c) t.log.length (t.log.map (Value.int .i64))) (hB : IntsR w B t.rest) (hne : ∀ a, B = some a → (Value.slice A t.log.length c).ownBlock ≠ some a.block)
    (lB : t.rest.length ≤ d) (hbase : base ≤ w.heap.size) (hl : t.log.length + t.rest.length ≤ 1000) :
    Calls Try.prog 20 #[.agg #[.slice A t.log.length c, .slice B t.rest.length d]] w (FurA w base t A B c) := by
  obtain ⟨w0, hw0⟩ : ∃ w0, w0 = (w.alloc (.cells #[.slice A t.log.length c, .slice B t.rest.length d] 24)).alloc (.cells #[.slice none 0 0, .slice none 0 0] 24) := ⟨_, rfl⟩
  have HB0 : Hid (Below w.heap.size w w0) := by show Below _ _ _; rw [hw0]; exact below_alloc2 w _ _
  have X0 : Hid (Lies w0 w.heap.size 24 #[.slice A t.log.length c, .slice B t.rest.length d]) := by show Lies _ _ _ _; rw [hw0]; exact (Lies.new w _ _).alloc _
  have K0 : Hid (Lies w0 (w.heap.size + 1) 24 #[.slice none 0 0, .slice none 0 0]) := by
    show Lies _ _ _ _
    rw [hw0]
    have := Lies.new (w.alloc (.cells #[.slice A t.log.length c, .slice B t.rest.length d] 24)) 24 #[.slice none 0 0, .slice none 0 0]
    simpa [Hid] using this
  have HA := hid hA
  have RB0 := hid (hB.below HB0.out)
  have NE := hid hne
  have LB := hid lB
  have HBS := hid hbase
  have ne0 : Hid (w.heap.size ≠ w.heap.size + 1) := by show _ ≠ _; omega
  clear hA hB hne lB hbase
  go_enter Try.func20, Try.ntmps20
  go_upto_region 1 with fail
  rw [← hw0]
  clear hw0
  by_cases h4 : t.rest.length = 0
  · have hr : t.rest = [] := List.eq_nil_of_length_eq_zero h4
    have GX : Hid (t.rest.getD 0 0 = 0) := by show _ = _; rw [hr]; rfl
    have DX : Hid (t.rest.drop 1 = []) := by show _ = _; rw [hr]; rfl
    have H4 := hid h4
    clear hr
    obtain ⟨wa, hwa⟩ : ∃ y_, y_ = w0.alloc (.cells #[.int .i64 0] 3) := ⟨_, rfl⟩
    have HBA : Hid (Below w0.heap.size w0 wa) := by show Below _ _ _; rw [hwa]; exact below_alloc _ _
    have HB0A : Hid (Below w0.heap.size w0 wa) := by show Below _ _ _; exact HBA.out
    have HBw : Hid (Below w.heap.size w wa) := then_w HB0.out HBA.out
    obtain ⟨v5, wb, hr2, ho2, hg2⟩ := run_app_ints16 wa base _ _ t.log (own_later HA.out HBw.out) (some ⟨w0.heap.size, 0, none⟩) 1 [0] (ints_lies16 (by rw [hwa]; exact Lies.new _ _ _)) (fun h => by cases h) (by simp; omega) (Nat.le_trans HBS.out HBw.out.size)
    obtain ⟨A5, c5, rfl⟩ := own_form ho2
    have HR2 := hid hr2
    have R5 : Hid (wb.ownsRow base 3 1 (.slice A5 (t.log.length + 1) c5) (t.log.length + 1) ((t.log ++ [0]).map (Value.int .i64))) := ho2
    have HG2 := hid hg2
    have NB5 : Hid ((Value.slice A5 (t.log.length + 1) c5).ownBlock ≠ some (w.heap.size + 1)) := by
      show _ ≠ _
      have hl5 := (K0.out.later HB0A.out)
      exact own_blk_ne ho2 (lies_grown16 hg2 hl5 (own_blk_ne (own_later HA.out HBw.out) hl5 (by decide))) (by decide)
    have Kb : Hid (Lies wb (w.heap.size + 1) 24 #[.slice none 0 0, .slice none 0 0]) := lies_grown16 hg2 (K0.out.later HB0A.out) (own_blk_ne (own_later HA.out HBw.out) (K0.out.later HB0A.out) (by decide))
    have XA : Hid (Lies wa w.heap.size 24 #[.slice A t.log.length c, .slice B t.rest.length d]) := X0.out.later HB0A.out
    have Xb : Hid (Lies wb w.heap.size 24 #[.slice A t.log.length c, .slice B t.rest.length d]) := lies_grown16 hg2 XA.out (own_blk_ne (own_later HA.out HBw.out) XA.out (by decide))
    clear hr2 ho2 hg2
    have x0 := X0.out.cell 0
    have x1 := X0.out.cell 1
    have y0 := K0.out.cell 0
    have y1 := K0.out.cell 1
    have yf0 := K0.out.frozen 0
    have yf1 := K0.out.frozen 1
    simp only [List.getElem?_toArray, List.getElem?_cons_zero, List.getElem?_cons_succ] at x0 x1 y0 y1
    obtain ⟨u0, u1⟩ := XA.out.c2
    obtain ⟨z0, z1⟩ := Kb.out.c2
    obtain ⟨zf0, zf1⟩ := Kb.out.f2
    subst hwa
    go_wp2_with (first | (at_builtin; refine wpList_append_run16 rfl (.tmp 8) (.tmp 9) 22 rfl _ _ HR2.out ?_))
    clear x0 x1 y0 y1 yf0 yf1 z0 z1 zf0 zf1 u0 u1
    have KF := (Kb.out.set_ 0 (.slice A5 (t.log.length + 1) c5)).set_ 1 (.slice none 0 0)
    have r0 := KF.cell 0
    have r1 := KF.cell 1
    simp only [List.setIfInBounds_toArray, List.set_cons_zero, List.set_cons_succ, List.getElem?_toArray, List.getElem?_cons_zero, List.getElem?_cons_succ] at r0 r1
    have hlt : w.heap.size + 1 < w0.heap.size := K0.out.lt
    have G := grown_set16 (grown_set16 (grown_from16 HBw.out HG2.out) (p := ⟨w.heap.size + 1, 0, none⟩) (by simp) (.slice A5 (t.log.length + 1) c5)) (p := ⟨w.heap.size + 1, 1, none⟩) (by simp) (.slice none 0 0)
    have hR : ((wb.setCell ⟨w.heap.size + 1, 0, none⟩ (.slice A5 (t.log.length + 1) c5)).setCell ⟨w.heap.size + 1, 1, none⟩ (.slice none 0 0)).ownsRow base 3 1 (.slice A5 (t.log.length + 1) c5) (t.log.length + 1) ((t.log ++ [0]).map (Value.int .i64)) := own_off16 (own_off16 R5.out NB5.out 0 _) NB5.out 1 _
    refine bodyPost_ret (v := .agg #[.slice A5 (t.log.length + 1) c5, .slice none 0 0]) (by simp [results, Try.results20, go_sem, r0, r1]) rfl ?_
    refine ⟨A5, c5, none, 0, ?_, ?_, ?_, (fun a e => by cases e), (fun _ => rfl), ?_, G⟩
    · rw [H4.out]
    · rw [GX.out]; exact hR
    · rw [DX.out]; exact ints_nil16 _ _
    · rw [H4.out]; exact Nat.le_refl _
  · obtain ⟨x, xs, hr⟩ : ∃ x xs, t.rest = x :: xs := by
      cases h : t.rest with
      | nil => rw [h] at h4; exact absurd rfl h4
      | cons x xs => exact ⟨x, xs, rfl⟩
    have GX : Hid (t.rest.getD 0 0 = x) := by show _ = _; rw [hr]; rfl
    have DX : Hid (t.rest.drop 1 = xs) := by show _ = _; rw [hr]; rfl
    have HXS : Hid (xs.length + 1 = t.rest.length) := by show _ = _; rw [hr]; rfl
    obtain ⟨bt, ot, rfl, hbt, hct⟩ := RB0.out (by omega)
    have HX : Hid (w0.cell? ⟨bt, ot, none⟩ = some (.int .i64 x)) := hct 0 x (by rw [hr]; rfl)
    have NBT : Hid (bt ≠ w.heap.size + 1) := by
      show _ ≠ _
      intro e
      subst e
      have h1 := K0.out.c2.1
      have h2 := K0.out.cell ot
      have h3 := HX.out
      rw [h2] at h3
      match ot, h3 with
      | 0, h3 => cases h3
      | 1, h3 => cases h3
      | (n + 2), h3 => simp at h3
    have hd1 : 1 ≤ d := by have := LB.out; omega
    have hq1 : (1 : Int) ≤ (xs.length : Int) + 1 := by omega
    clear hbt hct
    have x0 := X0.out.cell 0
    have x1 := X0.out.cell 1
    have y0 := K0.out.cell 0
    have y1 := K0.out.cell 1
    have yf0 := K0.out.frozen 0
    have yf1 := K0.out.frozen 1
    simp only [List.getElem?_toArray, List.getElem?_cons_zero, List.getElem?_cons_succ] at x0 x1 y0 y1
    have hx : w0.cell? ⟨bt, ot, none⟩ = some (.int .i64 x) := HX.out
    go_upto_region 3 with fail
    clear hx
    refine wp_region_held_drew (S := (fun w' => w'.cell? ⟨w.heap.size, 0, none⟩ = some (.slice A t.log.length c) ∧ w'.cell? ⟨w.heap.size, 1, none⟩ = some (.slice (some ⟨bt, ot, none⟩) t.rest.length d) ∧ w'.cell? ⟨bt, ot, none⟩ = some (.int .i64 x))) (by kernel_rfl) ?_ (fun hH0 => ?_)
    · exact ⟨x0, x1, HX.out⟩
    obtain ⟨vd, hvd⟩ : ∃ y_, y_ = w0.drew := ⟨_, rfl⟩
    rw [← hvd] at hH0 ⊢
    have HB_vd : Hid (Below w0.heap.size w0 vd) := by show Below _ _ _; rw [hvd]; exact (Below.refl _ _).drew
    have HBd := hid (then_w HB0.out HB_vd.out)
    have HBDA : Hid (Below w0.heap.size w0 (vd.alloc (.cells #[.int .i64 x] 3))) := dt16 HB_vd.out (below_alloc _ _)
    obtain ⟨wa, hwa⟩ : ∃ y_, y_ = vd.alloc (.cells #[.int .i64 x] 3) := ⟨_, rfl⟩
    have HBA : Hid (Below vd.heap.size vd wa) := by show Below _ _ _; rw [hwa]; exact below_alloc _ _
    have HB0A : Hid (Below w0.heap.size w0 wa) := by show Below _ _ _; rw [hwa]; exact HBDA.out
    have HBw : Hid (Below w.heap.size w wa) := then_w HBd.out HBA.out
    obtain ⟨v5, wb, hr2, ho2, hg2⟩ := run_app_ints16 wa base _ _ t.log (own_later HA.out HBw.out) (some ⟨vd.heap.size, 0, none⟩) 1 [x] (ints_lies16 (by rw [hwa]; exact Lies.new _ _ _)) (fun h => by cases h) (by simp; omega) (Nat.le_trans HBS.out HBw.out.size)
    obtain ⟨A5, c5, rfl⟩ := own_form ho2
    have HR2 := hid hr2
    have R5 : Hid (wb.ownsRow base 3 1 (.slice A5 (t.log.length + 1) c5) (t.log.length + 1) ((t.log ++ [x]).map (Value.int .i64))) := ho2
    have HG2 := hid hg2
    have NB5 : Hid ((Value.slice A5 (t.log.length + 1) c5).ownBlock ≠ some (w.heap.size + 1)) := by
      show _ ≠ _
      have hl5 := (K0.out.later HB0A.out)
      exact own_blk_ne ho2 (lies_grown16 hg2 hl5 (own_blk_ne (own_later HA.out HBw.out) hl5 (by decide))) (by decide)
    have Kb : Hid (Lies wb (w.heap.size + 1) 24 #[.slice none 0 0, .slice none 0 0]) := lies_grown16 hg2 (K0.out.later HB0A.out) (own_blk_ne (own_later HA.out HBw.out) (K0.out.later HB0A.out) (by decide))
    have XA : Hid (Lies wa w.heap.size 24 #[.slice A t.log.length c, .slice (some ⟨bt, ot, none⟩) t.rest.length d]) := X0.out.later HB0A.out
    have Xb : Hid (Lies wb w.heap.size 24 #[.slice A t.log.length c, .slice (some ⟨bt, ot, none⟩) t.rest.length d]) := lies_grown16 hg2 XA.out (own_blk_ne (own_later HA.out HBw.out) XA.out (by decide))
    have CXa : Hid (wa.cell? ⟨bt, ot, none⟩ = some (.int .i64 x)) := by show _ = _; rw [hwa]; exact cell_old (by rw [hvd]; exact HX.out)
    have CXb : Hid (wb.cell? ⟨bt, ot, none⟩ = some (.int .i64 x)) := by
      show _ = _
      have hbt : bt < wa.heap.size := World.block_lt_of_cell? wa ⟨bt, ot, none⟩ CXa.out
      exact (World.cell?_of_block (a := ⟨bt, ot, none⟩) (HG2.out.block bt hbt (fun e => NE.out ⟨bt, ot, none⟩ rfl e.symm))).trans CXa.out
    have RQ0 : Hid (IntsR wb (some ⟨bt, ot + 1, none⟩) xs) := by
      have h1 : IntsR wa (some ⟨bt, ot + 1, none⟩) xs := by
        have := IntsR.tail16 (RB0.out.below (w' := wa) (by rw [hwa]; exact HBDA.out)); rw [hr] at this; exact this
      exact ints_grown16 h1 HG2.out (fun a e => by cases e; exact NE.out ⟨bt, ot, none⟩ rfl)
    clear hr2 ho2 hg2 hvd x0 x1 y0 y1 yf0 yf1
    refine wpAnyH_take (i := 0) (oi := { dst := some 12, op := Go.Op.fieldAddr 24 (Go.Operand.tmp 1) 0, type := 0, pos := "tape.go:52", after := #[], guard := none }) (v := ?vv1) rfl (by kernel_rfl) (by kernel_rfl) (by kernel_rfl) (fun _ _ _ h => h) (Or.inl ⟨by rfl, ?hy1⟩) (by assumption) ?rr1
    case hy1 => intro w hSw; (try dsimp only at hSw); go_simp; all_goals with_reducible rfl
    try simp only [Act.put, List.setIfInBounds_toArray, List.set_cons_zero, List.set_cons_succ]
    refine wpAnyH_take (i := 1) (oi := { dst := some 13, op := Go.Op.load 22 (Go.Operand.tmp 12), type := 22, pos := "tape.go:52", after := #[{ on := 0, ground := Go.Ground.data }], guard := none }) (v := ?vv2) rfl (by kernel_rfl) (by kernel_rfl) (by kernel_rfl) (fun _ _ _ h => h) (Or.inl ⟨by rfl, ?hy2⟩) (by assumption) ?rr2
    case hy2 => intro w hSw; (try dsimp only at hSw); go_simp; all_goals with_reducible rfl
    try simp only [Act.put, List.setIfInBounds_toArray, List.set_cons_zero, List.set_cons_succ]
    refine wpAnyH_take (i := 2) (oi := { dst := some 14, op := Go.Op.fieldAddr 24 (Go.Operand.tmp 1) 1, type := 0, pos := "tape.go:52", after := #[], guard := none }) (v := ?vv3) rfl (by kernel_rfl) (by kernel_rfl) (by kernel_rfl) (fun _ _ _ h => h) (Or.inl ⟨by rfl, ?hy3⟩) (by assumption) ?rr3
    case hy3 => intro w hSw; (try dsimp only at hSw); go_simp; all_goals with_reducible rfl
    try simp only [Act.put, List.setIfInBounds_toArray, List.set_cons_zero, List.set_cons_succ]
    refine wpAnyH_take (i := 3) (oi := { dst := some 15, op := Go.Op.load 22 (Go.Operand.tmp 14), type := 22, pos := "tape.go:52", after := #[{ on := 2, ground := Go.Ground.data }], guard := none }) (v := ?vv4) rfl (by kernel_rfl) (by kernel_rfl) (by kernel_rfl) (fun _ _ _ h => h) (Or.inl ⟨by rfl, ?hy4⟩) (by assumption) ?rr4
    case hy4 => intro w hSw; (try dsimp only at hSw); go_simp; all_goals with_reducible rfl
    try simp only [Act.put, List.setIfInBounds_toArray, List.set_cons_zero, List.set_cons_succ]
    refine wpAnyH_take (i := 4) (oi := { dst := some 16, op := Go.Op.indexAddr 22 (Go.Operand.tmp 15) (Go.Operand.const (Go.Value.int Go.IntKind.i64 0)), type := 0, pos := "tape.go:52", after := #[{ on := 3, ground := Go.Ground.data }], guard := none }) (v := ?vv5) rfl (by kernel_rfl) (by kernel_rfl) (by kernel_rfl) (fun _ _ _ h => h) (Or.inl ⟨by rfl, ?hy5⟩) (by assumption) ?rr5
    case hy5 => intro w hSw; (try dsimp only at hSw); go_simp; all_goals with_reducible rfl
    try simp only [Act.put, List.setIfInBounds_toArray, List.set_cons_zero, List.set_cons_succ]
    refine wpAnyH_take (i := 5) (oi := { dst := some 17, op := Go.Op.load 3 (Go.Operand.tmp 16), type := 3, pos := "tape.go:52", after := #[{ on := 4, ground := Go.Ground.data }], guard := none }) (v := ?vv6) rfl (by kernel_rfl) (by kernel_rfl) (by kernel_rfl) (fun _ _ _ h => h) (Or.inl ⟨by rfl, ?hy6⟩) (by assumption) ?rr6
    case hy6 => intro w hSw; (try dsimp only at hSw); go_simp; all_goals with_reducible rfl
    try simp only [Act.put, List.setIfInBounds_toArray, List.set_cons_zero, List.set_cons_succ]
    refine wpAnyH_take (i := 8) (oi := { dst := some 20, op := Go.Op.fieldAddr 24 (Go.Operand.tmp 1) 1, type := 0, pos := "tape.go:52", after := #[], guard := none }) (v := ?vv7) rfl (by kernel_rfl) (by kernel_rfl) (by kernel_rfl) (fun _ _ _ h => h) (Or.inl ⟨by rfl, ?hy7⟩) (by assumption) ?rr7
    case hy7 => intro w hSw; (try dsimp only at hSw); go_simp; all_goals with_reducible rfl
    try simp only [Act.put, List.setIfInBounds_toArray, List.set_cons_zero, List.set_cons_succ]
    refine wpAnyH_take (i := 9) (oi := { dst := some 21, op := Go.Op.load 22 (Go.Operand.tmp 20), type := 22, pos := "tape.go:52", after := #[{ on := 8, ground := Go.Ground.data }], guard := none }) (v := ?vv8) rfl (by kernel_rfl) (by kernel_rfl) (by kernel_rfl) (fun _ _ _ h => h) (Or.inl ⟨by rfl, ?hy8⟩) (by assumption) ?rr8
    case hy8 => intro w hSw; (try dsimp only at hSw); go_simp; all_goals with_reducible rfl
    try simp only [Act.put, List.setIfInBounds_toArray, List.set_cons_zero, List.set_cons_succ]
    refine wpAnyH_take (i := 10) (oi := { dst := some 22, op := Go.Op.slice 22 (Go.Operand.tmp 21) (some (Go.Operand.const (Go.Value.int Go.IntKind.i64 1))) none none, type := 22, pos := "tape.go:52", after := #[{ on := 9, ground := Go.Ground.data }], guard := none }) (v := ?vv9) rfl (by kernel_rfl) (by kernel_rfl) (by kernel_rfl) (fun _ _ _ h => h) (Or.inl ⟨by rfl, ?hy9⟩) (by assumption) ?rr9
    case hy9 => intro w hSw; (try dsimp only at hSw); go_simp; all_goals with_reducible rfl
    try simp only [Act.put, List.setIfInBounds_toArray, List.set_cons_zero, List.set_cons_succ]
    refine wpAnyH_ready (rs := [6]) (by kernel_rfl) (by simp) ?_
    refine AllReadyH.cons (i := 6) (o := { dst := some 18, op := Go.Op.buildSlice 22 1 #[(0, Go.Operand.tmp 17)], type := 22, pos := "tape.go:52", after := #[{ on := 5, ground := Go.Ground.data }], guard := none }) rfl (fun K hK => ?_) AllReadyH.nil
    go_simp
    rw [← hwa]
    refine hK.out _ _ ?_ (fun hH1 => ?_)
    · exact ⟨XA.out.c2.1, XA.out.c2.2, CXa.out⟩
    clear hK K
    try simp only [Act.put, List.setIfInBounds_toArray, List.set_cons_zero, List.set_cons_succ]
    refine wpAnyH_ready (rs := [7]) (by kernel_rfl) (by simp) ?_
    refine AllReadyH.cons (i := 7) (o := { dst := some 19, op := Go.Op.call { callee := Go.Callee.builtin Go.Builtin.append, args := #[Go.Operand.tmp 13, Go.Operand.tmp 18], argTypes := #[22, 22] }, type := 22, pos := "tape.go:52", after := #[{ on := 1, ground := Go.Ground.data }, { on := 6, ground := Go.Ground.data }], guard := none }) rfl (fun K hK => ?_) AllReadyH.nil
    rw [if_pos (by rfl)]
    refine wp_append_run16 (.tmp 13) (.tmp 18) 22 rfl _ _ HR2.out ?_
    refine hK.out _ _ ?_ (fun hH2 => ?_)
    · exact ⟨Xb.out.c2.1, Xb.out.c2.2, CXb.out⟩
    clear hK K
    try simp only [Act.put, List.setIfInBounds_toArray, List.set_cons_zero, List.set_cons_succ]
    refine wpAnyH_take (i := 11) (oi := { dst := some 23, op := Go.Op.build 24 #[(0, Go.Operand.tmp 19), (1, Go.Operand.tmp 22)], type := 24, pos := "tape.go:52", after := #[{ on := 7, ground := Go.Ground.data }, { on := 10, ground := Go.Ground.data }], guard := none }) (v := ?vv10) rfl (by kernel_rfl) (by kernel_rfl) (by kernel_rfl) (fun _ _ _ h => h) (Or.inl ⟨by rfl, ?hy10⟩) (by assumption) ?rr10
    case hy10 => intro w hSw; (try dsimp only at hSw); go_simp; all_goals with_reducible rfl
    try simp only [Act.put, List.setIfInBounds_toArray, List.set_cons_zero, List.set_cons_succ]
    refine wpAnyH_ready (rs := [12]) (by kernel_rfl) (by simp) ?_
    refine AllReadyH.cons (i := 12) (o := { dst := none, op := Go.Op.store 24 (Go.Operand.tmp 2) (Go.Operand.tmp 23), type := 0, pos := "tape.go:52", after := #[{ on := 11, ground := Go.Ground.data }, { on := 7, ground := Go.Ground.chain }, { on := 0, ground := Go.Ground.phase }, { on := 1, ground := Go.Ground.phase }, { on := 2, ground := Go.Ground.phase }, { on := 3, ground := Go.Ground.phase }, { on := 4, ground := Go.Ground.phase }, { on := 5, ground := Go.Ground.phase }, { on := 6, ground := Go.Ground.phase }, { on := 7, ground := Go.Ground.phase }, { on := 8, ground := Go.Ground.phase }, { on := 9, ground := Go.Ground.phase }, { on := 10, ground := Go.Ground.phase }, { on := 11, ground := Go.Ground.phase }], guard := none }) rfl (fun K hK => ?_) AllReadyH.nil
    obtain ⟨z0, z1⟩ := Kb.out.c2
    obtain ⟨zf0, zf1⟩ := Kb.out.f2
    go_simp
    refine hK.out _ _ ?_ (fun hH3 => ?_)
    · exact ⟨far_cell16 ne0.out (far_cell16 ne0.out hH2.1), far_cell16 ne0.out (far_cell16 ne0.out hH2.2.1), far_cell16 NBT.out (far_cell16 NBT.out hH2.2.2)⟩
    clear hK K
    try simp only [Act.put, List.setIfInBounds_toArray, List.set_cons_zero, List.set_cons_succ]
    clear z0 z1 zf0 zf1
    refine wpAnyH_done (by kernel_rfl) ?_ _
    by_cases h : d = 1
    · subst h
      have KF := (Kb.out.set_ 0 (.slice A5 (t.log.length + 1) c5)).set_ 1 (.slice (some ⟨bt, ot, none⟩) xs.length (0))
      have r0 := KF.cell 0
      have r1 := KF.cell 1
      simp only [List.setIfInBounds_toArray, List.set_cons_zero, List.set_cons_succ, List.getElem?_toArray, List.getElem?_cons_zero, List.getElem?_cons_succ] at r0 r1
      have hlt : w.heap.size + 1 < w0.heap.size := K0.out.lt
      have G := grown_set16 (grown_set16 (grown_from16 HBw.out HG2.out) (p := ⟨w.heap.size + 1, 0, none⟩) (by simp) (.slice A5 (t.log.length + 1) c5)) (p := ⟨w.heap.size + 1, 1, none⟩) (by simp) (.slice (some ⟨bt, ot, none⟩) xs.length (0))
      have hR : ((wb.setCell ⟨w.heap.size + 1, 0, none⟩ (.slice A5 (t.log.length + 1) c5)).setCell ⟨w.heap.size + 1, 1, none⟩ (.slice (some ⟨bt, ot, none⟩) xs.length (0))).ownsRow base 3 1 (.slice A5 (t.log.length + 1) c5) (t.log.length + 1) ((t.log ++ [x]).map (Value.int .i64)) := own_off16 (own_off16 R5.out NB5.out 0 _) NB5.out 1 _
      go_wp2_with fail
      refine bodyPost_ret (v := .agg #[.slice A5 (t.log.length + 1) c5, .slice (some ⟨bt, ot, none⟩) xs.length (0)]) (by simp [results, Try.results20, go_sem, r0, r1]) rfl ?_
      have RQ1 : IntsR wb (some ⟨bt, ot, none⟩) xs := by
        have e : xs = [] := List.eq_nil_of_length_eq_zero (by have := HXS.out; have := LB.out; omega)
        rw [e]; exact ints_nil16 _ _
      refine ⟨A5, c5, some ⟨bt, ot, none⟩, 0, ?_, ?_, ?_, ?_, (fun e => by cases e), ?_, G⟩
      · rw [← HXS.out]; rfl
      · rw [GX.out]; exact hR
      · rw [DX.out]; exact ints_off16 (ints_off16 RQ1 (fun a e => by cases e; exact NBT.out) 0 _) (fun a e => by cases e; exact NBT.out) 1 _
      · intro a e; cases e; exact ⟨_, rfl, rfl⟩
      · have := HXS.out; have := LB.out; omega
    · have KF := (Kb.out.set_ 0 (.slice A5 (t.log.length + 1) c5)).set_ 1 (.slice (some ⟨bt, ot + 1, none⟩) xs.length (d - 1))
      have r0 := KF.cell 0
      have r1 := KF.cell 1
      simp only [List.setIfInBounds_toArray, List.set_cons_zero, List.set_cons_succ, List.getElem?_toArray, List.getElem?_cons_zero, List.getElem?_cons_succ] at r0 r1
      have hlt : w.heap.size + 1 < w0.heap.size := K0.out.lt
      have G := grown_set16 (grown_set16 (grown_from16 HBw.out HG2.out) (p := ⟨w.heap.size + 1, 0, none⟩) (by simp) (.slice A5 (t.log.length + 1) c5)) (p := ⟨w.heap.size + 1, 1, none⟩) (by simp) (.slice (some ⟨bt, ot + 1, none⟩) xs.length (d - 1))
      have hR : ((wb.setCell ⟨w.heap.size + 1, 0, none⟩ (.slice A5 (t.log.length + 1) c5)).setCell ⟨w.heap.size + 1, 1, none⟩ (.slice (some ⟨bt, ot + 1, none⟩) xs.length (d - 1))).ownsRow base 3 1 (.slice A5 (t.log.length + 1) c5) (t.log.length + 1) ((t.log ++ [x]).map (Value.int .i64)) := own_off16 (own_off16 R5.out NB5.out 0 _) NB5.out 1 _
      go_wp2_with fail
      refine bodyPost_ret (v := .agg #[.slice A5 (t.log.length + 1) c5, .slice (some ⟨bt, ot + 1, none⟩) xs.length (d - 1)]) (by simp [results, Try.results20, go_sem, r0, r1]) rfl ?_
      have RQ1 : IntsR wb (some ⟨bt, ot + 1, none⟩) xs := by
        exact RQ0.out
      refine ⟨A5, c5, some ⟨bt, ot + 1, none⟩, d - 1, ?_, ?_, ?_, ?_, (fun e => by cases e), ?_, G⟩
      · rw [← HXS.out]; rfl
      · rw [GX.out]; exact hR
      · rw [DX.out]; exact ints_off16 (ints_off16 RQ1 (fun a e => by cases e; exact NBT.out) 0 _) (fun a e => by cases e; exact NBT.out) 1 _
      · intro a e; cases e; exact ⟨_, rfl, rfl⟩
      · have := HXS.out; have := LB.out; omega
end Go.Proofs.Ytimmoaomhilaeaa
