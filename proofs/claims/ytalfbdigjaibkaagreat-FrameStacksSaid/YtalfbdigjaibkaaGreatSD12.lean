/- The document's Method. -/
import Derived.Test.YtalfbdigjaibkaaGreatSCE12
namespace Go.Proofs.YtalfbdigjaibkaaGreat
open Go.RowKit
set_option maxRecDepth 100000
/-- a method and an error are returned -/
def MtP12 (w : World) (x : Mt) (er : Int) (e : Ending) (w' : World) : Prop := ∃ CA cc LA lc, e = .returned (.tuple #[.agg #[.int .i64 x.prim, .int .i64 x.args, .int .i64 x.temps, .slice CA x.code.length cc, .slice LA x.lits.length lc], .int .i64 er]) ∧ InsR w' CA x.code ∧ IntsR w' LA x.lits ∧ Below w.heap.size w w' ∧ ∀ k o s, CA = some ⟨k, o, s⟩ → w.heap.size ≤ k
theorem mb_may12 {h : Hp} {m : Int} (e : mayB h = false) : mb12 h m = false := by unfold mb12; rw [e]; rfl
theorem mb_len12 {h : Hp} {m : Int} (e : (sls12 h m).length ≠ 5) : mb12 h m = false := by unfold mb12; rw [decide_eq_false e]; simp
theorem mb_three12 {h : Hp} {m : Int} (e : kd12 h (sl12 h m 3) 1 = false) : mb12 h m = false := by unfold mb12; rw [e]; simp
theorem mb_four12 {h : Hp} {m : Int} (e : kd12 h (sl12 h m 4) 0 = false) : mb12 h m = false := by unfold mb12; rw [e]; simp
theorem mt_err12 {h : Hp} {m : Int} (e : mb12 h m = false) : mt12 h m = (mt0, 120) := by unfold mt12; rw [if_neg (by rw [e]; decide)]
theorem text_bd12 {h : Hp} {v : Int} (hm : mayB h = true) (hr : refB h.objs.length v = true) : (obAt h v).text.size ≤ 64 ∧ (obAt h v).slots.length ≤ 64 := by
  obtain ⟨i, hi, -, ho⟩ := obAt_get hr
  have := kind_len (ob_kind (may_all hm _ (List.mem_of_getElem? ho)))
  exact ⟨this.2.1, this.1⟩
set_option maxHeartbeats 40000000 in
theorem rmethod_any12 (h : Hp) (m : Int) (A : Option Addr) (c : Nat) (w : World) (hs : ObsR w A h.objs) (fit : h.Fit) : Calls Tryz.prog 12 #[.agg #[.slice A h.objs.length c, .int .i64 h.cap, .int .i64 h.last], .int .i64 m] w (MtP12 w (mt12 h m).1 (mt12 h m).2) := by
  obtain ⟨w0, hw0⟩ : ∃ w0, w0 = (w.alloc (.cells #[Value.slice A h.objs.length c, Value.int .i64 h.cap, Value.int .i64 h.last] 24)).alloc (.cells #[.int .i64 0, .int .i64 0, .int .i64 0, .slice none 0 0, .slice none 0 0] 32) := ⟨_, rfl⟩
  have HB0 : Hid (Below w.heap.size w w0) := by show Below _ _ _; rw [hw0]; exact below_alloc2 _ _ _
  have HX0 : Hid (Lies w0 w.heap.size 24 #[Value.slice A h.objs.length c, Value.int .i64 h.cap, Value.int .i64 h.last]) := by show Lies _ _ _ _; rw [hw0]; exact (Lies.new _ _ _).alloc _
  have HR0 : Hid (Lies w0 (w.heap.size + 1) 32 #[.int .i64 0, .int .i64 0, .int .i64 0, .slice none 0 0, .slice none 0 0]) := by
    show Lies _ _ _ _
    have := Lies.new (w.alloc (.cells #[Value.slice A h.objs.length c, Value.int .i64 h.cap, Value.int .i64 h.last] 24)) 32 #[.int .i64 0, .int .i64 0, .int .i64 0, .slice none 0 0, .slice none 0 0]
    rw [hw0]; simpa using this
  have HS := hid hs
  have HF := hid fit
  clear hs fit
  obtain ⟨l, hl⟩ : ∃ l, l = sls12 h m := ⟨_, rfl⟩
  obtain ⟨R, hR⟩ : ∃ R, R = mt12 h m := ⟨_, rfl⟩
  have HL := hid hl
  have HRR := hid hR
  rw [← hR]
  clear hR
  go_enter Tryz.func12, Tryz.ntmps12
  go_upto_region 1 with fail
  rw [← hw0]
  clear hw0
  obtain ⟨x0, x1, x2⟩ := HX0.out.c3
  go_wp2_with fail
  refine (rslots_any12 h m A c _ (HS.out.below HB0.out)).mono ?_
  rintro e w1 ⟨S, d, rfl, hin, -, hb⟩
  rw [← hl] at hin ⊢
  have HB1 := hid (then_w HB0.out hb)
  have HX1 := hid (HX0.out.later hb)
  have HR1 := hid (HR0.out.later hb)
  have IN1 := hid hin
  clear hb hin hl x0 x1 x2
  obtain ⟨x0, x1, x2⟩ := HX1.out.c3
  go_wp2_with fail
  refine (rmay_any h A c _ (HS.out.below HB1.out) HF.out).mono ?_
  rintro e w2 ⟨rfl, hb⟩
  have HB2 := hid (then_w HB1.out hb)
  have HX2 := hid (HX1.out.later hb)
  have HR2 := hid (HR1.out.later hb)
  have IN2 := hid (IN1.out.below hb)
  clear hb x0 x1 x2
  cases hm : mayB h
  next =>
   have HM : Hid (R = (mt0, 120)) := HRR.out.trans (mt_err12 (mb_may12 hm))
   clear hm
   obtain ⟨r0, r1, r2, r3, r4⟩ := HR2.out.c5
   obtain ⟨f0, f1, f2, f3, f4⟩ := HR2.out.f5
   go_wp2_with fail
   have K0 := (((((HR2.out.set_ 0 (.int .i64 0)).set_ 1 (.int .i64 0)).set_ 2 (.int .i64 0)).set_ 3 (.slice none 0 0)).set_ 4 (.slice none 0 0))
   have s0 := K0.cell 0
   have s1 := K0.cell 1
   have s2 := K0.cell 2
   have s3 := K0.cell 3
   have s4 := K0.cell 4
   simp only [List.setIfInBounds_toArray, List.set_cons_zero, List.set_cons_succ, List.getElem?_toArray, List.getElem?_cons_zero, List.getElem?_cons_succ] at s0 s1 s2 s3 s4
   refine bodyPost_ret (v := .tuple #[.agg #[.int .i64 0, .int .i64 0, .int .i64 0, .slice none 0 0, .slice none 0 0], .int .i64 120]) (by simp [results, Tryz.results12, go_sem, s0, s1, s2, s3, s4]) rfl ?_
   rw [HM.out]
   exact ⟨none, 0, none, 0, rfl, fun h => absurd h (Nat.lt_irrefl 0), fun h => absurd h (Nat.lt_irrefl 0), (((((HB2.out.setCell (p := ⟨w.heap.size + 1, 0, none⟩) (by show w.heap.size ≤ w.heap.size + 1; omega) (.int .i64 0)).setCell (p := ⟨w.heap.size + 1, 1, none⟩) (by show w.heap.size ≤ w.heap.size + 1; omega) (.int .i64 0)).setCell (p := ⟨w.heap.size + 1, 2, none⟩) (by show w.heap.size ≤ w.heap.size + 1; omega) (.int .i64 0)).setCell (p := ⟨w.heap.size + 1, 3, none⟩) (by show w.heap.size ≤ w.heap.size + 1; omega) (.slice none 0 0)).setCell (p := ⟨w.heap.size + 1, 4, none⟩) (by show w.heap.size ≤ w.heap.size + 1; omega) (.slice none 0 0)), fun _ _ _ e => by cases e⟩
  next =>
   have HMAY := hid hm
   clear hm
   by_cases h5 : l.length = 5
   case neg =>
     have HM : Hid (R = (mt0, 120)) := HRR.out.trans (mt_err12 (mb_len12 (by rw [← HL.out]; exact h5)))
     have h5I : ¬ (l.length : Int) = 5 := by omega
     have h5B : ((l.length : Int) == 5) = false := beq_eq_false_iff_ne.2 h5I
     have h5C : ((l.length : Int) != 5) = true := bne_iff_ne.2 h5I
     obtain ⟨r0, r1, r2, r3, r4⟩ := HR2.out.c5
     obtain ⟨f0, f1, f2, f3, f4⟩ := HR2.out.f5
     go_wp2_with fail
     have K0 := (((((HR2.out.set_ 0 (.int .i64 0)).set_ 1 (.int .i64 0)).set_ 2 (.int .i64 0)).set_ 3 (.slice none 0 0)).set_ 4 (.slice none 0 0))
     have s0 := K0.cell 0
     have s1 := K0.cell 1
     have s2 := K0.cell 2
     have s3 := K0.cell 3
     have s4 := K0.cell 4
     simp only [List.setIfInBounds_toArray, List.set_cons_zero, List.set_cons_succ, List.getElem?_toArray, List.getElem?_cons_zero, List.getElem?_cons_succ] at s0 s1 s2 s3 s4
     refine bodyPost_ret (v := .tuple #[.agg #[.int .i64 0, .int .i64 0, .int .i64 0, .slice none 0 0, .slice none 0 0], .int .i64 120]) (by simp [results, Tryz.results12, go_sem, s0, s1, s2, s3, s4]) rfl ?_
     rw [HM.out]
     exact ⟨none, 0, none, 0, rfl, fun h => absurd h (Nat.lt_irrefl 0), fun h => absurd h (Nat.lt_irrefl 0), (((((HB2.out.setCell (p := ⟨w.heap.size + 1, 0, none⟩) (by show w.heap.size ≤ w.heap.size + 1; omega) (.int .i64 0)).setCell (p := ⟨w.heap.size + 1, 1, none⟩) (by show w.heap.size ≤ w.heap.size + 1; omega) (.int .i64 0)).setCell (p := ⟨w.heap.size + 1, 2, none⟩) (by show w.heap.size ≤ w.heap.size + 1; omega) (.int .i64 0)).setCell (p := ⟨w.heap.size + 1, 3, none⟩) (by show w.heap.size ≤ w.heap.size + 1; omega) (.slice none 0 0)).setCell (p := ⟨w.heap.size + 1, 4, none⟩) (by show w.heap.size ≤ w.heap.size + 1; omega) (.slice none 0 0)), fun _ _ _ e => by cases e⟩
   have h5B : ((l.length : Int) != 5) = false := by rw [h5]; rfl
   obtain ⟨bl, ol, rfl, hbl, hcl⟩ := IN2.out (by omega)
   have hp : ∀ k, k < 5 → w2.cell? ⟨bl, ol + k, none⟩ = some (.int .i64 (sl12 h m k)) := fun k hk => hcl k _ (by
     unfold sl12
     rw [← HL.out, List.getElem?_eq_getElem (by omega), List.getD_eq_getElem?_getD, List.getElem?_eq_getElem (by omega)]; rfl)
   obtain ⟨v0, hv0⟩ : ∃ v, v = sl12 h m 0 := ⟨_, rfl⟩
   obtain ⟨v1, hv1⟩ : ∃ v, v = sl12 h m 1 := ⟨_, rfl⟩
   obtain ⟨v2, hv2⟩ : ∃ v, v = sl12 h m 2 := ⟨_, rfl⟩
   obtain ⟨v3, hv3⟩ : ∃ v, v = sl12 h m 3 := ⟨_, rfl⟩
   obtain ⟨v4, hv4⟩ : ∃ v, v = sl12 h m 4 := ⟨_, rfl⟩
   have p0 := hp 0 (by decide)
   have p1 := hp 1 (by decide)
   have p2 := hp 2 (by decide)
   have p3 := hp 3 (by decide)
   have p4 := hp 4 (by decide)
   rw [← hv0] at p0
   rw [← hv1] at p1
   rw [← hv2] at p2
   rw [← hv3] at p3
   rw [← hv4] at p4
   have P0 := hid p0
   have P1 := hid p1
   have P2 := hid p2
   have P3 := hid p3
   have P4 := hid p4
   have V0 := hid hv0
   have V1 := hid hv1
   have V2 := hid hv2
   have V3 := hid hv3
   have V4 := hid hv4
   rw [h5]
   have HL5 := hid h5
   clear hp hcl hbl hv0 hv1 hv2 hv3 hv4 p0 p1 p2 h5
   obtain ⟨x0, x1, x2⟩ := HX2.out.c3
   go_upto_region 4 with fail
   cases hk3 : kd12 h v3 1
   next =>
    have HM : Hid (R = (mt0, 120)) := HRR.out.trans (mt_err12 (mb_three12 (by rw [← V3.out]; exact hk3)))
    have K3 := hid hk3
    clear hk3
    refine wp_region_held_drew (S := (fun w' => w'.cell? ⟨w.heap.size, 0, none⟩ = some (.slice A h.objs.length c) ∧ w'.cell? ⟨w.heap.size, 1, none⟩ = some (.int .i64 h.cap) ∧ w'.cell? ⟨w.heap.size, 2, none⟩ = some (.int .i64 h.last) ∧ w'.cell? ⟨bl, ol + 3, none⟩ = some (.int .i64 v3) ∧ w'.cell? ⟨bl, ol + 4, none⟩ = some (.int .i64 v4) ∧ Below w.heap.size w w' ∧ Below w2.heap.size w2 w')) (by kernel_rfl) ?_ (fun hH0 => ?_)
    next =>
     exact ⟨x0, x1, x2, p3, p4, HB2.out.drew, (Below.refl _ _).drew⟩
    refine tkI 0 ⟨some 22, .load 24 (.tmp 2), 24, "ref.go:40", #[], none⟩ ?v1 rfl (by kernel_rfl) (by rfl) ?y1 ?_
    case y1 => intro w hSw; (try dsimp only at hSw); go_simp; all_goals with_reducible rfl
    try simp only [apt12]
    refine tkI 1 ⟨some 23, .move (.tmp 6), 30, "ref.go:40", #[], none⟩ ?v2 rfl (by kernel_rfl) (by rfl) ?y2 ?_
    case y2 => intro w hSw; (try dsimp only at hSw); go_simp; all_goals with_reducible rfl
    try simp only [apt12]
    refine tkI 2 ⟨some 24, .indexAddr 30 (.tmp 23) (.const (Go.Value.int .i64 3)), 0, "ref.go:40", #[⟨1, .data⟩], none⟩ ?v3 rfl (by kernel_rfl) (by rfl) ?y3 ?_
    case y3 => intro w hSw; (try dsimp only at hSw); go_simp; all_goals with_reducible rfl
    try simp only [apt12]
    refine tkI 3 ⟨some 25, .load 3 (.tmp 24), 3, "ref.go:40", #[⟨2, .data⟩], none⟩ ?v4 rfl (by kernel_rfl) (by rfl) ?y4 ?_
    case y4 => intro w hSw; (try dsimp only at hSw); go_simp; all_goals with_reducible rfl
    try simp only [apt12]
    refine wpAnyH_ready (rs := [4]) (by kernel_rfl) (by simp) ?_
    refine AllReadyH.cons (i := 4) (o := ⟨some 26, .call { callee := .value (.func 38), args := #[.tmp 22, .tmp 25, .const (Go.Value.int .i64 1)], argTypes := #[24, 3, 3] }, 4, "ref.go:40", #[⟨0, .data⟩, ⟨3, .data⟩], none⟩) rfl (fun K hK => ?_) AllReadyH.nil
    go_simp
    go_at_call 38
    refine (rkind_any12 h v3 1 A c _ (HS.out.below hH0.2.2.2.2.2.1)).mono ?_
    rintro e u1 ⟨rfl, hb⟩
    rw [K3.out]
    have HV1 := hid (then_w hH0.2.2.2.2.2.2 hb)
    refine hK.out _ _ ?_ (fun hH1 => ?_)
    next =>
     exact ⟨cell_later hb hH0.1, cell_later hb hH0.2.1, cell_later hb hH0.2.2.1, cell_later hb hH0.2.2.2.1, cell_later hb hH0.2.2.2.2.1, then_w hH0.2.2.2.2.2.1 hb, then_w hH0.2.2.2.2.2.2 hb⟩
    clear hK K
    try simp only [apt12]
    clear hb
    refine tkI 5 ⟨some 27, .unOp .not 4 (.tmp 26), 4, "ref.go:40", #[⟨4, .data⟩], none⟩ ?v5 rfl (by kernel_rfl) (by rfl) ?y5 ?_
    case y5 => intro w hSw; (try dsimp only at hSw); go_simp; all_goals with_reducible rfl
    try simp only [apt12]
    refine tkI 6 ⟨some 28, .move (.tmp 27), 4, "ref.go:40", #[⟨5, .data⟩, ⟨4, .chain⟩], none⟩ ?v6 rfl (by kernel_rfl) (by rfl) ?y6 ?_
    case y6 => intro w hSw; (try dsimp only at hSw); go_simp; all_goals with_reducible rfl
    try simp only [apt12]
    refine tkO 7 ⟨some 29, .load 24 (.tmp 2), 24, "ref.go:40", #[⟨6, .guard⟩], some (6, false)⟩ rfl (by kernel_rfl) (by rfl) ?_
    try simp only [apt12]
    refine tkO 8 ⟨some 30, .move (.tmp 6), 30, "ref.go:40", #[⟨6, .guard⟩], some (6, false)⟩ rfl (by kernel_rfl) (by rfl) ?_
    try simp only [apt12]
    refine tkO 9 ⟨some 31, .indexAddr 30 (.tmp 30) (.const (Go.Value.int .i64 4)), 0, "ref.go:40", #[⟨8, .data⟩, ⟨6, .guard⟩], some (6, false)⟩ rfl (by kernel_rfl) (by rfl) ?_
    try simp only [apt12]
    refine tkO 10 ⟨some 32, .load 3 (.tmp 31), 3, "ref.go:40", #[⟨9, .data⟩, ⟨6, .guard⟩], some (6, false)⟩ rfl (by kernel_rfl) (by rfl) ?_
    try simp only [apt12]
    refine tkO 11 ⟨some 33, .call { callee := .value (.func 38), args := #[.tmp 29, .tmp 32, .const (Go.Value.int .i64 0)], argTypes := #[24, 3, 3] }, 4, "ref.go:40", #[⟨7, .data⟩, ⟨10, .data⟩, ⟨6, .chain⟩, ⟨6, .guard⟩], some (6, false)⟩ rfl (by kernel_rfl) (by rfl) ?_
    try simp only [apt12]
    refine tkO 12 ⟨some 34, .unOp .not 4 (.tmp 33), 4, "ref.go:40", #[⟨11, .data⟩, ⟨6, .guard⟩], some (6, false)⟩ rfl (by kernel_rfl) (by rfl) ?_
    try simp only [apt12]
    refine tkI 13 ⟨some 35, .pick (.tmp 28) (.const (Go.Value.bool true)) (.tmp 34), 4, "ref.go:40", #[⟨6, .data⟩, ⟨12, .data⟩], none⟩ ?v13 rfl (by kernel_rfl) (by rfl) ?y13 ?_
    case y13 => intro w hSw; (try dsimp only at hSw); go_simp; all_goals with_reducible rfl
    try simp only [apt12]
    refine wpAnyH_done (by kernel_rfl) ?_ _
    have HR3 := hid (HR2.out.later HV1.out)
    have HB3 := hid (then_w HB2.out HV1.out)
    obtain ⟨r0, r1, r2, r3, r4⟩ := HR3.out.c5
    obtain ⟨f0, f1, f2, f3, f4⟩ := HR3.out.f5
    go_wp2_with fail
    have K0 := (((((HR3.out.set_ 0 (.int .i64 0)).set_ 1 (.int .i64 0)).set_ 2 (.int .i64 0)).set_ 3 (.slice none 0 0)).set_ 4 (.slice none 0 0))
    have s0 := K0.cell 0
    have s1 := K0.cell 1
    have s2 := K0.cell 2
    have s3 := K0.cell 3
    have s4 := K0.cell 4
    simp only [List.setIfInBounds_toArray, List.set_cons_zero, List.set_cons_succ, List.getElem?_toArray, List.getElem?_cons_zero, List.getElem?_cons_succ] at s0 s1 s2 s3 s4
    refine bodyPost_ret (v := .tuple #[.agg #[.int .i64 0, .int .i64 0, .int .i64 0, .slice none 0 0, .slice none 0 0], .int .i64 120]) (by simp [results, Tryz.results12, go_sem, s0, s1, s2, s3, s4]) rfl ?_
    rw [HM.out]
    exact ⟨none, 0, none, 0, rfl, fun h => absurd h (Nat.lt_irrefl 0), fun h => absurd h (Nat.lt_irrefl 0), (((((HB3.out.setCell (p := ⟨w.heap.size + 1, 0, none⟩) (by show w.heap.size ≤ w.heap.size + 1; omega) (.int .i64 0)).setCell (p := ⟨w.heap.size + 1, 1, none⟩) (by show w.heap.size ≤ w.heap.size + 1; omega) (.int .i64 0)).setCell (p := ⟨w.heap.size + 1, 2, none⟩) (by show w.heap.size ≤ w.heap.size + 1; omega) (.int .i64 0)).setCell (p := ⟨w.heap.size + 1, 3, none⟩) (by show w.heap.size ≤ w.heap.size + 1; omega) (.slice none 0 0)).setCell (p := ⟨w.heap.size + 1, 4, none⟩) (by show w.heap.size ≤ w.heap.size + 1; omega) (.slice none 0 0)), fun _ _ _ e => by cases e⟩
   next =>
    have K3 := hid hk3
    clear hk3
    cases hk4 : kd12 h v4 0
    next =>
     have HM : Hid (R = (mt0, 120)) := HRR.out.trans (mt_err12 (mb_four12 (by rw [← V4.out]; exact hk4)))
     have K4 := hid hk4
     clear hk4
     refine wp_region_held_drew (S := (fun w' => w'.cell? ⟨w.heap.size, 0, none⟩ = some (.slice A h.objs.length c) ∧ w'.cell? ⟨w.heap.size, 1, none⟩ = some (.int .i64 h.cap) ∧ w'.cell? ⟨w.heap.size, 2, none⟩ = some (.int .i64 h.last) ∧ w'.cell? ⟨bl, ol + 3, none⟩ = some (.int .i64 v3) ∧ w'.cell? ⟨bl, ol + 4, none⟩ = some (.int .i64 v4) ∧ Below w.heap.size w w' ∧ Below w2.heap.size w2 w')) (by kernel_rfl) ?_ (fun hH0 => ?_)
     next =>
      exact ⟨x0, x1, x2, p3, p4, HB2.out.drew, (Below.refl _ _).drew⟩
     refine tkI 0 ⟨some 22, .load 24 (.tmp 2), 24, "ref.go:40", #[], none⟩ ?v14 rfl (by kernel_rfl) (by rfl) ?y14 ?_
     case y14 => intro w hSw; (try dsimp only at hSw); go_simp; all_goals with_reducible rfl
     try simp only [apt12]
     refine tkI 1 ⟨some 23, .move (.tmp 6), 30, "ref.go:40", #[], none⟩ ?v15 rfl (by kernel_rfl) (by rfl) ?y15 ?_
     case y15 => intro w hSw; (try dsimp only at hSw); go_simp; all_goals with_reducible rfl
     try simp only [apt12]
     refine tkI 2 ⟨some 24, .indexAddr 30 (.tmp 23) (.const (Go.Value.int .i64 3)), 0, "ref.go:40", #[⟨1, .data⟩], none⟩ ?v16 rfl (by kernel_rfl) (by rfl) ?y16 ?_
     case y16 => intro w hSw; (try dsimp only at hSw); go_simp; all_goals with_reducible rfl
     try simp only [apt12]
     refine tkI 3 ⟨some 25, .load 3 (.tmp 24), 3, "ref.go:40", #[⟨2, .data⟩], none⟩ ?v17 rfl (by kernel_rfl) (by rfl) ?y17 ?_
     case y17 => intro w hSw; (try dsimp only at hSw); go_simp; all_goals with_reducible rfl
     try simp only [apt12]
     refine wpAnyH_ready (rs := [4]) (by kernel_rfl) (by simp) ?_
     refine AllReadyH.cons (i := 4) (o := ⟨some 26, .call { callee := .value (.func 38), args := #[.tmp 22, .tmp 25, .const (Go.Value.int .i64 1)], argTypes := #[24, 3, 3] }, 4, "ref.go:40", #[⟨0, .data⟩, ⟨3, .data⟩], none⟩) rfl (fun K hK => ?_) AllReadyH.nil
     go_simp
     go_at_call 38
     refine (rkind_any12 h v3 1 A c _ (HS.out.below hH0.2.2.2.2.2.1)).mono ?_
     rintro e u1 ⟨rfl, hb⟩
     rw [K3.out]
     have HV1 := hid (then_w hH0.2.2.2.2.2.2 hb)
     refine hK.out _ _ ?_ (fun hH1 => ?_)
     next =>
      exact ⟨cell_later hb hH0.1, cell_later hb hH0.2.1, cell_later hb hH0.2.2.1, cell_later hb hH0.2.2.2.1, cell_later hb hH0.2.2.2.2.1, then_w hH0.2.2.2.2.2.1 hb, then_w hH0.2.2.2.2.2.2 hb⟩
     clear hK K
     try simp only [apt12]
     clear hb
     refine tkI 5 ⟨some 27, .unOp .not 4 (.tmp 26), 4, "ref.go:40", #[⟨4, .data⟩], none⟩ ?v18 rfl (by kernel_rfl) (by rfl) ?y18 ?_
     case y18 => intro w hSw; (try dsimp only at hSw); go_simp; all_goals with_reducible rfl
     try simp only [apt12]
     refine tkI 6 ⟨some 28, .move (.tmp 27), 4, "ref.go:40", #[⟨5, .data⟩, ⟨4, .chain⟩], none⟩ ?v19 rfl (by kernel_rfl) (by rfl) ?y19 ?_
     case y19 => intro w hSw; (try dsimp only at hSw); go_simp; all_goals with_reducible rfl
     try simp only [apt12]
     refine tkI 7 ⟨some 29, .load 24 (.tmp 2), 24, "ref.go:40", #[⟨6, .guard⟩], some (6, false)⟩ ?v20 rfl (by kernel_rfl) (by rfl) ?y20 ?_
     case y20 => intro w hSw; (try dsimp only at hSw); go_simp; all_goals with_reducible rfl
     try simp only [apt12]
     refine tkI 8 ⟨some 30, .move (.tmp 6), 30, "ref.go:40", #[⟨6, .guard⟩], some (6, false)⟩ ?v21 rfl (by kernel_rfl) (by rfl) ?y21 ?_
     case y21 => intro w hSw; (try dsimp only at hSw); go_simp; all_goals with_reducible rfl
     try simp only [apt12]
     refine tkI 9 ⟨some 31, .indexAddr 30 (.tmp 30) (.const (Go.Value.int .i64 4)), 0, "ref.go:40", #[⟨8, .data⟩, ⟨6, .guard⟩], some (6, false)⟩ ?v22 rfl (by kernel_rfl) (by rfl) ?y22 ?_
     case y22 => intro w hSw; (try dsimp only at hSw); go_simp; all_goals with_reducible rfl
     try simp only [apt12]
     refine tkI 10 ⟨some 32, .load 3 (.tmp 31), 3, "ref.go:40", #[⟨9, .data⟩, ⟨6, .guard⟩], some (6, false)⟩ ?v23 rfl (by kernel_rfl) (by rfl) ?y23 ?_
     case y23 => intro w hSw; (try dsimp only at hSw); go_simp; all_goals with_reducible rfl
     try simp only [apt12]
     refine wpAnyH_ready (rs := [11]) (by kernel_rfl) (by simp) ?_
     refine AllReadyH.cons (i := 11) (o := ⟨some 33, .call { callee := .value (.func 38), args := #[.tmp 29, .tmp 32, .const (Go.Value.int .i64 0)], argTypes := #[24, 3, 3] }, 4, "ref.go:40", #[⟨7, .data⟩, ⟨10, .data⟩, ⟨6, .chain⟩, ⟨6, .guard⟩], some (6, false)⟩) rfl (fun K hK => ?_) AllReadyH.nil
     go_simp
     go_at_call 38
     refine (rkind_any12 h v4 0 A c _ (HS.out.below hH1.2.2.2.2.2.1)).mono ?_
     rintro e u2 ⟨rfl, hb⟩
     rw [K4.out]
     have HV2 := hid (then_w hH1.2.2.2.2.2.2 hb)
     refine hK.out _ _ ?_ (fun hH2 => ?_)
     next =>
      exact ⟨cell_later hb hH1.1, cell_later hb hH1.2.1, cell_later hb hH1.2.2.1, cell_later hb hH1.2.2.2.1, cell_later hb hH1.2.2.2.2.1, then_w hH1.2.2.2.2.2.1 hb, then_w hH1.2.2.2.2.2.2 hb⟩
     clear hK K
     try simp only [apt12]
     clear hb
     refine tkI 12 ⟨some 34, .unOp .not 4 (.tmp 33), 4, "ref.go:40", #[⟨11, .data⟩, ⟨6, .guard⟩], some (6, false)⟩ ?v24 rfl (by kernel_rfl) (by rfl) ?y24 ?_
     case y24 => intro w hSw; (try dsimp only at hSw); go_simp; all_goals with_reducible rfl
     try simp only [apt12]
     refine tkI 13 ⟨some 35, .pick (.tmp 28) (.const (Go.Value.bool true)) (.tmp 34), 4, "ref.go:40", #[⟨6, .data⟩, ⟨12, .data⟩], none⟩ ?v25 rfl (by kernel_rfl) (by rfl) ?y25 ?_
     case y25 => intro w hSw; (try dsimp only at hSw); go_simp; all_goals with_reducible rfl
     try simp only [apt12]
     refine wpAnyH_done (by kernel_rfl) ?_ _
     have HR3 := hid (HR2.out.later HV2.out)
     have HB3 := hid (then_w HB2.out HV2.out)
     obtain ⟨r0, r1, r2, r3, r4⟩ := HR3.out.c5
     obtain ⟨f0, f1, f2, f3, f4⟩ := HR3.out.f5
     go_wp2_with fail
     have K0 := (((((HR3.out.set_ 0 (.int .i64 0)).set_ 1 (.int .i64 0)).set_ 2 (.int .i64 0)).set_ 3 (.slice none 0 0)).set_ 4 (.slice none 0 0))
     have s0 := K0.cell 0
     have s1 := K0.cell 1
     have s2 := K0.cell 2
     have s3 := K0.cell 3
     have s4 := K0.cell 4
     simp only [List.setIfInBounds_toArray, List.set_cons_zero, List.set_cons_succ, List.getElem?_toArray, List.getElem?_cons_zero, List.getElem?_cons_succ] at s0 s1 s2 s3 s4
     refine bodyPost_ret (v := .tuple #[.agg #[.int .i64 0, .int .i64 0, .int .i64 0, .slice none 0 0, .slice none 0 0], .int .i64 120]) (by simp [results, Tryz.results12, go_sem, s0, s1, s2, s3, s4]) rfl ?_
     rw [HM.out]
     exact ⟨none, 0, none, 0, rfl, fun h => absurd h (Nat.lt_irrefl 0), fun h => absurd h (Nat.lt_irrefl 0), (((((HB3.out.setCell (p := ⟨w.heap.size + 1, 0, none⟩) (by show w.heap.size ≤ w.heap.size + 1; omega) (.int .i64 0)).setCell (p := ⟨w.heap.size + 1, 1, none⟩) (by show w.heap.size ≤ w.heap.size + 1; omega) (.int .i64 0)).setCell (p := ⟨w.heap.size + 1, 2, none⟩) (by show w.heap.size ≤ w.heap.size + 1; omega) (.int .i64 0)).setCell (p := ⟨w.heap.size + 1, 3, none⟩) (by show w.heap.size ≤ w.heap.size + 1; omega) (.slice none 0 0)).setCell (p := ⟨w.heap.size + 1, 4, none⟩) (by show w.heap.size ≤ w.heap.size + 1; omega) (.slice none 0 0)), fun _ _ _ e => by cases e⟩
    next =>
     have K4 := hid hk4
     clear hk4
     refine wp_region_held_drew (S := (fun w' => w'.cell? ⟨w.heap.size, 0, none⟩ = some (.slice A h.objs.length c) ∧ w'.cell? ⟨w.heap.size, 1, none⟩ = some (.int .i64 h.cap) ∧ w'.cell? ⟨w.heap.size, 2, none⟩ = some (.int .i64 h.last) ∧ w'.cell? ⟨bl, ol + 3, none⟩ = some (.int .i64 v3) ∧ w'.cell? ⟨bl, ol + 4, none⟩ = some (.int .i64 v4) ∧ Below w.heap.size w w' ∧ Below w2.heap.size w2 w')) (by kernel_rfl) ?_ (fun hH0 => ?_)
     next =>
      exact ⟨x0, x1, x2, p3, p4, HB2.out.drew, (Below.refl _ _).drew⟩
     refine tkI 0 ⟨some 22, .load 24 (.tmp 2), 24, "ref.go:40", #[], none⟩ ?v26 rfl (by kernel_rfl) (by rfl) ?y26 ?_
     case y26 => intro w hSw; (try dsimp only at hSw); go_simp; all_goals with_reducible rfl
     try simp only [apt12]
     refine tkI 1 ⟨some 23, .move (.tmp 6), 30, "ref.go:40", #[], none⟩ ?v27 rfl (by kernel_rfl) (by rfl) ?y27 ?_
     case y27 => intro w hSw; (try dsimp only at hSw); go_simp; all_goals with_reducible rfl
     try simp only [apt12]
     refine tkI 2 ⟨some 24, .indexAddr 30 (.tmp 23) (.const (Go.Value.int .i64 3)), 0, "ref.go:40", #[⟨1, .data⟩], none⟩ ?v28 rfl (by kernel_rfl) (by rfl) ?y28 ?_
     case y28 => intro w hSw; (try dsimp only at hSw); go_simp; all_goals with_reducible rfl
     try simp only [apt12]
     refine tkI 3 ⟨some 25, .load 3 (.tmp 24), 3, "ref.go:40", #[⟨2, .data⟩], none⟩ ?v29 rfl (by kernel_rfl) (by rfl) ?y29 ?_
     case y29 => intro w hSw; (try dsimp only at hSw); go_simp; all_goals with_reducible rfl
     try simp only [apt12]
     refine wpAnyH_ready (rs := [4]) (by kernel_rfl) (by simp) ?_
     refine AllReadyH.cons (i := 4) (o := ⟨some 26, .call { callee := .value (.func 38), args := #[.tmp 22, .tmp 25, .const (Go.Value.int .i64 1)], argTypes := #[24, 3, 3] }, 4, "ref.go:40", #[⟨0, .data⟩, ⟨3, .data⟩], none⟩) rfl (fun K hK => ?_) AllReadyH.nil
     go_simp
     go_at_call 38
     refine (rkind_any12 h v3 1 A c _ (HS.out.below hH0.2.2.2.2.2.1)).mono ?_
     rintro e u1 ⟨rfl, hb⟩
     rw [K3.out]
     have HV1 := hid (then_w hH0.2.2.2.2.2.2 hb)
     refine hK.out _ _ ?_ (fun hH1 => ?_)
     next =>
      exact ⟨cell_later hb hH0.1, cell_later hb hH0.2.1, cell_later hb hH0.2.2.1, cell_later hb hH0.2.2.2.1, cell_later hb hH0.2.2.2.2.1, then_w hH0.2.2.2.2.2.1 hb, then_w hH0.2.2.2.2.2.2 hb⟩
     clear hK K
     try simp only [apt12]
     clear hb
     refine tkI 5 ⟨some 27, .unOp .not 4 (.tmp 26), 4, "ref.go:40", #[⟨4, .data⟩], none⟩ ?v30 rfl (by kernel_rfl) (by rfl) ?y30 ?_
     case y30 => intro w hSw; (try dsimp only at hSw); go_simp; all_goals with_reducible rfl
     try simp only [apt12]
     refine tkI 6 ⟨some 28, .move (.tmp 27), 4, "ref.go:40", #[⟨5, .data⟩, ⟨4, .chain⟩], none⟩ ?v31 rfl (by kernel_rfl) (by rfl) ?y31 ?_
     case y31 => intro w hSw; (try dsimp only at hSw); go_simp; all_goals with_reducible rfl
     try simp only [apt12]
     refine tkI 7 ⟨some 29, .load 24 (.tmp 2), 24, "ref.go:40", #[⟨6, .guard⟩], some (6, false)⟩ ?v32 rfl (by kernel_rfl) (by rfl) ?y32 ?_
     case y32 => intro w hSw; (try dsimp only at hSw); go_simp; all_goals with_reducible rfl
     try simp only [apt12]
     refine tkI 8 ⟨some 30, .move (.tmp 6), 30, "ref.go:40", #[⟨6, .guard⟩], some (6, false)⟩ ?v33 rfl (by kernel_rfl) (by rfl) ?y33 ?_
     case y33 => intro w hSw; (try dsimp only at hSw); go_simp; all_goals with_reducible rfl
     try simp only [apt12]
     refine tkI 9 ⟨some 31, .indexAddr 30 (.tmp 30) (.const (Go.Value.int .i64 4)), 0, "ref.go:40", #[⟨8, .data⟩, ⟨6, .guard⟩], some (6, false)⟩ ?v34 rfl (by kernel_rfl) (by rfl) ?y34 ?_
     case y34 => intro w hSw; (try dsimp only at hSw); go_simp; all_goals with_reducible rfl
     try simp only [apt12]
     refine tkI 10 ⟨some 32, .load 3 (.tmp 31), 3, "ref.go:40", #[⟨9, .data⟩, ⟨6, .guard⟩], some (6, false)⟩ ?v35 rfl (by kernel_rfl) (by rfl) ?y35 ?_
     case y35 => intro w hSw; (try dsimp only at hSw); go_simp; all_goals with_reducible rfl
     try simp only [apt12]
     refine wpAnyH_ready (rs := [11]) (by kernel_rfl) (by simp) ?_
     refine AllReadyH.cons (i := 11) (o := ⟨some 33, .call { callee := .value (.func 38), args := #[.tmp 29, .tmp 32, .const (Go.Value.int .i64 0)], argTypes := #[24, 3, 3] }, 4, "ref.go:40", #[⟨7, .data⟩, ⟨10, .data⟩, ⟨6, .chain⟩, ⟨6, .guard⟩], some (6, false)⟩) rfl (fun K hK => ?_) AllReadyH.nil
     go_simp
     go_at_call 38
     refine (rkind_any12 h v4 0 A c _ (HS.out.below hH1.2.2.2.2.2.1)).mono ?_
     rintro e u2 ⟨rfl, hb⟩
     rw [K4.out]
     have HV2 := hid (then_w hH1.2.2.2.2.2.2 hb)
     refine hK.out _ _ ?_ (fun hH2 => ?_)
     next =>
      exact ⟨cell_later hb hH1.1, cell_later hb hH1.2.1, cell_later hb hH1.2.2.1, cell_later hb hH1.2.2.2.1, cell_later hb hH1.2.2.2.2.1, then_w hH1.2.2.2.2.2.1 hb, then_w hH1.2.2.2.2.2.2 hb⟩
     clear hK K
     try simp only [apt12]
     clear hb
     refine tkI 12 ⟨some 34, .unOp .not 4 (.tmp 33), 4, "ref.go:40", #[⟨11, .data⟩, ⟨6, .guard⟩], some (6, false)⟩ ?v36 rfl (by kernel_rfl) (by rfl) ?y36 ?_
     case y36 => intro w hSw; (try dsimp only at hSw); go_simp; all_goals with_reducible rfl
     try simp only [apt12]
     refine tkI 13 ⟨some 35, .pick (.tmp 28) (.const (Go.Value.bool true)) (.tmp 34), 4, "ref.go:40", #[⟨6, .data⟩, ⟨12, .data⟩], none⟩ ?v37 rfl (by kernel_rfl) (by rfl) ?y37 ?_
     case y37 => intro w hSw; (try dsimp only at hSw); go_simp; all_goals with_reducible rfl
     try simp only [apt12]
     refine wpAnyH_done (by kernel_rfl) ?_ _
     have HR3 := hid (HR2.out.later HV2.out)
     have HX3 := hid (HX2.out.later HV2.out)
     have HB3 := hid (then_w HB2.out HV2.out)
     obtain ⟨w3, hw3⟩ : ∃ u, u = u2 := ⟨_, rfl⟩
     subst hw3
     obtain ⟨hr3, -⟩ := kd_ref12 K3.out
     obtain ⟨i, b, off, S3, d3, hi, hil, rfl, hc, -, -, hblt⟩ := ob_read12 HS.out HB3.out hr3
     have hilI : (i : Int) < (h.objs.length : Int) := by omega
     have hi0 : (0 : Int) ≤ (i : Int) := by omega
     have ht := (text_bd12 HMAY.out hr3).1
     obtain ⟨btx, hbtx⟩ : ∃ t, t = (obAt h v3).text.data.toList := ⟨_, rfl⟩
     have y3 : w3.cell? ⟨b, off + i * 6 + 3, none⟩ = some (.string (str btx)) := by rw [hbtx, str_list]; exact hc.c3
     have HBL : Hid (btx.length ≤ 1000) := by
       show _ ≤ _
       have e : (obAt h v3).text.data.toList.length = (obAt h v3).text.size := rfl
       rw [hbtx, e]; omega
     obtain ⟨cd, ce, hU⟩ : ∃ a b, Up11 btx = (a, b) := ⟨_, _, rfl⟩
     have HCD : Hid (cd12 h m = (cd, ce)) := by show _ = _; unfold cd12; rw [← V3.out, ← hbtx, hU]
     have HU := hid hU
     have HI := hid hi
     have q3 := cell_later HV2.out P3.out
     clear hr3 hi hil hc hblt ht hbtx hU x0 x1 x2 p3 p4
     obtain ⟨x0, x1, x2⟩ := HX3.out.c3
     go_upto_region 6 with fail
     refine wp_region_held_drew (S := (fun w' => w'.cell? ⟨w.heap.size, 0, none⟩ = some (.slice (some ⟨b, off, none⟩) h.objs.length c) ∧ w'.cell? ⟨w.heap.size, 1, none⟩ = some (.int .i64 h.cap) ∧ w'.cell? ⟨w.heap.size, 2, none⟩ = some (.int .i64 h.last) ∧ w'.cell? ⟨bl, ol + 3, none⟩ = some (.int .i64 v3) ∧ w'.cell? ⟨b, off + i * 6 + 3, none⟩ = some (.string (str btx)) ∧ Below w.heap.size w w' ∧ Below w3.heap.size w3 w')) (by kernel_rfl) ?_ (fun hH0 => ?_)
     next =>
      exact ⟨x0, x1, x2, q3, y3, HB3.out.drew, (Below.refl _ _).drew⟩
     refine tkI 0 ⟨some 38, .fieldAddr 24 (.tmp 2) 0, 0, "ref.go:43", #[], none⟩ ?v38 rfl (by kernel_rfl) (by rfl) ?y38 ?_
     case y38 => intro w hSw; (try dsimp only at hSw); go_simp; all_goals with_reducible rfl
     try simp only [apt12]
     refine tkI 1 ⟨some 39, .load 22 (.tmp 38), 22, "ref.go:43", #[⟨0, .data⟩], none⟩ ?v39 rfl (by kernel_rfl) (by rfl) ?y39 ?_
     case y39 => intro w hSw; (try dsimp only at hSw); go_simp; all_goals with_reducible rfl
     try simp only [apt12]
     refine tkI 2 ⟨some 40, .load 24 (.tmp 2), 24, "ref.go:43", #[], none⟩ ?v40 rfl (by kernel_rfl) (by rfl) ?y40 ?_
     case y40 => intro w hSw; (try dsimp only at hSw); go_simp; all_goals with_reducible rfl
     try simp only [apt12]
     refine tkI 3 ⟨some 41, .move (.tmp 6), 30, "ref.go:43", #[], none⟩ ?v41 rfl (by kernel_rfl) (by rfl) ?y41 ?_
     case y41 => intro w hSw; (try dsimp only at hSw); go_simp; all_goals with_reducible rfl
     try simp only [apt12]
     refine tkI 4 ⟨some 42, .indexAddr 30 (.tmp 41) (.const (Go.Value.int .i64 3)), 0, "ref.go:43", #[⟨3, .data⟩], none⟩ ?v42 rfl (by kernel_rfl) (by rfl) ?y42 ?_
     case y42 => intro w hSw; (try dsimp only at hSw); go_simp; all_goals with_reducible rfl
     try simp only [apt12]
     refine tkI 5 ⟨some 43, .load 3 (.tmp 42), 3, "ref.go:43", #[⟨4, .data⟩], none⟩ ?v43 rfl (by kernel_rfl) (by rfl) ?y43 ?_
     case y43 => intro w hSw; (try dsimp only at hSw); go_simp; all_goals with_reducible rfl
     try simp only [apt12]
     refine wpAnyH_ready (rs := [6]) (by kernel_rfl) (by simp) ?_
     refine AllReadyH.cons (i := 6) (o := ⟨some 44, .call { callee := .value (.func 40), args := #[.tmp 40, .tmp 43], argTypes := #[24, 3] }, 3, "ref.go:43", #[⟨2, .data⟩, ⟨5, .data⟩], none⟩) rfl (fun K hK => ?_) AllReadyH.nil
     go_simp
     go_at_call 40
     refine (rref_any h v3 _ c _).mono ?_
     rintro e t1 ⟨rfl, hb⟩
     rw [HI.out]
     refine hK.out _ _ ?_ (fun hH1 => ?_)
     next =>
      exact ⟨cell_later hb hH0.1, cell_later hb hH0.2.1, cell_later hb hH0.2.2.1, cell_later hb hH0.2.2.2.1, cell_later hb hH0.2.2.2.2.1, then_w hH0.2.2.2.2.2.1 hb, then_w hH0.2.2.2.2.2.2 hb⟩
     clear hK K
     try simp only [apt12]
     clear hb
     refine tkI 7 ⟨some 45, .indexAddr 22 (.tmp 39) (.tmp 44), 0, "ref.go:43", #[⟨1, .data⟩, ⟨6, .data⟩], none⟩ ?v44 rfl (by kernel_rfl) (by rfl) ?y44 ?_
     case y44 => intro w hSw; (try dsimp only at hSw); go_simp; all_goals with_reducible rfl
     try simp only [apt12]
     refine tkI 8 ⟨some 46, .fieldAddr 60 (.tmp 45) 3, 0, "ref.go:43", #[⟨7, .data⟩], none⟩ ?v45 rfl (by kernel_rfl) (by rfl) ?y45 ?_
     case y45 => intro w hSw; (try dsimp only at hSw); go_simp; all_goals with_reducible rfl
     try simp only [apt12]
     refine tkI 9 ⟨some 47, .load 9 (.tmp 46), 9, "ref.go:43", #[⟨8, .data⟩], none⟩ ?v46 rfl (by kernel_rfl) (by rfl) ?y46 ?_
     case y46 => intro w hSw; (try dsimp only at hSw); go_simp; all_goals with_reducible rfl
     try simp only [apt12]
     refine wpAnyH_ready (rs := [10]) (by kernel_rfl) (by simp) ?_
     refine AllReadyH.cons (i := 10) (o := ⟨some 48, .call { callee := .value (.func 39), args := #[.tmp 47], argTypes := #[9] }, 63, "ref.go:43", #[⟨9, .data⟩, ⟨6, .chain⟩], none⟩) rfl (fun K hK => ?_) AllReadyH.nil
     go_simp
     go_at_call 39
     refine (unpack_new12 btx _ HBL.out).mono ?_
     rintro e t2 ⟨CA, cc, he, hins, hb, hfr⟩
     rw [HU.out] at he hins
     subst he
     have HIN := hid hins
     have HFC : Hid (∀ k o s, CA = some ⟨k, o, s⟩ → w3.heap.size ≤ k) := fun k o s e => Nat.le_trans (Below.size hH1.2.2.2.2.2.2) (hfr k o s e)
     refine hK.out _ _ ?_ (fun hH2 => ?_)
     next =>
      exact ⟨cell_later hb hH1.1, cell_later hb hH1.2.1, cell_later hb hH1.2.2.1, cell_later hb hH1.2.2.2.1, cell_later hb hH1.2.2.2.2.1, then_w hH1.2.2.2.2.2.1 hb, then_w hH1.2.2.2.2.2.2 hb⟩
     clear hK K
     try simp only
     clear hb hins hfr
     refine tkI 11 ⟨some 37, .move (.tmp 48), 63, "ref.go:43", #[⟨10, .data⟩], none⟩ ?v47 rfl (by kernel_rfl) (by rfl) ?y47 ?_
     case y47 => intro w hSw; (try dsimp only at hSw); go_simp; all_goals with_reducible rfl
     try simp only [apt12]
     refine tkI 12 ⟨some 49, .extract (.tmp 37) 0, 29, "ref.go:43", #[⟨11, .data⟩], none⟩ ?v48 rfl (by kernel_rfl) (by rfl) ?y48 ?_
     case y48 => intro w hSw; (try dsimp only at hSw); go_simp; all_goals with_reducible rfl
     try simp only [apt12]
     refine tkI 13 ⟨some 50, .extract (.tmp 37) 1, 33, "ref.go:43", #[⟨11, .data⟩, ⟨14, .gcOnly .lateStores⟩], none⟩ ?v49 rfl (by kernel_rfl) (by rfl) ?y49 ?_
     case y49 => intro w hSw; (try dsimp only at hSw); go_simp; all_goals with_reducible rfl
     try simp only [apt12]
     refine tkI 14 ⟨some 7, .assign (.tmp 49), 29, "ref.go:43", #[⟨12, .data⟩, ⟨10, .chain⟩, ⟨0, .phase⟩, ⟨1, .phase⟩, ⟨2, .phase⟩, ⟨3, .phase⟩, ⟨4, .phase⟩, ⟨5, .phase⟩, ⟨6, .phase⟩, ⟨7, .phase⟩, ⟨8, .phase⟩, ⟨9, .phase⟩, ⟨10, .phase⟩, ⟨11, .phase⟩, ⟨12, .phase⟩, ⟨13, .textOnly .lateStores⟩], none⟩ ?v50 rfl (by kernel_rfl) (by rfl) ?y50 ?_
     case y50 => intro w hSw; (try dsimp only at hSw); go_simp; all_goals with_reducible rfl
     try simp only [apt12]
     refine tkI 15 ⟨some 8, .assign (.tmp 50), 33, "ref.go:43", #[⟨13, .data⟩, ⟨14, .chain⟩, ⟨0, .phase⟩, ⟨1, .phase⟩, ⟨2, .phase⟩, ⟨3, .phase⟩, ⟨4, .phase⟩, ⟨5, .phase⟩, ⟨6, .phase⟩, ⟨7, .phase⟩, ⟨8, .phase⟩, ⟨9, .phase⟩, ⟨10, .phase⟩, ⟨11, .phase⟩, ⟨12, .phase⟩, ⟨13, .phase⟩, ⟨14, .phase⟩], none⟩ ?v51 rfl (by kernel_rfl) (by rfl) ?y51 ?_
     case y51 => intro w hSw; (try dsimp only at hSw); go_simp; all_goals with_reducible rfl
     try simp only [apt12]
     refine wpAnyH_done (by kernel_rfl) ?_ _
     obtain ⟨w4, hw4⟩ : ∃ u, u = t2 := ⟨_, rfl⟩
     subst hw4
     have HB4 := hid hH2.2.2.2.2.2.1
     have HD4 := hid hH2.2.2.2.2.2.2
     have HX4 := hid (HX3.out.later HD4.out)
     have HR4 := hid (HR3.out.later HD4.out)
     have X0 := hid hH2.1
     have X1 := hid hH2.2.1
     have X2 := hid hH2.2.2.1
     have P0 := hid (cell_later (then_w HV2.out HD4.out) P0.out)
     have P1 := hid (cell_later (then_w HV2.out HD4.out) P1.out)
     have P2 := hid (cell_later (then_w HV2.out HD4.out) P2.out)
     have P4 := hid (cell_later (then_w HV2.out HD4.out) P4.out)
     obtain ⟨a0, ha0⟩ : ∃ x, x = sm12 v0 63 := ⟨_, rfl⟩
     obtain ⟨a1, ha1⟩ : ∃ x, x = sm12 v1 4 := ⟨_, rfl⟩
     obtain ⟨a2, ha2⟩ : ∃ x, x = sm12 v2 8 := ⟨_, rfl⟩
     obtain ⟨lits, hlt⟩ : ∃ x, x = sls12 h v4 := ⟨_, rfl⟩
     have HLL : Hid (lits.length ≤ 64) := by
       show _ ≤ _
       rw [hlt]
       have hk4 := K4.out
       unfold sls12
       rw [if_pos hk4]
       exact (text_bd12 HMAY.out (kd_ref12 hk4).1).2
     have A0 := hid ha0
     have A1 := hid ha1
     have A2 := hid ha2
     have HLT := hid hlt
     clear ha0 ha1 ha2 hlt hH2
     go_upto_region 7 with fail
     go_cut [9] from 51 to 71 (fun p wx => ∃ bx LA lc, p = .pointer (some ⟨bx, 0, none⟩) ∧ Hid (Lies wx bx 32 #[.int .i64 a0, .int .i64 a1, .int .i64 a2, .slice CA cd.length cc, .slice LA lits.length lc]) ∧ Hid (IntsR wx LA lits) ∧ Hid (∀ k o s, LA = some ⟨k, o, s⟩ → w4.heap.size ≤ k) ∧ Hid (Below w4.heap.size w4 wx))
     case first =>
       clear HL HRR HL5 P3 V0 V1 V2 V3 V4 K3 K4 HMAY HF HB0 HX0 HR0 HB1 HX1 HR1 HB2 HX2 HR2 HB3 HX3 HR3 HX4 HR4 HD4 HI HU HBL HCD HIN
       have BB0 := hid ((Below.refl w4.heap.size w4).drew)
       have z0 := cell_later BB0.out X0.out
       have z1 := cell_later BB0.out X1.out
       have z2 := cell_later BB0.out X2.out
       have z3 := cell_later BB0.out P0.out
       have z4 := cell_later BB0.out P1.out
       have z5 := cell_later BB0.out P2.out
       have z6 := cell_later BB0.out P4.out
       have KP := hid (fun u (hb : Below w4.heap.size w4 u) => show (fun w' => w'.cell? ⟨w.heap.size, 0, none⟩ = some (.slice (some ⟨b, off, none⟩) h.objs.length c) ∧ w'.cell? ⟨w.heap.size, 1, none⟩ = some (.int .i64 h.cap) ∧ w'.cell? ⟨w.heap.size, 2, none⟩ = some (.int .i64 h.last) ∧ w'.cell? ⟨bl, ol, none⟩ = some (.int .i64 v0) ∧ w'.cell? ⟨bl, ol + 1, none⟩ = some (.int .i64 v1) ∧ w'.cell? ⟨bl, ol + 2, none⟩ = some (.int .i64 v2) ∧ w'.cell? ⟨bl, ol + 4, none⟩ = some (.int .i64 v4)) u from ⟨cell_later hb X0.out, cell_later hb X1.out, cell_later hb X2.out, cell_later hb P0.out, cell_later hb P1.out, cell_later hb P2.out, cell_later hb P4.out⟩)
       refine wp_region_held_drew (S := (fun w' => w'.cell? ⟨w.heap.size, 0, none⟩ = some (.slice (some ⟨b, off, none⟩) h.objs.length c) ∧ w'.cell? ⟨w.heap.size, 1, none⟩ = some (.int .i64 h.cap) ∧ w'.cell? ⟨w.heap.size, 2, none⟩ = some (.int .i64 h.last) ∧ w'.cell? ⟨bl, ol, none⟩ = some (.int .i64 v0) ∧ w'.cell? ⟨bl, ol + 1, none⟩ = some (.int .i64 v1) ∧ w'.cell? ⟨bl, ol + 2, none⟩ = some (.int .i64 v2) ∧ w'.cell? ⟨bl, ol + 4, none⟩ = some (.int .i64 v4))) (by kernel_rfl) ?_ (fun hH0 => ?_)
       next =>
        exact ⟨cell_later BB0.out X0.out, cell_later BB0.out X1.out, cell_later BB0.out X2.out, cell_later BB0.out P0.out, cell_later BB0.out P1.out, cell_later BB0.out P2.out, cell_later BB0.out P4.out⟩
       refine tkI 0 ⟨some 51, .move (.tmp 6), 30, "ref.go:44", #[], none⟩ ?v52 rfl (by kernel_rfl) (by rfl) ?y52 ?_
       case y52 => intro w hSw; (try dsimp only at hSw); go_simp; all_goals with_reducible rfl
       try simp only [apt12]
       refine tkI 1 ⟨some 52, .indexAddr 30 (.tmp 51) (.const (Go.Value.int .i64 0)), 0, "ref.go:44", #[⟨0, .data⟩], none⟩ ?v53 rfl (by kernel_rfl) (by rfl) ?y53 ?_
       case y53 => intro w hSw; (try dsimp only at hSw); go_simp; all_goals with_reducible rfl
       try simp only [apt12]
       refine tkI 2 ⟨some 53, .load 3 (.tmp 52), 3, "ref.go:44", #[⟨1, .data⟩], none⟩ ?v54 rfl (by kernel_rfl) (by rfl) ?y54 ?_
       case y54 => intro w hSw; (try dsimp only at hSw); go_simp; all_goals with_reducible rfl
       try simp only [apt12]
       refine tkI 4 ⟨some 55, .move (.tmp 6), 30, "ref.go:44", #[], none⟩ ?v55 rfl (by kernel_rfl) (by rfl) ?y55 ?_
       case y55 => intro w hSw; (try dsimp only at hSw); go_simp; all_goals with_reducible rfl
       try simp only [apt12]
       refine tkI 5 ⟨some 56, .indexAddr 30 (.tmp 55) (.const (Go.Value.int .i64 1)), 0, "ref.go:44", #[⟨4, .data⟩], none⟩ ?v56 rfl (by kernel_rfl) (by rfl) ?y56 ?_
       case y56 => intro w hSw; (try dsimp only at hSw); go_simp; all_goals with_reducible rfl
       try simp only [apt12]
       refine tkI 6 ⟨some 57, .load 3 (.tmp 56), 3, "ref.go:44", #[⟨5, .data⟩], none⟩ ?v57 rfl (by kernel_rfl) (by rfl) ?y57 ?_
       case y57 => intro w hSw; (try dsimp only at hSw); go_simp; all_goals with_reducible rfl
       try simp only [apt12]
       refine tkI 8 ⟨some 59, .move (.tmp 6), 30, "ref.go:44", #[], none⟩ ?v58 rfl (by kernel_rfl) (by rfl) ?y58 ?_
       case y58 => intro w hSw; (try dsimp only at hSw); go_simp; all_goals with_reducible rfl
       try simp only [apt12]
       refine tkI 9 ⟨some 60, .indexAddr 30 (.tmp 59) (.const (Go.Value.int .i64 2)), 0, "ref.go:44", #[⟨8, .data⟩], none⟩ ?v59 rfl (by kernel_rfl) (by rfl) ?y59 ?_
       case y59 => intro w hSw; (try dsimp only at hSw); go_simp; all_goals with_reducible rfl
       try simp only [apt12]
       refine tkI 10 ⟨some 61, .load 3 (.tmp 60), 3, "ref.go:44", #[⟨9, .data⟩], none⟩ ?v60 rfl (by kernel_rfl) (by rfl) ?y60 ?_
       case y60 => intro w hSw; (try dsimp only at hSw); go_simp; all_goals with_reducible rfl
       try simp only [apt12]
       refine tkI 12 ⟨some 63, .move (.tmp 7), 29, "ref.go:44", #[], none⟩ ?v61 rfl (by kernel_rfl) (by rfl) ?y61 ?_
       case y61 => intro w hSw; (try dsimp only at hSw); go_simp; all_goals with_reducible rfl
       try simp only [apt12]
       refine tkI 14 ⟨some 65, .load 24 (.tmp 2), 24, "ref.go:44", #[], none⟩ ?v62 rfl (by kernel_rfl) (by rfl) ?y62 ?_
       case y62 => intro w hSw; (try dsimp only at hSw); go_simp; all_goals with_reducible rfl
       try simp only [apt12]
       refine tkI 15 ⟨some 66, .move (.tmp 6), 30, "ref.go:44", #[], none⟩ ?v63 rfl (by kernel_rfl) (by rfl) ?y63 ?_
       case y63 => intro w hSw; (try dsimp only at hSw); go_simp; all_goals with_reducible rfl
       try simp only [apt12]
       refine tkI 16 ⟨some 67, .indexAddr 30 (.tmp 66) (.const (Go.Value.int .i64 4)), 0, "ref.go:44", #[⟨15, .data⟩], none⟩ ?v64 rfl (by kernel_rfl) (by rfl) ?y64 ?_
       case y64 => intro w hSw; (try dsimp only at hSw); go_simp; all_goals with_reducible rfl
       try simp only [apt12]
       refine tkI 17 ⟨some 68, .load 3 (.tmp 67), 3, "ref.go:44", #[⟨16, .data⟩], none⟩ ?v65 rfl (by kernel_rfl) (by rfl) ?y65 ?_
       case y65 => intro w hSw; (try dsimp only at hSw); go_simp; all_goals with_reducible rfl
       try simp only [apt12]
       refine wpAnyH_ready (rs := [3, 13, 21]) (by kernel_rfl) (by simp) ?_
       refine AllReadyH.cons (i := 3) (o := ⟨some 54, .call { callee := .value (.func 41), args := #[.tmp 53, .const (Go.Value.int .i64 63)], argTypes := #[3, 3] }, 3, "ref.go:44", #[⟨2, .data⟩], none⟩) rfl (fun K hK => ?_) (AllReadyH.cons (i := 13) (o := ⟨some 64, .buildSlice 30 0 #[], 30, "ref.go:44", #[], none⟩) rfl (fun K hK => ?_) (AllReadyH.cons (i := 21) (o := ⟨some 9, .alloc 32, 0, "ref.go:44", #[], none⟩) rfl (fun K hK => ?_) AllReadyH.nil))
       next =>
        go_simp
        go_at_call 41
        refine (rsmall_any12 v0 63 _).mono ?_
        rintro e u1 ⟨rfl, hu⟩
        subst hu
        rw [← A0.out]
        refine hK.out _ _ ?_ (fun hH1 => ?_)
        next =>
         exact hH0
        clear hK K
        try simp only [apt12]
        refine wpAnyH_ready (rs := [7, 13, 21]) (by kernel_rfl) (by simp) ?_
        refine AllReadyH.cons (i := 7) (o := ⟨some 58, .call { callee := .value (.func 41), args := #[.tmp 57, .const (Go.Value.int .i64 4)], argTypes := #[3, 3] }, 3, "ref.go:44", #[⟨6, .data⟩, ⟨3, .chain⟩], none⟩) rfl (fun K hK => ?_) (AllReadyH.cons (i := 13) (o := ⟨some 64, .buildSlice 30 0 #[], 30, "ref.go:44", #[], none⟩) rfl (fun K hK => ?_) (AllReadyH.cons (i := 21) (o := ⟨some 9, .alloc 32, 0, "ref.go:44", #[], none⟩) rfl (fun K hK => ?_) AllReadyH.nil))
        next =>
         go_simp
         go_at_call 41
         refine (rsmall_any12 v1 4 _).mono ?_
         rintro e u2 ⟨rfl, hu⟩
         subst hu
         rw [← A1.out]
         refine hK.out _ _ ?_ (fun hH2 => ?_)
         next =>
          exact hH1
         clear hK K
         try simp only [apt12]
         refine wpAnyH_ready (rs := [11, 13, 21]) (by kernel_rfl) (by simp) ?_
         refine AllReadyH.cons (i := 11) (o := ⟨some 62, .call { callee := .value (.func 41), args := #[.tmp 61, .const (Go.Value.int .i64 8)], argTypes := #[3, 3] }, 3, "ref.go:44", #[⟨10, .data⟩, ⟨7, .chain⟩], none⟩) rfl (fun K hK => ?_) (AllReadyH.cons (i := 13) (o := ⟨some 64, .buildSlice 30 0 #[], 30, "ref.go:44", #[], none⟩) rfl (fun K hK => ?_) (AllReadyH.cons (i := 21) (o := ⟨some 9, .alloc 32, 0, "ref.go:44", #[], none⟩) rfl (fun K hK => ?_) AllReadyH.nil))
         next =>
          go_simp
          go_at_call 41
          refine (rsmall_any12 v2 8 _).mono ?_
          rintro e u3 ⟨rfl, hu⟩
          subst hu
          rw [← A2.out]
          refine hK.out _ _ ?_ (fun hH3 => ?_)
          next =>
           exact hH2
          clear hK K
          try simp only [apt12]
          refine wpAnyH_ready (rs := [13, 18, 21]) (by kernel_rfl) (by simp) ?_
          refine AllReadyH.cons (i := 13) (o := ⟨some 64, .buildSlice 30 0 #[], 30, "ref.go:44", #[], none⟩) rfl (fun K hK => ?_) (AllReadyH.cons (i := 18) (o := ⟨some 69, .call { callee := .value (.func 31), args := #[.tmp 65, .tmp 68], argTypes := #[24, 3] }, 30, "ref.go:44", #[⟨14, .data⟩, ⟨17, .data⟩, ⟨11, .chain⟩], none⟩) rfl (fun K hK => ?_) (AllReadyH.cons (i := 21) (o := ⟨some 9, .alloc 32, 0, "ref.go:44", #[], none⟩) rfl (fun K hK => ?_) AllReadyH.nil))
          next =>
           go_simp
           obtain ⟨u4, hu⟩ : ∃ x, x = (w4.alloc (.cells #[] 3)).drew := ⟨_, rfl⟩
           obtain ⟨g, hg⟩ : ∃ x, x = w4.heap.size := ⟨_, rfl⟩
           have hb : Below w4.drew.heap.size w4.drew u4 := by rw [hu]; exact below_alloc w4.drew _
           have HG : Hid (w4.heap.size ≤ g) := by show _ ≤ _; rw [hg]; exact BB0.out.size
           have OB4 := hid (show u4.ownsRow g 3 1 (.slice (some ⟨g, 0, none⟩) 0 0) 0 (([] : List Int).map (Value.int .i64)) by rw [hu, hg]; exact own_nil12 w4.drew)
           have BB4 := hid (then_w BB0.out hb)
           try simp only [← hg]
           try rw [← hu]
           refine hK.out _ _ ?_ (fun hH4 => ?_)
           next =>
            exact KP.out _ BB4.out
           clear hK K
           try simp only [apt12]
           clear hb hu hg
           refine wpAnyH_ready (rs := [18, 21]) (by kernel_rfl) (by simp) ?_
           refine AllReadyH.cons (i := 18) (o := ⟨some 69, .call { callee := .value (.func 31), args := #[.tmp 65, .tmp 68], argTypes := #[24, 3] }, 30, "ref.go:44", #[⟨14, .data⟩, ⟨17, .data⟩, ⟨11, .chain⟩], none⟩) rfl (fun K hK => ?_) (AllReadyH.cons (i := 21) (o := ⟨some 9, .alloc 32, 0, "ref.go:44", #[], none⟩) rfl (fun K hK => ?_) AllReadyH.nil)
           next =>
            go_simp
            go_at_call 31
            refine (rslots_any12 h v4 _ c _ (HS.out.below (then_w HB4.out BB4.out))).mono ?_
            rintro e u5 ⟨LS, ld, rfl, hin, hnil, hb⟩
            rw [← HLT.out] at hin ⊢
            have IL5 := hid hin
            have HNL := hid hnil
            have BB5 := hid (then_w BB4.out hb)
            have OB5 := hid (own_later OB4.out hb)
            refine hK.out _ _ ?_ (fun hH5 => ?_)
            next =>
             exact KP.out _ BB5.out
            clear hK K
            try simp only [apt12]
            clear hb hin hnil
            refine wpAnyH_ready (rs := [19, 21]) (by kernel_rfl) (by simp) ?_
            refine AllReadyH.cons (i := 19) (o := ⟨some 70, .call { callee := .builtin .append, args := #[.tmp 64, .tmp 69], argTypes := #[30, 30] }, 30, "ref.go:44", #[⟨13, .data⟩, ⟨18, .data⟩, ⟨18, .chain⟩], none⟩) rfl (fun K hK => ?_) (AllReadyH.cons (i := 21) (o := ⟨some 9, .alloc 32, 0, "ref.go:44", #[], none⟩) rfl (fun K hK => ?_) AllReadyH.nil)
            next =>
             obtain ⟨va, u6, hrun, hown, hgr⟩ := run_app_ints12 u5 g (.slice (some ⟨g, 0, none⟩) 0 0) 0 [] OB5.out LS ld lits IL5.out HNL.out (by have := HLL.out; omega) (by have := (OB5.out.lt g rfl).2; omega)
             rw [List.nil_append, Nat.zero_add] at hown
             obtain ⟨LA, lc, rfl⟩ := own_form hown
             have BB6 := hid (BB5.out.grown hgr BB5.out.size (fun k hk => Nat.le_trans HG.out (OB5.out.lt k hk).1))
             have OV6 := hid hown
             refine wp_append_run11 _ _ 30 rfl _ u6 hrun ?_
             refine hK.out _ _ ?_ (fun hH6 => ?_)
             next =>
              exact KP.out _ BB6.out
             clear hK K
             try simp only [apt12]
             clear hrun hown hgr
             refine tkI 20 ⟨some 71, .build 32 #[(0, .tmp 54), (1, .tmp 58), (2, .tmp 62), (3, .tmp 63), (4, .tmp 70)], 32, "ref.go:44", #[⟨3, .data⟩, ⟨7, .data⟩, ⟨11, .data⟩, ⟨12, .data⟩, ⟨19, .data⟩], none⟩ ?v66 rfl (by kernel_rfl) (by rfl) ?y66 ?_
             case y66 => intro w hSw; (try dsimp only at hSw); go_simp; all_goals with_reducible rfl
             try simp only [apt12]
             refine wpAnyH_ready (rs := [21]) (by kernel_rfl) (by simp) ?_
             refine AllReadyH.cons (i := 21) (o := ⟨some 9, .alloc 32, 0, "ref.go:44", #[], none⟩) rfl (fun K hK => ?_) AllReadyH.nil
             go_simp
             obtain ⟨u7, hu⟩ : ∃ x, x = u6.alloc (.cells #[.int .i64 0, .int .i64 0, .int .i64 0, .slice none 0 0, .slice none 0 0] 32) := ⟨_, rfl⟩
             obtain ⟨bx, hg⟩ : ∃ x, x = u6.heap.size := ⟨_, rfl⟩
             have hb : Below u6.heap.size u6 u7 := by rw [hu]; exact below_alloc u6 _
             have HX9 : Hid (w4.heap.size ≤ bx) := by show _ ≤ _; rw [hg]; exact BB6.out.size
             have LB7 := hid (show Lies u7 bx 32 #[.int .i64 0, .int .i64 0, .int .i64 0, .slice none 0 0, .slice none 0 0] by rw [hu, hg]; exact Lies.new u6 _ _)
             have BB7 := hid (then_w BB6.out hb)
             have OV7 := hid (own_later OV6.out hb)
             try simp only [← hg]
             try rw [← hu]
             refine hK.out _ _ ?_ (fun hH7 => ?_)
             next =>
              exact KP.out _ BB7.out
             clear hK K
             try simp only [apt12]
             clear hb hu hg
             refine wpAnyH_ready (rs := [22]) (by kernel_rfl) (by simp) ?_
             refine AllReadyH.cons (i := 22) (o := ⟨none, .store 32 (.tmp 9) (.tmp 71), 0, "ref.go:44", #[⟨21, .data⟩, ⟨20, .data⟩, ⟨19, .chain⟩, ⟨0, .phase⟩, ⟨1, .phase⟩, ⟨2, .phase⟩, ⟨3, .phase⟩, ⟨4, .phase⟩, ⟨5, .phase⟩, ⟨6, .phase⟩, ⟨7, .phase⟩, ⟨8, .phase⟩, ⟨9, .phase⟩, ⟨10, .phase⟩, ⟨11, .phase⟩, ⟨12, .phase⟩, ⟨13, .phase⟩, ⟨14, .phase⟩, ⟨15, .phase⟩, ⟨16, .phase⟩, ⟨17, .phase⟩, ⟨18, .phase⟩, ⟨19, .phase⟩, ⟨20, .phase⟩, ⟨21, .phase⟩], none⟩) rfl (fun K hK => ?_) AllReadyH.nil
             obtain ⟨r0, r1, r2, r3, r4, f0, f1, f2, f3, f4⟩ := cells_five12 LB7.out
             have BB8 := hid (below_five12 BB7.out HX9.out (.int .i64 a0) (.int .i64 a1) (.int .i64 a2) (.slice CA cd.length cc) (.slice LA lits.length lc))
             have LF := hid (lies_five12 LB7.out (.int .i64 a0) (.int .i64 a1) (.int .i64 a2) (.slice CA cd.length cc) (.slice LA lits.length lc))
             have HFL : Hid (∀ k o s, LA = some ⟨k, o, s⟩ → w4.heap.size ≤ k) := fun k o s e => by
               have h := OV7.out
               subst e
               exact Nat.le_trans HG.out (h.lt k rfl).1
             have OF := hid (own_ints (own_five12 OV7.out LB7.out (by decide) (.int .i64 a0) (.int .i64 a1) (.int .i64 a2) (.slice CA cd.length cc) (.slice LA lits.length lc)))
             go_simp
             refine hK.out _ _ ?_ (fun hH8 => ?_)
             next =>
              exact KP.out _ BB8.out
             clear hK K
             try simp only [apt12]
             clear r0 r1 r2 r3 r4 f0 f1 f2 f3 f4
             refine wpAnyH_done (by kernel_rfl) ?_ _
             go_wp2_with fail
             go_meet
             exact ⟨bx, LA, lc, rfl, LF, OF, HFL, BB8⟩
            next =>
             go_simp
             obtain ⟨u6, hu⟩ : ∃ x, x = u5.alloc (.cells #[.int .i64 0, .int .i64 0, .int .i64 0, .slice none 0 0, .slice none 0 0] 32) := ⟨_, rfl⟩
             obtain ⟨bx, hg⟩ : ∃ x, x = u5.heap.size := ⟨_, rfl⟩
             have hb : Below u5.heap.size u5 u6 := by rw [hu]; exact below_alloc u5 _
             have HX9 : Hid (w4.heap.size ≤ bx) := by show _ ≤ _; rw [hg]; exact BB5.out.size
             have LB6 := hid (show Lies u6 bx 32 #[.int .i64 0, .int .i64 0, .int .i64 0, .slice none 0 0, .slice none 0 0] by rw [hu, hg]; exact Lies.new u5 _ _)
             have BB6 := hid (then_w BB5.out hb)
             have OB6 := hid (own_later OB5.out hb)
             have IL6 := hid (IL5.out.below hb)
             try simp only [← hg]
             try rw [← hu]
             refine hK.out _ _ ?_ (fun hH6 => ?_)
             next =>
              exact KP.out _ BB6.out
             clear hK K
             try simp only [apt12]
             clear hb hu hg
             refine wpAnyH_ready (rs := [19]) (by kernel_rfl) (by simp) ?_
             refine AllReadyH.cons (i := 19) (o := ⟨some 70, .call { callee := .builtin .append, args := #[.tmp 64, .tmp 69], argTypes := #[30, 30] }, 30, "ref.go:44", #[⟨13, .data⟩, ⟨18, .data⟩, ⟨18, .chain⟩], none⟩) rfl (fun K hK => ?_) AllReadyH.nil
             obtain ⟨va, u7, hrun, hown, hgr⟩ := run_app_ints12 u6 g (.slice (some ⟨g, 0, none⟩) 0 0) 0 [] OB6.out LS ld lits IL6.out HNL.out (by have := HLL.out; omega) (by have := (OB6.out.lt g rfl).2; omega)
             rw [List.nil_append, Nat.zero_add] at hown
             obtain ⟨LA, lc, rfl⟩ := own_form hown
             have BB7 := hid (BB6.out.grown hgr BB6.out.size (fun k hk => Nat.le_trans HG.out (OB6.out.lt k hk).1))
             have OV7 := hid hown
             have LB7 : Hid (Lies u7 bx 32 #[.int .i64 0, .int .i64 0, .int .i64 0, .slice none 0 0, .slice none 0 0]) := (hgr.block bx LB6.out.lt (fun e => own_blk_ne OB6.out LB6.out (by decide) e.symm)).trans LB6.out
             refine wp_append_run11 _ _ 30 rfl _ u7 hrun ?_
             refine hK.out _ _ ?_ (fun hH7 => ?_)
             next =>
              exact KP.out _ BB7.out
             clear hK K
             try simp only [apt12]
             clear hrun hown hgr
             refine tkI 20 ⟨some 71, .build 32 #[(0, .tmp 54), (1, .tmp 58), (2, .tmp 62), (3, .tmp 63), (4, .tmp 70)], 32, "ref.go:44", #[⟨3, .data⟩, ⟨7, .data⟩, ⟨11, .data⟩, ⟨12, .data⟩, ⟨19, .data⟩], none⟩ ?v67 rfl (by kernel_rfl) (by rfl) ?y67 ?_
             case y67 => intro w hSw; (try dsimp only at hSw); go_simp; all_goals with_reducible rfl
             try simp only [apt12]
             refine wpAnyH_ready (rs := [22]) (by kernel_rfl) (by simp) ?_
             refine AllReadyH.cons (i := 22) (o := ⟨none, .store 32 (.tmp 9) (.tmp 71), 0, "ref.go:44", #[⟨21, .data⟩, ⟨20, .data⟩, ⟨19, .chain⟩, ⟨0, .phase⟩, ⟨1, .phase⟩, ⟨2, .phase⟩, ⟨3, .phase⟩, ⟨4, .phase⟩, ⟨5, .phase⟩, ⟨6, .phase⟩, ⟨7, .phase⟩, ⟨8, .phase⟩, ⟨9, .phase⟩, ⟨10, .phase⟩, ⟨11, .phase⟩, ⟨12, .phase⟩, ⟨13, .phase⟩, ⟨14, .phase⟩, ⟨15, .phase⟩, ⟨16, .phase⟩, ⟨17, .phase⟩, ⟨18, .phase⟩, ⟨19, .phase⟩, ⟨20, .phase⟩, ⟨21, .phase⟩], none⟩) rfl (fun K hK => ?_) AllReadyH.nil
             obtain ⟨r0, r1, r2, r3, r4, f0, f1, f2, f3, f4⟩ := cells_five12 LB7.out
             have BB8 := hid (below_five12 BB7.out HX9.out (.int .i64 a0) (.int .i64 a1) (.int .i64 a2) (.slice CA cd.length cc) (.slice LA lits.length lc))
             have LF := hid (lies_five12 LB7.out (.int .i64 a0) (.int .i64 a1) (.int .i64 a2) (.slice CA cd.length cc) (.slice LA lits.length lc))
             have HFL : Hid (∀ k o s, LA = some ⟨k, o, s⟩ → w4.heap.size ≤ k) := fun k o s e => by
               have h := OV7.out
               subst e
               exact Nat.le_trans HG.out (h.lt k rfl).1
             have OF := hid (own_ints (own_five12 OV7.out LB7.out (by decide) (.int .i64 a0) (.int .i64 a1) (.int .i64 a2) (.slice CA cd.length cc) (.slice LA lits.length lc)))
             go_simp
             refine hK.out _ _ ?_ (fun hH8 => ?_)
             next =>
              exact KP.out _ BB8.out
             clear hK K
             try simp only [apt12]
             clear r0 r1 r2 r3 r4 f0 f1 f2 f3 f4
             refine wpAnyH_done (by kernel_rfl) ?_ _
             go_wp2_with fail
             go_meet
             exact ⟨bx, LA, lc, rfl, LF, OF, HFL, BB8⟩
           next =>
            go_simp
            obtain ⟨u5, hu⟩ : ∃ x, x = u4.alloc (.cells #[.int .i64 0, .int .i64 0, .int .i64 0, .slice none 0 0, .slice none 0 0] 32) := ⟨_, rfl⟩
            obtain ⟨bx, hg⟩ : ∃ x, x = u4.heap.size := ⟨_, rfl⟩
            have hb : Below u4.heap.size u4 u5 := by rw [hu]; exact below_alloc u4 _
            have HX9 : Hid (w4.heap.size ≤ bx) := by show _ ≤ _; rw [hg]; exact BB4.out.size
            have LB5 := hid (show Lies u5 bx 32 #[.int .i64 0, .int .i64 0, .int .i64 0, .slice none 0 0, .slice none 0 0] by rw [hu, hg]; exact Lies.new u4 _ _)
            have BB5 := hid (then_w BB4.out hb)
            have OB5 := hid (own_later OB4.out hb)
            try simp only [← hg]
            try rw [← hu]
            refine hK.out _ _ ?_ (fun hH5 => ?_)
            next =>
             exact KP.out _ BB5.out
            clear hK K
            try simp only [apt12]
            clear hb hu hg
            refine wpAnyH_ready (rs := [18]) (by kernel_rfl) (by simp) ?_
            refine AllReadyH.cons (i := 18) (o := ⟨some 69, .call { callee := .value (.func 31), args := #[.tmp 65, .tmp 68], argTypes := #[24, 3] }, 30, "ref.go:44", #[⟨14, .data⟩, ⟨17, .data⟩, ⟨11, .chain⟩], none⟩) rfl (fun K hK => ?_) AllReadyH.nil
            go_simp
            go_at_call 31
            refine (rslots_any12 h v4 _ c _ (HS.out.below (then_w HB4.out BB5.out))).mono ?_
            rintro e u6 ⟨LS, ld, rfl, hin, hnil, hb⟩
            rw [← HLT.out] at hin ⊢
            have IL6 := hid hin
            have HNL := hid hnil
            have BB6 := hid (then_w BB5.out hb)
            have OB6 := hid (own_later OB5.out hb)
            have LB6 := hid (LB5.out.later hb)
            refine hK.out _ _ ?_ (fun hH6 => ?_)
            next =>
             exact KP.out _ BB6.out
            clear hK K
            try simp only [apt12]
            clear hb hin hnil
            refine wpAnyH_ready (rs := [19]) (by kernel_rfl) (by simp) ?_
            refine AllReadyH.cons (i := 19) (o := ⟨some 70, .call { callee := .builtin .append, args := #[.tmp 64, .tmp 69], argTypes := #[30, 30] }, 30, "ref.go:44", #[⟨13, .data⟩, ⟨18, .data⟩, ⟨18, .chain⟩], none⟩) rfl (fun K hK => ?_) AllReadyH.nil
            obtain ⟨va, u7, hrun, hown, hgr⟩ := run_app_ints12 u6 g (.slice (some ⟨g, 0, none⟩) 0 0) 0 [] OB6.out LS ld lits IL6.out HNL.out (by have := HLL.out; omega) (by have := (OB6.out.lt g rfl).2; omega)
            rw [List.nil_append, Nat.zero_add] at hown
            obtain ⟨LA, lc, rfl⟩ := own_form hown
            have BB7 := hid (BB6.out.grown hgr BB6.out.size (fun k hk => Nat.le_trans HG.out (OB6.out.lt k hk).1))
            have OV7 := hid hown
            have LB7 : Hid (Lies u7 bx 32 #[.int .i64 0, .int .i64 0, .int .i64 0, .slice none 0 0, .slice none 0 0]) := (hgr.block bx LB6.out.lt (fun e => own_blk_ne OB6.out LB6.out (by decide) e.symm)).trans LB6.out
            refine wp_append_run11 _ _ 30 rfl _ u7 hrun ?_
            refine hK.out _ _ ?_ (fun hH7 => ?_)
            next =>
             exact KP.out _ BB7.out
            clear hK K
            try simp only [apt12]
            clear hrun hown hgr
            refine tkI 20 ⟨some 71, .build 32 #[(0, .tmp 54), (1, .tmp 58), (2, .tmp 62), (3, .tmp 63), (4, .tmp 70)], 32, "ref.go:44", #[⟨3, .data⟩, ⟨7, .data⟩, ⟨11, .data⟩, ⟨12, .data⟩, ⟨19, .data⟩], none⟩ ?v68 rfl (by kernel_rfl) (by rfl) ?y68 ?_
            case y68 => intro w hSw; (try dsimp only at hSw); go_simp; all_goals with_reducible rfl
            try simp only [apt12]
            refine wpAnyH_ready (rs := [22]) (by kernel_rfl) (by simp) ?_
            refine AllReadyH.cons (i := 22) (o := ⟨none, .store 32 (.tmp 9) (.tmp 71), 0, "ref.go:44", #[⟨21, .data⟩, ⟨20, .data⟩, ⟨19, .chain⟩, ⟨0, .phase⟩, ⟨1, .phase⟩, ⟨2, .phase⟩, ⟨3, .phase⟩, ⟨4, .phase⟩, ⟨5, .phase⟩, ⟨6, .phase⟩, ⟨7, .phase⟩, ⟨8, .phase⟩, ⟨9, .phase⟩, ⟨10, .phase⟩, ⟨11, .phase⟩, ⟨12, .phase⟩, ⟨13, .phase⟩, ⟨14, .phase⟩, ⟨15, .phase⟩, ⟨16, .phase⟩, ⟨17, .phase⟩, ⟨18, .phase⟩, ⟨19, .phase⟩, ⟨20, .phase⟩, ⟨21, .phase⟩], none⟩) rfl (fun K hK => ?_) AllReadyH.nil
            obtain ⟨r0, r1, r2, r3, r4, f0, f1, f2, f3, f4⟩ := cells_five12 LB7.out
            have BB8 := hid (below_five12 BB7.out HX9.out (.int .i64 a0) (.int .i64 a1) (.int .i64 a2) (.slice CA cd.length cc) (.slice LA lits.length lc))
            have LF := hid (lies_five12 LB7.out (.int .i64 a0) (.int .i64 a1) (.int .i64 a2) (.slice CA cd.length cc) (.slice LA lits.length lc))
            have HFL : Hid (∀ k o s, LA = some ⟨k, o, s⟩ → w4.heap.size ≤ k) := fun k o s e => by
              have h := OV7.out
              subst e
              exact Nat.le_trans HG.out (h.lt k rfl).1
            have OF := hid (own_ints (own_five12 OV7.out LB7.out (by decide) (.int .i64 a0) (.int .i64 a1) (.int .i64 a2) (.slice CA cd.length cc) (.slice LA lits.length lc)))
            go_simp
            refine hK.out _ _ ?_ (fun hH8 => ?_)
            next =>
             exact KP.out _ BB8.out
            clear hK K
            try simp only [apt12]
            clear r0 r1 r2 r3 r4 f0 f1 f2 f3 f4
            refine wpAnyH_done (by kernel_rfl) ?_ _
            go_wp2_with fail
            go_meet
            exact ⟨bx, LA, lc, rfl, LF, OF, HFL, BB8⟩
          next =>
           go_simp
           go_at_call 31
           refine (rslots_any12 h v4 _ c _ (HS.out.below (then_w HB4.out BB0.out))).mono ?_
           rintro e u4 ⟨LS, ld, rfl, hin, hnil, hb⟩
           rw [← HLT.out] at hin ⊢
           have IL4 := hid hin
           have HNL := hid hnil
           have BB4 := hid (then_w BB0.out hb)
           refine hK.out _ _ ?_ (fun hH4 => ?_)
           next =>
            exact KP.out _ BB4.out
           clear hK K
           try simp only [apt12]
           clear hb hin hnil
           refine wpAnyH_ready (rs := [13, 21]) (by kernel_rfl) (by simp) ?_
           refine AllReadyH.cons (i := 13) (o := ⟨some 64, .buildSlice 30 0 #[], 30, "ref.go:44", #[], none⟩) rfl (fun K hK => ?_) (AllReadyH.cons (i := 21) (o := ⟨some 9, .alloc 32, 0, "ref.go:44", #[], none⟩) rfl (fun K hK => ?_) AllReadyH.nil)
           next =>
            go_simp
            obtain ⟨u5, hu⟩ : ∃ x, x = u4.alloc (.cells #[] 3) := ⟨_, rfl⟩
            obtain ⟨g, hg⟩ : ∃ x, x = u4.heap.size := ⟨_, rfl⟩
            have hb : Below u4.heap.size u4 u5 := by rw [hu]; exact below_alloc u4 _
            have HG : Hid (w4.heap.size ≤ g) := by show _ ≤ _; rw [hg]; exact BB4.out.size
            have OB5 := hid (show u5.ownsRow g 3 1 (.slice (some ⟨g, 0, none⟩) 0 0) 0 (([] : List Int).map (Value.int .i64)) by rw [hu, hg]; exact own_nil12 u4)
            have BB5 := hid (then_w BB4.out hb)
            have IL5 := hid (IL4.out.below hb)
            try simp only [← hg]
            try rw [← hu]
            refine hK.out _ _ ?_ (fun hH5 => ?_)
            next =>
             exact KP.out _ BB5.out
            clear hK K
            try simp only [apt12]
            clear hb hu hg
            refine wpAnyH_ready (rs := [19, 21]) (by kernel_rfl) (by simp) ?_
            refine AllReadyH.cons (i := 19) (o := ⟨some 70, .call { callee := .builtin .append, args := #[.tmp 64, .tmp 69], argTypes := #[30, 30] }, 30, "ref.go:44", #[⟨13, .data⟩, ⟨18, .data⟩, ⟨18, .chain⟩], none⟩) rfl (fun K hK => ?_) (AllReadyH.cons (i := 21) (o := ⟨some 9, .alloc 32, 0, "ref.go:44", #[], none⟩) rfl (fun K hK => ?_) AllReadyH.nil)
            next =>
             obtain ⟨va, u6, hrun, hown, hgr⟩ := run_app_ints12 u5 g (.slice (some ⟨g, 0, none⟩) 0 0) 0 [] OB5.out LS ld lits IL5.out HNL.out (by have := HLL.out; omega) (by have := (OB5.out.lt g rfl).2; omega)
             rw [List.nil_append, Nat.zero_add] at hown
             obtain ⟨LA, lc, rfl⟩ := own_form hown
             have BB6 := hid (BB5.out.grown hgr BB5.out.size (fun k hk => Nat.le_trans HG.out (OB5.out.lt k hk).1))
             have OV6 := hid hown
             refine wp_append_run11 _ _ 30 rfl _ u6 hrun ?_
             refine hK.out _ _ ?_ (fun hH6 => ?_)
             next =>
              exact KP.out _ BB6.out
             clear hK K
             try simp only [apt12]
             clear hrun hown hgr
             refine tkI 20 ⟨some 71, .build 32 #[(0, .tmp 54), (1, .tmp 58), (2, .tmp 62), (3, .tmp 63), (4, .tmp 70)], 32, "ref.go:44", #[⟨3, .data⟩, ⟨7, .data⟩, ⟨11, .data⟩, ⟨12, .data⟩, ⟨19, .data⟩], none⟩ ?v69 rfl (by kernel_rfl) (by rfl) ?y69 ?_
             case y69 => intro w hSw; (try dsimp only at hSw); go_simp; all_goals with_reducible rfl
             try simp only [apt12]
             refine wpAnyH_ready (rs := [21]) (by kernel_rfl) (by simp) ?_
             refine AllReadyH.cons (i := 21) (o := ⟨some 9, .alloc 32, 0, "ref.go:44", #[], none⟩) rfl (fun K hK => ?_) AllReadyH.nil
             go_simp
             obtain ⟨u7, hu⟩ : ∃ x, x = u6.alloc (.cells #[.int .i64 0, .int .i64 0, .int .i64 0, .slice none 0 0, .slice none 0 0] 32) := ⟨_, rfl⟩
             obtain ⟨bx, hg⟩ : ∃ x, x = u6.heap.size := ⟨_, rfl⟩
             have hb : Below u6.heap.size u6 u7 := by rw [hu]; exact below_alloc u6 _
             have HX9 : Hid (w4.heap.size ≤ bx) := by show _ ≤ _; rw [hg]; exact BB6.out.size
             have LB7 := hid (show Lies u7 bx 32 #[.int .i64 0, .int .i64 0, .int .i64 0, .slice none 0 0, .slice none 0 0] by rw [hu, hg]; exact Lies.new u6 _ _)
             have BB7 := hid (then_w BB6.out hb)
             have OV7 := hid (own_later OV6.out hb)
             try simp only [← hg]
             try rw [← hu]
             refine hK.out _ _ ?_ (fun hH7 => ?_)
             next =>
              exact KP.out _ BB7.out
             clear hK K
             try simp only [apt12]
             clear hb hu hg
             refine wpAnyH_ready (rs := [22]) (by kernel_rfl) (by simp) ?_
             refine AllReadyH.cons (i := 22) (o := ⟨none, .store 32 (.tmp 9) (.tmp 71), 0, "ref.go:44", #[⟨21, .data⟩, ⟨20, .data⟩, ⟨19, .chain⟩, ⟨0, .phase⟩, ⟨1, .phase⟩, ⟨2, .phase⟩, ⟨3, .phase⟩, ⟨4, .phase⟩, ⟨5, .phase⟩, ⟨6, .phase⟩, ⟨7, .phase⟩, ⟨8, .phase⟩, ⟨9, .phase⟩, ⟨10, .phase⟩, ⟨11, .phase⟩, ⟨12, .phase⟩, ⟨13, .phase⟩, ⟨14, .phase⟩, ⟨15, .phase⟩, ⟨16, .phase⟩, ⟨17, .phase⟩, ⟨18, .phase⟩, ⟨19, .phase⟩, ⟨20, .phase⟩, ⟨21, .phase⟩], none⟩) rfl (fun K hK => ?_) AllReadyH.nil
             obtain ⟨r0, r1, r2, r3, r4, f0, f1, f2, f3, f4⟩ := cells_five12 LB7.out
             have BB8 := hid (below_five12 BB7.out HX9.out (.int .i64 a0) (.int .i64 a1) (.int .i64 a2) (.slice CA cd.length cc) (.slice LA lits.length lc))
             have LF := hid (lies_five12 LB7.out (.int .i64 a0) (.int .i64 a1) (.int .i64 a2) (.slice CA cd.length cc) (.slice LA lits.length lc))
             have HFL : Hid (∀ k o s, LA = some ⟨k, o, s⟩ → w4.heap.size ≤ k) := fun k o s e => by
               have h := OV7.out
               subst e
               exact Nat.le_trans HG.out (h.lt k rfl).1
             have OF := hid (own_ints (own_five12 OV7.out LB7.out (by decide) (.int .i64 a0) (.int .i64 a1) (.int .i64 a2) (.slice CA cd.length cc) (.slice LA lits.length lc)))
             go_simp
             refine hK.out _ _ ?_ (fun hH8 => ?_)
             next =>
              exact KP.out _ BB8.out
             clear hK K
             try simp only [apt12]
             clear r0 r1 r2 r3 r4 f0 f1 f2 f3 f4
             refine wpAnyH_done (by kernel_rfl) ?_ _
             go_wp2_with fail
             go_meet
             exact ⟨bx, LA, lc, rfl, LF, OF, HFL, BB8⟩
            next =>
             go_simp
             obtain ⟨u6, hu⟩ : ∃ x, x = u5.alloc (.cells #[.int .i64 0, .int .i64 0, .int .i64 0, .slice none 0 0, .slice none 0 0] 32) := ⟨_, rfl⟩
             obtain ⟨bx, hg⟩ : ∃ x, x = u5.heap.size := ⟨_, rfl⟩
             have hb : Below u5.heap.size u5 u6 := by rw [hu]; exact below_alloc u5 _
             have HX9 : Hid (w4.heap.size ≤ bx) := by show _ ≤ _; rw [hg]; exact BB5.out.size
             have LB6 := hid (show Lies u6 bx 32 #[.int .i64 0, .int .i64 0, .int .i64 0, .slice none 0 0, .slice none 0 0] by rw [hu, hg]; exact Lies.new u5 _ _)
             have BB6 := hid (then_w BB5.out hb)
             have OB6 := hid (own_later OB5.out hb)
             have IL6 := hid (IL5.out.below hb)
             try simp only [← hg]
             try rw [← hu]
             refine hK.out _ _ ?_ (fun hH6 => ?_)
             next =>
              exact KP.out _ BB6.out
             clear hK K
             try simp only [apt12]
             clear hb hu hg
             refine wpAnyH_ready (rs := [19]) (by kernel_rfl) (by simp) ?_
             refine AllReadyH.cons (i := 19) (o := ⟨some 70, .call { callee := .builtin .append, args := #[.tmp 64, .tmp 69], argTypes := #[30, 30] }, 30, "ref.go:44", #[⟨13, .data⟩, ⟨18, .data⟩, ⟨18, .chain⟩], none⟩) rfl (fun K hK => ?_) AllReadyH.nil
             obtain ⟨va, u7, hrun, hown, hgr⟩ := run_app_ints12 u6 g (.slice (some ⟨g, 0, none⟩) 0 0) 0 [] OB6.out LS ld lits IL6.out HNL.out (by have := HLL.out; omega) (by have := (OB6.out.lt g rfl).2; omega)
             rw [List.nil_append, Nat.zero_add] at hown
             obtain ⟨LA, lc, rfl⟩ := own_form hown
             have BB7 := hid (BB6.out.grown hgr BB6.out.size (fun k hk => Nat.le_trans HG.out (OB6.out.lt k hk).1))
             have OV7 := hid hown
             have LB7 : Hid (Lies u7 bx 32 #[.int .i64 0, .int .i64 0, .int .i64 0, .slice none 0 0, .slice none 0 0]) := (hgr.block bx LB6.out.lt (fun e => own_blk_ne OB6.out LB6.out (by decide) e.symm)).trans LB6.out
             refine wp_append_run11 _ _ 30 rfl _ u7 hrun ?_
             refine hK.out _ _ ?_ (fun hH7 => ?_)
             next =>
              exact KP.out _ BB7.out
             clear hK K
             try simp only [apt12]
             clear hrun hown hgr
             refine tkI 20 ⟨some 71, .build 32 #[(0, .tmp 54), (1, .tmp 58), (2, .tmp 62), (3, .tmp 63), (4, .tmp 70)], 32, "ref.go:44", #[⟨3, .data⟩, ⟨7, .data⟩, ⟨11, .data⟩, ⟨12, .data⟩, ⟨19, .data⟩], none⟩ ?v70 rfl (by kernel_rfl) (by rfl) ?y70 ?_
             case y70 => intro w hSw; (try dsimp only at hSw); go_simp; all_goals with_reducible rfl
             try simp only [apt12]
             refine wpAnyH_ready (rs := [22]) (by kernel_rfl) (by simp) ?_
             refine AllReadyH.cons (i := 22) (o := ⟨none, .store 32 (.tmp 9) (.tmp 71), 0, "ref.go:44", #[⟨21, .data⟩, ⟨20, .data⟩, ⟨19, .chain⟩, ⟨0, .phase⟩, ⟨1, .phase⟩, ⟨2, .phase⟩, ⟨3, .phase⟩, ⟨4, .phase⟩, ⟨5, .phase⟩, ⟨6, .phase⟩, ⟨7, .phase⟩, ⟨8, .phase⟩, ⟨9, .phase⟩, ⟨10, .phase⟩, ⟨11, .phase⟩, ⟨12, .phase⟩, ⟨13, .phase⟩, ⟨14, .phase⟩, ⟨15, .phase⟩, ⟨16, .phase⟩, ⟨17, .phase⟩, ⟨18, .phase⟩, ⟨19, .phase⟩, ⟨20, .phase⟩, ⟨21, .phase⟩], none⟩) rfl (fun K hK => ?_) AllReadyH.nil
             obtain ⟨r0, r1, r2, r3, r4, f0, f1, f2, f3, f4⟩ := cells_five12 LB7.out
             have BB8 := hid (below_five12 BB7.out HX9.out (.int .i64 a0) (.int .i64 a1) (.int .i64 a2) (.slice CA cd.length cc) (.slice LA lits.length lc))
             have LF := hid (lies_five12 LB7.out (.int .i64 a0) (.int .i64 a1) (.int .i64 a2) (.slice CA cd.length cc) (.slice LA lits.length lc))
             have HFL : Hid (∀ k o s, LA = some ⟨k, o, s⟩ → w4.heap.size ≤ k) := fun k o s e => by
               have h := OV7.out
               subst e
               exact Nat.le_trans HG.out (h.lt k rfl).1
             have OF := hid (own_ints (own_five12 OV7.out LB7.out (by decide) (.int .i64 a0) (.int .i64 a1) (.int .i64 a2) (.slice CA cd.length cc) (.slice LA lits.length lc)))
             go_simp
             refine hK.out _ _ ?_ (fun hH8 => ?_)
             next =>
              exact KP.out _ BB8.out
             clear hK K
             try simp only [apt12]
             clear r0 r1 r2 r3 r4 f0 f1 f2 f3 f4
             refine wpAnyH_done (by kernel_rfl) ?_ _
             go_wp2_with fail
             go_meet
             exact ⟨bx, LA, lc, rfl, LF, OF, HFL, BB8⟩
           next =>
            go_simp
            obtain ⟨u5, hu⟩ : ∃ x, x = u4.alloc (.cells #[.int .i64 0, .int .i64 0, .int .i64 0, .slice none 0 0, .slice none 0 0] 32) := ⟨_, rfl⟩
            obtain ⟨bx, hg⟩ : ∃ x, x = u4.heap.size := ⟨_, rfl⟩
            have hb : Below u4.heap.size u4 u5 := by rw [hu]; exact below_alloc u4 _
            have HX9 : Hid (w4.heap.size ≤ bx) := by show _ ≤ _; rw [hg]; exact BB4.out.size
            have LB5 := hid (show Lies u5 bx 32 #[.int .i64 0, .int .i64 0, .int .i64 0, .slice none 0 0, .slice none 0 0] by rw [hu, hg]; exact Lies.new u4 _ _)
            have BB5 := hid (then_w BB4.out hb)
            have IL5 := hid (IL4.out.below hb)
            try simp only [← hg]
            try rw [← hu]
            refine hK.out _ _ ?_ (fun hH5 => ?_)
            next =>
             exact KP.out _ BB5.out
            clear hK K
            try simp only [apt12]
            clear hb hu hg
            refine wpAnyH_ready (rs := [13]) (by kernel_rfl) (by simp) ?_
            refine AllReadyH.cons (i := 13) (o := ⟨some 64, .buildSlice 30 0 #[], 30, "ref.go:44", #[], none⟩) rfl (fun K hK => ?_) AllReadyH.nil
            go_simp
            obtain ⟨u6, hu⟩ : ∃ x, x = u5.alloc (.cells #[] 3) := ⟨_, rfl⟩
            obtain ⟨g, hg⟩ : ∃ x, x = u5.heap.size := ⟨_, rfl⟩
            have hb : Below u5.heap.size u5 u6 := by rw [hu]; exact below_alloc u5 _
            have HG : Hid (w4.heap.size ≤ g) := by show _ ≤ _; rw [hg]; exact BB5.out.size
            have OB6 := hid (show u6.ownsRow g 3 1 (.slice (some ⟨g, 0, none⟩) 0 0) 0 (([] : List Int).map (Value.int .i64)) by rw [hu, hg]; exact own_nil12 u5)
            have BB6 := hid (then_w BB5.out hb)
            have LB6 := hid (LB5.out.later hb)
            have IL6 := hid (IL5.out.below hb)
            try simp only [← hg]
            try rw [← hu]
            refine hK.out _ _ ?_ (fun hH6 => ?_)
            next =>
             exact KP.out _ BB6.out
            clear hK K
            try simp only [apt12]
            clear hb hu hg
            refine wpAnyH_ready (rs := [19]) (by kernel_rfl) (by simp) ?_
            refine AllReadyH.cons (i := 19) (o := ⟨some 70, .call { callee := .builtin .append, args := #[.tmp 64, .tmp 69], argTypes := #[30, 30] }, 30, "ref.go:44", #[⟨13, .data⟩, ⟨18, .data⟩, ⟨18, .chain⟩], none⟩) rfl (fun K hK => ?_) AllReadyH.nil
            obtain ⟨va, u7, hrun, hown, hgr⟩ := run_app_ints12 u6 g (.slice (some ⟨g, 0, none⟩) 0 0) 0 [] OB6.out LS ld lits IL6.out HNL.out (by have := HLL.out; omega) (by have := (OB6.out.lt g rfl).2; omega)
            rw [List.nil_append, Nat.zero_add] at hown
            obtain ⟨LA, lc, rfl⟩ := own_form hown
            have BB7 := hid (BB6.out.grown hgr BB6.out.size (fun k hk => Nat.le_trans HG.out (OB6.out.lt k hk).1))
            have OV7 := hid hown
            have LB7 : Hid (Lies u7 bx 32 #[.int .i64 0, .int .i64 0, .int .i64 0, .slice none 0 0, .slice none 0 0]) := (hgr.block bx LB6.out.lt (fun e => own_blk_ne OB6.out LB6.out (by decide) e.symm)).trans LB6.out
            refine wp_append_run11 _ _ 30 rfl _ u7 hrun ?_
            refine hK.out _ _ ?_ (fun hH7 => ?_)
            next =>
             exact KP.out _ BB7.out
            clear hK K
            try simp only [apt12]
            clear hrun hown hgr
            refine tkI 20 ⟨some 71, .build 32 #[(0, .tmp 54), (1, .tmp 58), (2, .tmp 62), (3, .tmp 63), (4, .tmp 70)], 32, "ref.go:44", #[⟨3, .data⟩, ⟨7, .data⟩, ⟨11, .data⟩, ⟨12, .data⟩, ⟨19, .data⟩], none⟩ ?v71 rfl (by kernel_rfl) (by rfl) ?y71 ?_
            case y71 => intro w hSw; (try dsimp only at hSw); go_simp; all_goals with_reducible rfl
            try simp only [apt12]
            refine wpAnyH_ready (rs := [22]) (by kernel_rfl) (by simp) ?_
            refine AllReadyH.cons (i := 22) (o := ⟨none, .store 32 (.tmp 9) (.tmp 71), 0, "ref.go:44", #[⟨21, .data⟩, ⟨20, .data⟩, ⟨19, .chain⟩, ⟨0, .phase⟩, ⟨1, .phase⟩, ⟨2, .phase⟩, ⟨3, .phase⟩, ⟨4, .phase⟩, ⟨5, .phase⟩, ⟨6, .phase⟩, ⟨7, .phase⟩, ⟨8, .phase⟩, ⟨9, .phase⟩, ⟨10, .phase⟩, ⟨11, .phase⟩, ⟨12, .phase⟩, ⟨13, .phase⟩, ⟨14, .phase⟩, ⟨15, .phase⟩, ⟨16, .phase⟩, ⟨17, .phase⟩, ⟨18, .phase⟩, ⟨19, .phase⟩, ⟨20, .phase⟩, ⟨21, .phase⟩], none⟩) rfl (fun K hK => ?_) AllReadyH.nil
            obtain ⟨r0, r1, r2, r3, r4, f0, f1, f2, f3, f4⟩ := cells_five12 LB7.out
            have BB8 := hid (below_five12 BB7.out HX9.out (.int .i64 a0) (.int .i64 a1) (.int .i64 a2) (.slice CA cd.length cc) (.slice LA lits.length lc))
            have LF := hid (lies_five12 LB7.out (.int .i64 a0) (.int .i64 a1) (.int .i64 a2) (.slice CA cd.length cc) (.slice LA lits.length lc))
            have HFL : Hid (∀ k o s, LA = some ⟨k, o, s⟩ → w4.heap.size ≤ k) := fun k o s e => by
              have h := OV7.out
              subst e
              exact Nat.le_trans HG.out (h.lt k rfl).1
            have OF := hid (own_ints (own_five12 OV7.out LB7.out (by decide) (.int .i64 a0) (.int .i64 a1) (.int .i64 a2) (.slice CA cd.length cc) (.slice LA lits.length lc)))
            go_simp
            refine hK.out _ _ ?_ (fun hH8 => ?_)
            next =>
             exact KP.out _ BB8.out
            clear hK K
            try simp only [apt12]
            clear r0 r1 r2 r3 r4 f0 f1 f2 f3 f4
            refine wpAnyH_done (by kernel_rfl) ?_ _
            go_wp2_with fail
            go_meet
            exact ⟨bx, LA, lc, rfl, LF, OF, HFL, BB8⟩
          next =>
           go_simp
           obtain ⟨u4, hu⟩ : ∃ x, x = (w4.alloc (.cells #[.int .i64 0, .int .i64 0, .int .i64 0, .slice none 0 0, .slice none 0 0] 32)).drew := ⟨_, rfl⟩
           obtain ⟨bx, hg⟩ : ∃ x, x = w4.heap.size := ⟨_, rfl⟩
           have hb : Below w4.drew.heap.size w4.drew u4 := by rw [hu]; exact below_alloc w4.drew _
           have HX9 : Hid (w4.heap.size ≤ bx) := by show _ ≤ _; rw [hg]; exact BB0.out.size
           have LB4 := hid (show Lies u4 bx 32 #[.int .i64 0, .int .i64 0, .int .i64 0, .slice none 0 0, .slice none 0 0] by rw [hu, hg]; exact Lies.new w4.drew _ _)
           have BB4 := hid (then_w BB0.out hb)
           try simp only [← hg]
           try rw [← hu]
           refine hK.out _ _ ?_ (fun hH4 => ?_)
           next =>
            exact KP.out _ BB4.out
           clear hK K
           try simp only [apt12]
           clear hb hu hg
           refine wpAnyH_ready (rs := [13, 18]) (by kernel_rfl) (by simp) ?_
           refine AllReadyH.cons (i := 13) (o := ⟨some 64, .buildSlice 30 0 #[], 30, "ref.go:44", #[], none⟩) rfl (fun K hK => ?_) (AllReadyH.cons (i := 18) (o := ⟨some 69, .call { callee := .value (.func 31), args := #[.tmp 65, .tmp 68], argTypes := #[24, 3] }, 30, "ref.go:44", #[⟨14, .data⟩, ⟨17, .data⟩, ⟨11, .chain⟩], none⟩) rfl (fun K hK => ?_) AllReadyH.nil)
           next =>
            go_simp
            obtain ⟨u5, hu⟩ : ∃ x, x = u4.alloc (.cells #[] 3) := ⟨_, rfl⟩
            obtain ⟨g, hg⟩ : ∃ x, x = u4.heap.size := ⟨_, rfl⟩
            have hb : Below u4.heap.size u4 u5 := by rw [hu]; exact below_alloc u4 _
            have HG : Hid (w4.heap.size ≤ g) := by show _ ≤ _; rw [hg]; exact BB4.out.size
            have OB5 := hid (show u5.ownsRow g 3 1 (.slice (some ⟨g, 0, none⟩) 0 0) 0 (([] : List Int).map (Value.int .i64)) by rw [hu, hg]; exact own_nil12 u4)
            have BB5 := hid (then_w BB4.out hb)
            have LB5 := hid (LB4.out.later hb)
            try simp only [← hg]
            try rw [← hu]
            refine hK.out _ _ ?_ (fun hH5 => ?_)
            next =>
             exact KP.out _ BB5.out
            clear hK K
            try simp only [apt12]
            clear hb hu hg
            refine wpAnyH_ready (rs := [18]) (by kernel_rfl) (by simp) ?_
            refine AllReadyH.cons (i := 18) (o := ⟨some 69, .call { callee := .value (.func 31), args := #[.tmp 65, .tmp 68], argTypes := #[24, 3] }, 30, "ref.go:44", #[⟨14, .data⟩, ⟨17, .data⟩, ⟨11, .chain⟩], none⟩) rfl (fun K hK => ?_) AllReadyH.nil
            go_simp
            go_at_call 31
            refine (rslots_any12 h v4 _ c _ (HS.out.below (then_w HB4.out BB5.out))).mono ?_
            rintro e u6 ⟨LS, ld, rfl, hin, hnil, hb⟩
            rw [← HLT.out] at hin ⊢
            have IL6 := hid hin
            have HNL := hid hnil
            have BB6 := hid (then_w BB5.out hb)
            have OB6 := hid (own_later OB5.out hb)
            have LB6 := hid (LB5.out.later hb)
            refine hK.out _ _ ?_ (fun hH6 => ?_)
            next =>
             exact KP.out _ BB6.out
            clear hK K
            try simp only [apt12]
            clear hb hin hnil
            refine wpAnyH_ready (rs := [19]) (by kernel_rfl) (by simp) ?_
            refine AllReadyH.cons (i := 19) (o := ⟨some 70, .call { callee := .builtin .append, args := #[.tmp 64, .tmp 69], argTypes := #[30, 30] }, 30, "ref.go:44", #[⟨13, .data⟩, ⟨18, .data⟩, ⟨18, .chain⟩], none⟩) rfl (fun K hK => ?_) AllReadyH.nil
            obtain ⟨va, u7, hrun, hown, hgr⟩ := run_app_ints12 u6 g (.slice (some ⟨g, 0, none⟩) 0 0) 0 [] OB6.out LS ld lits IL6.out HNL.out (by have := HLL.out; omega) (by have := (OB6.out.lt g rfl).2; omega)
            rw [List.nil_append, Nat.zero_add] at hown
            obtain ⟨LA, lc, rfl⟩ := own_form hown
            have BB7 := hid (BB6.out.grown hgr BB6.out.size (fun k hk => Nat.le_trans HG.out (OB6.out.lt k hk).1))
            have OV7 := hid hown
            have LB7 : Hid (Lies u7 bx 32 #[.int .i64 0, .int .i64 0, .int .i64 0, .slice none 0 0, .slice none 0 0]) := (hgr.block bx LB6.out.lt (fun e => own_blk_ne OB6.out LB6.out (by decide) e.symm)).trans LB6.out
            refine wp_append_run11 _ _ 30 rfl _ u7 hrun ?_
            refine hK.out _ _ ?_ (fun hH7 => ?_)
            next =>
             exact KP.out _ BB7.out
            clear hK K
            try simp only [apt12]
            clear hrun hown hgr
            refine tkI 20 ⟨some 71, .build 32 #[(0, .tmp 54), (1, .tmp 58), (2, .tmp 62), (3, .tmp 63), (4, .tmp 70)], 32, "ref.go:44", #[⟨3, .data⟩, ⟨7, .data⟩, ⟨11, .data⟩, ⟨12, .data⟩, ⟨19, .data⟩], none⟩ ?v72 rfl (by kernel_rfl) (by rfl) ?y72 ?_
            case y72 => intro w hSw; (try dsimp only at hSw); go_simp; all_goals with_reducible rfl
            try simp only [apt12]
            refine wpAnyH_ready (rs := [22]) (by kernel_rfl) (by simp) ?_
            refine AllReadyH.cons (i := 22) (o := ⟨none, .store 32 (.tmp 9) (.tmp 71), 0, "ref.go:44", #[⟨21, .data⟩, ⟨20, .data⟩, ⟨19, .chain⟩, ⟨0, .phase⟩, ⟨1, .phase⟩, ⟨2, .phase⟩, ⟨3, .phase⟩, ⟨4, .phase⟩, ⟨5, .phase⟩, ⟨6, .phase⟩, ⟨7, .phase⟩, ⟨8, .phase⟩, ⟨9, .phase⟩, ⟨10, .phase⟩, ⟨11, .phase⟩, ⟨12, .phase⟩, ⟨13, .phase⟩, ⟨14, .phase⟩, ⟨15, .phase⟩, ⟨16, .phase⟩, ⟨17, .phase⟩, ⟨18, .phase⟩, ⟨19, .phase⟩, ⟨20, .phase⟩, ⟨21, .phase⟩], none⟩) rfl (fun K hK => ?_) AllReadyH.nil
            obtain ⟨r0, r1, r2, r3, r4, f0, f1, f2, f3, f4⟩ := cells_five12 LB7.out
            have BB8 := hid (below_five12 BB7.out HX9.out (.int .i64 a0) (.int .i64 a1) (.int .i64 a2) (.slice CA cd.length cc) (.slice LA lits.length lc))
            have LF := hid (lies_five12 LB7.out (.int .i64 a0) (.int .i64 a1) (.int .i64 a2) (.slice CA cd.length cc) (.slice LA lits.length lc))
            have HFL : Hid (∀ k o s, LA = some ⟨k, o, s⟩ → w4.heap.size ≤ k) := fun k o s e => by
              have h := OV7.out
              subst e
              exact Nat.le_trans HG.out (h.lt k rfl).1
            have OF := hid (own_ints (own_five12 OV7.out LB7.out (by decide) (.int .i64 a0) (.int .i64 a1) (.int .i64 a2) (.slice CA cd.length cc) (.slice LA lits.length lc)))
            go_simp
            refine hK.out _ _ ?_ (fun hH8 => ?_)
            next =>
             exact KP.out _ BB8.out
            clear hK K
            try simp only [apt12]
            clear r0 r1 r2 r3 r4 f0 f1 f2 f3 f4
            refine wpAnyH_done (by kernel_rfl) ?_ _
            go_wp2_with fail
            go_meet
            exact ⟨bx, LA, lc, rfl, LF, OF, HFL, BB8⟩
           next =>
            go_simp
            go_at_call 31
            refine (rslots_any12 h v4 _ c _ (HS.out.below (then_w HB4.out BB4.out))).mono ?_
            rintro e u5 ⟨LS, ld, rfl, hin, hnil, hb⟩
            rw [← HLT.out] at hin ⊢
            have IL5 := hid hin
            have HNL := hid hnil
            have BB5 := hid (then_w BB4.out hb)
            have LB5 := hid (LB4.out.later hb)
            refine hK.out _ _ ?_ (fun hH5 => ?_)
            next =>
             exact KP.out _ BB5.out
            clear hK K
            try simp only [apt12]
            clear hb hin hnil
            refine wpAnyH_ready (rs := [13]) (by kernel_rfl) (by simp) ?_
            refine AllReadyH.cons (i := 13) (o := ⟨some 64, .buildSlice 30 0 #[], 30, "ref.go:44", #[], none⟩) rfl (fun K hK => ?_) AllReadyH.nil
            go_simp
            obtain ⟨u6, hu⟩ : ∃ x, x = u5.alloc (.cells #[] 3) := ⟨_, rfl⟩
            obtain ⟨g, hg⟩ : ∃ x, x = u5.heap.size := ⟨_, rfl⟩
            have hb : Below u5.heap.size u5 u6 := by rw [hu]; exact below_alloc u5 _
            have HG : Hid (w4.heap.size ≤ g) := by show _ ≤ _; rw [hg]; exact BB5.out.size
            have OB6 := hid (show u6.ownsRow g 3 1 (.slice (some ⟨g, 0, none⟩) 0 0) 0 (([] : List Int).map (Value.int .i64)) by rw [hu, hg]; exact own_nil12 u5)
            have BB6 := hid (then_w BB5.out hb)
            have LB6 := hid (LB5.out.later hb)
            have IL6 := hid (IL5.out.below hb)
            try simp only [← hg]
            try rw [← hu]
            refine hK.out _ _ ?_ (fun hH6 => ?_)
            next =>
             exact KP.out _ BB6.out
            clear hK K
            try simp only [apt12]
            clear hb hu hg
            refine wpAnyH_ready (rs := [19]) (by kernel_rfl) (by simp) ?_
            refine AllReadyH.cons (i := 19) (o := ⟨some 70, .call { callee := .builtin .append, args := #[.tmp 64, .tmp 69], argTypes := #[30, 30] }, 30, "ref.go:44", #[⟨13, .data⟩, ⟨18, .data⟩, ⟨18, .chain⟩], none⟩) rfl (fun K hK => ?_) AllReadyH.nil
            obtain ⟨va, u7, hrun, hown, hgr⟩ := run_app_ints12 u6 g (.slice (some ⟨g, 0, none⟩) 0 0) 0 [] OB6.out LS ld lits IL6.out HNL.out (by have := HLL.out; omega) (by have := (OB6.out.lt g rfl).2; omega)
            rw [List.nil_append, Nat.zero_add] at hown
            obtain ⟨LA, lc, rfl⟩ := own_form hown
            have BB7 := hid (BB6.out.grown hgr BB6.out.size (fun k hk => Nat.le_trans HG.out (OB6.out.lt k hk).1))
            have OV7 := hid hown
            have LB7 : Hid (Lies u7 bx 32 #[.int .i64 0, .int .i64 0, .int .i64 0, .slice none 0 0, .slice none 0 0]) := (hgr.block bx LB6.out.lt (fun e => own_blk_ne OB6.out LB6.out (by decide) e.symm)).trans LB6.out
            refine wp_append_run11 _ _ 30 rfl _ u7 hrun ?_
            refine hK.out _ _ ?_ (fun hH7 => ?_)
            next =>
             exact KP.out _ BB7.out
            clear hK K
            try simp only [apt12]
            clear hrun hown hgr
            refine tkI 20 ⟨some 71, .build 32 #[(0, .tmp 54), (1, .tmp 58), (2, .tmp 62), (3, .tmp 63), (4, .tmp 70)], 32, "ref.go:44", #[⟨3, .data⟩, ⟨7, .data⟩, ⟨11, .data⟩, ⟨12, .data⟩, ⟨19, .data⟩], none⟩ ?v73 rfl (by kernel_rfl) (by rfl) ?y73 ?_
            case y73 => intro w hSw; (try dsimp only at hSw); go_simp; all_goals with_reducible rfl
            try simp only [apt12]
            refine wpAnyH_ready (rs := [22]) (by kernel_rfl) (by simp) ?_
            refine AllReadyH.cons (i := 22) (o := ⟨none, .store 32 (.tmp 9) (.tmp 71), 0, "ref.go:44", #[⟨21, .data⟩, ⟨20, .data⟩, ⟨19, .chain⟩, ⟨0, .phase⟩, ⟨1, .phase⟩, ⟨2, .phase⟩, ⟨3, .phase⟩, ⟨4, .phase⟩, ⟨5, .phase⟩, ⟨6, .phase⟩, ⟨7, .phase⟩, ⟨8, .phase⟩, ⟨9, .phase⟩, ⟨10, .phase⟩, ⟨11, .phase⟩, ⟨12, .phase⟩, ⟨13, .phase⟩, ⟨14, .phase⟩, ⟨15, .phase⟩, ⟨16, .phase⟩, ⟨17, .phase⟩, ⟨18, .phase⟩, ⟨19, .phase⟩, ⟨20, .phase⟩, ⟨21, .phase⟩], none⟩) rfl (fun K hK => ?_) AllReadyH.nil
            obtain ⟨r0, r1, r2, r3, r4, f0, f1, f2, f3, f4⟩ := cells_five12 LB7.out
            have BB8 := hid (below_five12 BB7.out HX9.out (.int .i64 a0) (.int .i64 a1) (.int .i64 a2) (.slice CA cd.length cc) (.slice LA lits.length lc))
            have LF := hid (lies_five12 LB7.out (.int .i64 a0) (.int .i64 a1) (.int .i64 a2) (.slice CA cd.length cc) (.slice LA lits.length lc))
            have HFL : Hid (∀ k o s, LA = some ⟨k, o, s⟩ → w4.heap.size ≤ k) := fun k o s e => by
              have h := OV7.out
              subst e
              exact Nat.le_trans HG.out (h.lt k rfl).1
            have OF := hid (own_ints (own_five12 OV7.out LB7.out (by decide) (.int .i64 a0) (.int .i64 a1) (.int .i64 a2) (.slice CA cd.length cc) (.slice LA lits.length lc)))
            go_simp
            refine hK.out _ _ ?_ (fun hH8 => ?_)
            next =>
             exact KP.out _ BB8.out
            clear hK K
            try simp only [apt12]
            clear r0 r1 r2 r3 r4 f0 f1 f2 f3 f4
            refine wpAnyH_done (by kernel_rfl) ?_ _
            go_wp2_with fail
            go_meet
            exact ⟨bx, LA, lc, rfl, LF, OF, HFL, BB8⟩
         next =>
          go_simp
          obtain ⟨u3, hu⟩ : ∃ x, x = (w4.alloc (.cells #[] 3)).drew := ⟨_, rfl⟩
          obtain ⟨g, hg⟩ : ∃ x, x = w4.heap.size := ⟨_, rfl⟩
          have hb : Below w4.drew.heap.size w4.drew u3 := by rw [hu]; exact below_alloc w4.drew _
          have HG : Hid (w4.heap.size ≤ g) := by show _ ≤ _; rw [hg]; exact BB0.out.size
          have OB3 := hid (show u3.ownsRow g 3 1 (.slice (some ⟨g, 0, none⟩) 0 0) 0 (([] : List Int).map (Value.int .i64)) by rw [hu, hg]; exact own_nil12 w4.drew)
          have BB3 := hid (then_w BB0.out hb)
          try simp only [← hg]
          try rw [← hu]
          refine hK.out _ _ ?_ (fun hH3 => ?_)
          next =>
           exact KP.out _ BB3.out
          clear hK K
          try simp only [apt12]
          clear hb hu hg
          refine wpAnyH_ready (rs := [11, 21]) (by kernel_rfl) (by simp) ?_
          refine AllReadyH.cons (i := 11) (o := ⟨some 62, .call { callee := .value (.func 41), args := #[.tmp 61, .const (Go.Value.int .i64 8)], argTypes := #[3, 3] }, 3, "ref.go:44", #[⟨10, .data⟩, ⟨7, .chain⟩], none⟩) rfl (fun K hK => ?_) (AllReadyH.cons (i := 21) (o := ⟨some 9, .alloc 32, 0, "ref.go:44", #[], none⟩) rfl (fun K hK => ?_) AllReadyH.nil)
          next =>
           go_simp
           go_at_call 41
           refine (rsmall_any12 v2 8 _).mono ?_
           rintro e u4 ⟨rfl, hu⟩
           subst hu
           rw [← A2.out]
           refine hK.out _ _ ?_ (fun hH4 => ?_)
           next =>
            exact hH3
           clear hK K
           try simp only [apt12]
           refine wpAnyH_ready (rs := [18, 21]) (by kernel_rfl) (by simp) ?_
           refine AllReadyH.cons (i := 18) (o := ⟨some 69, .call { callee := .value (.func 31), args := #[.tmp 65, .tmp 68], argTypes := #[24, 3] }, 30, "ref.go:44", #[⟨14, .data⟩, ⟨17, .data⟩, ⟨11, .chain⟩], none⟩) rfl (fun K hK => ?_) (AllReadyH.cons (i := 21) (o := ⟨some 9, .alloc 32, 0, "ref.go:44", #[], none⟩) rfl (fun K hK => ?_) AllReadyH.nil)
           next =>
            go_simp
            go_at_call 31
            refine (rslots_any12 h v4 _ c _ (HS.out.below (then_w HB4.out BB3.out))).mono ?_
            rintro e u5 ⟨LS, ld, rfl, hin, hnil, hb⟩
            rw [← HLT.out] at hin ⊢
            have IL5 := hid hin
            have HNL := hid hnil
            have BB5 := hid (then_w BB3.out hb)
            have OB5 := hid (own_later OB3.out hb)
            refine hK.out _ _ ?_ (fun hH5 => ?_)
            next =>
             exact KP.out _ BB5.out
            clear hK K
            try simp only [apt12]
            clear hb hin hnil
            refine wpAnyH_ready (rs := [19, 21]) (by kernel_rfl) (by simp) ?_
            refine AllReadyH.cons (i := 19) (o := ⟨some 70, .call { callee := .builtin .append, args := #[.tmp 64, .tmp 69], argTypes := #[30, 30] }, 30, "ref.go:44", #[⟨13, .data⟩, ⟨18, .data⟩, ⟨18, .chain⟩], none⟩) rfl (fun K hK => ?_) (AllReadyH.cons (i := 21) (o := ⟨some 9, .alloc 32, 0, "ref.go:44", #[], none⟩) rfl (fun K hK => ?_) AllReadyH.nil)
            next =>
             obtain ⟨va, u6, hrun, hown, hgr⟩ := run_app_ints12 u5 g (.slice (some ⟨g, 0, none⟩) 0 0) 0 [] OB5.out LS ld lits IL5.out HNL.out (by have := HLL.out; omega) (by have := (OB5.out.lt g rfl).2; omega)
             rw [List.nil_append, Nat.zero_add] at hown
             obtain ⟨LA, lc, rfl⟩ := own_form hown
             have BB6 := hid (BB5.out.grown hgr BB5.out.size (fun k hk => Nat.le_trans HG.out (OB5.out.lt k hk).1))
             have OV6 := hid hown
             refine wp_append_run11 _ _ 30 rfl _ u6 hrun ?_
             refine hK.out _ _ ?_ (fun hH6 => ?_)
             next =>
              exact KP.out _ BB6.out
             clear hK K
             try simp only [apt12]
             clear hrun hown hgr
             refine tkI 20 ⟨some 71, .build 32 #[(0, .tmp 54), (1, .tmp 58), (2, .tmp 62), (3, .tmp 63), (4, .tmp 70)], 32, "ref.go:44", #[⟨3, .data⟩, ⟨7, .data⟩, ⟨11, .data⟩, ⟨12, .data⟩, ⟨19, .data⟩], none⟩ ?v74 rfl (by kernel_rfl) (by rfl) ?y74 ?_
             case y74 => intro w hSw; (try dsimp only at hSw); go_simp; all_goals with_reducible rfl
             try simp only [apt12]
             refine wpAnyH_ready (rs := [21]) (by kernel_rfl) (by simp) ?_
             refine AllReadyH.cons (i := 21) (o := ⟨some 9, .alloc 32, 0, "ref.go:44", #[], none⟩) rfl (fun K hK => ?_) AllReadyH.nil
             go_simp
             obtain ⟨u7, hu⟩ : ∃ x, x = u6.alloc (.cells #[.int .i64 0, .int .i64 0, .int .i64 0, .slice none 0 0, .slice none 0 0] 32) := ⟨_, rfl⟩
             obtain ⟨bx, hg⟩ : ∃ x, x = u6.heap.size := ⟨_, rfl⟩
             have hb : Below u6.heap.size u6 u7 := by rw [hu]; exact below_alloc u6 _
             have HX9 : Hid (w4.heap.size ≤ bx) := by show _ ≤ _; rw [hg]; exact BB6.out.size
             have LB7 := hid (show Lies u7 bx 32 #[.int .i64 0, .int .i64 0, .int .i64 0, .slice none 0 0, .slice none 0 0] by rw [hu, hg]; exact Lies.new u6 _ _)
             have BB7 := hid (then_w BB6.out hb)
             have OV7 := hid (own_later OV6.out hb)
             try simp only [← hg]
             try rw [← hu]
             refine hK.out _ _ ?_ (fun hH7 => ?_)
             next =>
              exact KP.out _ BB7.out
             clear hK K
             try simp only [apt12]
             clear hb hu hg
             refine wpAnyH_ready (rs := [22]) (by kernel_rfl) (by simp) ?_
             refine AllReadyH.cons (i := 22) (o := ⟨none, .store 32 (.tmp 9) (.tmp 71), 0, "ref.go:44", #[⟨21, .data⟩, ⟨20, .data⟩, ⟨19, .chain⟩, ⟨0, .phase⟩, ⟨1, .phase⟩, ⟨2, .phase⟩, ⟨3, .phase⟩, ⟨4, .phase⟩, ⟨5, .phase⟩, ⟨6, .phase⟩, ⟨7, .phase⟩, ⟨8, .phase⟩, ⟨9, .phase⟩, ⟨10, .phase⟩, ⟨11, .phase⟩, ⟨12, .phase⟩, ⟨13, .phase⟩, ⟨14, .phase⟩, ⟨15, .phase⟩, ⟨16, .phase⟩, ⟨17, .phase⟩, ⟨18, .phase⟩, ⟨19, .phase⟩, ⟨20, .phase⟩, ⟨21, .phase⟩], none⟩) rfl (fun K hK => ?_) AllReadyH.nil
             obtain ⟨r0, r1, r2, r3, r4, f0, f1, f2, f3, f4⟩ := cells_five12 LB7.out
             have BB8 := hid (below_five12 BB7.out HX9.out (.int .i64 a0) (.int .i64 a1) (.int .i64 a2) (.slice CA cd.length cc) (.slice LA lits.length lc))
             have LF := hid (lies_five12 LB7.out (.int .i64 a0) (.int .i64 a1) (.int .i64 a2) (.slice CA cd.length cc) (.slice LA lits.length lc))
             have HFL : Hid (∀ k o s, LA = some ⟨k, o, s⟩ → w4.heap.size ≤ k) := fun k o s e => by
               have h := OV7.out
               subst e
               exact Nat.le_trans HG.out (h.lt k rfl).1
             have OF := hid (own_ints (own_five12 OV7.out LB7.out (by decide) (.int .i64 a0) (.int .i64 a1) (.int .i64 a2) (.slice CA cd.length cc) (.slice LA lits.length lc)))
             go_simp
             refine hK.out _ _ ?_ (fun hH8 => ?_)
             next =>
              exact KP.out _ BB8.out
             clear hK K
             try simp only [apt12]
             clear r0 r1 r2 r3 r4 f0 f1 f2 f3 f4
             refine wpAnyH_done (by kernel_rfl) ?_ _
             go_wp2_with fail
             go_meet
             exact ⟨bx, LA, lc, rfl, LF, OF, HFL, BB8⟩
            next =>
             go_simp
             obtain ⟨u6, hu⟩ : ∃ x, x = u5.alloc (.cells #[.int .i64 0, .int .i64 0, .int .i64 0, .slice none 0 0, .slice none 0 0] 32) := ⟨_, rfl⟩
             obtain ⟨bx, hg⟩ : ∃ x, x = u5.heap.size := ⟨_, rfl⟩
             have hb : Below u5.heap.size u5 u6 := by rw [hu]; exact below_alloc u5 _
             have HX9 : Hid (w4.heap.size ≤ bx) := by show _ ≤ _; rw [hg]; exact BB5.out.size
             have LB6 := hid (show Lies u6 bx 32 #[.int .i64 0, .int .i64 0, .int .i64 0, .slice none 0 0, .slice none 0 0] by rw [hu, hg]; exact Lies.new u5 _ _)
             have BB6 := hid (then_w BB5.out hb)
             have OB6 := hid (own_later OB5.out hb)
             have IL6 := hid (IL5.out.below hb)
             try simp only [← hg]
             try rw [← hu]
             refine hK.out _ _ ?_ (fun hH6 => ?_)
             next =>
              exact KP.out _ BB6.out
             clear hK K
             try simp only [apt12]
             clear hb hu hg
             refine wpAnyH_ready (rs := [19]) (by kernel_rfl) (by simp) ?_
             refine AllReadyH.cons (i := 19) (o := ⟨some 70, .call { callee := .builtin .append, args := #[.tmp 64, .tmp 69], argTypes := #[30, 30] }, 30, "ref.go:44", #[⟨13, .data⟩, ⟨18, .data⟩, ⟨18, .chain⟩], none⟩) rfl (fun K hK => ?_) AllReadyH.nil
             obtain ⟨va, u7, hrun, hown, hgr⟩ := run_app_ints12 u6 g (.slice (some ⟨g, 0, none⟩) 0 0) 0 [] OB6.out LS ld lits IL6.out HNL.out (by have := HLL.out; omega) (by have := (OB6.out.lt g rfl).2; omega)
             rw [List.nil_append, Nat.zero_add] at hown
             obtain ⟨LA, lc, rfl⟩ := own_form hown
             have BB7 := hid (BB6.out.grown hgr BB6.out.size (fun k hk => Nat.le_trans HG.out (OB6.out.lt k hk).1))
             have OV7 := hid hown
             have LB7 : Hid (Lies u7 bx 32 #[.int .i64 0, .int .i64 0, .int .i64 0, .slice none 0 0, .slice none 0 0]) := (hgr.block bx LB6.out.lt (fun e => own_blk_ne OB6.out LB6.out (by decide) e.symm)).trans LB6.out
             refine wp_append_run11 _ _ 30 rfl _ u7 hrun ?_
             refine hK.out _ _ ?_ (fun hH7 => ?_)
             next =>
              exact KP.out _ BB7.out
             clear hK K
             try simp only [apt12]
             clear hrun hown hgr
             refine tkI 20 ⟨some 71, .build 32 #[(0, .tmp 54), (1, .tmp 58), (2, .tmp 62), (3, .tmp 63), (4, .tmp 70)], 32, "ref.go:44", #[⟨3, .data⟩, ⟨7, .data⟩, ⟨11, .data⟩, ⟨12, .data⟩, ⟨19, .data⟩], none⟩ ?v75 rfl (by kernel_rfl) (by rfl) ?y75 ?_
             case y75 => intro w hSw; (try dsimp only at hSw); go_simp; all_goals with_reducible rfl
             try simp only [apt12]
             refine wpAnyH_ready (rs := [22]) (by kernel_rfl) (by simp) ?_
             refine AllReadyH.cons (i := 22) (o := ⟨none, .store 32 (.tmp 9) (.tmp 71), 0, "ref.go:44", #[⟨21, .data⟩, ⟨20, .data⟩, ⟨19, .chain⟩, ⟨0, .phase⟩, ⟨1, .phase⟩, ⟨2, .phase⟩, ⟨3, .phase⟩, ⟨4, .phase⟩, ⟨5, .phase⟩, ⟨6, .phase⟩, ⟨7, .phase⟩, ⟨8, .phase⟩, ⟨9, .phase⟩, ⟨10, .phase⟩, ⟨11, .phase⟩, ⟨12, .phase⟩, ⟨13, .phase⟩, ⟨14, .phase⟩, ⟨15, .phase⟩, ⟨16, .phase⟩, ⟨17, .phase⟩, ⟨18, .phase⟩, ⟨19, .phase⟩, ⟨20, .phase⟩, ⟨21, .phase⟩], none⟩) rfl (fun K hK => ?_) AllReadyH.nil
             obtain ⟨r0, r1, r2, r3, r4, f0, f1, f2, f3, f4⟩ := cells_five12 LB7.out
             have BB8 := hid (below_five12 BB7.out HX9.out (.int .i64 a0) (.int .i64 a1) (.int .i64 a2) (.slice CA cd.length cc) (.slice LA lits.length lc))
             have LF := hid (lies_five12 LB7.out (.int .i64 a0) (.int .i64 a1) (.int .i64 a2) (.slice CA cd.length cc) (.slice LA lits.length lc))
             have HFL : Hid (∀ k o s, LA = some ⟨k, o, s⟩ → w4.heap.size ≤ k) := fun k o s e => by
               have h := OV7.out
               subst e
               exact Nat.le_trans HG.out (h.lt k rfl).1
             have OF := hid (own_ints (own_five12 OV7.out LB7.out (by decide) (.int .i64 a0) (.int .i64 a1) (.int .i64 a2) (.slice CA cd.length cc) (.slice LA lits.length lc)))
             go_simp
             refine hK.out _ _ ?_ (fun hH8 => ?_)
             next =>
              exact KP.out _ BB8.out
             clear hK K
             try simp only [apt12]
             clear r0 r1 r2 r3 r4 f0 f1 f2 f3 f4
             refine wpAnyH_done (by kernel_rfl) ?_ _
             go_wp2_with fail
             go_meet
             exact ⟨bx, LA, lc, rfl, LF, OF, HFL, BB8⟩
           next =>
            go_simp
            obtain ⟨u5, hu⟩ : ∃ x, x = u3.alloc (.cells #[.int .i64 0, .int .i64 0, .int .i64 0, .slice none 0 0, .slice none 0 0] 32) := ⟨_, rfl⟩
            obtain ⟨bx, hg⟩ : ∃ x, x = u3.heap.size := ⟨_, rfl⟩
            have hb : Below u3.heap.size u3 u5 := by rw [hu]; exact below_alloc u3 _
            have HX9 : Hid (w4.heap.size ≤ bx) := by show _ ≤ _; rw [hg]; exact BB3.out.size
            have LB5 := hid (show Lies u5 bx 32 #[.int .i64 0, .int .i64 0, .int .i64 0, .slice none 0 0, .slice none 0 0] by rw [hu, hg]; exact Lies.new u3 _ _)
            have BB5 := hid (then_w BB3.out hb)
            have OB5 := hid (own_later OB3.out hb)
            try simp only [← hg]
            try rw [← hu]
            refine hK.out _ _ ?_ (fun hH5 => ?_)
            next =>
             exact KP.out _ BB5.out
            clear hK K
            try simp only [apt12]
            clear hb hu hg
            refine wpAnyH_ready (rs := [18]) (by kernel_rfl) (by simp) ?_
            refine AllReadyH.cons (i := 18) (o := ⟨some 69, .call { callee := .value (.func 31), args := #[.tmp 65, .tmp 68], argTypes := #[24, 3] }, 30, "ref.go:44", #[⟨14, .data⟩, ⟨17, .data⟩, ⟨11, .chain⟩], none⟩) rfl (fun K hK => ?_) AllReadyH.nil
            go_simp
            go_at_call 31
            refine (rslots_any12 h v4 _ c _ (HS.out.below (then_w HB4.out BB5.out))).mono ?_
            rintro e u6 ⟨LS, ld, rfl, hin, hnil, hb⟩
            rw [← HLT.out] at hin ⊢
            have IL6 := hid hin
            have HNL := hid hnil
            have BB6 := hid (then_w BB5.out hb)
            have OB6 := hid (own_later OB5.out hb)
            have LB6 := hid (LB5.out.later hb)
            refine hK.out _ _ ?_ (fun hH6 => ?_)
            next =>
             exact KP.out _ BB6.out
            clear hK K
            try simp only [apt12]
            clear hb hin hnil
            refine wpAnyH_ready (rs := [19]) (by kernel_rfl) (by simp) ?_
            refine AllReadyH.cons (i := 19) (o := ⟨some 70, .call { callee := .builtin .append, args := #[.tmp 64, .tmp 69], argTypes := #[30, 30] }, 30, "ref.go:44", #[⟨13, .data⟩, ⟨18, .data⟩, ⟨18, .chain⟩], none⟩) rfl (fun K hK => ?_) AllReadyH.nil
            obtain ⟨va, u7, hrun, hown, hgr⟩ := run_app_ints12 u6 g (.slice (some ⟨g, 0, none⟩) 0 0) 0 [] OB6.out LS ld lits IL6.out HNL.out (by have := HLL.out; omega) (by have := (OB6.out.lt g rfl).2; omega)
            rw [List.nil_append, Nat.zero_add] at hown
            obtain ⟨LA, lc, rfl⟩ := own_form hown
            have BB7 := hid (BB6.out.grown hgr BB6.out.size (fun k hk => Nat.le_trans HG.out (OB6.out.lt k hk).1))
            have OV7 := hid hown
            have LB7 : Hid (Lies u7 bx 32 #[.int .i64 0, .int .i64 0, .int .i64 0, .slice none 0 0, .slice none 0 0]) := (hgr.block bx LB6.out.lt (fun e => own_blk_ne OB6.out LB6.out (by decide) e.symm)).trans LB6.out
            refine wp_append_run11 _ _ 30 rfl _ u7 hrun ?_
            refine hK.out _ _ ?_ (fun hH7 => ?_)
            next =>
             exact KP.out _ BB7.out
            clear hK K
            try simp only [apt12]
            clear hrun hown hgr
            refine tkI 20 ⟨some 71, .build 32 #[(0, .tmp 54), (1, .tmp 58), (2, .tmp 62), (3, .tmp 63), (4, .tmp 70)], 32, "ref.go:44", #[⟨3, .data⟩, ⟨7, .data⟩, ⟨11, .data⟩, ⟨12, .data⟩, ⟨19, .data⟩], none⟩ ?v76 rfl (by kernel_rfl) (by rfl) ?y76 ?_
            case y76 => intro w hSw; (try dsimp only at hSw); go_simp; all_goals with_reducible rfl
            try simp only [apt12]
            refine wpAnyH_ready (rs := [22]) (by kernel_rfl) (by simp) ?_
            refine AllReadyH.cons (i := 22) (o := ⟨none, .store 32 (.tmp 9) (.tmp 71), 0, "ref.go:44", #[⟨21, .data⟩, ⟨20, .data⟩, ⟨19, .chain⟩, ⟨0, .phase⟩, ⟨1, .phase⟩, ⟨2, .phase⟩, ⟨3, .phase⟩, ⟨4, .phase⟩, ⟨5, .phase⟩, ⟨6, .phase⟩, ⟨7, .phase⟩, ⟨8, .phase⟩, ⟨9, .phase⟩, ⟨10, .phase⟩, ⟨11, .phase⟩, ⟨12, .phase⟩, ⟨13, .phase⟩, ⟨14, .phase⟩, ⟨15, .phase⟩, ⟨16, .phase⟩, ⟨17, .phase⟩, ⟨18, .phase⟩, ⟨19, .phase⟩, ⟨20, .phase⟩, ⟨21, .phase⟩], none⟩) rfl (fun K hK => ?_) AllReadyH.nil
            obtain ⟨r0, r1, r2, r3, r4, f0, f1, f2, f3, f4⟩ := cells_five12 LB7.out
            have BB8 := hid (below_five12 BB7.out HX9.out (.int .i64 a0) (.int .i64 a1) (.int .i64 a2) (.slice CA cd.length cc) (.slice LA lits.length lc))
            have LF := hid (lies_five12 LB7.out (.int .i64 a0) (.int .i64 a1) (.int .i64 a2) (.slice CA cd.length cc) (.slice LA lits.length lc))
            have HFL : Hid (∀ k o s, LA = some ⟨k, o, s⟩ → w4.heap.size ≤ k) := fun k o s e => by
              have h := OV7.out
              subst e
              exact Nat.le_trans HG.out (h.lt k rfl).1
            have OF := hid (own_ints (own_five12 OV7.out LB7.out (by decide) (.int .i64 a0) (.int .i64 a1) (.int .i64 a2) (.slice CA cd.length cc) (.slice LA lits.length lc)))
            go_simp
            refine hK.out _ _ ?_ (fun hH8 => ?_)
            next =>
             exact KP.out _ BB8.out
            clear hK K
            try simp only [apt12]
            clear r0 r1 r2 r3 r4 f0 f1 f2 f3 f4
            refine wpAnyH_done (by kernel_rfl) ?_ _
            go_wp2_with fail
            go_meet
            exact ⟨bx, LA, lc, rfl, LF, OF, HFL, BB8⟩
          next =>
           go_simp
           obtain ⟨u4, hu⟩ : ∃ x, x = u3.alloc (.cells #[.int .i64 0, .int .i64 0, .int .i64 0, .slice none 0 0, .slice none 0 0] 32) := ⟨_, rfl⟩
           obtain ⟨bx, hg⟩ : ∃ x, x = u3.heap.size := ⟨_, rfl⟩
           have hb : Below u3.heap.size u3 u4 := by rw [hu]; exact below_alloc u3 _
           have HX9 : Hid (w4.heap.size ≤ bx) := by show _ ≤ _; rw [hg]; exact BB3.out.size
           have LB4 := hid (show Lies u4 bx 32 #[.int .i64 0, .int .i64 0, .int .i64 0, .slice none 0 0, .slice none 0 0] by rw [hu, hg]; exact Lies.new u3 _ _)
           have BB4 := hid (then_w BB3.out hb)
           have OB4 := hid (own_later OB3.out hb)
           try simp only [← hg]
           try rw [← hu]
           refine hK.out _ _ ?_ (fun hH4 => ?_)
           next =>
            exact KP.out _ BB4.out
           clear hK K
           try simp only [apt12]
           clear hb hu hg
           refine wpAnyH_ready (rs := [11]) (by kernel_rfl) (by simp) ?_
           refine AllReadyH.cons (i := 11) (o := ⟨some 62, .call { callee := .value (.func 41), args := #[.tmp 61, .const (Go.Value.int .i64 8)], argTypes := #[3, 3] }, 3, "ref.go:44", #[⟨10, .data⟩, ⟨7, .chain⟩], none⟩) rfl (fun K hK => ?_) AllReadyH.nil
           go_simp
           go_at_call 41
           refine (rsmall_any12 v2 8 _).mono ?_
           rintro e u5 ⟨rfl, hu⟩
           subst hu
           rw [← A2.out]
           refine hK.out _ _ ?_ (fun hH5 => ?_)
           next =>
            exact hH4
           clear hK K
           try simp only [apt12]
           refine wpAnyH_ready (rs := [18]) (by kernel_rfl) (by simp) ?_
           refine AllReadyH.cons (i := 18) (o := ⟨some 69, .call { callee := .value (.func 31), args := #[.tmp 65, .tmp 68], argTypes := #[24, 3] }, 30, "ref.go:44", #[⟨14, .data⟩, ⟨17, .data⟩, ⟨11, .chain⟩], none⟩) rfl (fun K hK => ?_) AllReadyH.nil
           go_simp
           go_at_call 31
           refine (rslots_any12 h v4 _ c _ (HS.out.below (then_w HB4.out BB4.out))).mono ?_
           rintro e u6 ⟨LS, ld, rfl, hin, hnil, hb⟩
           rw [← HLT.out] at hin ⊢
           have IL6 := hid hin
           have HNL := hid hnil
           have BB6 := hid (then_w BB4.out hb)
           have OB6 := hid (own_later OB4.out hb)
           have LB6 := hid (LB4.out.later hb)
           refine hK.out _ _ ?_ (fun hH6 => ?_)
           next =>
            exact KP.out _ BB6.out
           clear hK K
           try simp only [apt12]
           clear hb hin hnil
           refine wpAnyH_ready (rs := [19]) (by kernel_rfl) (by simp) ?_
           refine AllReadyH.cons (i := 19) (o := ⟨some 70, .call { callee := .builtin .append, args := #[.tmp 64, .tmp 69], argTypes := #[30, 30] }, 30, "ref.go:44", #[⟨13, .data⟩, ⟨18, .data⟩, ⟨18, .chain⟩], none⟩) rfl (fun K hK => ?_) AllReadyH.nil
           obtain ⟨va, u7, hrun, hown, hgr⟩ := run_app_ints12 u6 g (.slice (some ⟨g, 0, none⟩) 0 0) 0 [] OB6.out LS ld lits IL6.out HNL.out (by have := HLL.out; omega) (by have := (OB6.out.lt g rfl).2; omega)
           rw [List.nil_append, Nat.zero_add] at hown
           obtain ⟨LA, lc, rfl⟩ := own_form hown
           have BB7 := hid (BB6.out.grown hgr BB6.out.size (fun k hk => Nat.le_trans HG.out (OB6.out.lt k hk).1))
           have OV7 := hid hown
           have LB7 : Hid (Lies u7 bx 32 #[.int .i64 0, .int .i64 0, .int .i64 0, .slice none 0 0, .slice none 0 0]) := (hgr.block bx LB6.out.lt (fun e => own_blk_ne OB6.out LB6.out (by decide) e.symm)).trans LB6.out
           refine wp_append_run11 _ _ 30 rfl _ u7 hrun ?_
           refine hK.out _ _ ?_ (fun hH7 => ?_)
           next =>
            exact KP.out _ BB7.out
           clear hK K
           try simp only [apt12]
           clear hrun hown hgr
           refine tkI 20 ⟨some 71, .build 32 #[(0, .tmp 54), (1, .tmp 58), (2, .tmp 62), (3, .tmp 63), (4, .tmp 70)], 32, "ref.go:44", #[⟨3, .data⟩, ⟨7, .data⟩, ⟨11, .data⟩, ⟨12, .data⟩, ⟨19, .data⟩], none⟩ ?v77 rfl (by kernel_rfl) (by rfl) ?y77 ?_
           case y77 => intro w hSw; (try dsimp only at hSw); go_simp; all_goals with_reducible rfl
           try simp only [apt12]
           refine wpAnyH_ready (rs := [22]) (by kernel_rfl) (by simp) ?_
           refine AllReadyH.cons (i := 22) (o := ⟨none, .store 32 (.tmp 9) (.tmp 71), 0, "ref.go:44", #[⟨21, .data⟩, ⟨20, .data⟩, ⟨19, .chain⟩, ⟨0, .phase⟩, ⟨1, .phase⟩, ⟨2, .phase⟩, ⟨3, .phase⟩, ⟨4, .phase⟩, ⟨5, .phase⟩, ⟨6, .phase⟩, ⟨7, .phase⟩, ⟨8, .phase⟩, ⟨9, .phase⟩, ⟨10, .phase⟩, ⟨11, .phase⟩, ⟨12, .phase⟩, ⟨13, .phase⟩, ⟨14, .phase⟩, ⟨15, .phase⟩, ⟨16, .phase⟩, ⟨17, .phase⟩, ⟨18, .phase⟩, ⟨19, .phase⟩, ⟨20, .phase⟩, ⟨21, .phase⟩], none⟩) rfl (fun K hK => ?_) AllReadyH.nil
           obtain ⟨r0, r1, r2, r3, r4, f0, f1, f2, f3, f4⟩ := cells_five12 LB7.out
           have BB8 := hid (below_five12 BB7.out HX9.out (.int .i64 a0) (.int .i64 a1) (.int .i64 a2) (.slice CA cd.length cc) (.slice LA lits.length lc))
           have LF := hid (lies_five12 LB7.out (.int .i64 a0) (.int .i64 a1) (.int .i64 a2) (.slice CA cd.length cc) (.slice LA lits.length lc))
           have HFL : Hid (∀ k o s, LA = some ⟨k, o, s⟩ → w4.heap.size ≤ k) := fun k o s e => by
             have h := OV7.out
             subst e
             exact Nat.le_trans HG.out (h.lt k rfl).1
           have OF := hid (own_ints (own_five12 OV7.out LB7.out (by decide) (.int .i64 a0) (.int .i64 a1) (.int .i64 a2) (.slice CA cd.length cc) (.slice LA lits.length lc)))
           go_simp
           refine hK.out _ _ ?_ (fun hH8 => ?_)
           next =>
            exact KP.out _ BB8.out
           clear hK K
           try simp only [apt12]
           clear r0 r1 r2 r3 r4 f0 f1 f2 f3 f4
           refine wpAnyH_done (by kernel_rfl) ?_ _
           go_wp2_with fail
           go_meet
           exact ⟨bx, LA, lc, rfl, LF, OF, HFL, BB8⟩
         next =>
          go_simp
          obtain ⟨u3, hu⟩ : ∃ x, x = (w4.alloc (.cells #[.int .i64 0, .int .i64 0, .int .i64 0, .slice none 0 0, .slice none 0 0] 32)).drew := ⟨_, rfl⟩
          obtain ⟨bx, hg⟩ : ∃ x, x = w4.heap.size := ⟨_, rfl⟩
          have hb : Below w4.drew.heap.size w4.drew u3 := by rw [hu]; exact below_alloc w4.drew _
          have HX9 : Hid (w4.heap.size ≤ bx) := by show _ ≤ _; rw [hg]; exact BB0.out.size
          have LB3 := hid (show Lies u3 bx 32 #[.int .i64 0, .int .i64 0, .int .i64 0, .slice none 0 0, .slice none 0 0] by rw [hu, hg]; exact Lies.new w4.drew _ _)
          have BB3 := hid (then_w BB0.out hb)
          try simp only [← hg]
          try rw [← hu]
          refine hK.out _ _ ?_ (fun hH3 => ?_)
          next =>
           exact KP.out _ BB3.out
          clear hK K
          try simp only [apt12]
          clear hb hu hg
          refine wpAnyH_ready (rs := [11, 13]) (by kernel_rfl) (by simp) ?_
          refine AllReadyH.cons (i := 11) (o := ⟨some 62, .call { callee := .value (.func 41), args := #[.tmp 61, .const (Go.Value.int .i64 8)], argTypes := #[3, 3] }, 3, "ref.go:44", #[⟨10, .data⟩, ⟨7, .chain⟩], none⟩) rfl (fun K hK => ?_) (AllReadyH.cons (i := 13) (o := ⟨some 64, .buildSlice 30 0 #[], 30, "ref.go:44", #[], none⟩) rfl (fun K hK => ?_) AllReadyH.nil)
          next =>
           go_simp
           go_at_call 41
           refine (rsmall_any12 v2 8 _).mono ?_
           rintro e u4 ⟨rfl, hu⟩
           subst hu
           rw [← A2.out]
           refine hK.out _ _ ?_ (fun hH4 => ?_)
           next =>
            exact hH3
           clear hK K
           try simp only [apt12]
           refine wpAnyH_ready (rs := [13, 18]) (by kernel_rfl) (by simp) ?_
           refine AllReadyH.cons (i := 13) (o := ⟨some 64, .buildSlice 30 0 #[], 30, "ref.go:44", #[], none⟩) rfl (fun K hK => ?_) (AllReadyH.cons (i := 18) (o := ⟨some 69, .call { callee := .value (.func 31), args := #[.tmp 65, .tmp 68], argTypes := #[24, 3] }, 30, "ref.go:44", #[⟨14, .data⟩, ⟨17, .data⟩, ⟨11, .chain⟩], none⟩) rfl (fun K hK => ?_) AllReadyH.nil)
           next =>
            go_simp
            obtain ⟨u5, hu⟩ : ∃ x, x = u3.alloc (.cells #[] 3) := ⟨_, rfl⟩
            obtain ⟨g, hg⟩ : ∃ x, x = u3.heap.size := ⟨_, rfl⟩
            have hb : Below u3.heap.size u3 u5 := by rw [hu]; exact below_alloc u3 _
            have HG : Hid (w4.heap.size ≤ g) := by show _ ≤ _; rw [hg]; exact BB3.out.size
            have OB5 := hid (show u5.ownsRow g 3 1 (.slice (some ⟨g, 0, none⟩) 0 0) 0 (([] : List Int).map (Value.int .i64)) by rw [hu, hg]; exact own_nil12 u3)
            have BB5 := hid (then_w BB3.out hb)
            have LB5 := hid (LB3.out.later hb)
            try simp only [← hg]
            try rw [← hu]
            refine hK.out _ _ ?_ (fun hH5 => ?_)
            next =>
             exact KP.out _ BB5.out
            clear hK K
            try simp only [apt12]
            clear hb hu hg
            refine wpAnyH_ready (rs := [18]) (by kernel_rfl) (by simp) ?_
            refine AllReadyH.cons (i := 18) (o := ⟨some 69, .call { callee := .value (.func 31), args := #[.tmp 65, .tmp 68], argTypes := #[24, 3] }, 30, "ref.go:44", #[⟨14, .data⟩, ⟨17, .data⟩, ⟨11, .chain⟩], none⟩) rfl (fun K hK => ?_) AllReadyH.nil
            go_simp
            go_at_call 31
            refine (rslots_any12 h v4 _ c _ (HS.out.below (then_w HB4.out BB5.out))).mono ?_
            rintro e u6 ⟨LS, ld, rfl, hin, hnil, hb⟩
            rw [← HLT.out] at hin ⊢
            have IL6 := hid hin
            have HNL := hid hnil
            have BB6 := hid (then_w BB5.out hb)
            have OB6 := hid (own_later OB5.out hb)
            have LB6 := hid (LB5.out.later hb)
            refine hK.out _ _ ?_ (fun hH6 => ?_)
            next =>
             exact KP.out _ BB6.out
            clear hK K
            try simp only [apt12]
            clear hb hin hnil
            refine wpAnyH_ready (rs := [19]) (by kernel_rfl) (by simp) ?_
            refine AllReadyH.cons (i := 19) (o := ⟨some 70, .call { callee := .builtin .append, args := #[.tmp 64, .tmp 69], argTypes := #[30, 30] }, 30, "ref.go:44", #[⟨13, .data⟩, ⟨18, .data⟩, ⟨18, .chain⟩], none⟩) rfl (fun K hK => ?_) AllReadyH.nil
            obtain ⟨va, u7, hrun, hown, hgr⟩ := run_app_ints12 u6 g (.slice (some ⟨g, 0, none⟩) 0 0) 0 [] OB6.out LS ld lits IL6.out HNL.out (by have := HLL.out; omega) (by have := (OB6.out.lt g rfl).2; omega)
            rw [List.nil_append, Nat.zero_add] at hown
            obtain ⟨LA, lc, rfl⟩ := own_form hown
            have BB7 := hid (BB6.out.grown hgr BB6.out.size (fun k hk => Nat.le_trans HG.out (OB6.out.lt k hk).1))
            have OV7 := hid hown
            have LB7 : Hid (Lies u7 bx 32 #[.int .i64 0, .int .i64 0, .int .i64 0, .slice none 0 0, .slice none 0 0]) := (hgr.block bx LB6.out.lt (fun e => own_blk_ne OB6.out LB6.out (by decide) e.symm)).trans LB6.out
            refine wp_append_run11 _ _ 30 rfl _ u7 hrun ?_
            refine hK.out _ _ ?_ (fun hH7 => ?_)
            next =>
             exact KP.out _ BB7.out
            clear hK K
            try simp only [apt12]
            clear hrun hown hgr
            refine tkI 20 ⟨some 71, .build 32 #[(0, .tmp 54), (1, .tmp 58), (2, .tmp 62), (3, .tmp 63), (4, .tmp 70)], 32, "ref.go:44", #[⟨3, .data⟩, ⟨7, .data⟩, ⟨11, .data⟩, ⟨12, .data⟩, ⟨19, .data⟩], none⟩ ?v78 rfl (by kernel_rfl) (by rfl) ?y78 ?_
            case y78 => intro w hSw; (try dsimp only at hSw); go_simp; all_goals with_reducible rfl
            try simp only [apt12]
            refine wpAnyH_ready (rs := [22]) (by kernel_rfl) (by simp) ?_
            refine AllReadyH.cons (i := 22) (o := ⟨none, .store 32 (.tmp 9) (.tmp 71), 0, "ref.go:44", #[⟨21, .data⟩, ⟨20, .data⟩, ⟨19, .chain⟩, ⟨0, .phase⟩, ⟨1, .phase⟩, ⟨2, .phase⟩, ⟨3, .phase⟩, ⟨4, .phase⟩, ⟨5, .phase⟩, ⟨6, .phase⟩, ⟨7, .phase⟩, ⟨8, .phase⟩, ⟨9, .phase⟩, ⟨10, .phase⟩, ⟨11, .phase⟩, ⟨12, .phase⟩, ⟨13, .phase⟩, ⟨14, .phase⟩, ⟨15, .phase⟩, ⟨16, .phase⟩, ⟨17, .phase⟩, ⟨18, .phase⟩, ⟨19, .phase⟩, ⟨20, .phase⟩, ⟨21, .phase⟩], none⟩) rfl (fun K hK => ?_) AllReadyH.nil
            obtain ⟨r0, r1, r2, r3, r4, f0, f1, f2, f3, f4⟩ := cells_five12 LB7.out
            have BB8 := hid (below_five12 BB7.out HX9.out (.int .i64 a0) (.int .i64 a1) (.int .i64 a2) (.slice CA cd.length cc) (.slice LA lits.length lc))
            have LF := hid (lies_five12 LB7.out (.int .i64 a0) (.int .i64 a1) (.int .i64 a2) (.slice CA cd.length cc) (.slice LA lits.length lc))
            have HFL : Hid (∀ k o s, LA = some ⟨k, o, s⟩ → w4.heap.size ≤ k) := fun k o s e => by
              have h := OV7.out
              subst e
              exact Nat.le_trans HG.out (h.lt k rfl).1
            have OF := hid (own_ints (own_five12 OV7.out LB7.out (by decide) (.int .i64 a0) (.int .i64 a1) (.int .i64 a2) (.slice CA cd.length cc) (.slice LA lits.length lc)))
            go_simp
            refine hK.out _ _ ?_ (fun hH8 => ?_)
            next =>
             exact KP.out _ BB8.out
            clear hK K
            try simp only [apt12]
            clear r0 r1 r2 r3 r4 f0 f1 f2 f3 f4
            refine wpAnyH_done (by kernel_rfl) ?_ _
            go_wp2_with fail
            go_meet
            exact ⟨bx, LA, lc, rfl, LF, OF, HFL, BB8⟩
           next =>
            go_simp
            go_at_call 31
            refine (rslots_any12 h v4 _ c _ (HS.out.below (then_w HB4.out BB3.out))).mono ?_
            rintro e u5 ⟨LS, ld, rfl, hin, hnil, hb⟩
            rw [← HLT.out] at hin ⊢
            have IL5 := hid hin
            have HNL := hid hnil
            have BB5 := hid (then_w BB3.out hb)
            have LB5 := hid (LB3.out.later hb)
            refine hK.out _ _ ?_ (fun hH5 => ?_)
            next =>
             exact KP.out _ BB5.out
            clear hK K
            try simp only [apt12]
            clear hb hin hnil
            refine wpAnyH_ready (rs := [13]) (by kernel_rfl) (by simp) ?_
            refine AllReadyH.cons (i := 13) (o := ⟨some 64, .buildSlice 30 0 #[], 30, "ref.go:44", #[], none⟩) rfl (fun K hK => ?_) AllReadyH.nil
            go_simp
            obtain ⟨u6, hu⟩ : ∃ x, x = u5.alloc (.cells #[] 3) := ⟨_, rfl⟩
            obtain ⟨g, hg⟩ : ∃ x, x = u5.heap.size := ⟨_, rfl⟩
            have hb : Below u5.heap.size u5 u6 := by rw [hu]; exact below_alloc u5 _
            have HG : Hid (w4.heap.size ≤ g) := by show _ ≤ _; rw [hg]; exact BB5.out.size
            have OB6 := hid (show u6.ownsRow g 3 1 (.slice (some ⟨g, 0, none⟩) 0 0) 0 (([] : List Int).map (Value.int .i64)) by rw [hu, hg]; exact own_nil12 u5)
            have BB6 := hid (then_w BB5.out hb)
            have LB6 := hid (LB5.out.later hb)
            have IL6 := hid (IL5.out.below hb)
            try simp only [← hg]
            try rw [← hu]
            refine hK.out _ _ ?_ (fun hH6 => ?_)
            next =>
             exact KP.out _ BB6.out
            clear hK K
            try simp only [apt12]
            clear hb hu hg
            refine wpAnyH_ready (rs := [19]) (by kernel_rfl) (by simp) ?_
            refine AllReadyH.cons (i := 19) (o := ⟨some 70, .call { callee := .builtin .append, args := #[.tmp 64, .tmp 69], argTypes := #[30, 30] }, 30, "ref.go:44", #[⟨13, .data⟩, ⟨18, .data⟩, ⟨18, .chain⟩], none⟩) rfl (fun K hK => ?_) AllReadyH.nil
            obtain ⟨va, u7, hrun, hown, hgr⟩ := run_app_ints12 u6 g (.slice (some ⟨g, 0, none⟩) 0 0) 0 [] OB6.out LS ld lits IL6.out HNL.out (by have := HLL.out; omega) (by have := (OB6.out.lt g rfl).2; omega)
            rw [List.nil_append, Nat.zero_add] at hown
            obtain ⟨LA, lc, rfl⟩ := own_form hown
            have BB7 := hid (BB6.out.grown hgr BB6.out.size (fun k hk => Nat.le_trans HG.out (OB6.out.lt k hk).1))
            have OV7 := hid hown
            have LB7 : Hid (Lies u7 bx 32 #[.int .i64 0, .int .i64 0, .int .i64 0, .slice none 0 0, .slice none 0 0]) := (hgr.block bx LB6.out.lt (fun e => own_blk_ne OB6.out LB6.out (by decide) e.symm)).trans LB6.out
            refine wp_append_run11 _ _ 30 rfl _ u7 hrun ?_
            refine hK.out _ _ ?_ (fun hH7 => ?_)
            next =>
             exact KP.out _ BB7.out
            clear hK K
            try simp only [apt12]
            clear hrun hown hgr
            refine tkI 20 ⟨some 71, .build 32 #[(0, .tmp 54), (1, .tmp 58), (2, .tmp 62), (3, .tmp 63), (4, .tmp 70)], 32, "ref.go:44", #[⟨3, .data⟩, ⟨7, .data⟩, ⟨11, .data⟩, ⟨12, .data⟩, ⟨19, .data⟩], none⟩ ?v79 rfl (by kernel_rfl) (by rfl) ?y79 ?_
            case y79 => intro w hSw; (try dsimp only at hSw); go_simp; all_goals with_reducible rfl
            try simp only [apt12]
            refine wpAnyH_ready (rs := [22]) (by kernel_rfl) (by simp) ?_
            refine AllReadyH.cons (i := 22) (o := ⟨none, .store 32 (.tmp 9) (.tmp 71), 0, "ref.go:44", #[⟨21, .data⟩, ⟨20, .data⟩, ⟨19, .chain⟩, ⟨0, .phase⟩, ⟨1, .phase⟩, ⟨2, .phase⟩, ⟨3, .phase⟩, ⟨4, .phase⟩, ⟨5, .phase⟩, ⟨6, .phase⟩, ⟨7, .phase⟩, ⟨8, .phase⟩, ⟨9, .phase⟩, ⟨10, .phase⟩, ⟨11, .phase⟩, ⟨12, .phase⟩, ⟨13, .phase⟩, ⟨14, .phase⟩, ⟨15, .phase⟩, ⟨16, .phase⟩, ⟨17, .phase⟩, ⟨18, .phase⟩, ⟨19, .phase⟩, ⟨20, .phase⟩, ⟨21, .phase⟩], none⟩) rfl (fun K hK => ?_) AllReadyH.nil
            obtain ⟨r0, r1, r2, r3, r4, f0, f1, f2, f3, f4⟩ := cells_five12 LB7.out
            have BB8 := hid (below_five12 BB7.out HX9.out (.int .i64 a0) (.int .i64 a1) (.int .i64 a2) (.slice CA cd.length cc) (.slice LA lits.length lc))
            have LF := hid (lies_five12 LB7.out (.int .i64 a0) (.int .i64 a1) (.int .i64 a2) (.slice CA cd.length cc) (.slice LA lits.length lc))
            have HFL : Hid (∀ k o s, LA = some ⟨k, o, s⟩ → w4.heap.size ≤ k) := fun k o s e => by
              have h := OV7.out
              subst e
              exact Nat.le_trans HG.out (h.lt k rfl).1
            have OF := hid (own_ints (own_five12 OV7.out LB7.out (by decide) (.int .i64 a0) (.int .i64 a1) (.int .i64 a2) (.slice CA cd.length cc) (.slice LA lits.length lc)))
            go_simp
            refine hK.out _ _ ?_ (fun hH8 => ?_)
            next =>
             exact KP.out _ BB8.out
            clear hK K
            try simp only [apt12]
            clear r0 r1 r2 r3 r4 f0 f1 f2 f3 f4
            refine wpAnyH_done (by kernel_rfl) ?_ _
            go_wp2_with fail
            go_meet
            exact ⟨bx, LA, lc, rfl, LF, OF, HFL, BB8⟩
          next =>
           go_simp
           obtain ⟨u4, hu⟩ : ∃ x, x = u3.alloc (.cells #[] 3) := ⟨_, rfl⟩
           obtain ⟨g, hg⟩ : ∃ x, x = u3.heap.size := ⟨_, rfl⟩
           have hb : Below u3.heap.size u3 u4 := by rw [hu]; exact below_alloc u3 _
           have HG : Hid (w4.heap.size ≤ g) := by show _ ≤ _; rw [hg]; exact BB3.out.size
           have OB4 := hid (show u4.ownsRow g 3 1 (.slice (some ⟨g, 0, none⟩) 0 0) 0 (([] : List Int).map (Value.int .i64)) by rw [hu, hg]; exact own_nil12 u3)
           have BB4 := hid (then_w BB3.out hb)
           have LB4 := hid (LB3.out.later hb)
           try simp only [← hg]
           try rw [← hu]
           refine hK.out _ _ ?_ (fun hH4 => ?_)
           next =>
            exact KP.out _ BB4.out
           clear hK K
           try simp only [apt12]
           clear hb hu hg
           refine wpAnyH_ready (rs := [11]) (by kernel_rfl) (by simp) ?_
           refine AllReadyH.cons (i := 11) (o := ⟨some 62, .call { callee := .value (.func 41), args := #[.tmp 61, .const (Go.Value.int .i64 8)], argTypes := #[3, 3] }, 3, "ref.go:44", #[⟨10, .data⟩, ⟨7, .chain⟩], none⟩) rfl (fun K hK => ?_) AllReadyH.nil
           go_simp
           go_at_call 41
           refine (rsmall_any12 v2 8 _).mono ?_
           rintro e u5 ⟨rfl, hu⟩
           subst hu
           rw [← A2.out]
           refine hK.out _ _ ?_ (fun hH5 => ?_)
           next =>
            exact hH4
           clear hK K
           try simp only [apt12]
           refine wpAnyH_ready (rs := [18]) (by kernel_rfl) (by simp) ?_
           refine AllReadyH.cons (i := 18) (o := ⟨some 69, .call { callee := .value (.func 31), args := #[.tmp 65, .tmp 68], argTypes := #[24, 3] }, 30, "ref.go:44", #[⟨14, .data⟩, ⟨17, .data⟩, ⟨11, .chain⟩], none⟩) rfl (fun K hK => ?_) AllReadyH.nil
           go_simp
           go_at_call 31
           refine (rslots_any12 h v4 _ c _ (HS.out.below (then_w HB4.out BB4.out))).mono ?_
           rintro e u6 ⟨LS, ld, rfl, hin, hnil, hb⟩
           rw [← HLT.out] at hin ⊢
           have IL6 := hid hin
           have HNL := hid hnil
           have BB6 := hid (then_w BB4.out hb)
           have OB6 := hid (own_later OB4.out hb)
           have LB6 := hid (LB4.out.later hb)
           refine hK.out _ _ ?_ (fun hH6 => ?_)
           next =>
            exact KP.out _ BB6.out
           clear hK K
           try simp only [apt12]
           clear hb hin hnil
           refine wpAnyH_ready (rs := [19]) (by kernel_rfl) (by simp) ?_
           refine AllReadyH.cons (i := 19) (o := ⟨some 70, .call { callee := .builtin .append, args := #[.tmp 64, .tmp 69], argTypes := #[30, 30] }, 30, "ref.go:44", #[⟨13, .data⟩, ⟨18, .data⟩, ⟨18, .chain⟩], none⟩) rfl (fun K hK => ?_) AllReadyH.nil
           obtain ⟨va, u7, hrun, hown, hgr⟩ := run_app_ints12 u6 g (.slice (some ⟨g, 0, none⟩) 0 0) 0 [] OB6.out LS ld lits IL6.out HNL.out (by have := HLL.out; omega) (by have := (OB6.out.lt g rfl).2; omega)
           rw [List.nil_append, Nat.zero_add] at hown
           obtain ⟨LA, lc, rfl⟩ := own_form hown
           have BB7 := hid (BB6.out.grown hgr BB6.out.size (fun k hk => Nat.le_trans HG.out (OB6.out.lt k hk).1))
           have OV7 := hid hown
           have LB7 : Hid (Lies u7 bx 32 #[.int .i64 0, .int .i64 0, .int .i64 0, .slice none 0 0, .slice none 0 0]) := (hgr.block bx LB6.out.lt (fun e => own_blk_ne OB6.out LB6.out (by decide) e.symm)).trans LB6.out
           refine wp_append_run11 _ _ 30 rfl _ u7 hrun ?_
           refine hK.out _ _ ?_ (fun hH7 => ?_)
           next =>
            exact KP.out _ BB7.out
           clear hK K
           try simp only [apt12]
           clear hrun hown hgr
           refine tkI 20 ⟨some 71, .build 32 #[(0, .tmp 54), (1, .tmp 58), (2, .tmp 62), (3, .tmp 63), (4, .tmp 70)], 32, "ref.go:44", #[⟨3, .data⟩, ⟨7, .data⟩, ⟨11, .data⟩, ⟨12, .data⟩, ⟨19, .data⟩], none⟩ ?v80 rfl (by kernel_rfl) (by rfl) ?y80 ?_
           case y80 => intro w hSw; (try dsimp only at hSw); go_simp; all_goals with_reducible rfl
           try simp only [apt12]
           refine wpAnyH_ready (rs := [22]) (by kernel_rfl) (by simp) ?_
           refine AllReadyH.cons (i := 22) (o := ⟨none, .store 32 (.tmp 9) (.tmp 71), 0, "ref.go:44", #[⟨21, .data⟩, ⟨20, .data⟩, ⟨19, .chain⟩, ⟨0, .phase⟩, ⟨1, .phase⟩, ⟨2, .phase⟩, ⟨3, .phase⟩, ⟨4, .phase⟩, ⟨5, .phase⟩, ⟨6, .phase⟩, ⟨7, .phase⟩, ⟨8, .phase⟩, ⟨9, .phase⟩, ⟨10, .phase⟩, ⟨11, .phase⟩, ⟨12, .phase⟩, ⟨13, .phase⟩, ⟨14, .phase⟩, ⟨15, .phase⟩, ⟨16, .phase⟩, ⟨17, .phase⟩, ⟨18, .phase⟩, ⟨19, .phase⟩, ⟨20, .phase⟩, ⟨21, .phase⟩], none⟩) rfl (fun K hK => ?_) AllReadyH.nil
           obtain ⟨r0, r1, r2, r3, r4, f0, f1, f2, f3, f4⟩ := cells_five12 LB7.out
           have BB8 := hid (below_five12 BB7.out HX9.out (.int .i64 a0) (.int .i64 a1) (.int .i64 a2) (.slice CA cd.length cc) (.slice LA lits.length lc))
           have LF := hid (lies_five12 LB7.out (.int .i64 a0) (.int .i64 a1) (.int .i64 a2) (.slice CA cd.length cc) (.slice LA lits.length lc))
           have HFL : Hid (∀ k o s, LA = some ⟨k, o, s⟩ → w4.heap.size ≤ k) := fun k o s e => by
             have h := OV7.out
             subst e
             exact Nat.le_trans HG.out (h.lt k rfl).1
           have OF := hid (own_ints (own_five12 OV7.out LB7.out (by decide) (.int .i64 a0) (.int .i64 a1) (.int .i64 a2) (.slice CA cd.length cc) (.slice LA lits.length lc)))
           go_simp
           refine hK.out _ _ ?_ (fun hH8 => ?_)
           next =>
            exact KP.out _ BB8.out
           clear hK K
           try simp only [apt12]
           clear r0 r1 r2 r3 r4 f0 f1 f2 f3 f4
           refine wpAnyH_done (by kernel_rfl) ?_ _
           go_wp2_with fail
           go_meet
           exact ⟨bx, LA, lc, rfl, LF, OF, HFL, BB8⟩
        next =>
         go_simp
         obtain ⟨u2, hu⟩ : ∃ x, x = (w4.alloc (.cells #[] 3)).drew := ⟨_, rfl⟩
         obtain ⟨g, hg⟩ : ∃ x, x = w4.heap.size := ⟨_, rfl⟩
         have hb : Below w4.drew.heap.size w4.drew u2 := by rw [hu]; exact below_alloc w4.drew _
         have HG : Hid (w4.heap.size ≤ g) := by show _ ≤ _; rw [hg]; exact BB0.out.size
         have OB2 := hid (show u2.ownsRow g 3 1 (.slice (some ⟨g, 0, none⟩) 0 0) 0 (([] : List Int).map (Value.int .i64)) by rw [hu, hg]; exact own_nil12 w4.drew)
         have BB2 := hid (then_w BB0.out hb)
         try simp only [← hg]
         try rw [← hu]
         refine hK.out _ _ ?_ (fun hH2 => ?_)
         next =>
          exact KP.out _ BB2.out
         clear hK K
         try simp only [apt12]
         clear hb hu hg
         refine wpAnyH_ready (rs := [7, 21]) (by kernel_rfl) (by simp) ?_
         refine AllReadyH.cons (i := 7) (o := ⟨some 58, .call { callee := .value (.func 41), args := #[.tmp 57, .const (Go.Value.int .i64 4)], argTypes := #[3, 3] }, 3, "ref.go:44", #[⟨6, .data⟩, ⟨3, .chain⟩], none⟩) rfl (fun K hK => ?_) (AllReadyH.cons (i := 21) (o := ⟨some 9, .alloc 32, 0, "ref.go:44", #[], none⟩) rfl (fun K hK => ?_) AllReadyH.nil)
         next =>
          go_simp
          go_at_call 41
          refine (rsmall_any12 v1 4 _).mono ?_
          rintro e u3 ⟨rfl, hu⟩
          subst hu
          rw [← A1.out]
          refine hK.out _ _ ?_ (fun hH3 => ?_)
          next =>
           exact hH2
          clear hK K
          try simp only [apt12]
          refine wpAnyH_ready (rs := [11, 21]) (by kernel_rfl) (by simp) ?_
          refine AllReadyH.cons (i := 11) (o := ⟨some 62, .call { callee := .value (.func 41), args := #[.tmp 61, .const (Go.Value.int .i64 8)], argTypes := #[3, 3] }, 3, "ref.go:44", #[⟨10, .data⟩, ⟨7, .chain⟩], none⟩) rfl (fun K hK => ?_) (AllReadyH.cons (i := 21) (o := ⟨some 9, .alloc 32, 0, "ref.go:44", #[], none⟩) rfl (fun K hK => ?_) AllReadyH.nil)
          next =>
           go_simp
           go_at_call 41
           refine (rsmall_any12 v2 8 _).mono ?_
           rintro e u4 ⟨rfl, hu⟩
           subst hu
           rw [← A2.out]
           refine hK.out _ _ ?_ (fun hH4 => ?_)
           next =>
            exact hH3
           clear hK K
           try simp only [apt12]
           refine wpAnyH_ready (rs := [18, 21]) (by kernel_rfl) (by simp) ?_
           refine AllReadyH.cons (i := 18) (o := ⟨some 69, .call { callee := .value (.func 31), args := #[.tmp 65, .tmp 68], argTypes := #[24, 3] }, 30, "ref.go:44", #[⟨14, .data⟩, ⟨17, .data⟩, ⟨11, .chain⟩], none⟩) rfl (fun K hK => ?_) (AllReadyH.cons (i := 21) (o := ⟨some 9, .alloc 32, 0, "ref.go:44", #[], none⟩) rfl (fun K hK => ?_) AllReadyH.nil)
           next =>
            go_simp
            go_at_call 31
            refine (rslots_any12 h v4 _ c _ (HS.out.below (then_w HB4.out BB2.out))).mono ?_
            rintro e u5 ⟨LS, ld, rfl, hin, hnil, hb⟩
            rw [← HLT.out] at hin ⊢
            have IL5 := hid hin
            have HNL := hid hnil
            have BB5 := hid (then_w BB2.out hb)
            have OB5 := hid (own_later OB2.out hb)
            refine hK.out _ _ ?_ (fun hH5 => ?_)
            next =>
             exact KP.out _ BB5.out
            clear hK K
            try simp only [apt12]
            clear hb hin hnil
            refine wpAnyH_ready (rs := [19, 21]) (by kernel_rfl) (by simp) ?_
            refine AllReadyH.cons (i := 19) (o := ⟨some 70, .call { callee := .builtin .append, args := #[.tmp 64, .tmp 69], argTypes := #[30, 30] }, 30, "ref.go:44", #[⟨13, .data⟩, ⟨18, .data⟩, ⟨18, .chain⟩], none⟩) rfl (fun K hK => ?_) (AllReadyH.cons (i := 21) (o := ⟨some 9, .alloc 32, 0, "ref.go:44", #[], none⟩) rfl (fun K hK => ?_) AllReadyH.nil)
            next =>
             obtain ⟨va, u6, hrun, hown, hgr⟩ := run_app_ints12 u5 g (.slice (some ⟨g, 0, none⟩) 0 0) 0 [] OB5.out LS ld lits IL5.out HNL.out (by have := HLL.out; omega) (by have := (OB5.out.lt g rfl).2; omega)
             rw [List.nil_append, Nat.zero_add] at hown
             obtain ⟨LA, lc, rfl⟩ := own_form hown
             have BB6 := hid (BB5.out.grown hgr BB5.out.size (fun k hk => Nat.le_trans HG.out (OB5.out.lt k hk).1))
             have OV6 := hid hown
             refine wp_append_run11 _ _ 30 rfl _ u6 hrun ?_
             refine hK.out _ _ ?_ (fun hH6 => ?_)
             next =>
              exact KP.out _ BB6.out
             clear hK K
             try simp only [apt12]
             clear hrun hown hgr
             refine tkI 20 ⟨some 71, .build 32 #[(0, .tmp 54), (1, .tmp 58), (2, .tmp 62), (3, .tmp 63), (4, .tmp 70)], 32, "ref.go:44", #[⟨3, .data⟩, ⟨7, .data⟩, ⟨11, .data⟩, ⟨12, .data⟩, ⟨19, .data⟩], none⟩ ?v81 rfl (by kernel_rfl) (by rfl) ?y81 ?_
             case y81 => intro w hSw; (try dsimp only at hSw); go_simp; all_goals with_reducible rfl
             try simp only [apt12]
             refine wpAnyH_ready (rs := [21]) (by kernel_rfl) (by simp) ?_
             refine AllReadyH.cons (i := 21) (o := ⟨some 9, .alloc 32, 0, "ref.go:44", #[], none⟩) rfl (fun K hK => ?_) AllReadyH.nil
             go_simp
             obtain ⟨u7, hu⟩ : ∃ x, x = u6.alloc (.cells #[.int .i64 0, .int .i64 0, .int .i64 0, .slice none 0 0, .slice none 0 0] 32) := ⟨_, rfl⟩
             obtain ⟨bx, hg⟩ : ∃ x, x = u6.heap.size := ⟨_, rfl⟩
             have hb : Below u6.heap.size u6 u7 := by rw [hu]; exact below_alloc u6 _
             have HX9 : Hid (w4.heap.size ≤ bx) := by show _ ≤ _; rw [hg]; exact BB6.out.size
             have LB7 := hid (show Lies u7 bx 32 #[.int .i64 0, .int .i64 0, .int .i64 0, .slice none 0 0, .slice none 0 0] by rw [hu, hg]; exact Lies.new u6 _ _)
             have BB7 := hid (then_w BB6.out hb)
             have OV7 := hid (own_later OV6.out hb)
             try simp only [← hg]
             try rw [← hu]
             refine hK.out _ _ ?_ (fun hH7 => ?_)
             next =>
              exact KP.out _ BB7.out
             clear hK K
             try simp only [apt12]
             clear hb hu hg
             refine wpAnyH_ready (rs := [22]) (by kernel_rfl) (by simp) ?_
             refine AllReadyH.cons (i := 22) (o := ⟨none, .store 32 (.tmp 9) (.tmp 71), 0, "ref.go:44", #[⟨21, .data⟩, ⟨20, .data⟩, ⟨19, .chain⟩, ⟨0, .phase⟩, ⟨1, .phase⟩, ⟨2, .phase⟩, ⟨3, .phase⟩, ⟨4, .phase⟩, ⟨5, .phase⟩, ⟨6, .phase⟩, ⟨7, .phase⟩, ⟨8, .phase⟩, ⟨9, .phase⟩, ⟨10, .phase⟩, ⟨11, .phase⟩, ⟨12, .phase⟩, ⟨13, .phase⟩, ⟨14, .phase⟩, ⟨15, .phase⟩, ⟨16, .phase⟩, ⟨17, .phase⟩, ⟨18, .phase⟩, ⟨19, .phase⟩, ⟨20, .phase⟩, ⟨21, .phase⟩], none⟩) rfl (fun K hK => ?_) AllReadyH.nil
             obtain ⟨r0, r1, r2, r3, r4, f0, f1, f2, f3, f4⟩ := cells_five12 LB7.out
             have BB8 := hid (below_five12 BB7.out HX9.out (.int .i64 a0) (.int .i64 a1) (.int .i64 a2) (.slice CA cd.length cc) (.slice LA lits.length lc))
             have LF := hid (lies_five12 LB7.out (.int .i64 a0) (.int .i64 a1) (.int .i64 a2) (.slice CA cd.length cc) (.slice LA lits.length lc))
             have HFL : Hid (∀ k o s, LA = some ⟨k, o, s⟩ → w4.heap.size ≤ k) := fun k o s e => by
               have h := OV7.out
               subst e
               exact Nat.le_trans HG.out (h.lt k rfl).1
             have OF := hid (own_ints (own_five12 OV7.out LB7.out (by decide) (.int .i64 a0) (.int .i64 a1) (.int .i64 a2) (.slice CA cd.length cc) (.slice LA lits.length lc)))
             go_simp
             refine hK.out _ _ ?_ (fun hH8 => ?_)
             next =>
              exact KP.out _ BB8.out
             clear hK K
             try simp only [apt12]
             clear r0 r1 r2 r3 r4 f0 f1 f2 f3 f4
             refine wpAnyH_done (by kernel_rfl) ?_ _
             go_wp2_with fail
             go_meet
             exact ⟨bx, LA, lc, rfl, LF, OF, HFL, BB8⟩
            next =>
             go_simp
             obtain ⟨u6, hu⟩ : ∃ x, x = u5.alloc (.cells #[.int .i64 0, .int .i64 0, .int .i64 0, .slice none 0 0, .slice none 0 0] 32) := ⟨_, rfl⟩
             obtain ⟨bx, hg⟩ : ∃ x, x = u5.heap.size := ⟨_, rfl⟩
             have hb : Below u5.heap.size u5 u6 := by rw [hu]; exact below_alloc u5 _
             have HX9 : Hid (w4.heap.size ≤ bx) := by show _ ≤ _; rw [hg]; exact BB5.out.size
             have LB6 := hid (show Lies u6 bx 32 #[.int .i64 0, .int .i64 0, .int .i64 0, .slice none 0 0, .slice none 0 0] by rw [hu, hg]; exact Lies.new u5 _ _)
             have BB6 := hid (then_w BB5.out hb)
             have OB6 := hid (own_later OB5.out hb)
             have IL6 := hid (IL5.out.below hb)
             try simp only [← hg]
             try rw [← hu]
             refine hK.out _ _ ?_ (fun hH6 => ?_)
             next =>
              exact KP.out _ BB6.out
             clear hK K
             try simp only [apt12]
             clear hb hu hg
             refine wpAnyH_ready (rs := [19]) (by kernel_rfl) (by simp) ?_
             refine AllReadyH.cons (i := 19) (o := ⟨some 70, .call { callee := .builtin .append, args := #[.tmp 64, .tmp 69], argTypes := #[30, 30] }, 30, "ref.go:44", #[⟨13, .data⟩, ⟨18, .data⟩, ⟨18, .chain⟩], none⟩) rfl (fun K hK => ?_) AllReadyH.nil
             obtain ⟨va, u7, hrun, hown, hgr⟩ := run_app_ints12 u6 g (.slice (some ⟨g, 0, none⟩) 0 0) 0 [] OB6.out LS ld lits IL6.out HNL.out (by have := HLL.out; omega) (by have := (OB6.out.lt g rfl).2; omega)
             rw [List.nil_append, Nat.zero_add] at hown
             obtain ⟨LA, lc, rfl⟩ := own_form hown
             have BB7 := hid (BB6.out.grown hgr BB6.out.size (fun k hk => Nat.le_trans HG.out (OB6.out.lt k hk).1))
             have OV7 := hid hown
             have LB7 : Hid (Lies u7 bx 32 #[.int .i64 0, .int .i64 0, .int .i64 0, .slice none 0 0, .slice none 0 0]) := (hgr.block bx LB6.out.lt (fun e => own_blk_ne OB6.out LB6.out (by decide) e.symm)).trans LB6.out
             refine wp_append_run11 _ _ 30 rfl _ u7 hrun ?_
             refine hK.out _ _ ?_ (fun hH7 => ?_)
             next =>
              exact KP.out _ BB7.out
             clear hK K
             try simp only [apt12]
             clear hrun hown hgr
             refine tkI 20 ⟨some 71, .build 32 #[(0, .tmp 54), (1, .tmp 58), (2, .tmp 62), (3, .tmp 63), (4, .tmp 70)], 32, "ref.go:44", #[⟨3, .data⟩, ⟨7, .data⟩, ⟨11, .data⟩, ⟨12, .data⟩, ⟨19, .data⟩], none⟩ ?v82 rfl (by kernel_rfl) (by rfl) ?y82 ?_
             case y82 => intro w hSw; (try dsimp only at hSw); go_simp; all_goals with_reducible rfl
             try simp only [apt12]
             refine wpAnyH_ready (rs := [22]) (by kernel_rfl) (by simp) ?_
             refine AllReadyH.cons (i := 22) (o := ⟨none, .store 32 (.tmp 9) (.tmp 71), 0, "ref.go:44", #[⟨21, .data⟩, ⟨20, .data⟩, ⟨19, .chain⟩, ⟨0, .phase⟩, ⟨1, .phase⟩, ⟨2, .phase⟩, ⟨3, .phase⟩, ⟨4, .phase⟩, ⟨5, .phase⟩, ⟨6, .phase⟩, ⟨7, .phase⟩, ⟨8, .phase⟩, ⟨9, .phase⟩, ⟨10, .phase⟩, ⟨11, .phase⟩, ⟨12, .phase⟩, ⟨13, .phase⟩, ⟨14, .phase⟩, ⟨15, .phase⟩, ⟨16, .phase⟩, ⟨17, .phase⟩, ⟨18, .phase⟩, ⟨19, .phase⟩, ⟨20, .phase⟩, ⟨21, .phase⟩], none⟩) rfl (fun K hK => ?_) AllReadyH.nil
             obtain ⟨r0, r1, r2, r3, r4, f0, f1, f2, f3, f4⟩ := cells_five12 LB7.out
             have BB8 := hid (below_five12 BB7.out HX9.out (.int .i64 a0) (.int .i64 a1) (.int .i64 a2) (.slice CA cd.length cc) (.slice LA lits.length lc))
             have LF := hid (lies_five12 LB7.out (.int .i64 a0) (.int .i64 a1) (.int .i64 a2) (.slice CA cd.length cc) (.slice LA lits.length lc))
             have HFL : Hid (∀ k o s, LA = some ⟨k, o, s⟩ → w4.heap.size ≤ k) := fun k o s e => by
               have h := OV7.out
               subst e
               exact Nat.le_trans HG.out (h.lt k rfl).1
             have OF := hid (own_ints (own_five12 OV7.out LB7.out (by decide) (.int .i64 a0) (.int .i64 a1) (.int .i64 a2) (.slice CA cd.length cc) (.slice LA lits.length lc)))
             go_simp
             refine hK.out _ _ ?_ (fun hH8 => ?_)
             next =>
              exact KP.out _ BB8.out
             clear hK K
             try simp only [apt12]
             clear r0 r1 r2 r3 r4 f0 f1 f2 f3 f4
             refine wpAnyH_done (by kernel_rfl) ?_ _
             go_wp2_with fail
             go_meet
             exact ⟨bx, LA, lc, rfl, LF, OF, HFL, BB8⟩
           next =>
            go_simp
            obtain ⟨u5, hu⟩ : ∃ x, x = u2.alloc (.cells #[.int .i64 0, .int .i64 0, .int .i64 0, .slice none 0 0, .slice none 0 0] 32) := ⟨_, rfl⟩
            obtain ⟨bx, hg⟩ : ∃ x, x = u2.heap.size := ⟨_, rfl⟩
            have hb : Below u2.heap.size u2 u5 := by rw [hu]; exact below_alloc u2 _
            have HX9 : Hid (w4.heap.size ≤ bx) := by show _ ≤ _; rw [hg]; exact BB2.out.size
            have LB5 := hid (show Lies u5 bx 32 #[.int .i64 0, .int .i64 0, .int .i64 0, .slice none 0 0, .slice none 0 0] by rw [hu, hg]; exact Lies.new u2 _ _)
            have BB5 := hid (then_w BB2.out hb)
            have OB5 := hid (own_later OB2.out hb)
            try simp only [← hg]
            try rw [← hu]
            refine hK.out _ _ ?_ (fun hH5 => ?_)
            next =>
             exact KP.out _ BB5.out
            clear hK K
            try simp only [apt12]
            clear hb hu hg
            refine wpAnyH_ready (rs := [18]) (by kernel_rfl) (by simp) ?_
            refine AllReadyH.cons (i := 18) (o := ⟨some 69, .call { callee := .value (.func 31), args := #[.tmp 65, .tmp 68], argTypes := #[24, 3] }, 30, "ref.go:44", #[⟨14, .data⟩, ⟨17, .data⟩, ⟨11, .chain⟩], none⟩) rfl (fun K hK => ?_) AllReadyH.nil
            go_simp
            go_at_call 31
            refine (rslots_any12 h v4 _ c _ (HS.out.below (then_w HB4.out BB5.out))).mono ?_
            rintro e u6 ⟨LS, ld, rfl, hin, hnil, hb⟩
            rw [← HLT.out] at hin ⊢
            have IL6 := hid hin
            have HNL := hid hnil
            have BB6 := hid (then_w BB5.out hb)
            have OB6 := hid (own_later OB5.out hb)
            have LB6 := hid (LB5.out.later hb)
            refine hK.out _ _ ?_ (fun hH6 => ?_)
            next =>
             exact KP.out _ BB6.out
            clear hK K
            try simp only [apt12]
            clear hb hin hnil
            refine wpAnyH_ready (rs := [19]) (by kernel_rfl) (by simp) ?_
            refine AllReadyH.cons (i := 19) (o := ⟨some 70, .call { callee := .builtin .append, args := #[.tmp 64, .tmp 69], argTypes := #[30, 30] }, 30, "ref.go:44", #[⟨13, .data⟩, ⟨18, .data⟩, ⟨18, .chain⟩], none⟩) rfl (fun K hK => ?_) AllReadyH.nil
            obtain ⟨va, u7, hrun, hown, hgr⟩ := run_app_ints12 u6 g (.slice (some ⟨g, 0, none⟩) 0 0) 0 [] OB6.out LS ld lits IL6.out HNL.out (by have := HLL.out; omega) (by have := (OB6.out.lt g rfl).2; omega)
            rw [List.nil_append, Nat.zero_add] at hown
            obtain ⟨LA, lc, rfl⟩ := own_form hown
            have BB7 := hid (BB6.out.grown hgr BB6.out.size (fun k hk => Nat.le_trans HG.out (OB6.out.lt k hk).1))
            have OV7 := hid hown
            have LB7 : Hid (Lies u7 bx 32 #[.int .i64 0, .int .i64 0, .int .i64 0, .slice none 0 0, .slice none 0 0]) := (hgr.block bx LB6.out.lt (fun e => own_blk_ne OB6.out LB6.out (by decide) e.symm)).trans LB6.out
            refine wp_append_run11 _ _ 30 rfl _ u7 hrun ?_
            refine hK.out _ _ ?_ (fun hH7 => ?_)
            next =>
             exact KP.out _ BB7.out
            clear hK K
            try simp only [apt12]
            clear hrun hown hgr
            refine tkI 20 ⟨some 71, .build 32 #[(0, .tmp 54), (1, .tmp 58), (2, .tmp 62), (3, .tmp 63), (4, .tmp 70)], 32, "ref.go:44", #[⟨3, .data⟩, ⟨7, .data⟩, ⟨11, .data⟩, ⟨12, .data⟩, ⟨19, .data⟩], none⟩ ?v83 rfl (by kernel_rfl) (by rfl) ?y83 ?_
            case y83 => intro w hSw; (try dsimp only at hSw); go_simp; all_goals with_reducible rfl
            try simp only [apt12]
            refine wpAnyH_ready (rs := [22]) (by kernel_rfl) (by simp) ?_
            refine AllReadyH.cons (i := 22) (o := ⟨none, .store 32 (.tmp 9) (.tmp 71), 0, "ref.go:44", #[⟨21, .data⟩, ⟨20, .data⟩, ⟨19, .chain⟩, ⟨0, .phase⟩, ⟨1, .phase⟩, ⟨2, .phase⟩, ⟨3, .phase⟩, ⟨4, .phase⟩, ⟨5, .phase⟩, ⟨6, .phase⟩, ⟨7, .phase⟩, ⟨8, .phase⟩, ⟨9, .phase⟩, ⟨10, .phase⟩, ⟨11, .phase⟩, ⟨12, .phase⟩, ⟨13, .phase⟩, ⟨14, .phase⟩, ⟨15, .phase⟩, ⟨16, .phase⟩, ⟨17, .phase⟩, ⟨18, .phase⟩, ⟨19, .phase⟩, ⟨20, .phase⟩, ⟨21, .phase⟩], none⟩) rfl (fun K hK => ?_) AllReadyH.nil
            obtain ⟨r0, r1, r2, r3, r4, f0, f1, f2, f3, f4⟩ := cells_five12 LB7.out
            have BB8 := hid (below_five12 BB7.out HX9.out (.int .i64 a0) (.int .i64 a1) (.int .i64 a2) (.slice CA cd.length cc) (.slice LA lits.length lc))
            have LF := hid (lies_five12 LB7.out (.int .i64 a0) (.int .i64 a1) (.int .i64 a2) (.slice CA cd.length cc) (.slice LA lits.length lc))
            have HFL : Hid (∀ k o s, LA = some ⟨k, o, s⟩ → w4.heap.size ≤ k) := fun k o s e => by
              have h := OV7.out
              subst e
              exact Nat.le_trans HG.out (h.lt k rfl).1
            have OF := hid (own_ints (own_five12 OV7.out LB7.out (by decide) (.int .i64 a0) (.int .i64 a1) (.int .i64 a2) (.slice CA cd.length cc) (.slice LA lits.length lc)))
            go_simp
            refine hK.out _ _ ?_ (fun hH8 => ?_)
            next =>
             exact KP.out _ BB8.out
            clear hK K
            try simp only [apt12]
            clear r0 r1 r2 r3 r4 f0 f1 f2 f3 f4
            refine wpAnyH_done (by kernel_rfl) ?_ _
            go_wp2_with fail
            go_meet
            exact ⟨bx, LA, lc, rfl, LF, OF, HFL, BB8⟩
          next =>
           go_simp
           obtain ⟨u4, hu⟩ : ∃ x, x = u2.alloc (.cells #[.int .i64 0, .int .i64 0, .int .i64 0, .slice none 0 0, .slice none 0 0] 32) := ⟨_, rfl⟩
           obtain ⟨bx, hg⟩ : ∃ x, x = u2.heap.size := ⟨_, rfl⟩
           have hb : Below u2.heap.size u2 u4 := by rw [hu]; exact below_alloc u2 _
           have HX9 : Hid (w4.heap.size ≤ bx) := by show _ ≤ _; rw [hg]; exact BB2.out.size
           have LB4 := hid (show Lies u4 bx 32 #[.int .i64 0, .int .i64 0, .int .i64 0, .slice none 0 0, .slice none 0 0] by rw [hu, hg]; exact Lies.new u2 _ _)
           have BB4 := hid (then_w BB2.out hb)
           have OB4 := hid (own_later OB2.out hb)
           try simp only [← hg]
           try rw [← hu]
           refine hK.out _ _ ?_ (fun hH4 => ?_)
           next =>
            exact KP.out _ BB4.out
           clear hK K
           try simp only [apt12]
           clear hb hu hg
           refine wpAnyH_ready (rs := [11]) (by kernel_rfl) (by simp) ?_
           refine AllReadyH.cons (i := 11) (o := ⟨some 62, .call { callee := .value (.func 41), args := #[.tmp 61, .const (Go.Value.int .i64 8)], argTypes := #[3, 3] }, 3, "ref.go:44", #[⟨10, .data⟩, ⟨7, .chain⟩], none⟩) rfl (fun K hK => ?_) AllReadyH.nil
           go_simp
           go_at_call 41
           refine (rsmall_any12 v2 8 _).mono ?_
           rintro e u5 ⟨rfl, hu⟩
           subst hu
           rw [← A2.out]
           refine hK.out _ _ ?_ (fun hH5 => ?_)
           next =>
            exact hH4
           clear hK K
           try simp only [apt12]
           refine wpAnyH_ready (rs := [18]) (by kernel_rfl) (by simp) ?_
           refine AllReadyH.cons (i := 18) (o := ⟨some 69, .call { callee := .value (.func 31), args := #[.tmp 65, .tmp 68], argTypes := #[24, 3] }, 30, "ref.go:44", #[⟨14, .data⟩, ⟨17, .data⟩, ⟨11, .chain⟩], none⟩) rfl (fun K hK => ?_) AllReadyH.nil
           go_simp
           go_at_call 31
           refine (rslots_any12 h v4 _ c _ (HS.out.below (then_w HB4.out BB4.out))).mono ?_
           rintro e u6 ⟨LS, ld, rfl, hin, hnil, hb⟩
           rw [← HLT.out] at hin ⊢
           have IL6 := hid hin
           have HNL := hid hnil
           have BB6 := hid (then_w BB4.out hb)
           have OB6 := hid (own_later OB4.out hb)
           have LB6 := hid (LB4.out.later hb)
           refine hK.out _ _ ?_ (fun hH6 => ?_)
           next =>
            exact KP.out _ BB6.out
           clear hK K
           try simp only [apt12]
           clear hb hin hnil
           refine wpAnyH_ready (rs := [19]) (by kernel_rfl) (by simp) ?_
           refine AllReadyH.cons (i := 19) (o := ⟨some 70, .call { callee := .builtin .append, args := #[.tmp 64, .tmp 69], argTypes := #[30, 30] }, 30, "ref.go:44", #[⟨13, .data⟩, ⟨18, .data⟩, ⟨18, .chain⟩], none⟩) rfl (fun K hK => ?_) AllReadyH.nil
           obtain ⟨va, u7, hrun, hown, hgr⟩ := run_app_ints12 u6 g (.slice (some ⟨g, 0, none⟩) 0 0) 0 [] OB6.out LS ld lits IL6.out HNL.out (by have := HLL.out; omega) (by have := (OB6.out.lt g rfl).2; omega)
           rw [List.nil_append, Nat.zero_add] at hown
           obtain ⟨LA, lc, rfl⟩ := own_form hown
           have BB7 := hid (BB6.out.grown hgr BB6.out.size (fun k hk => Nat.le_trans HG.out (OB6.out.lt k hk).1))
           have OV7 := hid hown
           have LB7 : Hid (Lies u7 bx 32 #[.int .i64 0, .int .i64 0, .int .i64 0, .slice none 0 0, .slice none 0 0]) := (hgr.block bx LB6.out.lt (fun e => own_blk_ne OB6.out LB6.out (by decide) e.symm)).trans LB6.out
           refine wp_append_run11 _ _ 30 rfl _ u7 hrun ?_
           refine hK.out _ _ ?_ (fun hH7 => ?_)
           next =>
            exact KP.out _ BB7.out
           clear hK K
           try simp only [apt12]
           clear hrun hown hgr
           refine tkI 20 ⟨some 71, .build 32 #[(0, .tmp 54), (1, .tmp 58), (2, .tmp 62), (3, .tmp 63), (4, .tmp 70)], 32, "ref.go:44", #[⟨3, .data⟩, ⟨7, .data⟩, ⟨11, .data⟩, ⟨12, .data⟩, ⟨19, .data⟩], none⟩ ?v84 rfl (by kernel_rfl) (by rfl) ?y84 ?_
           case y84 => intro w hSw; (try dsimp only at hSw); go_simp; all_goals with_reducible rfl
           try simp only [apt12]
           refine wpAnyH_ready (rs := [22]) (by kernel_rfl) (by simp) ?_
           refine AllReadyH.cons (i := 22) (o := ⟨none, .store 32 (.tmp 9) (.tmp 71), 0, "ref.go:44", #[⟨21, .data⟩, ⟨20, .data⟩, ⟨19, .chain⟩, ⟨0, .phase⟩, ⟨1, .phase⟩, ⟨2, .phase⟩, ⟨3, .phase⟩, ⟨4, .phase⟩, ⟨5, .phase⟩, ⟨6, .phase⟩, ⟨7, .phase⟩, ⟨8, .phase⟩, ⟨9, .phase⟩, ⟨10, .phase⟩, ⟨11, .phase⟩, ⟨12, .phase⟩, ⟨13, .phase⟩, ⟨14, .phase⟩, ⟨15, .phase⟩, ⟨16, .phase⟩, ⟨17, .phase⟩, ⟨18, .phase⟩, ⟨19, .phase⟩, ⟨20, .phase⟩, ⟨21, .phase⟩], none⟩) rfl (fun K hK => ?_) AllReadyH.nil
           obtain ⟨r0, r1, r2, r3, r4, f0, f1, f2, f3, f4⟩ := cells_five12 LB7.out
           have BB8 := hid (below_five12 BB7.out HX9.out (.int .i64 a0) (.int .i64 a1) (.int .i64 a2) (.slice CA cd.length cc) (.slice LA lits.length lc))
           have LF := hid (lies_five12 LB7.out (.int .i64 a0) (.int .i64 a1) (.int .i64 a2) (.slice CA cd.length cc) (.slice LA lits.length lc))
           have HFL : Hid (∀ k o s, LA = some ⟨k, o, s⟩ → w4.heap.size ≤ k) := fun k o s e => by
             have h := OV7.out
             subst e
             exact Nat.le_trans HG.out (h.lt k rfl).1
           have OF := hid (own_ints (own_five12 OV7.out LB7.out (by decide) (.int .i64 a0) (.int .i64 a1) (.int .i64 a2) (.slice CA cd.length cc) (.slice LA lits.length lc)))
           go_simp
           refine hK.out _ _ ?_ (fun hH8 => ?_)
           next =>
            exact KP.out _ BB8.out
           clear hK K
           try simp only [apt12]
           clear r0 r1 r2 r3 r4 f0 f1 f2 f3 f4
           refine wpAnyH_done (by kernel_rfl) ?_ _
           go_wp2_with fail
           go_meet
           exact ⟨bx, LA, lc, rfl, LF, OF, HFL, BB8⟩
         next =>
          go_simp
          obtain ⟨u3, hu⟩ : ∃ x, x = u2.alloc (.cells #[.int .i64 0, .int .i64 0, .int .i64 0, .slice none 0 0, .slice none 0 0] 32) := ⟨_, rfl⟩
          obtain ⟨bx, hg⟩ : ∃ x, x = u2.heap.size := ⟨_, rfl⟩
          have hb : Below u2.heap.size u2 u3 := by rw [hu]; exact below_alloc u2 _
          have HX9 : Hid (w4.heap.size ≤ bx) := by show _ ≤ _; rw [hg]; exact BB2.out.size
          have LB3 := hid (show Lies u3 bx 32 #[.int .i64 0, .int .i64 0, .int .i64 0, .slice none 0 0, .slice none 0 0] by rw [hu, hg]; exact Lies.new u2 _ _)
          have BB3 := hid (then_w BB2.out hb)
          have OB3 := hid (own_later OB2.out hb)
          try simp only [← hg]
          try rw [← hu]
          refine hK.out _ _ ?_ (fun hH3 => ?_)
          next =>
           exact KP.out _ BB3.out
          clear hK K
          try simp only [apt12]
          clear hb hu hg
          refine wpAnyH_ready (rs := [7]) (by kernel_rfl) (by simp) ?_
          refine AllReadyH.cons (i := 7) (o := ⟨some 58, .call { callee := .value (.func 41), args := #[.tmp 57, .const (Go.Value.int .i64 4)], argTypes := #[3, 3] }, 3, "ref.go:44", #[⟨6, .data⟩, ⟨3, .chain⟩], none⟩) rfl (fun K hK => ?_) AllReadyH.nil
          go_simp
          go_at_call 41
          refine (rsmall_any12 v1 4 _).mono ?_
          rintro e u4 ⟨rfl, hu⟩
          subst hu
          rw [← A1.out]
          refine hK.out _ _ ?_ (fun hH4 => ?_)
          next =>
           exact hH3
          clear hK K
          try simp only [apt12]
          refine wpAnyH_ready (rs := [11]) (by kernel_rfl) (by simp) ?_
          refine AllReadyH.cons (i := 11) (o := ⟨some 62, .call { callee := .value (.func 41), args := #[.tmp 61, .const (Go.Value.int .i64 8)], argTypes := #[3, 3] }, 3, "ref.go:44", #[⟨10, .data⟩, ⟨7, .chain⟩], none⟩) rfl (fun K hK => ?_) AllReadyH.nil
          go_simp
          go_at_call 41
          refine (rsmall_any12 v2 8 _).mono ?_
          rintro e u5 ⟨rfl, hu⟩
          subst hu
          rw [← A2.out]
          refine hK.out _ _ ?_ (fun hH5 => ?_)
          next =>
           exact hH4
          clear hK K
          try simp only [apt12]
          refine wpAnyH_ready (rs := [18]) (by kernel_rfl) (by simp) ?_
          refine AllReadyH.cons (i := 18) (o := ⟨some 69, .call { callee := .value (.func 31), args := #[.tmp 65, .tmp 68], argTypes := #[24, 3] }, 30, "ref.go:44", #[⟨14, .data⟩, ⟨17, .data⟩, ⟨11, .chain⟩], none⟩) rfl (fun K hK => ?_) AllReadyH.nil
          go_simp
          go_at_call 31
          refine (rslots_any12 h v4 _ c _ (HS.out.below (then_w HB4.out BB3.out))).mono ?_
          rintro e u6 ⟨LS, ld, rfl, hin, hnil, hb⟩
          rw [← HLT.out] at hin ⊢
          have IL6 := hid hin
          have HNL := hid hnil
          have BB6 := hid (then_w BB3.out hb)
          have OB6 := hid (own_later OB3.out hb)
          have LB6 := hid (LB3.out.later hb)
          refine hK.out _ _ ?_ (fun hH6 => ?_)
          next =>
           exact KP.out _ BB6.out
          clear hK K
          try simp only [apt12]
          clear hb hin hnil
          refine wpAnyH_ready (rs := [19]) (by kernel_rfl) (by simp) ?_
          refine AllReadyH.cons (i := 19) (o := ⟨some 70, .call { callee := .builtin .append, args := #[.tmp 64, .tmp 69], argTypes := #[30, 30] }, 30, "ref.go:44", #[⟨13, .data⟩, ⟨18, .data⟩, ⟨18, .chain⟩], none⟩) rfl (fun K hK => ?_) AllReadyH.nil
          obtain ⟨va, u7, hrun, hown, hgr⟩ := run_app_ints12 u6 g (.slice (some ⟨g, 0, none⟩) 0 0) 0 [] OB6.out LS ld lits IL6.out HNL.out (by have := HLL.out; omega) (by have := (OB6.out.lt g rfl).2; omega)
          rw [List.nil_append, Nat.zero_add] at hown
          obtain ⟨LA, lc, rfl⟩ := own_form hown
          have BB7 := hid (BB6.out.grown hgr BB6.out.size (fun k hk => Nat.le_trans HG.out (OB6.out.lt k hk).1))
          have OV7 := hid hown
          have LB7 : Hid (Lies u7 bx 32 #[.int .i64 0, .int .i64 0, .int .i64 0, .slice none 0 0, .slice none 0 0]) := (hgr.block bx LB6.out.lt (fun e => own_blk_ne OB6.out LB6.out (by decide) e.symm)).trans LB6.out
          refine wp_append_run11 _ _ 30 rfl _ u7 hrun ?_
          refine hK.out _ _ ?_ (fun hH7 => ?_)
          next =>
           exact KP.out _ BB7.out
          clear hK K
          try simp only [apt12]
          clear hrun hown hgr
          refine tkI 20 ⟨some 71, .build 32 #[(0, .tmp 54), (1, .tmp 58), (2, .tmp 62), (3, .tmp 63), (4, .tmp 70)], 32, "ref.go:44", #[⟨3, .data⟩, ⟨7, .data⟩, ⟨11, .data⟩, ⟨12, .data⟩, ⟨19, .data⟩], none⟩ ?v85 rfl (by kernel_rfl) (by rfl) ?y85 ?_
          case y85 => intro w hSw; (try dsimp only at hSw); go_simp; all_goals with_reducible rfl
          try simp only [apt12]
          refine wpAnyH_ready (rs := [22]) (by kernel_rfl) (by simp) ?_
          refine AllReadyH.cons (i := 22) (o := ⟨none, .store 32 (.tmp 9) (.tmp 71), 0, "ref.go:44", #[⟨21, .data⟩, ⟨20, .data⟩, ⟨19, .chain⟩, ⟨0, .phase⟩, ⟨1, .phase⟩, ⟨2, .phase⟩, ⟨3, .phase⟩, ⟨4, .phase⟩, ⟨5, .phase⟩, ⟨6, .phase⟩, ⟨7, .phase⟩, ⟨8, .phase⟩, ⟨9, .phase⟩, ⟨10, .phase⟩, ⟨11, .phase⟩, ⟨12, .phase⟩, ⟨13, .phase⟩, ⟨14, .phase⟩, ⟨15, .phase⟩, ⟨16, .phase⟩, ⟨17, .phase⟩, ⟨18, .phase⟩, ⟨19, .phase⟩, ⟨20, .phase⟩, ⟨21, .phase⟩], none⟩) rfl (fun K hK => ?_) AllReadyH.nil
          obtain ⟨r0, r1, r2, r3, r4, f0, f1, f2, f3, f4⟩ := cells_five12 LB7.out
          have BB8 := hid (below_five12 BB7.out HX9.out (.int .i64 a0) (.int .i64 a1) (.int .i64 a2) (.slice CA cd.length cc) (.slice LA lits.length lc))
          have LF := hid (lies_five12 LB7.out (.int .i64 a0) (.int .i64 a1) (.int .i64 a2) (.slice CA cd.length cc) (.slice LA lits.length lc))
          have HFL : Hid (∀ k o s, LA = some ⟨k, o, s⟩ → w4.heap.size ≤ k) := fun k o s e => by
            have h := OV7.out
            subst e
            exact Nat.le_trans HG.out (h.lt k rfl).1
          have OF := hid (own_ints (own_five12 OV7.out LB7.out (by decide) (.int .i64 a0) (.int .i64 a1) (.int .i64 a2) (.slice CA cd.length cc) (.slice LA lits.length lc)))
          go_simp
          refine hK.out _ _ ?_ (fun hH8 => ?_)
          next =>
           exact KP.out _ BB8.out
          clear hK K
          try simp only [apt12]
          clear r0 r1 r2 r3 r4 f0 f1 f2 f3 f4
          refine wpAnyH_done (by kernel_rfl) ?_ _
          go_wp2_with fail
          go_meet
          exact ⟨bx, LA, lc, rfl, LF, OF, HFL, BB8⟩
        next =>
         go_simp
         obtain ⟨u2, hu⟩ : ∃ x, x = (w4.alloc (.cells #[.int .i64 0, .int .i64 0, .int .i64 0, .slice none 0 0, .slice none 0 0] 32)).drew := ⟨_, rfl⟩
         obtain ⟨bx, hg⟩ : ∃ x, x = w4.heap.size := ⟨_, rfl⟩
         have hb : Below w4.drew.heap.size w4.drew u2 := by rw [hu]; exact below_alloc w4.drew _
         have HX9 : Hid (w4.heap.size ≤ bx) := by show _ ≤ _; rw [hg]; exact BB0.out.size
         have LB2 := hid (show Lies u2 bx 32 #[.int .i64 0, .int .i64 0, .int .i64 0, .slice none 0 0, .slice none 0 0] by rw [hu, hg]; exact Lies.new w4.drew _ _)
         have BB2 := hid (then_w BB0.out hb)
         try simp only [← hg]
         try rw [← hu]
         refine hK.out _ _ ?_ (fun hH2 => ?_)
         next =>
          exact KP.out _ BB2.out
         clear hK K
         try simp only [apt12]
         clear hb hu hg
         refine wpAnyH_ready (rs := [7, 13]) (by kernel_rfl) (by simp) ?_
         refine AllReadyH.cons (i := 7) (o := ⟨some 58, .call { callee := .value (.func 41), args := #[.tmp 57, .const (Go.Value.int .i64 4)], argTypes := #[3, 3] }, 3, "ref.go:44", #[⟨6, .data⟩, ⟨3, .chain⟩], none⟩) rfl (fun K hK => ?_) (AllReadyH.cons (i := 13) (o := ⟨some 64, .buildSlice 30 0 #[], 30, "ref.go:44", #[], none⟩) rfl (fun K hK => ?_) AllReadyH.nil)
         next =>
          go_simp
          go_at_call 41
          refine (rsmall_any12 v1 4 _).mono ?_
          rintro e u3 ⟨rfl, hu⟩
          subst hu
          rw [← A1.out]
          refine hK.out _ _ ?_ (fun hH3 => ?_)
          next =>
           exact hH2
          clear hK K
          try simp only [apt12]
          refine wpAnyH_ready (rs := [11, 13]) (by kernel_rfl) (by simp) ?_
          refine AllReadyH.cons (i := 11) (o := ⟨some 62, .call { callee := .value (.func 41), args := #[.tmp 61, .const (Go.Value.int .i64 8)], argTypes := #[3, 3] }, 3, "ref.go:44", #[⟨10, .data⟩, ⟨7, .chain⟩], none⟩) rfl (fun K hK => ?_) (AllReadyH.cons (i := 13) (o := ⟨some 64, .buildSlice 30 0 #[], 30, "ref.go:44", #[], none⟩) rfl (fun K hK => ?_) AllReadyH.nil)
          next =>
           go_simp
           go_at_call 41
           refine (rsmall_any12 v2 8 _).mono ?_
           rintro e u4 ⟨rfl, hu⟩
           subst hu
           rw [← A2.out]
           refine hK.out _ _ ?_ (fun hH4 => ?_)
           next =>
            exact hH3
           clear hK K
           try simp only [apt12]
           refine wpAnyH_ready (rs := [13, 18]) (by kernel_rfl) (by simp) ?_
           refine AllReadyH.cons (i := 13) (o := ⟨some 64, .buildSlice 30 0 #[], 30, "ref.go:44", #[], none⟩) rfl (fun K hK => ?_) (AllReadyH.cons (i := 18) (o := ⟨some 69, .call { callee := .value (.func 31), args := #[.tmp 65, .tmp 68], argTypes := #[24, 3] }, 30, "ref.go:44", #[⟨14, .data⟩, ⟨17, .data⟩, ⟨11, .chain⟩], none⟩) rfl (fun K hK => ?_) AllReadyH.nil)
           next =>
            go_simp
            obtain ⟨u5, hu⟩ : ∃ x, x = u2.alloc (.cells #[] 3) := ⟨_, rfl⟩
            obtain ⟨g, hg⟩ : ∃ x, x = u2.heap.size := ⟨_, rfl⟩
            have hb : Below u2.heap.size u2 u5 := by rw [hu]; exact below_alloc u2 _
            have HG : Hid (w4.heap.size ≤ g) := by show _ ≤ _; rw [hg]; exact BB2.out.size
            have OB5 := hid (show u5.ownsRow g 3 1 (.slice (some ⟨g, 0, none⟩) 0 0) 0 (([] : List Int).map (Value.int .i64)) by rw [hu, hg]; exact own_nil12 u2)
            have BB5 := hid (then_w BB2.out hb)
            have LB5 := hid (LB2.out.later hb)
            try simp only [← hg]
            try rw [← hu]
            refine hK.out _ _ ?_ (fun hH5 => ?_)
            next =>
             exact KP.out _ BB5.out
            clear hK K
            try simp only [apt12]
            clear hb hu hg
            refine wpAnyH_ready (rs := [18]) (by kernel_rfl) (by simp) ?_
            refine AllReadyH.cons (i := 18) (o := ⟨some 69, .call { callee := .value (.func 31), args := #[.tmp 65, .tmp 68], argTypes := #[24, 3] }, 30, "ref.go:44", #[⟨14, .data⟩, ⟨17, .data⟩, ⟨11, .chain⟩], none⟩) rfl (fun K hK => ?_) AllReadyH.nil
            go_simp
            go_at_call 31
            refine (rslots_any12 h v4 _ c _ (HS.out.below (then_w HB4.out BB5.out))).mono ?_
            rintro e u6 ⟨LS, ld, rfl, hin, hnil, hb⟩
            rw [← HLT.out] at hin ⊢
            have IL6 := hid hin
            have HNL := hid hnil
            have BB6 := hid (then_w BB5.out hb)
            have OB6 := hid (own_later OB5.out hb)
            have LB6 := hid (LB5.out.later hb)
            refine hK.out _ _ ?_ (fun hH6 => ?_)
            next =>
             exact KP.out _ BB6.out
            clear hK K
            try simp only [apt12]
            clear hb hin hnil
            refine wpAnyH_ready (rs := [19]) (by kernel_rfl) (by simp) ?_
            refine AllReadyH.cons (i := 19) (o := ⟨some 70, .call { callee := .builtin .append, args := #[.tmp 64, .tmp 69], argTypes := #[30, 30] }, 30, "ref.go:44", #[⟨13, .data⟩, ⟨18, .data⟩, ⟨18, .chain⟩], none⟩) rfl (fun K hK => ?_) AllReadyH.nil
            obtain ⟨va, u7, hrun, hown, hgr⟩ := run_app_ints12 u6 g (.slice (some ⟨g, 0, none⟩) 0 0) 0 [] OB6.out LS ld lits IL6.out HNL.out (by have := HLL.out; omega) (by have := (OB6.out.lt g rfl).2; omega)
            rw [List.nil_append, Nat.zero_add] at hown
            obtain ⟨LA, lc, rfl⟩ := own_form hown
            have BB7 := hid (BB6.out.grown hgr BB6.out.size (fun k hk => Nat.le_trans HG.out (OB6.out.lt k hk).1))
            have OV7 := hid hown
            have LB7 : Hid (Lies u7 bx 32 #[.int .i64 0, .int .i64 0, .int .i64 0, .slice none 0 0, .slice none 0 0]) := (hgr.block bx LB6.out.lt (fun e => own_blk_ne OB6.out LB6.out (by decide) e.symm)).trans LB6.out
            refine wp_append_run11 _ _ 30 rfl _ u7 hrun ?_
            refine hK.out _ _ ?_ (fun hH7 => ?_)
            next =>
             exact KP.out _ BB7.out
            clear hK K
            try simp only [apt12]
            clear hrun hown hgr
            refine tkI 20 ⟨some 71, .build 32 #[(0, .tmp 54), (1, .tmp 58), (2, .tmp 62), (3, .tmp 63), (4, .tmp 70)], 32, "ref.go:44", #[⟨3, .data⟩, ⟨7, .data⟩, ⟨11, .data⟩, ⟨12, .data⟩, ⟨19, .data⟩], none⟩ ?v86 rfl (by kernel_rfl) (by rfl) ?y86 ?_
            case y86 => intro w hSw; (try dsimp only at hSw); go_simp; all_goals with_reducible rfl
            try simp only [apt12]
            refine wpAnyH_ready (rs := [22]) (by kernel_rfl) (by simp) ?_
            refine AllReadyH.cons (i := 22) (o := ⟨none, .store 32 (.tmp 9) (.tmp 71), 0, "ref.go:44", #[⟨21, .data⟩, ⟨20, .data⟩, ⟨19, .chain⟩, ⟨0, .phase⟩, ⟨1, .phase⟩, ⟨2, .phase⟩, ⟨3, .phase⟩, ⟨4, .phase⟩, ⟨5, .phase⟩, ⟨6, .phase⟩, ⟨7, .phase⟩, ⟨8, .phase⟩, ⟨9, .phase⟩, ⟨10, .phase⟩, ⟨11, .phase⟩, ⟨12, .phase⟩, ⟨13, .phase⟩, ⟨14, .phase⟩, ⟨15, .phase⟩, ⟨16, .phase⟩, ⟨17, .phase⟩, ⟨18, .phase⟩, ⟨19, .phase⟩, ⟨20, .phase⟩, ⟨21, .phase⟩], none⟩) rfl (fun K hK => ?_) AllReadyH.nil
            obtain ⟨r0, r1, r2, r3, r4, f0, f1, f2, f3, f4⟩ := cells_five12 LB7.out
            have BB8 := hid (below_five12 BB7.out HX9.out (.int .i64 a0) (.int .i64 a1) (.int .i64 a2) (.slice CA cd.length cc) (.slice LA lits.length lc))
            have LF := hid (lies_five12 LB7.out (.int .i64 a0) (.int .i64 a1) (.int .i64 a2) (.slice CA cd.length cc) (.slice LA lits.length lc))
            have HFL : Hid (∀ k o s, LA = some ⟨k, o, s⟩ → w4.heap.size ≤ k) := fun k o s e => by
              have h := OV7.out
              subst e
              exact Nat.le_trans HG.out (h.lt k rfl).1
            have OF := hid (own_ints (own_five12 OV7.out LB7.out (by decide) (.int .i64 a0) (.int .i64 a1) (.int .i64 a2) (.slice CA cd.length cc) (.slice LA lits.length lc)))
            go_simp
            refine hK.out _ _ ?_ (fun hH8 => ?_)
            next =>
             exact KP.out _ BB8.out
            clear hK K
            try simp only [apt12]
            clear r0 r1 r2 r3 r4 f0 f1 f2 f3 f4
            refine wpAnyH_done (by kernel_rfl) ?_ _
            go_wp2_with fail
            go_meet
            exact ⟨bx, LA, lc, rfl, LF, OF, HFL, BB8⟩
           next =>
            go_simp
            go_at_call 31
            refine (rslots_any12 h v4 _ c _ (HS.out.below (then_w HB4.out BB2.out))).mono ?_
            rintro e u5 ⟨LS, ld, rfl, hin, hnil, hb⟩
            rw [← HLT.out] at hin ⊢
            have IL5 := hid hin
            have HNL := hid hnil
            have BB5 := hid (then_w BB2.out hb)
            have LB5 := hid (LB2.out.later hb)
            refine hK.out _ _ ?_ (fun hH5 => ?_)
            next =>
             exact KP.out _ BB5.out
            clear hK K
            try simp only [apt12]
            clear hb hin hnil
            refine wpAnyH_ready (rs := [13]) (by kernel_rfl) (by simp) ?_
            refine AllReadyH.cons (i := 13) (o := ⟨some 64, .buildSlice 30 0 #[], 30, "ref.go:44", #[], none⟩) rfl (fun K hK => ?_) AllReadyH.nil
            go_simp
            obtain ⟨u6, hu⟩ : ∃ x, x = u5.alloc (.cells #[] 3) := ⟨_, rfl⟩
            obtain ⟨g, hg⟩ : ∃ x, x = u5.heap.size := ⟨_, rfl⟩
            have hb : Below u5.heap.size u5 u6 := by rw [hu]; exact below_alloc u5 _
            have HG : Hid (w4.heap.size ≤ g) := by show _ ≤ _; rw [hg]; exact BB5.out.size
            have OB6 := hid (show u6.ownsRow g 3 1 (.slice (some ⟨g, 0, none⟩) 0 0) 0 (([] : List Int).map (Value.int .i64)) by rw [hu, hg]; exact own_nil12 u5)
            have BB6 := hid (then_w BB5.out hb)
            have LB6 := hid (LB5.out.later hb)
            have IL6 := hid (IL5.out.below hb)
            try simp only [← hg]
            try rw [← hu]
            refine hK.out _ _ ?_ (fun hH6 => ?_)
            next =>
             exact KP.out _ BB6.out
            clear hK K
            try simp only [apt12]
            clear hb hu hg
            refine wpAnyH_ready (rs := [19]) (by kernel_rfl) (by simp) ?_
            refine AllReadyH.cons (i := 19) (o := ⟨some 70, .call { callee := .builtin .append, args := #[.tmp 64, .tmp 69], argTypes := #[30, 30] }, 30, "ref.go:44", #[⟨13, .data⟩, ⟨18, .data⟩, ⟨18, .chain⟩], none⟩) rfl (fun K hK => ?_) AllReadyH.nil
            obtain ⟨va, u7, hrun, hown, hgr⟩ := run_app_ints12 u6 g (.slice (some ⟨g, 0, none⟩) 0 0) 0 [] OB6.out LS ld lits IL6.out HNL.out (by have := HLL.out; omega) (by have := (OB6.out.lt g rfl).2; omega)
            rw [List.nil_append, Nat.zero_add] at hown
            obtain ⟨LA, lc, rfl⟩ := own_form hown
            have BB7 := hid (BB6.out.grown hgr BB6.out.size (fun k hk => Nat.le_trans HG.out (OB6.out.lt k hk).1))
            have OV7 := hid hown
            have LB7 : Hid (Lies u7 bx 32 #[.int .i64 0, .int .i64 0, .int .i64 0, .slice none 0 0, .slice none 0 0]) := (hgr.block bx LB6.out.lt (fun e => own_blk_ne OB6.out LB6.out (by decide) e.symm)).trans LB6.out
            refine wp_append_run11 _ _ 30 rfl _ u7 hrun ?_
            refine hK.out _ _ ?_ (fun hH7 => ?_)
            next =>
             exact KP.out _ BB7.out
            clear hK K
            try simp only [apt12]
            clear hrun hown hgr
            refine tkI 20 ⟨some 71, .build 32 #[(0, .tmp 54), (1, .tmp 58), (2, .tmp 62), (3, .tmp 63), (4, .tmp 70)], 32, "ref.go:44", #[⟨3, .data⟩, ⟨7, .data⟩, ⟨11, .data⟩, ⟨12, .data⟩, ⟨19, .data⟩], none⟩ ?v87 rfl (by kernel_rfl) (by rfl) ?y87 ?_
            case y87 => intro w hSw; (try dsimp only at hSw); go_simp; all_goals with_reducible rfl
            try simp only [apt12]
            refine wpAnyH_ready (rs := [22]) (by kernel_rfl) (by simp) ?_
            refine AllReadyH.cons (i := 22) (o := ⟨none, .store 32 (.tmp 9) (.tmp 71), 0, "ref.go:44", #[⟨21, .data⟩, ⟨20, .data⟩, ⟨19, .chain⟩, ⟨0, .phase⟩, ⟨1, .phase⟩, ⟨2, .phase⟩, ⟨3, .phase⟩, ⟨4, .phase⟩, ⟨5, .phase⟩, ⟨6, .phase⟩, ⟨7, .phase⟩, ⟨8, .phase⟩, ⟨9, .phase⟩, ⟨10, .phase⟩, ⟨11, .phase⟩, ⟨12, .phase⟩, ⟨13, .phase⟩, ⟨14, .phase⟩, ⟨15, .phase⟩, ⟨16, .phase⟩, ⟨17, .phase⟩, ⟨18, .phase⟩, ⟨19, .phase⟩, ⟨20, .phase⟩, ⟨21, .phase⟩], none⟩) rfl (fun K hK => ?_) AllReadyH.nil
            obtain ⟨r0, r1, r2, r3, r4, f0, f1, f2, f3, f4⟩ := cells_five12 LB7.out
            have BB8 := hid (below_five12 BB7.out HX9.out (.int .i64 a0) (.int .i64 a1) (.int .i64 a2) (.slice CA cd.length cc) (.slice LA lits.length lc))
            have LF := hid (lies_five12 LB7.out (.int .i64 a0) (.int .i64 a1) (.int .i64 a2) (.slice CA cd.length cc) (.slice LA lits.length lc))
            have HFL : Hid (∀ k o s, LA = some ⟨k, o, s⟩ → w4.heap.size ≤ k) := fun k o s e => by
              have h := OV7.out
              subst e
              exact Nat.le_trans HG.out (h.lt k rfl).1
            have OF := hid (own_ints (own_five12 OV7.out LB7.out (by decide) (.int .i64 a0) (.int .i64 a1) (.int .i64 a2) (.slice CA cd.length cc) (.slice LA lits.length lc)))
            go_simp
            refine hK.out _ _ ?_ (fun hH8 => ?_)
            next =>
             exact KP.out _ BB8.out
            clear hK K
            try simp only [apt12]
            clear r0 r1 r2 r3 r4 f0 f1 f2 f3 f4
            refine wpAnyH_done (by kernel_rfl) ?_ _
            go_wp2_with fail
            go_meet
            exact ⟨bx, LA, lc, rfl, LF, OF, HFL, BB8⟩
          next =>
           go_simp
           obtain ⟨u4, hu⟩ : ∃ x, x = u2.alloc (.cells #[] 3) := ⟨_, rfl⟩
           obtain ⟨g, hg⟩ : ∃ x, x = u2.heap.size := ⟨_, rfl⟩
           have hb : Below u2.heap.size u2 u4 := by rw [hu]; exact below_alloc u2 _
           have HG : Hid (w4.heap.size ≤ g) := by show _ ≤ _; rw [hg]; exact BB2.out.size
           have OB4 := hid (show u4.ownsRow g 3 1 (.slice (some ⟨g, 0, none⟩) 0 0) 0 (([] : List Int).map (Value.int .i64)) by rw [hu, hg]; exact own_nil12 u2)
           have BB4 := hid (then_w BB2.out hb)
           have LB4 := hid (LB2.out.later hb)
           try simp only [← hg]
           try rw [← hu]
           refine hK.out _ _ ?_ (fun hH4 => ?_)
           next =>
            exact KP.out _ BB4.out
           clear hK K
           try simp only [apt12]
           clear hb hu hg
           refine wpAnyH_ready (rs := [11]) (by kernel_rfl) (by simp) ?_
           refine AllReadyH.cons (i := 11) (o := ⟨some 62, .call { callee := .value (.func 41), args := #[.tmp 61, .const (Go.Value.int .i64 8)], argTypes := #[3, 3] }, 3, "ref.go:44", #[⟨10, .data⟩, ⟨7, .chain⟩], none⟩) rfl (fun K hK => ?_) AllReadyH.nil
           go_simp
           go_at_call 41
           refine (rsmall_any12 v2 8 _).mono ?_
           rintro e u5 ⟨rfl, hu⟩
           subst hu
           rw [← A2.out]
           refine hK.out _ _ ?_ (fun hH5 => ?_)
           next =>
            exact hH4
           clear hK K
           try simp only [apt12]
           refine wpAnyH_ready (rs := [18]) (by kernel_rfl) (by simp) ?_
           refine AllReadyH.cons (i := 18) (o := ⟨some 69, .call { callee := .value (.func 31), args := #[.tmp 65, .tmp 68], argTypes := #[24, 3] }, 30, "ref.go:44", #[⟨14, .data⟩, ⟨17, .data⟩, ⟨11, .chain⟩], none⟩) rfl (fun K hK => ?_) AllReadyH.nil
           go_simp
           go_at_call 31
           refine (rslots_any12 h v4 _ c _ (HS.out.below (then_w HB4.out BB4.out))).mono ?_
           rintro e u6 ⟨LS, ld, rfl, hin, hnil, hb⟩
           rw [← HLT.out] at hin ⊢
           have IL6 := hid hin
           have HNL := hid hnil
           have BB6 := hid (then_w BB4.out hb)
           have OB6 := hid (own_later OB4.out hb)
           have LB6 := hid (LB4.out.later hb)
           refine hK.out _ _ ?_ (fun hH6 => ?_)
           next =>
            exact KP.out _ BB6.out
           clear hK K
           try simp only [apt12]
           clear hb hin hnil
           refine wpAnyH_ready (rs := [19]) (by kernel_rfl) (by simp) ?_
           refine AllReadyH.cons (i := 19) (o := ⟨some 70, .call { callee := .builtin .append, args := #[.tmp 64, .tmp 69], argTypes := #[30, 30] }, 30, "ref.go:44", #[⟨13, .data⟩, ⟨18, .data⟩, ⟨18, .chain⟩], none⟩) rfl (fun K hK => ?_) AllReadyH.nil
           obtain ⟨va, u7, hrun, hown, hgr⟩ := run_app_ints12 u6 g (.slice (some ⟨g, 0, none⟩) 0 0) 0 [] OB6.out LS ld lits IL6.out HNL.out (by have := HLL.out; omega) (by have := (OB6.out.lt g rfl).2; omega)
           rw [List.nil_append, Nat.zero_add] at hown
           obtain ⟨LA, lc, rfl⟩ := own_form hown
           have BB7 := hid (BB6.out.grown hgr BB6.out.size (fun k hk => Nat.le_trans HG.out (OB6.out.lt k hk).1))
           have OV7 := hid hown
           have LB7 : Hid (Lies u7 bx 32 #[.int .i64 0, .int .i64 0, .int .i64 0, .slice none 0 0, .slice none 0 0]) := (hgr.block bx LB6.out.lt (fun e => own_blk_ne OB6.out LB6.out (by decide) e.symm)).trans LB6.out
           refine wp_append_run11 _ _ 30 rfl _ u7 hrun ?_
           refine hK.out _ _ ?_ (fun hH7 => ?_)
           next =>
            exact KP.out _ BB7.out
           clear hK K
           try simp only [apt12]
           clear hrun hown hgr
           refine tkI 20 ⟨some 71, .build 32 #[(0, .tmp 54), (1, .tmp 58), (2, .tmp 62), (3, .tmp 63), (4, .tmp 70)], 32, "ref.go:44", #[⟨3, .data⟩, ⟨7, .data⟩, ⟨11, .data⟩, ⟨12, .data⟩, ⟨19, .data⟩], none⟩ ?v88 rfl (by kernel_rfl) (by rfl) ?y88 ?_
           case y88 => intro w hSw; (try dsimp only at hSw); go_simp; all_goals with_reducible rfl
           try simp only [apt12]
           refine wpAnyH_ready (rs := [22]) (by kernel_rfl) (by simp) ?_
           refine AllReadyH.cons (i := 22) (o := ⟨none, .store 32 (.tmp 9) (.tmp 71), 0, "ref.go:44", #[⟨21, .data⟩, ⟨20, .data⟩, ⟨19, .chain⟩, ⟨0, .phase⟩, ⟨1, .phase⟩, ⟨2, .phase⟩, ⟨3, .phase⟩, ⟨4, .phase⟩, ⟨5, .phase⟩, ⟨6, .phase⟩, ⟨7, .phase⟩, ⟨8, .phase⟩, ⟨9, .phase⟩, ⟨10, .phase⟩, ⟨11, .phase⟩, ⟨12, .phase⟩, ⟨13, .phase⟩, ⟨14, .phase⟩, ⟨15, .phase⟩, ⟨16, .phase⟩, ⟨17, .phase⟩, ⟨18, .phase⟩, ⟨19, .phase⟩, ⟨20, .phase⟩, ⟨21, .phase⟩], none⟩) rfl (fun K hK => ?_) AllReadyH.nil
           obtain ⟨r0, r1, r2, r3, r4, f0, f1, f2, f3, f4⟩ := cells_five12 LB7.out
           have BB8 := hid (below_five12 BB7.out HX9.out (.int .i64 a0) (.int .i64 a1) (.int .i64 a2) (.slice CA cd.length cc) (.slice LA lits.length lc))
           have LF := hid (lies_five12 LB7.out (.int .i64 a0) (.int .i64 a1) (.int .i64 a2) (.slice CA cd.length cc) (.slice LA lits.length lc))
           have HFL : Hid (∀ k o s, LA = some ⟨k, o, s⟩ → w4.heap.size ≤ k) := fun k o s e => by
             have h := OV7.out
             subst e
             exact Nat.le_trans HG.out (h.lt k rfl).1
           have OF := hid (own_ints (own_five12 OV7.out LB7.out (by decide) (.int .i64 a0) (.int .i64 a1) (.int .i64 a2) (.slice CA cd.length cc) (.slice LA lits.length lc)))
           go_simp
           refine hK.out _ _ ?_ (fun hH8 => ?_)
           next =>
            exact KP.out _ BB8.out
           clear hK K
           try simp only [apt12]
           clear r0 r1 r2 r3 r4 f0 f1 f2 f3 f4
           refine wpAnyH_done (by kernel_rfl) ?_ _
           go_wp2_with fail
           go_meet
           exact ⟨bx, LA, lc, rfl, LF, OF, HFL, BB8⟩
         next =>
          go_simp
          obtain ⟨u3, hu⟩ : ∃ x, x = u2.alloc (.cells #[] 3) := ⟨_, rfl⟩
          obtain ⟨g, hg⟩ : ∃ x, x = u2.heap.size := ⟨_, rfl⟩
          have hb : Below u2.heap.size u2 u3 := by rw [hu]; exact below_alloc u2 _
          have HG : Hid (w4.heap.size ≤ g) := by show _ ≤ _; rw [hg]; exact BB2.out.size
          have OB3 := hid (show u3.ownsRow g 3 1 (.slice (some ⟨g, 0, none⟩) 0 0) 0 (([] : List Int).map (Value.int .i64)) by rw [hu, hg]; exact own_nil12 u2)
          have BB3 := hid (then_w BB2.out hb)
          have LB3 := hid (LB2.out.later hb)
          try simp only [← hg]
          try rw [← hu]
          refine hK.out _ _ ?_ (fun hH3 => ?_)
          next =>
           exact KP.out _ BB3.out
          clear hK K
          try simp only [apt12]
          clear hb hu hg
          refine wpAnyH_ready (rs := [7]) (by kernel_rfl) (by simp) ?_
          refine AllReadyH.cons (i := 7) (o := ⟨some 58, .call { callee := .value (.func 41), args := #[.tmp 57, .const (Go.Value.int .i64 4)], argTypes := #[3, 3] }, 3, "ref.go:44", #[⟨6, .data⟩, ⟨3, .chain⟩], none⟩) rfl (fun K hK => ?_) AllReadyH.nil
          go_simp
          go_at_call 41
          refine (rsmall_any12 v1 4 _).mono ?_
          rintro e u4 ⟨rfl, hu⟩
          subst hu
          rw [← A1.out]
          refine hK.out _ _ ?_ (fun hH4 => ?_)
          next =>
           exact hH3
          clear hK K
          try simp only [apt12]
          refine wpAnyH_ready (rs := [11]) (by kernel_rfl) (by simp) ?_
          refine AllReadyH.cons (i := 11) (o := ⟨some 62, .call { callee := .value (.func 41), args := #[.tmp 61, .const (Go.Value.int .i64 8)], argTypes := #[3, 3] }, 3, "ref.go:44", #[⟨10, .data⟩, ⟨7, .chain⟩], none⟩) rfl (fun K hK => ?_) AllReadyH.nil
          go_simp
          go_at_call 41
          refine (rsmall_any12 v2 8 _).mono ?_
          rintro e u5 ⟨rfl, hu⟩
          subst hu
          rw [← A2.out]
          refine hK.out _ _ ?_ (fun hH5 => ?_)
          next =>
           exact hH4
          clear hK K
          try simp only [apt12]
          refine wpAnyH_ready (rs := [18]) (by kernel_rfl) (by simp) ?_
          refine AllReadyH.cons (i := 18) (o := ⟨some 69, .call { callee := .value (.func 31), args := #[.tmp 65, .tmp 68], argTypes := #[24, 3] }, 30, "ref.go:44", #[⟨14, .data⟩, ⟨17, .data⟩, ⟨11, .chain⟩], none⟩) rfl (fun K hK => ?_) AllReadyH.nil
          go_simp
          go_at_call 31
          refine (rslots_any12 h v4 _ c _ (HS.out.below (then_w HB4.out BB3.out))).mono ?_
          rintro e u6 ⟨LS, ld, rfl, hin, hnil, hb⟩
          rw [← HLT.out] at hin ⊢
          have IL6 := hid hin
          have HNL := hid hnil
          have BB6 := hid (then_w BB3.out hb)
          have OB6 := hid (own_later OB3.out hb)
          have LB6 := hid (LB3.out.later hb)
          refine hK.out _ _ ?_ (fun hH6 => ?_)
          next =>
           exact KP.out _ BB6.out
          clear hK K
          try simp only [apt12]
          clear hb hin hnil
          refine wpAnyH_ready (rs := [19]) (by kernel_rfl) (by simp) ?_
          refine AllReadyH.cons (i := 19) (o := ⟨some 70, .call { callee := .builtin .append, args := #[.tmp 64, .tmp 69], argTypes := #[30, 30] }, 30, "ref.go:44", #[⟨13, .data⟩, ⟨18, .data⟩, ⟨18, .chain⟩], none⟩) rfl (fun K hK => ?_) AllReadyH.nil
          obtain ⟨va, u7, hrun, hown, hgr⟩ := run_app_ints12 u6 g (.slice (some ⟨g, 0, none⟩) 0 0) 0 [] OB6.out LS ld lits IL6.out HNL.out (by have := HLL.out; omega) (by have := (OB6.out.lt g rfl).2; omega)
          rw [List.nil_append, Nat.zero_add] at hown
          obtain ⟨LA, lc, rfl⟩ := own_form hown
          have BB7 := hid (BB6.out.grown hgr BB6.out.size (fun k hk => Nat.le_trans HG.out (OB6.out.lt k hk).1))
          have OV7 := hid hown
          have LB7 : Hid (Lies u7 bx 32 #[.int .i64 0, .int .i64 0, .int .i64 0, .slice none 0 0, .slice none 0 0]) := (hgr.block bx LB6.out.lt (fun e => own_blk_ne OB6.out LB6.out (by decide) e.symm)).trans LB6.out
          refine wp_append_run11 _ _ 30 rfl _ u7 hrun ?_
          refine hK.out _ _ ?_ (fun hH7 => ?_)
          next =>
           exact KP.out _ BB7.out
          clear hK K
          try simp only [apt12]
          clear hrun hown hgr
          refine tkI 20 ⟨some 71, .build 32 #[(0, .tmp 54), (1, .tmp 58), (2, .tmp 62), (3, .tmp 63), (4, .tmp 70)], 32, "ref.go:44", #[⟨3, .data⟩, ⟨7, .data⟩, ⟨11, .data⟩, ⟨12, .data⟩, ⟨19, .data⟩], none⟩ ?v89 rfl (by kernel_rfl) (by rfl) ?y89 ?_
          case y89 => intro w hSw; (try dsimp only at hSw); go_simp; all_goals with_reducible rfl
          try simp only [apt12]
          refine wpAnyH_ready (rs := [22]) (by kernel_rfl) (by simp) ?_
          refine AllReadyH.cons (i := 22) (o := ⟨none, .store 32 (.tmp 9) (.tmp 71), 0, "ref.go:44", #[⟨21, .data⟩, ⟨20, .data⟩, ⟨19, .chain⟩, ⟨0, .phase⟩, ⟨1, .phase⟩, ⟨2, .phase⟩, ⟨3, .phase⟩, ⟨4, .phase⟩, ⟨5, .phase⟩, ⟨6, .phase⟩, ⟨7, .phase⟩, ⟨8, .phase⟩, ⟨9, .phase⟩, ⟨10, .phase⟩, ⟨11, .phase⟩, ⟨12, .phase⟩, ⟨13, .phase⟩, ⟨14, .phase⟩, ⟨15, .phase⟩, ⟨16, .phase⟩, ⟨17, .phase⟩, ⟨18, .phase⟩, ⟨19, .phase⟩, ⟨20, .phase⟩, ⟨21, .phase⟩], none⟩) rfl (fun K hK => ?_) AllReadyH.nil
          obtain ⟨r0, r1, r2, r3, r4, f0, f1, f2, f3, f4⟩ := cells_five12 LB7.out
          have BB8 := hid (below_five12 BB7.out HX9.out (.int .i64 a0) (.int .i64 a1) (.int .i64 a2) (.slice CA cd.length cc) (.slice LA lits.length lc))
          have LF := hid (lies_five12 LB7.out (.int .i64 a0) (.int .i64 a1) (.int .i64 a2) (.slice CA cd.length cc) (.slice LA lits.length lc))
          have HFL : Hid (∀ k o s, LA = some ⟨k, o, s⟩ → w4.heap.size ≤ k) := fun k o s e => by
            have h := OV7.out
            subst e
            exact Nat.le_trans HG.out (h.lt k rfl).1
          have OF := hid (own_ints (own_five12 OV7.out LB7.out (by decide) (.int .i64 a0) (.int .i64 a1) (.int .i64 a2) (.slice CA cd.length cc) (.slice LA lits.length lc)))
          go_simp
          refine hK.out _ _ ?_ (fun hH8 => ?_)
          next =>
           exact KP.out _ BB8.out
          clear hK K
          try simp only [apt12]
          clear r0 r1 r2 r3 r4 f0 f1 f2 f3 f4
          refine wpAnyH_done (by kernel_rfl) ?_ _
          go_wp2_with fail
          go_meet
          exact ⟨bx, LA, lc, rfl, LF, OF, HFL, BB8⟩
       next =>
        go_simp
        obtain ⟨u1, hu⟩ : ∃ x, x = (w4.alloc (.cells #[] 3)).drew := ⟨_, rfl⟩
        obtain ⟨g, hg⟩ : ∃ x, x = w4.heap.size := ⟨_, rfl⟩
        have hb : Below w4.drew.heap.size w4.drew u1 := by rw [hu]; exact below_alloc w4.drew _
        have HG : Hid (w4.heap.size ≤ g) := by show _ ≤ _; rw [hg]; exact BB0.out.size
        have OB1 := hid (show u1.ownsRow g 3 1 (.slice (some ⟨g, 0, none⟩) 0 0) 0 (([] : List Int).map (Value.int .i64)) by rw [hu, hg]; exact own_nil12 w4.drew)
        have BB1 := hid (then_w BB0.out hb)
        try simp only [← hg]
        try rw [← hu]
        refine hK.out _ _ ?_ (fun hH1 => ?_)
        next =>
         exact KP.out _ BB1.out
        clear hK K
        try simp only [apt12]
        clear hb hu hg
        refine wpAnyH_ready (rs := [3, 21]) (by kernel_rfl) (by simp) ?_
        refine AllReadyH.cons (i := 3) (o := ⟨some 54, .call { callee := .value (.func 41), args := #[.tmp 53, .const (Go.Value.int .i64 63)], argTypes := #[3, 3] }, 3, "ref.go:44", #[⟨2, .data⟩], none⟩) rfl (fun K hK => ?_) (AllReadyH.cons (i := 21) (o := ⟨some 9, .alloc 32, 0, "ref.go:44", #[], none⟩) rfl (fun K hK => ?_) AllReadyH.nil)
        next =>
         go_simp
         go_at_call 41
         refine (rsmall_any12 v0 63 _).mono ?_
         rintro e u2 ⟨rfl, hu⟩
         subst hu
         rw [← A0.out]
         refine hK.out _ _ ?_ (fun hH2 => ?_)
         next =>
          exact hH1
         clear hK K
         try simp only [apt12]
         refine wpAnyH_ready (rs := [7, 21]) (by kernel_rfl) (by simp) ?_
         refine AllReadyH.cons (i := 7) (o := ⟨some 58, .call { callee := .value (.func 41), args := #[.tmp 57, .const (Go.Value.int .i64 4)], argTypes := #[3, 3] }, 3, "ref.go:44", #[⟨6, .data⟩, ⟨3, .chain⟩], none⟩) rfl (fun K hK => ?_) (AllReadyH.cons (i := 21) (o := ⟨some 9, .alloc 32, 0, "ref.go:44", #[], none⟩) rfl (fun K hK => ?_) AllReadyH.nil)
         next =>
          go_simp
          go_at_call 41
          refine (rsmall_any12 v1 4 _).mono ?_
          rintro e u3 ⟨rfl, hu⟩
          subst hu
          rw [← A1.out]
          refine hK.out _ _ ?_ (fun hH3 => ?_)
          next =>
           exact hH2
          clear hK K
          try simp only [apt12]
          refine wpAnyH_ready (rs := [11, 21]) (by kernel_rfl) (by simp) ?_
          refine AllReadyH.cons (i := 11) (o := ⟨some 62, .call { callee := .value (.func 41), args := #[.tmp 61, .const (Go.Value.int .i64 8)], argTypes := #[3, 3] }, 3, "ref.go:44", #[⟨10, .data⟩, ⟨7, .chain⟩], none⟩) rfl (fun K hK => ?_) (AllReadyH.cons (i := 21) (o := ⟨some 9, .alloc 32, 0, "ref.go:44", #[], none⟩) rfl (fun K hK => ?_) AllReadyH.nil)
          next =>
           go_simp
           go_at_call 41
           refine (rsmall_any12 v2 8 _).mono ?_
           rintro e u4 ⟨rfl, hu⟩
           subst hu
           rw [← A2.out]
           refine hK.out _ _ ?_ (fun hH4 => ?_)
           next =>
            exact hH3
           clear hK K
           try simp only [apt12]
           refine wpAnyH_ready (rs := [18, 21]) (by kernel_rfl) (by simp) ?_
           refine AllReadyH.cons (i := 18) (o := ⟨some 69, .call { callee := .value (.func 31), args := #[.tmp 65, .tmp 68], argTypes := #[24, 3] }, 30, "ref.go:44", #[⟨14, .data⟩, ⟨17, .data⟩, ⟨11, .chain⟩], none⟩) rfl (fun K hK => ?_) (AllReadyH.cons (i := 21) (o := ⟨some 9, .alloc 32, 0, "ref.go:44", #[], none⟩) rfl (fun K hK => ?_) AllReadyH.nil)
           next =>
            go_simp
            go_at_call 31
            refine (rslots_any12 h v4 _ c _ (HS.out.below (then_w HB4.out BB1.out))).mono ?_
            rintro e u5 ⟨LS, ld, rfl, hin, hnil, hb⟩
            rw [← HLT.out] at hin ⊢
            have IL5 := hid hin
            have HNL := hid hnil
            have BB5 := hid (then_w BB1.out hb)
            have OB5 := hid (own_later OB1.out hb)
            refine hK.out _ _ ?_ (fun hH5 => ?_)
            next =>
             exact KP.out _ BB5.out
            clear hK K
            try simp only [apt12]
            clear hb hin hnil
            refine wpAnyH_ready (rs := [19, 21]) (by kernel_rfl) (by simp) ?_
            refine AllReadyH.cons (i := 19) (o := ⟨some 70, .call { callee := .builtin .append, args := #[.tmp 64, .tmp 69], argTypes := #[30, 30] }, 30, "ref.go:44", #[⟨13, .data⟩, ⟨18, .data⟩, ⟨18, .chain⟩], none⟩) rfl (fun K hK => ?_) (AllReadyH.cons (i := 21) (o := ⟨some 9, .alloc 32, 0, "ref.go:44", #[], none⟩) rfl (fun K hK => ?_) AllReadyH.nil)
            next =>
             obtain ⟨va, u6, hrun, hown, hgr⟩ := run_app_ints12 u5 g (.slice (some ⟨g, 0, none⟩) 0 0) 0 [] OB5.out LS ld lits IL5.out HNL.out (by have := HLL.out; omega) (by have := (OB5.out.lt g rfl).2; omega)
             rw [List.nil_append, Nat.zero_add] at hown
             obtain ⟨LA, lc, rfl⟩ := own_form hown
             have BB6 := hid (BB5.out.grown hgr BB5.out.size (fun k hk => Nat.le_trans HG.out (OB5.out.lt k hk).1))
             have OV6 := hid hown
             refine wp_append_run11 _ _ 30 rfl _ u6 hrun ?_
             refine hK.out _ _ ?_ (fun hH6 => ?_)
             next =>
              exact KP.out _ BB6.out
             clear hK K
             try simp only [apt12]
             clear hrun hown hgr
             refine tkI 20 ⟨some 71, .build 32 #[(0, .tmp 54), (1, .tmp 58), (2, .tmp 62), (3, .tmp 63), (4, .tmp 70)], 32, "ref.go:44", #[⟨3, .data⟩, ⟨7, .data⟩, ⟨11, .data⟩, ⟨12, .data⟩, ⟨19, .data⟩], none⟩ ?v90 rfl (by kernel_rfl) (by rfl) ?y90 ?_
             case y90 => intro w hSw; (try dsimp only at hSw); go_simp; all_goals with_reducible rfl
             try simp only [apt12]
             refine wpAnyH_ready (rs := [21]) (by kernel_rfl) (by simp) ?_
             refine AllReadyH.cons (i := 21) (o := ⟨some 9, .alloc 32, 0, "ref.go:44", #[], none⟩) rfl (fun K hK => ?_) AllReadyH.nil
             go_simp
             obtain ⟨u7, hu⟩ : ∃ x, x = u6.alloc (.cells #[.int .i64 0, .int .i64 0, .int .i64 0, .slice none 0 0, .slice none 0 0] 32) := ⟨_, rfl⟩
             obtain ⟨bx, hg⟩ : ∃ x, x = u6.heap.size := ⟨_, rfl⟩
             have hb : Below u6.heap.size u6 u7 := by rw [hu]; exact below_alloc u6 _
             have HX9 : Hid (w4.heap.size ≤ bx) := by show _ ≤ _; rw [hg]; exact BB6.out.size
             have LB7 := hid (show Lies u7 bx 32 #[.int .i64 0, .int .i64 0, .int .i64 0, .slice none 0 0, .slice none 0 0] by rw [hu, hg]; exact Lies.new u6 _ _)
             have BB7 := hid (then_w BB6.out hb)
             have OV7 := hid (own_later OV6.out hb)
             try simp only [← hg]
             try rw [← hu]
             refine hK.out _ _ ?_ (fun hH7 => ?_)
             next =>
              exact KP.out _ BB7.out
             clear hK K
             try simp only [apt12]
             clear hb hu hg
             refine wpAnyH_ready (rs := [22]) (by kernel_rfl) (by simp) ?_
             refine AllReadyH.cons (i := 22) (o := ⟨none, .store 32 (.tmp 9) (.tmp 71), 0, "ref.go:44", #[⟨21, .data⟩, ⟨20, .data⟩, ⟨19, .chain⟩, ⟨0, .phase⟩, ⟨1, .phase⟩, ⟨2, .phase⟩, ⟨3, .phase⟩, ⟨4, .phase⟩, ⟨5, .phase⟩, ⟨6, .phase⟩, ⟨7, .phase⟩, ⟨8, .phase⟩, ⟨9, .phase⟩, ⟨10, .phase⟩, ⟨11, .phase⟩, ⟨12, .phase⟩, ⟨13, .phase⟩, ⟨14, .phase⟩, ⟨15, .phase⟩, ⟨16, .phase⟩, ⟨17, .phase⟩, ⟨18, .phase⟩, ⟨19, .phase⟩, ⟨20, .phase⟩, ⟨21, .phase⟩], none⟩) rfl (fun K hK => ?_) AllReadyH.nil
             obtain ⟨r0, r1, r2, r3, r4, f0, f1, f2, f3, f4⟩ := cells_five12 LB7.out
             have BB8 := hid (below_five12 BB7.out HX9.out (.int .i64 a0) (.int .i64 a1) (.int .i64 a2) (.slice CA cd.length cc) (.slice LA lits.length lc))
             have LF := hid (lies_five12 LB7.out (.int .i64 a0) (.int .i64 a1) (.int .i64 a2) (.slice CA cd.length cc) (.slice LA lits.length lc))
             have HFL : Hid (∀ k o s, LA = some ⟨k, o, s⟩ → w4.heap.size ≤ k) := fun k o s e => by
               have h := OV7.out
               subst e
               exact Nat.le_trans HG.out (h.lt k rfl).1
             have OF := hid (own_ints (own_five12 OV7.out LB7.out (by decide) (.int .i64 a0) (.int .i64 a1) (.int .i64 a2) (.slice CA cd.length cc) (.slice LA lits.length lc)))
             go_simp
             refine hK.out _ _ ?_ (fun hH8 => ?_)
             next =>
              exact KP.out _ BB8.out
             clear hK K
             try simp only [apt12]
             clear r0 r1 r2 r3 r4 f0 f1 f2 f3 f4
             refine wpAnyH_done (by kernel_rfl) ?_ _
             go_wp2_with fail
             go_meet
             exact ⟨bx, LA, lc, rfl, LF, OF, HFL, BB8⟩
            next =>
             go_simp
             obtain ⟨u6, hu⟩ : ∃ x, x = u5.alloc (.cells #[.int .i64 0, .int .i64 0, .int .i64 0, .slice none 0 0, .slice none 0 0] 32) := ⟨_, rfl⟩
             obtain ⟨bx, hg⟩ : ∃ x, x = u5.heap.size := ⟨_, rfl⟩
             have hb : Below u5.heap.size u5 u6 := by rw [hu]; exact below_alloc u5 _
             have HX9 : Hid (w4.heap.size ≤ bx) := by show _ ≤ _; rw [hg]; exact BB5.out.size
             have LB6 := hid (show Lies u6 bx 32 #[.int .i64 0, .int .i64 0, .int .i64 0, .slice none 0 0, .slice none 0 0] by rw [hu, hg]; exact Lies.new u5 _ _)
             have BB6 := hid (then_w BB5.out hb)
             have OB6 := hid (own_later OB5.out hb)
             have IL6 := hid (IL5.out.below hb)
             try simp only [← hg]
             try rw [← hu]
             refine hK.out _ _ ?_ (fun hH6 => ?_)
             next =>
              exact KP.out _ BB6.out
             clear hK K
             try simp only [apt12]
             clear hb hu hg
             refine wpAnyH_ready (rs := [19]) (by kernel_rfl) (by simp) ?_
             refine AllReadyH.cons (i := 19) (o := ⟨some 70, .call { callee := .builtin .append, args := #[.tmp 64, .tmp 69], argTypes := #[30, 30] }, 30, "ref.go:44", #[⟨13, .data⟩, ⟨18, .data⟩, ⟨18, .chain⟩], none⟩) rfl (fun K hK => ?_) AllReadyH.nil
             obtain ⟨va, u7, hrun, hown, hgr⟩ := run_app_ints12 u6 g (.slice (some ⟨g, 0, none⟩) 0 0) 0 [] OB6.out LS ld lits IL6.out HNL.out (by have := HLL.out; omega) (by have := (OB6.out.lt g rfl).2; omega)
             rw [List.nil_append, Nat.zero_add] at hown
             obtain ⟨LA, lc, rfl⟩ := own_form hown
             have BB7 := hid (BB6.out.grown hgr BB6.out.size (fun k hk => Nat.le_trans HG.out (OB6.out.lt k hk).1))
             have OV7 := hid hown
             have LB7 : Hid (Lies u7 bx 32 #[.int .i64 0, .int .i64 0, .int .i64 0, .slice none 0 0, .slice none 0 0]) := (hgr.block bx LB6.out.lt (fun e => own_blk_ne OB6.out LB6.out (by decide) e.symm)).trans LB6.out
             refine wp_append_run11 _ _ 30 rfl _ u7 hrun ?_
             refine hK.out _ _ ?_ (fun hH7 => ?_)
             next =>
              exact KP.out _ BB7.out
             clear hK K
             try simp only [apt12]
             clear hrun hown hgr
             refine tkI 20 ⟨some 71, .build 32 #[(0, .tmp 54), (1, .tmp 58), (2, .tmp 62), (3, .tmp 63), (4, .tmp 70)], 32, "ref.go:44", #[⟨3, .data⟩, ⟨7, .data⟩, ⟨11, .data⟩, ⟨12, .data⟩, ⟨19, .data⟩], none⟩ ?v91 rfl (by kernel_rfl) (by rfl) ?y91 ?_
             case y91 => intro w hSw; (try dsimp only at hSw); go_simp; all_goals with_reducible rfl
             try simp only [apt12]
             refine wpAnyH_ready (rs := [22]) (by kernel_rfl) (by simp) ?_
             refine AllReadyH.cons (i := 22) (o := ⟨none, .store 32 (.tmp 9) (.tmp 71), 0, "ref.go:44", #[⟨21, .data⟩, ⟨20, .data⟩, ⟨19, .chain⟩, ⟨0, .phase⟩, ⟨1, .phase⟩, ⟨2, .phase⟩, ⟨3, .phase⟩, ⟨4, .phase⟩, ⟨5, .phase⟩, ⟨6, .phase⟩, ⟨7, .phase⟩, ⟨8, .phase⟩, ⟨9, .phase⟩, ⟨10, .phase⟩, ⟨11, .phase⟩, ⟨12, .phase⟩, ⟨13, .phase⟩, ⟨14, .phase⟩, ⟨15, .phase⟩, ⟨16, .phase⟩, ⟨17, .phase⟩, ⟨18, .phase⟩, ⟨19, .phase⟩, ⟨20, .phase⟩, ⟨21, .phase⟩], none⟩) rfl (fun K hK => ?_) AllReadyH.nil
             obtain ⟨r0, r1, r2, r3, r4, f0, f1, f2, f3, f4⟩ := cells_five12 LB7.out
             have BB8 := hid (below_five12 BB7.out HX9.out (.int .i64 a0) (.int .i64 a1) (.int .i64 a2) (.slice CA cd.length cc) (.slice LA lits.length lc))
             have LF := hid (lies_five12 LB7.out (.int .i64 a0) (.int .i64 a1) (.int .i64 a2) (.slice CA cd.length cc) (.slice LA lits.length lc))
             have HFL : Hid (∀ k o s, LA = some ⟨k, o, s⟩ → w4.heap.size ≤ k) := fun k o s e => by
               have h := OV7.out
               subst e
               exact Nat.le_trans HG.out (h.lt k rfl).1
             have OF := hid (own_ints (own_five12 OV7.out LB7.out (by decide) (.int .i64 a0) (.int .i64 a1) (.int .i64 a2) (.slice CA cd.length cc) (.slice LA lits.length lc)))
             go_simp
             refine hK.out _ _ ?_ (fun hH8 => ?_)
             next =>
              exact KP.out _ BB8.out
             clear hK K
             try simp only [apt12]
             clear r0 r1 r2 r3 r4 f0 f1 f2 f3 f4
             refine wpAnyH_done (by kernel_rfl) ?_ _
             go_wp2_with fail
             go_meet
             exact ⟨bx, LA, lc, rfl, LF, OF, HFL, BB8⟩
           next =>
            go_simp
            obtain ⟨u5, hu⟩ : ∃ x, x = u1.alloc (.cells #[.int .i64 0, .int .i64 0, .int .i64 0, .slice none 0 0, .slice none 0 0] 32) := ⟨_, rfl⟩
            obtain ⟨bx, hg⟩ : ∃ x, x = u1.heap.size := ⟨_, rfl⟩
            have hb : Below u1.heap.size u1 u5 := by rw [hu]; exact below_alloc u1 _
            have HX9 : Hid (w4.heap.size ≤ bx) := by show _ ≤ _; rw [hg]; exact BB1.out.size
            have LB5 := hid (show Lies u5 bx 32 #[.int .i64 0, .int .i64 0, .int .i64 0, .slice none 0 0, .slice none 0 0] by rw [hu, hg]; exact Lies.new u1 _ _)
            have BB5 := hid (then_w BB1.out hb)
            have OB5 := hid (own_later OB1.out hb)
            try simp only [← hg]
            try rw [← hu]
            refine hK.out _ _ ?_ (fun hH5 => ?_)
            next =>
             exact KP.out _ BB5.out
            clear hK K
            try simp only [apt12]
            clear hb hu hg
            refine wpAnyH_ready (rs := [18]) (by kernel_rfl) (by simp) ?_
            refine AllReadyH.cons (i := 18) (o := ⟨some 69, .call { callee := .value (.func 31), args := #[.tmp 65, .tmp 68], argTypes := #[24, 3] }, 30, "ref.go:44", #[⟨14, .data⟩, ⟨17, .data⟩, ⟨11, .chain⟩], none⟩) rfl (fun K hK => ?_) AllReadyH.nil
            go_simp
            go_at_call 31
            refine (rslots_any12 h v4 _ c _ (HS.out.below (then_w HB4.out BB5.out))).mono ?_
            rintro e u6 ⟨LS, ld, rfl, hin, hnil, hb⟩
            rw [← HLT.out] at hin ⊢
            have IL6 := hid hin
            have HNL := hid hnil
            have BB6 := hid (then_w BB5.out hb)
            have OB6 := hid (own_later OB5.out hb)
            have LB6 := hid (LB5.out.later hb)
            refine hK.out _ _ ?_ (fun hH6 => ?_)
            next =>
             exact KP.out _ BB6.out
            clear hK K
            try simp only [apt12]
            clear hb hin hnil
            refine wpAnyH_ready (rs := [19]) (by kernel_rfl) (by simp) ?_
            refine AllReadyH.cons (i := 19) (o := ⟨some 70, .call { callee := .builtin .append, args := #[.tmp 64, .tmp 69], argTypes := #[30, 30] }, 30, "ref.go:44", #[⟨13, .data⟩, ⟨18, .data⟩, ⟨18, .chain⟩], none⟩) rfl (fun K hK => ?_) AllReadyH.nil
            obtain ⟨va, u7, hrun, hown, hgr⟩ := run_app_ints12 u6 g (.slice (some ⟨g, 0, none⟩) 0 0) 0 [] OB6.out LS ld lits IL6.out HNL.out (by have := HLL.out; omega) (by have := (OB6.out.lt g rfl).2; omega)
            rw [List.nil_append, Nat.zero_add] at hown
            obtain ⟨LA, lc, rfl⟩ := own_form hown
            have BB7 := hid (BB6.out.grown hgr BB6.out.size (fun k hk => Nat.le_trans HG.out (OB6.out.lt k hk).1))
            have OV7 := hid hown
            have LB7 : Hid (Lies u7 bx 32 #[.int .i64 0, .int .i64 0, .int .i64 0, .slice none 0 0, .slice none 0 0]) := (hgr.block bx LB6.out.lt (fun e => own_blk_ne OB6.out LB6.out (by decide) e.symm)).trans LB6.out
            refine wp_append_run11 _ _ 30 rfl _ u7 hrun ?_
            refine hK.out _ _ ?_ (fun hH7 => ?_)
            next =>
             exact KP.out _ BB7.out
            clear hK K
            try simp only [apt12]
            clear hrun hown hgr
            refine tkI 20 ⟨some 71, .build 32 #[(0, .tmp 54), (1, .tmp 58), (2, .tmp 62), (3, .tmp 63), (4, .tmp 70)], 32, "ref.go:44", #[⟨3, .data⟩, ⟨7, .data⟩, ⟨11, .data⟩, ⟨12, .data⟩, ⟨19, .data⟩], none⟩ ?v92 rfl (by kernel_rfl) (by rfl) ?y92 ?_
            case y92 => intro w hSw; (try dsimp only at hSw); go_simp; all_goals with_reducible rfl
            try simp only [apt12]
            refine wpAnyH_ready (rs := [22]) (by kernel_rfl) (by simp) ?_
            refine AllReadyH.cons (i := 22) (o := ⟨none, .store 32 (.tmp 9) (.tmp 71), 0, "ref.go:44", #[⟨21, .data⟩, ⟨20, .data⟩, ⟨19, .chain⟩, ⟨0, .phase⟩, ⟨1, .phase⟩, ⟨2, .phase⟩, ⟨3, .phase⟩, ⟨4, .phase⟩, ⟨5, .phase⟩, ⟨6, .phase⟩, ⟨7, .phase⟩, ⟨8, .phase⟩, ⟨9, .phase⟩, ⟨10, .phase⟩, ⟨11, .phase⟩, ⟨12, .phase⟩, ⟨13, .phase⟩, ⟨14, .phase⟩, ⟨15, .phase⟩, ⟨16, .phase⟩, ⟨17, .phase⟩, ⟨18, .phase⟩, ⟨19, .phase⟩, ⟨20, .phase⟩, ⟨21, .phase⟩], none⟩) rfl (fun K hK => ?_) AllReadyH.nil
            obtain ⟨r0, r1, r2, r3, r4, f0, f1, f2, f3, f4⟩ := cells_five12 LB7.out
            have BB8 := hid (below_five12 BB7.out HX9.out (.int .i64 a0) (.int .i64 a1) (.int .i64 a2) (.slice CA cd.length cc) (.slice LA lits.length lc))
            have LF := hid (lies_five12 LB7.out (.int .i64 a0) (.int .i64 a1) (.int .i64 a2) (.slice CA cd.length cc) (.slice LA lits.length lc))
            have HFL : Hid (∀ k o s, LA = some ⟨k, o, s⟩ → w4.heap.size ≤ k) := fun k o s e => by
              have h := OV7.out
              subst e
              exact Nat.le_trans HG.out (h.lt k rfl).1
            have OF := hid (own_ints (own_five12 OV7.out LB7.out (by decide) (.int .i64 a0) (.int .i64 a1) (.int .i64 a2) (.slice CA cd.length cc) (.slice LA lits.length lc)))
            go_simp
            refine hK.out _ _ ?_ (fun hH8 => ?_)
            next =>
             exact KP.out _ BB8.out
            clear hK K
            try simp only [apt12]
            clear r0 r1 r2 r3 r4 f0 f1 f2 f3 f4
            refine wpAnyH_done (by kernel_rfl) ?_ _
            go_wp2_with fail
            go_meet
            exact ⟨bx, LA, lc, rfl, LF, OF, HFL, BB8⟩
          next =>
           go_simp
           obtain ⟨u4, hu⟩ : ∃ x, x = u1.alloc (.cells #[.int .i64 0, .int .i64 0, .int .i64 0, .slice none 0 0, .slice none 0 0] 32) := ⟨_, rfl⟩
           obtain ⟨bx, hg⟩ : ∃ x, x = u1.heap.size := ⟨_, rfl⟩
           have hb : Below u1.heap.size u1 u4 := by rw [hu]; exact below_alloc u1 _
           have HX9 : Hid (w4.heap.size ≤ bx) := by show _ ≤ _; rw [hg]; exact BB1.out.size
           have LB4 := hid (show Lies u4 bx 32 #[.int .i64 0, .int .i64 0, .int .i64 0, .slice none 0 0, .slice none 0 0] by rw [hu, hg]; exact Lies.new u1 _ _)
           have BB4 := hid (then_w BB1.out hb)
           have OB4 := hid (own_later OB1.out hb)
           try simp only [← hg]
           try rw [← hu]
           refine hK.out _ _ ?_ (fun hH4 => ?_)
           next =>
            exact KP.out _ BB4.out
           clear hK K
           try simp only [apt12]
           clear hb hu hg
           refine wpAnyH_ready (rs := [11]) (by kernel_rfl) (by simp) ?_
           refine AllReadyH.cons (i := 11) (o := ⟨some 62, .call { callee := .value (.func 41), args := #[.tmp 61, .const (Go.Value.int .i64 8)], argTypes := #[3, 3] }, 3, "ref.go:44", #[⟨10, .data⟩, ⟨7, .chain⟩], none⟩) rfl (fun K hK => ?_) AllReadyH.nil
           go_simp
           go_at_call 41
           refine (rsmall_any12 v2 8 _).mono ?_
           rintro e u5 ⟨rfl, hu⟩
           subst hu
           rw [← A2.out]
           refine hK.out _ _ ?_ (fun hH5 => ?_)
           next =>
            exact hH4
           clear hK K
           try simp only [apt12]
           refine wpAnyH_ready (rs := [18]) (by kernel_rfl) (by simp) ?_
           refine AllReadyH.cons (i := 18) (o := ⟨some 69, .call { callee := .value (.func 31), args := #[.tmp 65, .tmp 68], argTypes := #[24, 3] }, 30, "ref.go:44", #[⟨14, .data⟩, ⟨17, .data⟩, ⟨11, .chain⟩], none⟩) rfl (fun K hK => ?_) AllReadyH.nil
           go_simp
           go_at_call 31
           refine (rslots_any12 h v4 _ c _ (HS.out.below (then_w HB4.out BB4.out))).mono ?_
           rintro e u6 ⟨LS, ld, rfl, hin, hnil, hb⟩
           rw [← HLT.out] at hin ⊢
           have IL6 := hid hin
           have HNL := hid hnil
           have BB6 := hid (then_w BB4.out hb)
           have OB6 := hid (own_later OB4.out hb)
           have LB6 := hid (LB4.out.later hb)
           refine hK.out _ _ ?_ (fun hH6 => ?_)
           next =>
            exact KP.out _ BB6.out
           clear hK K
           try simp only [apt12]
           clear hb hin hnil
           refine wpAnyH_ready (rs := [19]) (by kernel_rfl) (by simp) ?_
           refine AllReadyH.cons (i := 19) (o := ⟨some 70, .call { callee := .builtin .append, args := #[.tmp 64, .tmp 69], argTypes := #[30, 30] }, 30, "ref.go:44", #[⟨13, .data⟩, ⟨18, .data⟩, ⟨18, .chain⟩], none⟩) rfl (fun K hK => ?_) AllReadyH.nil
           obtain ⟨va, u7, hrun, hown, hgr⟩ := run_app_ints12 u6 g (.slice (some ⟨g, 0, none⟩) 0 0) 0 [] OB6.out LS ld lits IL6.out HNL.out (by have := HLL.out; omega) (by have := (OB6.out.lt g rfl).2; omega)
           rw [List.nil_append, Nat.zero_add] at hown
           obtain ⟨LA, lc, rfl⟩ := own_form hown
           have BB7 := hid (BB6.out.grown hgr BB6.out.size (fun k hk => Nat.le_trans HG.out (OB6.out.lt k hk).1))
           have OV7 := hid hown
           have LB7 : Hid (Lies u7 bx 32 #[.int .i64 0, .int .i64 0, .int .i64 0, .slice none 0 0, .slice none 0 0]) := (hgr.block bx LB6.out.lt (fun e => own_blk_ne OB6.out LB6.out (by decide) e.symm)).trans LB6.out
           refine wp_append_run11 _ _ 30 rfl _ u7 hrun ?_
           refine hK.out _ _ ?_ (fun hH7 => ?_)
           next =>
            exact KP.out _ BB7.out
           clear hK K
           try simp only [apt12]
           clear hrun hown hgr
           refine tkI 20 ⟨some 71, .build 32 #[(0, .tmp 54), (1, .tmp 58), (2, .tmp 62), (3, .tmp 63), (4, .tmp 70)], 32, "ref.go:44", #[⟨3, .data⟩, ⟨7, .data⟩, ⟨11, .data⟩, ⟨12, .data⟩, ⟨19, .data⟩], none⟩ ?v93 rfl (by kernel_rfl) (by rfl) ?y93 ?_
           case y93 => intro w hSw; (try dsimp only at hSw); go_simp; all_goals with_reducible rfl
           try simp only [apt12]
           refine wpAnyH_ready (rs := [22]) (by kernel_rfl) (by simp) ?_
           refine AllReadyH.cons (i := 22) (o := ⟨none, .store 32 (.tmp 9) (.tmp 71), 0, "ref.go:44", #[⟨21, .data⟩, ⟨20, .data⟩, ⟨19, .chain⟩, ⟨0, .phase⟩, ⟨1, .phase⟩, ⟨2, .phase⟩, ⟨3, .phase⟩, ⟨4, .phase⟩, ⟨5, .phase⟩, ⟨6, .phase⟩, ⟨7, .phase⟩, ⟨8, .phase⟩, ⟨9, .phase⟩, ⟨10, .phase⟩, ⟨11, .phase⟩, ⟨12, .phase⟩, ⟨13, .phase⟩, ⟨14, .phase⟩, ⟨15, .phase⟩, ⟨16, .phase⟩, ⟨17, .phase⟩, ⟨18, .phase⟩, ⟨19, .phase⟩, ⟨20, .phase⟩, ⟨21, .phase⟩], none⟩) rfl (fun K hK => ?_) AllReadyH.nil
           obtain ⟨r0, r1, r2, r3, r4, f0, f1, f2, f3, f4⟩ := cells_five12 LB7.out
           have BB8 := hid (below_five12 BB7.out HX9.out (.int .i64 a0) (.int .i64 a1) (.int .i64 a2) (.slice CA cd.length cc) (.slice LA lits.length lc))
           have LF := hid (lies_five12 LB7.out (.int .i64 a0) (.int .i64 a1) (.int .i64 a2) (.slice CA cd.length cc) (.slice LA lits.length lc))
           have HFL : Hid (∀ k o s, LA = some ⟨k, o, s⟩ → w4.heap.size ≤ k) := fun k o s e => by
             have h := OV7.out
             subst e
             exact Nat.le_trans HG.out (h.lt k rfl).1
           have OF := hid (own_ints (own_five12 OV7.out LB7.out (by decide) (.int .i64 a0) (.int .i64 a1) (.int .i64 a2) (.slice CA cd.length cc) (.slice LA lits.length lc)))
           go_simp
           refine hK.out _ _ ?_ (fun hH8 => ?_)
           next =>
            exact KP.out _ BB8.out
           clear hK K
           try simp only [apt12]
           clear r0 r1 r2 r3 r4 f0 f1 f2 f3 f4
           refine wpAnyH_done (by kernel_rfl) ?_ _
           go_wp2_with fail
           go_meet
           exact ⟨bx, LA, lc, rfl, LF, OF, HFL, BB8⟩
         next =>
          go_simp
          obtain ⟨u3, hu⟩ : ∃ x, x = u1.alloc (.cells #[.int .i64 0, .int .i64 0, .int .i64 0, .slice none 0 0, .slice none 0 0] 32) := ⟨_, rfl⟩
          obtain ⟨bx, hg⟩ : ∃ x, x = u1.heap.size := ⟨_, rfl⟩
          have hb : Below u1.heap.size u1 u3 := by rw [hu]; exact below_alloc u1 _
          have HX9 : Hid (w4.heap.size ≤ bx) := by show _ ≤ _; rw [hg]; exact BB1.out.size
          have LB3 := hid (show Lies u3 bx 32 #[.int .i64 0, .int .i64 0, .int .i64 0, .slice none 0 0, .slice none 0 0] by rw [hu, hg]; exact Lies.new u1 _ _)
          have BB3 := hid (then_w BB1.out hb)
          have OB3 := hid (own_later OB1.out hb)
          try simp only [← hg]
          try rw [← hu]
          refine hK.out _ _ ?_ (fun hH3 => ?_)
          next =>
           exact KP.out _ BB3.out
          clear hK K
          try simp only [apt12]
          clear hb hu hg
          refine wpAnyH_ready (rs := [7]) (by kernel_rfl) (by simp) ?_
          refine AllReadyH.cons (i := 7) (o := ⟨some 58, .call { callee := .value (.func 41), args := #[.tmp 57, .const (Go.Value.int .i64 4)], argTypes := #[3, 3] }, 3, "ref.go:44", #[⟨6, .data⟩, ⟨3, .chain⟩], none⟩) rfl (fun K hK => ?_) AllReadyH.nil
          go_simp
          go_at_call 41
          refine (rsmall_any12 v1 4 _).mono ?_
          rintro e u4 ⟨rfl, hu⟩
          subst hu
          rw [← A1.out]
          refine hK.out _ _ ?_ (fun hH4 => ?_)
          next =>
           exact hH3
          clear hK K
          try simp only [apt12]
          refine wpAnyH_ready (rs := [11]) (by kernel_rfl) (by simp) ?_
          refine AllReadyH.cons (i := 11) (o := ⟨some 62, .call { callee := .value (.func 41), args := #[.tmp 61, .const (Go.Value.int .i64 8)], argTypes := #[3, 3] }, 3, "ref.go:44", #[⟨10, .data⟩, ⟨7, .chain⟩], none⟩) rfl (fun K hK => ?_) AllReadyH.nil
          go_simp
          go_at_call 41
          refine (rsmall_any12 v2 8 _).mono ?_
          rintro e u5 ⟨rfl, hu⟩
          subst hu
          rw [← A2.out]
          refine hK.out _ _ ?_ (fun hH5 => ?_)
          next =>
           exact hH4
          clear hK K
          try simp only [apt12]
          refine wpAnyH_ready (rs := [18]) (by kernel_rfl) (by simp) ?_
          refine AllReadyH.cons (i := 18) (o := ⟨some 69, .call { callee := .value (.func 31), args := #[.tmp 65, .tmp 68], argTypes := #[24, 3] }, 30, "ref.go:44", #[⟨14, .data⟩, ⟨17, .data⟩, ⟨11, .chain⟩], none⟩) rfl (fun K hK => ?_) AllReadyH.nil
          go_simp
          go_at_call 31
          refine (rslots_any12 h v4 _ c _ (HS.out.below (then_w HB4.out BB3.out))).mono ?_
          rintro e u6 ⟨LS, ld, rfl, hin, hnil, hb⟩
          rw [← HLT.out] at hin ⊢
          have IL6 := hid hin
          have HNL := hid hnil
          have BB6 := hid (then_w BB3.out hb)
          have OB6 := hid (own_later OB3.out hb)
          have LB6 := hid (LB3.out.later hb)
          refine hK.out _ _ ?_ (fun hH6 => ?_)
          next =>
           exact KP.out _ BB6.out
          clear hK K
          try simp only [apt12]
          clear hb hin hnil
          refine wpAnyH_ready (rs := [19]) (by kernel_rfl) (by simp) ?_
          refine AllReadyH.cons (i := 19) (o := ⟨some 70, .call { callee := .builtin .append, args := #[.tmp 64, .tmp 69], argTypes := #[30, 30] }, 30, "ref.go:44", #[⟨13, .data⟩, ⟨18, .data⟩, ⟨18, .chain⟩], none⟩) rfl (fun K hK => ?_) AllReadyH.nil
          obtain ⟨va, u7, hrun, hown, hgr⟩ := run_app_ints12 u6 g (.slice (some ⟨g, 0, none⟩) 0 0) 0 [] OB6.out LS ld lits IL6.out HNL.out (by have := HLL.out; omega) (by have := (OB6.out.lt g rfl).2; omega)
          rw [List.nil_append, Nat.zero_add] at hown
          obtain ⟨LA, lc, rfl⟩ := own_form hown
          have BB7 := hid (BB6.out.grown hgr BB6.out.size (fun k hk => Nat.le_trans HG.out (OB6.out.lt k hk).1))
          have OV7 := hid hown
          have LB7 : Hid (Lies u7 bx 32 #[.int .i64 0, .int .i64 0, .int .i64 0, .slice none 0 0, .slice none 0 0]) := (hgr.block bx LB6.out.lt (fun e => own_blk_ne OB6.out LB6.out (by decide) e.symm)).trans LB6.out
          refine wp_append_run11 _ _ 30 rfl _ u7 hrun ?_
          refine hK.out _ _ ?_ (fun hH7 => ?_)
          next =>
           exact KP.out _ BB7.out
          clear hK K
          try simp only [apt12]
          clear hrun hown hgr
          refine tkI 20 ⟨some 71, .build 32 #[(0, .tmp 54), (1, .tmp 58), (2, .tmp 62), (3, .tmp 63), (4, .tmp 70)], 32, "ref.go:44", #[⟨3, .data⟩, ⟨7, .data⟩, ⟨11, .data⟩, ⟨12, .data⟩, ⟨19, .data⟩], none⟩ ?v94 rfl (by kernel_rfl) (by rfl) ?y94 ?_
          case y94 => intro w hSw; (try dsimp only at hSw); go_simp; all_goals with_reducible rfl
          try simp only [apt12]
          refine wpAnyH_ready (rs := [22]) (by kernel_rfl) (by simp) ?_
          refine AllReadyH.cons (i := 22) (o := ⟨none, .store 32 (.tmp 9) (.tmp 71), 0, "ref.go:44", #[⟨21, .data⟩, ⟨20, .data⟩, ⟨19, .chain⟩, ⟨0, .phase⟩, ⟨1, .phase⟩, ⟨2, .phase⟩, ⟨3, .phase⟩, ⟨4, .phase⟩, ⟨5, .phase⟩, ⟨6, .phase⟩, ⟨7, .phase⟩, ⟨8, .phase⟩, ⟨9, .phase⟩, ⟨10, .phase⟩, ⟨11, .phase⟩, ⟨12, .phase⟩, ⟨13, .phase⟩, ⟨14, .phase⟩, ⟨15, .phase⟩, ⟨16, .phase⟩, ⟨17, .phase⟩, ⟨18, .phase⟩, ⟨19, .phase⟩, ⟨20, .phase⟩, ⟨21, .phase⟩], none⟩) rfl (fun K hK => ?_) AllReadyH.nil
          obtain ⟨r0, r1, r2, r3, r4, f0, f1, f2, f3, f4⟩ := cells_five12 LB7.out
          have BB8 := hid (below_five12 BB7.out HX9.out (.int .i64 a0) (.int .i64 a1) (.int .i64 a2) (.slice CA cd.length cc) (.slice LA lits.length lc))
          have LF := hid (lies_five12 LB7.out (.int .i64 a0) (.int .i64 a1) (.int .i64 a2) (.slice CA cd.length cc) (.slice LA lits.length lc))
          have HFL : Hid (∀ k o s, LA = some ⟨k, o, s⟩ → w4.heap.size ≤ k) := fun k o s e => by
            have h := OV7.out
            subst e
            exact Nat.le_trans HG.out (h.lt k rfl).1
          have OF := hid (own_ints (own_five12 OV7.out LB7.out (by decide) (.int .i64 a0) (.int .i64 a1) (.int .i64 a2) (.slice CA cd.length cc) (.slice LA lits.length lc)))
          go_simp
          refine hK.out _ _ ?_ (fun hH8 => ?_)
          next =>
           exact KP.out _ BB8.out
          clear hK K
          try simp only [apt12]
          clear r0 r1 r2 r3 r4 f0 f1 f2 f3 f4
          refine wpAnyH_done (by kernel_rfl) ?_ _
          go_wp2_with fail
          go_meet
          exact ⟨bx, LA, lc, rfl, LF, OF, HFL, BB8⟩
        next =>
         go_simp
         obtain ⟨u2, hu⟩ : ∃ x, x = u1.alloc (.cells #[.int .i64 0, .int .i64 0, .int .i64 0, .slice none 0 0, .slice none 0 0] 32) := ⟨_, rfl⟩
         obtain ⟨bx, hg⟩ : ∃ x, x = u1.heap.size := ⟨_, rfl⟩
         have hb : Below u1.heap.size u1 u2 := by rw [hu]; exact below_alloc u1 _
         have HX9 : Hid (w4.heap.size ≤ bx) := by show _ ≤ _; rw [hg]; exact BB1.out.size
         have LB2 := hid (show Lies u2 bx 32 #[.int .i64 0, .int .i64 0, .int .i64 0, .slice none 0 0, .slice none 0 0] by rw [hu, hg]; exact Lies.new u1 _ _)
         have BB2 := hid (then_w BB1.out hb)
         have OB2 := hid (own_later OB1.out hb)
         try simp only [← hg]
         try rw [← hu]
         refine hK.out _ _ ?_ (fun hH2 => ?_)
         next =>
          exact KP.out _ BB2.out
         clear hK K
         try simp only [apt12]
         clear hb hu hg
         refine wpAnyH_ready (rs := [3]) (by kernel_rfl) (by simp) ?_
         refine AllReadyH.cons (i := 3) (o := ⟨some 54, .call { callee := .value (.func 41), args := #[.tmp 53, .const (Go.Value.int .i64 63)], argTypes := #[3, 3] }, 3, "ref.go:44", #[⟨2, .data⟩], none⟩) rfl (fun K hK => ?_) AllReadyH.nil
         go_simp
         go_at_call 41
         refine (rsmall_any12 v0 63 _).mono ?_
         rintro e u3 ⟨rfl, hu⟩
         subst hu
         rw [← A0.out]
         refine hK.out _ _ ?_ (fun hH3 => ?_)
         next =>
          exact hH2
         clear hK K
         try simp only [apt12]
         refine wpAnyH_ready (rs := [7]) (by kernel_rfl) (by simp) ?_
         refine AllReadyH.cons (i := 7) (o := ⟨some 58, .call { callee := .value (.func 41), args := #[.tmp 57, .const (Go.Value.int .i64 4)], argTypes := #[3, 3] }, 3, "ref.go:44", #[⟨6, .data⟩, ⟨3, .chain⟩], none⟩) rfl (fun K hK => ?_) AllReadyH.nil
         go_simp
         go_at_call 41
         refine (rsmall_any12 v1 4 _).mono ?_
         rintro e u4 ⟨rfl, hu⟩
         subst hu
         rw [← A1.out]
         refine hK.out _ _ ?_ (fun hH4 => ?_)
         next =>
          exact hH3
         clear hK K
         try simp only [apt12]
         refine wpAnyH_ready (rs := [11]) (by kernel_rfl) (by simp) ?_
         refine AllReadyH.cons (i := 11) (o := ⟨some 62, .call { callee := .value (.func 41), args := #[.tmp 61, .const (Go.Value.int .i64 8)], argTypes := #[3, 3] }, 3, "ref.go:44", #[⟨10, .data⟩, ⟨7, .chain⟩], none⟩) rfl (fun K hK => ?_) AllReadyH.nil
         go_simp
         go_at_call 41
         refine (rsmall_any12 v2 8 _).mono ?_
         rintro e u5 ⟨rfl, hu⟩
         subst hu
         rw [← A2.out]
         refine hK.out _ _ ?_ (fun hH5 => ?_)
         next =>
          exact hH4
         clear hK K
         try simp only [apt12]
         refine wpAnyH_ready (rs := [18]) (by kernel_rfl) (by simp) ?_
         refine AllReadyH.cons (i := 18) (o := ⟨some 69, .call { callee := .value (.func 31), args := #[.tmp 65, .tmp 68], argTypes := #[24, 3] }, 30, "ref.go:44", #[⟨14, .data⟩, ⟨17, .data⟩, ⟨11, .chain⟩], none⟩) rfl (fun K hK => ?_) AllReadyH.nil
         go_simp
         go_at_call 31
         refine (rslots_any12 h v4 _ c _ (HS.out.below (then_w HB4.out BB2.out))).mono ?_
         rintro e u6 ⟨LS, ld, rfl, hin, hnil, hb⟩
         rw [← HLT.out] at hin ⊢
         have IL6 := hid hin
         have HNL := hid hnil
         have BB6 := hid (then_w BB2.out hb)
         have OB6 := hid (own_later OB2.out hb)
         have LB6 := hid (LB2.out.later hb)
         refine hK.out _ _ ?_ (fun hH6 => ?_)
         next =>
          exact KP.out _ BB6.out
         clear hK K
         try simp only [apt12]
         clear hb hin hnil
         refine wpAnyH_ready (rs := [19]) (by kernel_rfl) (by simp) ?_
         refine AllReadyH.cons (i := 19) (o := ⟨some 70, .call { callee := .builtin .append, args := #[.tmp 64, .tmp 69], argTypes := #[30, 30] }, 30, "ref.go:44", #[⟨13, .data⟩, ⟨18, .data⟩, ⟨18, .chain⟩], none⟩) rfl (fun K hK => ?_) AllReadyH.nil
         obtain ⟨va, u7, hrun, hown, hgr⟩ := run_app_ints12 u6 g (.slice (some ⟨g, 0, none⟩) 0 0) 0 [] OB6.out LS ld lits IL6.out HNL.out (by have := HLL.out; omega) (by have := (OB6.out.lt g rfl).2; omega)
         rw [List.nil_append, Nat.zero_add] at hown
         obtain ⟨LA, lc, rfl⟩ := own_form hown
         have BB7 := hid (BB6.out.grown hgr BB6.out.size (fun k hk => Nat.le_trans HG.out (OB6.out.lt k hk).1))
         have OV7 := hid hown
         have LB7 : Hid (Lies u7 bx 32 #[.int .i64 0, .int .i64 0, .int .i64 0, .slice none 0 0, .slice none 0 0]) := (hgr.block bx LB6.out.lt (fun e => own_blk_ne OB6.out LB6.out (by decide) e.symm)).trans LB6.out
         refine wp_append_run11 _ _ 30 rfl _ u7 hrun ?_
         refine hK.out _ _ ?_ (fun hH7 => ?_)
         next =>
          exact KP.out _ BB7.out
         clear hK K
         try simp only [apt12]
         clear hrun hown hgr
         refine tkI 20 ⟨some 71, .build 32 #[(0, .tmp 54), (1, .tmp 58), (2, .tmp 62), (3, .tmp 63), (4, .tmp 70)], 32, "ref.go:44", #[⟨3, .data⟩, ⟨7, .data⟩, ⟨11, .data⟩, ⟨12, .data⟩, ⟨19, .data⟩], none⟩ ?v95 rfl (by kernel_rfl) (by rfl) ?y95 ?_
         case y95 => intro w hSw; (try dsimp only at hSw); go_simp; all_goals with_reducible rfl
         try simp only [apt12]
         refine wpAnyH_ready (rs := [22]) (by kernel_rfl) (by simp) ?_
         refine AllReadyH.cons (i := 22) (o := ⟨none, .store 32 (.tmp 9) (.tmp 71), 0, "ref.go:44", #[⟨21, .data⟩, ⟨20, .data⟩, ⟨19, .chain⟩, ⟨0, .phase⟩, ⟨1, .phase⟩, ⟨2, .phase⟩, ⟨3, .phase⟩, ⟨4, .phase⟩, ⟨5, .phase⟩, ⟨6, .phase⟩, ⟨7, .phase⟩, ⟨8, .phase⟩, ⟨9, .phase⟩, ⟨10, .phase⟩, ⟨11, .phase⟩, ⟨12, .phase⟩, ⟨13, .phase⟩, ⟨14, .phase⟩, ⟨15, .phase⟩, ⟨16, .phase⟩, ⟨17, .phase⟩, ⟨18, .phase⟩, ⟨19, .phase⟩, ⟨20, .phase⟩, ⟨21, .phase⟩], none⟩) rfl (fun K hK => ?_) AllReadyH.nil
         obtain ⟨r0, r1, r2, r3, r4, f0, f1, f2, f3, f4⟩ := cells_five12 LB7.out
         have BB8 := hid (below_five12 BB7.out HX9.out (.int .i64 a0) (.int .i64 a1) (.int .i64 a2) (.slice CA cd.length cc) (.slice LA lits.length lc))
         have LF := hid (lies_five12 LB7.out (.int .i64 a0) (.int .i64 a1) (.int .i64 a2) (.slice CA cd.length cc) (.slice LA lits.length lc))
         have HFL : Hid (∀ k o s, LA = some ⟨k, o, s⟩ → w4.heap.size ≤ k) := fun k o s e => by
           have h := OV7.out
           subst e
           exact Nat.le_trans HG.out (h.lt k rfl).1
         have OF := hid (own_ints (own_five12 OV7.out LB7.out (by decide) (.int .i64 a0) (.int .i64 a1) (.int .i64 a2) (.slice CA cd.length cc) (.slice LA lits.length lc)))
         go_simp
         refine hK.out _ _ ?_ (fun hH8 => ?_)
         next =>
          exact KP.out _ BB8.out
         clear hK K
         try simp only [apt12]
         clear r0 r1 r2 r3 r4 f0 f1 f2 f3 f4
         refine wpAnyH_done (by kernel_rfl) ?_ _
         go_wp2_with fail
         go_meet
         exact ⟨bx, LA, lc, rfl, LF, OF, HFL, BB8⟩
       next =>
        go_simp
        obtain ⟨u1, hu⟩ : ∃ x, x = (w4.alloc (.cells #[.int .i64 0, .int .i64 0, .int .i64 0, .slice none 0 0, .slice none 0 0] 32)).drew := ⟨_, rfl⟩
        obtain ⟨bx, hg⟩ : ∃ x, x = w4.heap.size := ⟨_, rfl⟩
        have hb : Below w4.drew.heap.size w4.drew u1 := by rw [hu]; exact below_alloc w4.drew _
        have HX9 : Hid (w4.heap.size ≤ bx) := by show _ ≤ _; rw [hg]; exact BB0.out.size
        have LB1 := hid (show Lies u1 bx 32 #[.int .i64 0, .int .i64 0, .int .i64 0, .slice none 0 0, .slice none 0 0] by rw [hu, hg]; exact Lies.new w4.drew _ _)
        have BB1 := hid (then_w BB0.out hb)
        try simp only [← hg]
        try rw [← hu]
        refine hK.out _ _ ?_ (fun hH1 => ?_)
        next =>
         exact KP.out _ BB1.out
        clear hK K
        try simp only [apt12]
        clear hb hu hg
        refine wpAnyH_ready (rs := [3, 13]) (by kernel_rfl) (by simp) ?_
        refine AllReadyH.cons (i := 3) (o := ⟨some 54, .call { callee := .value (.func 41), args := #[.tmp 53, .const (Go.Value.int .i64 63)], argTypes := #[3, 3] }, 3, "ref.go:44", #[⟨2, .data⟩], none⟩) rfl (fun K hK => ?_) (AllReadyH.cons (i := 13) (o := ⟨some 64, .buildSlice 30 0 #[], 30, "ref.go:44", #[], none⟩) rfl (fun K hK => ?_) AllReadyH.nil)
        next =>
         go_simp
         go_at_call 41
         refine (rsmall_any12 v0 63 _).mono ?_
         rintro e u2 ⟨rfl, hu⟩
         subst hu
         rw [← A0.out]
         refine hK.out _ _ ?_ (fun hH2 => ?_)
         next =>
          exact hH1
         clear hK K
         try simp only [apt12]
         refine wpAnyH_ready (rs := [7, 13]) (by kernel_rfl) (by simp) ?_
         refine AllReadyH.cons (i := 7) (o := ⟨some 58, .call { callee := .value (.func 41), args := #[.tmp 57, .const (Go.Value.int .i64 4)], argTypes := #[3, 3] }, 3, "ref.go:44", #[⟨6, .data⟩, ⟨3, .chain⟩], none⟩) rfl (fun K hK => ?_) (AllReadyH.cons (i := 13) (o := ⟨some 64, .buildSlice 30 0 #[], 30, "ref.go:44", #[], none⟩) rfl (fun K hK => ?_) AllReadyH.nil)
         next =>
          go_simp
          go_at_call 41
          refine (rsmall_any12 v1 4 _).mono ?_
          rintro e u3 ⟨rfl, hu⟩
          subst hu
          rw [← A1.out]
          refine hK.out _ _ ?_ (fun hH3 => ?_)
          next =>
           exact hH2
          clear hK K
          try simp only [apt12]
          refine wpAnyH_ready (rs := [11, 13]) (by kernel_rfl) (by simp) ?_
          refine AllReadyH.cons (i := 11) (o := ⟨some 62, .call { callee := .value (.func 41), args := #[.tmp 61, .const (Go.Value.int .i64 8)], argTypes := #[3, 3] }, 3, "ref.go:44", #[⟨10, .data⟩, ⟨7, .chain⟩], none⟩) rfl (fun K hK => ?_) (AllReadyH.cons (i := 13) (o := ⟨some 64, .buildSlice 30 0 #[], 30, "ref.go:44", #[], none⟩) rfl (fun K hK => ?_) AllReadyH.nil)
          next =>
           go_simp
           go_at_call 41
           refine (rsmall_any12 v2 8 _).mono ?_
           rintro e u4 ⟨rfl, hu⟩
           subst hu
           rw [← A2.out]
           refine hK.out _ _ ?_ (fun hH4 => ?_)
           next =>
            exact hH3
           clear hK K
           try simp only [apt12]
           refine wpAnyH_ready (rs := [13, 18]) (by kernel_rfl) (by simp) ?_
           refine AllReadyH.cons (i := 13) (o := ⟨some 64, .buildSlice 30 0 #[], 30, "ref.go:44", #[], none⟩) rfl (fun K hK => ?_) (AllReadyH.cons (i := 18) (o := ⟨some 69, .call { callee := .value (.func 31), args := #[.tmp 65, .tmp 68], argTypes := #[24, 3] }, 30, "ref.go:44", #[⟨14, .data⟩, ⟨17, .data⟩, ⟨11, .chain⟩], none⟩) rfl (fun K hK => ?_) AllReadyH.nil)
           next =>
            go_simp
            obtain ⟨u5, hu⟩ : ∃ x, x = u1.alloc (.cells #[] 3) := ⟨_, rfl⟩
            obtain ⟨g, hg⟩ : ∃ x, x = u1.heap.size := ⟨_, rfl⟩
            have hb : Below u1.heap.size u1 u5 := by rw [hu]; exact below_alloc u1 _
            have HG : Hid (w4.heap.size ≤ g) := by show _ ≤ _; rw [hg]; exact BB1.out.size
            have OB5 := hid (show u5.ownsRow g 3 1 (.slice (some ⟨g, 0, none⟩) 0 0) 0 (([] : List Int).map (Value.int .i64)) by rw [hu, hg]; exact own_nil12 u1)
            have BB5 := hid (then_w BB1.out hb)
            have LB5 := hid (LB1.out.later hb)
            try simp only [← hg]
            try rw [← hu]
            refine hK.out _ _ ?_ (fun hH5 => ?_)
            next =>
             exact KP.out _ BB5.out
            clear hK K
            try simp only [apt12]
            clear hb hu hg
            refine wpAnyH_ready (rs := [18]) (by kernel_rfl) (by simp) ?_
            refine AllReadyH.cons (i := 18) (o := ⟨some 69, .call { callee := .value (.func 31), args := #[.tmp 65, .tmp 68], argTypes := #[24, 3] }, 30, "ref.go:44", #[⟨14, .data⟩, ⟨17, .data⟩, ⟨11, .chain⟩], none⟩) rfl (fun K hK => ?_) AllReadyH.nil
            go_simp
            go_at_call 31
            refine (rslots_any12 h v4 _ c _ (HS.out.below (then_w HB4.out BB5.out))).mono ?_
            rintro e u6 ⟨LS, ld, rfl, hin, hnil, hb⟩
            rw [← HLT.out] at hin ⊢
            have IL6 := hid hin
            have HNL := hid hnil
            have BB6 := hid (then_w BB5.out hb)
            have OB6 := hid (own_later OB5.out hb)
            have LB6 := hid (LB5.out.later hb)
            refine hK.out _ _ ?_ (fun hH6 => ?_)
            next =>
             exact KP.out _ BB6.out
            clear hK K
            try simp only [apt12]
            clear hb hin hnil
            refine wpAnyH_ready (rs := [19]) (by kernel_rfl) (by simp) ?_
            refine AllReadyH.cons (i := 19) (o := ⟨some 70, .call { callee := .builtin .append, args := #[.tmp 64, .tmp 69], argTypes := #[30, 30] }, 30, "ref.go:44", #[⟨13, .data⟩, ⟨18, .data⟩, ⟨18, .chain⟩], none⟩) rfl (fun K hK => ?_) AllReadyH.nil
            obtain ⟨va, u7, hrun, hown, hgr⟩ := run_app_ints12 u6 g (.slice (some ⟨g, 0, none⟩) 0 0) 0 [] OB6.out LS ld lits IL6.out HNL.out (by have := HLL.out; omega) (by have := (OB6.out.lt g rfl).2; omega)
            rw [List.nil_append, Nat.zero_add] at hown
            obtain ⟨LA, lc, rfl⟩ := own_form hown
            have BB7 := hid (BB6.out.grown hgr BB6.out.size (fun k hk => Nat.le_trans HG.out (OB6.out.lt k hk).1))
            have OV7 := hid hown
            have LB7 : Hid (Lies u7 bx 32 #[.int .i64 0, .int .i64 0, .int .i64 0, .slice none 0 0, .slice none 0 0]) := (hgr.block bx LB6.out.lt (fun e => own_blk_ne OB6.out LB6.out (by decide) e.symm)).trans LB6.out
            refine wp_append_run11 _ _ 30 rfl _ u7 hrun ?_
            refine hK.out _ _ ?_ (fun hH7 => ?_)
            next =>
             exact KP.out _ BB7.out
            clear hK K
            try simp only [apt12]
            clear hrun hown hgr
            refine tkI 20 ⟨some 71, .build 32 #[(0, .tmp 54), (1, .tmp 58), (2, .tmp 62), (3, .tmp 63), (4, .tmp 70)], 32, "ref.go:44", #[⟨3, .data⟩, ⟨7, .data⟩, ⟨11, .data⟩, ⟨12, .data⟩, ⟨19, .data⟩], none⟩ ?v96 rfl (by kernel_rfl) (by rfl) ?y96 ?_
            case y96 => intro w hSw; (try dsimp only at hSw); go_simp; all_goals with_reducible rfl
            try simp only [apt12]
            refine wpAnyH_ready (rs := [22]) (by kernel_rfl) (by simp) ?_
            refine AllReadyH.cons (i := 22) (o := ⟨none, .store 32 (.tmp 9) (.tmp 71), 0, "ref.go:44", #[⟨21, .data⟩, ⟨20, .data⟩, ⟨19, .chain⟩, ⟨0, .phase⟩, ⟨1, .phase⟩, ⟨2, .phase⟩, ⟨3, .phase⟩, ⟨4, .phase⟩, ⟨5, .phase⟩, ⟨6, .phase⟩, ⟨7, .phase⟩, ⟨8, .phase⟩, ⟨9, .phase⟩, ⟨10, .phase⟩, ⟨11, .phase⟩, ⟨12, .phase⟩, ⟨13, .phase⟩, ⟨14, .phase⟩, ⟨15, .phase⟩, ⟨16, .phase⟩, ⟨17, .phase⟩, ⟨18, .phase⟩, ⟨19, .phase⟩, ⟨20, .phase⟩, ⟨21, .phase⟩], none⟩) rfl (fun K hK => ?_) AllReadyH.nil
            obtain ⟨r0, r1, r2, r3, r4, f0, f1, f2, f3, f4⟩ := cells_five12 LB7.out
            have BB8 := hid (below_five12 BB7.out HX9.out (.int .i64 a0) (.int .i64 a1) (.int .i64 a2) (.slice CA cd.length cc) (.slice LA lits.length lc))
            have LF := hid (lies_five12 LB7.out (.int .i64 a0) (.int .i64 a1) (.int .i64 a2) (.slice CA cd.length cc) (.slice LA lits.length lc))
            have HFL : Hid (∀ k o s, LA = some ⟨k, o, s⟩ → w4.heap.size ≤ k) := fun k o s e => by
              have h := OV7.out
              subst e
              exact Nat.le_trans HG.out (h.lt k rfl).1
            have OF := hid (own_ints (own_five12 OV7.out LB7.out (by decide) (.int .i64 a0) (.int .i64 a1) (.int .i64 a2) (.slice CA cd.length cc) (.slice LA lits.length lc)))
            go_simp
            refine hK.out _ _ ?_ (fun hH8 => ?_)
            next =>
             exact KP.out _ BB8.out
            clear hK K
            try simp only [apt12]
            clear r0 r1 r2 r3 r4 f0 f1 f2 f3 f4
            refine wpAnyH_done (by kernel_rfl) ?_ _
            go_wp2_with fail
            go_meet
            exact ⟨bx, LA, lc, rfl, LF, OF, HFL, BB8⟩
           next =>
            go_simp
            go_at_call 31
            refine (rslots_any12 h v4 _ c _ (HS.out.below (then_w HB4.out BB1.out))).mono ?_
            rintro e u5 ⟨LS, ld, rfl, hin, hnil, hb⟩
            rw [← HLT.out] at hin ⊢
            have IL5 := hid hin
            have HNL := hid hnil
            have BB5 := hid (then_w BB1.out hb)
            have LB5 := hid (LB1.out.later hb)
            refine hK.out _ _ ?_ (fun hH5 => ?_)
            next =>
             exact KP.out _ BB5.out
            clear hK K
            try simp only [apt12]
            clear hb hin hnil
            refine wpAnyH_ready (rs := [13]) (by kernel_rfl) (by simp) ?_
            refine AllReadyH.cons (i := 13) (o := ⟨some 64, .buildSlice 30 0 #[], 30, "ref.go:44", #[], none⟩) rfl (fun K hK => ?_) AllReadyH.nil
            go_simp
            obtain ⟨u6, hu⟩ : ∃ x, x = u5.alloc (.cells #[] 3) := ⟨_, rfl⟩
            obtain ⟨g, hg⟩ : ∃ x, x = u5.heap.size := ⟨_, rfl⟩
            have hb : Below u5.heap.size u5 u6 := by rw [hu]; exact below_alloc u5 _
            have HG : Hid (w4.heap.size ≤ g) := by show _ ≤ _; rw [hg]; exact BB5.out.size
            have OB6 := hid (show u6.ownsRow g 3 1 (.slice (some ⟨g, 0, none⟩) 0 0) 0 (([] : List Int).map (Value.int .i64)) by rw [hu, hg]; exact own_nil12 u5)
            have BB6 := hid (then_w BB5.out hb)
            have LB6 := hid (LB5.out.later hb)
            have IL6 := hid (IL5.out.below hb)
            try simp only [← hg]
            try rw [← hu]
            refine hK.out _ _ ?_ (fun hH6 => ?_)
            next =>
             exact KP.out _ BB6.out
            clear hK K
            try simp only [apt12]
            clear hb hu hg
            refine wpAnyH_ready (rs := [19]) (by kernel_rfl) (by simp) ?_
            refine AllReadyH.cons (i := 19) (o := ⟨some 70, .call { callee := .builtin .append, args := #[.tmp 64, .tmp 69], argTypes := #[30, 30] }, 30, "ref.go:44", #[⟨13, .data⟩, ⟨18, .data⟩, ⟨18, .chain⟩], none⟩) rfl (fun K hK => ?_) AllReadyH.nil
            obtain ⟨va, u7, hrun, hown, hgr⟩ := run_app_ints12 u6 g (.slice (some ⟨g, 0, none⟩) 0 0) 0 [] OB6.out LS ld lits IL6.out HNL.out (by have := HLL.out; omega) (by have := (OB6.out.lt g rfl).2; omega)
            rw [List.nil_append, Nat.zero_add] at hown
            obtain ⟨LA, lc, rfl⟩ := own_form hown
            have BB7 := hid (BB6.out.grown hgr BB6.out.size (fun k hk => Nat.le_trans HG.out (OB6.out.lt k hk).1))
            have OV7 := hid hown
            have LB7 : Hid (Lies u7 bx 32 #[.int .i64 0, .int .i64 0, .int .i64 0, .slice none 0 0, .slice none 0 0]) := (hgr.block bx LB6.out.lt (fun e => own_blk_ne OB6.out LB6.out (by decide) e.symm)).trans LB6.out
            refine wp_append_run11 _ _ 30 rfl _ u7 hrun ?_
            refine hK.out _ _ ?_ (fun hH7 => ?_)
            next =>
             exact KP.out _ BB7.out
            clear hK K
            try simp only [apt12]
            clear hrun hown hgr
            refine tkI 20 ⟨some 71, .build 32 #[(0, .tmp 54), (1, .tmp 58), (2, .tmp 62), (3, .tmp 63), (4, .tmp 70)], 32, "ref.go:44", #[⟨3, .data⟩, ⟨7, .data⟩, ⟨11, .data⟩, ⟨12, .data⟩, ⟨19, .data⟩], none⟩ ?v97 rfl (by kernel_rfl) (by rfl) ?y97 ?_
            case y97 => intro w hSw; (try dsimp only at hSw); go_simp; all_goals with_reducible rfl
            try simp only [apt12]
            refine wpAnyH_ready (rs := [22]) (by kernel_rfl) (by simp) ?_
            refine AllReadyH.cons (i := 22) (o := ⟨none, .store 32 (.tmp 9) (.tmp 71), 0, "ref.go:44", #[⟨21, .data⟩, ⟨20, .data⟩, ⟨19, .chain⟩, ⟨0, .phase⟩, ⟨1, .phase⟩, ⟨2, .phase⟩, ⟨3, .phase⟩, ⟨4, .phase⟩, ⟨5, .phase⟩, ⟨6, .phase⟩, ⟨7, .phase⟩, ⟨8, .phase⟩, ⟨9, .phase⟩, ⟨10, .phase⟩, ⟨11, .phase⟩, ⟨12, .phase⟩, ⟨13, .phase⟩, ⟨14, .phase⟩, ⟨15, .phase⟩, ⟨16, .phase⟩, ⟨17, .phase⟩, ⟨18, .phase⟩, ⟨19, .phase⟩, ⟨20, .phase⟩, ⟨21, .phase⟩], none⟩) rfl (fun K hK => ?_) AllReadyH.nil
            obtain ⟨r0, r1, r2, r3, r4, f0, f1, f2, f3, f4⟩ := cells_five12 LB7.out
            have BB8 := hid (below_five12 BB7.out HX9.out (.int .i64 a0) (.int .i64 a1) (.int .i64 a2) (.slice CA cd.length cc) (.slice LA lits.length lc))
            have LF := hid (lies_five12 LB7.out (.int .i64 a0) (.int .i64 a1) (.int .i64 a2) (.slice CA cd.length cc) (.slice LA lits.length lc))
            have HFL : Hid (∀ k o s, LA = some ⟨k, o, s⟩ → w4.heap.size ≤ k) := fun k o s e => by
              have h := OV7.out
              subst e
              exact Nat.le_trans HG.out (h.lt k rfl).1
            have OF := hid (own_ints (own_five12 OV7.out LB7.out (by decide) (.int .i64 a0) (.int .i64 a1) (.int .i64 a2) (.slice CA cd.length cc) (.slice LA lits.length lc)))
            go_simp
            refine hK.out _ _ ?_ (fun hH8 => ?_)
            next =>
             exact KP.out _ BB8.out
            clear hK K
            try simp only [apt12]
            clear r0 r1 r2 r3 r4 f0 f1 f2 f3 f4
            refine wpAnyH_done (by kernel_rfl) ?_ _
            go_wp2_with fail
            go_meet
            exact ⟨bx, LA, lc, rfl, LF, OF, HFL, BB8⟩
          next =>
           go_simp
           obtain ⟨u4, hu⟩ : ∃ x, x = u1.alloc (.cells #[] 3) := ⟨_, rfl⟩
           obtain ⟨g, hg⟩ : ∃ x, x = u1.heap.size := ⟨_, rfl⟩
           have hb : Below u1.heap.size u1 u4 := by rw [hu]; exact below_alloc u1 _
           have HG : Hid (w4.heap.size ≤ g) := by show _ ≤ _; rw [hg]; exact BB1.out.size
           have OB4 := hid (show u4.ownsRow g 3 1 (.slice (some ⟨g, 0, none⟩) 0 0) 0 (([] : List Int).map (Value.int .i64)) by rw [hu, hg]; exact own_nil12 u1)
           have BB4 := hid (then_w BB1.out hb)
           have LB4 := hid (LB1.out.later hb)
           try simp only [← hg]
           try rw [← hu]
           refine hK.out _ _ ?_ (fun hH4 => ?_)
           next =>
            exact KP.out _ BB4.out
           clear hK K
           try simp only [apt12]
           clear hb hu hg
           refine wpAnyH_ready (rs := [11]) (by kernel_rfl) (by simp) ?_
           refine AllReadyH.cons (i := 11) (o := ⟨some 62, .call { callee := .value (.func 41), args := #[.tmp 61, .const (Go.Value.int .i64 8)], argTypes := #[3, 3] }, 3, "ref.go:44", #[⟨10, .data⟩, ⟨7, .chain⟩], none⟩) rfl (fun K hK => ?_) AllReadyH.nil
           go_simp
           go_at_call 41
           refine (rsmall_any12 v2 8 _).mono ?_
           rintro e u5 ⟨rfl, hu⟩
           subst hu
           rw [← A2.out]
           refine hK.out _ _ ?_ (fun hH5 => ?_)
           next =>
            exact hH4
           clear hK K
           try simp only [apt12]
           refine wpAnyH_ready (rs := [18]) (by kernel_rfl) (by simp) ?_
           refine AllReadyH.cons (i := 18) (o := ⟨some 69, .call { callee := .value (.func 31), args := #[.tmp 65, .tmp 68], argTypes := #[24, 3] }, 30, "ref.go:44", #[⟨14, .data⟩, ⟨17, .data⟩, ⟨11, .chain⟩], none⟩) rfl (fun K hK => ?_) AllReadyH.nil
           go_simp
           go_at_call 31
           refine (rslots_any12 h v4 _ c _ (HS.out.below (then_w HB4.out BB4.out))).mono ?_
           rintro e u6 ⟨LS, ld, rfl, hin, hnil, hb⟩
           rw [← HLT.out] at hin ⊢
           have IL6 := hid hin
           have HNL := hid hnil
           have BB6 := hid (then_w BB4.out hb)
           have OB6 := hid (own_later OB4.out hb)
           have LB6 := hid (LB4.out.later hb)
           refine hK.out _ _ ?_ (fun hH6 => ?_)
           next =>
            exact KP.out _ BB6.out
           clear hK K
           try simp only [apt12]
           clear hb hin hnil
           refine wpAnyH_ready (rs := [19]) (by kernel_rfl) (by simp) ?_
           refine AllReadyH.cons (i := 19) (o := ⟨some 70, .call { callee := .builtin .append, args := #[.tmp 64, .tmp 69], argTypes := #[30, 30] }, 30, "ref.go:44", #[⟨13, .data⟩, ⟨18, .data⟩, ⟨18, .chain⟩], none⟩) rfl (fun K hK => ?_) AllReadyH.nil
           obtain ⟨va, u7, hrun, hown, hgr⟩ := run_app_ints12 u6 g (.slice (some ⟨g, 0, none⟩) 0 0) 0 [] OB6.out LS ld lits IL6.out HNL.out (by have := HLL.out; omega) (by have := (OB6.out.lt g rfl).2; omega)
           rw [List.nil_append, Nat.zero_add] at hown
           obtain ⟨LA, lc, rfl⟩ := own_form hown
           have BB7 := hid (BB6.out.grown hgr BB6.out.size (fun k hk => Nat.le_trans HG.out (OB6.out.lt k hk).1))
           have OV7 := hid hown
           have LB7 : Hid (Lies u7 bx 32 #[.int .i64 0, .int .i64 0, .int .i64 0, .slice none 0 0, .slice none 0 0]) := (hgr.block bx LB6.out.lt (fun e => own_blk_ne OB6.out LB6.out (by decide) e.symm)).trans LB6.out
           refine wp_append_run11 _ _ 30 rfl _ u7 hrun ?_
           refine hK.out _ _ ?_ (fun hH7 => ?_)
           next =>
            exact KP.out _ BB7.out
           clear hK K
           try simp only [apt12]
           clear hrun hown hgr
           refine tkI 20 ⟨some 71, .build 32 #[(0, .tmp 54), (1, .tmp 58), (2, .tmp 62), (3, .tmp 63), (4, .tmp 70)], 32, "ref.go:44", #[⟨3, .data⟩, ⟨7, .data⟩, ⟨11, .data⟩, ⟨12, .data⟩, ⟨19, .data⟩], none⟩ ?v98 rfl (by kernel_rfl) (by rfl) ?y98 ?_
           case y98 => intro w hSw; (try dsimp only at hSw); go_simp; all_goals with_reducible rfl
           try simp only [apt12]
           refine wpAnyH_ready (rs := [22]) (by kernel_rfl) (by simp) ?_
           refine AllReadyH.cons (i := 22) (o := ⟨none, .store 32 (.tmp 9) (.tmp 71), 0, "ref.go:44", #[⟨21, .data⟩, ⟨20, .data⟩, ⟨19, .chain⟩, ⟨0, .phase⟩, ⟨1, .phase⟩, ⟨2, .phase⟩, ⟨3, .phase⟩, ⟨4, .phase⟩, ⟨5, .phase⟩, ⟨6, .phase⟩, ⟨7, .phase⟩, ⟨8, .phase⟩, ⟨9, .phase⟩, ⟨10, .phase⟩, ⟨11, .phase⟩, ⟨12, .phase⟩, ⟨13, .phase⟩, ⟨14, .phase⟩, ⟨15, .phase⟩, ⟨16, .phase⟩, ⟨17, .phase⟩, ⟨18, .phase⟩, ⟨19, .phase⟩, ⟨20, .phase⟩, ⟨21, .phase⟩], none⟩) rfl (fun K hK => ?_) AllReadyH.nil
           obtain ⟨r0, r1, r2, r3, r4, f0, f1, f2, f3, f4⟩ := cells_five12 LB7.out
           have BB8 := hid (below_five12 BB7.out HX9.out (.int .i64 a0) (.int .i64 a1) (.int .i64 a2) (.slice CA cd.length cc) (.slice LA lits.length lc))
           have LF := hid (lies_five12 LB7.out (.int .i64 a0) (.int .i64 a1) (.int .i64 a2) (.slice CA cd.length cc) (.slice LA lits.length lc))
           have HFL : Hid (∀ k o s, LA = some ⟨k, o, s⟩ → w4.heap.size ≤ k) := fun k o s e => by
             have h := OV7.out
             subst e
             exact Nat.le_trans HG.out (h.lt k rfl).1
           have OF := hid (own_ints (own_five12 OV7.out LB7.out (by decide) (.int .i64 a0) (.int .i64 a1) (.int .i64 a2) (.slice CA cd.length cc) (.slice LA lits.length lc)))
           go_simp
           refine hK.out _ _ ?_ (fun hH8 => ?_)
           next =>
            exact KP.out _ BB8.out
           clear hK K
           try simp only [apt12]
           clear r0 r1 r2 r3 r4 f0 f1 f2 f3 f4
           refine wpAnyH_done (by kernel_rfl) ?_ _
           go_wp2_with fail
           go_meet
           exact ⟨bx, LA, lc, rfl, LF, OF, HFL, BB8⟩
         next =>
          go_simp
          obtain ⟨u3, hu⟩ : ∃ x, x = u1.alloc (.cells #[] 3) := ⟨_, rfl⟩
          obtain ⟨g, hg⟩ : ∃ x, x = u1.heap.size := ⟨_, rfl⟩
          have hb : Below u1.heap.size u1 u3 := by rw [hu]; exact below_alloc u1 _
          have HG : Hid (w4.heap.size ≤ g) := by show _ ≤ _; rw [hg]; exact BB1.out.size
          have OB3 := hid (show u3.ownsRow g 3 1 (.slice (some ⟨g, 0, none⟩) 0 0) 0 (([] : List Int).map (Value.int .i64)) by rw [hu, hg]; exact own_nil12 u1)
          have BB3 := hid (then_w BB1.out hb)
          have LB3 := hid (LB1.out.later hb)
          try simp only [← hg]
          try rw [← hu]
          refine hK.out _ _ ?_ (fun hH3 => ?_)
          next =>
           exact KP.out _ BB3.out
          clear hK K
          try simp only [apt12]
          clear hb hu hg
          refine wpAnyH_ready (rs := [7]) (by kernel_rfl) (by simp) ?_
          refine AllReadyH.cons (i := 7) (o := ⟨some 58, .call { callee := .value (.func 41), args := #[.tmp 57, .const (Go.Value.int .i64 4)], argTypes := #[3, 3] }, 3, "ref.go:44", #[⟨6, .data⟩, ⟨3, .chain⟩], none⟩) rfl (fun K hK => ?_) AllReadyH.nil
          go_simp
          go_at_call 41
          refine (rsmall_any12 v1 4 _).mono ?_
          rintro e u4 ⟨rfl, hu⟩
          subst hu
          rw [← A1.out]
          refine hK.out _ _ ?_ (fun hH4 => ?_)
          next =>
           exact hH3
          clear hK K
          try simp only [apt12]
          refine wpAnyH_ready (rs := [11]) (by kernel_rfl) (by simp) ?_
          refine AllReadyH.cons (i := 11) (o := ⟨some 62, .call { callee := .value (.func 41), args := #[.tmp 61, .const (Go.Value.int .i64 8)], argTypes := #[3, 3] }, 3, "ref.go:44", #[⟨10, .data⟩, ⟨7, .chain⟩], none⟩) rfl (fun K hK => ?_) AllReadyH.nil
          go_simp
          go_at_call 41
          refine (rsmall_any12 v2 8 _).mono ?_
          rintro e u5 ⟨rfl, hu⟩
          subst hu
          rw [← A2.out]
          refine hK.out _ _ ?_ (fun hH5 => ?_)
          next =>
           exact hH4
          clear hK K
          try simp only [apt12]
          refine wpAnyH_ready (rs := [18]) (by kernel_rfl) (by simp) ?_
          refine AllReadyH.cons (i := 18) (o := ⟨some 69, .call { callee := .value (.func 31), args := #[.tmp 65, .tmp 68], argTypes := #[24, 3] }, 30, "ref.go:44", #[⟨14, .data⟩, ⟨17, .data⟩, ⟨11, .chain⟩], none⟩) rfl (fun K hK => ?_) AllReadyH.nil
          go_simp
          go_at_call 31
          refine (rslots_any12 h v4 _ c _ (HS.out.below (then_w HB4.out BB3.out))).mono ?_
          rintro e u6 ⟨LS, ld, rfl, hin, hnil, hb⟩
          rw [← HLT.out] at hin ⊢
          have IL6 := hid hin
          have HNL := hid hnil
          have BB6 := hid (then_w BB3.out hb)
          have OB6 := hid (own_later OB3.out hb)
          have LB6 := hid (LB3.out.later hb)
          refine hK.out _ _ ?_ (fun hH6 => ?_)
          next =>
           exact KP.out _ BB6.out
          clear hK K
          try simp only [apt12]
          clear hb hin hnil
          refine wpAnyH_ready (rs := [19]) (by kernel_rfl) (by simp) ?_
          refine AllReadyH.cons (i := 19) (o := ⟨some 70, .call { callee := .builtin .append, args := #[.tmp 64, .tmp 69], argTypes := #[30, 30] }, 30, "ref.go:44", #[⟨13, .data⟩, ⟨18, .data⟩, ⟨18, .chain⟩], none⟩) rfl (fun K hK => ?_) AllReadyH.nil
          obtain ⟨va, u7, hrun, hown, hgr⟩ := run_app_ints12 u6 g (.slice (some ⟨g, 0, none⟩) 0 0) 0 [] OB6.out LS ld lits IL6.out HNL.out (by have := HLL.out; omega) (by have := (OB6.out.lt g rfl).2; omega)
          rw [List.nil_append, Nat.zero_add] at hown
          obtain ⟨LA, lc, rfl⟩ := own_form hown
          have BB7 := hid (BB6.out.grown hgr BB6.out.size (fun k hk => Nat.le_trans HG.out (OB6.out.lt k hk).1))
          have OV7 := hid hown
          have LB7 : Hid (Lies u7 bx 32 #[.int .i64 0, .int .i64 0, .int .i64 0, .slice none 0 0, .slice none 0 0]) := (hgr.block bx LB6.out.lt (fun e => own_blk_ne OB6.out LB6.out (by decide) e.symm)).trans LB6.out
          refine wp_append_run11 _ _ 30 rfl _ u7 hrun ?_
          refine hK.out _ _ ?_ (fun hH7 => ?_)
          next =>
           exact KP.out _ BB7.out
          clear hK K
          try simp only [apt12]
          clear hrun hown hgr
          refine tkI 20 ⟨some 71, .build 32 #[(0, .tmp 54), (1, .tmp 58), (2, .tmp 62), (3, .tmp 63), (4, .tmp 70)], 32, "ref.go:44", #[⟨3, .data⟩, ⟨7, .data⟩, ⟨11, .data⟩, ⟨12, .data⟩, ⟨19, .data⟩], none⟩ ?v99 rfl (by kernel_rfl) (by rfl) ?y99 ?_
          case y99 => intro w hSw; (try dsimp only at hSw); go_simp; all_goals with_reducible rfl
          try simp only [apt12]
          refine wpAnyH_ready (rs := [22]) (by kernel_rfl) (by simp) ?_
          refine AllReadyH.cons (i := 22) (o := ⟨none, .store 32 (.tmp 9) (.tmp 71), 0, "ref.go:44", #[⟨21, .data⟩, ⟨20, .data⟩, ⟨19, .chain⟩, ⟨0, .phase⟩, ⟨1, .phase⟩, ⟨2, .phase⟩, ⟨3, .phase⟩, ⟨4, .phase⟩, ⟨5, .phase⟩, ⟨6, .phase⟩, ⟨7, .phase⟩, ⟨8, .phase⟩, ⟨9, .phase⟩, ⟨10, .phase⟩, ⟨11, .phase⟩, ⟨12, .phase⟩, ⟨13, .phase⟩, ⟨14, .phase⟩, ⟨15, .phase⟩, ⟨16, .phase⟩, ⟨17, .phase⟩, ⟨18, .phase⟩, ⟨19, .phase⟩, ⟨20, .phase⟩, ⟨21, .phase⟩], none⟩) rfl (fun K hK => ?_) AllReadyH.nil
          obtain ⟨r0, r1, r2, r3, r4, f0, f1, f2, f3, f4⟩ := cells_five12 LB7.out
          have BB8 := hid (below_five12 BB7.out HX9.out (.int .i64 a0) (.int .i64 a1) (.int .i64 a2) (.slice CA cd.length cc) (.slice LA lits.length lc))
          have LF := hid (lies_five12 LB7.out (.int .i64 a0) (.int .i64 a1) (.int .i64 a2) (.slice CA cd.length cc) (.slice LA lits.length lc))
          have HFL : Hid (∀ k o s, LA = some ⟨k, o, s⟩ → w4.heap.size ≤ k) := fun k o s e => by
            have h := OV7.out
            subst e
            exact Nat.le_trans HG.out (h.lt k rfl).1
          have OF := hid (own_ints (own_five12 OV7.out LB7.out (by decide) (.int .i64 a0) (.int .i64 a1) (.int .i64 a2) (.slice CA cd.length cc) (.slice LA lits.length lc)))
          go_simp
          refine hK.out _ _ ?_ (fun hH8 => ?_)
          next =>
           exact KP.out _ BB8.out
          clear hK K
          try simp only [apt12]
          clear r0 r1 r2 r3 r4 f0 f1 f2 f3 f4
          refine wpAnyH_done (by kernel_rfl) ?_ _
          go_wp2_with fail
          go_meet
          exact ⟨bx, LA, lc, rfl, LF, OF, HFL, BB8⟩
        next =>
         go_simp
         obtain ⟨u2, hu⟩ : ∃ x, x = u1.alloc (.cells #[] 3) := ⟨_, rfl⟩
         obtain ⟨g, hg⟩ : ∃ x, x = u1.heap.size := ⟨_, rfl⟩
         have hb : Below u1.heap.size u1 u2 := by rw [hu]; exact below_alloc u1 _
         have HG : Hid (w4.heap.size ≤ g) := by show _ ≤ _; rw [hg]; exact BB1.out.size
         have OB2 := hid (show u2.ownsRow g 3 1 (.slice (some ⟨g, 0, none⟩) 0 0) 0 (([] : List Int).map (Value.int .i64)) by rw [hu, hg]; exact own_nil12 u1)
         have BB2 := hid (then_w BB1.out hb)
         have LB2 := hid (LB1.out.later hb)
         try simp only [← hg]
         try rw [← hu]
         refine hK.out _ _ ?_ (fun hH2 => ?_)
         next =>
          exact KP.out _ BB2.out
         clear hK K
         try simp only [apt12]
         clear hb hu hg
         refine wpAnyH_ready (rs := [3]) (by kernel_rfl) (by simp) ?_
         refine AllReadyH.cons (i := 3) (o := ⟨some 54, .call { callee := .value (.func 41), args := #[.tmp 53, .const (Go.Value.int .i64 63)], argTypes := #[3, 3] }, 3, "ref.go:44", #[⟨2, .data⟩], none⟩) rfl (fun K hK => ?_) AllReadyH.nil
         go_simp
         go_at_call 41
         refine (rsmall_any12 v0 63 _).mono ?_
         rintro e u3 ⟨rfl, hu⟩
         subst hu
         rw [← A0.out]
         refine hK.out _ _ ?_ (fun hH3 => ?_)
         next =>
          exact hH2
         clear hK K
         try simp only [apt12]
         refine wpAnyH_ready (rs := [7]) (by kernel_rfl) (by simp) ?_
         refine AllReadyH.cons (i := 7) (o := ⟨some 58, .call { callee := .value (.func 41), args := #[.tmp 57, .const (Go.Value.int .i64 4)], argTypes := #[3, 3] }, 3, "ref.go:44", #[⟨6, .data⟩, ⟨3, .chain⟩], none⟩) rfl (fun K hK => ?_) AllReadyH.nil
         go_simp
         go_at_call 41
         refine (rsmall_any12 v1 4 _).mono ?_
         rintro e u4 ⟨rfl, hu⟩
         subst hu
         rw [← A1.out]
         refine hK.out _ _ ?_ (fun hH4 => ?_)
         next =>
          exact hH3
         clear hK K
         try simp only [apt12]
         refine wpAnyH_ready (rs := [11]) (by kernel_rfl) (by simp) ?_
         refine AllReadyH.cons (i := 11) (o := ⟨some 62, .call { callee := .value (.func 41), args := #[.tmp 61, .const (Go.Value.int .i64 8)], argTypes := #[3, 3] }, 3, "ref.go:44", #[⟨10, .data⟩, ⟨7, .chain⟩], none⟩) rfl (fun K hK => ?_) AllReadyH.nil
         go_simp
         go_at_call 41
         refine (rsmall_any12 v2 8 _).mono ?_
         rintro e u5 ⟨rfl, hu⟩
         subst hu
         rw [← A2.out]
         refine hK.out _ _ ?_ (fun hH5 => ?_)
         next =>
          exact hH4
         clear hK K
         try simp only [apt12]
         refine wpAnyH_ready (rs := [18]) (by kernel_rfl) (by simp) ?_
         refine AllReadyH.cons (i := 18) (o := ⟨some 69, .call { callee := .value (.func 31), args := #[.tmp 65, .tmp 68], argTypes := #[24, 3] }, 30, "ref.go:44", #[⟨14, .data⟩, ⟨17, .data⟩, ⟨11, .chain⟩], none⟩) rfl (fun K hK => ?_) AllReadyH.nil
         go_simp
         go_at_call 31
         refine (rslots_any12 h v4 _ c _ (HS.out.below (then_w HB4.out BB2.out))).mono ?_
         rintro e u6 ⟨LS, ld, rfl, hin, hnil, hb⟩
         rw [← HLT.out] at hin ⊢
         have IL6 := hid hin
         have HNL := hid hnil
         have BB6 := hid (then_w BB2.out hb)
         have OB6 := hid (own_later OB2.out hb)
         have LB6 := hid (LB2.out.later hb)
         refine hK.out _ _ ?_ (fun hH6 => ?_)
         next =>
          exact KP.out _ BB6.out
         clear hK K
         try simp only [apt12]
         clear hb hin hnil
         refine wpAnyH_ready (rs := [19]) (by kernel_rfl) (by simp) ?_
         refine AllReadyH.cons (i := 19) (o := ⟨some 70, .call { callee := .builtin .append, args := #[.tmp 64, .tmp 69], argTypes := #[30, 30] }, 30, "ref.go:44", #[⟨13, .data⟩, ⟨18, .data⟩, ⟨18, .chain⟩], none⟩) rfl (fun K hK => ?_) AllReadyH.nil
         obtain ⟨va, u7, hrun, hown, hgr⟩ := run_app_ints12 u6 g (.slice (some ⟨g, 0, none⟩) 0 0) 0 [] OB6.out LS ld lits IL6.out HNL.out (by have := HLL.out; omega) (by have := (OB6.out.lt g rfl).2; omega)
         rw [List.nil_append, Nat.zero_add] at hown
         obtain ⟨LA, lc, rfl⟩ := own_form hown
         have BB7 := hid (BB6.out.grown hgr BB6.out.size (fun k hk => Nat.le_trans HG.out (OB6.out.lt k hk).1))
         have OV7 := hid hown
         have LB7 : Hid (Lies u7 bx 32 #[.int .i64 0, .int .i64 0, .int .i64 0, .slice none 0 0, .slice none 0 0]) := (hgr.block bx LB6.out.lt (fun e => own_blk_ne OB6.out LB6.out (by decide) e.symm)).trans LB6.out
         refine wp_append_run11 _ _ 30 rfl _ u7 hrun ?_
         refine hK.out _ _ ?_ (fun hH7 => ?_)
         next =>
          exact KP.out _ BB7.out
         clear hK K
         try simp only [apt12]
         clear hrun hown hgr
         refine tkI 20 ⟨some 71, .build 32 #[(0, .tmp 54), (1, .tmp 58), (2, .tmp 62), (3, .tmp 63), (4, .tmp 70)], 32, "ref.go:44", #[⟨3, .data⟩, ⟨7, .data⟩, ⟨11, .data⟩, ⟨12, .data⟩, ⟨19, .data⟩], none⟩ ?v100 rfl (by kernel_rfl) (by rfl) ?y100 ?_
         case y100 => intro w hSw; (try dsimp only at hSw); go_simp; all_goals with_reducible rfl
         try simp only [apt12]
         refine wpAnyH_ready (rs := [22]) (by kernel_rfl) (by simp) ?_
         refine AllReadyH.cons (i := 22) (o := ⟨none, .store 32 (.tmp 9) (.tmp 71), 0, "ref.go:44", #[⟨21, .data⟩, ⟨20, .data⟩, ⟨19, .chain⟩, ⟨0, .phase⟩, ⟨1, .phase⟩, ⟨2, .phase⟩, ⟨3, .phase⟩, ⟨4, .phase⟩, ⟨5, .phase⟩, ⟨6, .phase⟩, ⟨7, .phase⟩, ⟨8, .phase⟩, ⟨9, .phase⟩, ⟨10, .phase⟩, ⟨11, .phase⟩, ⟨12, .phase⟩, ⟨13, .phase⟩, ⟨14, .phase⟩, ⟨15, .phase⟩, ⟨16, .phase⟩, ⟨17, .phase⟩, ⟨18, .phase⟩, ⟨19, .phase⟩, ⟨20, .phase⟩, ⟨21, .phase⟩], none⟩) rfl (fun K hK => ?_) AllReadyH.nil
         obtain ⟨r0, r1, r2, r3, r4, f0, f1, f2, f3, f4⟩ := cells_five12 LB7.out
         have BB8 := hid (below_five12 BB7.out HX9.out (.int .i64 a0) (.int .i64 a1) (.int .i64 a2) (.slice CA cd.length cc) (.slice LA lits.length lc))
         have LF := hid (lies_five12 LB7.out (.int .i64 a0) (.int .i64 a1) (.int .i64 a2) (.slice CA cd.length cc) (.slice LA lits.length lc))
         have HFL : Hid (∀ k o s, LA = some ⟨k, o, s⟩ → w4.heap.size ≤ k) := fun k o s e => by
           have h := OV7.out
           subst e
           exact Nat.le_trans HG.out (h.lt k rfl).1
         have OF := hid (own_ints (own_five12 OV7.out LB7.out (by decide) (.int .i64 a0) (.int .i64 a1) (.int .i64 a2) (.slice CA cd.length cc) (.slice LA lits.length lc)))
         go_simp
         refine hK.out _ _ ?_ (fun hH8 => ?_)
         next =>
          exact KP.out _ BB8.out
         clear hK K
         try simp only [apt12]
         clear r0 r1 r2 r3 r4 f0 f1 f2 f3 f4
         refine wpAnyH_done (by kernel_rfl) ?_ _
         go_wp2_with fail
         go_meet
         exact ⟨bx, LA, lc, rfl, LF, OF, HFL, BB8⟩
     case rest =>
       rename World => w5
       obtain ⟨bx, LA, lc, rfl, LF, OF, HFL, BF⟩ := hcut
       have HB5 := hid (then_w HB4.out BF.out)
       have HR5 := hid (HR4.out.later BF.out)
       have HIN5 := hid (HIN.out.below BF.out)
       have HRL := hid HR3.out.lt
       have HX9 : Hid (mx12 h m = ⟨a0, a1, a2, cd, lits⟩) := by show _ = _; unfold mx12; rw [← V0.out, ← V1.out, ← V2.out, ← V4.out, HCD.out, ← A0.out, ← A1.out, ← A2.out, ← HLT.out]
       have HMB : Hid (mb12 h m = (decide (ce = 0) && (decide (0 ≤ a0) && (decide (0 ≤ a1) && (decide (a1 ≤ a2) && decide (ck11 cd lits.length a2 = 0)))))) := by
         show _ = _
         unfold mb12
         rw [HMAY.out, ← V3.out, ← V4.out, K3.out, K4.out, HCD.out, HX9.out, decide_eq_true (show (sls12 h m).length = 5 by rw [← HL.out]; exact HL5.out)]
         rfl
       have HCL : Hid (cd.length ≤ 32) := by
         show _ ≤ _
         have := up_len12 btx
         rw [HU.out] at this
         exact this
       obtain ⟨m0, m1, m2, m3, m4⟩ := LF.out.c5
       clear x0 x1 x2 q3 y3
       by_cases g0 : ce = 0
       case neg =>
         have HM : Hid (R = (mt0, 120)) := HRR.out.trans (mt_err12 (by rw [HMB.out, decide_eq_false g0]; rfl))
         have g0B : (ce != 0) = true := bne_iff_ne.2 g0
         have g0C : (ce == 0) = false := beq_eq_false_iff_ne.2 g0
         obtain ⟨r0, r1, r2, r3, r4⟩ := HR5.out.c5
         obtain ⟨f0, f1, f2, f3, f4⟩ := HR5.out.f5
         go_wp2_with fail
         have K0 := (((((HR5.out.set_ 0 (.int .i64 0)).set_ 1 (.int .i64 0)).set_ 2 (.int .i64 0)).set_ 3 (.slice none 0 0)).set_ 4 (.slice none 0 0))
         have s0 := K0.cell 0
         have s1 := K0.cell 1
         have s2 := K0.cell 2
         have s3 := K0.cell 3
         have s4 := K0.cell 4
         simp only [List.setIfInBounds_toArray, List.set_cons_zero, List.set_cons_succ, List.getElem?_toArray, List.getElem?_cons_zero, List.getElem?_cons_succ] at s0 s1 s2 s3 s4
         refine bodyPost_ret (v := .tuple #[.agg #[.int .i64 0, .int .i64 0, .int .i64 0, .slice none 0 0, .slice none 0 0], .int .i64 120]) (by simp [results, Tryz.results12, go_sem, s0, s1, s2, s3, s4]) rfl ?_
         rw [HM.out]
         exact ⟨none, 0, none, 0, rfl, fun h => absurd h (Nat.lt_irrefl 0), fun h => absurd h (Nat.lt_irrefl 0), (((((HB5.out.setCell (p := ⟨w.heap.size + 1, 0, none⟩) (by show w.heap.size ≤ w.heap.size + 1; omega) (.int .i64 0)).setCell (p := ⟨w.heap.size + 1, 1, none⟩) (by show w.heap.size ≤ w.heap.size + 1; omega) (.int .i64 0)).setCell (p := ⟨w.heap.size + 1, 2, none⟩) (by show w.heap.size ≤ w.heap.size + 1; omega) (.int .i64 0)).setCell (p := ⟨w.heap.size + 1, 3, none⟩) (by show w.heap.size ≤ w.heap.size + 1; omega) (.slice none 0 0)).setCell (p := ⟨w.heap.size + 1, 4, none⟩) (by show w.heap.size ≤ w.heap.size + 1; omega) (.slice none 0 0)), fun _ _ _ e => by cases e⟩
       subst g0
       by_cases g1 : 0 ≤ a0
       case neg =>
         have HM : Hid (R = (mt0, 120)) := HRR.out.trans (mt_err12 (by rw [HMB.out, decide_eq_false g1]; rfl))
         have g1b : a0 < 0 := by omega
         obtain ⟨r0, r1, r2, r3, r4⟩ := HR5.out.c5
         obtain ⟨f0, f1, f2, f3, f4⟩ := HR5.out.f5
         go_wp2_with fail
         have K0 := (((((HR5.out.set_ 0 (.int .i64 0)).set_ 1 (.int .i64 0)).set_ 2 (.int .i64 0)).set_ 3 (.slice none 0 0)).set_ 4 (.slice none 0 0))
         have s0 := K0.cell 0
         have s1 := K0.cell 1
         have s2 := K0.cell 2
         have s3 := K0.cell 3
         have s4 := K0.cell 4
         simp only [List.setIfInBounds_toArray, List.set_cons_zero, List.set_cons_succ, List.getElem?_toArray, List.getElem?_cons_zero, List.getElem?_cons_succ] at s0 s1 s2 s3 s4
         refine bodyPost_ret (v := .tuple #[.agg #[.int .i64 0, .int .i64 0, .int .i64 0, .slice none 0 0, .slice none 0 0], .int .i64 120]) (by simp [results, Tryz.results12, go_sem, s0, s1, s2, s3, s4]) rfl ?_
         rw [HM.out]
         exact ⟨none, 0, none, 0, rfl, fun h => absurd h (Nat.lt_irrefl 0), fun h => absurd h (Nat.lt_irrefl 0), (((((HB5.out.setCell (p := ⟨w.heap.size + 1, 0, none⟩) (by show w.heap.size ≤ w.heap.size + 1; omega) (.int .i64 0)).setCell (p := ⟨w.heap.size + 1, 1, none⟩) (by show w.heap.size ≤ w.heap.size + 1; omega) (.int .i64 0)).setCell (p := ⟨w.heap.size + 1, 2, none⟩) (by show w.heap.size ≤ w.heap.size + 1; omega) (.int .i64 0)).setCell (p := ⟨w.heap.size + 1, 3, none⟩) (by show w.heap.size ≤ w.heap.size + 1; omega) (.slice none 0 0)).setCell (p := ⟨w.heap.size + 1, 4, none⟩) (by show w.heap.size ≤ w.heap.size + 1; omega) (.slice none 0 0)), fun _ _ _ e => by cases e⟩
       have g1b : ¬ a0 < 0 := by omega
       by_cases g2 : 0 ≤ a1
       case neg =>
         have HM : Hid (R = (mt0, 120)) := HRR.out.trans (mt_err12 (by rw [HMB.out, decide_eq_false g2]; simp))
         have g2b : a1 < 0 := by omega
         obtain ⟨r0, r1, r2, r3, r4⟩ := HR5.out.c5
         obtain ⟨f0, f1, f2, f3, f4⟩ := HR5.out.f5
         go_wp2_with fail
         have K0 := (((((HR5.out.set_ 0 (.int .i64 0)).set_ 1 (.int .i64 0)).set_ 2 (.int .i64 0)).set_ 3 (.slice none 0 0)).set_ 4 (.slice none 0 0))
         have s0 := K0.cell 0
         have s1 := K0.cell 1
         have s2 := K0.cell 2
         have s3 := K0.cell 3
         have s4 := K0.cell 4
         simp only [List.setIfInBounds_toArray, List.set_cons_zero, List.set_cons_succ, List.getElem?_toArray, List.getElem?_cons_zero, List.getElem?_cons_succ] at s0 s1 s2 s3 s4
         refine bodyPost_ret (v := .tuple #[.agg #[.int .i64 0, .int .i64 0, .int .i64 0, .slice none 0 0, .slice none 0 0], .int .i64 120]) (by simp [results, Tryz.results12, go_sem, s0, s1, s2, s3, s4]) rfl ?_
         rw [HM.out]
         exact ⟨none, 0, none, 0, rfl, fun h => absurd h (Nat.lt_irrefl 0), fun h => absurd h (Nat.lt_irrefl 0), (((((HB5.out.setCell (p := ⟨w.heap.size + 1, 0, none⟩) (by show w.heap.size ≤ w.heap.size + 1; omega) (.int .i64 0)).setCell (p := ⟨w.heap.size + 1, 1, none⟩) (by show w.heap.size ≤ w.heap.size + 1; omega) (.int .i64 0)).setCell (p := ⟨w.heap.size + 1, 2, none⟩) (by show w.heap.size ≤ w.heap.size + 1; omega) (.int .i64 0)).setCell (p := ⟨w.heap.size + 1, 3, none⟩) (by show w.heap.size ≤ w.heap.size + 1; omega) (.slice none 0 0)).setCell (p := ⟨w.heap.size + 1, 4, none⟩) (by show w.heap.size ≤ w.heap.size + 1; omega) (.slice none 0 0)), fun _ _ _ e => by cases e⟩
       have g2b : ¬ a1 < 0 := by omega
       by_cases g3 : a1 ≤ a2
       case neg =>
         have HM : Hid (R = (mt0, 120)) := HRR.out.trans (mt_err12 (by rw [HMB.out, decide_eq_false g3]; simp))
         have g3b : a2 < a1 := by omega
         obtain ⟨r0, r1, r2, r3, r4⟩ := HR5.out.c5
         obtain ⟨f0, f1, f2, f3, f4⟩ := HR5.out.f5
         go_wp2_with fail
         have K0 := (((((HR5.out.set_ 0 (.int .i64 0)).set_ 1 (.int .i64 0)).set_ 2 (.int .i64 0)).set_ 3 (.slice none 0 0)).set_ 4 (.slice none 0 0))
         have s0 := K0.cell 0
         have s1 := K0.cell 1
         have s2 := K0.cell 2
         have s3 := K0.cell 3
         have s4 := K0.cell 4
         simp only [List.setIfInBounds_toArray, List.set_cons_zero, List.set_cons_succ, List.getElem?_toArray, List.getElem?_cons_zero, List.getElem?_cons_succ] at s0 s1 s2 s3 s4
         refine bodyPost_ret (v := .tuple #[.agg #[.int .i64 0, .int .i64 0, .int .i64 0, .slice none 0 0, .slice none 0 0], .int .i64 120]) (by simp [results, Tryz.results12, go_sem, s0, s1, s2, s3, s4]) rfl ?_
         rw [HM.out]
         exact ⟨none, 0, none, 0, rfl, fun h => absurd h (Nat.lt_irrefl 0), fun h => absurd h (Nat.lt_irrefl 0), (((((HB5.out.setCell (p := ⟨w.heap.size + 1, 0, none⟩) (by show w.heap.size ≤ w.heap.size + 1; omega) (.int .i64 0)).setCell (p := ⟨w.heap.size + 1, 1, none⟩) (by show w.heap.size ≤ w.heap.size + 1; omega) (.int .i64 0)).setCell (p := ⟨w.heap.size + 1, 2, none⟩) (by show w.heap.size ≤ w.heap.size + 1; omega) (.int .i64 0)).setCell (p := ⟨w.heap.size + 1, 3, none⟩) (by show w.heap.size ≤ w.heap.size + 1; omega) (.slice none 0 0)).setCell (p := ⟨w.heap.size + 1, 4, none⟩) (by show w.heap.size ≤ w.heap.size + 1; omega) (.slice none 0 0)), fun _ _ _ e => by cases e⟩
       have g3b : ¬ a2 < a1 := by omega
       go_wp2_with fail
       refine (check_any11 cd lits.length a2 CA cc _ HIN5.out (by have := HCL.out; omega)).mono ?_
       rintro e w6 ⟨rfl, hb⟩
       have HB6 := hid (then_w HB5.out hb)
       have HR6 := hid (HR5.out.later hb)
       have HIN6 := hid (HIN5.out.below hb)
       have OF6 := hid (OF.out.below hb)
       have LF6 := hid (LF.out.later hb)
       clear hb m0 m1 m2 m3 m4
       by_cases g4 : ck11 cd lits.length a2 = 0
       case neg =>
         have HM : Hid (R = (mt0, 120)) := HRR.out.trans (mt_err12 (by rw [HMB.out, decide_eq_false g4]; simp))
         have g4B : (ck11 cd lits.length a2 != 0) = true := bne_iff_ne.2 g4
         have g4C : (ck11 cd lits.length a2 == 0) = false := beq_eq_false_iff_ne.2 g4
         obtain ⟨r0, r1, r2, r3, r4⟩ := HR6.out.c5
         obtain ⟨f0, f1, f2, f3, f4⟩ := HR6.out.f5
         go_wp2_with fail
         have K0 := (((((HR6.out.set_ 0 (.int .i64 0)).set_ 1 (.int .i64 0)).set_ 2 (.int .i64 0)).set_ 3 (.slice none 0 0)).set_ 4 (.slice none 0 0))
         have s0 := K0.cell 0
         have s1 := K0.cell 1
         have s2 := K0.cell 2
         have s3 := K0.cell 3
         have s4 := K0.cell 4
         simp only [List.setIfInBounds_toArray, List.set_cons_zero, List.set_cons_succ, List.getElem?_toArray, List.getElem?_cons_zero, List.getElem?_cons_succ] at s0 s1 s2 s3 s4
         refine bodyPost_ret (v := .tuple #[.agg #[.int .i64 0, .int .i64 0, .int .i64 0, .slice none 0 0, .slice none 0 0], .int .i64 120]) (by simp [results, Tryz.results12, go_sem, s0, s1, s2, s3, s4]) rfl ?_
         rw [HM.out]
         exact ⟨none, 0, none, 0, rfl, fun h => absurd h (Nat.lt_irrefl 0), fun h => absurd h (Nat.lt_irrefl 0), (((((HB6.out.setCell (p := ⟨w.heap.size + 1, 0, none⟩) (by show w.heap.size ≤ w.heap.size + 1; omega) (.int .i64 0)).setCell (p := ⟨w.heap.size + 1, 1, none⟩) (by show w.heap.size ≤ w.heap.size + 1; omega) (.int .i64 0)).setCell (p := ⟨w.heap.size + 1, 2, none⟩) (by show w.heap.size ≤ w.heap.size + 1; omega) (.int .i64 0)).setCell (p := ⟨w.heap.size + 1, 3, none⟩) (by show w.heap.size ≤ w.heap.size + 1; omega) (.slice none 0 0)).setCell (p := ⟨w.heap.size + 1, 4, none⟩) (by show w.heap.size ≤ w.heap.size + 1; omega) (.slice none 0 0)), fun _ _ _ e => by cases e⟩
       have HM : Hid (R = (⟨a0, a1, a2, cd, lits⟩, 0)) := by
         show _ = _
         rw [HRR.out]
         unfold mt12
         rw [if_pos (by rw [HMB.out, decide_eq_true g1, decide_eq_true g2, decide_eq_true g3, decide_eq_true g4]; rfl), HX9.out]
       rw [g4]
       obtain ⟨m0, m1, m2, m3, m4⟩ := LF6.out.c5
       obtain ⟨r0, r1, r2, r3, r4⟩ := HR6.out.c5
       obtain ⟨f0, f1, f2, f3, f4⟩ := HR6.out.f5
       go_wp2_with fail
       have K0 := (((((HR6.out.set_ 0 (.int .i64 a0)).set_ 1 (.int .i64 a1)).set_ 2 (.int .i64 a2)).set_ 3 (.slice CA cd.length cc)).set_ 4 (.slice LA lits.length lc))
       have s0 := K0.cell 0
       have s1 := K0.cell 1
       have s2 := K0.cell 2
       have s3 := K0.cell 3
       have s4 := K0.cell 4
       simp only [List.setIfInBounds_toArray, List.set_cons_zero, List.set_cons_succ, List.getElem?_toArray, List.getElem?_cons_zero, List.getElem?_cons_succ] at s0 s1 s2 s3 s4
       refine bodyPost_ret (v := .tuple #[.agg #[.int .i64 a0, .int .i64 a1, .int .i64 a2, .slice CA cd.length cc, .slice LA lits.length lc], .int .i64 0]) (by simp [results, Tryz.results12, go_sem, s0, s1, s2, s3, s4]) rfl ?_
       rw [HM.out]
       exact ⟨CA, cc, LA, lc, rfl, ins_five12 HIN6.out (fun k o s e => by have := HFC.out k o s e; have := HRL.out; omega) (.int .i64 a0) (.int .i64 a1) (.int .i64 a2) (.slice CA cd.length cc) (.slice LA lits.length lc), ints_five12 OF6.out (fun k o s e => by have := HFL.out k o s e; have := HRL.out; have := HD4.out.size; omega) (.int .i64 a0) (.int .i64 a1) (.int .i64 a2) (.slice CA cd.length cc) (.slice LA lits.length lc), below_five12 HB6.out (by omega) (.int .i64 a0) (.int .i64 a1) (.int .i64 a2) (.slice CA cd.length cc) (.slice LA lits.length lc), fun k o s e => by have := HFC.out k o s e; have := HB3.out.size; omega⟩
end Go.Proofs.YtalfbdigjaibkaaGreat
