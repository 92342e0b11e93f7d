/- The document's Become walked. -/
import Derived.Test.YtnilempeldlieaaGreatJ04
import Derived.Test.YtnilempeldlieaaGreatJ09
import Derived.Test.YtnilempeldlieaaGreatJ06
import Derived.Test.YtnilempeldlieaaGreatJ15
import Derived.Test.YtnilempeldlieaaGreatJ10
namespace Go.Proofs.YtnilempeldlieaaGreat
open Go.RowKit
set_option maxRecDepth 100000
theorem then_r {w v w' : World} (h : Below w.heap.size w v) (hb : Below v.heap.size v w') : Below w.heap.size w w' := h.trans (hb.mono h.size)
theorem drew_set (w : World) (p : Addr) (v : Value) : w.drew.setCell p v = (w.setCell p v).drew := rfl
theorem set6_drew (w : World) (g i : Nat) (l : LO) : set6 w.drew g i l = (set6 w g i l).drew := by
  unfold set6
  simp only [drew_set]
set_option maxHeartbeats 1500000 in
theorem rbecome_own13 (h : Hp) (v u : Int) (A : Option Addr) (c : Nat) (w : World) (hs : ObsR w A h.objs) (fit : h.Fit) :
    Calls Tryz.prog 88 #[.agg #[.slice A h.objs.length c, .int .i64 h.cap, .int .i64 h.last], .int .i64 v, .int .i64 u] w (HeapOw13 w (beR h v u) (beE h v u)) := by
  have HB0 := hid (below_alloc2 w (.cells #[Value.slice A h.objs.length c, Value.int .i64 h.cap, Value.int .i64 h.last] 24) (.cells #[.slice none 0 0, .int .i64 0, .int .i64 0] 24))
  have HX0 := hid ((Lies.new w 24 #[Value.slice A h.objs.length c, Value.int .i64 h.cap, Value.int .i64 h.last]).alloc (.cells #[.slice none 0 0, .int .i64 0, .int .i64 0] 24))
  have HK0 : Hid (Lies ((w.alloc (.cells #[Value.slice A h.objs.length c, Value.int .i64 h.cap, Value.int .i64 h.last] 24)).alloc (.cells #[.slice none 0 0, .int .i64 0, .int .i64 0] 24)) (w.heap.size + 1) 24 #[.slice none 0 0, .int .i64 0, .int .i64 0]) := by
    have := Lies.new (w.alloc (.cells #[Value.slice A h.objs.length c, Value.int .i64 h.cap, Value.int .i64 h.last] 24)) 24 #[.slice none 0 0, .int .i64 0, .int .i64 0]
    simpa [Hid] using this
  have HS := hid hs
  have HF := hid fit
  clear hs fit
  cases hm : mayB h
  next =>
   have EE : Hid (beE h v u = 1) := by show _ = _; unfold beE; rw [if_pos hm]
   have ER : Hid (beR h v u = zeroH) := by show _ = _; unfold beR; rw [if_pos hm]
   have HM := hid hm
   clear hm
   go_enter Tryz.func88, Tryz.ntmps88
   go_wp2_with fail
   refine (rmay_any h A c _ (HS.out.below HB0.out) HF.out).mono ?_
   rintro e w1 ⟨rfl, hb⟩
   rw [HM.out]
   have HB1 := hid (HB0.out.trans (hb.mono HB0.out.size))
   have HK1 := hid (HK0.out.later hb)
   clear hb
   obtain ⟨u0, u1, u2⟩ := HK1.out.c3
   obtain ⟨uf0, uf1, uf2⟩ := HK1.out.f3
   go_wp2_with fail
   have K0 := (((HK1.out.set_ 0 (.slice none 0 0)).set_ 1 (.int .i64 0)).set_ 2 (.int .i64 0))
   have r0 := K0.cell 0
   have r1 := K0.cell 1
   have r2 := K0.cell 2
   simp only [List.setIfInBounds_toArray, List.set_cons_zero, List.set_cons_succ, List.getElem?_toArray, List.getElem?_cons_zero, List.getElem?_cons_succ] at r0 r1 r2
   refine bodyPost_ret (v := .tuple #[.agg #[.slice none 0 0, .int .i64 0, .int .i64 0], .int .i64 1]) (by simp [results, Tryz.results88, go_sem, r0, r1, r2]) rfl ?_
   rw [EE.out, ER.out]
   exact ⟨none, 0, rfl, ObsR.nil _, (((HB1.out).setCell (p := ⟨w.heap.size + 1, 0, none⟩) (by simp) _).setCell (p := ⟨w.heap.size + 1, 1, none⟩) (by simp) _).setCell (p := ⟨w.heap.size + 1, 2, none⟩) (by simp) _, fun e => absurd e (by decide)⟩
  next =>
   have HM := hid hm
   obtain ⟨ri, hri⟩ : ∃ ri, ri = refI h.objs.length v := ⟨_, rfl⟩
   obtain ⟨rk, hrk⟩ : ∃ rk, rk = refI h.objs.length u := ⟨_, rfl⟩
   have HRI := hid hri
   have HRK := hid hrk
   have hcase : ((ri < 0 ∨ (0 ≤ ri ∧ rk < 0)) ∧ beE h v u = 31 ∧ beR h v u = h) ∨ (0 ≤ ri ∧ 0 ≤ rk ∧ refB h.objs.length v = true ∧ refB h.objs.length u = true) := by
     rw [hri, hrk]
     by_cases hr : refB h.objs.length v = false ∨ refB h.objs.length u = false
     next =>
      refine .inl ⟨?_, by unfold beE; rw [if_neg (by rw [hm]; decide), if_pos hr], by unfold beR; rw [if_neg (by rw [hm]; decide), if_pos hr]⟩
      cases h1 : refB h.objs.length v
      next =>
       rw [refI_no h1]; exact .inl (by decide)
      next =>
       cases h2 : refB h.objs.length u
       next =>
        rw [refI_no h2, refI_nonneg h1]; exact .inr ⟨(refB_no h1).2.1, by decide⟩
       next =>
        rw [h1, h2] at hr; simp at hr
     next =>
      have h1 : refB h.objs.length v = true := by cases e : refB h.objs.length v <;> simp_all
      have h2 : refB h.objs.length u = true := by cases e : refB h.objs.length u <;> simp_all
      exact .inr ⟨by rw [refI_nonneg h1]; exact (refB_no h1).2.1, by rw [refI_nonneg h2]; exact (refB_no h2).2.1, h1, h2⟩
   clear hri hrk hm
   go_enter Tryz.func88, Tryz.ntmps88
   go_wp2_with fail
   refine (rmay_any h A c _ (HS.out.below HB0.out) HF.out).mono ?_
   rintro e w1 ⟨rfl, hb⟩
   rw [HM.out]
   have HB1 := hid (HB0.out.trans (hb.mono HB0.out.size))
   have HX1 := hid (HX0.out.later hb)
   have HK1 := hid (HK0.out.later hb)
   clear hb
   obtain ⟨x0, x1, x2⟩ := HX1.out.c3
   go_wp2_with fail
   refine wp_region_held_drew (S := (fun w' => w'.cell? ⟨w.heap.size, 0, none⟩ = some (.slice A h.objs.length c) ∧ w'.cell? ⟨w.heap.size, 1, none⟩ = some (.int .i64 h.cap) ∧ w'.cell? ⟨w.heap.size, 2, none⟩ = some (.int .i64 h.last) ∧ Below w1.heap.size w1 w')) (by kernel_rfl) ?_ (fun hHeld => ?_)
   next =>
    exact ⟨x0, x1, x2, (Below.refl _ _).drew⟩
   refine tkJ 0 ⟨some 16, .load 24 (.tmp 3), 24, "ref.go:181", #[], none⟩ ?_
   refine tkJ 1 ⟨some 17, .move (.tmp 1), 3, "ref.go:181", #[], none⟩ ?_
   refine tkJ 3 ⟨some 19, .load 24 (.tmp 3), 24, "ref.go:181", #[], none⟩ ?_
   refine tkJ 4 ⟨some 20, .move (.tmp 2), 3, "ref.go:181", #[], none⟩ ?_
   refine rdJ 2 ⟨some 18, .call { callee := .value (.func 32), args := #[.tmp 16, .tmp 17], argTypes := #[24, 3] }, 3, "ref.go:181", #[⟨0, .data⟩, ⟨1, .data⟩], none⟩ fun K hK => ?_
   go_simp
   go_at_call 32
   refine (rref_any h v A c _).mono ?_
   rintro e w' ⟨rfl, hb⟩
   rw [← HRI.out]
   refine hK.out _ _ ?_ (fun hHeld => ?_)
   next =>
    exact ⟨cell_later hb x0, cell_later hb x1, cell_later hb x2, then_r (Below.refl _ _).drew hb⟩
   clear hK K
   try simp only [apt12]
   have hH1 := hHeld
   clear hHeld hb
   have hHeld := hH1
   refine rdJ 5 ⟨some 21, .call { callee := .value (.func 32), args := #[.tmp 19, .tmp 20], argTypes := #[24, 3] }, 3, "ref.go:181", #[⟨3, .data⟩, ⟨4, .data⟩, ⟨2, .chain⟩], none⟩ fun K hK => ?_
   go_simp
   go_at_call 32
   refine (rref_any h u A c _).mono ?_
   rintro e w' ⟨rfl, hb⟩
   rw [← HRK.out]
   refine hK.out _ _ ?_ (fun hHeld => ?_)
   next =>
    exact ⟨cell_later hb hH1.1, cell_later hb hH1.2.1, cell_later hb hH1.2.2.1, hH1.2.2.2.trans (hb.mono hH1.2.2.2.size)⟩
   clear hK K
   try simp only [apt12]
   have hH2 := hHeld
   clear hHeld hb
   have hHeld := hH2
   refine tkJ 6 ⟨some 8, .assign (.tmp 18), 3, "ref.go:181", #[⟨2, .data⟩, ⟨5, .chain⟩, ⟨0, .phase⟩, ⟨1, .phase⟩, ⟨2, .phase⟩, ⟨3, .textOnly .lateStores⟩, ⟨4, .textOnly .lateStores⟩, ⟨5, .textOnly .lateStoresUnsure⟩], none⟩ ?_
   refine tkJ 7 ⟨some 9, .assign (.tmp 21), 3, "ref.go:181", #[⟨5, .data⟩, ⟨6, .chain⟩, ⟨0, .phase⟩, ⟨1, .phase⟩, ⟨2, .phase⟩, ⟨3, .phase⟩, ⟨4, .phase⟩, ⟨5, .phase⟩, ⟨6, .phase⟩], none⟩ ?_
   refine wpAnyH_done (by kernel_rfl) ?_ _
   have hHeldB := hHeld.2.2.2
   rename World => w4
   have HB4 := hid (HB1.out.trans (hHeldB.mono HB1.out.size))
   have HX4 := hid (HX1.out.later hHeldB)
   have HK4 := hid (HK1.out.later hHeldB)
   clear hHeld hHeldB hH1 hH2 x0 x1 x2
   obtain ⟨x0, x1, x2⟩ := HX4.out.c3
   rcases hcase with ⟨hneg, hE, hR⟩ | ⟨hi0, hk0, hr1, hr2⟩
   next =>
    have EE := hid hE
    have ER := hid hR
    clear hE hR
    obtain ⟨u0, u1, u2⟩ := HK4.out.c3
    obtain ⟨uf0, uf1, uf2⟩ := HK4.out.f3
    have hne01 : w.heap.size ≠ w.heap.size + 1 := by omega
    rcases hneg with hneg | ⟨hpos, hneg⟩
    all_goals
      go_wp2_with fail
      have K0 := (((HK4.out.set_ 0 (.slice A h.objs.length c)).set_ 1 (.int .i64 h.cap)).set_ 2 (.int .i64 h.last))
      have r0 := K0.cell 0
      have r1 := K0.cell 1
      have r2 := K0.cell 2
      simp only [List.setIfInBounds_toArray, List.set_cons_zero, List.set_cons_succ, List.getElem?_toArray, List.getElem?_cons_zero, List.getElem?_cons_succ] at r0 r1 r2
      refine bodyPost_ret (v := .tuple #[.agg #[.slice A h.objs.length c, .int .i64 h.cap, .int .i64 h.last], .int .i64 31]) (by simp [results, Tryz.results88, go_sem, r0, r1, r2]) rfl ?_
      rw [EE.out, ER.out]
      refine ⟨A, c, rfl, HS.out.below ?_, ?_, fun e => absurd e (by first | decide | assumption | exact HZ0.out)⟩ <;> exact (((HB4.out).setCell (p := ⟨w.heap.size + 1, 0, none⟩) (by simp) _).setCell (p := ⟨w.heap.size + 1, 1, none⟩) (by simp) _).setCell (p := ⟨w.heap.size + 1, 2, none⟩) (by simp) _
   next =>
    have EE : Hid (beE h v u = 0) := by show _ = _; unfold beE; rw [if_neg (by rw [HM.out]; decide), if_neg (by rw [hr1, hr2]; decide)]
    have ER : Hid (beR h v u = { h with objs := (h.objs.set (atV v).toNat (obAt h u)).set (atV u).toNat (obAt h v) }) := by show _ = _; unfold beR; rw [if_neg (by rw [HM.out]; decide), if_neg (by rw [hr1, hr2]; decide)]
    obtain ⟨i, hi, hvi, ho⟩ := obAt_get hr1
    obtain ⟨k, hk, huk, ho2⟩ := obAt_get hr2
    have hri : ri = (i : Int) := by rw [HRI.out, refI_nonneg hr1, hvi]
    have hrk : rk = (k : Int) := by rw [HRK.out, refI_nonneg hr2, huk]
    subst hri
    subst hrk
    have HVI := hid hvi
    have HUK := hid huk
    have HO1 := hid ho
    have HO2 := hid ho2
    clear hr1 hr2 hvi huk ho ho2
    go_wp2_with fail
    refine (copy_h h A c _ (HS.out.below HB4.out) HM.out).mono ?_
    rintro e w5 ⟨A5, c5, ls, rfl, hls, hown, hb5⟩
    have HB5 := hid (HB4.out.trans (hb5.mono HB4.out.size))
    have HK5 := hid (HK4.out.later hb5)
    have hll : ls.length = h.objs.length := by have := congrArg List.length hls; simpa using this
    have hil : i < ls.length := by omega
    have hkl : k < ls.length := by omega
    obtain ⟨l, hl⟩ : ∃ l, ls[i]? = some l := ⟨_, List.getElem?_eq_getElem hil⟩
    obtain ⟨m, hm⟩ : ∃ m, ls[k]? = some m := ⟨_, List.getElem?_eq_getElem hkl⟩
    obtain ⟨g, cg, hvv, hg0, hg1⟩ := hown.row.form (by omega)
    simp only [Value.slice.injEq, true_and] at hvv
    obtain ⟨rfl, rfl⟩ := hvv
    have hw45 : w4.heap.size ≤ w5.heap.size := hb5.size
    have hw14 : w.heap.size + 1 < w4.heap.size := HK4.out.lt
    have HA5 := hid (below_alloc w5 (.cells #[Value.slice (some ⟨g, 0, none⟩) h.objs.length c5, Value.int .i64 h.cap, Value.int .i64 h.last] 24))
    have HOA := hid (hown.later HA5.out)
    have q := fun j (hj : j < 6) => (HOA.out.row.cellAt (i * 6 + j) (by omega)).trans (rowOf_get ls i j _ hl hj)
    have q0 := q 0 (by omega)
    have q1 := q 1 (by omega)
    have q2 := q 2 (by omega)
    have q3 := q 3 (by omega)
    have q4 := q 4 (by omega)
    have q5 := q 5 (by omega)
    simp only [LO.cells, List.getElem?_cons_zero, List.getElem?_cons_succ, Nat.add_zero] at q0 q1 q2 q3 q4 q5
    have HLS := hid hls
    have HL := hid hl
    have HM6 := hid hm
    have HL5 := hid hll
    clear q hls hl hm hown hb5 hll x0 x1 x2
    have hilen : (i : Int) < h.objs.length := by omega
    have hklen : (k : Int) < h.objs.length := by omega
    go_upto_region 8 with fail
    obtain ⟨W6, hW6⟩ : ∃ W6, W6 = (w5.alloc (.cells #[Value.slice (some ⟨g, 0, none⟩) h.objs.length c5, Value.int .i64 h.cap, Value.int .i64 h.last] 24)).alloc (.cells #[.int .i64 l.o.cls, .int .i64 l.o.kind, .slice l.S l.o.slots.length l.c, .string l.o.text, .int .i64 l.o.bits, .int .i64 l.o.hash] 41) := ⟨_, rfl⟩
    have hA6 : Below w5.heap.size w5 W6 := by rw [hW6]; exact (below_alloc w5 _).alloc (by simp) _
    have hG6 : Lies W6 w5.heap.size 24 #[Value.slice (some ⟨g, 0, none⟩) h.objs.length c5, Value.int .i64 h.cap, Value.int .i64 h.last] := by rw [hW6]; exact (Lies.new w5 24 _).alloc _
    have hX6 : Lies W6 (w5.heap.size + 1) 41 #[.int .i64 l.o.cls, .int .i64 l.o.kind, .slice l.S l.o.slots.length l.c, .string l.o.text, .int .i64 l.o.bits, .int .i64 l.o.hash] := by
      rw [hW6]
      have := Lies.new (w5.alloc (.cells #[Value.slice (some ⟨g, 0, none⟩) h.objs.length c5, Value.int .i64 h.cap, Value.int .i64 h.last] 24)) 41 #[.int .i64 l.o.cls, .int .i64 l.o.kind, .slice l.S l.o.slots.length l.c, .string l.o.text, .int .i64 l.o.bits, .int .i64 l.o.hash]
      simpa using this
    have hO6 : OwnH W6 w4.heap.size (some ⟨g, 0, none⟩) c5 ls := by rw [hW6]; exact HOA.out.later (below_alloc _ _)
    rw [← hW6]
    have HA6 := hid hA6
    have HG6 := hid hG6
    have HX6 := hid hX6
    have HO6 := hid hO6
    have HK6 := hid (HK5.out.later hA6)
    have HB6 := hid (HB5.out.trans (hA6.mono HB5.out.size))
    clear hW6 hA6 hG6 hX6 hO6 q0 q1 q2 q3 q4 q5
    have qa := fun j (hj : j < 6) => (HO6.out.row.cellAt (i * 6 + j) (by omega)).trans (rowOf_get ls i j _ HL.out hj)
    have qb := fun j (hj : j < 6) => (HO6.out.row.cellAt (k * 6 + j) (by omega)).trans (rowOf_get ls k j _ HM6.out hj)
    have q0 := qa 0 (by omega)
    have p0 := qb 0 (by omega)
    have qf0 := HO6.out.row.frozenAt (i * 6 + 0)
    have q1 := qa 1 (by omega)
    have p1 := qb 1 (by omega)
    have qf1 := HO6.out.row.frozenAt (i * 6 + 1)
    have q2 := qa 2 (by omega)
    have p2 := qb 2 (by omega)
    have qf2 := HO6.out.row.frozenAt (i * 6 + 2)
    have q3 := qa 3 (by omega)
    have p3 := qb 3 (by omega)
    have qf3 := HO6.out.row.frozenAt (i * 6 + 3)
    have q4 := qa 4 (by omega)
    have p4 := qb 4 (by omega)
    have qf4 := HO6.out.row.frozenAt (i * 6 + 4)
    have q5 := qa 5 (by omega)
    have p5 := qb 5 (by omega)
    have qf5 := HO6.out.row.frozenAt (i * 6 + 5)
    simp only [LO.cells, List.getElem?_cons_zero, List.getElem?_cons_succ, Nat.add_zero] at q0 q1 q2 q3 q4 q5 p0 p1 p2 p3 p4 p5 qf0
    have z0 := HG6.out.cell 0
    simp only [List.getElem?_toArray, List.getElem?_cons_zero] at z0
    have hgb : w5.heap.size ≠ g := by omega
    clear qa qb
    go_wp2_with fail
    refine wp_region_held_drew (S := (fun w' => w'.cell? ⟨w5.heap.size, 0, none⟩ = some (.slice (some ⟨g, 0, none⟩) h.objs.length c5))) (by kernel_rfl) ?_ (fun hH0 => ?_)
    next =>
     exact z0
    refine tkJ 0 ⟨some 36, .fieldAddr 24 (.tmp 10) 0, 0, "ref.go:187", #[], none⟩ ?_
    refine tkJ 1 ⟨some 37, .load 22 (.tmp 36), 22, "ref.go:187", #[⟨0, .data⟩], none⟩ ?_
    refine tkJ 2 ⟨some 38, .move (.tmp 8), 3, "ref.go:187", #[], none⟩ ?_
    refine tkJ 3 ⟨some 39, .fieldAddr 24 (.tmp 10) 0, 0, "ref.go:187", #[], none⟩ ?_
    refine tkJ 4 ⟨some 40, .load 22 (.tmp 39), 22, "ref.go:187", #[⟨3, .data⟩], none⟩ ?_
    refine tkJ 5 ⟨some 41, .move (.tmp 9), 3, "ref.go:187", #[], none⟩ ?_
    refine tkJ 6 ⟨some 42, .indexAddr 22 (.tmp 40) (.tmp 41), 0, "ref.go:187", #[⟨4, .data⟩, ⟨5, .data⟩], none⟩ ?_
    refine rdJ 7 ⟨some 43, .load 41 (.tmp 42), 41, "ref.go:187", #[⟨6, .data⟩], none⟩ fun K hK => ?_
    go_simp
    refine hK.out _ _ ?_ (fun hH1 => ?_)
    next =>
     exact hH0
    clear hK K
    try simp only [apt12]
    refine tkJ 8 ⟨some 44, .indexAddr 22 (.tmp 37) (.tmp 38), 0, "ref.go:187", #[⟨1, .data⟩, ⟨2, .data⟩, ⟨0, .phase⟩, ⟨1, .phase⟩, ⟨2, .phase⟩, ⟨3, .phase⟩, ⟨4, .phase⟩, ⟨5, .phase⟩, ⟨6, .phase⟩, ⟨7, .phase⟩], none⟩ ?_
    refine rdJ 9 ⟨none, .store 41 (.tmp 44) (.tmp 43), 0, "ref.go:187", #[⟨8, .data⟩, ⟨7, .data⟩, ⟨0, .phase⟩, ⟨1, .phase⟩, ⟨2, .phase⟩, ⟨3, .phase⟩, ⟨4, .phase⟩, ⟨5, .phase⟩, ⟨6, .phase⟩, ⟨7, .phase⟩], none⟩ fun K hK => ?_
    go_simp
    refine hK.out _ _ ?_ (fun hH2 => ?_)
    next =>
     exact cell_later (Below.refl _ _).drew (cell_set6 (i := i) z0 hgb m)
    clear hK K
    try simp only [apt12]
    refine wpAnyH_done (by kernel_rfl) ?_ _
    obtain ⟨V, hV⟩ : ∃ V : World, V = World.drew (World.setCell (World.setCell (World.setCell (World.setCell (World.setCell (World.setCell W6 ⟨g, i * 6, none⟩ (.int .i64 m.o.cls)) ⟨g, i * 6 + 1, none⟩ (.int .i64 m.o.kind)) ⟨g, i * 6 + 2, none⟩ (.slice m.S m.o.slots.length m.c)) ⟨g, i * 6 + 3, none⟩ (.string m.o.text)) ⟨g, i * 6 + 4, none⟩ (.int .i64 m.o.bits)) ⟨g, i * 6 + 5, none⟩ (.int .i64 m.o.hash)) := ⟨_, rfl⟩
    rw [← hV]
    have hV7 : V = (set6 W6 g i m).drew := hV
    clear hV hH0 hH1 hH2
    have hrow : V.ownsRow w4.heap.size 41 6 (.slice (some ⟨g, 0, none⟩) ls.length c5) ls.length (put6 (rowOf ls) i m) := by rw [hV7]; exact own_later (own_set6 HO6.out.row m) (Below.refl _ _).drew
    have hplen : (put6 (rowOf ls) i m).length = ls.length * 6 := by simp [put6, rowOf_length]
    have hXV : Lies V (w5.heap.size + 1) 41 #[.int .i64 l.o.cls, .int .i64 l.o.kind, .slice l.S l.o.slots.length l.c, .string l.o.text, .int .i64 l.o.bits, .int .i64 l.o.hash] := by rw [hV7]; exact (blk_set6 (i := i) HX6.out (by omega) m).drew
    have hGV : Lies V w5.heap.size 24 #[Value.slice (some ⟨g, 0, none⟩) h.objs.length c5, Value.int .i64 h.cap, Value.int .i64 h.last] := by rw [hV7]; exact (blk_set6 (i := i) HG6.out hgb m).drew
    have hex : ∀ j, j < 6 → ∃ y, V.cell? ⟨g, k * 6 + j, none⟩ = some y := fun j hj => ⟨_, (hrow.cellAt (k * 6 + j) (by omega)).trans (List.getElem?_eq_getElem (by rw [hplen]; omega))⟩
    obtain ⟨y0, s0⟩ := hex 0 (by omega)
    have sf0 := hrow.frozenAt (k * 6 + 0)
    have e0 := hXV.cell 0
    obtain ⟨y1, s1⟩ := hex 1 (by omega)
    have sf1 := hrow.frozenAt (k * 6 + 1)
    have e1 := hXV.cell 1
    obtain ⟨y2, s2⟩ := hex 2 (by omega)
    have sf2 := hrow.frozenAt (k * 6 + 2)
    have e2 := hXV.cell 2
    obtain ⟨y3, s3⟩ := hex 3 (by omega)
    have sf3 := hrow.frozenAt (k * 6 + 3)
    have e3 := hXV.cell 3
    obtain ⟨y4, s4⟩ := hex 4 (by omega)
    have sf4 := hrow.frozenAt (k * 6 + 4)
    have e4 := hXV.cell 4
    obtain ⟨y5, s5⟩ := hex 5 (by omega)
    have sf5 := hrow.frozenAt (k * 6 + 5)
    have e5 := hXV.cell 5
    have zz0 := hGV.cell 0
    simp only [Nat.add_zero] at s0 sf0
    simp only [List.getElem?_toArray, List.getElem?_cons_zero, List.getElem?_cons_succ] at e0 e1 e2 e3 e4 e5 zz0
    have HV7 := hid hV7
    have hgx : w5.heap.size + 1 ≠ g := by omega
    clear hV7 hrow hplen hXV hGV hex z0 q0 q1 q2 q3 q4 q5 p0 p1 p2 p3 p4 p5 qf0 qf1 qf2 qf3 qf4 qf5
    go_upto_region 10 with fail
    obtain ⟨V2, hV2⟩ : ∃ V2 : World, V2 = (World.setCell (World.setCell (World.setCell (World.setCell (World.setCell (World.setCell V ⟨g, k * 6, none⟩ (.int .i64 l.o.cls)) ⟨g, k * 6 + 1, none⟩ (.int .i64 l.o.kind)) ⟨g, k * 6 + 2, none⟩ (.slice l.S l.o.slots.length l.c)) ⟨g, k * 6 + 3, none⟩ (.string l.o.text)) ⟨g, k * 6 + 4, none⟩ (.int .i64 l.o.bits)) ⟨g, k * 6 + 5, none⟩ (.int .i64 l.o.hash)) := ⟨_, rfl⟩
    rw [← hV2]
    have hV8 : V2 = set6 (set6 W6 g i m).drew g k l := by rw [← HV7.out]; exact hV2
    clear hV2 s0 s1 s2 s3 s4 s5 sf0 sf1 sf2 sf3 sf4 sf5 e0 e1 e2 e3 e4 e5 zz0
    rw [set6_drew] at hV8
    have hO8 : OwnH V2 w4.heap.size (some ⟨g, 0, none⟩) c5 ((ls.set i m).set k l) := by rw [hV8]; exact (HO6.out.swap HL.out HM6.out).later (Below.refl _ _).drew
    have hB8 : Below w.heap.size w V2 := by rw [hV8]; exact (below_set6 (i := k) (below_set6 (i := i) HB6.out (by omega) m) (by omega) l).drew
    have hK8 : Lies V2 (w.heap.size + 1) 24 #[.slice none 0 0, .int .i64 0, .int .i64 0] := by rw [hV8]; exact (blk_set6 (i := k) (blk_set6 (i := i) HK6.out (by omega) m) (by omega) l).drew
    have hG8 : Lies V2 w5.heap.size 24 #[Value.slice (some ⟨g, 0, none⟩) h.objs.length c5, Value.int .i64 h.cap, Value.int .i64 h.last] := by rw [hV8]; exact (blk_set6 (i := k) (blk_set6 (i := i) HG6.out hgb m) hgb l).drew
    have HO8 := hid hO8
    have HB8 := hid hB8
    have HK8 := hid hK8
    have z0 := hG8.cell 0
    have z1 := hG8.cell 1
    have z2 := hG8.cell 2
    have u0 := hK8.cell 0
    have uf0 := hK8.frozen 0
    have u1 := hK8.cell 1
    have uf1 := hK8.frozen 1
    have u2 := hK8.cell 2
    have uf2 := hK8.frozen 2
    simp only [List.getElem?_toArray, List.getElem?_cons_zero, List.getElem?_cons_succ] at z0 z1 z2 u0 u1 u2
    clear hV8 hO8 hB8 hK8 hG8
    go_wp2_with fail
    have K0 := (((HK8.out.set_ 0 (.slice (some ⟨g, 0, none⟩) h.objs.length c5)).set_ 1 (.int .i64 h.cap)).set_ 2 (.int .i64 h.last))
    have r0 := K0.cell 0
    have r1 := K0.cell 1
    have r2 := K0.cell 2
    simp only [List.setIfInBounds_toArray, List.set_cons_zero, List.set_cons_succ, List.getElem?_toArray, List.getElem?_cons_zero, List.getElem?_cons_succ] at r0 r1 r2
    refine bodyPost_ret (v := .tuple #[.agg #[.slice (some ⟨g, 0, none⟩) h.objs.length c5, .int .i64 h.cap, .int .i64 h.last], .int .i64 0]) (by simp [results, Tryz.results88, go_sem, r0, r1, r2]) rfl ?_
    rw [EE.out, ER.out]
    refine of_own13 (A := some ⟨g, 0, none⟩) (c := c5) (ls := (ls.set i m).set k l) (base := w4.heap.size) (by simp) ?_ ?_ ((((HB8.out).setCell (p := ⟨w.heap.size + 1, 0, none⟩) (by simp) _).setCell (p := ⟨w.heap.size + 1, 1, none⟩) (by simp) _).setCell (p := ⟨w.heap.size + 1, 2, none⟩) (by simp) _) HB4.out.size
    next =>
     exact ((HO8.out.low (p := ⟨w.heap.size + 1, 0, none⟩) (by simp; omega) _).low (p := ⟨w.heap.size + 1, 1, none⟩) (by simp; omega) _).low (p := ⟨w.heap.size + 1, 2, none⟩) (by simp; omega) _
    next =>
     rw [swap_objs HLS.out, HVI.out, HUK.out]
     show _ = (h.objs.set (i : Int).toNat _).set (k : Int).toNat _
     simp only [Int.toNat_natCast]
     rw [show m.o = obAt h u from obj_of HLS.out HM6.out HO2.out, show l.o = obAt h v from obj_of HLS.out HL.out HO1.out]
end Go.Proofs.YtnilempeldlieaaGreat
