/- CanonLeast walked: whatever two heaps with roots, it answers true. -/
import Derived.Test.YtododpdkbdndoaaFX6
import Derived.Test.YtododpdkbdndoaaR
import Derived.Test.YtododpdkbdndoaaN
import Derived.Test.YtododpdkbdndoaaNL
import Derived.Test.YtododpdkbdndoaaRD
import Derived.Test.YtododpdkbdndoaaNM
namespace Go.Proofs.Ytododpdkbdndoaa
open Go.RowKit
set_option maxRecDepth 100000
theorem cnh_fit (h : Hp) (rs : List Int) : (cnH h rs).Fit := by
  obtain ⟨h1, h2⟩ := cn_fit h rs
  exact ⟨by omega, fun o ho => by have := h2 o ho; show o.slots.length ≤ _; omega⟩
theorem cnl_le (h : Hp) (rs : List Int) : (cnL h rs).length ≤ rs.length := by
  unfold cnL; split <;> simp
structure OwnI (w : World) (base : Nat) (A : Option Addr) (c : Nat) (xs : List Int) : Prop where
  row : w.ownsRow base 3 1 (.slice A xs.length c) xs.length (xs.map (Value.int .i64))
theorem OwnI.later {w w' : World} {base : Nat} {A : Option Addr} {c : Nat} {xs : List Int} (h : OwnI w base A c xs) (hb : Below w.heap.size w w') : OwnI w' base A c xs := ⟨own_later h.row hb⟩
theorem OwnI.off {w : World} {base g : Nat} {A : Option Addr} {c : Nat} {xs : List Int} {cs : Array Value} (h : OwnI w base A c xs) (hB : Lies w g 24 cs) (o : Nat) (u : Value) : OwnI (w.setCell ⟨g, o, none⟩ u) base A c xs := ⟨ownsRow_setCell_other h.row (own_blk_ne h.row hB (by decide)) _⟩
theorem OwnI.ints {w : World} {base : Nat} {A : Option Addr} {c : Nat} {xs : List Int} (h : OwnI w base A c xs) : IntsR w A xs := own_ints h.row
theorem of_two {h k : Hp} {rs L : List Int} {en : Int} (hc : cnH h rs = k) (hl : cnL h rs = L) (he : liE h rs = en) (A R : Option Addr) (c d : Nat) (w : World) (hs : ObsR w A h.objs) (fit : h.Fit) (hr : IntsR w R rs) (hk : rs.length ≤ 100000) :
    Calls Try.prog 38 #[.agg #[.slice A h.objs.length c, .int .i64 h.cap, .int .i64 h.last], .slice R rs.length d] w fun e w' => ∃ A' c' R' d' ls, e = .returned (.tuple #[.agg #[.slice A' k.objs.length c', .int .i64 k.cap, .int .i64 k.last], .slice R' L.length d', .int .i64 en]) ∧ ls.map (·.o) = k.objs ∧ OwnH w' w.heap.size A' c' ls ∧ OwnI w' w.heap.size R' d' L ∧ Below w.heap.size w w' := by
  subst hc hl he
  exact (of_own h rs A R c d w hs fit hr hk).mono fun _ _ ⟨A', c', R', d', ls, h1, h2, h3, h4, h5⟩ => ⟨A', c', R', d', ls, h1, h2, h3, ⟨h4⟩, h5⟩
theorem same0 {k m : Hp} {x : Bool} (hx : x = true ↔ k.objs = m.objs) (A B : Option Addr) (c c' : Nat) (w : World) (hs : ObsR w A k.objs) (ht : ObsR w B m.objs) (fa : k.Fit) (fb : m.Fit) :
    Calls Try.prog 29 #[.agg #[.slice A k.objs.length c, .int .i64 0, .int .i64 0], .agg #[.slice B m.objs.length c', .int .i64 0, .int .i64 0]] w fun e w' => e = .returned (.bool x) ∧ Below w.heap.size w w' := by
  refine (same_dec ⟨k.objs, 0, 0⟩ ⟨m.objs, 0, 0⟩ A B c c' w hs ht fa fb rfl rfl).mono fun e w' ⟨⟨y, he, hy⟩, hb⟩ => ⟨?_, hb⟩
  have : y = x := by cases x <;> cases y <;> simp_all
  rw [he, this]
theorem rints0 {xs ys : List Int} {x : Bool} (hx : x = true ↔ xs = ys) (A B : Option Addr) (c d : Nat) (w : World) (ha : IntsR w A xs) (hb : IntsR w B ys) (hl : xs.length ≤ 9223372036854775807) :
    Calls Try.prog 40 #[.slice A xs.length c, .slice B ys.length d] w fun e w' => e = .returned (.bool x) ∧ Below w.heap.size w w' := by
  refine (rints_any xs ys A B c d w ha hb hl).mono fun e w' ⟨he, hb⟩ => ⟨?_, hb⟩
  have : decide (xs = ys) = x := by cases x <;> simp_all
  rw [he, this]
set_option maxHeartbeats 3000000 in
theorem cleast_any (a b : Hp) (p q : List Int) (A P B Q : Option Addr) (c dp d dq : Nat) (w : World) (hs0 : ObsR w A a.objs) (ft0 : a.Fit) (hr0 : IntsR w P p) (hl0 : p.length ≤ 9223372036854775807) (hs1 : ObsR w B b.objs) (ft1 : b.Fit) (hr1 : IntsR w Q q) (hl1 : q.length ≤ 9223372036854775807) :
    Calls Try.prog 12 #[.agg #[.slice A a.objs.length c, .int .i64 a.cap, .int .i64 a.last, .slice P p.length dp], .agg #[.slice B b.objs.length d, .int .i64 b.cap, .int .i64 b.last, .slice Q q.length dq]] w fun e w' => e = .returned (.bool true) ∧ Below w.heap.size w w' := by
  obtain ⟨w0, hw0⟩ : ∃ w0, w0 = ((w.alloc (.cells #[.slice A a.objs.length c, .int .i64 a.cap, .int .i64 a.last, .slice P p.length dp] 53)).alloc (.cells #[.slice B b.objs.length d, .int .i64 b.cap, .int .i64 b.last, .slice Q q.length dq] 53)) := ⟨_, rfl⟩
  have HB0 : Hid (Below w.heap.size w w0) := by show Below _ _ _; rw [hw0]; exact below_alloc2 w _ _
  have X0 : Hid (Lies w0 (w.heap.size) 53 #[.slice A a.objs.length c, .int .i64 a.cap, .int .i64 a.last, .slice P p.length dp]) := by
    show Lies _ _ _ _
    rw [hw0]
    have := (Lies.new w 53 #[.slice A a.objs.length c, .int .i64 a.cap, .int .i64 a.last, .slice P p.length dp]).alloc (.cells #[.slice B b.objs.length d, .int .i64 b.cap, .int .i64 b.last, .slice Q q.length dq] 53)
    simpa using this
  have OX0 := hid (hs0.below HB0.out)
  have RX0 := hid (hr0.below HB0.out)
  have HFX := hid ft0
  have hfl0 := ft0.1
  have Y0 : Hid (Lies w0 (w.heap.size + 1) 53 #[.slice B b.objs.length d, .int .i64 b.cap, .int .i64 b.last, .slice Q q.length dq]) := by
    show Lies _ _ _ _
    rw [hw0]
    have := Lies.new (w.alloc (.cells #[.slice A a.objs.length c, .int .i64 a.cap, .int .i64 a.last, .slice P p.length dp] 53)) 53 #[.slice B b.objs.length d, .int .i64 b.cap, .int .i64 b.last, .slice Q q.length dq]
    simpa using this
  have OY0 := hid (hs1.below HB0.out)
  have RY0 := hid (hr1.below HB0.out)
  have HFY := hid ft1
  have hfl1 := ft1.1
  have SX := hid hs0
  have SXR := hid hr0
  have SY := hid hs1
  have SYR := hid hr1
  clear hs0 ft0 hr0 hs1 ft1 hr1
  go_enter Try.func12, Try.ntmps12
  go_upto_region 1 with fail
  rw [← hw0]
  clear hw0
  have x0 := X0.out.cell 0
  have x1 := X0.out.cell 1
  have x2 := X0.out.cell 2
  have x3 := X0.out.cell 3
  have y0 := Y0.out.cell 0
  have y1 := Y0.out.cell 1
  have y2 := Y0.out.cell 2
  have y3 := Y0.out.cell 3
  simp only [List.getElem?_toArray, List.getElem?_cons_zero, List.getElem?_cons_succ] at x0 x1 x2 x3 y0 y1 y2 y3
  go_wp2_with fail
  refine (fixed6_any _).mono ?_
  rintro e w1 ⟨rfl, hb⟩
  have HB1 := hid (HB0.out.trans (hb.mono HB0.out.size))
  have X1 := hid (X0.out.later hb)
  have Y1 := hid (Y0.out.later hb)
  have OX1 := hid (OX0.out.below hb)
  have RX1 := hid (RX0.out.below hb)
  have OY1 := hid (OY0.out.below hb)
  have RY1 := hid (RY0.out.below hb)
  clear x0 x1 x2 x3 y0 y1 y2 y3
  clear hb
  have x0 := X1.out.cell 0
  have x1 := X1.out.cell 1
  have x2 := X1.out.cell 2
  have x3 := X1.out.cell 3
  have y0 := Y1.out.cell 0
  have y1 := Y1.out.cell 1
  have y2 := Y1.out.cell 2
  have y3 := Y1.out.cell 3
  simp only [List.getElem?_toArray, List.getElem?_cons_zero, List.getElem?_cons_succ] at x0 x1 x2 x3 y0 y1 y2 y3
  go_wp2_with fail
  refine (small_ok a A c _ OX1.out HFX.out).mono ?_
  rintro e w2 ⟨sm, rfl, hb⟩
  have HB2 := hid (HB1.out.trans (hb.mono HB1.out.size))
  have X2 := hid (X1.out.later hb)
  have Y2 := hid (Y1.out.later hb)
  have OX2 := hid (OX1.out.below hb)
  have RX2 := hid (RX1.out.below hb)
  have OY2 := hid (OY1.out.below hb)
  have RY2 := hid (RY1.out.below hb)
  clear x0 x1 x2 x3 y0 y1 y2 y3
  clear hb
  have x0 := X2.out.cell 0
  have x1 := X2.out.cell 1
  have x2 := X2.out.cell 2
  have x3 := X2.out.cell 3
  have y0 := Y2.out.cell 0
  have y1 := Y2.out.cell 1
  have y2 := Y2.out.cell 2
  have y3 := Y2.out.cell 3
  simp only [List.getElem?_toArray, List.getElem?_cons_zero, List.getElem?_cons_succ] at x0 x1 x2 x3 y0 y1 y2 y3
  cases sm
  · go_wp2_with fail
    refine (fixed6_any _).mono ?_
    rintro e w3 ⟨rfl, hb⟩
    have HB3 := hid (HB2.out.trans (hb.mono HB2.out.size))
    have X3 := hid (X2.out.later hb)
    have Y3 := hid (Y2.out.later hb)
    have OX3 := hid (OX2.out.below hb)
    have RX3 := hid (RX2.out.below hb)
    have OY3 := hid (OY2.out.below hb)
    have RY3 := hid (RY2.out.below hb)
    clear x0 x1 x2 x3 y0 y1 y2 y3
    clear hb
    have x0 := X3.out.cell 0
    have x1 := X3.out.cell 1
    have x2 := X3.out.cell 2
    have x3 := X3.out.cell 3
    have y0 := Y3.out.cell 0
    have y1 := Y3.out.cell 1
    have y2 := Y3.out.cell 2
    have y3 := Y3.out.cell 3
    simp only [List.getElem?_toArray, List.getElem?_cons_zero, List.getElem?_cons_succ] at x0 x1 x2 x3 y0 y1 y2 y3
    go_wp2_with fail
    go_ret
    exact ⟨rfl, HB3.out⟩
  · go_wp2_with fail
    refine (small_ok b B d _ OY2.out HFY.out).mono ?_
    rintro e w3 ⟨sm, rfl, hb⟩
    have HB3 := hid (HB2.out.trans (hb.mono HB2.out.size))
    have X3 := hid (X2.out.later hb)
    have Y3 := hid (Y2.out.later hb)
    have OX3 := hid (OX2.out.below hb)
    have RX3 := hid (RX2.out.below hb)
    have OY3 := hid (OY2.out.below hb)
    have RY3 := hid (RY2.out.below hb)
    clear x0 x1 x2 x3 y0 y1 y2 y3
    clear hb
    have x0 := X3.out.cell 0
    have x1 := X3.out.cell 1
    have x2 := X3.out.cell 2
    have x3 := X3.out.cell 3
    have y0 := Y3.out.cell 0
    have y1 := Y3.out.cell 1
    have y2 := Y3.out.cell 2
    have y3 := Y3.out.cell 3
    simp only [List.getElem?_toArray, List.getElem?_cons_zero, List.getElem?_cons_succ] at x0 x1 x2 x3 y0 y1 y2 y3
    cases sm
    · go_wp2_with fail
      refine (fixed6_any _).mono ?_
      rintro e w4 ⟨rfl, hb⟩
      have HB4 := hid (HB3.out.trans (hb.mono HB3.out.size))
      have X4 := hid (X3.out.later hb)
      have Y4 := hid (Y3.out.later hb)
      have OX4 := hid (OX3.out.below hb)
      have RX4 := hid (RX3.out.below hb)
      have OY4 := hid (OY3.out.below hb)
      have RY4 := hid (RY3.out.below hb)
      clear x0 x1 x2 x3 y0 y1 y2 y3
      clear hb
      have x0 := X4.out.cell 0
      have x1 := X4.out.cell 1
      have x2 := X4.out.cell 2
      have x3 := X4.out.cell 3
      have y0 := Y4.out.cell 0
      have y1 := Y4.out.cell 1
      have y2 := Y4.out.cell 2
      have y3 := Y4.out.cell 3
      simp only [List.getElem?_toArray, List.getElem?_cons_zero, List.getElem?_cons_succ] at x0 x1 x2 x3 y0 y1 y2 y3
      go_wp2_with fail
      go_ret
      exact ⟨rfl, HB4.out⟩
    · by_cases q1 : 40 < a.objs.length
      · go_wp2_with fail
        refine (fixed6_any _).mono ?_
        rintro e w4 ⟨rfl, hb⟩
        have HB4 := hid (HB3.out.trans (hb.mono HB3.out.size))
        have X4 := hid (X3.out.later hb)
        have Y4 := hid (Y3.out.later hb)
        have OX4 := hid (OX3.out.below hb)
        have RX4 := hid (RX3.out.below hb)
        have OY4 := hid (OY3.out.below hb)
        have RY4 := hid (RY3.out.below hb)
        clear x0 x1 x2 x3 y0 y1 y2 y3
        clear hb
        have x0 := X4.out.cell 0
        have x1 := X4.out.cell 1
        have x2 := X4.out.cell 2
        have x3 := X4.out.cell 3
        have y0 := Y4.out.cell 0
        have y1 := Y4.out.cell 1
        have y2 := Y4.out.cell 2
        have y3 := Y4.out.cell 3
        simp only [List.getElem?_toArray, List.getElem?_cons_zero, List.getElem?_cons_succ] at x0 x1 x2 x3 y0 y1 y2 y3
        go_wp2_with fail
        go_ret
        exact ⟨rfl, HB4.out⟩
      · by_cases q2 : 40 < b.objs.length
        · go_wp2_with fail
          refine (fixed6_any _).mono ?_
          rintro e w4 ⟨rfl, hb⟩
          have HB4 := hid (HB3.out.trans (hb.mono HB3.out.size))
          have X4 := hid (X3.out.later hb)
          have Y4 := hid (Y3.out.later hb)
          have OX4 := hid (OX3.out.below hb)
          have RX4 := hid (RX3.out.below hb)
          have OY4 := hid (OY3.out.below hb)
          have RY4 := hid (RY3.out.below hb)
          clear x0 x1 x2 x3 y0 y1 y2 y3
          clear hb
          have x0 := X4.out.cell 0
          have x1 := X4.out.cell 1
          have x2 := X4.out.cell 2
          have x3 := X4.out.cell 3
          have y0 := Y4.out.cell 0
          have y1 := Y4.out.cell 1
          have y2 := Y4.out.cell 2
          have y3 := Y4.out.cell 3
          simp only [List.getElem?_toArray, List.getElem?_cons_zero, List.getElem?_cons_succ] at x0 x1 x2 x3 y0 y1 y2 y3
          go_wp2_with fail
          go_ret
          exact ⟨rfl, HB4.out⟩
        · by_cases q3 : 100 < p.length
          · go_wp2_with fail
            refine (fixed6_any _).mono ?_
            rintro e w4 ⟨rfl, hb⟩
            have HB4 := hid (HB3.out.trans (hb.mono HB3.out.size))
            have X4 := hid (X3.out.later hb)
            have Y4 := hid (Y3.out.later hb)
            have OX4 := hid (OX3.out.below hb)
            have RX4 := hid (RX3.out.below hb)
            have OY4 := hid (OY3.out.below hb)
            have RY4 := hid (RY3.out.below hb)
            clear x0 x1 x2 x3 y0 y1 y2 y3
            clear hb
            have x0 := X4.out.cell 0
            have x1 := X4.out.cell 1
            have x2 := X4.out.cell 2
            have x3 := X4.out.cell 3
            have y0 := Y4.out.cell 0
            have y1 := Y4.out.cell 1
            have y2 := Y4.out.cell 2
            have y3 := Y4.out.cell 3
            simp only [List.getElem?_toArray, List.getElem?_cons_zero, List.getElem?_cons_succ] at x0 x1 x2 x3 y0 y1 y2 y3
            go_wp2_with fail
            go_ret
            exact ⟨rfl, HB4.out⟩
          · by_cases q4 : 100 < q.length
            · go_wp2_with fail
              refine (fixed6_any _).mono ?_
              rintro e w4 ⟨rfl, hb⟩
              have HB4 := hid (HB3.out.trans (hb.mono HB3.out.size))
              have X4 := hid (X3.out.later hb)
              have Y4 := hid (Y3.out.later hb)
              have OX4 := hid (OX3.out.below hb)
              have RX4 := hid (RX3.out.below hb)
              have OY4 := hid (OY3.out.below hb)
              have RY4 := hid (RY3.out.below hb)
              clear x0 x1 x2 x3 y0 y1 y2 y3
              clear hb
              have x0 := X4.out.cell 0
              have x1 := X4.out.cell 1
              have x2 := X4.out.cell 2
              have x3 := X4.out.cell 3
              have y0 := Y4.out.cell 0
              have y1 := Y4.out.cell 1
              have y2 := Y4.out.cell 2
              have y3 := Y4.out.cell 3
              simp only [List.getElem?_toArray, List.getElem?_cons_zero, List.getElem?_cons_succ] at x0 x1 x2 x3 y0 y1 y2 y3
              go_wp2_with fail
              go_ret
              exact ⟨rfl, HB4.out⟩
            · have KF1 := hid (cnh_fit a p)
              have hkl1 := cnl_le a p
              obtain ⟨k, hk⟩ : ∃ k, k = cnH a p := ⟨_, rfl⟩
              obtain ⟨L, hL⟩ : ∃ L, L = cnL a p := ⟨_, rfl⟩
              rw [← hk] at KF1
              rw [← hL] at hkl1
              have HQk := hid hk
              have HQL := hid hL
              clear hk hL
              have KF2 := hid (cnh_fit b q)
              have hkl2 := cnl_le b q
              obtain ⟨m, hm⟩ : ∃ m, m = cnH b q := ⟨_, rfl⟩
              obtain ⟨M, hM⟩ : ∃ M, M = cnL b q := ⟨_, rfl⟩
              rw [← hm] at KF2
              rw [← hM] at hkl2
              have HQm := hid hm
              have HQM := hid hM
              clear hm hM
              obtain ⟨en, hen⟩ : ∃ en, en = liE a p := ⟨_, rfl⟩
              have HQen := hid hen
              obtain ⟨fn, hfn⟩ : ∃ fn, fn = liE b q := ⟨_, rfl⟩
              have HQfn := hid hfn
              clear hen hfn
              go_wp2_with fail
              refine (of_two HQk.out.symm HQL.out.symm HQen.out.symm A P c dp _ OX3.out HFX.out RX3.out (by omega)).mono ?_
              rintro e w4 ⟨A4, c4, P4, d4, ks, rfl, hls, ho, hi, hb⟩
              have HSks := hid hls
              have HLO := hid (Nat.le_trans HB3.out.size hb.size)
              have HAL := hid (below_alloc w4 (.cells #[Value.slice A4 k.objs.length c4, Value.int .i64 k.cap, Value.int .i64 k.last] 24))
              have HB4 := hid ((HB3.out.trans (hb.mono HB3.out.size)).trans (HAL.out.mono (Nat.le_trans HB3.out.size hb.size)))
              have X4 := hid ((X3.out.later hb).later HAL.out)
              have Y4 := hid ((Y3.out.later hb).later HAL.out)
              have OX4 := hid ((OX3.out.below hb).below HAL.out)
              have RX4 := hid ((RX3.out.below hb).below HAL.out)
              have OY4 := hid ((OY3.out.below hb).below HAL.out)
              have RY4 := hid ((RY3.out.below hb).below HAL.out)
              have G4 := hid (Lies.new w4 24 #[Value.slice A4 k.objs.length c4, Value.int .i64 k.cap, Value.int .i64 k.last])
              have KO4 := hid ((ho.later HAL.out))
              have LO4 := hid ((hi.later HAL.out))
              clear x0 x1 x2 x3 y0 y1 y2 y3
              clear hb
              clear hls ho hi HAL
              have x0 := X4.out.cell 0
              have x1 := X4.out.cell 1
              have x2 := X4.out.cell 2
              have x3 := X4.out.cell 3
              have y0 := Y4.out.cell 0
              have y1 := Y4.out.cell 1
              have y2 := Y4.out.cell 2
              have y3 := Y4.out.cell 3
              have g0 := G4.out.cell 0
              have g1 := G4.out.cell 1
              have g2 := G4.out.cell 2
              simp only [List.getElem?_toArray, List.getElem?_cons_zero, List.getElem?_cons_succ] at x0 x1 x2 x3 y0 y1 y2 y3 g0 g1 g2
              go_wp2_with fail
              refine (of_two HQm.out.symm HQM.out.symm HQfn.out.symm B Q d dq _ OY4.out HFY.out RY4.out (by omega)).mono ?_
              rintro e w5 ⟨A5, c5, P5, d5, ms, rfl, hls, ho, hi, hb⟩
              have HSms := hid hls
              have HGH := hid (Nat.lt_of_lt_of_le G4.out.lt hb.size)
              have HAL := hid (below_alloc w5 (.cells #[Value.slice A5 m.objs.length c5, Value.int .i64 m.cap, Value.int .i64 m.last] 24))
              have HB5 := hid ((HB4.out.trans (hb.mono HB4.out.size)).trans (HAL.out.mono (Nat.le_trans HB4.out.size hb.size)))
              have X5 := hid ((X4.out.later hb).later HAL.out)
              have Y5 := hid ((Y4.out.later hb).later HAL.out)
              have G5 := hid ((G4.out.later hb).later HAL.out)
              have KO5 := hid ((KO4.out.later hb).later HAL.out)
              have LO5 := hid ((LO4.out.later hb).later HAL.out)
              have OX5 := hid ((OX4.out.below hb).below HAL.out)
              have RX5 := hid ((RX4.out.below hb).below HAL.out)
              have OY5 := hid ((OY4.out.below hb).below HAL.out)
              have RY5 := hid ((RY4.out.below hb).below HAL.out)
              have H5 := hid (Lies.new w5 24 #[Value.slice A5 m.objs.length c5, Value.int .i64 m.cap, Value.int .i64 m.last])
              have MO5 := hid ((ho.later HAL.out))
              have NO5 := hid ((hi.later HAL.out))
              clear x0 x1 x2 x3 y0 y1 y2 y3 g0 g1 g2
              clear hb
              clear hls ho hi HAL
              have x0 := X5.out.cell 0
              have x1 := X5.out.cell 1
              have x2 := X5.out.cell 2
              have x3 := X5.out.cell 3
              have y0 := Y5.out.cell 0
              have y1 := Y5.out.cell 1
              have y2 := Y5.out.cell 2
              have y3 := Y5.out.cell 3
              have g0 := G5.out.cell 0
              have g1 := G5.out.cell 1
              have g2 := G5.out.cell 2
              have u0 := H5.out.cell 0
              have u1 := H5.out.cell 1
              have u2 := H5.out.cell 2
              simp only [List.getElem?_toArray, List.getElem?_cons_zero, List.getElem?_cons_succ] at x0 x1 x2 x3 y0 y1 y2 y3 g0 g1 g2 u0 u1 u2
              by_cases e1 : en = 0
              · by_cases e2 : fn = 0
                · subst e1
                  subst e2
                  have HSA : Hid (SameP a p k L) := by show SameP _ _ _ _; rw [HQk.out, HQL.out]; exact cn_same HQen.out.symm
                  have HT1 : Hid (cnH k L = k) := by show _ = _; rw [HQk.out, HQL.out]; exact (cn_again HQen.out.symm).1
                  have HT2 : Hid (cnL k L = L) := by show _ = _; rw [HQk.out, HQL.out]; exact (cn_again HQen.out.symm).2
                  have HT3 : Hid (liE k L = 0) := HSA.out.2.1
                  have HLV : Hid ((liL k L).length = k.objs.length) := by show _ = _; rw [HQk.out, HQL.out]; exact cn_live HQen.out.symm
                  have HIF : Hid (SameP a p b q ↔ k.objs = m.objs ∧ L = M) := by
                    show _ ↔ _
                    rw [same_iff, HQk.out, HQL.out, HQm.out, HQM.out]
                    exact ⟨fun h => h.2.2, fun h => ⟨HQen.out.symm, HQfn.out.symm, h⟩⟩
                  go_wp2_with fail
                  refine (rlive_any k L A4 P4 c4 d4 _ (own_obs KO5.out HSks.out) KF1.out LO5.out.ints (by omega)).mono ?_
                  rintro e w6 ⟨Al, cl, rfl, -, -, -, hb⟩
                  rw [HLV.out, HT3.out]
                  have HB6 := hid (HB5.out.trans (hb.mono HB5.out.size))
                  have X6 := hid (X5.out.later hb)
                  have Y6 := hid (Y5.out.later hb)
                  have G6 := hid (G5.out.later hb)
                  have KO6 := hid (KO5.out.later hb)
                  have LO6 := hid (LO5.out.later hb)
                  have H6 := hid (H5.out.later hb)
                  have MO6 := hid (MO5.out.later hb)
                  have NO6 := hid (NO5.out.later hb)
                  have OX6 := hid (OX5.out.below hb)
                  have RX6 := hid (RX5.out.below hb)
                  have OY6 := hid (OY5.out.below hb)
                  have RY6 := hid (RY5.out.below hb)
                  clear x0 x1 x2 x3 y0 y1 y2 y3 g0 g1 g2 u0 u1 u2
                  clear hb
                  have x0 := X6.out.cell 0
                  have x1 := X6.out.cell 1
                  have x2 := X6.out.cell 2
                  have x3 := X6.out.cell 3
                  have y0 := Y6.out.cell 0
                  have y1 := Y6.out.cell 1
                  have y2 := Y6.out.cell 2
                  have y3 := Y6.out.cell 3
                  have g0 := G6.out.cell 0
                  have g1 := G6.out.cell 1
                  have g2 := G6.out.cell 2
                  have u0 := H6.out.cell 0
                  have u1 := H6.out.cell 1
                  have u2 := H6.out.cell 2
                  simp only [List.getElem?_toArray, List.getElem?_cons_zero, List.getElem?_cons_succ] at x0 x1 x2 x3 y0 y1 y2 y3 g0 g1 g2 u0 u1 u2
                  go_wp2_with fail
                  refine (of_two HT1.out HT2.out HT3.out A4 P4 c4 d4 _ (own_obs KO6.out HSks.out) KF1.out LO6.out.ints (by omega)).mono ?_
                  rintro e w7 ⟨A7, c7, P7, d7, vs, rfl, hls, ho, hi, hb⟩
                  have HSvs := hid hls
                  have HAL := hid (below_alloc w7 (.cells #[Value.slice A7 k.objs.length c7, Value.int .i64 k.cap, Value.int .i64 k.last] 24))
                  have HB7 := hid ((HB6.out.trans (hb.mono HB6.out.size)).trans (HAL.out.mono (Nat.le_trans HB6.out.size hb.size)))
                  have X7 := hid ((X6.out.later hb).later HAL.out)
                  have Y7 := hid ((Y6.out.later hb).later HAL.out)
                  have G7 := hid ((G6.out.later hb).later HAL.out)
                  have KO7 := hid ((KO6.out.later hb).later HAL.out)
                  have LO7 := hid ((LO6.out.later hb).later HAL.out)
                  have H7 := hid ((H6.out.later hb).later HAL.out)
                  have MO7 := hid ((MO6.out.later hb).later HAL.out)
                  have NO7 := hid ((NO6.out.later hb).later HAL.out)
                  have OX7 := hid ((OX6.out.below hb).below HAL.out)
                  have RX7 := hid ((RX6.out.below hb).below HAL.out)
                  have OY7 := hid ((OY6.out.below hb).below HAL.out)
                  have RY7 := hid ((RY6.out.below hb).below HAL.out)
                  have V7 := hid (Lies.new w7 24 #[Value.slice A7 k.objs.length c7, Value.int .i64 k.cap, Value.int .i64 k.last])
                  have VO7 := hid ((ho.later HAL.out))
                  have WO7 := hid ((hi.later HAL.out))
                  clear x0 x1 x2 x3 y0 y1 y2 y3 g0 g1 g2 u0 u1 u2
                  clear hb
                  clear hls ho hi HAL
                  have x0 := X7.out.cell 0
                  have x1 := X7.out.cell 1
                  have x2 := X7.out.cell 2
                  have x3 := X7.out.cell 3
                  have y0 := Y7.out.cell 0
                  have y1 := Y7.out.cell 1
                  have y2 := Y7.out.cell 2
                  have y3 := Y7.out.cell 3
                  have g0 := G7.out.cell 0
                  have g1 := G7.out.cell 1
                  have g2 := G7.out.cell 2
                  have u0 := H7.out.cell 0
                  have u1 := H7.out.cell 1
                  have u2 := H7.out.cell 2
                  have v0 := V7.out.cell 0
                  have v1 := V7.out.cell 1
                  have v2 := V7.out.cell 2
                  simp only [List.getElem?_toArray, List.getElem?_cons_zero, List.getElem?_cons_succ] at x0 x1 x2 x3 y0 y1 y2 y3 g0 g1 g2 u0 u1 u2 v0 v1 v2
                  go_wp2_with fail
                  refine (same_any k A4 A7 c4 c7 _ (own_obs KO7.out HSks.out) (own_obs VO7.out HSvs.out) KF1.out).mono ?_
                  rintro e w8 ⟨rfl, hb⟩
                  have HB8 := hid (HB7.out.trans (hb.mono HB7.out.size))
                  have X8 := hid (X7.out.later hb)
                  have Y8 := hid (Y7.out.later hb)
                  have G8 := hid (G7.out.later hb)
                  have KO8 := hid (KO7.out.later hb)
                  have LO8 := hid (LO7.out.later hb)
                  have H8 := hid (H7.out.later hb)
                  have MO8 := hid (MO7.out.later hb)
                  have NO8 := hid (NO7.out.later hb)
                  have V8 := hid (V7.out.later hb)
                  have VO8 := hid (VO7.out.later hb)
                  have WO8 := hid (WO7.out.later hb)
                  have OX8 := hid (OX7.out.below hb)
                  have RX8 := hid (RX7.out.below hb)
                  have OY8 := hid (OY7.out.below hb)
                  have RY8 := hid (RY7.out.below hb)
                  clear x0 x1 x2 x3 y0 y1 y2 y3 g0 g1 g2 u0 u1 u2 v0 v1 v2
                  clear hb
                  have x0 := X8.out.cell 0
                  have x1 := X8.out.cell 1
                  have x2 := X8.out.cell 2
                  have x3 := X8.out.cell 3
                  have y0 := Y8.out.cell 0
                  have y1 := Y8.out.cell 1
                  have y2 := Y8.out.cell 2
                  have y3 := Y8.out.cell 3
                  have g0 := G8.out.cell 0
                  have g1 := G8.out.cell 1
                  have g2 := G8.out.cell 2
                  have u0 := H8.out.cell 0
                  have u1 := H8.out.cell 1
                  have u2 := H8.out.cell 2
                  have v0 := V8.out.cell 0
                  have v1 := V8.out.cell 1
                  have v2 := V8.out.cell 2
                  simp only [List.getElem?_toArray, List.getElem?_cons_zero, List.getElem?_cons_succ] at x0 x1 x2 x3 y0 y1 y2 y3 g0 g1 g2 u0 u1 u2 v0 v1 v2
                  go_wp2_with fail
                  refine (ints6 (rfl : L = L) P4 P7 d4 d7 _ LO8.out.ints WO8.out.ints (by omega)).mono ?_
                  rintro e w9 ⟨rfl, hb⟩
                  have HB9 := hid (HB8.out.trans (hb.mono HB8.out.size))
                  have X9 := hid (X8.out.later hb)
                  have Y9 := hid (Y8.out.later hb)
                  have G9 := hid (G8.out.later hb)
                  have KO9 := hid (KO8.out.later hb)
                  have LO9 := hid (LO8.out.later hb)
                  have H9 := hid (H8.out.later hb)
                  have MO9 := hid (MO8.out.later hb)
                  have NO9 := hid (NO8.out.later hb)
                  have V9 := hid (V8.out.later hb)
                  have VO9 := hid (VO8.out.later hb)
                  have WO9 := hid (WO8.out.later hb)
                  have OX9 := hid (OX8.out.below hb)
                  have RX9 := hid (RX8.out.below hb)
                  have OY9 := hid (OY8.out.below hb)
                  have RY9 := hid (RY8.out.below hb)
                  clear x0 x1 x2 x3 y0 y1 y2 y3 g0 g1 g2 u0 u1 u2 v0 v1 v2
                  clear hb
                  have x0 := X9.out.cell 0
                  have x1 := X9.out.cell 1
                  have x2 := X9.out.cell 2
                  have x3 := X9.out.cell 3
                  have y0 := Y9.out.cell 0
                  have y1 := Y9.out.cell 1
                  have y2 := Y9.out.cell 2
                  have y3 := Y9.out.cell 3
                  have g0 := G9.out.cell 0
                  have g1 := G9.out.cell 1
                  have g2 := G9.out.cell 2
                  have u0 := H9.out.cell 0
                  have u1 := H9.out.cell 1
                  have u2 := H9.out.cell 2
                  have v0 := V9.out.cell 0
                  have v1 := V9.out.cell 1
                  have v2 := V9.out.cell 2
                  simp only [List.getElem?_toArray, List.getElem?_cons_zero, List.getElem?_cons_succ] at x0 x1 x2 x3 y0 y1 y2 y3 g0 g1 g2 u0 u1 u2 v0 v1 v2
                  go_wp2_with fail
                  refine (same6 (saB_yes HSA.out) A A4 P P4 c c4 dp d4 _ OX9.out HFX.out RX9.out (by omega) (own_obs KO9.out HSks.out) KF1.out LO9.out.ints (by omega)).mono ?_
                  rintro e w10 ⟨rfl, hb⟩
                  have HB10 := hid (HB9.out.trans (hb.mono HB9.out.size))
                  have X10 := hid (X9.out.later hb)
                  have Y10 := hid (Y9.out.later hb)
                  have G10 := hid (G9.out.later hb)
                  have KO10 := hid (KO9.out.later hb)
                  have LO10 := hid (LO9.out.later hb)
                  have H10 := hid (H9.out.later hb)
                  have MO10 := hid (MO9.out.later hb)
                  have NO10 := hid (NO9.out.later hb)
                  have V10 := hid (V9.out.later hb)
                  have VO10 := hid (VO9.out.later hb)
                  have WO10 := hid (WO9.out.later hb)
                  have OX10 := hid (OX9.out.below hb)
                  have RX10 := hid (RX9.out.below hb)
                  have OY10 := hid (OY9.out.below hb)
                  have RY10 := hid (RY9.out.below hb)
                  clear x0 x1 x2 x3 y0 y1 y2 y3 g0 g1 g2 u0 u1 u2 v0 v1 v2
                  clear hb
                  have x0 := X10.out.cell 0
                  have x1 := X10.out.cell 1
                  have x2 := X10.out.cell 2
                  have x3 := X10.out.cell 3
                  have y0 := Y10.out.cell 0
                  have y1 := Y10.out.cell 1
                  have y2 := Y10.out.cell 2
                  have y3 := Y10.out.cell 3
                  have g0 := G10.out.cell 0
                  have g1 := G10.out.cell 1
                  have g2 := G10.out.cell 2
                  have u0 := H10.out.cell 0
                  have u1 := H10.out.cell 1
                  have u2 := H10.out.cell 2
                  have v0 := V10.out.cell 0
                  have v1 := V10.out.cell 1
                  have v2 := V10.out.cell 2
                  simp only [List.getElem?_toArray, List.getElem?_cons_zero, List.getElem?_cons_succ] at x0 x1 x2 x3 y0 y1 y2 y3 g0 g1 g2 u0 u1 u2 v0 v1 v2
                  have gf0 := G10.out.frozen 0
                  have uf0 := H10.out.frozen 0
                  have gf1 := G10.out.frozen 1
                  have uf1 := H10.out.frozen 1
                  have gf2 := G10.out.frozen 2
                  have uf2 := H10.out.frozen 2
                  have hne : w4.heap.size ≠ w5.heap.size := Nat.ne_of_lt HGH.out
                  have hne2 : w5.heap.size ≠ w4.heap.size := fun e => hne e.symm
                  go_upto_region 15 with fail
                  have hxg : w.heap.size ≠ w4.heap.size := lies_ne X10.out G10.out (by decide)
                  have hxh : w.heap.size ≠ w5.heap.size := lies_ne X10.out H10.out (by decide)
                  have hyg : w.heap.size + 1 ≠ w4.heap.size := lies_ne Y10.out G10.out (by decide)
                  have hyh : w.heap.size + 1 ≠ w5.heap.size := lies_ne Y10.out H10.out (by decide)
                  have hlo1 : w.heap.size ≤ w4.heap.size := HLO.out
                  have hlo2 : w.heap.size ≤ w5.heap.size := Nat.le_trans hlo1 (Nat.le_of_lt HGH.out)
                  have HGe := hid hne
                  have F1 := hid ((((X10.out.far (p := ⟨w4.heap.size, 1, none⟩) hxg (.int .i64 0)).far (p := ⟨w4.heap.size, 2, none⟩) hxg (.int .i64 0)).far (p := ⟨w5.heap.size, 1, none⟩) hxh (.int .i64 0)).far (p := ⟨w5.heap.size, 2, none⟩) hxh (.int .i64 0))
                  have F2 := hid ((((Y10.out.far (p := ⟨w4.heap.size, 1, none⟩) hyg (.int .i64 0)).far (p := ⟨w4.heap.size, 2, none⟩) hyg (.int .i64 0)).far (p := ⟨w5.heap.size, 1, none⟩) hyh (.int .i64 0)).far (p := ⟨w5.heap.size, 2, none⟩) hyh (.int .i64 0))
                  have gg1 := G10.out.set_ 1 (.int .i64 0)
                  have gg2 := gg1.set_ 2 (.int .i64 0)
                  have uu1 := (H10.out.far (p := ⟨w4.heap.size, 1, none⟩) (fun e => hne e.symm) (.int .i64 0)).far (p := ⟨w4.heap.size, 2, none⟩) (fun e => hne e.symm) (.int .i64 0)
                  have uu2 := uu1.set_ 1 (.int .i64 0)
                  have F3 := hid ((gg2.far (p := ⟨w5.heap.size, 1, none⟩) hne (.int .i64 0)).far (p := ⟨w5.heap.size, 2, none⟩) hne (.int .i64 0))
                  have F4 := hid (uu2.set_ 2 (.int .i64 0))
                  have F5 := hid ((((KO10.out.off G10.out 1 (.int .i64 0)).off gg1 2 (.int .i64 0)).off uu1 1 (.int .i64 0)).off uu2 2 (.int .i64 0))
                  have F6 := hid ((((MO10.out.off G10.out 1 (.int .i64 0)).off gg1 2 (.int .i64 0)).off uu1 1 (.int .i64 0)).off uu2 2 (.int .i64 0))
                  have F7 := hid ((((LO10.out.off G10.out 1 (.int .i64 0)).off gg1 2 (.int .i64 0)).off uu1 1 (.int .i64 0)).off uu2 2 (.int .i64 0))
                  have F8 := hid ((((NO10.out.off G10.out 1 (.int .i64 0)).off gg1 2 (.int .i64 0)).off uu1 1 (.int .i64 0)).off uu2 2 (.int .i64 0))
                  have F9 := hid ((((HB10.out.setCell (p := ⟨w4.heap.size, 1, none⟩) hlo1 (.int .i64 0)).setCell (p := ⟨w4.heap.size, 2, none⟩) hlo1 (.int .i64 0)).setCell (p := ⟨w5.heap.size, 1, none⟩) hlo2 (.int .i64 0)).setCell (p := ⟨w5.heap.size, 2, none⟩) hlo2 (.int .i64 0))
                  simp only [List.setIfInBounds_toArray, List.set_cons_zero, List.set_cons_succ] at F3 F4
                  obtain ⟨W, hW⟩ : ∃ W, W = (((w10.setCell ⟨w4.heap.size, 1, none⟩ (.int .i64 0)).setCell ⟨w4.heap.size, 2, none⟩ (.int .i64 0)).setCell ⟨w5.heap.size, 1, none⟩ (.int .i64 0)).setCell ⟨w5.heap.size, 2, none⟩ (.int .i64 0) := ⟨_, rfl⟩
                  rw [← hW] at F1 F2 F3 F4 F5 F6 F7 F8 F9 ⊢
                  clear hW x0 x1 x2 x3 y0 y1 y2 y3 g0 g1 g2 u0 u1 u2 v0 v1 v2 gf0 uf0 gf1 uf1 gf2 uf2 gg1 gg2 uu1 uu2
                  have OXW := hid (SX.out.below F9.out)
                  have RXW := hid (SXR.out.below F9.out)
                  have OYW := hid (SY.out.below F9.out)
                  have RYW := hid (SYR.out.below F9.out)
                  have x0 := F1.out.cell 0
                  have y0 := F2.out.cell 0
                  have x1 := F1.out.cell 1
                  have y1 := F2.out.cell 1
                  have x2 := F1.out.cell 2
                  have y2 := F2.out.cell 2
                  have x3 := F1.out.cell 3
                  have y3 := F2.out.cell 3
                  have g0 := F3.out.cell 0
                  have u0 := F4.out.cell 0
                  have g1 := F3.out.cell 1
                  have u1 := F4.out.cell 1
                  have g2 := F3.out.cell 2
                  have u2 := F4.out.cell 2
                  simp only [List.getElem?_toArray, List.getElem?_cons_zero, List.getElem?_cons_succ] at x0 x1 x2 x3 y0 y1 y2 y3 g0 g1 g2 u0 u1 u2
                  by_cases ho : k.objs = m.objs
                  · by_cases hl : L = M
                    · have HTT : Hid (saB a p b q = true) := saB_yes (HIF.out.2 ⟨ho, hl⟩)
                      have HXX : Hid (true = true ↔ k.objs = m.objs) := by show _ ↔ _; simp [ho]
                      have HYY : Hid (true = true ↔ L = M) := by show _ ↔ _; simp [hl]
                      clear hl
                      clear ho
                      refine wp_region_held_drew (S := (fun w' => w'.cell? ⟨w.heap.size, 0, none⟩ = some (.slice A a.objs.length c) ∧ w'.cell? ⟨w.heap.size, 1, none⟩ = some (.int .i64 a.cap) ∧ w'.cell? ⟨w.heap.size, 2, none⟩ = some (.int .i64 a.last) ∧ w'.cell? ⟨w.heap.size, 3, none⟩ = some (.slice P p.length dp) ∧ w'.cell? ⟨w.heap.size + 1, 0, none⟩ = some (.slice B b.objs.length d) ∧ w'.cell? ⟨w.heap.size + 1, 1, none⟩ = some (.int .i64 b.cap) ∧ w'.cell? ⟨w.heap.size + 1, 2, none⟩ = some (.int .i64 b.last) ∧ w'.cell? ⟨w.heap.size + 1, 3, none⟩ = some (.slice Q q.length dq) ∧ w'.cell? ⟨w4.heap.size, 0, none⟩ = some (.slice A4 k.objs.length c4) ∧ w'.cell? ⟨w4.heap.size, 1, none⟩ = some (.int .i64 0) ∧ w'.cell? ⟨w4.heap.size, 2, none⟩ = some (.int .i64 0) ∧ w'.cell? ⟨w5.heap.size, 0, none⟩ = some (.slice A5 m.objs.length c5) ∧ w'.cell? ⟨w5.heap.size, 1, none⟩ = some (.int .i64 0) ∧ w'.cell? ⟨w5.heap.size, 2, none⟩ = some (.int .i64 0))) (by kernel_rfl) ?_ (fun hH0 => ?_)
                      · exact ⟨x0, x1, x2, x3, y0, y1, y2, y3, g0, g1, g2, u0, u1, u2⟩
                      refine wpAnyH_take (i := 0) (oi := { dst := some 136, op := Go.Op.fieldAddr 53 (Go.Operand.tmp 2) 0, type := 0, pos := "law.go:80", after := #[], guard := none }) (v := ?vv1) rfl (by kernel_rfl) (by kernel_rfl) (by kernel_rfl) (fun _ _ _ h => h) (Or.inl ⟨by rfl, ?hy1⟩) (by assumption) ?rr1
                      case hy1 => intro w hSw; (try dsimp only at hSw); go_simp; all_goals with_reducible rfl
                      try simp only [Act.put, List.setIfInBounds_toArray, List.set_cons_zero, List.set_cons_succ]
                      refine wpAnyH_take (i := 1) (oi := { dst := some 137, op := Go.Op.load 24 (Go.Operand.tmp 136), type := 24, pos := "law.go:80", after := #[{ on := 0, ground := Go.Ground.data }], guard := none }) (v := ?vv2) rfl (by kernel_rfl) (by kernel_rfl) (by kernel_rfl) (fun _ _ _ h => h) (Or.inl ⟨by rfl, ?hy2⟩) (by assumption) ?rr2
                      case hy2 => intro w hSw; (try dsimp only at hSw); go_simp; all_goals with_reducible rfl
                      try simp only [Act.put, List.setIfInBounds_toArray, List.set_cons_zero, List.set_cons_succ]
                      refine wpAnyH_take (i := 2) (oi := { dst := some 138, op := Go.Op.fieldAddr 53 (Go.Operand.tmp 2) 1, type := 0, pos := "law.go:80", after := #[], guard := none }) (v := ?vv3) rfl (by kernel_rfl) (by kernel_rfl) (by kernel_rfl) (fun _ _ _ h => h) (Or.inl ⟨by rfl, ?hy3⟩) (by assumption) ?rr3
                      case hy3 => intro w hSw; (try dsimp only at hSw); go_simp; all_goals with_reducible rfl
                      try simp only [Act.put, List.setIfInBounds_toArray, List.set_cons_zero, List.set_cons_succ]
                      refine wpAnyH_take (i := 3) (oi := { dst := some 139, op := Go.Op.load 44 (Go.Operand.tmp 138), type := 44, pos := "law.go:80", after := #[{ on := 2, ground := Go.Ground.data }], guard := none }) (v := ?vv4) rfl (by kernel_rfl) (by kernel_rfl) (by kernel_rfl) (fun _ _ _ h => h) (Or.inl ⟨by rfl, ?hy4⟩) (by assumption) ?rr4
                      case hy4 => intro w hSw; (try dsimp only at hSw); go_simp; all_goals with_reducible rfl
                      try simp only [Act.put, List.setIfInBounds_toArray, List.set_cons_zero, List.set_cons_succ]
                      refine wpAnyH_take (i := 4) (oi := { dst := some 140, op := Go.Op.fieldAddr 53 (Go.Operand.tmp 3) 0, type := 0, pos := "law.go:80", after := #[], guard := none }) (v := ?vv5) rfl (by kernel_rfl) (by kernel_rfl) (by kernel_rfl) (fun _ _ _ h => h) (Or.inl ⟨by rfl, ?hy5⟩) (by assumption) ?rr5
                      case hy5 => intro w hSw; (try dsimp only at hSw); go_simp; all_goals with_reducible rfl
                      try simp only [Act.put, List.setIfInBounds_toArray, List.set_cons_zero, List.set_cons_succ]
                      refine wpAnyH_take (i := 5) (oi := { dst := some 141, op := Go.Op.load 24 (Go.Operand.tmp 140), type := 24, pos := "law.go:80", after := #[{ on := 4, ground := Go.Ground.data }], guard := none }) (v := ?vv6) rfl (by kernel_rfl) (by kernel_rfl) (by kernel_rfl) (fun _ _ _ h => h) (Or.inl ⟨by rfl, ?hy6⟩) (by assumption) ?rr6
                      case hy6 => intro w hSw; (try dsimp only at hSw); go_simp; all_goals with_reducible rfl
                      try simp only [Act.put, List.setIfInBounds_toArray, List.set_cons_zero, List.set_cons_succ]
                      refine wpAnyH_take (i := 6) (oi := { dst := some 142, op := Go.Op.fieldAddr 53 (Go.Operand.tmp 3) 1, type := 0, pos := "law.go:80", after := #[], guard := none }) (v := ?vv7) rfl (by kernel_rfl) (by kernel_rfl) (by kernel_rfl) (fun _ _ _ h => h) (Or.inl ⟨by rfl, ?hy7⟩) (by assumption) ?rr7
                      case hy7 => intro w hSw; (try dsimp only at hSw); go_simp; all_goals with_reducible rfl
                      try simp only [Act.put, List.setIfInBounds_toArray, List.set_cons_zero, List.set_cons_succ]
                      refine wpAnyH_take (i := 7) (oi := { dst := some 143, op := Go.Op.load 44 (Go.Operand.tmp 142), type := 44, pos := "law.go:80", after := #[{ on := 6, ground := Go.Ground.data }], guard := none }) (v := ?vv8) rfl (by kernel_rfl) (by kernel_rfl) (by kernel_rfl) (fun _ _ _ h => h) (Or.inl ⟨by rfl, ?hy8⟩) (by assumption) ?rr8
                      case hy8 => intro w hSw; (try dsimp only at hSw); go_simp; all_goals with_reducible rfl
                      try simp only [Act.put, List.setIfInBounds_toArray, List.set_cons_zero, List.set_cons_succ]
                      refine wpAnyH_take (i := 9) (oi := { dst := some 145, op := Go.Op.load 24 (Go.Operand.tmp 5), type := 24, pos := "law.go:80", after := #[], guard := none }) (v := ?vv9) rfl (by kernel_rfl) (by kernel_rfl) (by kernel_rfl) (fun _ _ _ h => h) (Or.inl ⟨by rfl, ?hy9⟩) (by assumption) ?rr9
                      case hy9 => intro w hSw; (try dsimp only at hSw); go_simp; all_goals with_reducible rfl
                      try simp only [Act.put, List.setIfInBounds_toArray, List.set_cons_zero, List.set_cons_succ]
                      refine wpAnyH_take (i := 10) (oi := { dst := some 146, op := Go.Op.load 24 (Go.Operand.tmp 8), type := 24, pos := "law.go:80", after := #[], guard := none }) (v := ?vv10) rfl (by kernel_rfl) (by kernel_rfl) (by kernel_rfl) (fun _ _ _ h => h) (Or.inl ⟨by rfl, ?hy10⟩) (by assumption) ?rr10
                      case hy10 => intro w hSw; (try dsimp only at hSw); go_simp; all_goals with_reducible rfl
                      try simp only [Act.put, List.setIfInBounds_toArray, List.set_cons_zero, List.set_cons_succ]
                      refine wpAnyH_ready (rs := [8]) (by kernel_rfl) (by simp) ?_
                      refine AllReadyH.cons (i := 8) (o := { dst := some 144, op := Go.Op.call { callee := Go.Callee.value (Go.Operand.func 41), args := #[Go.Operand.tmp 137, Go.Operand.tmp 139, Go.Operand.tmp 141, Go.Operand.tmp 143], argTypes := #[24, 44, 24, 44] }, type := 4, pos := "law.go:80", after := #[{ on := 1, ground := Go.Ground.data }, { on := 3, ground := Go.Ground.data }, { on := 5, ground := Go.Ground.data }, { on := 7, ground := Go.Ground.data }], guard := none }) rfl (fun K hK => ?_) AllReadyH.nil
                      go_simp
                      go_at_call 41
                      refine (same6 HTT.out A B P Q c d dp dq _ (OXW.out.below (Below.refl _ W).drew) HFX.out (RXW.out.below (Below.refl _ W).drew) (by omega) (OYW.out.below (Below.refl _ W).drew) HFY.out (RYW.out.below (Below.refl _ W).drew) (by omega)).mono ?_
                      rintro e v1 ⟨rfl, hb⟩
                      have HV1 := hid (then_b (Below.refl _ W).drew hb)
                      refine hK.out _ _ ?_ (fun hH1 => ?_)
                      · exact ⟨cell_later hb hH0.1, cell_later hb hH0.2.1, cell_later hb hH0.2.2.1, cell_later hb hH0.2.2.2.1, cell_later hb hH0.2.2.2.2.1, cell_later hb hH0.2.2.2.2.2.1, cell_later hb hH0.2.2.2.2.2.2.1, cell_later hb hH0.2.2.2.2.2.2.2.1, cell_later hb hH0.2.2.2.2.2.2.2.2.1, cell_later hb hH0.2.2.2.2.2.2.2.2.2.1, cell_later hb hH0.2.2.2.2.2.2.2.2.2.2.1, cell_later hb hH0.2.2.2.2.2.2.2.2.2.2.2.1, cell_later hb hH0.2.2.2.2.2.2.2.2.2.2.2.2.1, cell_later hb hH0.2.2.2.2.2.2.2.2.2.2.2.2.2⟩
                      clear hK K
                      try simp only [Act.put, List.setIfInBounds_toArray, List.set_cons_zero, List.set_cons_succ]
                      clear hb
                      refine wpAnyH_ready (rs := [11]) (by kernel_rfl) (by simp) ?_
                      refine AllReadyH.cons (i := 11) (o := { dst := some 147, op := Go.Op.call { callee := Go.Callee.value (Go.Operand.func 29), args := #[Go.Operand.tmp 145, Go.Operand.tmp 146], argTypes := #[24, 24] }, type := 4, pos := "law.go:80", after := #[{ on := 9, ground := Go.Ground.data }, { on := 10, ground := Go.Ground.data }, { on := 8, ground := Go.Ground.chain }], guard := none }) rfl (fun K hK => ?_) AllReadyH.nil
                      go_simp
                      go_at_call 29
                      refine (same0 HXX.out A4 A5 c4 c5 _ ((own_obs F5.out HSks.out).below HV1.out) ((own_obs F6.out HSms.out).below HV1.out) KF1.out KF2.out).mono ?_
                      rintro e v2 ⟨rfl, hb⟩
                      have HV2 := hid (then_b HV1.out hb)
                      refine hK.out _ _ ?_ (fun hH2 => ?_)
                      · exact ⟨cell_later hb hH1.1, cell_later hb hH1.2.1, cell_later hb hH1.2.2.1, cell_later hb hH1.2.2.2.1, cell_later hb hH1.2.2.2.2.1, cell_later hb hH1.2.2.2.2.2.1, cell_later hb hH1.2.2.2.2.2.2.1, cell_later hb hH1.2.2.2.2.2.2.2.1, cell_later hb hH1.2.2.2.2.2.2.2.2.1, cell_later hb hH1.2.2.2.2.2.2.2.2.2.1, cell_later hb hH1.2.2.2.2.2.2.2.2.2.2.1, cell_later hb hH1.2.2.2.2.2.2.2.2.2.2.2.1, cell_later hb hH1.2.2.2.2.2.2.2.2.2.2.2.2.1, cell_later hb hH1.2.2.2.2.2.2.2.2.2.2.2.2.2⟩
                      clear hK K
                      try simp only [Act.put, List.setIfInBounds_toArray, List.set_cons_zero, List.set_cons_succ]
                      clear hb
                      refine wpAnyH_take (i := 12) (oi := { dst := some 148, op := Go.Op.move (Go.Operand.tmp 147), type := 4, pos := "law.go:80", after := #[{ on := 11, ground := Go.Ground.data }, { on := 11, ground := Go.Ground.chain }], guard := none }) (v := ?vv11) rfl (by kernel_rfl) (by kernel_rfl) (by kernel_rfl) (fun _ _ _ h => h) (Or.inl ⟨by rfl, ?hy11⟩) (by assumption) ?rr11
                      case hy11 => intro w hSw; (try dsimp only at hSw); go_simp; all_goals with_reducible rfl
                      try simp only [Act.put, List.setIfInBounds_toArray, List.set_cons_zero, List.set_cons_succ]
                      refine wpAnyH_take (i := 13) (oi := { dst := some 149, op := Go.Op.move (Go.Operand.tmp 6), type := 44, pos := "law.go:80", after := #[{ on := 12, ground := Go.Ground.guard }], guard := some (12, true) }) (v := ?vv12) rfl (by kernel_rfl) (by kernel_rfl) (by kernel_rfl) (fun _ _ _ h => h) (Or.inl ⟨by rfl, ?hy12⟩) (by assumption) ?rr12
                      case hy12 => intro w hSw; (try dsimp only at hSw); go_simp; all_goals with_reducible rfl
                      try simp only [Act.put, List.setIfInBounds_toArray, List.set_cons_zero, List.set_cons_succ]
                      refine wpAnyH_take (i := 14) (oi := { dst := some 150, op := Go.Op.move (Go.Operand.tmp 9), type := 44, pos := "law.go:80", after := #[{ on := 12, ground := Go.Ground.guard }], guard := some (12, true) }) (v := ?vv13) rfl (by kernel_rfl) (by kernel_rfl) (by kernel_rfl) (fun _ _ _ h => h) (Or.inl ⟨by rfl, ?hy13⟩) (by assumption) ?rr13
                      case hy13 => intro w hSw; (try dsimp only at hSw); go_simp; all_goals with_reducible rfl
                      try simp only [Act.put, List.setIfInBounds_toArray, List.set_cons_zero, List.set_cons_succ]
                      refine wpAnyH_ready (rs := [15]) (by kernel_rfl) (by simp) ?_
                      refine AllReadyH.cons (i := 15) (o := { dst := some 151, op := Go.Op.call { callee := Go.Callee.value (Go.Operand.func 40), args := #[Go.Operand.tmp 149, Go.Operand.tmp 150], argTypes := #[44, 44] }, type := 4, pos := "law.go:80", after := #[{ on := 13, ground := Go.Ground.data }, { on := 14, ground := Go.Ground.data }, { on := 12, ground := Go.Ground.chain }, { on := 12, ground := Go.Ground.guard }], guard := some (12, true) }) rfl (fun K hK => ?_) AllReadyH.nil
                      go_simp
                      go_at_call 40
                      refine (rints0 HYY.out P4 P5 d4 d5 _ (F7.out.ints.below HV2.out) (F8.out.ints.below HV2.out) (by omega)).mono ?_
                      rintro e v3 ⟨rfl, hb⟩
                      have HV3 := hid (then_b HV2.out hb)
                      refine hK.out _ _ ?_ (fun hH3 => ?_)
                      · exact ⟨cell_later hb hH2.1, cell_later hb hH2.2.1, cell_later hb hH2.2.2.1, cell_later hb hH2.2.2.2.1, cell_later hb hH2.2.2.2.2.1, cell_later hb hH2.2.2.2.2.2.1, cell_later hb hH2.2.2.2.2.2.2.1, cell_later hb hH2.2.2.2.2.2.2.2.1, cell_later hb hH2.2.2.2.2.2.2.2.2.1, cell_later hb hH2.2.2.2.2.2.2.2.2.2.1, cell_later hb hH2.2.2.2.2.2.2.2.2.2.2.1, cell_later hb hH2.2.2.2.2.2.2.2.2.2.2.2.1, cell_later hb hH2.2.2.2.2.2.2.2.2.2.2.2.2.1, cell_later hb hH2.2.2.2.2.2.2.2.2.2.2.2.2.2⟩
                      clear hK K
                      try simp only [Act.put, List.setIfInBounds_toArray, List.set_cons_zero, List.set_cons_succ]
                      clear hb
                      refine wpAnyH_take (i := 16) (oi := { dst := some 152, op := Go.Op.pick (Go.Operand.tmp 148) (Go.Operand.tmp 151) (Go.Operand.const (Go.Value.bool false)), type := 4, pos := "law.go:80", after := #[{ on := 12, ground := Go.Ground.data }, { on := 15, ground := Go.Ground.data }], guard := none }) (v := ?vv14) rfl (by kernel_rfl) (by kernel_rfl) (by kernel_rfl) (fun _ _ _ h => h) (Or.inl ⟨by rfl, ?hy14⟩) (by assumption) ?rr14
                      case hy14 => intro w hSw; (try dsimp only at hSw); go_simp; all_goals with_reducible rfl
                      try simp only [Act.put, List.setIfInBounds_toArray, List.set_cons_zero, List.set_cons_succ]
                      refine wpAnyH_take (i := 17) (oi := { dst := some 153, op := Go.Op.binOp Go.BinOp.eql 4 (Go.Operand.tmp 144) (Go.Operand.tmp 152) 4, type := 4, pos := "law.go:80", after := #[{ on := 8, ground := Go.Ground.data }, { on := 16, ground := Go.Ground.data }], guard := none }) (v := ?vv15) rfl (by kernel_rfl) (by kernel_rfl) (by kernel_rfl) (fun _ _ _ h => h) (Or.inl ⟨by rfl, ?hy15⟩) (by assumption) ?rr15
                      case hy15 => intro w hSw; (try dsimp only at hSw); go_simp; all_goals with_reducible rfl
                      try simp only [Act.put, List.setIfInBounds_toArray, List.set_cons_zero, List.set_cons_succ]
                      refine wpAnyH_take (i := 18) (oi := { dst := some 4, op := Go.Op.assign (Go.Operand.tmp 153), type := 4, pos := "law.go:80", after := #[{ on := 17, ground := Go.Ground.data }, { on := 15, ground := Go.Ground.chain }, { on := 0, ground := Go.Ground.phase }, { on := 1, ground := Go.Ground.phase }, { on := 2, ground := Go.Ground.phase }, { on := 3, ground := Go.Ground.phase }, { on := 4, ground := Go.Ground.phase }, { on := 5, ground := Go.Ground.phase }, { on := 6, ground := Go.Ground.phase }, { on := 7, ground := Go.Ground.phase }, { on := 8, ground := Go.Ground.phase }, { on := 9, ground := Go.Ground.phase }, { on := 10, ground := Go.Ground.phase }, { on := 11, ground := Go.Ground.phase }, { on := 12, ground := Go.Ground.phase }, { on := 13, ground := Go.Ground.phase }, { on := 14, ground := Go.Ground.phase }, { on := 15, ground := Go.Ground.phase }, { on := 16, ground := Go.Ground.phase }, { on := 17, ground := Go.Ground.phase }], guard := none }) (v := ?vv16) rfl (by kernel_rfl) (by kernel_rfl) (by kernel_rfl) (fun _ _ _ h => h) (Or.inl ⟨by rfl, ?hy16⟩) (by assumption) ?rr16
                      case hy16 => intro w hSw; (try dsimp only at hSw); go_simp; all_goals with_reducible rfl
                      try simp only [Act.put, List.setIfInBounds_toArray, List.set_cons_zero, List.set_cons_succ]
                      refine wpAnyH_done (by kernel_rfl) ?_ _
                      go_wp2_with fail
                      go_ret
                      exact ⟨by simp, F9.out.trans (HV3.out.mono F9.out.size)⟩
                    · have HTT : Hid (saB a p b q = false) := saB_no fun h => hl (HIF.out.1 h).2
                      have HXX : Hid (true = true ↔ k.objs = m.objs) := by show _ ↔ _; simp [ho]
                      have HYY : Hid (false = true ↔ L = M) := by show _ ↔ _; simp [hl]
                      clear hl
                      clear ho
                      refine wp_region_held_drew (S := (fun w' => w'.cell? ⟨w.heap.size, 0, none⟩ = some (.slice A a.objs.length c) ∧ w'.cell? ⟨w.heap.size, 1, none⟩ = some (.int .i64 a.cap) ∧ w'.cell? ⟨w.heap.size, 2, none⟩ = some (.int .i64 a.last) ∧ w'.cell? ⟨w.heap.size, 3, none⟩ = some (.slice P p.length dp) ∧ w'.cell? ⟨w.heap.size + 1, 0, none⟩ = some (.slice B b.objs.length d) ∧ w'.cell? ⟨w.heap.size + 1, 1, none⟩ = some (.int .i64 b.cap) ∧ w'.cell? ⟨w.heap.size + 1, 2, none⟩ = some (.int .i64 b.last) ∧ w'.cell? ⟨w.heap.size + 1, 3, none⟩ = some (.slice Q q.length dq) ∧ w'.cell? ⟨w4.heap.size, 0, none⟩ = some (.slice A4 k.objs.length c4) ∧ w'.cell? ⟨w4.heap.size, 1, none⟩ = some (.int .i64 0) ∧ w'.cell? ⟨w4.heap.size, 2, none⟩ = some (.int .i64 0) ∧ w'.cell? ⟨w5.heap.size, 0, none⟩ = some (.slice A5 m.objs.length c5) ∧ w'.cell? ⟨w5.heap.size, 1, none⟩ = some (.int .i64 0) ∧ w'.cell? ⟨w5.heap.size, 2, none⟩ = some (.int .i64 0))) (by kernel_rfl) ?_ (fun hH0 => ?_)
                      · exact ⟨x0, x1, x2, x3, y0, y1, y2, y3, g0, g1, g2, u0, u1, u2⟩
                      refine wpAnyH_take (i := 0) (oi := { dst := some 136, op := Go.Op.fieldAddr 53 (Go.Operand.tmp 2) 0, type := 0, pos := "law.go:80", after := #[], guard := none }) (v := ?vv17) rfl (by kernel_rfl) (by kernel_rfl) (by kernel_rfl) (fun _ _ _ h => h) (Or.inl ⟨by rfl, ?hy17⟩) (by assumption) ?rr17
                      case hy17 => intro w hSw; (try dsimp only at hSw); go_simp; all_goals with_reducible rfl
                      try simp only [Act.put, List.setIfInBounds_toArray, List.set_cons_zero, List.set_cons_succ]
                      refine wpAnyH_take (i := 1) (oi := { dst := some 137, op := Go.Op.load 24 (Go.Operand.tmp 136), type := 24, pos := "law.go:80", after := #[{ on := 0, ground := Go.Ground.data }], guard := none }) (v := ?vv18) rfl (by kernel_rfl) (by kernel_rfl) (by kernel_rfl) (fun _ _ _ h => h) (Or.inl ⟨by rfl, ?hy18⟩) (by assumption) ?rr18
                      case hy18 => intro w hSw; (try dsimp only at hSw); go_simp; all_goals with_reducible rfl
                      try simp only [Act.put, List.setIfInBounds_toArray, List.set_cons_zero, List.set_cons_succ]
                      refine wpAnyH_take (i := 2) (oi := { dst := some 138, op := Go.Op.fieldAddr 53 (Go.Operand.tmp 2) 1, type := 0, pos := "law.go:80", after := #[], guard := none }) (v := ?vv19) rfl (by kernel_rfl) (by kernel_rfl) (by kernel_rfl) (fun _ _ _ h => h) (Or.inl ⟨by rfl, ?hy19⟩) (by assumption) ?rr19
                      case hy19 => intro w hSw; (try dsimp only at hSw); go_simp; all_goals with_reducible rfl
                      try simp only [Act.put, List.setIfInBounds_toArray, List.set_cons_zero, List.set_cons_succ]
                      refine wpAnyH_take (i := 3) (oi := { dst := some 139, op := Go.Op.load 44 (Go.Operand.tmp 138), type := 44, pos := "law.go:80", after := #[{ on := 2, ground := Go.Ground.data }], guard := none }) (v := ?vv20) rfl (by kernel_rfl) (by kernel_rfl) (by kernel_rfl) (fun _ _ _ h => h) (Or.inl ⟨by rfl, ?hy20⟩) (by assumption) ?rr20
                      case hy20 => intro w hSw; (try dsimp only at hSw); go_simp; all_goals with_reducible rfl
                      try simp only [Act.put, List.setIfInBounds_toArray, List.set_cons_zero, List.set_cons_succ]
                      refine wpAnyH_take (i := 4) (oi := { dst := some 140, op := Go.Op.fieldAddr 53 (Go.Operand.tmp 3) 0, type := 0, pos := "law.go:80", after := #[], guard := none }) (v := ?vv21) rfl (by kernel_rfl) (by kernel_rfl) (by kernel_rfl) (fun _ _ _ h => h) (Or.inl ⟨by rfl, ?hy21⟩) (by assumption) ?rr21
                      case hy21 => intro w hSw; (try dsimp only at hSw); go_simp; all_goals with_reducible rfl
                      try simp only [Act.put, List.setIfInBounds_toArray, List.set_cons_zero, List.set_cons_succ]
                      refine wpAnyH_take (i := 5) (oi := { dst := some 141, op := Go.Op.load 24 (Go.Operand.tmp 140), type := 24, pos := "law.go:80", after := #[{ on := 4, ground := Go.Ground.data }], guard := none }) (v := ?vv22) rfl (by kernel_rfl) (by kernel_rfl) (by kernel_rfl) (fun _ _ _ h => h) (Or.inl ⟨by rfl, ?hy22⟩) (by assumption) ?rr22
                      case hy22 => intro w hSw; (try dsimp only at hSw); go_simp; all_goals with_reducible rfl
                      try simp only [Act.put, List.setIfInBounds_toArray, List.set_cons_zero, List.set_cons_succ]
                      refine wpAnyH_take (i := 6) (oi := { dst := some 142, op := Go.Op.fieldAddr 53 (Go.Operand.tmp 3) 1, type := 0, pos := "law.go:80", after := #[], guard := none }) (v := ?vv23) rfl (by kernel_rfl) (by kernel_rfl) (by kernel_rfl) (fun _ _ _ h => h) (Or.inl ⟨by rfl, ?hy23⟩) (by assumption) ?rr23
                      case hy23 => intro w hSw; (try dsimp only at hSw); go_simp; all_goals with_reducible rfl
                      try simp only [Act.put, List.setIfInBounds_toArray, List.set_cons_zero, List.set_cons_succ]
                      refine wpAnyH_take (i := 7) (oi := { dst := some 143, op := Go.Op.load 44 (Go.Operand.tmp 142), type := 44, pos := "law.go:80", after := #[{ on := 6, ground := Go.Ground.data }], guard := none }) (v := ?vv24) rfl (by kernel_rfl) (by kernel_rfl) (by kernel_rfl) (fun _ _ _ h => h) (Or.inl ⟨by rfl, ?hy24⟩) (by assumption) ?rr24
                      case hy24 => intro w hSw; (try dsimp only at hSw); go_simp; all_goals with_reducible rfl
                      try simp only [Act.put, List.setIfInBounds_toArray, List.set_cons_zero, List.set_cons_succ]
                      refine wpAnyH_take (i := 9) (oi := { dst := some 145, op := Go.Op.load 24 (Go.Operand.tmp 5), type := 24, pos := "law.go:80", after := #[], guard := none }) (v := ?vv25) rfl (by kernel_rfl) (by kernel_rfl) (by kernel_rfl) (fun _ _ _ h => h) (Or.inl ⟨by rfl, ?hy25⟩) (by assumption) ?rr25
                      case hy25 => intro w hSw; (try dsimp only at hSw); go_simp; all_goals with_reducible rfl
                      try simp only [Act.put, List.setIfInBounds_toArray, List.set_cons_zero, List.set_cons_succ]
                      refine wpAnyH_take (i := 10) (oi := { dst := some 146, op := Go.Op.load 24 (Go.Operand.tmp 8), type := 24, pos := "law.go:80", after := #[], guard := none }) (v := ?vv26) rfl (by kernel_rfl) (by kernel_rfl) (by kernel_rfl) (fun _ _ _ h => h) (Or.inl ⟨by rfl, ?hy26⟩) (by assumption) ?rr26
                      case hy26 => intro w hSw; (try dsimp only at hSw); go_simp; all_goals with_reducible rfl
                      try simp only [Act.put, List.setIfInBounds_toArray, List.set_cons_zero, List.set_cons_succ]
                      refine wpAnyH_ready (rs := [8]) (by kernel_rfl) (by simp) ?_
                      refine AllReadyH.cons (i := 8) (o := { dst := some 144, op := Go.Op.call { callee := Go.Callee.value (Go.Operand.func 41), args := #[Go.Operand.tmp 137, Go.Operand.tmp 139, Go.Operand.tmp 141, Go.Operand.tmp 143], argTypes := #[24, 44, 24, 44] }, type := 4, pos := "law.go:80", after := #[{ on := 1, ground := Go.Ground.data }, { on := 3, ground := Go.Ground.data }, { on := 5, ground := Go.Ground.data }, { on := 7, ground := Go.Ground.data }], guard := none }) rfl (fun K hK => ?_) AllReadyH.nil
                      go_simp
                      go_at_call 41
                      refine (same6 HTT.out A B P Q c d dp dq _ (OXW.out.below (Below.refl _ W).drew) HFX.out (RXW.out.below (Below.refl _ W).drew) (by omega) (OYW.out.below (Below.refl _ W).drew) HFY.out (RYW.out.below (Below.refl _ W).drew) (by omega)).mono ?_
                      rintro e v1 ⟨rfl, hb⟩
                      have HV1 := hid (then_b (Below.refl _ W).drew hb)
                      refine hK.out _ _ ?_ (fun hH1 => ?_)
                      · exact ⟨cell_later hb hH0.1, cell_later hb hH0.2.1, cell_later hb hH0.2.2.1, cell_later hb hH0.2.2.2.1, cell_later hb hH0.2.2.2.2.1, cell_later hb hH0.2.2.2.2.2.1, cell_later hb hH0.2.2.2.2.2.2.1, cell_later hb hH0.2.2.2.2.2.2.2.1, cell_later hb hH0.2.2.2.2.2.2.2.2.1, cell_later hb hH0.2.2.2.2.2.2.2.2.2.1, cell_later hb hH0.2.2.2.2.2.2.2.2.2.2.1, cell_later hb hH0.2.2.2.2.2.2.2.2.2.2.2.1, cell_later hb hH0.2.2.2.2.2.2.2.2.2.2.2.2.1, cell_later hb hH0.2.2.2.2.2.2.2.2.2.2.2.2.2⟩
                      clear hK K
                      try simp only [Act.put, List.setIfInBounds_toArray, List.set_cons_zero, List.set_cons_succ]
                      clear hb
                      refine wpAnyH_ready (rs := [11]) (by kernel_rfl) (by simp) ?_
                      refine AllReadyH.cons (i := 11) (o := { dst := some 147, op := Go.Op.call { callee := Go.Callee.value (Go.Operand.func 29), args := #[Go.Operand.tmp 145, Go.Operand.tmp 146], argTypes := #[24, 24] }, type := 4, pos := "law.go:80", after := #[{ on := 9, ground := Go.Ground.data }, { on := 10, ground := Go.Ground.data }, { on := 8, ground := Go.Ground.chain }], guard := none }) rfl (fun K hK => ?_) AllReadyH.nil
                      go_simp
                      go_at_call 29
                      refine (same0 HXX.out A4 A5 c4 c5 _ ((own_obs F5.out HSks.out).below HV1.out) ((own_obs F6.out HSms.out).below HV1.out) KF1.out KF2.out).mono ?_
                      rintro e v2 ⟨rfl, hb⟩
                      have HV2 := hid (then_b HV1.out hb)
                      refine hK.out _ _ ?_ (fun hH2 => ?_)
                      · exact ⟨cell_later hb hH1.1, cell_later hb hH1.2.1, cell_later hb hH1.2.2.1, cell_later hb hH1.2.2.2.1, cell_later hb hH1.2.2.2.2.1, cell_later hb hH1.2.2.2.2.2.1, cell_later hb hH1.2.2.2.2.2.2.1, cell_later hb hH1.2.2.2.2.2.2.2.1, cell_later hb hH1.2.2.2.2.2.2.2.2.1, cell_later hb hH1.2.2.2.2.2.2.2.2.2.1, cell_later hb hH1.2.2.2.2.2.2.2.2.2.2.1, cell_later hb hH1.2.2.2.2.2.2.2.2.2.2.2.1, cell_later hb hH1.2.2.2.2.2.2.2.2.2.2.2.2.1, cell_later hb hH1.2.2.2.2.2.2.2.2.2.2.2.2.2⟩
                      clear hK K
                      try simp only [Act.put, List.setIfInBounds_toArray, List.set_cons_zero, List.set_cons_succ]
                      clear hb
                      refine wpAnyH_take (i := 12) (oi := { dst := some 148, op := Go.Op.move (Go.Operand.tmp 147), type := 4, pos := "law.go:80", after := #[{ on := 11, ground := Go.Ground.data }, { on := 11, ground := Go.Ground.chain }], guard := none }) (v := ?vv27) rfl (by kernel_rfl) (by kernel_rfl) (by kernel_rfl) (fun _ _ _ h => h) (Or.inl ⟨by rfl, ?hy27⟩) (by assumption) ?rr27
                      case hy27 => intro w hSw; (try dsimp only at hSw); go_simp; all_goals with_reducible rfl
                      try simp only [Act.put, List.setIfInBounds_toArray, List.set_cons_zero, List.set_cons_succ]
                      refine wpAnyH_take (i := 13) (oi := { dst := some 149, op := Go.Op.move (Go.Operand.tmp 6), type := 44, pos := "law.go:80", after := #[{ on := 12, ground := Go.Ground.guard }], guard := some (12, true) }) (v := ?vv28) rfl (by kernel_rfl) (by kernel_rfl) (by kernel_rfl) (fun _ _ _ h => h) (Or.inl ⟨by rfl, ?hy28⟩) (by assumption) ?rr28
                      case hy28 => intro w hSw; (try dsimp only at hSw); go_simp; all_goals with_reducible rfl
                      try simp only [Act.put, List.setIfInBounds_toArray, List.set_cons_zero, List.set_cons_succ]
                      refine wpAnyH_take (i := 14) (oi := { dst := some 150, op := Go.Op.move (Go.Operand.tmp 9), type := 44, pos := "law.go:80", after := #[{ on := 12, ground := Go.Ground.guard }], guard := some (12, true) }) (v := ?vv29) rfl (by kernel_rfl) (by kernel_rfl) (by kernel_rfl) (fun _ _ _ h => h) (Or.inl ⟨by rfl, ?hy29⟩) (by assumption) ?rr29
                      case hy29 => intro w hSw; (try dsimp only at hSw); go_simp; all_goals with_reducible rfl
                      try simp only [Act.put, List.setIfInBounds_toArray, List.set_cons_zero, List.set_cons_succ]
                      refine wpAnyH_ready (rs := [15]) (by kernel_rfl) (by simp) ?_
                      refine AllReadyH.cons (i := 15) (o := { dst := some 151, op := Go.Op.call { callee := Go.Callee.value (Go.Operand.func 40), args := #[Go.Operand.tmp 149, Go.Operand.tmp 150], argTypes := #[44, 44] }, type := 4, pos := "law.go:80", after := #[{ on := 13, ground := Go.Ground.data }, { on := 14, ground := Go.Ground.data }, { on := 12, ground := Go.Ground.chain }, { on := 12, ground := Go.Ground.guard }], guard := some (12, true) }) rfl (fun K hK => ?_) AllReadyH.nil
                      go_simp
                      go_at_call 40
                      refine (rints0 HYY.out P4 P5 d4 d5 _ (F7.out.ints.below HV2.out) (F8.out.ints.below HV2.out) (by omega)).mono ?_
                      rintro e v3 ⟨rfl, hb⟩
                      have HV3 := hid (then_b HV2.out hb)
                      refine hK.out _ _ ?_ (fun hH3 => ?_)
                      · exact ⟨cell_later hb hH2.1, cell_later hb hH2.2.1, cell_later hb hH2.2.2.1, cell_later hb hH2.2.2.2.1, cell_later hb hH2.2.2.2.2.1, cell_later hb hH2.2.2.2.2.2.1, cell_later hb hH2.2.2.2.2.2.2.1, cell_later hb hH2.2.2.2.2.2.2.2.1, cell_later hb hH2.2.2.2.2.2.2.2.2.1, cell_later hb hH2.2.2.2.2.2.2.2.2.2.1, cell_later hb hH2.2.2.2.2.2.2.2.2.2.2.1, cell_later hb hH2.2.2.2.2.2.2.2.2.2.2.2.1, cell_later hb hH2.2.2.2.2.2.2.2.2.2.2.2.2.1, cell_later hb hH2.2.2.2.2.2.2.2.2.2.2.2.2.2⟩
                      clear hK K
                      try simp only [Act.put, List.setIfInBounds_toArray, List.set_cons_zero, List.set_cons_succ]
                      clear hb
                      refine wpAnyH_take (i := 16) (oi := { dst := some 152, op := Go.Op.pick (Go.Operand.tmp 148) (Go.Operand.tmp 151) (Go.Operand.const (Go.Value.bool false)), type := 4, pos := "law.go:80", after := #[{ on := 12, ground := Go.Ground.data }, { on := 15, ground := Go.Ground.data }], guard := none }) (v := ?vv30) rfl (by kernel_rfl) (by kernel_rfl) (by kernel_rfl) (fun _ _ _ h => h) (Or.inl ⟨by rfl, ?hy30⟩) (by assumption) ?rr30
                      case hy30 => intro w hSw; (try dsimp only at hSw); go_simp; all_goals with_reducible rfl
                      try simp only [Act.put, List.setIfInBounds_toArray, List.set_cons_zero, List.set_cons_succ]
                      refine wpAnyH_take (i := 17) (oi := { dst := some 153, op := Go.Op.binOp Go.BinOp.eql 4 (Go.Operand.tmp 144) (Go.Operand.tmp 152) 4, type := 4, pos := "law.go:80", after := #[{ on := 8, ground := Go.Ground.data }, { on := 16, ground := Go.Ground.data }], guard := none }) (v := ?vv31) rfl (by kernel_rfl) (by kernel_rfl) (by kernel_rfl) (fun _ _ _ h => h) (Or.inl ⟨by rfl, ?hy31⟩) (by assumption) ?rr31
                      case hy31 => intro w hSw; (try dsimp only at hSw); go_simp; all_goals with_reducible rfl
                      try simp only [Act.put, List.setIfInBounds_toArray, List.set_cons_zero, List.set_cons_succ]
                      refine wpAnyH_take (i := 18) (oi := { dst := some 4, op := Go.Op.assign (Go.Operand.tmp 153), type := 4, pos := "law.go:80", after := #[{ on := 17, ground := Go.Ground.data }, { on := 15, ground := Go.Ground.chain }, { on := 0, ground := Go.Ground.phase }, { on := 1, ground := Go.Ground.phase }, { on := 2, ground := Go.Ground.phase }, { on := 3, ground := Go.Ground.phase }, { on := 4, ground := Go.Ground.phase }, { on := 5, ground := Go.Ground.phase }, { on := 6, ground := Go.Ground.phase }, { on := 7, ground := Go.Ground.phase }, { on := 8, ground := Go.Ground.phase }, { on := 9, ground := Go.Ground.phase }, { on := 10, ground := Go.Ground.phase }, { on := 11, ground := Go.Ground.phase }, { on := 12, ground := Go.Ground.phase }, { on := 13, ground := Go.Ground.phase }, { on := 14, ground := Go.Ground.phase }, { on := 15, ground := Go.Ground.phase }, { on := 16, ground := Go.Ground.phase }, { on := 17, ground := Go.Ground.phase }], guard := none }) (v := ?vv32) rfl (by kernel_rfl) (by kernel_rfl) (by kernel_rfl) (fun _ _ _ h => h) (Or.inl ⟨by rfl, ?hy32⟩) (by assumption) ?rr32
                      case hy32 => intro w hSw; (try dsimp only at hSw); go_simp; all_goals with_reducible rfl
                      try simp only [Act.put, List.setIfInBounds_toArray, List.set_cons_zero, List.set_cons_succ]
                      refine wpAnyH_done (by kernel_rfl) ?_ _
                      go_wp2_with fail
                      go_ret
                      exact ⟨by simp, F9.out.trans (HV3.out.mono F9.out.size)⟩
                  · have HTT : Hid (saB a p b q = false) := saB_no fun h => ho (HIF.out.1 h).1
                    have HXX : Hid (false = true ↔ k.objs = m.objs) := by show _ ↔ _; simp [ho]
                    clear ho
                    refine wp_region_held_drew (S := (fun w' => w'.cell? ⟨w.heap.size, 0, none⟩ = some (.slice A a.objs.length c) ∧ w'.cell? ⟨w.heap.size, 1, none⟩ = some (.int .i64 a.cap) ∧ w'.cell? ⟨w.heap.size, 2, none⟩ = some (.int .i64 a.last) ∧ w'.cell? ⟨w.heap.size, 3, none⟩ = some (.slice P p.length dp) ∧ w'.cell? ⟨w.heap.size + 1, 0, none⟩ = some (.slice B b.objs.length d) ∧ w'.cell? ⟨w.heap.size + 1, 1, none⟩ = some (.int .i64 b.cap) ∧ w'.cell? ⟨w.heap.size + 1, 2, none⟩ = some (.int .i64 b.last) ∧ w'.cell? ⟨w.heap.size + 1, 3, none⟩ = some (.slice Q q.length dq) ∧ w'.cell? ⟨w4.heap.size, 0, none⟩ = some (.slice A4 k.objs.length c4) ∧ w'.cell? ⟨w4.heap.size, 1, none⟩ = some (.int .i64 0) ∧ w'.cell? ⟨w4.heap.size, 2, none⟩ = some (.int .i64 0) ∧ w'.cell? ⟨w5.heap.size, 0, none⟩ = some (.slice A5 m.objs.length c5) ∧ w'.cell? ⟨w5.heap.size, 1, none⟩ = some (.int .i64 0) ∧ w'.cell? ⟨w5.heap.size, 2, none⟩ = some (.int .i64 0))) (by kernel_rfl) ?_ (fun hH0 => ?_)
                    · exact ⟨x0, x1, x2, x3, y0, y1, y2, y3, g0, g1, g2, u0, u1, u2⟩
                    refine wpAnyH_take (i := 0) (oi := { dst := some 136, op := Go.Op.fieldAddr 53 (Go.Operand.tmp 2) 0, type := 0, pos := "law.go:80", after := #[], guard := none }) (v := ?vv33) rfl (by kernel_rfl) (by kernel_rfl) (by kernel_rfl) (fun _ _ _ h => h) (Or.inl ⟨by rfl, ?hy33⟩) (by assumption) ?rr33
                    case hy33 => intro w hSw; (try dsimp only at hSw); go_simp; all_goals with_reducible rfl
                    try simp only [Act.put, List.setIfInBounds_toArray, List.set_cons_zero, List.set_cons_succ]
                    refine wpAnyH_take (i := 1) (oi := { dst := some 137, op := Go.Op.load 24 (Go.Operand.tmp 136), type := 24, pos := "law.go:80", after := #[{ on := 0, ground := Go.Ground.data }], guard := none }) (v := ?vv34) rfl (by kernel_rfl) (by kernel_rfl) (by kernel_rfl) (fun _ _ _ h => h) (Or.inl ⟨by rfl, ?hy34⟩) (by assumption) ?rr34
                    case hy34 => intro w hSw; (try dsimp only at hSw); go_simp; all_goals with_reducible rfl
                    try simp only [Act.put, List.setIfInBounds_toArray, List.set_cons_zero, List.set_cons_succ]
                    refine wpAnyH_take (i := 2) (oi := { dst := some 138, op := Go.Op.fieldAddr 53 (Go.Operand.tmp 2) 1, type := 0, pos := "law.go:80", after := #[], guard := none }) (v := ?vv35) rfl (by kernel_rfl) (by kernel_rfl) (by kernel_rfl) (fun _ _ _ h => h) (Or.inl ⟨by rfl, ?hy35⟩) (by assumption) ?rr35
                    case hy35 => intro w hSw; (try dsimp only at hSw); go_simp; all_goals with_reducible rfl
                    try simp only [Act.put, List.setIfInBounds_toArray, List.set_cons_zero, List.set_cons_succ]
                    refine wpAnyH_take (i := 3) (oi := { dst := some 139, op := Go.Op.load 44 (Go.Operand.tmp 138), type := 44, pos := "law.go:80", after := #[{ on := 2, ground := Go.Ground.data }], guard := none }) (v := ?vv36) rfl (by kernel_rfl) (by kernel_rfl) (by kernel_rfl) (fun _ _ _ h => h) (Or.inl ⟨by rfl, ?hy36⟩) (by assumption) ?rr36
                    case hy36 => intro w hSw; (try dsimp only at hSw); go_simp; all_goals with_reducible rfl
                    try simp only [Act.put, List.setIfInBounds_toArray, List.set_cons_zero, List.set_cons_succ]
                    refine wpAnyH_take (i := 4) (oi := { dst := some 140, op := Go.Op.fieldAddr 53 (Go.Operand.tmp 3) 0, type := 0, pos := "law.go:80", after := #[], guard := none }) (v := ?vv37) rfl (by kernel_rfl) (by kernel_rfl) (by kernel_rfl) (fun _ _ _ h => h) (Or.inl ⟨by rfl, ?hy37⟩) (by assumption) ?rr37
                    case hy37 => intro w hSw; (try dsimp only at hSw); go_simp; all_goals with_reducible rfl
                    try simp only [Act.put, List.setIfInBounds_toArray, List.set_cons_zero, List.set_cons_succ]
                    refine wpAnyH_take (i := 5) (oi := { dst := some 141, op := Go.Op.load 24 (Go.Operand.tmp 140), type := 24, pos := "law.go:80", after := #[{ on := 4, ground := Go.Ground.data }], guard := none }) (v := ?vv38) rfl (by kernel_rfl) (by kernel_rfl) (by kernel_rfl) (fun _ _ _ h => h) (Or.inl ⟨by rfl, ?hy38⟩) (by assumption) ?rr38
                    case hy38 => intro w hSw; (try dsimp only at hSw); go_simp; all_goals with_reducible rfl
                    try simp only [Act.put, List.setIfInBounds_toArray, List.set_cons_zero, List.set_cons_succ]
                    refine wpAnyH_take (i := 6) (oi := { dst := some 142, op := Go.Op.fieldAddr 53 (Go.Operand.tmp 3) 1, type := 0, pos := "law.go:80", after := #[], guard := none }) (v := ?vv39) rfl (by kernel_rfl) (by kernel_rfl) (by kernel_rfl) (fun _ _ _ h => h) (Or.inl ⟨by rfl, ?hy39⟩) (by assumption) ?rr39
                    case hy39 => intro w hSw; (try dsimp only at hSw); go_simp; all_goals with_reducible rfl
                    try simp only [Act.put, List.setIfInBounds_toArray, List.set_cons_zero, List.set_cons_succ]
                    refine wpAnyH_take (i := 7) (oi := { dst := some 143, op := Go.Op.load 44 (Go.Operand.tmp 142), type := 44, pos := "law.go:80", after := #[{ on := 6, ground := Go.Ground.data }], guard := none }) (v := ?vv40) rfl (by kernel_rfl) (by kernel_rfl) (by kernel_rfl) (fun _ _ _ h => h) (Or.inl ⟨by rfl, ?hy40⟩) (by assumption) ?rr40
                    case hy40 => intro w hSw; (try dsimp only at hSw); go_simp; all_goals with_reducible rfl
                    try simp only [Act.put, List.setIfInBounds_toArray, List.set_cons_zero, List.set_cons_succ]
                    refine wpAnyH_take (i := 9) (oi := { dst := some 145, op := Go.Op.load 24 (Go.Operand.tmp 5), type := 24, pos := "law.go:80", after := #[], guard := none }) (v := ?vv41) rfl (by kernel_rfl) (by kernel_rfl) (by kernel_rfl) (fun _ _ _ h => h) (Or.inl ⟨by rfl, ?hy41⟩) (by assumption) ?rr41
                    case hy41 => intro w hSw; (try dsimp only at hSw); go_simp; all_goals with_reducible rfl
                    try simp only [Act.put, List.setIfInBounds_toArray, List.set_cons_zero, List.set_cons_succ]
                    refine wpAnyH_take (i := 10) (oi := { dst := some 146, op := Go.Op.load 24 (Go.Operand.tmp 8), type := 24, pos := "law.go:80", after := #[], guard := none }) (v := ?vv42) rfl (by kernel_rfl) (by kernel_rfl) (by kernel_rfl) (fun _ _ _ h => h) (Or.inl ⟨by rfl, ?hy42⟩) (by assumption) ?rr42
                    case hy42 => intro w hSw; (try dsimp only at hSw); go_simp; all_goals with_reducible rfl
                    try simp only [Act.put, List.setIfInBounds_toArray, List.set_cons_zero, List.set_cons_succ]
                    refine wpAnyH_ready (rs := [8]) (by kernel_rfl) (by simp) ?_
                    refine AllReadyH.cons (i := 8) (o := { dst := some 144, op := Go.Op.call { callee := Go.Callee.value (Go.Operand.func 41), args := #[Go.Operand.tmp 137, Go.Operand.tmp 139, Go.Operand.tmp 141, Go.Operand.tmp 143], argTypes := #[24, 44, 24, 44] }, type := 4, pos := "law.go:80", after := #[{ on := 1, ground := Go.Ground.data }, { on := 3, ground := Go.Ground.data }, { on := 5, ground := Go.Ground.data }, { on := 7, ground := Go.Ground.data }], guard := none }) rfl (fun K hK => ?_) AllReadyH.nil
                    go_simp
                    go_at_call 41
                    refine (same6 HTT.out A B P Q c d dp dq _ (OXW.out.below (Below.refl _ W).drew) HFX.out (RXW.out.below (Below.refl _ W).drew) (by omega) (OYW.out.below (Below.refl _ W).drew) HFY.out (RYW.out.below (Below.refl _ W).drew) (by omega)).mono ?_
                    rintro e v1 ⟨rfl, hb⟩
                    have HV1 := hid (then_b (Below.refl _ W).drew hb)
                    refine hK.out _ _ ?_ (fun hH1 => ?_)
                    · exact ⟨cell_later hb hH0.1, cell_later hb hH0.2.1, cell_later hb hH0.2.2.1, cell_later hb hH0.2.2.2.1, cell_later hb hH0.2.2.2.2.1, cell_later hb hH0.2.2.2.2.2.1, cell_later hb hH0.2.2.2.2.2.2.1, cell_later hb hH0.2.2.2.2.2.2.2.1, cell_later hb hH0.2.2.2.2.2.2.2.2.1, cell_later hb hH0.2.2.2.2.2.2.2.2.2.1, cell_later hb hH0.2.2.2.2.2.2.2.2.2.2.1, cell_later hb hH0.2.2.2.2.2.2.2.2.2.2.2.1, cell_later hb hH0.2.2.2.2.2.2.2.2.2.2.2.2.1, cell_later hb hH0.2.2.2.2.2.2.2.2.2.2.2.2.2⟩
                    clear hK K
                    try simp only [Act.put, List.setIfInBounds_toArray, List.set_cons_zero, List.set_cons_succ]
                    clear hb
                    refine wpAnyH_ready (rs := [11]) (by kernel_rfl) (by simp) ?_
                    refine AllReadyH.cons (i := 11) (o := { dst := some 147, op := Go.Op.call { callee := Go.Callee.value (Go.Operand.func 29), args := #[Go.Operand.tmp 145, Go.Operand.tmp 146], argTypes := #[24, 24] }, type := 4, pos := "law.go:80", after := #[{ on := 9, ground := Go.Ground.data }, { on := 10, ground := Go.Ground.data }, { on := 8, ground := Go.Ground.chain }], guard := none }) rfl (fun K hK => ?_) AllReadyH.nil
                    go_simp
                    go_at_call 29
                    refine (same0 HXX.out A4 A5 c4 c5 _ ((own_obs F5.out HSks.out).below HV1.out) ((own_obs F6.out HSms.out).below HV1.out) KF1.out KF2.out).mono ?_
                    rintro e v2 ⟨rfl, hb⟩
                    have HV2 := hid (then_b HV1.out hb)
                    refine hK.out _ _ ?_ (fun hH2 => ?_)
                    · exact ⟨cell_later hb hH1.1, cell_later hb hH1.2.1, cell_later hb hH1.2.2.1, cell_later hb hH1.2.2.2.1, cell_later hb hH1.2.2.2.2.1, cell_later hb hH1.2.2.2.2.2.1, cell_later hb hH1.2.2.2.2.2.2.1, cell_later hb hH1.2.2.2.2.2.2.2.1, cell_later hb hH1.2.2.2.2.2.2.2.2.1, cell_later hb hH1.2.2.2.2.2.2.2.2.2.1, cell_later hb hH1.2.2.2.2.2.2.2.2.2.2.1, cell_later hb hH1.2.2.2.2.2.2.2.2.2.2.2.1, cell_later hb hH1.2.2.2.2.2.2.2.2.2.2.2.2.1, cell_later hb hH1.2.2.2.2.2.2.2.2.2.2.2.2.2⟩
                    clear hK K
                    try simp only [Act.put, List.setIfInBounds_toArray, List.set_cons_zero, List.set_cons_succ]
                    clear hb
                    refine wpAnyH_take (i := 12) (oi := { dst := some 148, op := Go.Op.move (Go.Operand.tmp 147), type := 4, pos := "law.go:80", after := #[{ on := 11, ground := Go.Ground.data }, { on := 11, ground := Go.Ground.chain }], guard := none }) (v := ?vv43) rfl (by kernel_rfl) (by kernel_rfl) (by kernel_rfl) (fun _ _ _ h => h) (Or.inl ⟨by rfl, ?hy43⟩) (by assumption) ?rr43
                    case hy43 => intro w hSw; (try dsimp only at hSw); go_simp; all_goals with_reducible rfl
                    try simp only [Act.put, List.setIfInBounds_toArray, List.set_cons_zero, List.set_cons_succ]
                    refine wpAnyH_take (i := 13) (oi := { dst := some 149, op := Go.Op.move (Go.Operand.tmp 6), type := 44, pos := "law.go:80", after := #[{ on := 12, ground := Go.Ground.guard }], guard := some (12, true) }) (v := undef) rfl (by kernel_rfl) (by kernel_rfl) (by kernel_rfl) (fun _ _ _ h => h) (Or.inr ⟨by rfl, rfl⟩) (by assumption) ?_
                    try simp only [Act.put, List.setIfInBounds_toArray, List.set_cons_zero, List.set_cons_succ]
                    refine wpAnyH_take (i := 14) (oi := { dst := some 150, op := Go.Op.move (Go.Operand.tmp 9), type := 44, pos := "law.go:80", after := #[{ on := 12, ground := Go.Ground.guard }], guard := some (12, true) }) (v := undef) rfl (by kernel_rfl) (by kernel_rfl) (by kernel_rfl) (fun _ _ _ h => h) (Or.inr ⟨by rfl, rfl⟩) (by assumption) ?_
                    try simp only [Act.put, List.setIfInBounds_toArray, List.set_cons_zero, List.set_cons_succ]
                    refine wpAnyH_take (i := 15) (oi := { dst := some 151, op := Go.Op.call { callee := Go.Callee.value (Go.Operand.func 40), args := #[Go.Operand.tmp 149, Go.Operand.tmp 150], argTypes := #[44, 44] }, type := 4, pos := "law.go:80", after := #[{ on := 13, ground := Go.Ground.data }, { on := 14, ground := Go.Ground.data }, { on := 12, ground := Go.Ground.chain }, { on := 12, ground := Go.Ground.guard }], guard := some (12, true) }) (v := undef) rfl (by kernel_rfl) (by kernel_rfl) (by kernel_rfl) (fun _ _ _ h => h) (Or.inr ⟨by rfl, rfl⟩) (by assumption) ?_
                    try simp only [Act.put, List.setIfInBounds_toArray, List.set_cons_zero, List.set_cons_succ]
                    refine wpAnyH_take (i := 16) (oi := { dst := some 152, op := Go.Op.pick (Go.Operand.tmp 148) (Go.Operand.tmp 151) (Go.Operand.const (Go.Value.bool false)), type := 4, pos := "law.go:80", after := #[{ on := 12, ground := Go.Ground.data }, { on := 15, ground := Go.Ground.data }], guard := none }) (v := ?vv47) rfl (by kernel_rfl) (by kernel_rfl) (by kernel_rfl) (fun _ _ _ h => h) (Or.inl ⟨by rfl, ?hy47⟩) (by assumption) ?rr47
                    case hy47 => intro w hSw; (try dsimp only at hSw); go_simp; all_goals with_reducible rfl
                    try simp only [Act.put, List.setIfInBounds_toArray, List.set_cons_zero, List.set_cons_succ]
                    refine wpAnyH_take (i := 17) (oi := { dst := some 153, op := Go.Op.binOp Go.BinOp.eql 4 (Go.Operand.tmp 144) (Go.Operand.tmp 152) 4, type := 4, pos := "law.go:80", after := #[{ on := 8, ground := Go.Ground.data }, { on := 16, ground := Go.Ground.data }], guard := none }) (v := ?vv48) rfl (by kernel_rfl) (by kernel_rfl) (by kernel_rfl) (fun _ _ _ h => h) (Or.inl ⟨by rfl, ?hy48⟩) (by assumption) ?rr48
                    case hy48 => intro w hSw; (try dsimp only at hSw); go_simp; all_goals with_reducible rfl
                    try simp only [Act.put, List.setIfInBounds_toArray, List.set_cons_zero, List.set_cons_succ]
                    refine wpAnyH_take (i := 18) (oi := { dst := some 4, op := Go.Op.assign (Go.Operand.tmp 153), type := 4, pos := "law.go:80", after := #[{ on := 17, ground := Go.Ground.data }, { on := 15, ground := Go.Ground.chain }, { on := 0, ground := Go.Ground.phase }, { on := 1, ground := Go.Ground.phase }, { on := 2, ground := Go.Ground.phase }, { on := 3, ground := Go.Ground.phase }, { on := 4, ground := Go.Ground.phase }, { on := 5, ground := Go.Ground.phase }, { on := 6, ground := Go.Ground.phase }, { on := 7, ground := Go.Ground.phase }, { on := 8, ground := Go.Ground.phase }, { on := 9, ground := Go.Ground.phase }, { on := 10, ground := Go.Ground.phase }, { on := 11, ground := Go.Ground.phase }, { on := 12, ground := Go.Ground.phase }, { on := 13, ground := Go.Ground.phase }, { on := 14, ground := Go.Ground.phase }, { on := 15, ground := Go.Ground.phase }, { on := 16, ground := Go.Ground.phase }, { on := 17, ground := Go.Ground.phase }], guard := none }) (v := ?vv49) rfl (by kernel_rfl) (by kernel_rfl) (by kernel_rfl) (fun _ _ _ h => h) (Or.inl ⟨by rfl, ?hy49⟩) (by assumption) ?rr49
                    case hy49 => intro w hSw; (try dsimp only at hSw); go_simp; all_goals with_reducible rfl
                    try simp only [Act.put, List.setIfInBounds_toArray, List.set_cons_zero, List.set_cons_succ]
                    refine wpAnyH_done (by kernel_rfl) ?_ _
                    go_wp2_with fail
                    go_ret
                    exact ⟨by simp, F9.out.trans (HV2.out.mono F9.out.size)⟩
                · have HNS : Hid (saB a p b q = false) := saB_no fun g => e2 (HQfn.out.trans g.2.1)
                  go_wp2_with fail
                  refine (same6 HNS.out A B P Q c d dp dq _ OX5.out HFX.out RX5.out (by omega) OY5.out HFY.out RY5.out (by omega)).mono ?_
                  rintro e w6 ⟨rfl, hb⟩
                  have HB6 := hid (HB5.out.trans (hb.mono HB5.out.size))
                  have X6 := hid (X5.out.later hb)
                  have Y6 := hid (Y5.out.later hb)
                  have G6 := hid (G5.out.later hb)
                  have KO6 := hid (KO5.out.later hb)
                  have LO6 := hid (LO5.out.later hb)
                  have H6 := hid (H5.out.later hb)
                  have MO6 := hid (MO5.out.later hb)
                  have NO6 := hid (NO5.out.later hb)
                  have OX6 := hid (OX5.out.below hb)
                  have RX6 := hid (RX5.out.below hb)
                  have OY6 := hid (OY5.out.below hb)
                  have RY6 := hid (RY5.out.below hb)
                  clear x0 x1 x2 x3 y0 y1 y2 y3 g0 g1 g2 u0 u1 u2
                  clear hb
                  have x0 := X6.out.cell 0
                  have x1 := X6.out.cell 1
                  have x2 := X6.out.cell 2
                  have x3 := X6.out.cell 3
                  have y0 := Y6.out.cell 0
                  have y1 := Y6.out.cell 1
                  have y2 := Y6.out.cell 2
                  have y3 := Y6.out.cell 3
                  have g0 := G6.out.cell 0
                  have g1 := G6.out.cell 1
                  have g2 := G6.out.cell 2
                  have u0 := H6.out.cell 0
                  have u1 := H6.out.cell 1
                  have u2 := H6.out.cell 2
                  simp only [List.getElem?_toArray, List.getElem?_cons_zero, List.getElem?_cons_succ] at x0 x1 x2 x3 y0 y1 y2 y3 g0 g1 g2 u0 u1 u2
                  go_wp2_with fail
                  go_ret
                  exact ⟨rfl, HB6.out⟩
              · have HNS : Hid (saB a p b q = false) := saB_no fun g => e1 (HQen.out.trans g.1)
                go_wp2_with fail
                refine (same6 HNS.out A B P Q c d dp dq _ OX5.out HFX.out RX5.out (by omega) OY5.out HFY.out RY5.out (by omega)).mono ?_
                rintro e w6 ⟨rfl, hb⟩
                have HB6 := hid (HB5.out.trans (hb.mono HB5.out.size))
                have X6 := hid (X5.out.later hb)
                have Y6 := hid (Y5.out.later hb)
                have G6 := hid (G5.out.later hb)
                have KO6 := hid (KO5.out.later hb)
                have LO6 := hid (LO5.out.later hb)
                have H6 := hid (H5.out.later hb)
                have MO6 := hid (MO5.out.later hb)
                have NO6 := hid (NO5.out.later hb)
                have OX6 := hid (OX5.out.below hb)
                have RX6 := hid (RX5.out.below hb)
                have OY6 := hid (OY5.out.below hb)
                have RY6 := hid (RY5.out.below hb)
                clear x0 x1 x2 x3 y0 y1 y2 y3 g0 g1 g2 u0 u1 u2
                clear hb
                have x0 := X6.out.cell 0
                have x1 := X6.out.cell 1
                have x2 := X6.out.cell 2
                have x3 := X6.out.cell 3
                have y0 := Y6.out.cell 0
                have y1 := Y6.out.cell 1
                have y2 := Y6.out.cell 2
                have y3 := Y6.out.cell 3
                have g0 := G6.out.cell 0
                have g1 := G6.out.cell 1
                have g2 := G6.out.cell 2
                have u0 := H6.out.cell 0
                have u1 := H6.out.cell 1
                have u2 := H6.out.cell 2
                simp only [List.getElem?_toArray, List.getElem?_cons_zero, List.getElem?_cons_succ] at x0 x1 x2 x3 y0 y1 y2 y3 g0 g1 g2 u0 u1 u2
                go_wp2_with fail
                go_ret
                exact ⟨rfl, HB6.out⟩
end Go.Proofs.Ytododpdkbdndoaa
