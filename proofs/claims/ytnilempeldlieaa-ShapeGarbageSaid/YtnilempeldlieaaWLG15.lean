/- ShapeGarbage walked: whatever state and object, it answers true. -/
import Derived.Test.YtnilempeldlieaaWSX15
import Derived.Test.YtnilempeldlieaaWSG15
import Derived.Test.YtnilempeldlieaaM03
namespace Go.Proofs.Ytnilempeldlieaa
open Go.RowKit
set_option maxRecDepth 100000
theorem Lies.s1_15 {w : World} {g : Nat} {t : TypeId} {a0 a1 a2 a3 a4 a5 a6 a7 : Value} (h : Lies w g t #[a0, a1, a2, a3, a4, a5, a6, a7]) (v0 : Value) : Lies (sets15 w g 0 [v0]) g t #[v0, a1, a2, a3, a4, a5, a6, a7] := by
  have := Lies.sets15_at [v0] 0 h
  simpa only [List.zipIdx, List.foldl, List.setIfInBounds_toArray, List.set_cons_zero, List.set_cons_succ, Nat.zero_add, Nat.reduceAdd] using this
/-- a copy, its row's length told by what lies there -/
theorem copyL15 (h : Hp) (A : Option Addr) (c : Nat) (w : World) (hs : ObsR w A h.objs) (hm : mayB h = true) : Calls Try.prog 14 #[.agg #[.slice A h.objs.length c, .int .i64 h.cap, .int .i64 h.last]] w fun e w' => ∃ A' c' ls, e = .returned (.agg #[.slice A' (ls : List LO).length c', .int .i64 h.cap, .int .i64 h.last]) ∧ ls.map (·.o) = h.objs ∧ OwnH w' w.heap.size A' c' ls ∧ Below w.heap.size w w' :=
  (copy_h h A c w hs hm).mono fun e w' ⟨A', c', ls, h1, h2, h3, h4⟩ => ⟨A', c', ls, by rw [h1, ← h2, List.length_map], h2, h3, h4⟩
/-- an object, whosever its slots, appended to a row of the call's own -/
theorem gb_run15 {w : World} {base b : Nat} {A : Option Addr} {c : Nat} {ls : List LO} (hO : OwnH w base A c ls) (hl : ls.length ≤ 500) (l : LO) (hb : Lies w b 39 l.cells.toArray) (hbase : base ≤ w.heap.size) :
    ∃ A' c' w', (Builtin.append_ #[22, 22] 22 #[.slice A ls.length c, .slice (some ⟨b, 0, none⟩) 1 1]).run Try.prog w = .ok (.slice A' (ls.length + 1) c') w' ∧
      w'.ownsRow base 39 6 (.slice A' (ls.length + 1) c') (ls.length + 1) (rowOf (ls ++ [l])) ∧ (∀ (i : Nat) (m : LO), ls[i]? = some m → w'.ownsRow base 3 1 (.slice m.S m.o.slots.length m.c) m.o.slots.length (m.o.slots.map (Value.int .i64))) ∧ w.grownBy w' (Value.slice A ls.length c).ownBlock := by
  obtain ⟨A', c', w', h1, h2, h3⟩ := run_app_row15 w base b A c 1 ls.length 1 ls [l] hO.row rfl rfl (by omega) (by simpa [rowOf] using hb) hbase
  exact ⟨A', c', w', h1, h2, fun i m hm => (hO.ints i m hm).kept h3 (apart_row hO.row (hO.ints i m hm)), h3⟩
theorem gb_obs15 {w : World} {base : Nat} {A : Option Addr} {c : Nat} {ls : List LO} {l : LO} (row : w.ownsRow base 39 6 (.slice A (ls.length + 1) c) (ls.length + 1) (rowOf (ls ++ [l])))
    (ints : ∀ (i : Nat) (m : LO), ls[i]? = some m → w.ownsRow base 3 1 (.slice m.S m.o.slots.length m.c) m.o.slots.length (m.o.slots.map (Value.int .i64))) (hi : IntsR w l.S l.o.slots) (hn : l.S = none → l.c = 0) (hc : l.o.slots.length ≤ l.c) : ObsR w A ((ls ++ [l]).map (·.o)) := by
  have hrow : w.ownsRow base 39 6 (.slice A (ls ++ [l]).length c) (ls ++ [l]).length (rowOf (ls ++ [l])) := by rw [List.length_append]; exact row
  refine row_obs15 (ls := ls ++ [l]) hrow ?_ ?_ ?_
  · intro m hm
    rcases List.mem_append.1 hm with g | g
    · obtain ⟨i, hi, rfl⟩ := List.getElem_of_mem g
      exact own_ints (ints i _ (List.getElem?_eq_getElem hi))
    · rw [List.mem_singleton.1 g]; exact hi
  · intro m hm
    rcases List.mem_append.1 hm with g | g
    · obtain ⟨i, hi, rfl⟩ := List.getElem_of_mem g
      exact own_nil (ints i _ (List.getElem?_eq_getElem hi))
    · rw [List.mem_singleton.1 g]; exact hn
  · intro m hm
    rcases List.mem_append.1 hm with g | g
    · obtain ⟨i, hi, rfl⟩ := List.getElem_of_mem g
      exact own_cap (ints i _ (List.getElem?_eq_getElem hi))
    · rw [List.mem_singleton.1 g]; exact hc
set_option maxHeartbeats 4000000 in
theorem lgarbage_any15 (s : St) (A : Option Addr) (c : Nat) (o : Ob) (S_ : Option Addr) (e : Nat) (w : World) (hsX : ObsR w A s.hp.objs) (fitX : s.hp.Fit) (hoI : IntsR w S_ o.slots) (hoc : o.slots.length ≤ e) (hon : S_ = none → e = 0) (hol : o.slots.length ≤ 9223372036854775807) :
    Calls Try.prog 5 #[.agg #[.slice A s.hp.objs.length c, .int .i64 s.hp.cap, .int .i64 s.hp.last, .int .i64 s.proc, .int .i64 s.ready, .int .i64 s.halt, .int .i64 s.steps, .int .i64 s.used], .agg #[.int .i64 o.cls, .int .i64 o.kind, .slice S_ o.slots.length e, .string o.text, .int .i64 o.bits, .int .i64 o.hash]] w fun e w' => e = .returned (.bool (true)) ∧ Below w.heap.size w w' := by
  obtain ⟨w0, hw0⟩ : ∃ w0, w0 = ((w.alloc (.cells #[.slice A s.hp.objs.length c, .int .i64 s.hp.cap, .int .i64 s.hp.last, .int .i64 s.proc, .int .i64 s.ready, .int .i64 s.halt, .int .i64 s.steps, .int .i64 s.used] 27)).alloc (.cells #[.int .i64 o.cls, .int .i64 o.kind, .slice S_ o.slots.length e, .string o.text, .int .i64 o.bits, .int .i64 o.hash] 39)) := ⟨_, rfl⟩
  have HB0 : Hid (Below w.heap.size w w0) := by show Below _ _ _; rw [hw0]; exact below_alloc2 w _ _
  have X0 : Hid (Lies w0 (w.heap.size) 27 #[.slice A s.hp.objs.length c, .int .i64 s.hp.cap, .int .i64 s.hp.last, .int .i64 s.proc, .int .i64 s.ready, .int .i64 s.halt, .int .i64 s.steps, .int .i64 s.used]) := by
    show Lies _ _ _ _
    rw [hw0]
    have := (Lies.new w 27 #[.slice A s.hp.objs.length c, .int .i64 s.hp.cap, .int .i64 s.hp.last, .int .i64 s.proc, .int .i64 s.ready, .int .i64 s.halt, .int .i64 s.steps, .int .i64 s.used]).alloc (.cells #[.int .i64 o.cls, .int .i64 o.kind, .slice S_ o.slots.length e, .string o.text, .int .i64 o.bits, .int .i64 o.hash] 39)
    simpa [Hid] using this
  have OX0 := hid (hsX.below HB0.out)
  have HFX := hid fitX
  have hflX := fitX.1
  have J0 : Hid (Lies w0 (w.heap.size + 1) 39 #[.int .i64 o.cls, .int .i64 o.kind, .slice S_ o.slots.length e, .string o.text, .int .i64 o.bits, .int .i64 o.hash]) := by
    show Lies _ _ _ _
    rw [hw0]
    have := Lies.new (w.alloc (.cells #[.slice A s.hp.objs.length c, .int .i64 s.hp.cap, .int .i64 s.hp.last, .int .i64 s.proc, .int .i64 s.ready, .int .i64 s.halt, .int .i64 s.steps, .int .i64 s.used] 27)) 39 #[.int .i64 o.cls, .int .i64 o.kind, .slice S_ o.slots.length e, .string o.text, .int .i64 o.bits, .int .i64 o.hash]
    simpa [Hid] using this
  have HS0 := hid hsX
  have HOI := hid hoI
  have HOC := hid hoc
  have HON := hid hon
  clear hsX fitX hoI hoc hon
  go_enter Try.func5, Try.ntmps5
  go_upto_region 1 with fail
  rw [← hw0]
  clear hw0
  have x0 := X0.out.cell 0
  have x1 := X0.out.cell 1
  have x2 := X0.out.cell 2
  have x3 := X0.out.cell 3
  have x4 := X0.out.cell 4
  have x5 := X0.out.cell 5
  have x6 := X0.out.cell 6
  have x7 := X0.out.cell 7
  simp only [List.getElem?_toArray, List.getElem?_cons_zero, List.getElem?_cons_succ] at x0 x1 x2 x3 x4 x5 x6 x7
  have j_0 := J0.out.cell 0
  have j_1 := J0.out.cell 1
  have j_2 := J0.out.cell 2
  have j_3 := J0.out.cell 3
  have j_4 := J0.out.cell 4
  have j_5 := J0.out.cell 5
  simp only [List.getElem?_toArray, List.getElem?_cons_zero, List.getElem?_cons_succ] at j_0 j_1 j_2 j_3 j_4 j_5
  go_wp2_with fail
  refine (fixed15_any _).mono ?_
  rintro e w1 ⟨rfl, hb⟩
  clear x0 x1 x2 x3 x4 x5 x6 x7 j_0 j_1 j_2 j_3 j_4 j_5
  have HB1 := hid (then_w HB0.out hb)
  have X1 := hid (X0.out.later hb)
  have J1 := hid (J0.out.later hb)
  have OX1 := hid (OX0.out.below hb)
  clear hb
  clear HB0 X0 J0 OX0
  have x0 := X1.out.cell 0
  have x1 := X1.out.cell 1
  have x2 := X1.out.cell 2
  have x3 := X1.out.cell 3
  have x4 := X1.out.cell 4
  have x5 := X1.out.cell 5
  have x6 := X1.out.cell 6
  have x7 := X1.out.cell 7
  simp only [List.getElem?_toArray, List.getElem?_cons_zero, List.getElem?_cons_succ] at x0 x1 x2 x3 x4 x5 x6 x7
  have j_0 := J1.out.cell 0
  have j_1 := J1.out.cell 1
  have j_2 := J1.out.cell 2
  have j_3 := J1.out.cell 3
  have j_4 := J1.out.cell 4
  have j_5 := J1.out.cell 5
  simp only [List.getElem?_toArray, List.getElem?_cons_zero, List.getElem?_cons_succ] at j_0 j_1 j_2 j_3 j_4 j_5
  go_wp2_with fail
  refine (small_ok s.hp A c _ OX1.out HFX.out).mono ?_
  rintro e w2 ⟨sm, rfl, hb⟩
  clear x0 x1 x2 x3 x4 x5 x6 x7 j_0 j_1 j_2 j_3 j_4 j_5
  have HB2 := hid (then_w HB1.out hb)
  have X2 := hid (X1.out.later hb)
  have J2 := hid (J1.out.later hb)
  have OX2 := hid (OX1.out.below hb)
  clear hb
  clear HB1 X1 J1 OX1
  cases sm
  · have x0 := X2.out.cell 0
    have x1 := X2.out.cell 1
    have x2 := X2.out.cell 2
    have x3 := X2.out.cell 3
    have x4 := X2.out.cell 4
    have x5 := X2.out.cell 5
    have x6 := X2.out.cell 6
    have x7 := X2.out.cell 7
    simp only [List.getElem?_toArray, List.getElem?_cons_zero, List.getElem?_cons_succ] at x0 x1 x2 x3 x4 x5 x6 x7
    have j_0 := J2.out.cell 0
    have j_1 := J2.out.cell 1
    have j_2 := J2.out.cell 2
    have j_3 := J2.out.cell 3
    have j_4 := J2.out.cell 4
    have j_5 := J2.out.cell 5
    simp only [List.getElem?_toArray, List.getElem?_cons_zero, List.getElem?_cons_succ] at j_0 j_1 j_2 j_3 j_4 j_5
    go_wp2_with fail
    refine (fixed15_any _).mono ?_
    rintro e w3 ⟨rfl, hb⟩
    clear x0 x1 x2 x3 x4 x5 x6 x7 j_0 j_1 j_2 j_3 j_4 j_5
    have HB3 := hid (then_w HB2.out hb)
    have X3 := hid (X2.out.later hb)
    have J3 := hid (J2.out.later hb)
    have OX3 := hid (OX2.out.below hb)
    clear hb
    clear HB2 X2 J2 OX2
    go_wp2_with fail
    go_ret
    exact ⟨rfl, HB3.out⟩
  · by_cases q1 : 60 < s.hp.objs.length
    · have q' : (60 : Int) < (s.hp.objs.length : Int) := by omega
      have x0 := X2.out.cell 0
      have x1 := X2.out.cell 1
      have x2 := X2.out.cell 2
      have x3 := X2.out.cell 3
      have x4 := X2.out.cell 4
      have x5 := X2.out.cell 5
      have x6 := X2.out.cell 6
      have x7 := X2.out.cell 7
      simp only [List.getElem?_toArray, List.getElem?_cons_zero, List.getElem?_cons_succ] at x0 x1 x2 x3 x4 x5 x6 x7
      have j_0 := J2.out.cell 0
      have j_1 := J2.out.cell 1
      have j_2 := J2.out.cell 2
      have j_3 := J2.out.cell 3
      have j_4 := J2.out.cell 4
      have j_5 := J2.out.cell 5
      simp only [List.getElem?_toArray, List.getElem?_cons_zero, List.getElem?_cons_succ] at j_0 j_1 j_2 j_3 j_4 j_5
      go_wp2_with fail
      refine (fixed15_any _).mono ?_
      rintro e w3 ⟨rfl, hb⟩
      clear x0 x1 x2 x3 x4 x5 x6 x7 j_0 j_1 j_2 j_3 j_4 j_5
      have HB3 := hid (then_w HB2.out hb)
      have X3 := hid (X2.out.later hb)
      have J3 := hid (J2.out.later hb)
      have OX3 := hid (OX2.out.below hb)
      clear hb
      clear HB2 X2 J2 OX2
      go_wp2_with fail
      go_ret
      exact ⟨rfl, HB3.out⟩
    · have q' : ¬ (60 : Int) < (s.hp.objs.length : Int) := by omega
      obtain ⟨ckX, hckX⟩ : ∃ x, x = ckI s := ⟨_, rfl⟩
      have HCKX := hid hckX
      clear hckX
      have x0 := X2.out.cell 0
      have x1 := X2.out.cell 1
      have x2 := X2.out.cell 2
      have x3 := X2.out.cell 3
      have x4 := X2.out.cell 4
      have x5 := X2.out.cell 5
      have x6 := X2.out.cell 6
      have x7 := X2.out.cell 7
      simp only [List.getElem?_toArray, List.getElem?_cons_zero, List.getElem?_cons_succ] at x0 x1 x2 x3 x4 x5 x6 x7
      have j_0 := J2.out.cell 0
      have j_1 := J2.out.cell 1
      have j_2 := J2.out.cell 2
      have j_3 := J2.out.cell 3
      have j_4 := J2.out.cell 4
      have j_5 := J2.out.cell 5
      simp only [List.getElem?_toArray, List.getElem?_cons_zero, List.getElem?_cons_succ] at j_0 j_1 j_2 j_3 j_4 j_5
      go_wp2_with fail
      refine (rck_any15 s A c _ OX2.out HFX.out).mono ?_
      rintro e w3 ⟨rfl, hb⟩
      clear x0 x1 x2 x3 x4 x5 x6 x7 j_0 j_1 j_2 j_3 j_4 j_5
      rw [← HCKX.out]
      have HB3 := hid (then_w HB2.out hb)
      have X3 := hid (X2.out.later hb)
      have J3 := hid (J2.out.later hb)
      have OX3 := hid (OX2.out.below hb)
      clear hb
      clear HB2 X2 J2 OX2
      cases hx : ckB s
      · obtain rfl : ckX = 150 := HCKX.out.trans (ckI_no hx)
        clear hx
        have x0 := X3.out.cell 0
        have x1 := X3.out.cell 1
        have x2 := X3.out.cell 2
        have x3 := X3.out.cell 3
        have x4 := X3.out.cell 4
        have x5 := X3.out.cell 5
        have x6 := X3.out.cell 6
        have x7 := X3.out.cell 7
        simp only [List.getElem?_toArray, List.getElem?_cons_zero, List.getElem?_cons_succ] at x0 x1 x2 x3 x4 x5 x6 x7
        have j_0 := J3.out.cell 0
        have j_1 := J3.out.cell 1
        have j_2 := J3.out.cell 2
        have j_3 := J3.out.cell 3
        have j_4 := J3.out.cell 4
        have j_5 := J3.out.cell 5
        simp only [List.getElem?_toArray, List.getElem?_cons_zero, List.getElem?_cons_succ] at j_0 j_1 j_2 j_3 j_4 j_5
        go_wp2_with fail
        refine (fixed15_any _).mono ?_
        rintro e w4 ⟨rfl, hb⟩
        clear x0 x1 x2 x3 x4 x5 x6 x7 j_0 j_1 j_2 j_3 j_4 j_5
        have HB4 := hid (then_w HB3.out hb)
        have X4 := hid (X3.out.later hb)
        have J4 := hid (J3.out.later hb)
        have OX4 := hid (OX3.out.below hb)
        clear hb
        clear HB3 X3 J3 OX3
        go_wp2_with fail
        go_ret
        exact ⟨rfl, HB4.out⟩
      · have HCX := hid (ck_iff.1 hx)
        obtain rfl : ckX = 0 := HCKX.out.trans (ckI_yes hx)
        have HIX := hid (ckI_yes hx)
        have HSX := hid (coS_yes hx)
        clear hx
        by_cases q2 : s.hp.cap ≤ (s.hp.objs.length : Int)
        · skip
          have x0 := X3.out.cell 0
          have x1 := X3.out.cell 1
          have x2 := X3.out.cell 2
          have x3 := X3.out.cell 3
          have x4 := X3.out.cell 4
          have x5 := X3.out.cell 5
          have x6 := X3.out.cell 6
          have x7 := X3.out.cell 7
          simp only [List.getElem?_toArray, List.getElem?_cons_zero, List.getElem?_cons_succ] at x0 x1 x2 x3 x4 x5 x6 x7
          have j_0 := J3.out.cell 0
          have j_1 := J3.out.cell 1
          have j_2 := J3.out.cell 2
          have j_3 := J3.out.cell 3
          have j_4 := J3.out.cell 4
          have j_5 := J3.out.cell 5
          simp only [List.getElem?_toArray, List.getElem?_cons_zero, List.getElem?_cons_succ] at j_0 j_1 j_2 j_3 j_4 j_5
          go_wp2_with fail
          refine (fixed15_any _).mono ?_
          rintro e w4 ⟨rfl, hb⟩
          clear x0 x1 x2 x3 x4 x5 x6 x7 j_0 j_1 j_2 j_3 j_4 j_5
          have HB4 := hid (then_w HB3.out hb)
          have X4 := hid (X3.out.later hb)
          have J4 := hid (J3.out.later hb)
          have OX4 := hid (OX3.out.below hb)
          clear hb
          clear HB3 X3 J3 OX3
          go_wp2_with fail
          go_ret
          exact ⟨rfl, HB4.out⟩
        · skip
          by_cases q3 : 64 < o.slots.length
          · have q3' : (64 : Int) < (o.slots.length : Int) := by omega
            have x0 := X3.out.cell 0
            have x1 := X3.out.cell 1
            have x2 := X3.out.cell 2
            have x3 := X3.out.cell 3
            have x4 := X3.out.cell 4
            have x5 := X3.out.cell 5
            have x6 := X3.out.cell 6
            have x7 := X3.out.cell 7
            simp only [List.getElem?_toArray, List.getElem?_cons_zero, List.getElem?_cons_succ] at x0 x1 x2 x3 x4 x5 x6 x7
            have j_0 := J3.out.cell 0
            have j_1 := J3.out.cell 1
            have j_2 := J3.out.cell 2
            have j_3 := J3.out.cell 3
            have j_4 := J3.out.cell 4
            have j_5 := J3.out.cell 5
            simp only [List.getElem?_toArray, List.getElem?_cons_zero, List.getElem?_cons_succ] at j_0 j_1 j_2 j_3 j_4 j_5
            go_wp2_with fail
            refine (fixed15_any _).mono ?_
            rintro e w4 ⟨rfl, hb⟩
            clear x0 x1 x2 x3 x4 x5 x6 x7 j_0 j_1 j_2 j_3 j_4 j_5
            have HB4 := hid (then_w HB3.out hb)
            have X4 := hid (X3.out.later hb)
            have J4 := hid (J3.out.later hb)
            have OX4 := hid (OX3.out.below hb)
            clear hb
            clear HB3 X3 J3 OX3
            go_wp2_with fail
            go_ret
            exact ⟨rfl, HB4.out⟩
          · have q3' : ¬ (64 : Int) < (o.slots.length : Int) := by omega
            have x0 := X3.out.cell 0
            have x1 := X3.out.cell 1
            have x2 := X3.out.cell 2
            have x3 := X3.out.cell 3
            have x4 := X3.out.cell 4
            have x5 := X3.out.cell 5
            have x6 := X3.out.cell 6
            have x7 := X3.out.cell 7
            simp only [List.getElem?_toArray, List.getElem?_cons_zero, List.getElem?_cons_succ] at x0 x1 x2 x3 x4 x5 x6 x7
            have j_0 := J3.out.cell 0
            have j_1 := J3.out.cell 1
            have j_2 := J3.out.cell 2
            have j_3 := J3.out.cell 3
            have j_4 := J3.out.cell 4
            have j_5 := J3.out.cell 5
            simp only [List.getElem?_toArray, List.getElem?_cons_zero, List.getElem?_cons_succ] at j_0 j_1 j_2 j_3 j_4 j_5
            go_upto_region 4 with fail
            clear x0 x1 x2 x3 x4 x5 x6 x7 j_0 j_1 j_2 j_3 j_4 j_5
            obtain ⟨w4, hw⟩ : ∃ x, x = w3.alloc (.cells #[.slice A s.hp.objs.length c, .int .i64 s.hp.cap, .int .i64 s.hp.last, .int .i64 s.proc, .int .i64 s.ready, .int .i64 s.halt, .int .i64 s.steps, .int .i64 s.used] 27) := ⟨_, rfl⟩
            obtain ⟨bt, hbx⟩ : ∃ x, x = w3.heap.size := ⟨_, rfl⟩
            have T4 : Hid (Lies w4 bt 27 #[.slice A s.hp.objs.length c, .int .i64 s.hp.cap, .int .i64 s.hp.last, .int .i64 s.proc, .int .i64 s.ready, .int .i64 s.halt, .int .i64 s.steps, .int .i64 s.used]) := by show Lies _ _ _ _; rw [hw, hbx]; exact Lies.new _ _ _
            have hb : Below w3.heap.size w3 w4 := by rw [hw]; exact below_alloc _ _
            rw [← hw, ← hbx]
            have ne_X_T : Hid ((w.heap.size) ≠ bt) := by show _ ≠ _; rw [hbx]; exact Nat.ne_of_lt X3.out.lt
            have ne_J_T : Hid ((w.heap.size + 1) ≠ bt) := by show _ ≠ _; rw [hbx]; exact Nat.ne_of_lt J3.out.lt
            have at_T : Hid (bt = w3.heap.size) := hbx
            have le_HB_T : Hid (w.heap.size ≤ bt) := by show _ ≤ _; rw [hbx]; exact HB3.out.size
            clear hbx hw
            have HALT := hid hb
            have HB4 := hid (then_w HB3.out hb)
            have X4 := hid (X3.out.later hb)
            have J4 := hid (J3.out.later hb)
            have OX4 := hid (OX3.out.below hb)
            clear hb
            clear HB3 X3 J3 OX3
            have x0 := X4.out.cell 0
            have x1 := X4.out.cell 1
            have x2 := X4.out.cell 2
            have x3 := X4.out.cell 3
            have x4 := X4.out.cell 4
            have x5 := X4.out.cell 5
            have x6 := X4.out.cell 6
            have x7 := X4.out.cell 7
            simp only [List.getElem?_toArray, List.getElem?_cons_zero, List.getElem?_cons_succ] at x0 x1 x2 x3 x4 x5 x6 x7
            go_wp2_with fail
            have HBS := hid HB4.out.size
            refine (copyL15 s.hp A c _ (HS0.out.below HB4.out) HCX.out.may).mono ?_
            rintro e w5 ⟨A2, c2, ls, rfl, hls, hob, hb⟩
            clear x0 x1 x2 x3 x4 x5 x6 x7
            have HB5 := hid (then_w HB4.out hb)
            have X5 := hid (X4.out.later hb)
            have J5 := hid (J4.out.later hb)
            have T5 := hid (T4.out.later hb)
            have OX5 := hid (OX4.out.below hb)
            clear hb
            clear HB4 X4 J4 T4 OX4
            have HLS := hid hls
            have hQ := hob.lower (show w.heap.size ≤ w4.heap.size from HBS.out)
            clear hls hob
            have Q5 := hid hQ
            clear hQ
            have t_0 := T5.out.cell 0
            have t_1 := T5.out.cell 1
            have t_2 := T5.out.cell 2
            have t_3 := T5.out.cell 3
            have t_4 := T5.out.cell 4
            have t_5 := T5.out.cell 5
            have t_6 := T5.out.cell 6
            have t_7 := T5.out.cell 7
            have t_f0 := T5.out.frozen 0
            have t_f1 := T5.out.frozen 1
            have t_f2 := T5.out.frozen 2
            have t_f3 := T5.out.frozen 3
            have t_f4 := T5.out.frozen 4
            have t_f5 := T5.out.frozen 5
            have t_f6 := T5.out.frozen 6
            have t_f7 := T5.out.frozen 7
            simp only [List.getElem?_toArray, List.getElem?_cons_zero, List.getElem?_cons_succ] at t_0 t_1 t_2 t_3 t_4 t_5 t_6 t_7
            go_upto_region 5 with fail
            clear t_f0 t_f1 t_f2 t_f3 t_f4 t_f5 t_f6 t_f7 t_0 t_1 t_2 t_3 t_4 t_5 t_6 t_7
            obtain ⟨w6, hw⟩ : ∃ x, x = (((w5.setCell ⟨bt, 0, none⟩ (.slice A2 ls.length c2)).setCell ⟨bt, 1, none⟩ (.int .i64 s.hp.cap)).setCell ⟨bt, 2, none⟩ (.int .i64 s.hp.last)) := ⟨_, rfl⟩
            rw [← hw]
            have hw2 : w6 = (sets15 w5 bt 0 [.slice A2 ls.length c2, .int .i64 s.hp.cap, .int .i64 s.hp.last]) := hw
            clear hw
            have HB6 : Hid (Below w.heap.size w w6) := by show Below _ _ _; rw [hw2]; exact (Below.sets15 le_HB_T.out [.slice A2 ls.length c2, .int .i64 s.hp.cap, .int .i64 s.hp.last] 0 HB5.out)
            have Q6 : Hid (OwnH w6 w.heap.size A2 c2 ls) := by show OwnH _ _ _ _ _; rw [hw2]; exact (OwnH.sets15 (by decide) (by decide) [.slice A2 ls.length c2, .int .i64 s.hp.cap, .int .i64 s.hp.last] 0 Q5.out T5.out)
            have X6 : Hid (Lies w6 (w.heap.size) 27 #[.slice A s.hp.objs.length c, .int .i64 s.hp.cap, .int .i64 s.hp.last, .int .i64 s.proc, .int .i64 s.ready, .int .i64 s.halt, .int .i64 s.steps, .int .i64 s.used]) := by show Lies _ _ _ _; rw [hw2]; exact (Lies.sets15_far ne_X_T.out [.slice A2 ls.length c2, .int .i64 s.hp.cap, .int .i64 s.hp.last] 0 X5.out)
            have J6 : Hid (Lies w6 (w.heap.size + 1) 39 #[.int .i64 o.cls, .int .i64 o.kind, .slice S_ o.slots.length e, .string o.text, .int .i64 o.bits, .int .i64 o.hash]) := by show Lies _ _ _ _; rw [hw2]; exact (Lies.sets15_far ne_J_T.out [.slice A2 ls.length c2, .int .i64 s.hp.cap, .int .i64 s.hp.last] 0 J5.out)
            have T6 : Hid (Lies w6 bt 27 #[.slice A2 ls.length c2, .int .i64 s.hp.cap, .int .i64 s.hp.last, .int .i64 s.proc, .int .i64 s.ready, .int .i64 s.halt, .int .i64 s.steps, .int .i64 s.used]) := by show Lies _ _ _ _; rw [hw2]; exact (T5.out.s3_15 (.slice A2 ls.length c2) (.int .i64 s.hp.cap) (.int .i64 s.hp.last))
            clear hw2
            clear HB5 X5 J5 T5 Q5
            obtain ⟨os, hos⟩ : ∃ os, os = s.hp.objs ++ [o] := ⟨_, rfl⟩
            have hLL : ls.length = s.hp.objs.length := by rw [← HLS.out, List.length_map]
            have hOL : os.length = ls.length + 1 := by rw [hos, hLL, List.length_append]; rfl
            have HOS := hid hos
            have HAL2 := hid (below_alloc w6 (.cells #[.int .i64 o.cls, .int .i64 o.kind, .slice S_ o.slots.length e, .string o.text, .int .i64 o.bits, .int .i64 o.hash] 39))
            have HQ2 := hid (Q6.out.later HAL2.out)
            have HSZ2 : Hid (w.heap.size ≤ (w6.alloc (.cells #[.int .i64 o.cls, .int .i64 o.kind, .slice S_ o.slots.length e, .string o.text, .int .i64 o.bits, .int .i64 o.hash] 39)).heap.size) := Nat.le_trans HB6.out.size HAL2.out.size
            obtain ⟨A3, c3, wr, hrun, hrow, hints, hg⟩ := gb_run15 (w := w6.alloc (.cells #[.int .i64 o.cls, .int .i64 o.kind, .slice S_ o.slots.length e, .string o.text, .int .i64 o.bits, .int .i64 o.hash] 39)) (b := w6.heap.size) HQ2.out (by omega) ⟨o, S_, e⟩ (Lies.new w6 39 #[.int .i64 o.cls, .int .i64 o.kind, .slice S_ o.slots.length e, .string o.text, .int .i64 o.bits, .int .i64 o.hash]) HSZ2.out
            have HRL : Hid ((Builtin.append_ #[22, 22] 22 #[.slice A2 ls.length c2, .slice (some ⟨w6.heap.size, 0, none⟩) 1 1]).run Try.prog (w6.alloc (.cells #[.int .i64 o.cls, .int .i64 o.kind, .slice S_ o.slots.length e, .string o.text, .int .i64 o.bits, .int .i64 o.hash] 39)) = .ok (.slice A3 os.length c3) wr) := by show _ = _; rw [hOL]; exact hrun
            have HROW := hid hrow
            have HINTS := hid hints
            have hBR : Below w.heap.size w wr := (HB6.out.trans (HAL2.out.mono HB6.out.size)).grown hg HSZ2.out (fun q hq => (HQ2.out.row.lt q hq).1)
            have HBR := hid hBR
            have XR := hid (grown_lies15 hg (X6.out.later HAL2.out) HQ2.out.row (by decide))
            have TR := hid (grown_lies15 hg (T6.out.later HAL2.out) HQ2.out.row (by decide))
            have HOL := hid hOL
            have hos2 : os.length ≤ 61 := by omega
            clear hos hLL hOL hrun hrow hints hg hBR
            have tr0 := TR.out.cell 0
            have trf0 := TR.out.frozen 0
            simp only [List.getElem?_toArray, List.getElem?_cons_zero] at tr0
            have t_0 := T6.out.cell 0
            have t_1 := T6.out.cell 1
            have t_2 := T6.out.cell 2
            have t_3 := T6.out.cell 3
            have t_4 := T6.out.cell 4
            have t_5 := T6.out.cell 5
            have t_6 := T6.out.cell 6
            have t_7 := T6.out.cell 7
            simp only [List.getElem?_toArray, List.getElem?_cons_zero, List.getElem?_cons_succ] at t_0 t_1 t_2 t_3 t_4 t_5 t_6 t_7
            have j_0 := J6.out.cell 0
            have j_1 := J6.out.cell 1
            have j_2 := J6.out.cell 2
            have j_3 := J6.out.cell 3
            have j_4 := J6.out.cell 4
            have j_5 := J6.out.cell 5
            simp only [List.getElem?_toArray, List.getElem?_cons_zero, List.getElem?_cons_succ] at j_0 j_1 j_2 j_3 j_4 j_5
            go_upto_region 6 with (at_builtin; refine wpList_app_run rfl (.tmp 54) (.tmp 56) 22 rfl _ _ HRL.out ?_)
            clear t_0 t_1 t_2 t_3 t_4 t_5 t_6 t_7 j_0 j_1 j_2 j_3 j_4 j_5
            clear tr0 trf0
            obtain ⟨w7, hw⟩ : ∃ x, x = wr.setCell ⟨bt, 0, none⟩ (.slice A3 os.length c3) := ⟨_, rfl⟩
            rw [← hw]
            have hw2 : w7 = sets15 wr bt 0 [.slice A3 os.length c3] := hw
            clear hw
            have HB7 : Hid (Below w.heap.size w w7) := by show Below _ _ _; rw [hw2]; exact Below.sets15 le_HB_T.out [.slice A3 os.length c3] 0 HBR.out
            have X7 : Hid (Lies w7 (w.heap.size) 27 #[.slice A s.hp.objs.length c, .int .i64 s.hp.cap, .int .i64 s.hp.last, .int .i64 s.proc, .int .i64 s.ready, .int .i64 s.halt, .int .i64 s.steps, .int .i64 s.used]) := by show Lies _ _ _ _; rw [hw2]; exact Lies.sets15_far ne_X_T.out [.slice A3 os.length c3] 0 XR.out
            have T7 : Hid (Lies w7 bt 27 #[.slice A3 os.length c3, .int .i64 s.hp.cap, .int .i64 s.hp.last, .int .i64 s.proc, .int .i64 s.ready, .int .i64 s.halt, .int .i64 s.steps, .int .i64 s.used]) := by show Lies _ _ _ _; rw [hw2]; exact TR.out.s1_15 _
            have OT7 : Hid (ObsR w7 A3 os) := by
              show ObsR _ _ _
              have hr := own_sets15 (t := 27) (by decide) [.slice A3 os.length c3] 0 HROW.out TR.out
              have hi := fun i mm hm => own_sets15 (t := 27) (by decide) [.slice A3 os.length c3] 0 (HINTS.out i mm hm) TR.out
              rw [← hw2] at hr hi
              have := gb_obs15 hr hi (HOI.out.below HB7.out) HON.out HOC.out
              rw [List.map_append, HLS.out] at this
              rw [HOS.out]
              exact this
            clear hw2 HROW HINTS HBR XR TR HRL HQ2 HAL2 HSZ2 HB6 X6 T6 Q6 J6
            have OX7 := hid (HS0.out.below HB7.out)
            have HG : Hid (gb15 s o = ⟨⟨os, s.hp.cap, s.hp.last⟩, s.proc, s.ready, s.halt, s.steps, s.used⟩) := by show _ = _; rw [HOS.out]; rfl
            obtain ⟨t, ht⟩ : ∃ t : St, t = ⟨⟨os, s.hp.cap, s.hp.last⟩, s.proc, s.ready, s.halt, s.steps, s.used⟩ := ⟨_, rfl⟩
            have HFT : Hid ((⟨⟨os, s.hp.cap, s.hp.last⟩, s.proc, s.ready, s.halt, s.steps, s.used⟩ : St).hp.Fit) := ⟨by show os.length ≤ _; omega, fun o' ho' => by
              have ho2 : o' ∈ s.hp.objs ++ [o] := by rw [← HOS.out]; exact ho'
              rcases List.mem_append.1 ho2 with g | g
              · exact HFX.out.2 o' g
              · rw [List.mem_singleton.1 g]; exact hol⟩
            rw [← ht] at HG HFT
            have HTT := hid ht
            obtain ⟨cT, hcT⟩ : ∃ x, x = ckI t := ⟨_, rfl⟩
            have HCT := hid hcT
            clear ht hcT
            have RCK : Hid (∀ w, ObsR w A3 os → Calls Try.prog 10 #[.agg #[.slice A3 os.length c3, .int .i64 s.hp.cap, .int .i64 s.hp.last, .int .i64 s.proc, .int .i64 s.ready, .int .i64 s.halt, .int .i64 s.steps, .int .i64 s.used]] w fun e w' => e = .returned (.int .i64 cT) ∧ Below w.heap.size w w') := fun w h => by
              have := rck_any15 t A3 c3 w (by rw [HTT.out]; exact h) HFT.out
              rw [← HCT.out] at this
              rw [HTT.out] at this
              exact this
            have t_0 := T7.out.cell 0
            have t_1 := T7.out.cell 1
            have t_2 := T7.out.cell 2
            have t_3 := T7.out.cell 3
            have t_4 := T7.out.cell 4
            have t_5 := T7.out.cell 5
            have t_6 := T7.out.cell 6
            have t_7 := T7.out.cell 7
            simp only [List.getElem?_toArray, List.getElem?_cons_zero, List.getElem?_cons_succ] at t_0 t_1 t_2 t_3 t_4 t_5 t_6 t_7
            go_wp2_with fail
            refine (RCK.out _ OT7.out).mono ?_
            rintro e w8 ⟨rfl, hb⟩
            clear t_0 t_1 t_2 t_3 t_4 t_5 t_6 t_7
            have HB8 := hid (then_w HB7.out hb)
            have X8 := hid (X7.out.later hb)
            have T8 := hid (T7.out.later hb)
            have OX8 := hid (OX7.out.below hb)
            have OT8 := hid (OT7.out.below hb)
            clear hb
            clear HB7 X7 T7 OX7 OT7
            cases hx : ckB t
            · obtain rfl : cT = 150 := HCT.out.trans (ckI_no hx)
              clear hx
              go_wp2_with fail
              go_ret
              exact ⟨rfl, HB8.out⟩
            · have HCKT : Hid (Ck15 (gb15 s o)) := by show Ck15 _; rw [HG.out]; exact ck_iff.1 hx
              obtain rfl : cT = 0 := HCT.out.trans (ckI_yes hx)
              clear hx
              obtain ⟨q, hq⟩ : ∃ q, q = cl15 s := ⟨_, rfl⟩
              have HQS : Hid (coS s = q) := HSX.out.trans hq.symm
              have HQT : Hid (coS t = q) := by show _ = _; rw [← HG.out, coS_yes (ck_iff.2 HCKT.out), gb_cl HCX.out HCKT.out, hq]
              have HFQ : Hid q.hp.Fit := by show q.hp.Fit; rw [hq]; exact co_fit15 HCX.out
              have HST : Hid (ssB s t = true) := by show _ = _; rw [← HG.out]; exact ss_gb HCX.out HCKT.out
              clear hq
              have RCL : Hid (∀ w, ObsR w A3 os → Calls Try.prog 13 #[.agg #[.slice A3 os.length c3, .int .i64 s.hp.cap, .int .i64 s.hp.last, .int .i64 s.proc, .int .i64 s.ready, .int .i64 s.halt, .int .i64 s.steps, .int .i64 s.used]] w (StE15 w q 0)) := fun w h => by
                have := ccolL15 HQT.out HCT.out.symm A3 c3 w (by rw [HTT.out]; exact h) HFT.out
                rw [HTT.out] at this
                exact this
              have RSM : Hid (∀ w, ObsR w A s.hp.objs → ObsR w A3 os → Calls Try.prog 8 #[.agg #[.slice A s.hp.objs.length c, .int .i64 s.hp.cap, .int .i64 s.hp.last, .int .i64 s.proc, .int .i64 s.ready, .int .i64 s.halt, .int .i64 s.steps, .int .i64 s.used], .agg #[.slice A3 os.length c3, .int .i64 s.hp.cap, .int .i64 s.hp.last, .int .i64 s.proc, .int .i64 s.ready, .int .i64 s.halt, .int .i64 s.steps, .int .i64 s.used]] w fun e w' => e = .returned (.bool true) ∧ Below w.heap.size w w') := fun w h1 h2 => by
                have := csameL15 HST.out A c A3 c3 w h1 HFX.out (by rw [HTT.out]; exact h2) HFT.out
                rw [HTT.out] at this
                exact this
              have x0 := X8.out.cell 0
              have x1 := X8.out.cell 1
              have x2 := X8.out.cell 2
              have x3 := X8.out.cell 3
              have x4 := X8.out.cell 4
              have x5 := X8.out.cell 5
              have x6 := X8.out.cell 6
              have x7 := X8.out.cell 7
              simp only [List.getElem?_toArray, List.getElem?_cons_zero, List.getElem?_cons_succ] at x0 x1 x2 x3 x4 x5 x6 x7
              go_wp2_with fail
              refine (ccolL15 HQS.out HIX.out A c _ OX8.out HFX.out).mono ?_
              rintro e w9 ⟨A4, c4, rfl, ob4, hb⟩
              clear x0 x1 x2 x3 x4 x5 x6 x7
              have HB9 := hid (then_w HB8.out hb)
              have X9 := hid (X8.out.later hb)
              have T9 := hid (T8.out.later hb)
              have OX9 := hid (OX8.out.below hb)
              have OT9 := hid (OT8.out.below hb)
              clear hb
              clear HB8 X8 T8 OX8 OT8
              have OQ9 := hid ob4
              clear ob4
              go_upto_region 9 with fail
              obtain ⟨w10, hw⟩ : ∃ x, x = w9.alloc (.cells #[.slice A4 q.hp.objs.length c4, .int .i64 q.hp.cap, .int .i64 q.hp.last, .int .i64 q.proc, .int .i64 q.ready, .int .i64 q.halt, .int .i64 q.steps, .int .i64 q.used] 27) := ⟨_, rfl⟩
              obtain ⟨bc, hbx⟩ : ∃ x, x = w9.heap.size := ⟨_, rfl⟩
              have C10 : Hid (Lies w10 bc 27 #[.slice A4 q.hp.objs.length c4, .int .i64 q.hp.cap, .int .i64 q.hp.last, .int .i64 q.proc, .int .i64 q.ready, .int .i64 q.halt, .int .i64 q.steps, .int .i64 q.used]) := by show Lies _ _ _ _; rw [hw, hbx]; exact Lies.new _ _ _
              have hb : Below w9.heap.size w9 w10 := by rw [hw]; exact below_alloc _ _
              rw [← hw, ← hbx]
              have ne_X_C : Hid ((w.heap.size) ≠ bc) := by show _ ≠ _; rw [hbx]; exact Nat.ne_of_lt X9.out.lt
              have ne_T_C : Hid (bt ≠ bc) := by show _ ≠ _; rw [hbx]; exact Nat.ne_of_lt T9.out.lt
              have at_C : Hid (bc = w9.heap.size) := hbx
              have le_HB_C : Hid (w.heap.size ≤ bc) := by show _ ≤ _; rw [hbx]; exact HB9.out.size
              clear hbx hw
              have HALC := hid hb
              have HB10 := hid (then_w HB9.out hb)
              have X10 := hid (X9.out.later hb)
              have T10 := hid (T9.out.later hb)
              have OX10 := hid (OX9.out.below hb)
              have OT10 := hid (OT9.out.below hb)
              have OQ10 := hid (OQ9.out.below hb)
              clear hb
              clear HB9 X9 T9 OX9 OT9 OQ9
              have t_0 := T10.out.cell 0
              have t_1 := T10.out.cell 1
              have t_2 := T10.out.cell 2
              have t_3 := T10.out.cell 3
              have t_4 := T10.out.cell 4
              have t_5 := T10.out.cell 5
              have t_6 := T10.out.cell 6
              have t_7 := T10.out.cell 7
              simp only [List.getElem?_toArray, List.getElem?_cons_zero, List.getElem?_cons_succ] at t_0 t_1 t_2 t_3 t_4 t_5 t_6 t_7
              go_wp2_with fail
              refine (RCL.out _ OT10.out).mono ?_
              rintro e w11 ⟨A5, c5, rfl, ob5, hb⟩
              clear t_0 t_1 t_2 t_3 t_4 t_5 t_6 t_7
              have HB11 := hid (then_w HB10.out hb)
              have X11 := hid (X10.out.later hb)
              have T11 := hid (T10.out.later hb)
              have C11 := hid (C10.out.later hb)
              have OX11 := hid (OX10.out.below hb)
              have OT11 := hid (OT10.out.below hb)
              have OQ11 := hid (OQ10.out.below hb)
              clear hb
              clear HB10 X10 T10 C10 OX10 OT10 OQ10
              have OR11 := hid ob5
              clear ob5
              go_upto_region 10 with fail
              obtain ⟨w12, hw⟩ : ∃ x, x = w11.alloc (.cells #[.slice A5 q.hp.objs.length c5, .int .i64 q.hp.cap, .int .i64 q.hp.last, .int .i64 q.proc, .int .i64 q.ready, .int .i64 q.halt, .int .i64 q.steps, .int .i64 q.used] 27) := ⟨_, rfl⟩
              obtain ⟨bd, hbx⟩ : ∃ x, x = w11.heap.size := ⟨_, rfl⟩
              have D12 : Hid (Lies w12 bd 27 #[.slice A5 q.hp.objs.length c5, .int .i64 q.hp.cap, .int .i64 q.hp.last, .int .i64 q.proc, .int .i64 q.ready, .int .i64 q.halt, .int .i64 q.steps, .int .i64 q.used]) := by show Lies _ _ _ _; rw [hw, hbx]; exact Lies.new _ _ _
              have hb : Below w11.heap.size w11 w12 := by rw [hw]; exact below_alloc _ _
              rw [← hw, ← hbx]
              have ne_X_D : Hid ((w.heap.size) ≠ bd) := by show _ ≠ _; rw [hbx]; exact Nat.ne_of_lt X11.out.lt
              have ne_T_D : Hid (bt ≠ bd) := by show _ ≠ _; rw [hbx]; exact Nat.ne_of_lt T11.out.lt
              have ne_C_D : Hid (bc ≠ bd) := by show _ ≠ _; rw [hbx]; exact Nat.ne_of_lt C11.out.lt
              have at_D : Hid (bd = w11.heap.size) := hbx
              have le_HB_D : Hid (w.heap.size ≤ bd) := by show _ ≤ _; rw [hbx]; exact HB11.out.size
              clear hbx hw
              have HALD := hid hb
              have HB12 := hid (then_w HB11.out hb)
              have X12 := hid (X11.out.later hb)
              have T12 := hid (T11.out.later hb)
              have C12 := hid (C11.out.later hb)
              have OX12 := hid (OX11.out.below hb)
              have OT12 := hid (OT11.out.below hb)
              have OQ12 := hid (OQ11.out.below hb)
              have OR12 := hid (OR11.out.below hb)
              clear hb
              clear HB11 X11 T11 C11 OX11 OT11 OQ11 OR11
              have x0 := X12.out.cell 0
              have x1 := X12.out.cell 1
              have x2 := X12.out.cell 2
              have x3 := X12.out.cell 3
              have x4 := X12.out.cell 4
              have x5 := X12.out.cell 5
              have x6 := X12.out.cell 6
              have x7 := X12.out.cell 7
              simp only [List.getElem?_toArray, List.getElem?_cons_zero, List.getElem?_cons_succ] at x0 x1 x2 x3 x4 x5 x6 x7
              have t_0 := T12.out.cell 0
              have t_1 := T12.out.cell 1
              have t_2 := T12.out.cell 2
              have t_3 := T12.out.cell 3
              have t_4 := T12.out.cell 4
              have t_5 := T12.out.cell 5
              have t_6 := T12.out.cell 6
              have t_7 := T12.out.cell 7
              simp only [List.getElem?_toArray, List.getElem?_cons_zero, List.getElem?_cons_succ] at t_0 t_1 t_2 t_3 t_4 t_5 t_6 t_7
              have c_0 := C12.out.cell 0
              have c_1 := C12.out.cell 1
              have c_2 := C12.out.cell 2
              have c_3 := C12.out.cell 3
              have c_4 := C12.out.cell 4
              have c_5 := C12.out.cell 5
              have c_6 := C12.out.cell 6
              have c_7 := C12.out.cell 7
              simp only [List.getElem?_toArray, List.getElem?_cons_zero, List.getElem?_cons_succ] at c_0 c_1 c_2 c_3 c_4 c_5 c_6 c_7
              have d_0 := D12.out.cell 0
              have d_1 := D12.out.cell 1
              have d_2 := D12.out.cell 2
              have d_3 := D12.out.cell 3
              have d_4 := D12.out.cell 4
              have d_5 := D12.out.cell 5
              have d_6 := D12.out.cell 6
              have d_7 := D12.out.cell 7
              simp only [List.getElem?_toArray, List.getElem?_cons_zero, List.getElem?_cons_succ] at d_0 d_1 d_2 d_3 d_4 d_5 d_6 d_7
              go_wp2_with fail
              refine (rone_any15 q A4 A5 c4 c5 _ OQ12.out OR12.out HFQ.out).mono ?_
              rintro e w13 ⟨rfl, hb⟩
              clear x0 x1 x2 x3 x4 x5 x6 x7 t_0 t_1 t_2 t_3 t_4 t_5 t_6 t_7 c_0 c_1 c_2 c_3 c_4 c_5 c_6 c_7 d_0 d_1 d_2 d_3 d_4 d_5 d_6 d_7
              have HB13 := hid (then_w HB12.out hb)
              have X13 := hid (X12.out.later hb)
              have T13 := hid (T12.out.later hb)
              have C13 := hid (C12.out.later hb)
              have D13 := hid (D12.out.later hb)
              have OX13 := hid (OX12.out.below hb)
              have OT13 := hid (OT12.out.below hb)
              have OQ13 := hid (OQ12.out.below hb)
              have OR13 := hid (OR12.out.below hb)
              clear hb
              clear HB12 X12 T12 C12 D12 OX12 OT12 OQ12 OR12
              have x0 := X13.out.cell 0
              have x1 := X13.out.cell 1
              have x2 := X13.out.cell 2
              have x3 := X13.out.cell 3
              have x4 := X13.out.cell 4
              have x5 := X13.out.cell 5
              have x6 := X13.out.cell 6
              have x7 := X13.out.cell 7
              simp only [List.getElem?_toArray, List.getElem?_cons_zero, List.getElem?_cons_succ] at x0 x1 x2 x3 x4 x5 x6 x7
              have t_0 := T13.out.cell 0
              have t_1 := T13.out.cell 1
              have t_2 := T13.out.cell 2
              have t_3 := T13.out.cell 3
              have t_4 := T13.out.cell 4
              have t_5 := T13.out.cell 5
              have t_6 := T13.out.cell 6
              have t_7 := T13.out.cell 7
              simp only [List.getElem?_toArray, List.getElem?_cons_zero, List.getElem?_cons_succ] at t_0 t_1 t_2 t_3 t_4 t_5 t_6 t_7
              have c_0 := C13.out.cell 0
              have c_1 := C13.out.cell 1
              have c_2 := C13.out.cell 2
              have c_3 := C13.out.cell 3
              have c_4 := C13.out.cell 4
              have c_5 := C13.out.cell 5
              have c_6 := C13.out.cell 6
              have c_7 := C13.out.cell 7
              simp only [List.getElem?_toArray, List.getElem?_cons_zero, List.getElem?_cons_succ] at c_0 c_1 c_2 c_3 c_4 c_5 c_6 c_7
              have d_0 := D13.out.cell 0
              have d_1 := D13.out.cell 1
              have d_2 := D13.out.cell 2
              have d_3 := D13.out.cell 3
              have d_4 := D13.out.cell 4
              have d_5 := D13.out.cell 5
              have d_6 := D13.out.cell 6
              have d_7 := D13.out.cell 7
              simp only [List.getElem?_toArray, List.getElem?_cons_zero, List.getElem?_cons_succ] at d_0 d_1 d_2 d_3 d_4 d_5 d_6 d_7
              go_wp2_with fail
              refine (RSM.out _ OX13.out OT13.out).mono ?_
              rintro e w14 ⟨rfl, hb⟩
              clear x0 x1 x2 x3 x4 x5 x6 x7 t_0 t_1 t_2 t_3 t_4 t_5 t_6 t_7 c_0 c_1 c_2 c_3 c_4 c_5 c_6 c_7 d_0 d_1 d_2 d_3 d_4 d_5 d_6 d_7
              have HB14 := hid (then_w HB13.out hb)
              have X14 := hid (X13.out.later hb)
              have T14 := hid (T13.out.later hb)
              have C14 := hid (C13.out.later hb)
              have D14 := hid (D13.out.later hb)
              have OX14 := hid (OX13.out.below hb)
              have OT14 := hid (OT13.out.below hb)
              have OQ14 := hid (OQ13.out.below hb)
              have OR14 := hid (OR13.out.below hb)
              clear hb
              clear HB13 X13 T13 C13 D13 OX13 OT13 OQ13 OR13
              go_wp2_with fail
              go_ret
              exact ⟨rfl, HB14.out⟩
end Go.Proofs.Ytnilempeldlieaa
