/- What goes with a selector in a class's dictionary, the program's word. -/
import Derived.Test.YtcahdhocilmoeaaTB9
import Derived.Test.YtcahdhocilmoeaaSF9
import Derived.Test.YtcahdhocilmoeaaSD9
namespace Go.Proofs.Ytcahdhocilmoeaa
open Go.RowKit
set_option maxRecDepth 100000
/-- what goes with a selector, and whether anything does -/
def wt9 (l : List Int) (s : Int) : Int × Bool := match pf9 l s with
  | some v => (v, true)
  | none => (0, false)
theorem wt9_some {l : List Int} {s v : Int} (h : pf9 l s = some v) : wt9 l s = (v, true) := by unfold wt9; rw [h]
theorem wt9_none {l : List Int} {s : Int} (h : pf9 l s = none) : wt9 l s = (0, false) := by unfold wt9; rw [h]
set_option maxHeartbeats 2000000 in
theorem pwith_any9 (h : Hp) (c s : Int) (A : Option Addr) (d : Nat) (u w : World) (hs : ObsR u A h.objs) (hu : Below u.heap.size u w) (hm : mayB h = true) (hc : clB9 h c = true) :
    Calls Try.prog 83 #[.agg #[.slice A h.objs.length d, .int .i64 h.cap, .int .i64 h.last], .int .i64 c, .int .i64 s] w fun e w' => e = .returned (.tuple #[.int .i64 (wt9 (paL9 h (sl9 h c 1)) s).1, .bool (wt9 (paL9 h (sl9 h c 1)) s).2]) ∧ Below w.heap.size w w' := by
  obtain ⟨w0, hw0⟩ : ∃ w0, w0 = w.alloc (.cells #[Value.slice A h.objs.length d, Value.int .i64 h.cap, Value.int .i64 h.last] 24) := ⟨_, rfl⟩
  have HB0 : Hid (Below w.heap.size w w0) := by show Below _ _ _; rw [hw0]; exact below_alloc _ _
  have HX0 : Hid (Lies w0 w.heap.size 24 #[Value.slice A h.objs.length d, Value.int .i64 h.cap, Value.int .i64 h.last]) := by
    show Lies _ _ _ _
    rw [hw0]; exact Lies.new _ _ _
  have HS := hid hs
  have HU0 : Hid (Below u.heap.size u w0) := hu.trans (HB0.out.mono hu.size)
  obtain ⟨hrc, -, hlen, -, hpa⟩ := cl9_parts hc
  obtain ⟨hr1, hz1, hz2⟩ := pa9_is hpa
  have HC0 : ∀ W : World, Below u.heap.size u W → Calls Try.prog 99 #[.agg #[.slice A h.objs.length d, .int .i64 h.cap, .int .i64 h.last], .int .i64 c] W (OjP9 u W (obAt h c) true) := fun W hW => by
    have := pobj_any9 h c A d u W hs hW
    rw [hrc, obD9_yes hrc] at this; exact this
  have s1' := sl_at9 (h := h) (c := c) (k := 1) (by omega)
  obtain ⟨v1, hv1⟩ : ∃ v, v = sl9 h c 1 := ⟨_, rfl⟩
  rw [← hv1] at s1' hr1 hz1 hz2 ⊢
  have HC1 : ∀ W : World, Below u.heap.size u W → Calls Try.prog 99 #[.agg #[.slice A h.objs.length d, .int .i64 h.cap, .int .i64 h.last], .int .i64 v1] W (OjP9 u W (obAt h v1) true) := fun W hW => by
    have := pobj_any9 h v1 A d u W hs hW
    rw [hr1, obD9_yes hr1] at this; exact this
  have HO1 : Hid ((obAt h v1).slots.length ≤ 64) := by
    obtain ⟨i, -, -, ho⟩ := obAt_get hr1
    exact (kind_len (ob_kind (may_all hm _ (List.mem_of_getElem? ho)))).1
  have HOC : Hid ((obAt h c).slots.length ≤ 64) := by
    obtain ⟨i, -, -, ho⟩ := obAt_get hrc
    exact (kind_len (ob_kind (may_all hm _ (List.mem_of_getElem? ho)))).1
  have HZ1 := hid hz1
  have HZ2 : Hid (v1 ≠ 0 → paL9 h v1 = (obAt h v1).slots) := hid hz2
  obtain ⟨o, ho⟩ : ∃ o, o = obAt h c := ⟨_, rfl⟩
  obtain ⟨o1, ho1⟩ : ∃ o, o = obAt h v1 := ⟨_, rfl⟩
  rw [← ho] at HC0 s1' hlen HOC
  rw [← ho1] at HC1 HO1 HZ2
  obtain ⟨P, hP⟩ : ∃ P, P = paL9 h v1 := ⟨_, rfl⟩
  rw [← hP] at HZ1 HZ2 ⊢
  have S1 := hid s1'
  have hl1 : 1 < o.slots.length := by omega
  have hl1I : (1 : Int) < (o.slots.length : Int) := by omega
  clear hs hu hm hc hrc hlen hpa hr1 hz1 hz2 hv1 ho ho1 hP s1'
  go_enter Try.func83, Try.ntmps83
  go_upto_region 1 with fail
  rw [← hw0]
  clear hw0
  have x0 := HX0.out.cell 0
  have x1 := HX0.out.cell 1
  have x2 := HX0.out.cell 2
  simp only [List.getElem?_toArray, List.getElem?_cons_zero, List.getElem?_cons_succ] at x0 x1 x2
  go_wp2_with fail
  refine (HC0 _ HU0.out).mono ?_
  rintro e w1 ⟨S, dd, rfl, hin, -, hb⟩
  obtain ⟨bs, os, rfl, hbs, hcs⟩ := hin (by omega)
  have S2 := hid (hcs 1 _ S1.out)
  obtain ⟨w1_, hw1⟩ : ∃ W, W = w1.alloc (.cells #[.int .i64 o.cls, .int .i64 o.kind, .slice (some ⟨bs, os, none⟩) o.slots.length dd, .string o.text, .int .i64 o.bits, .int .i64 o.hash] 46) := ⟨_, rfl⟩
  obtain ⟨g, hg⟩ : ∃ g, g = w1.heap.size := ⟨_, rfl⟩
  have HG : Hid (Lies w1_ g 46 #[.int .i64 o.cls, .int .i64 o.kind, .slice (some ⟨bs, os, none⟩) o.slots.length dd, .string o.text, .int .i64 o.bits, .int .i64 o.hash]) := by
    show Lies _ _ _ _
    rw [hw1, hg]; exact Lies.new _ _ _
  have hb1 : Below w0.heap.size w0 w1_ := by rw [hw1]; exact then_w hb (below_alloc _ _)
  have HW1 := hid (HB0.out.trans (hb1.mono HB0.out.size))
  have HU_ := hid (HU0.out.trans (hb1.mono HU0.out.size))
  have HX1 := hid (HX0.out.later hb1)
  have hgx : w.heap.size ≠ g := by
    have := HX0.out.lt
    have := hb.size
    omega
  clear hb hb1 hcs hin x0 x1 x2
  have x0 := HX1.out.cell 0
  have x1 := HX1.out.cell 1
  have x2 := HX1.out.cell 2
  have y2 := HG.out.cell 2
  simp only [List.getElem?_toArray, List.getElem?_cons_zero, List.getElem?_cons_succ] at x0 x1 x2 y2
  have s1 := cell_later HU_.out S2.out
  go_upto_region 2 with fail
  rw [← hw1, ← hg]
  clear hw1 hg
  go_wp2_with fail
  refine (isnone_any9 v1 _).mono ?_
  rintro e w2 ⟨rfl, rfl⟩
  by_cases hz : v1 = 0
  · have E := wt9_none (l := P) (s := s) (by rw [HZ1.out hz]; rfl)
    have EE := hid E
    clear E
    rw [decide_eq_true hz]
    clear hz
    go_wp2_with fail
    go_ret2
    exact ⟨by rw [EE.out]; rfl, HW1.out⟩
  · have HP := hid (HZ2.out hz)
    rw [decide_eq_false hz]
    clear hz
    have hnx : w.heap.size ≠ w1_.heap.size := Nat.ne_of_lt HX1.out.lt
    have hng : g ≠ w1_.heap.size := Nat.ne_of_lt HG.out.lt
    have hnb : bs ≠ w1_.heap.size := Nat.ne_of_lt (Nat.lt_of_lt_of_le hbs HU_.out.size)
    go_upto_region 4 with fail
    go_cut [10, 11] from 24 to 32 (fun p q wx => ∃ (g : Nat) (S : Option Addr) (dd : Nat), p = .pointer (some ⟨g, 0, none⟩) ∧ q = .bool true ∧ Lies wx g 46 #[.int .i64 o1.cls, .int .i64 o1.kind, .slice S o1.slots.length dd, .string o1.text, .int .i64 o1.bits, .int .i64 o1.hash] ∧ IntsR u S o1.slots ∧ Below w1_.heap.size w1_ wx)
    case first =>
      refine wp_region_held_drew (S := (fun w' => w'.cell? ⟨w.heap.size, 0, none⟩ = some (.slice A h.objs.length d) ∧ w'.cell? ⟨w.heap.size, 1, none⟩ = some (.int .i64 h.cap) ∧ w'.cell? ⟨w.heap.size, 2, none⟩ = some (.int .i64 h.last) ∧ w'.cell? ⟨g, 2, none⟩ = some (.slice (some ⟨bs, os, none⟩) o.slots.length dd) ∧ w'.cell? ⟨bs, os + 1, none⟩ = some (.int .i64 v1))) (by kernel_rfl) ?_ (fun hH0 => ?_)
      · exact ⟨x0, x1, x2, y2, s1⟩
      refine wpAnyH_take (i := 0) (oi := { dst := some 25, op := Go.Op.load 24 (Go.Operand.tmp 3), type := 24, pos := "look.go:126", after := #[], guard := none }) (v := ?vv1) rfl (by kernel_rfl) (by kernel_rfl) (by kernel_rfl) (fun _ _ _ h => h) (Or.inl ⟨by rfl, ?hy1⟩) (by assumption) ?rr1
      case hy1 => intro w hSw; (try dsimp only at hSw); go_simp; all_goals with_reducible rfl
      try simp only [Act.put, List.setIfInBounds_toArray, List.set_cons_zero, List.set_cons_succ]
      refine wpAnyH_take (i := 1) (oi := { dst := some 26, op := Go.Op.fieldAddr 46 (Go.Operand.tmp 8) 2, type := 0, pos := "look.go:126", after := #[], guard := none }) (v := ?vv2) rfl (by kernel_rfl) (by kernel_rfl) (by kernel_rfl) (fun _ _ _ h => h) (Or.inl ⟨by rfl, ?hy2⟩) (by assumption) ?rr2
      case hy2 => intro w hSw; (try dsimp only at hSw); go_simp; all_goals with_reducible rfl
      try simp only [Act.put, List.setIfInBounds_toArray, List.set_cons_zero, List.set_cons_succ]
      refine wpAnyH_take (i := 2) (oi := { dst := some 27, op := Go.Op.load 44 (Go.Operand.tmp 26), type := 44, pos := "look.go:126", after := #[{ on := 1, ground := Go.Ground.data }], guard := none }) (v := ?vv3) rfl (by kernel_rfl) (by kernel_rfl) (by kernel_rfl) (fun _ _ _ h => h) (Or.inl ⟨by rfl, ?hy3⟩) (by assumption) ?rr3
      case hy3 => intro w hSw; (try dsimp only at hSw); go_simp; all_goals with_reducible rfl
      try simp only [Act.put, List.setIfInBounds_toArray, List.set_cons_zero, List.set_cons_succ]
      refine wpAnyH_take (i := 3) (oi := { dst := some 28, op := Go.Op.indexAddr 44 (Go.Operand.tmp 27) (Go.Operand.const (Go.Value.int Go.IntKind.i64 1)), type := 0, pos := "look.go:126", after := #[{ on := 2, ground := Go.Ground.data }], guard := none }) (v := ?vv4) rfl (by kernel_rfl) (by kernel_rfl) (by kernel_rfl) (fun _ _ _ h => h) (Or.inl ⟨by rfl, ?hy4⟩) (by assumption) ?rr4
      case hy4 => intro w hSw; (try dsimp only at hSw); go_simp; all_goals with_reducible rfl
      try simp only [Act.put, List.setIfInBounds_toArray, List.set_cons_zero, List.set_cons_succ]
      refine wpAnyH_take (i := 4) (oi := { dst := some 29, op := Go.Op.load 3 (Go.Operand.tmp 28), type := 3, pos := "look.go:126", after := #[{ on := 3, ground := Go.Ground.data }], guard := none }) (v := ?vv5) rfl (by kernel_rfl) (by kernel_rfl) (by kernel_rfl) (fun _ _ _ h => h) (Or.inl ⟨by rfl, ?hy5⟩) (by assumption) ?rr5
      case hy5 => intro w hSw; (try dsimp only at hSw); go_simp; all_goals with_reducible rfl
      try simp only [Act.put, List.setIfInBounds_toArray, List.set_cons_zero, List.set_cons_succ]
      refine wpAnyH_ready (rs := [5, 9]) (by kernel_rfl) (by simp) ?_
      refine AllReadyH.cons (i := 5) (o := { dst := some 30, op := Go.Op.call { callee := Go.Callee.value (Go.Operand.func 99), args := #[Go.Operand.tmp 25, Go.Operand.tmp 29], argTypes := #[24, 3] }, type := 120, pos := "look.go:126", after := #[{ on := 0, ground := Go.Ground.data }, { on := 4, ground := Go.Ground.data }], guard := none }) rfl (fun K hK => ?_) (AllReadyH.cons (i := 9) (o := { dst := some 10, op := Go.Op.alloc 46, type := 0, pos := "look.go:126", after := #[], guard := none }) rfl (fun K hK => ?_) AllReadyH.nil)
      · go_simp
        go_at_call 99
        refine (HC1 _ (HU_.out.trans ((Below.refl w1_.heap.size w1_).drew.mono HU_.out.size))).mono ?_
        rintro e w' ⟨S1, d1, rfl, hin, -, hb⟩
        have hB0_ : Below w1_.heap.size w1_ w' := then_w (Below.refl _ _).drew hb
        refine hK.out _ _ ?_ (fun hH1 => ?_)
        · exact ⟨cell_later hb hH0.1, cell_later hb hH0.2.1, cell_later hb hH0.2.2.1, cell_later hb hH0.2.2.2.1, cell_later hb hH0.2.2.2.2⟩
        clear hK K
        try simp only [Act.put, List.setIfInBounds_toArray, List.set_cons_zero, List.set_cons_succ]
        clear hb
        refine wpAnyH_take (i := 6) (oi := { dst := some 24, op := Go.Op.move (Go.Operand.tmp 30), type := 120, pos := "look.go:126", after := #[{ on := 5, ground := Go.Ground.data }], guard := none }) (v := ?vv6) rfl (by kernel_rfl) (by kernel_rfl) (by kernel_rfl) (fun _ _ _ h => h) (Or.inl ⟨by rfl, ?hy6⟩) (by assumption) ?rr6
        case hy6 => intro w hSw; (try dsimp only at hSw); go_simp; all_goals with_reducible rfl
        try simp only [Act.put, List.setIfInBounds_toArray, List.set_cons_zero, List.set_cons_succ]
        refine wpAnyH_take (i := 7) (oi := { dst := some 31, op := Go.Op.extract (Go.Operand.tmp 24) 0, type := 46, pos := "look.go:126", after := #[{ on := 6, ground := Go.Ground.data }], guard := none }) (v := ?vv7) rfl (by kernel_rfl) (by kernel_rfl) (by kernel_rfl) (fun _ _ _ h => h) (Or.inl ⟨by rfl, ?hy7⟩) (by assumption) ?rr7
        case hy7 => intro w hSw; (try dsimp only at hSw); go_simp; all_goals with_reducible rfl
        try simp only [Act.put, List.setIfInBounds_toArray, List.set_cons_zero, List.set_cons_succ]
        refine wpAnyH_take (i := 8) (oi := { dst := some 32, op := Go.Op.extract (Go.Operand.tmp 24) 1, type := 4, pos := "look.go:126", after := #[{ on := 6, ground := Go.Ground.data }, { on := 10, ground := Go.Ground.gcOnly Go.Departure.lateStores }], guard := none }) (v := ?vv8) rfl (by kernel_rfl) (by kernel_rfl) (by kernel_rfl) (fun _ _ _ h => h) (Or.inl ⟨by rfl, ?hy8⟩) (by assumption) ?rr8
        case hy8 => intro w hSw; (try dsimp only at hSw); go_simp; all_goals with_reducible rfl
        try simp only [Act.put, List.setIfInBounds_toArray, List.set_cons_zero, List.set_cons_succ]
        refine wpAnyH_ready (rs := [9]) (by kernel_rfl) (by simp) ?_
        refine AllReadyH.cons (i := 9) (o := { dst := some 10, op := Go.Op.alloc 46, type := 0, pos := "look.go:126", after := #[], guard := none }) rfl (fun K hK => ?_) AllReadyH.nil
        go_simp
        refine hK.out _ _ ?_ (fun hH2 => ?_)
        · exact ⟨cell_old hH1.1, cell_old hH1.2.1, cell_old hH1.2.2.1, cell_old hH1.2.2.2.1, cell_old hH1.2.2.2.2⟩
        clear hK K
        try simp only [Act.put, List.setIfInBounds_toArray, List.set_cons_zero, List.set_cons_succ]
        refine wpAnyH_ready (rs := [10]) (by kernel_rfl) (by simp) ?_
        refine AllReadyH.cons (i := 10) (o := { dst := none, op := Go.Op.store 46 (Go.Operand.tmp 10) (Go.Operand.tmp 31), type := 0, pos := "look.go:126", after := #[{ on := 9, ground := Go.Ground.data }, { on := 7, ground := Go.Ground.data }, { on := 5, ground := Go.Ground.chain }, { on := 0, ground := Go.Ground.phase }, { on := 1, ground := Go.Ground.phase }, { on := 2, ground := Go.Ground.phase }, { on := 3, ground := Go.Ground.phase }, { on := 4, ground := Go.Ground.phase }, { on := 5, ground := Go.Ground.phase }, { on := 6, ground := Go.Ground.phase }, { on := 7, ground := Go.Ground.phase }, { on := 8, ground := Go.Ground.textOnly Go.Departure.lateStores }, { on := 9, ground := Go.Ground.phase }], guard := none }) rfl (fun K hK => ?_) AllReadyH.nil
        go_simp
        refine hK.out _ _ ?_ (fun hH3 => ?_)
        · exact ⟨cell_old hH1.1, cell_old hH1.2.1, cell_old hH1.2.2.1, cell_old hH1.2.2.2.1, cell_old hH1.2.2.2.2⟩
        clear hK K
        try simp only [Act.put, List.setIfInBounds_toArray, List.set_cons_zero, List.set_cons_succ]
        refine wpAnyH_take (i := 11) (oi := { dst := some 11, op := Go.Op.assign (Go.Operand.tmp 32), type := 4, pos := "look.go:126", after := #[{ on := 8, ground := Go.Ground.data }, { on := 10, ground := Go.Ground.chain }, { on := 0, ground := Go.Ground.phase }, { on := 1, ground := Go.Ground.phase }, { on := 2, ground := Go.Ground.phase }, { on := 3, ground := Go.Ground.phase }, { on := 4, ground := Go.Ground.phase }, { on := 5, ground := Go.Ground.phase }, { on := 6, ground := Go.Ground.phase }, { on := 7, ground := Go.Ground.phase }, { on := 8, ground := Go.Ground.phase }, { on := 9, ground := Go.Ground.phase }, { on := 10, ground := Go.Ground.phase }], guard := none }) (v := ?vv9) rfl (by kernel_rfl) (by kernel_rfl) (by kernel_rfl) (fun _ _ _ h => h) (Or.inl ⟨by rfl, ?hy9⟩) (by assumption) ?rr9
        case hy9 => intro w hSw; (try dsimp only at hSw); go_simp; all_goals with_reducible rfl
        try simp only [Act.put, List.setIfInBounds_toArray, List.set_cons_zero, List.set_cons_succ]
        refine wpAnyH_done (by kernel_rfl) ?_ _
        obtain ⟨nb_, hN⟩ : ∃ n, n = w'.heap.size := ⟨_, rfl⟩
        rw [← hN]
        obtain ⟨V_, hV⟩ : ∃ V, V = w'.alloc (.cells #[.int .i64 o1.cls, .int .i64 o1.kind, .slice S1 o1.slots.length d1, .string o1.text, .int .i64 o1.bits, .int .i64 o1.hash] 46) := ⟨_, rfl⟩
        have hLV : Lies V_ nb_ 46 #[.int .i64 o1.cls, .int .i64 o1.kind, .slice S1 o1.slots.length d1, .string o1.text, .int .i64 o1.bits, .int .i64 o1.hash] := by rw [hV, hN]; exact Lies.new _ _ _
        have hBV : Below w1_.heap.size w1_ V_ := by rw [hV]; exact then_w hB0_ (below_alloc _ _)
        rw [← hV]
        clear hV hN
        have L_ := hid hLV
        clear hLV hB0_
        go_wp2_with fail
        go_meet
        exact ⟨nb_, S1, d1, rfl, rfl, L_.out, hin, hBV⟩
      · go_simp
        refine hK.out _ _ ?_ (fun hH1 => ?_)
        · exact ⟨cell_old hH0.1, cell_old hH0.2.1, cell_old hH0.2.2.1, cell_old hH0.2.2.2.1, cell_old hH0.2.2.2.2⟩
        clear hK K
        try simp only [Act.put, List.setIfInBounds_toArray, List.set_cons_zero, List.set_cons_succ]
        refine wpAnyH_ready (rs := [5]) (by kernel_rfl) (by simp) ?_
        refine AllReadyH.cons (i := 5) (o := { dst := some 30, op := Go.Op.call { callee := Go.Callee.value (Go.Operand.func 99), args := #[Go.Operand.tmp 25, Go.Operand.tmp 29], argTypes := #[24, 3] }, type := 120, pos := "look.go:126", after := #[{ on := 0, ground := Go.Ground.data }, { on := 4, ground := Go.Ground.data }], guard := none }) rfl (fun K hK => ?_) AllReadyH.nil
        go_simp
        go_at_call 99
        refine (HC1 _ (HU_.out.trans ((below_alloc w1_ (.cells #[.int .i64 0, .int .i64 0, .slice none 0 0, .string ⟨#[]⟩, .int .i64 0, .int .i64 0] 46)).drew.mono HU_.out.size))).mono ?_
        rintro e w' ⟨S1, d1, rfl, hin, -, hb⟩
        have hL0 := ((Lies.new w1_ 46 #[.int .i64 0, .int .i64 0, .slice none 0 0, .string ⟨#[]⟩, .int .i64 0, .int .i64 0]).drew).later hb
        have hB0_ : Below w1_.heap.size w1_ w' := then_w (below_alloc w1_ (.cells #[.int .i64 0, .int .i64 0, .slice none 0 0, .string ⟨#[]⟩, .int .i64 0, .int .i64 0] 46)).drew hb
        have k0 := hL0.cell 0
        have kf0 := hL0.frozen 0
        have k1 := hL0.cell 1
        have kf1 := hL0.frozen 1
        have k2 := hL0.cell 2
        have kf2 := hL0.frozen 2
        have k3 := hL0.cell 3
        have kf3 := hL0.frozen 3
        have k4 := hL0.cell 4
        have kf4 := hL0.frozen 4
        have k5 := hL0.cell 5
        have kf5 := hL0.frozen 5
        simp only [List.getElem?_toArray, List.getElem?_cons_zero, List.getElem?_cons_succ] at k0 k1 k2 k3 k4 k5
        refine hK.out _ _ ?_ (fun hH2 => ?_)
        · exact ⟨cell_later hb hH1.1, cell_later hb hH1.2.1, cell_later hb hH1.2.2.1, cell_later hb hH1.2.2.2.1, cell_later hb hH1.2.2.2.2⟩
        clear hK K
        try simp only [Act.put, List.setIfInBounds_toArray, List.set_cons_zero, List.set_cons_succ]
        clear hb
        refine wpAnyH_take (i := 6) (oi := { dst := some 24, op := Go.Op.move (Go.Operand.tmp 30), type := 120, pos := "look.go:126", after := #[{ on := 5, ground := Go.Ground.data }], guard := none }) (v := ?vv10) rfl (by kernel_rfl) (by kernel_rfl) (by kernel_rfl) (fun _ _ _ h => h) (Or.inl ⟨by rfl, ?hy10⟩) (by assumption) ?rr10
        case hy10 => intro w hSw; (try dsimp only at hSw); go_simp; all_goals with_reducible rfl
        try simp only [Act.put, List.setIfInBounds_toArray, List.set_cons_zero, List.set_cons_succ]
        refine wpAnyH_take (i := 7) (oi := { dst := some 31, op := Go.Op.extract (Go.Operand.tmp 24) 0, type := 46, pos := "look.go:126", after := #[{ on := 6, ground := Go.Ground.data }], guard := none }) (v := ?vv11) rfl (by kernel_rfl) (by kernel_rfl) (by kernel_rfl) (fun _ _ _ h => h) (Or.inl ⟨by rfl, ?hy11⟩) (by assumption) ?rr11
        case hy11 => intro w hSw; (try dsimp only at hSw); go_simp; all_goals with_reducible rfl
        try simp only [Act.put, List.setIfInBounds_toArray, List.set_cons_zero, List.set_cons_succ]
        refine wpAnyH_take (i := 8) (oi := { dst := some 32, op := Go.Op.extract (Go.Operand.tmp 24) 1, type := 4, pos := "look.go:126", after := #[{ on := 6, ground := Go.Ground.data }, { on := 10, ground := Go.Ground.gcOnly Go.Departure.lateStores }], guard := none }) (v := ?vv12) rfl (by kernel_rfl) (by kernel_rfl) (by kernel_rfl) (fun _ _ _ h => h) (Or.inl ⟨by rfl, ?hy12⟩) (by assumption) ?rr12
        case hy12 => intro w hSw; (try dsimp only at hSw); go_simp; all_goals with_reducible rfl
        try simp only [Act.put, List.setIfInBounds_toArray, List.set_cons_zero, List.set_cons_succ]
        refine wpAnyH_ready (rs := [10]) (by kernel_rfl) (by simp) ?_
        refine AllReadyH.cons (i := 10) (o := { dst := none, op := Go.Op.store 46 (Go.Operand.tmp 10) (Go.Operand.tmp 31), type := 0, pos := "look.go:126", after := #[{ on := 9, ground := Go.Ground.data }, { on := 7, ground := Go.Ground.data }, { on := 5, ground := Go.Ground.chain }, { on := 0, ground := Go.Ground.phase }, { on := 1, ground := Go.Ground.phase }, { on := 2, ground := Go.Ground.phase }, { on := 3, ground := Go.Ground.phase }, { on := 4, ground := Go.Ground.phase }, { on := 5, ground := Go.Ground.phase }, { on := 6, ground := Go.Ground.phase }, { on := 7, ground := Go.Ground.phase }, { on := 8, ground := Go.Ground.textOnly Go.Departure.lateStores }, { on := 9, ground := Go.Ground.phase }], guard := none }) rfl (fun K hK => ?_) AllReadyH.nil
        go_simp
        refine hK.out _ _ ?_ (fun hH3 => ?_)
        · exact ⟨far69 hnx hH2.1, far69 hnx hH2.2.1, far69 hnx hH2.2.2.1, far69 hng hH2.2.2.2.1, far69 hnb hH2.2.2.2.2⟩
        clear hK K
        try simp only [Act.put, List.setIfInBounds_toArray, List.set_cons_zero, List.set_cons_succ]
        refine wpAnyH_take (i := 11) (oi := { dst := some 11, op := Go.Op.assign (Go.Operand.tmp 32), type := 4, pos := "look.go:126", after := #[{ on := 8, ground := Go.Ground.data }, { on := 10, ground := Go.Ground.chain }, { on := 0, ground := Go.Ground.phase }, { on := 1, ground := Go.Ground.phase }, { on := 2, ground := Go.Ground.phase }, { on := 3, ground := Go.Ground.phase }, { on := 4, ground := Go.Ground.phase }, { on := 5, ground := Go.Ground.phase }, { on := 6, ground := Go.Ground.phase }, { on := 7, ground := Go.Ground.phase }, { on := 8, ground := Go.Ground.phase }, { on := 9, ground := Go.Ground.phase }, { on := 10, ground := Go.Ground.phase }], guard := none }) (v := ?vv13) rfl (by kernel_rfl) (by kernel_rfl) (by kernel_rfl) (fun _ _ _ h => h) (Or.inl ⟨by rfl, ?hy13⟩) (by assumption) ?rr13
        case hy13 => intro w hSw; (try dsimp only at hSw); go_simp; all_goals with_reducible rfl
        try simp only [Act.put, List.setIfInBounds_toArray, List.set_cons_zero, List.set_cons_succ]
        refine wpAnyH_done (by kernel_rfl) ?_ _
        obtain ⟨V_, hV⟩ : ∃ V, V = ((((((w'.setCell ⟨w1_.heap.size, 0, none⟩ (.int .i64 o1.cls)).setCell ⟨w1_.heap.size, 1, none⟩ (.int .i64 o1.kind)).setCell ⟨w1_.heap.size, 2, none⟩ (.slice S1 o1.slots.length d1)).setCell ⟨w1_.heap.size, 3, none⟩ (.string o1.text)).setCell ⟨w1_.heap.size, 4, none⟩ (.int .i64 o1.bits)).setCell ⟨w1_.heap.size, 5, none⟩ (.int .i64 o1.hash)) := ⟨_, rfl⟩
        have hLV : Lies V_ w1_.heap.size 46 #[.int .i64 o1.cls, .int .i64 o1.kind, .slice S1 o1.slots.length d1, .string o1.text, .int .i64 o1.bits, .int .i64 o1.hash] := by
          rw [hV]
          have := ((((((hL0.set_ 0 (.int .i64 o1.cls)).set_ 1 (.int .i64 o1.kind)).set_ 2 (.slice S1 o1.slots.length d1)).set_ 3 (.string o1.text)).set_ 4 (.int .i64 o1.bits)).set_ 5 (.int .i64 o1.hash))
          simpa using this
        have hBV : Below w1_.heap.size w1_ V_ := by rw [hV]; exact ((((((hB0_.setCell (p := ⟨w1_.heap.size, 0, none⟩) (Nat.le_refl _) (.int .i64 o1.cls)).setCell (p := ⟨w1_.heap.size, 1, none⟩) (Nat.le_refl _) (.int .i64 o1.kind)).setCell (p := ⟨w1_.heap.size, 2, none⟩) (Nat.le_refl _) (.slice S1 o1.slots.length d1)).setCell (p := ⟨w1_.heap.size, 3, none⟩) (Nat.le_refl _) (.string o1.text)).setCell (p := ⟨w1_.heap.size, 4, none⟩) (Nat.le_refl _) (.int .i64 o1.bits)).setCell (p := ⟨w1_.heap.size, 5, none⟩) (Nat.le_refl _) (.int .i64 o1.hash))
        rw [← hV]
        clear hV hL0 k0 k1 k2 k3 k4 k5 kf0 kf1 kf2 kf3 kf4 kf5
        have L_ := hid hLV
        clear hLV hB0_
        go_wp2_with fail
        go_meet
        exact ⟨w1_.heap.size, S1, d1, rfl, rfl, L_.out, hin, hBV⟩
    case rest =>
      rename World => w2_
      obtain ⟨g1, S, d1, rfl, rfl, hL, hint, hb⟩ := hcut
      have HG1 := hid hL
      have HW2 := hid (HW1.out.trans (hb.mono HW1.out.size))
      have HU2 := hid (HU_.out.trans (hb.mono HU_.out.size))
      have HI := hid hint
      clear hb hL hint x0 x1 x2 y2 s1 hnx hng hnb hgx
      have y2 := HG1.out.cell 2
      simp only [List.getElem?_toArray, List.getElem?_cons_zero, List.getElem?_cons_succ] at y2
      go_wp2_with fail
      obtain ⟨L, hL⟩ : ∃ L, L = o1.slots := ⟨_, rfl⟩
      rw [← hL] at HP HI y2 HO1
      have HL64 := HO1
      clear hL
      go_loopw [12] (fun i wr => ∃ j : Nat, j ≤ L.length + 2 ∧ i = .int .i64 ((j : Int) + 1) ∧ Hid (pf9 (L.drop j) s = pf9 L s) ∧ wr = w2_) (fun i _ => L.length + 4 - (intOf i).toNat)
      case atStart => exact ⟨0, by omega, rfl, hid rfl, rfl⟩
      case round =>
        obtain ⟨j, hjl, rfl, HQ, rfl⟩ := hrel
        have hj70 := HL64.out
        have hjw : IntKind.i64.wrap ((j : Int) + 1 + 2) = (j : Int) + 1 + 2 := IntWalk.i64_in _ ⟨by omega, by omega⟩
        have hjw2 : IntKind.i64.wrap ((j : Int) + 1 - 1) = (j : Int) := by
          rw [show (j : Int) + 1 - 1 = (j : Int) by omega]; exact IntWalk.i64_in _ ⟨by omega, by omega⟩
        by_cases hj : j + 1 < L.length
        · have hjI : (j : Int) + 1 < (L.length : Int) := by omega
          have hjI2 : (j : Int) < (L.length : Int) := by omega
          have hjI3 : (0 : Int) ≤ (j : Int) + 1 := by omega
          obtain ⟨bl, ol, rfl, hbl, hcl⟩ := HI.out (by omega)
          have l0 := cell_later HU2.out (hcl j _ (List.getElem?_eq_getElem (show j < L.length by omega)))
          have l1 := cell_later HU2.out (hcl (j + 1) _ (List.getElem?_eq_getElem hj))
          have HNE := hid (pf9_next hj s)
          obtain ⟨u0, hu0⟩ : ∃ u, u = L[j]'(by omega) := ⟨_, rfl⟩
          obtain ⟨u1, hu1⟩ : ∃ u, u = L[j + 1]'hj := ⟨_, rfl⟩
          rw [← hu0] at l0 HNE
          rw [← hu1] at l1 HNE
          clear hcl hu0 hu1
          by_cases hs : u0 = s
          · have EE : Hid (wt9 P s = (u1, true)) := wt9_some (by rw [HP.out, ← HQ.out, HNE.out, if_pos hs])
            subst hs
            go_wp2_with fail
            go_ret2
            exact ⟨by rw [EE.out]; rfl, HW2.out⟩
          · have hsB : (u0 == s) = false := beq_eq_false_iff_ne.2 hs
            have HPX : Hid (pf9 (L.drop (j + 2)) s = pf9 L s) := by show _ = _; rw [← HQ.out, HNE.out, if_neg hs]
            go_wp2_with fail
            go_roundw
            case rel => exact ⟨j + 2, by omega, by go_num, HPX, trivial⟩
            case measure => simp only [intOf]; omega
        · have hjI : ¬ (j : Int) + 1 < (L.length : Int) := by omega
          have EE : Hid (wt9 P s = (0, false)) := wt9_none (by rw [HP.out, ← HQ.out]; exact pf9_end hj s)
          go_wp2_with fail
          go_ret2
          exact ⟨by rw [EE.out]; rfl, HW2.out⟩
end Go.Proofs.Ytcahdhocilmoeaa
