/- (*Pairing).pair walked. -/
import Derived.Test.YtnilempeldlieaaGreatM18
import Derived.Test.YtnilempeldlieaaGreatM10
namespace Go.Proofs.YtnilempeldlieaaGreat
open Go.RowKit
set_option maxRecDepth 100000
/-- a pairing in memory -/
structure PrW (w : World) (base pb : Nat) (T F : Option Addr) (ct cf : Nat) (s : Pr) : Prop where
  box : Lies w pb 81 #[.slice T s.t.length ct, .slice F s.f.length cf]
  tow : w.ownsRow base 3 1 (.slice T s.t.length ct) s.t.length (s.t.map (Value.int .i64))
  frow : w.ownsRow base 3 1 (.slice F s.f.length cf) s.f.length (s.f.map (Value.int .i64))
  off : Off T F
theorem PrW.later {w w' : World} {base pb : Nat} {T F : Option Addr} {ct cf : Nat} {s : Pr} (h : PrW w base pb T F ct cf s) (hb : Below w.heap.size w w') : PrW w' base pb T F ct cf s :=
  ⟨h.box.later hb, own_later h.tow hb, own_later h.frow hb, h.off⟩
theorem map_set_int (l : List Int) (i : Nat) (x : Int) : (l.map (Value.int .i64)).set i (.int .i64 x) = (l.set i x).map (Value.int .i64) := by rw [List.map_set]
theorem PrW.set {w : World} {base pb tb fb : Nat} {ct cf : Nat} {s : Pr} (h : PrW w base pb (some ⟨tb, 0, none⟩) (some ⟨fb, 0, none⟩) ct cf s) (i k : Nat) :
    PrW ((w.setCell ⟨tb, i, none⟩ (.int .i64 k)).setCell ⟨fb, k, none⟩ (.int .i64 i)) base pb (some ⟨tb, 0, none⟩) (some ⟨fb, 0, none⟩) ct cf ⟨s.t.set i k, s.f.set k i⟩ := by
  have hne : tb ≠ fb := h.off _ _ rfl rfl
  obtain ⟨c1, l1, -⟩ := own_blk (b := tb) (o := 0) (s := none) h.tow
  obtain ⟨c2, l2, -⟩ := own_blk (b := fb) (o := 0) (s := none) h.frow
  have n1 : pb ≠ tb := fun e => own_blk_ne h.tow h.box (by decide) (by rw [e]; rfl)
  have n2 : pb ≠ fb := fun e => own_blk_ne h.frow h.box (by decide) (by rw [e]; rfl)
  have t1 := (h.tow.stored i (.int .i64 k)).1
  have f1 := ((h.frow.kept (grown_set w ⟨tb, i, none⟩ (.int .i64 k)) (.inr (by simp [Value.ownBlock]; exact fun e => hne e.symm))).stored k (.int .i64 i)).1
  refine ⟨?_, ?_, ?_, h.off⟩
  · rw [List.length_set, List.length_set]
    exact (h.box.far (p := ⟨tb, i, none⟩) n1 _).far (p := ⟨fb, k, none⟩) n2 _
  · rw [List.length_set, ← map_set_int]
    exact t1.kept (grown_set _ ⟨fb, k, none⟩ _) (.inr (by simp [Value.ownBlock]; exact hne))
  · rw [List.length_set, ← map_set_int]
    exact f1
/-- between the two worlds nothing turned but two rows -/
structure Turn2 (w w' : World) (T F : Option Addr) : Prop where
  os : w'.os = w.os
  tape : w'.tape = w.tape
  output : w'.output = w.output
  size : w.heap.size ≤ w'.heap.size
  block : ∀ k, k < w.heap.size → (∀ a, T = some a → k ≠ a.block) → (∀ a, F = some a → k ≠ a.block) → w'.heap[k]? = w.heap[k]?
theorem Turn2.of_below {w w' : World} (h : Below w.heap.size w w') (T F : Option Addr) : Turn2 w w' T F := ⟨h.os, h.tape, h.output, h.size, fun k hk _ _ => h.block k hk⟩
theorem Turn2.trans {w v u : World} {T F : Option Addr} (h : Turn2 w v T F) (g : Turn2 v u T F) : Turn2 w u T F :=
  ⟨g.os.trans h.os, g.tape.trans h.tape, g.output.trans h.output, Nat.le_trans h.size g.size, fun k hk h1 h2 => (g.block k (Nat.lt_of_lt_of_le hk h.size) h1 h2).trans (h.block k hk h1 h2)⟩
theorem Turn2.below {w v : World} {T F : Option Addr} (h : Turn2 w v T F) {b : Nat} (hb : b ≤ w.heap.size) (h1 : ∀ a, T = some a → b ≤ a.block) (h2 : ∀ a, F = some a → b ≤ a.block) : Below b w v :=
  ⟨h.os, h.tape, h.output, h.size, fun k hk => h.block k (by omega) (fun a ha => by have := h1 a ha; omega) (fun a ha => by have := h2 a ha; omega)⟩
theorem Turn2.lies {w v : World} {T F : Option Addr} (h : Turn2 w v T F) {g : Nat} {t : TypeId} {cs : Array Value} (l : Lies w g t cs) (h1 : ∀ a, T = some a → g ≠ a.block) (h2 : ∀ a, F = some a → g ≠ a.block) : Lies v g t cs := (h.block g l.lt h1 h2).trans l
theorem Turn2.cell {w v : World} {T F : Option Addr} (h : Turn2 w v T F) {g o : Nat} {x : Value} (l : w.cell? ⟨g, o, none⟩ = some x) (h1 : ∀ a, T = some a → g ≠ a.block) (h2 : ∀ a, F = some a → g ≠ a.block) : v.cell? ⟨g, o, none⟩ = some x :=
  (World.cell?_of_block (h.block g (World.block_lt_of_cell? w _ l) h1 h2)).trans l
theorem Turn2.sets (w : World) (tb fb i k : Nat) (x y : Value) : Turn2 w ((w.setCell ⟨tb, i, none⟩ x).setCell ⟨fb, k, none⟩ y) (some ⟨tb, 0, none⟩) (some ⟨fb, 0, none⟩) :=
  ⟨rfl, rfl, rfl, by simp, fun j _ h1 h2 => (Below.heap_setCell _ ⟨fb, k, none⟩ _ j (h2 ⟨fb, 0, none⟩ rfl)).trans (Below.heap_setCell _ ⟨tb, i, none⟩ _ j (h1 ⟨tb, 0, none⟩ rfl))⟩
/-- what pairing gives back -/
def PrOut (w : World) (base pb : Nat) (T F : Option Addr) (ct cf : Nat) (r : Option Pr) (e : Ending) (w' : World) : Prop :=
  Turn2 w w' T F ∧ ((∃ s', r = some s' ∧ e = .returned (.bool true) ∧ PrW w' base pb T F ct cf s') ∨ (r = none ∧ e = .returned (.bool false)))
set_option maxHeartbeats 1500000 in
theorem pair_any (a b : Hp) (s : Pr) (v u : Int) (base pb : Nat) (T F A B : Option Addr) (ct cf c d : Nat) (w : World) (h : PrW w base pb T F ct cf s) (G : Good a b s) (ha : a.objs.length ≤ 256) (hb : b.objs.length ≤ 256) :
    Calls Tryz.prog 62 #[.pointer (some ⟨pb, 0, none⟩), .agg #[.slice A a.objs.length c, .int .i64 a.cap, .int .i64 a.last], .agg #[.slice B b.objs.length d, .int .i64 b.cap, .int .i64 b.last], .int .i64 v, .int .i64 u] w (PrOut w base pb T F ct cf (prV a b s v u)) := by
  have HB0 := hid (below_alloc2 w (.cells #[Value.slice A a.objs.length c, Value.int .i64 a.cap, Value.int .i64 a.last] 24) (.cells #[Value.slice B b.objs.length d, Value.int .i64 b.cap, Value.int .i64 b.last] 24))
  have X0 := hid ((Lies.new w 24 #[Value.slice A a.objs.length c, Value.int .i64 a.cap, Value.int .i64 a.last]).alloc (.cells #[Value.slice B b.objs.length d, Value.int .i64 b.cap, Value.int .i64 b.last] 24))
  have Y0 : Hid (Lies ((w.alloc (.cells #[Value.slice A a.objs.length c, Value.int .i64 a.cap, Value.int .i64 a.last] 24)).alloc (.cells #[Value.slice B b.objs.length d, Value.int .i64 b.cap, Value.int .i64 b.last] 24)) (w.heap.size + 1) 24 #[Value.slice B b.objs.length d, Value.int .i64 b.cap, Value.int .i64 b.last]) := by
    have := Lies.new (w.alloc (.cells #[Value.slice A a.objs.length c, Value.int .i64 a.cap, Value.int .i64 a.last] 24)) 24 #[Value.slice B b.objs.length d, Value.int .i64 b.cap, Value.int .i64 b.last]
    simpa [Hid] using this
  have HP := hid h
  have HGD := hid G
  have hlt := Nat.le_of_eq G.lt
  have hlf := Nat.le_of_eq G.lf
  have hlt2 := Nat.le_of_eq G.lt.symm
  have hlf2 := Nat.le_of_eq G.lf.symm
  clear h G
  by_cases hvu : refB a.objs.length v = true ∧ refB b.objs.length u = true
  · obtain ⟨hv, hu⟩ := hvu
    obtain ⟨i1, i2⟩ := refB_nat hv
    obtain ⟨k1, k2⟩ := refB_nat hu
    have rv : refI a.objs.length v = ((atV v).toNat : Int) := by rw [refI_nonneg hv, i2]
    have ru : refI b.objs.length u = ((atV u).toNat : Int) := by rw [refI_nonneg hu, k2]
    have hpv : prV a b s v u = if (prN s (atV v).toNat (atV u).toNat).T (atV v).toNat = ((atV u).toNat : Int) ∧ (prN s (atV v).toNat (atV u).toNat).F (atV u).toNat = ((atV v).toNat : Int) then some (prN s (atV v).toNat (atV u).toNat) else none := by
      unfold prV; rw [if_pos ⟨hv, hu⟩, i2, k2]
    rw [hpv]
    obtain ⟨i, hi⟩ : ∃ i, i = (atV v).toNat := ⟨_, rfl⟩
    obtain ⟨k, hk⟩ : ∃ k, k = (atV u).toNat := ⟨_, rfl⟩
    rw [← hi, ← hk]
    rw [← hi] at rv i1
    rw [← hk] at ru k1
    have hit : i < s.t.length := by omega
    have hkf : k < s.f.length := by omega
    obtain ⟨tb, ctt, htt, htb0, htb1⟩ := HP.out.tow.form (by omega)
    obtain ⟨fb, cff, hff, hfb0, hfb1⟩ := HP.out.frow.form (by omega)
    simp only [Value.slice.injEq, true_and] at htt hff
    obtain ⟨rfl, rfl⟩ := htt
    obtain ⟨rfl, rfl⟩ := hff
    have hne : tb ≠ fb := HP.out.off _ _ rfl rfl
    obtain ⟨x, hx⟩ : ∃ x, x = s.T i := ⟨_, rfl⟩
    obtain ⟨y, hy⟩ : ∃ y, y = s.F k := ⟨_, rfl⟩
    have hx1 : s.t[i]? = some x := by rw [hx, List.getElem?_eq_getElem hit]; unfold Pr.T; rw [List.getD_eq_getElem?_getD, List.getElem?_eq_getElem hit]; rfl
    have hy1 : s.f[k]? = some y := by rw [hy, List.getElem?_eq_getElem hkf]; unfold Pr.F; rw [List.getD_eq_getElem?_getD, List.getElem?_eq_getElem hkf]; rfl
    have HX1 := hid hx1
    have HY1 := hid hy1
    have HX := hid hx
    have HY := hid hy
    clear hv hu i2 k2 hpv hi hk hx hy hx1 hy1
    by_cases hx0 : x = -1
    · by_cases hy0 : y = -1
      · have hrN : prN s i k = ⟨s.t.set i k, s.f.set k i⟩ := by unfold prN; rw [if_pos ⟨by rw [← HX.out]; exact hx0, by rw [← HY.out]; exact hy0⟩]
        have hT : (prN s i k).T i = (k : Int) := by rw [hrN]; unfold Pr.T; rw [List.getD_eq_getElem?_getD, List.getElem?_set_self hit]; rfl
        have hF : (prN s i k).F k = (i : Int) := by rw [hrN]; unfold Pr.F; rw [List.getD_eq_getElem?_getD, List.getElem?_set_self hkf]; rfl
        rw [if_pos ⟨hT, hF⟩]
        subst hx0 hy0
        have HRN := hid hrN
        clear hrN hT hF
        go_enter Tryz.func62, Tryz.ntmps62
        go_wp2_with fail
        obtain ⟨W, hW⟩ : ∃ W, W = ((w.alloc (.cells #[Value.slice A a.objs.length c, Value.int .i64 a.cap, Value.int .i64 a.last] 24)).alloc (.cells #[Value.slice B b.objs.length d, Value.int .i64 b.cap, Value.int .i64 b.last] 24)) := ⟨_, rfl⟩
        rw [← hW] at HB0 X0 Y0
        rw [← hW]
        clear hW
        have x0 := X0.out.cell 0
        have x1 := X0.out.cell 1
        have x2 := X0.out.cell 2
        have y0 := Y0.out.cell 0
        have y1 := Y0.out.cell 1
        have y2 := Y0.out.cell 2
        simp only [List.getElem?_toArray, List.getElem?_cons_zero, List.getElem?_cons_succ] at x0 x1 x2 y0 y1 y2
        refine wp_region_held_drew (S := (fun w' => w'.cell? ⟨w.heap.size, 0, none⟩ = some (.slice A a.objs.length c) ∧ w'.cell? ⟨w.heap.size, 1, none⟩ = some (.int .i64 a.cap) ∧ w'.cell? ⟨w.heap.size, 2, none⟩ = some (.int .i64 a.last) ∧ w'.cell? ⟨w.heap.size + 1, 0, none⟩ = some (.slice B b.objs.length d) ∧ w'.cell? ⟨w.heap.size + 1, 1, none⟩ = some (.int .i64 b.cap) ∧ w'.cell? ⟨w.heap.size + 1, 2, none⟩ = some (.int .i64 b.last))) (by kernel_rfl) ?_ (fun hH0 => ?_)
        · exact ⟨x0, x1, x2, y0, y1, y2⟩
        refine wpAnyH_take (i := 0) (oi := { dst := some 15, op := Go.Op.load 24 (Go.Operand.tmp 6), type := 24, pos := "ref.go:80", after := #[], guard := none }) (v := ?vv1) rfl (by kernel_rfl) (by kernel_rfl) (by kernel_rfl) (fun _ _ _ h => h) (Or.inl ⟨by rfl, ?hy1⟩) (by assumption) ?rr1
        case hy1 => intro w hSw; (try dsimp only at hSw); go_simp; all_goals with_reducible rfl
        try simp only [Act.put, List.setIfInBounds_toArray, List.set_cons_zero, List.set_cons_succ]
        refine wpAnyH_take (i := 1) (oi := { dst := some 16, op := Go.Op.move (Go.Operand.tmp 3), type := 3, pos := "ref.go:80", after := #[], guard := none }) (v := ?vv2) rfl (by kernel_rfl) (by kernel_rfl) (by kernel_rfl) (fun _ _ _ h => h) (Or.inl ⟨by rfl, ?hy2⟩) (by assumption) ?rr2
        case hy2 => intro w hSw; (try dsimp only at hSw); go_simp; all_goals with_reducible rfl
        try simp only [Act.put, List.setIfInBounds_toArray, List.set_cons_zero, List.set_cons_succ]
        refine wpAnyH_take (i := 3) (oi := { dst := some 18, op := Go.Op.load 24 (Go.Operand.tmp 7), type := 24, pos := "ref.go:80", after := #[], guard := none }) (v := ?vv3) rfl (by kernel_rfl) (by kernel_rfl) (by kernel_rfl) (fun _ _ _ h => h) (Or.inl ⟨by rfl, ?hy3⟩) (by assumption) ?rr3
        case hy3 => intro w hSw; (try dsimp only at hSw); go_simp; all_goals with_reducible rfl
        try simp only [Act.put, List.setIfInBounds_toArray, List.set_cons_zero, List.set_cons_succ]
        refine wpAnyH_take (i := 4) (oi := { dst := some 19, op := Go.Op.move (Go.Operand.tmp 4), type := 3, pos := "ref.go:80", after := #[], guard := none }) (v := ?vv4) rfl (by kernel_rfl) (by kernel_rfl) (by kernel_rfl) (fun _ _ _ h => h) (Or.inl ⟨by rfl, ?hy4⟩) (by assumption) ?rr4
        case hy4 => intro w hSw; (try dsimp only at hSw); go_simp; all_goals with_reducible rfl
        try simp only [Act.put, List.setIfInBounds_toArray, List.set_cons_zero, List.set_cons_succ]
        refine wpAnyH_ready (rs := [2]) (by kernel_rfl) (by simp) ?_
        refine AllReadyH.cons (i := 2) (o := { dst := some 17, op := Go.Op.call { callee := Go.Callee.value (Go.Operand.func 32), args := #[Go.Operand.tmp 15, Go.Operand.tmp 16], argTypes := #[24, 3] }, type := 3, pos := "ref.go:80", after := #[{ on := 0, ground := Go.Ground.data }, { on := 1, ground := Go.Ground.data }], guard := none }) rfl (fun K hK => ?_) AllReadyH.nil
        go_simp
        go_at_call 32
        refine (rref_any a v A c _).mono ?_
        rintro e w1 ⟨rfl, hb⟩
        rw [rv]
        have hbw1 : Below W.heap.size W w1 := then_b (Below.refl _ W).drew hb
        refine hK.out _ _ ?_ (fun hH1 => ?_)
        · exact ⟨cell_later hb hH0.1, cell_later hb hH0.2.1, cell_later hb hH0.2.2.1, cell_later hb hH0.2.2.2.1, cell_later hb hH0.2.2.2.2.1, cell_later hb hH0.2.2.2.2.2⟩
        clear hK K
        try simp only [Act.put, List.setIfInBounds_toArray, List.set_cons_zero, List.set_cons_succ]
        clear hb
        refine wpAnyH_ready (rs := [5]) (by kernel_rfl) (by simp) ?_
        refine AllReadyH.cons (i := 5) (o := { dst := some 20, op := Go.Op.call { callee := Go.Callee.value (Go.Operand.func 32), args := #[Go.Operand.tmp 18, Go.Operand.tmp 19], argTypes := #[24, 3] }, type := 3, pos := "ref.go:80", after := #[{ on := 3, ground := Go.Ground.data }, { on := 4, ground := Go.Ground.data }, { on := 2, ground := Go.Ground.chain }], guard := none }) rfl (fun K hK => ?_) AllReadyH.nil
        go_simp
        go_at_call 32
        refine (rref_any b u B d _).mono ?_
        rintro e w2 ⟨rfl, hb⟩
        rw [ru]
        have hbw2 : Below W.heap.size W w2 := then_b hbw1 hb
        refine hK.out _ _ ?_ (fun hH2 => ?_)
        · exact ⟨cell_later hb hH1.1, cell_later hb hH1.2.1, cell_later hb hH1.2.2.1, cell_later hb hH1.2.2.2.1, cell_later hb hH1.2.2.2.2.1, cell_later hb hH1.2.2.2.2.2⟩
        clear hK K
        try simp only [Act.put, List.setIfInBounds_toArray, List.set_cons_zero, List.set_cons_succ]
        clear hb
        refine wpAnyH_take (i := 6) (oi := { dst := some 11, op := Go.Op.assign (Go.Operand.tmp 17), type := 3, pos := "ref.go:80", after := #[{ on := 2, ground := Go.Ground.data }, { on := 5, ground := Go.Ground.chain }, { on := 0, ground := Go.Ground.phase }, { on := 1, ground := Go.Ground.phase }, { on := 2, ground := Go.Ground.phase }, { on := 3, ground := Go.Ground.textOnly Go.Departure.lateStores }, { on := 4, ground := Go.Ground.textOnly Go.Departure.lateStores }, { on := 5, ground := Go.Ground.textOnly Go.Departure.lateStoresUnsure }], guard := none }) (v := ?vv5) rfl (by kernel_rfl) (by kernel_rfl) (by kernel_rfl) (fun _ _ _ h => h) (Or.inl ⟨by rfl, ?hy5⟩) (by assumption) ?rr5
        case hy5 => intro w hSw; (try dsimp only at hSw); go_simp; all_goals with_reducible rfl
        try simp only [Act.put, List.setIfInBounds_toArray, List.set_cons_zero, List.set_cons_succ]
        refine wpAnyH_take (i := 7) (oi := { dst := some 12, op := Go.Op.assign (Go.Operand.tmp 20), type := 3, pos := "ref.go:80", after := #[{ on := 5, ground := Go.Ground.data }, { on := 6, ground := Go.Ground.chain }, { on := 0, ground := Go.Ground.phase }, { on := 1, ground := Go.Ground.phase }, { on := 2, ground := Go.Ground.phase }, { on := 3, ground := Go.Ground.phase }, { on := 4, ground := Go.Ground.phase }, { on := 5, ground := Go.Ground.phase }, { on := 6, ground := Go.Ground.phase }], guard := none }) (v := ?vv6) rfl (by kernel_rfl) (by kernel_rfl) (by kernel_rfl) (fun _ _ _ h => h) (Or.inl ⟨by rfl, ?hy6⟩) (by assumption) ?rr6
        case hy6 => intro w hSw; (try dsimp only at hSw); go_simp; all_goals with_reducible rfl
        try simp only [Act.put, List.setIfInBounds_toArray, List.set_cons_zero, List.set_cons_succ]
        refine wpAnyH_done (by kernel_rfl) ?_ _
        have HB2 := hid (then_b HB0.out hbw2)
        have HP2 := hid (HP.out.later HB2.out)
        clear hbw1 hbw2 x0 x1 x2 y0 y1 y2
        have t0 := HP2.out.box.cell 0
        have t1 := HP2.out.box.cell 1
        simp only [List.getElem?_toArray, List.getElem?_cons_zero, List.getElem?_cons_succ] at t0 t1
        have tc := HP2.out.tow.cellAt i (by omega)
        have fc := HP2.out.frow.cellAt k (by omega)
        have tf := HP2.out.tow.frozenAt i
        have ff := HP2.out.frow.frozenAt k
        rw [List.getElem?_map, HX1.out] at tc
        rw [List.getElem?_map, HY1.out] at fc
        simp only [Option.map_some] at tc fc
        have n1 : pb ≠ tb := fun e => own_blk_ne HP2.out.tow HP2.out.box (by decide) (by rw [e]; rfl)
        have n2 : pb ≠ fb := fun e => own_blk_ne HP2.out.frow HP2.out.box (by decide) (by rw [e]; rfl)
        go_wp2_with fail
        go_ret
        refine ⟨(Turn2.of_below HB2.out _ _).trans (Turn2.sets _ tb fb i k _ _), .inl ⟨_, rfl, rfl, ?_⟩⟩
        rw [HRN.out]
        exact HP2.out.set i k
      · have hrN : prN s i k = s := by unfold prN; rw [if_neg fun c => hy0 (by rw [HY.out]; exact c.2)]
        rw [hrN, if_neg fun c => by rw [← HX.out, hx0] at c; have := c.1; omega]
        subst hx0
        have ty : (y == -1) = false := by simpa using hy0
        have tk : ((-1 : Int) == (k : Int)) = false := by rw [beq_eq_false_iff_ne]; omega
        clear hrN hy0
        go_enter Tryz.func62, Tryz.ntmps62
        go_wp2_with fail
        obtain ⟨W, hW⟩ : ∃ W, W = ((w.alloc (.cells #[Value.slice A a.objs.length c, Value.int .i64 a.cap, Value.int .i64 a.last] 24)).alloc (.cells #[Value.slice B b.objs.length d, Value.int .i64 b.cap, Value.int .i64 b.last] 24)) := ⟨_, rfl⟩
        rw [← hW] at HB0 X0 Y0
        rw [← hW]
        clear hW
        have x0 := X0.out.cell 0
        have x1 := X0.out.cell 1
        have x2 := X0.out.cell 2
        have y0 := Y0.out.cell 0
        have y1 := Y0.out.cell 1
        have y2 := Y0.out.cell 2
        simp only [List.getElem?_toArray, List.getElem?_cons_zero, List.getElem?_cons_succ] at x0 x1 x2 y0 y1 y2
        refine wp_region_held_drew (S := (fun w' => w'.cell? ⟨w.heap.size, 0, none⟩ = some (.slice A a.objs.length c) ∧ w'.cell? ⟨w.heap.size, 1, none⟩ = some (.int .i64 a.cap) ∧ w'.cell? ⟨w.heap.size, 2, none⟩ = some (.int .i64 a.last) ∧ w'.cell? ⟨w.heap.size + 1, 0, none⟩ = some (.slice B b.objs.length d) ∧ w'.cell? ⟨w.heap.size + 1, 1, none⟩ = some (.int .i64 b.cap) ∧ w'.cell? ⟨w.heap.size + 1, 2, none⟩ = some (.int .i64 b.last))) (by kernel_rfl) ?_ (fun hH0 => ?_)
        · exact ⟨x0, x1, x2, y0, y1, y2⟩
        refine wpAnyH_take (i := 0) (oi := { dst := some 15, op := Go.Op.load 24 (Go.Operand.tmp 6), type := 24, pos := "ref.go:80", after := #[], guard := none }) (v := ?vv7) rfl (by kernel_rfl) (by kernel_rfl) (by kernel_rfl) (fun _ _ _ h => h) (Or.inl ⟨by rfl, ?hy7⟩) (by assumption) ?rr7
        case hy7 => intro w hSw; (try dsimp only at hSw); go_simp; all_goals with_reducible rfl
        try simp only [Act.put, List.setIfInBounds_toArray, List.set_cons_zero, List.set_cons_succ]
        refine wpAnyH_take (i := 1) (oi := { dst := some 16, op := Go.Op.move (Go.Operand.tmp 3), type := 3, pos := "ref.go:80", after := #[], guard := none }) (v := ?vv8) rfl (by kernel_rfl) (by kernel_rfl) (by kernel_rfl) (fun _ _ _ h => h) (Or.inl ⟨by rfl, ?hy8⟩) (by assumption) ?rr8
        case hy8 => intro w hSw; (try dsimp only at hSw); go_simp; all_goals with_reducible rfl
        try simp only [Act.put, List.setIfInBounds_toArray, List.set_cons_zero, List.set_cons_succ]
        refine wpAnyH_take (i := 3) (oi := { dst := some 18, op := Go.Op.load 24 (Go.Operand.tmp 7), type := 24, pos := "ref.go:80", after := #[], guard := none }) (v := ?vv9) rfl (by kernel_rfl) (by kernel_rfl) (by kernel_rfl) (fun _ _ _ h => h) (Or.inl ⟨by rfl, ?hy9⟩) (by assumption) ?rr9
        case hy9 => intro w hSw; (try dsimp only at hSw); go_simp; all_goals with_reducible rfl
        try simp only [Act.put, List.setIfInBounds_toArray, List.set_cons_zero, List.set_cons_succ]
        refine wpAnyH_take (i := 4) (oi := { dst := some 19, op := Go.Op.move (Go.Operand.tmp 4), type := 3, pos := "ref.go:80", after := #[], guard := none }) (v := ?vv10) rfl (by kernel_rfl) (by kernel_rfl) (by kernel_rfl) (fun _ _ _ h => h) (Or.inl ⟨by rfl, ?hy10⟩) (by assumption) ?rr10
        case hy10 => intro w hSw; (try dsimp only at hSw); go_simp; all_goals with_reducible rfl
        try simp only [Act.put, List.setIfInBounds_toArray, List.set_cons_zero, List.set_cons_succ]
        refine wpAnyH_ready (rs := [2]) (by kernel_rfl) (by simp) ?_
        refine AllReadyH.cons (i := 2) (o := { dst := some 17, op := Go.Op.call { callee := Go.Callee.value (Go.Operand.func 32), args := #[Go.Operand.tmp 15, Go.Operand.tmp 16], argTypes := #[24, 3] }, type := 3, pos := "ref.go:80", after := #[{ on := 0, ground := Go.Ground.data }, { on := 1, ground := Go.Ground.data }], guard := none }) rfl (fun K hK => ?_) AllReadyH.nil
        go_simp
        go_at_call 32
        refine (rref_any a v A c _).mono ?_
        rintro e w1 ⟨rfl, hb⟩
        rw [rv]
        have hbw1 : Below W.heap.size W w1 := then_b (Below.refl _ W).drew hb
        refine hK.out _ _ ?_ (fun hH1 => ?_)
        · exact ⟨cell_later hb hH0.1, cell_later hb hH0.2.1, cell_later hb hH0.2.2.1, cell_later hb hH0.2.2.2.1, cell_later hb hH0.2.2.2.2.1, cell_later hb hH0.2.2.2.2.2⟩
        clear hK K
        try simp only [Act.put, List.setIfInBounds_toArray, List.set_cons_zero, List.set_cons_succ]
        clear hb
        refine wpAnyH_ready (rs := [5]) (by kernel_rfl) (by simp) ?_
        refine AllReadyH.cons (i := 5) (o := { dst := some 20, op := Go.Op.call { callee := Go.Callee.value (Go.Operand.func 32), args := #[Go.Operand.tmp 18, Go.Operand.tmp 19], argTypes := #[24, 3] }, type := 3, pos := "ref.go:80", after := #[{ on := 3, ground := Go.Ground.data }, { on := 4, ground := Go.Ground.data }, { on := 2, ground := Go.Ground.chain }], guard := none }) rfl (fun K hK => ?_) AllReadyH.nil
        go_simp
        go_at_call 32
        refine (rref_any b u B d _).mono ?_
        rintro e w2 ⟨rfl, hb⟩
        rw [ru]
        have hbw2 : Below W.heap.size W w2 := then_b hbw1 hb
        refine hK.out _ _ ?_ (fun hH2 => ?_)
        · exact ⟨cell_later hb hH1.1, cell_later hb hH1.2.1, cell_later hb hH1.2.2.1, cell_later hb hH1.2.2.2.1, cell_later hb hH1.2.2.2.2.1, cell_later hb hH1.2.2.2.2.2⟩
        clear hK K
        try simp only [Act.put, List.setIfInBounds_toArray, List.set_cons_zero, List.set_cons_succ]
        clear hb
        refine wpAnyH_take (i := 6) (oi := { dst := some 11, op := Go.Op.assign (Go.Operand.tmp 17), type := 3, pos := "ref.go:80", after := #[{ on := 2, ground := Go.Ground.data }, { on := 5, ground := Go.Ground.chain }, { on := 0, ground := Go.Ground.phase }, { on := 1, ground := Go.Ground.phase }, { on := 2, ground := Go.Ground.phase }, { on := 3, ground := Go.Ground.textOnly Go.Departure.lateStores }, { on := 4, ground := Go.Ground.textOnly Go.Departure.lateStores }, { on := 5, ground := Go.Ground.textOnly Go.Departure.lateStoresUnsure }], guard := none }) (v := ?vv11) rfl (by kernel_rfl) (by kernel_rfl) (by kernel_rfl) (fun _ _ _ h => h) (Or.inl ⟨by rfl, ?hy11⟩) (by assumption) ?rr11
        case hy11 => intro w hSw; (try dsimp only at hSw); go_simp; all_goals with_reducible rfl
        try simp only [Act.put, List.setIfInBounds_toArray, List.set_cons_zero, List.set_cons_succ]
        refine wpAnyH_take (i := 7) (oi := { dst := some 12, op := Go.Op.assign (Go.Operand.tmp 20), type := 3, pos := "ref.go:80", after := #[{ on := 5, ground := Go.Ground.data }, { on := 6, ground := Go.Ground.chain }, { on := 0, ground := Go.Ground.phase }, { on := 1, ground := Go.Ground.phase }, { on := 2, ground := Go.Ground.phase }, { on := 3, ground := Go.Ground.phase }, { on := 4, ground := Go.Ground.phase }, { on := 5, ground := Go.Ground.phase }, { on := 6, ground := Go.Ground.phase }], guard := none }) (v := ?vv12) rfl (by kernel_rfl) (by kernel_rfl) (by kernel_rfl) (fun _ _ _ h => h) (Or.inl ⟨by rfl, ?hy12⟩) (by assumption) ?rr12
        case hy12 => intro w hSw; (try dsimp only at hSw); go_simp; all_goals with_reducible rfl
        try simp only [Act.put, List.setIfInBounds_toArray, List.set_cons_zero, List.set_cons_succ]
        refine wpAnyH_done (by kernel_rfl) ?_ _
        have HB2 := hid (then_b HB0.out hbw2)
        have HP2 := hid (HP.out.later HB2.out)
        clear hbw1 hbw2 x0 x1 x2 y0 y1 y2
        have t0 := HP2.out.box.cell 0
        have t1 := HP2.out.box.cell 1
        simp only [List.getElem?_toArray, List.getElem?_cons_zero, List.getElem?_cons_succ] at t0 t1
        have tc := HP2.out.tow.cellAt i (by omega)
        have fc := HP2.out.frow.cellAt k (by omega)
        have tf := HP2.out.tow.frozenAt i
        have ff := HP2.out.frow.frozenAt k
        rw [List.getElem?_map, HX1.out] at tc
        rw [List.getElem?_map, HY1.out] at fc
        simp only [Option.map_some] at tc fc
        go_wp2_with fail
        go_ret
        exact ⟨.of_below HB2.out _ _, .inr ⟨rfl, rfl⟩⟩
    · have hrN : prN s i k = s := by unfold prN; rw [if_neg fun c => hx0 (by rw [HX.out]; exact c.1)]
      rw [hrN]
      have tx : (x == -1) = false := by simpa using hx0
      clear hrN hx0
      by_cases hxk : x = k
      · have txk : (x == (k : Int)) = true := by simp [hxk]
        by_cases hyi : y = i
        · have tyi : (y == (i : Int)) = true := by simp [hyi]
          rw [if_pos ⟨by rw [← HX.out]; exact hxk, by rw [← HY.out]; exact hyi⟩]
          clear hxk hyi
          go_enter Tryz.func62, Tryz.ntmps62
          go_wp2_with fail
          obtain ⟨W, hW⟩ : ∃ W, W = ((w.alloc (.cells #[Value.slice A a.objs.length c, Value.int .i64 a.cap, Value.int .i64 a.last] 24)).alloc (.cells #[Value.slice B b.objs.length d, Value.int .i64 b.cap, Value.int .i64 b.last] 24)) := ⟨_, rfl⟩
          rw [← hW] at HB0 X0 Y0
          rw [← hW]
          clear hW
          have x0 := X0.out.cell 0
          have x1 := X0.out.cell 1
          have x2 := X0.out.cell 2
          have y0 := Y0.out.cell 0
          have y1 := Y0.out.cell 1
          have y2 := Y0.out.cell 2
          simp only [List.getElem?_toArray, List.getElem?_cons_zero, List.getElem?_cons_succ] at x0 x1 x2 y0 y1 y2
          refine wp_region_held_drew (S := (fun w' => w'.cell? ⟨w.heap.size, 0, none⟩ = some (.slice A a.objs.length c) ∧ w'.cell? ⟨w.heap.size, 1, none⟩ = some (.int .i64 a.cap) ∧ w'.cell? ⟨w.heap.size, 2, none⟩ = some (.int .i64 a.last) ∧ w'.cell? ⟨w.heap.size + 1, 0, none⟩ = some (.slice B b.objs.length d) ∧ w'.cell? ⟨w.heap.size + 1, 1, none⟩ = some (.int .i64 b.cap) ∧ w'.cell? ⟨w.heap.size + 1, 2, none⟩ = some (.int .i64 b.last))) (by kernel_rfl) ?_ (fun hH0 => ?_)
          · exact ⟨x0, x1, x2, y0, y1, y2⟩
          refine wpAnyH_take (i := 0) (oi := { dst := some 15, op := Go.Op.load 24 (Go.Operand.tmp 6), type := 24, pos := "ref.go:80", after := #[], guard := none }) (v := ?vv13) rfl (by kernel_rfl) (by kernel_rfl) (by kernel_rfl) (fun _ _ _ h => h) (Or.inl ⟨by rfl, ?hy13⟩) (by assumption) ?rr13
          case hy13 => intro w hSw; (try dsimp only at hSw); go_simp; all_goals with_reducible rfl
          try simp only [Act.put, List.setIfInBounds_toArray, List.set_cons_zero, List.set_cons_succ]
          refine wpAnyH_take (i := 1) (oi := { dst := some 16, op := Go.Op.move (Go.Operand.tmp 3), type := 3, pos := "ref.go:80", after := #[], guard := none }) (v := ?vv14) rfl (by kernel_rfl) (by kernel_rfl) (by kernel_rfl) (fun _ _ _ h => h) (Or.inl ⟨by rfl, ?hy14⟩) (by assumption) ?rr14
          case hy14 => intro w hSw; (try dsimp only at hSw); go_simp; all_goals with_reducible rfl
          try simp only [Act.put, List.setIfInBounds_toArray, List.set_cons_zero, List.set_cons_succ]
          refine wpAnyH_take (i := 3) (oi := { dst := some 18, op := Go.Op.load 24 (Go.Operand.tmp 7), type := 24, pos := "ref.go:80", after := #[], guard := none }) (v := ?vv15) rfl (by kernel_rfl) (by kernel_rfl) (by kernel_rfl) (fun _ _ _ h => h) (Or.inl ⟨by rfl, ?hy15⟩) (by assumption) ?rr15
          case hy15 => intro w hSw; (try dsimp only at hSw); go_simp; all_goals with_reducible rfl
          try simp only [Act.put, List.setIfInBounds_toArray, List.set_cons_zero, List.set_cons_succ]
          refine wpAnyH_take (i := 4) (oi := { dst := some 19, op := Go.Op.move (Go.Operand.tmp 4), type := 3, pos := "ref.go:80", after := #[], guard := none }) (v := ?vv16) rfl (by kernel_rfl) (by kernel_rfl) (by kernel_rfl) (fun _ _ _ h => h) (Or.inl ⟨by rfl, ?hy16⟩) (by assumption) ?rr16
          case hy16 => intro w hSw; (try dsimp only at hSw); go_simp; all_goals with_reducible rfl
          try simp only [Act.put, List.setIfInBounds_toArray, List.set_cons_zero, List.set_cons_succ]
          refine wpAnyH_ready (rs := [2]) (by kernel_rfl) (by simp) ?_
          refine AllReadyH.cons (i := 2) (o := { dst := some 17, op := Go.Op.call { callee := Go.Callee.value (Go.Operand.func 32), args := #[Go.Operand.tmp 15, Go.Operand.tmp 16], argTypes := #[24, 3] }, type := 3, pos := "ref.go:80", after := #[{ on := 0, ground := Go.Ground.data }, { on := 1, ground := Go.Ground.data }], guard := none }) rfl (fun K hK => ?_) AllReadyH.nil
          go_simp
          go_at_call 32
          refine (rref_any a v A c _).mono ?_
          rintro e w1 ⟨rfl, hb⟩
          rw [rv]
          have hbw1 : Below W.heap.size W w1 := then_b (Below.refl _ W).drew hb
          refine hK.out _ _ ?_ (fun hH1 => ?_)
          · exact ⟨cell_later hb hH0.1, cell_later hb hH0.2.1, cell_later hb hH0.2.2.1, cell_later hb hH0.2.2.2.1, cell_later hb hH0.2.2.2.2.1, cell_later hb hH0.2.2.2.2.2⟩
          clear hK K
          try simp only [Act.put, List.setIfInBounds_toArray, List.set_cons_zero, List.set_cons_succ]
          clear hb
          refine wpAnyH_ready (rs := [5]) (by kernel_rfl) (by simp) ?_
          refine AllReadyH.cons (i := 5) (o := { dst := some 20, op := Go.Op.call { callee := Go.Callee.value (Go.Operand.func 32), args := #[Go.Operand.tmp 18, Go.Operand.tmp 19], argTypes := #[24, 3] }, type := 3, pos := "ref.go:80", after := #[{ on := 3, ground := Go.Ground.data }, { on := 4, ground := Go.Ground.data }, { on := 2, ground := Go.Ground.chain }], guard := none }) rfl (fun K hK => ?_) AllReadyH.nil
          go_simp
          go_at_call 32
          refine (rref_any b u B d _).mono ?_
          rintro e w2 ⟨rfl, hb⟩
          rw [ru]
          have hbw2 : Below W.heap.size W w2 := then_b hbw1 hb
          refine hK.out _ _ ?_ (fun hH2 => ?_)
          · exact ⟨cell_later hb hH1.1, cell_later hb hH1.2.1, cell_later hb hH1.2.2.1, cell_later hb hH1.2.2.2.1, cell_later hb hH1.2.2.2.2.1, cell_later hb hH1.2.2.2.2.2⟩
          clear hK K
          try simp only [Act.put, List.setIfInBounds_toArray, List.set_cons_zero, List.set_cons_succ]
          clear hb
          refine wpAnyH_take (i := 6) (oi := { dst := some 11, op := Go.Op.assign (Go.Operand.tmp 17), type := 3, pos := "ref.go:80", after := #[{ on := 2, ground := Go.Ground.data }, { on := 5, ground := Go.Ground.chain }, { on := 0, ground := Go.Ground.phase }, { on := 1, ground := Go.Ground.phase }, { on := 2, ground := Go.Ground.phase }, { on := 3, ground := Go.Ground.textOnly Go.Departure.lateStores }, { on := 4, ground := Go.Ground.textOnly Go.Departure.lateStores }, { on := 5, ground := Go.Ground.textOnly Go.Departure.lateStoresUnsure }], guard := none }) (v := ?vv17) rfl (by kernel_rfl) (by kernel_rfl) (by kernel_rfl) (fun _ _ _ h => h) (Or.inl ⟨by rfl, ?hy17⟩) (by assumption) ?rr17
          case hy17 => intro w hSw; (try dsimp only at hSw); go_simp; all_goals with_reducible rfl
          try simp only [Act.put, List.setIfInBounds_toArray, List.set_cons_zero, List.set_cons_succ]
          refine wpAnyH_take (i := 7) (oi := { dst := some 12, op := Go.Op.assign (Go.Operand.tmp 20), type := 3, pos := "ref.go:80", after := #[{ on := 5, ground := Go.Ground.data }, { on := 6, ground := Go.Ground.chain }, { on := 0, ground := Go.Ground.phase }, { on := 1, ground := Go.Ground.phase }, { on := 2, ground := Go.Ground.phase }, { on := 3, ground := Go.Ground.phase }, { on := 4, ground := Go.Ground.phase }, { on := 5, ground := Go.Ground.phase }, { on := 6, ground := Go.Ground.phase }], guard := none }) (v := ?vv18) rfl (by kernel_rfl) (by kernel_rfl) (by kernel_rfl) (fun _ _ _ h => h) (Or.inl ⟨by rfl, ?hy18⟩) (by assumption) ?rr18
          case hy18 => intro w hSw; (try dsimp only at hSw); go_simp; all_goals with_reducible rfl
          try simp only [Act.put, List.setIfInBounds_toArray, List.set_cons_zero, List.set_cons_succ]
          refine wpAnyH_done (by kernel_rfl) ?_ _
          have HB2 := hid (then_b HB0.out hbw2)
          have HP2 := hid (HP.out.later HB2.out)
          clear hbw1 hbw2 x0 x1 x2 y0 y1 y2
          have t0 := HP2.out.box.cell 0
          have t1 := HP2.out.box.cell 1
          simp only [List.getElem?_toArray, List.getElem?_cons_zero, List.getElem?_cons_succ] at t0 t1
          have tc := HP2.out.tow.cellAt i (by omega)
          have fc := HP2.out.frow.cellAt k (by omega)
          have tf := HP2.out.tow.frozenAt i
          have ff := HP2.out.frow.frozenAt k
          rw [List.getElem?_map, HX1.out] at tc
          rw [List.getElem?_map, HY1.out] at fc
          simp only [Option.map_some] at tc fc
          go_wp2_with fail
          go_ret
          exact ⟨.of_below HB2.out _ _, .inl ⟨_, rfl, rfl, HP2.out⟩⟩
        · have tyi : (y == (i : Int)) = false := by simpa using hyi
          rw [if_neg fun c => hyi (by rw [HY.out]; exact c.2)]
          clear hxk hyi
          go_enter Tryz.func62, Tryz.ntmps62
          go_wp2_with fail
          obtain ⟨W, hW⟩ : ∃ W, W = ((w.alloc (.cells #[Value.slice A a.objs.length c, Value.int .i64 a.cap, Value.int .i64 a.last] 24)).alloc (.cells #[Value.slice B b.objs.length d, Value.int .i64 b.cap, Value.int .i64 b.last] 24)) := ⟨_, rfl⟩
          rw [← hW] at HB0 X0 Y0
          rw [← hW]
          clear hW
          have x0 := X0.out.cell 0
          have x1 := X0.out.cell 1
          have x2 := X0.out.cell 2
          have y0 := Y0.out.cell 0
          have y1 := Y0.out.cell 1
          have y2 := Y0.out.cell 2
          simp only [List.getElem?_toArray, List.getElem?_cons_zero, List.getElem?_cons_succ] at x0 x1 x2 y0 y1 y2
          refine wp_region_held_drew (S := (fun w' => w'.cell? ⟨w.heap.size, 0, none⟩ = some (.slice A a.objs.length c) ∧ w'.cell? ⟨w.heap.size, 1, none⟩ = some (.int .i64 a.cap) ∧ w'.cell? ⟨w.heap.size, 2, none⟩ = some (.int .i64 a.last) ∧ w'.cell? ⟨w.heap.size + 1, 0, none⟩ = some (.slice B b.objs.length d) ∧ w'.cell? ⟨w.heap.size + 1, 1, none⟩ = some (.int .i64 b.cap) ∧ w'.cell? ⟨w.heap.size + 1, 2, none⟩ = some (.int .i64 b.last))) (by kernel_rfl) ?_ (fun hH0 => ?_)
          · exact ⟨x0, x1, x2, y0, y1, y2⟩
          refine wpAnyH_take (i := 0) (oi := { dst := some 15, op := Go.Op.load 24 (Go.Operand.tmp 6), type := 24, pos := "ref.go:80", after := #[], guard := none }) (v := ?vv19) rfl (by kernel_rfl) (by kernel_rfl) (by kernel_rfl) (fun _ _ _ h => h) (Or.inl ⟨by rfl, ?hy19⟩) (by assumption) ?rr19
          case hy19 => intro w hSw; (try dsimp only at hSw); go_simp; all_goals with_reducible rfl
          try simp only [Act.put, List.setIfInBounds_toArray, List.set_cons_zero, List.set_cons_succ]
          refine wpAnyH_take (i := 1) (oi := { dst := some 16, op := Go.Op.move (Go.Operand.tmp 3), type := 3, pos := "ref.go:80", after := #[], guard := none }) (v := ?vv20) rfl (by kernel_rfl) (by kernel_rfl) (by kernel_rfl) (fun _ _ _ h => h) (Or.inl ⟨by rfl, ?hy20⟩) (by assumption) ?rr20
          case hy20 => intro w hSw; (try dsimp only at hSw); go_simp; all_goals with_reducible rfl
          try simp only [Act.put, List.setIfInBounds_toArray, List.set_cons_zero, List.set_cons_succ]
          refine wpAnyH_take (i := 3) (oi := { dst := some 18, op := Go.Op.load 24 (Go.Operand.tmp 7), type := 24, pos := "ref.go:80", after := #[], guard := none }) (v := ?vv21) rfl (by kernel_rfl) (by kernel_rfl) (by kernel_rfl) (fun _ _ _ h => h) (Or.inl ⟨by rfl, ?hy21⟩) (by assumption) ?rr21
          case hy21 => intro w hSw; (try dsimp only at hSw); go_simp; all_goals with_reducible rfl
          try simp only [Act.put, List.setIfInBounds_toArray, List.set_cons_zero, List.set_cons_succ]
          refine wpAnyH_take (i := 4) (oi := { dst := some 19, op := Go.Op.move (Go.Operand.tmp 4), type := 3, pos := "ref.go:80", after := #[], guard := none }) (v := ?vv22) rfl (by kernel_rfl) (by kernel_rfl) (by kernel_rfl) (fun _ _ _ h => h) (Or.inl ⟨by rfl, ?hy22⟩) (by assumption) ?rr22
          case hy22 => intro w hSw; (try dsimp only at hSw); go_simp; all_goals with_reducible rfl
          try simp only [Act.put, List.setIfInBounds_toArray, List.set_cons_zero, List.set_cons_succ]
          refine wpAnyH_ready (rs := [2]) (by kernel_rfl) (by simp) ?_
          refine AllReadyH.cons (i := 2) (o := { dst := some 17, op := Go.Op.call { callee := Go.Callee.value (Go.Operand.func 32), args := #[Go.Operand.tmp 15, Go.Operand.tmp 16], argTypes := #[24, 3] }, type := 3, pos := "ref.go:80", after := #[{ on := 0, ground := Go.Ground.data }, { on := 1, ground := Go.Ground.data }], guard := none }) rfl (fun K hK => ?_) AllReadyH.nil
          go_simp
          go_at_call 32
          refine (rref_any a v A c _).mono ?_
          rintro e w1 ⟨rfl, hb⟩
          rw [rv]
          have hbw1 : Below W.heap.size W w1 := then_b (Below.refl _ W).drew hb
          refine hK.out _ _ ?_ (fun hH1 => ?_)
          · exact ⟨cell_later hb hH0.1, cell_later hb hH0.2.1, cell_later hb hH0.2.2.1, cell_later hb hH0.2.2.2.1, cell_later hb hH0.2.2.2.2.1, cell_later hb hH0.2.2.2.2.2⟩
          clear hK K
          try simp only [Act.put, List.setIfInBounds_toArray, List.set_cons_zero, List.set_cons_succ]
          clear hb
          refine wpAnyH_ready (rs := [5]) (by kernel_rfl) (by simp) ?_
          refine AllReadyH.cons (i := 5) (o := { dst := some 20, op := Go.Op.call { callee := Go.Callee.value (Go.Operand.func 32), args := #[Go.Operand.tmp 18, Go.Operand.tmp 19], argTypes := #[24, 3] }, type := 3, pos := "ref.go:80", after := #[{ on := 3, ground := Go.Ground.data }, { on := 4, ground := Go.Ground.data }, { on := 2, ground := Go.Ground.chain }], guard := none }) rfl (fun K hK => ?_) AllReadyH.nil
          go_simp
          go_at_call 32
          refine (rref_any b u B d _).mono ?_
          rintro e w2 ⟨rfl, hb⟩
          rw [ru]
          have hbw2 : Below W.heap.size W w2 := then_b hbw1 hb
          refine hK.out _ _ ?_ (fun hH2 => ?_)
          · exact ⟨cell_later hb hH1.1, cell_later hb hH1.2.1, cell_later hb hH1.2.2.1, cell_later hb hH1.2.2.2.1, cell_later hb hH1.2.2.2.2.1, cell_later hb hH1.2.2.2.2.2⟩
          clear hK K
          try simp only [Act.put, List.setIfInBounds_toArray, List.set_cons_zero, List.set_cons_succ]
          clear hb
          refine wpAnyH_take (i := 6) (oi := { dst := some 11, op := Go.Op.assign (Go.Operand.tmp 17), type := 3, pos := "ref.go:80", after := #[{ on := 2, ground := Go.Ground.data }, { on := 5, ground := Go.Ground.chain }, { on := 0, ground := Go.Ground.phase }, { on := 1, ground := Go.Ground.phase }, { on := 2, ground := Go.Ground.phase }, { on := 3, ground := Go.Ground.textOnly Go.Departure.lateStores }, { on := 4, ground := Go.Ground.textOnly Go.Departure.lateStores }, { on := 5, ground := Go.Ground.textOnly Go.Departure.lateStoresUnsure }], guard := none }) (v := ?vv23) rfl (by kernel_rfl) (by kernel_rfl) (by kernel_rfl) (fun _ _ _ h => h) (Or.inl ⟨by rfl, ?hy23⟩) (by assumption) ?rr23
          case hy23 => intro w hSw; (try dsimp only at hSw); go_simp; all_goals with_reducible rfl
          try simp only [Act.put, List.setIfInBounds_toArray, List.set_cons_zero, List.set_cons_succ]
          refine wpAnyH_take (i := 7) (oi := { dst := some 12, op := Go.Op.assign (Go.Operand.tmp 20), type := 3, pos := "ref.go:80", after := #[{ on := 5, ground := Go.Ground.data }, { on := 6, ground := Go.Ground.chain }, { on := 0, ground := Go.Ground.phase }, { on := 1, ground := Go.Ground.phase }, { on := 2, ground := Go.Ground.phase }, { on := 3, ground := Go.Ground.phase }, { on := 4, ground := Go.Ground.phase }, { on := 5, ground := Go.Ground.phase }, { on := 6, ground := Go.Ground.phase }], guard := none }) (v := ?vv24) rfl (by kernel_rfl) (by kernel_rfl) (by kernel_rfl) (fun _ _ _ h => h) (Or.inl ⟨by rfl, ?hy24⟩) (by assumption) ?rr24
          case hy24 => intro w hSw; (try dsimp only at hSw); go_simp; all_goals with_reducible rfl
          try simp only [Act.put, List.setIfInBounds_toArray, List.set_cons_zero, List.set_cons_succ]
          refine wpAnyH_done (by kernel_rfl) ?_ _
          have HB2 := hid (then_b HB0.out hbw2)
          have HP2 := hid (HP.out.later HB2.out)
          clear hbw1 hbw2 x0 x1 x2 y0 y1 y2
          have t0 := HP2.out.box.cell 0
          have t1 := HP2.out.box.cell 1
          simp only [List.getElem?_toArray, List.getElem?_cons_zero, List.getElem?_cons_succ] at t0 t1
          have tc := HP2.out.tow.cellAt i (by omega)
          have fc := HP2.out.frow.cellAt k (by omega)
          have tf := HP2.out.tow.frozenAt i
          have ff := HP2.out.frow.frozenAt k
          rw [List.getElem?_map, HX1.out] at tc
          rw [List.getElem?_map, HY1.out] at fc
          simp only [Option.map_some] at tc fc
          go_wp2_with fail
          go_ret
          exact ⟨.of_below HB2.out _ _, .inr ⟨rfl, rfl⟩⟩
      · have txk : (x == (k : Int)) = false := by simpa using hxk
        rw [if_neg fun c => hxk (by rw [HX.out]; exact c.1)]
        clear hxk
        go_enter Tryz.func62, Tryz.ntmps62
        go_wp2_with fail
        obtain ⟨W, hW⟩ : ∃ W, W = ((w.alloc (.cells #[Value.slice A a.objs.length c, Value.int .i64 a.cap, Value.int .i64 a.last] 24)).alloc (.cells #[Value.slice B b.objs.length d, Value.int .i64 b.cap, Value.int .i64 b.last] 24)) := ⟨_, rfl⟩
        rw [← hW] at HB0 X0 Y0
        rw [← hW]
        clear hW
        have x0 := X0.out.cell 0
        have x1 := X0.out.cell 1
        have x2 := X0.out.cell 2
        have y0 := Y0.out.cell 0
        have y1 := Y0.out.cell 1
        have y2 := Y0.out.cell 2
        simp only [List.getElem?_toArray, List.getElem?_cons_zero, List.getElem?_cons_succ] at x0 x1 x2 y0 y1 y2
        refine wp_region_held_drew (S := (fun w' => w'.cell? ⟨w.heap.size, 0, none⟩ = some (.slice A a.objs.length c) ∧ w'.cell? ⟨w.heap.size, 1, none⟩ = some (.int .i64 a.cap) ∧ w'.cell? ⟨w.heap.size, 2, none⟩ = some (.int .i64 a.last) ∧ w'.cell? ⟨w.heap.size + 1, 0, none⟩ = some (.slice B b.objs.length d) ∧ w'.cell? ⟨w.heap.size + 1, 1, none⟩ = some (.int .i64 b.cap) ∧ w'.cell? ⟨w.heap.size + 1, 2, none⟩ = some (.int .i64 b.last))) (by kernel_rfl) ?_ (fun hH0 => ?_)
        · exact ⟨x0, x1, x2, y0, y1, y2⟩
        refine wpAnyH_take (i := 0) (oi := { dst := some 15, op := Go.Op.load 24 (Go.Operand.tmp 6), type := 24, pos := "ref.go:80", after := #[], guard := none }) (v := ?vv25) rfl (by kernel_rfl) (by kernel_rfl) (by kernel_rfl) (fun _ _ _ h => h) (Or.inl ⟨by rfl, ?hy25⟩) (by assumption) ?rr25
        case hy25 => intro w hSw; (try dsimp only at hSw); go_simp; all_goals with_reducible rfl
        try simp only [Act.put, List.setIfInBounds_toArray, List.set_cons_zero, List.set_cons_succ]
        refine wpAnyH_take (i := 1) (oi := { dst := some 16, op := Go.Op.move (Go.Operand.tmp 3), type := 3, pos := "ref.go:80", after := #[], guard := none }) (v := ?vv26) rfl (by kernel_rfl) (by kernel_rfl) (by kernel_rfl) (fun _ _ _ h => h) (Or.inl ⟨by rfl, ?hy26⟩) (by assumption) ?rr26
        case hy26 => intro w hSw; (try dsimp only at hSw); go_simp; all_goals with_reducible rfl
        try simp only [Act.put, List.setIfInBounds_toArray, List.set_cons_zero, List.set_cons_succ]
        refine wpAnyH_take (i := 3) (oi := { dst := some 18, op := Go.Op.load 24 (Go.Operand.tmp 7), type := 24, pos := "ref.go:80", after := #[], guard := none }) (v := ?vv27) rfl (by kernel_rfl) (by kernel_rfl) (by kernel_rfl) (fun _ _ _ h => h) (Or.inl ⟨by rfl, ?hy27⟩) (by assumption) ?rr27
        case hy27 => intro w hSw; (try dsimp only at hSw); go_simp; all_goals with_reducible rfl
        try simp only [Act.put, List.setIfInBounds_toArray, List.set_cons_zero, List.set_cons_succ]
        refine wpAnyH_take (i := 4) (oi := { dst := some 19, op := Go.Op.move (Go.Operand.tmp 4), type := 3, pos := "ref.go:80", after := #[], guard := none }) (v := ?vv28) rfl (by kernel_rfl) (by kernel_rfl) (by kernel_rfl) (fun _ _ _ h => h) (Or.inl ⟨by rfl, ?hy28⟩) (by assumption) ?rr28
        case hy28 => intro w hSw; (try dsimp only at hSw); go_simp; all_goals with_reducible rfl
        try simp only [Act.put, List.setIfInBounds_toArray, List.set_cons_zero, List.set_cons_succ]
        refine wpAnyH_ready (rs := [2]) (by kernel_rfl) (by simp) ?_
        refine AllReadyH.cons (i := 2) (o := { dst := some 17, op := Go.Op.call { callee := Go.Callee.value (Go.Operand.func 32), args := #[Go.Operand.tmp 15, Go.Operand.tmp 16], argTypes := #[24, 3] }, type := 3, pos := "ref.go:80", after := #[{ on := 0, ground := Go.Ground.data }, { on := 1, ground := Go.Ground.data }], guard := none }) rfl (fun K hK => ?_) AllReadyH.nil
        go_simp
        go_at_call 32
        refine (rref_any a v A c _).mono ?_
        rintro e w1 ⟨rfl, hb⟩
        rw [rv]
        have hbw1 : Below W.heap.size W w1 := then_b (Below.refl _ W).drew hb
        refine hK.out _ _ ?_ (fun hH1 => ?_)
        · exact ⟨cell_later hb hH0.1, cell_later hb hH0.2.1, cell_later hb hH0.2.2.1, cell_later hb hH0.2.2.2.1, cell_later hb hH0.2.2.2.2.1, cell_later hb hH0.2.2.2.2.2⟩
        clear hK K
        try simp only [Act.put, List.setIfInBounds_toArray, List.set_cons_zero, List.set_cons_succ]
        clear hb
        refine wpAnyH_ready (rs := [5]) (by kernel_rfl) (by simp) ?_
        refine AllReadyH.cons (i := 5) (o := { dst := some 20, op := Go.Op.call { callee := Go.Callee.value (Go.Operand.func 32), args := #[Go.Operand.tmp 18, Go.Operand.tmp 19], argTypes := #[24, 3] }, type := 3, pos := "ref.go:80", after := #[{ on := 3, ground := Go.Ground.data }, { on := 4, ground := Go.Ground.data }, { on := 2, ground := Go.Ground.chain }], guard := none }) rfl (fun K hK => ?_) AllReadyH.nil
        go_simp
        go_at_call 32
        refine (rref_any b u B d _).mono ?_
        rintro e w2 ⟨rfl, hb⟩
        rw [ru]
        have hbw2 : Below W.heap.size W w2 := then_b hbw1 hb
        refine hK.out _ _ ?_ (fun hH2 => ?_)
        · exact ⟨cell_later hb hH1.1, cell_later hb hH1.2.1, cell_later hb hH1.2.2.1, cell_later hb hH1.2.2.2.1, cell_later hb hH1.2.2.2.2.1, cell_later hb hH1.2.2.2.2.2⟩
        clear hK K
        try simp only [Act.put, List.setIfInBounds_toArray, List.set_cons_zero, List.set_cons_succ]
        clear hb
        refine wpAnyH_take (i := 6) (oi := { dst := some 11, op := Go.Op.assign (Go.Operand.tmp 17), type := 3, pos := "ref.go:80", after := #[{ on := 2, ground := Go.Ground.data }, { on := 5, ground := Go.Ground.chain }, { on := 0, ground := Go.Ground.phase }, { on := 1, ground := Go.Ground.phase }, { on := 2, ground := Go.Ground.phase }, { on := 3, ground := Go.Ground.textOnly Go.Departure.lateStores }, { on := 4, ground := Go.Ground.textOnly Go.Departure.lateStores }, { on := 5, ground := Go.Ground.textOnly Go.Departure.lateStoresUnsure }], guard := none }) (v := ?vv29) rfl (by kernel_rfl) (by kernel_rfl) (by kernel_rfl) (fun _ _ _ h => h) (Or.inl ⟨by rfl, ?hy29⟩) (by assumption) ?rr29
        case hy29 => intro w hSw; (try dsimp only at hSw); go_simp; all_goals with_reducible rfl
        try simp only [Act.put, List.setIfInBounds_toArray, List.set_cons_zero, List.set_cons_succ]
        refine wpAnyH_take (i := 7) (oi := { dst := some 12, op := Go.Op.assign (Go.Operand.tmp 20), type := 3, pos := "ref.go:80", after := #[{ on := 5, ground := Go.Ground.data }, { on := 6, ground := Go.Ground.chain }, { on := 0, ground := Go.Ground.phase }, { on := 1, ground := Go.Ground.phase }, { on := 2, ground := Go.Ground.phase }, { on := 3, ground := Go.Ground.phase }, { on := 4, ground := Go.Ground.phase }, { on := 5, ground := Go.Ground.phase }, { on := 6, ground := Go.Ground.phase }], guard := none }) (v := ?vv30) rfl (by kernel_rfl) (by kernel_rfl) (by kernel_rfl) (fun _ _ _ h => h) (Or.inl ⟨by rfl, ?hy30⟩) (by assumption) ?rr30
        case hy30 => intro w hSw; (try dsimp only at hSw); go_simp; all_goals with_reducible rfl
        try simp only [Act.put, List.setIfInBounds_toArray, List.set_cons_zero, List.set_cons_succ]
        refine wpAnyH_done (by kernel_rfl) ?_ _
        have HB2 := hid (then_b HB0.out hbw2)
        have HP2 := hid (HP.out.later HB2.out)
        clear hbw1 hbw2 x0 x1 x2 y0 y1 y2
        have t0 := HP2.out.box.cell 0
        have t1 := HP2.out.box.cell 1
        simp only [List.getElem?_toArray, List.getElem?_cons_zero, List.getElem?_cons_succ] at t0 t1
        have tc := HP2.out.tow.cellAt i (by omega)
        have fc := HP2.out.frow.cellAt k (by omega)
        have tf := HP2.out.tow.frozenAt i
        have ff := HP2.out.frow.frozenAt k
        rw [List.getElem?_map, HX1.out] at tc
        rw [List.getElem?_map, HY1.out] at fc
        simp only [Option.map_some] at tc fc
        go_wp2_with fail
        go_ret
        exact ⟨.of_below HB2.out _ _, .inr ⟨rfl, rfl⟩⟩
  · have hneg : refI a.objs.length v < 0 ∨ refI b.objs.length u < 0 := by
      cases hv : refB a.objs.length v
      · left; unfold refI; rw [if_neg (by rw [hv]; decide)]; decide
      · cases hu : refB b.objs.length u
        · right; unfold refI; rw [if_neg (by rw [hu]; decide)]; decide
        · exact absurd ⟨hv, hu⟩ hvu
    have hpv : prV a b s v u = if nB v = true ∧ v = u then some s else none := by unfold prV; rw [if_neg hvu]
    rw [hpv]
    clear hpv hvu
    obtain ⟨ri, rv⟩ : ∃ ri, refI a.objs.length v = ri := ⟨_, rfl⟩
    obtain ⟨rk, ru⟩ : ∃ rk, refI b.objs.length u = rk := ⟨_, rfl⟩
    rw [rv, ru] at hneg
    cases hn : nB v
    · rw [if_neg fun c => by cases c.1]
      go_enter Tryz.func62, Tryz.ntmps62
      go_wp2_with fail
      obtain ⟨W, hW⟩ : ∃ W, W = ((w.alloc (.cells #[Value.slice A a.objs.length c, Value.int .i64 a.cap, Value.int .i64 a.last] 24)).alloc (.cells #[Value.slice B b.objs.length d, Value.int .i64 b.cap, Value.int .i64 b.last] 24)) := ⟨_, rfl⟩
      rw [← hW] at HB0 X0 Y0
      rw [← hW]
      clear hW
      have x0 := X0.out.cell 0
      have x1 := X0.out.cell 1
      have x2 := X0.out.cell 2
      have y0 := Y0.out.cell 0
      have y1 := Y0.out.cell 1
      have y2 := Y0.out.cell 2
      simp only [List.getElem?_toArray, List.getElem?_cons_zero, List.getElem?_cons_succ] at x0 x1 x2 y0 y1 y2
      refine wp_region_held_drew (S := (fun w' => w'.cell? ⟨w.heap.size, 0, none⟩ = some (.slice A a.objs.length c) ∧ w'.cell? ⟨w.heap.size, 1, none⟩ = some (.int .i64 a.cap) ∧ w'.cell? ⟨w.heap.size, 2, none⟩ = some (.int .i64 a.last) ∧ w'.cell? ⟨w.heap.size + 1, 0, none⟩ = some (.slice B b.objs.length d) ∧ w'.cell? ⟨w.heap.size + 1, 1, none⟩ = some (.int .i64 b.cap) ∧ w'.cell? ⟨w.heap.size + 1, 2, none⟩ = some (.int .i64 b.last))) (by kernel_rfl) ?_ (fun hH0 => ?_)
      · exact ⟨x0, x1, x2, y0, y1, y2⟩
      refine wpAnyH_take (i := 0) (oi := { dst := some 15, op := Go.Op.load 24 (Go.Operand.tmp 6), type := 24, pos := "ref.go:80", after := #[], guard := none }) (v := ?vv31) rfl (by kernel_rfl) (by kernel_rfl) (by kernel_rfl) (fun _ _ _ h => h) (Or.inl ⟨by rfl, ?hy31⟩) (by assumption) ?rr31
      case hy31 => intro w hSw; (try dsimp only at hSw); go_simp; all_goals with_reducible rfl
      try simp only [Act.put, List.setIfInBounds_toArray, List.set_cons_zero, List.set_cons_succ]
      refine wpAnyH_take (i := 1) (oi := { dst := some 16, op := Go.Op.move (Go.Operand.tmp 3), type := 3, pos := "ref.go:80", after := #[], guard := none }) (v := ?vv32) rfl (by kernel_rfl) (by kernel_rfl) (by kernel_rfl) (fun _ _ _ h => h) (Or.inl ⟨by rfl, ?hy32⟩) (by assumption) ?rr32
      case hy32 => intro w hSw; (try dsimp only at hSw); go_simp; all_goals with_reducible rfl
      try simp only [Act.put, List.setIfInBounds_toArray, List.set_cons_zero, List.set_cons_succ]
      refine wpAnyH_take (i := 3) (oi := { dst := some 18, op := Go.Op.load 24 (Go.Operand.tmp 7), type := 24, pos := "ref.go:80", after := #[], guard := none }) (v := ?vv33) rfl (by kernel_rfl) (by kernel_rfl) (by kernel_rfl) (fun _ _ _ h => h) (Or.inl ⟨by rfl, ?hy33⟩) (by assumption) ?rr33
      case hy33 => intro w hSw; (try dsimp only at hSw); go_simp; all_goals with_reducible rfl
      try simp only [Act.put, List.setIfInBounds_toArray, List.set_cons_zero, List.set_cons_succ]
      refine wpAnyH_take (i := 4) (oi := { dst := some 19, op := Go.Op.move (Go.Operand.tmp 4), type := 3, pos := "ref.go:80", after := #[], guard := none }) (v := ?vv34) rfl (by kernel_rfl) (by kernel_rfl) (by kernel_rfl) (fun _ _ _ h => h) (Or.inl ⟨by rfl, ?hy34⟩) (by assumption) ?rr34
      case hy34 => intro w hSw; (try dsimp only at hSw); go_simp; all_goals with_reducible rfl
      try simp only [Act.put, List.setIfInBounds_toArray, List.set_cons_zero, List.set_cons_succ]
      refine wpAnyH_ready (rs := [2]) (by kernel_rfl) (by simp) ?_
      refine AllReadyH.cons (i := 2) (o := { dst := some 17, op := Go.Op.call { callee := Go.Callee.value (Go.Operand.func 32), args := #[Go.Operand.tmp 15, Go.Operand.tmp 16], argTypes := #[24, 3] }, type := 3, pos := "ref.go:80", after := #[{ on := 0, ground := Go.Ground.data }, { on := 1, ground := Go.Ground.data }], guard := none }) rfl (fun K hK => ?_) AllReadyH.nil
      go_simp
      go_at_call 32
      refine (rref_any a v A c _).mono ?_
      rintro e w1 ⟨rfl, hb⟩
      rw [rv]
      have hbw1 : Below W.heap.size W w1 := then_b (Below.refl _ W).drew hb
      refine hK.out _ _ ?_ (fun hH1 => ?_)
      · exact ⟨cell_later hb hH0.1, cell_later hb hH0.2.1, cell_later hb hH0.2.2.1, cell_later hb hH0.2.2.2.1, cell_later hb hH0.2.2.2.2.1, cell_later hb hH0.2.2.2.2.2⟩
      clear hK K
      try simp only [Act.put, List.setIfInBounds_toArray, List.set_cons_zero, List.set_cons_succ]
      clear hb
      refine wpAnyH_ready (rs := [5]) (by kernel_rfl) (by simp) ?_
      refine AllReadyH.cons (i := 5) (o := { dst := some 20, op := Go.Op.call { callee := Go.Callee.value (Go.Operand.func 32), args := #[Go.Operand.tmp 18, Go.Operand.tmp 19], argTypes := #[24, 3] }, type := 3, pos := "ref.go:80", after := #[{ on := 3, ground := Go.Ground.data }, { on := 4, ground := Go.Ground.data }, { on := 2, ground := Go.Ground.chain }], guard := none }) rfl (fun K hK => ?_) AllReadyH.nil
      go_simp
      go_at_call 32
      refine (rref_any b u B d _).mono ?_
      rintro e w2 ⟨rfl, hb⟩
      rw [ru]
      have hbw2 : Below W.heap.size W w2 := then_b hbw1 hb
      refine hK.out _ _ ?_ (fun hH2 => ?_)
      · exact ⟨cell_later hb hH1.1, cell_later hb hH1.2.1, cell_later hb hH1.2.2.1, cell_later hb hH1.2.2.2.1, cell_later hb hH1.2.2.2.2.1, cell_later hb hH1.2.2.2.2.2⟩
      clear hK K
      try simp only [Act.put, List.setIfInBounds_toArray, List.set_cons_zero, List.set_cons_succ]
      clear hb
      refine wpAnyH_take (i := 6) (oi := { dst := some 11, op := Go.Op.assign (Go.Operand.tmp 17), type := 3, pos := "ref.go:80", after := #[{ on := 2, ground := Go.Ground.data }, { on := 5, ground := Go.Ground.chain }, { on := 0, ground := Go.Ground.phase }, { on := 1, ground := Go.Ground.phase }, { on := 2, ground := Go.Ground.phase }, { on := 3, ground := Go.Ground.textOnly Go.Departure.lateStores }, { on := 4, ground := Go.Ground.textOnly Go.Departure.lateStores }, { on := 5, ground := Go.Ground.textOnly Go.Departure.lateStoresUnsure }], guard := none }) (v := ?vv35) rfl (by kernel_rfl) (by kernel_rfl) (by kernel_rfl) (fun _ _ _ h => h) (Or.inl ⟨by rfl, ?hy35⟩) (by assumption) ?rr35
      case hy35 => intro w hSw; (try dsimp only at hSw); go_simp; all_goals with_reducible rfl
      try simp only [Act.put, List.setIfInBounds_toArray, List.set_cons_zero, List.set_cons_succ]
      refine wpAnyH_take (i := 7) (oi := { dst := some 12, op := Go.Op.assign (Go.Operand.tmp 20), type := 3, pos := "ref.go:80", after := #[{ on := 5, ground := Go.Ground.data }, { on := 6, ground := Go.Ground.chain }, { on := 0, ground := Go.Ground.phase }, { on := 1, ground := Go.Ground.phase }, { on := 2, ground := Go.Ground.phase }, { on := 3, ground := Go.Ground.phase }, { on := 4, ground := Go.Ground.phase }, { on := 5, ground := Go.Ground.phase }, { on := 6, ground := Go.Ground.phase }], guard := none }) (v := ?vv36) rfl (by kernel_rfl) (by kernel_rfl) (by kernel_rfl) (fun _ _ _ h => h) (Or.inl ⟨by rfl, ?hy36⟩) (by assumption) ?rr36
      case hy36 => intro w hSw; (try dsimp only at hSw); go_simp; all_goals with_reducible rfl
      try simp only [Act.put, List.setIfInBounds_toArray, List.set_cons_zero, List.set_cons_succ]
      refine wpAnyH_done (by kernel_rfl) ?_ _
      have HB2 := hid (then_b HB0.out hbw2)
      have HP2 := hid (HP.out.later HB2.out)
      clear hbw1 hbw2 x0 x1 x2 y0 y1 y2
      rcases Int.lt_or_le ri 0 with g | g
      · go_wp2_with (first | (go_at_call 67; refine (rn_any _ _).mono ?_; rintro e w3 ⟨rfl, rfl⟩; rw [hn]))
        go_ret
        exact ⟨.of_below HB2.out _ _, .inr ⟨rfl, rfl⟩⟩
      · have g2 : rk < 0 := by omega
        go_wp2_with (first | (go_at_call 67; refine (rn_any _ _).mono ?_; rintro e w3 ⟨rfl, rfl⟩; rw [hn]))
        go_ret
        exact ⟨.of_below HB2.out _ _, .inr ⟨rfl, rfl⟩⟩
    · by_cases hvu : v = u
      · rw [if_pos ⟨rfl, hvu⟩]
        have tvu : (v == u) = true := by simp [hvu]
        clear hvu
        go_enter Tryz.func62, Tryz.ntmps62
        go_wp2_with fail
        obtain ⟨W, hW⟩ : ∃ W, W = ((w.alloc (.cells #[Value.slice A a.objs.length c, Value.int .i64 a.cap, Value.int .i64 a.last] 24)).alloc (.cells #[Value.slice B b.objs.length d, Value.int .i64 b.cap, Value.int .i64 b.last] 24)) := ⟨_, rfl⟩
        rw [← hW] at HB0 X0 Y0
        rw [← hW]
        clear hW
        have x0 := X0.out.cell 0
        have x1 := X0.out.cell 1
        have x2 := X0.out.cell 2
        have y0 := Y0.out.cell 0
        have y1 := Y0.out.cell 1
        have y2 := Y0.out.cell 2
        simp only [List.getElem?_toArray, List.getElem?_cons_zero, List.getElem?_cons_succ] at x0 x1 x2 y0 y1 y2
        refine wp_region_held_drew (S := (fun w' => w'.cell? ⟨w.heap.size, 0, none⟩ = some (.slice A a.objs.length c) ∧ w'.cell? ⟨w.heap.size, 1, none⟩ = some (.int .i64 a.cap) ∧ w'.cell? ⟨w.heap.size, 2, none⟩ = some (.int .i64 a.last) ∧ w'.cell? ⟨w.heap.size + 1, 0, none⟩ = some (.slice B b.objs.length d) ∧ w'.cell? ⟨w.heap.size + 1, 1, none⟩ = some (.int .i64 b.cap) ∧ w'.cell? ⟨w.heap.size + 1, 2, none⟩ = some (.int .i64 b.last))) (by kernel_rfl) ?_ (fun hH0 => ?_)
        · exact ⟨x0, x1, x2, y0, y1, y2⟩
        refine wpAnyH_take (i := 0) (oi := { dst := some 15, op := Go.Op.load 24 (Go.Operand.tmp 6), type := 24, pos := "ref.go:80", after := #[], guard := none }) (v := ?vv37) rfl (by kernel_rfl) (by kernel_rfl) (by kernel_rfl) (fun _ _ _ h => h) (Or.inl ⟨by rfl, ?hy37⟩) (by assumption) ?rr37
        case hy37 => intro w hSw; (try dsimp only at hSw); go_simp; all_goals with_reducible rfl
        try simp only [Act.put, List.setIfInBounds_toArray, List.set_cons_zero, List.set_cons_succ]
        refine wpAnyH_take (i := 1) (oi := { dst := some 16, op := Go.Op.move (Go.Operand.tmp 3), type := 3, pos := "ref.go:80", after := #[], guard := none }) (v := ?vv38) rfl (by kernel_rfl) (by kernel_rfl) (by kernel_rfl) (fun _ _ _ h => h) (Or.inl ⟨by rfl, ?hy38⟩) (by assumption) ?rr38
        case hy38 => intro w hSw; (try dsimp only at hSw); go_simp; all_goals with_reducible rfl
        try simp only [Act.put, List.setIfInBounds_toArray, List.set_cons_zero, List.set_cons_succ]
        refine wpAnyH_take (i := 3) (oi := { dst := some 18, op := Go.Op.load 24 (Go.Operand.tmp 7), type := 24, pos := "ref.go:80", after := #[], guard := none }) (v := ?vv39) rfl (by kernel_rfl) (by kernel_rfl) (by kernel_rfl) (fun _ _ _ h => h) (Or.inl ⟨by rfl, ?hy39⟩) (by assumption) ?rr39
        case hy39 => intro w hSw; (try dsimp only at hSw); go_simp; all_goals with_reducible rfl
        try simp only [Act.put, List.setIfInBounds_toArray, List.set_cons_zero, List.set_cons_succ]
        refine wpAnyH_take (i := 4) (oi := { dst := some 19, op := Go.Op.move (Go.Operand.tmp 4), type := 3, pos := "ref.go:80", after := #[], guard := none }) (v := ?vv40) rfl (by kernel_rfl) (by kernel_rfl) (by kernel_rfl) (fun _ _ _ h => h) (Or.inl ⟨by rfl, ?hy40⟩) (by assumption) ?rr40
        case hy40 => intro w hSw; (try dsimp only at hSw); go_simp; all_goals with_reducible rfl
        try simp only [Act.put, List.setIfInBounds_toArray, List.set_cons_zero, List.set_cons_succ]
        refine wpAnyH_ready (rs := [2]) (by kernel_rfl) (by simp) ?_
        refine AllReadyH.cons (i := 2) (o := { dst := some 17, op := Go.Op.call { callee := Go.Callee.value (Go.Operand.func 32), args := #[Go.Operand.tmp 15, Go.Operand.tmp 16], argTypes := #[24, 3] }, type := 3, pos := "ref.go:80", after := #[{ on := 0, ground := Go.Ground.data }, { on := 1, ground := Go.Ground.data }], guard := none }) rfl (fun K hK => ?_) AllReadyH.nil
        go_simp
        go_at_call 32
        refine (rref_any a v A c _).mono ?_
        rintro e w1 ⟨rfl, hb⟩
        rw [rv]
        have hbw1 : Below W.heap.size W w1 := then_b (Below.refl _ W).drew hb
        refine hK.out _ _ ?_ (fun hH1 => ?_)
        · exact ⟨cell_later hb hH0.1, cell_later hb hH0.2.1, cell_later hb hH0.2.2.1, cell_later hb hH0.2.2.2.1, cell_later hb hH0.2.2.2.2.1, cell_later hb hH0.2.2.2.2.2⟩
        clear hK K
        try simp only [Act.put, List.setIfInBounds_toArray, List.set_cons_zero, List.set_cons_succ]
        clear hb
        refine wpAnyH_ready (rs := [5]) (by kernel_rfl) (by simp) ?_
        refine AllReadyH.cons (i := 5) (o := { dst := some 20, op := Go.Op.call { callee := Go.Callee.value (Go.Operand.func 32), args := #[Go.Operand.tmp 18, Go.Operand.tmp 19], argTypes := #[24, 3] }, type := 3, pos := "ref.go:80", after := #[{ on := 3, ground := Go.Ground.data }, { on := 4, ground := Go.Ground.data }, { on := 2, ground := Go.Ground.chain }], guard := none }) rfl (fun K hK => ?_) AllReadyH.nil
        go_simp
        go_at_call 32
        refine (rref_any b u B d _).mono ?_
        rintro e w2 ⟨rfl, hb⟩
        rw [ru]
        have hbw2 : Below W.heap.size W w2 := then_b hbw1 hb
        refine hK.out _ _ ?_ (fun hH2 => ?_)
        · exact ⟨cell_later hb hH1.1, cell_later hb hH1.2.1, cell_later hb hH1.2.2.1, cell_later hb hH1.2.2.2.1, cell_later hb hH1.2.2.2.2.1, cell_later hb hH1.2.2.2.2.2⟩
        clear hK K
        try simp only [Act.put, List.setIfInBounds_toArray, List.set_cons_zero, List.set_cons_succ]
        clear hb
        refine wpAnyH_take (i := 6) (oi := { dst := some 11, op := Go.Op.assign (Go.Operand.tmp 17), type := 3, pos := "ref.go:80", after := #[{ on := 2, ground := Go.Ground.data }, { on := 5, ground := Go.Ground.chain }, { on := 0, ground := Go.Ground.phase }, { on := 1, ground := Go.Ground.phase }, { on := 2, ground := Go.Ground.phase }, { on := 3, ground := Go.Ground.textOnly Go.Departure.lateStores }, { on := 4, ground := Go.Ground.textOnly Go.Departure.lateStores }, { on := 5, ground := Go.Ground.textOnly Go.Departure.lateStoresUnsure }], guard := none }) (v := ?vv41) rfl (by kernel_rfl) (by kernel_rfl) (by kernel_rfl) (fun _ _ _ h => h) (Or.inl ⟨by rfl, ?hy41⟩) (by assumption) ?rr41
        case hy41 => intro w hSw; (try dsimp only at hSw); go_simp; all_goals with_reducible rfl
        try simp only [Act.put, List.setIfInBounds_toArray, List.set_cons_zero, List.set_cons_succ]
        refine wpAnyH_take (i := 7) (oi := { dst := some 12, op := Go.Op.assign (Go.Operand.tmp 20), type := 3, pos := "ref.go:80", after := #[{ on := 5, ground := Go.Ground.data }, { on := 6, ground := Go.Ground.chain }, { on := 0, ground := Go.Ground.phase }, { on := 1, ground := Go.Ground.phase }, { on := 2, ground := Go.Ground.phase }, { on := 3, ground := Go.Ground.phase }, { on := 4, ground := Go.Ground.phase }, { on := 5, ground := Go.Ground.phase }, { on := 6, ground := Go.Ground.phase }], guard := none }) (v := ?vv42) rfl (by kernel_rfl) (by kernel_rfl) (by kernel_rfl) (fun _ _ _ h => h) (Or.inl ⟨by rfl, ?hy42⟩) (by assumption) ?rr42
        case hy42 => intro w hSw; (try dsimp only at hSw); go_simp; all_goals with_reducible rfl
        try simp only [Act.put, List.setIfInBounds_toArray, List.set_cons_zero, List.set_cons_succ]
        refine wpAnyH_done (by kernel_rfl) ?_ _
        have HB2 := hid (then_b HB0.out hbw2)
        have HP2 := hid (HP.out.later HB2.out)
        clear hbw1 hbw2 x0 x1 x2 y0 y1 y2
        rcases Int.lt_or_le ri 0 with g | g
        · go_wp2_with (first | (go_at_call 67; refine (rn_any _ _).mono ?_; rintro e w3 ⟨rfl, rfl⟩; rw [hn]))
          go_ret
          exact ⟨.of_below HB2.out _ _, .inl ⟨_, rfl, rfl, HP2.out⟩⟩
        · have g2 : rk < 0 := by omega
          go_wp2_with (first | (go_at_call 67; refine (rn_any _ _).mono ?_; rintro e w3 ⟨rfl, rfl⟩; rw [hn]))
          go_ret
          exact ⟨.of_below HB2.out _ _, .inl ⟨_, rfl, rfl, HP2.out⟩⟩
      · rw [if_neg fun c => hvu c.2]
        have tvu : (v == u) = false := by simpa using hvu
        clear hvu
        go_enter Tryz.func62, Tryz.ntmps62
        go_wp2_with fail
        obtain ⟨W, hW⟩ : ∃ W, W = ((w.alloc (.cells #[Value.slice A a.objs.length c, Value.int .i64 a.cap, Value.int .i64 a.last] 24)).alloc (.cells #[Value.slice B b.objs.length d, Value.int .i64 b.cap, Value.int .i64 b.last] 24)) := ⟨_, rfl⟩
        rw [← hW] at HB0 X0 Y0
        rw [← hW]
        clear hW
        have x0 := X0.out.cell 0
        have x1 := X0.out.cell 1
        have x2 := X0.out.cell 2
        have y0 := Y0.out.cell 0
        have y1 := Y0.out.cell 1
        have y2 := Y0.out.cell 2
        simp only [List.getElem?_toArray, List.getElem?_cons_zero, List.getElem?_cons_succ] at x0 x1 x2 y0 y1 y2
        refine wp_region_held_drew (S := (fun w' => w'.cell? ⟨w.heap.size, 0, none⟩ = some (.slice A a.objs.length c) ∧ w'.cell? ⟨w.heap.size, 1, none⟩ = some (.int .i64 a.cap) ∧ w'.cell? ⟨w.heap.size, 2, none⟩ = some (.int .i64 a.last) ∧ w'.cell? ⟨w.heap.size + 1, 0, none⟩ = some (.slice B b.objs.length d) ∧ w'.cell? ⟨w.heap.size + 1, 1, none⟩ = some (.int .i64 b.cap) ∧ w'.cell? ⟨w.heap.size + 1, 2, none⟩ = some (.int .i64 b.last))) (by kernel_rfl) ?_ (fun hH0 => ?_)
        · exact ⟨x0, x1, x2, y0, y1, y2⟩
        refine wpAnyH_take (i := 0) (oi := { dst := some 15, op := Go.Op.load 24 (Go.Operand.tmp 6), type := 24, pos := "ref.go:80", after := #[], guard := none }) (v := ?vv43) rfl (by kernel_rfl) (by kernel_rfl) (by kernel_rfl) (fun _ _ _ h => h) (Or.inl ⟨by rfl, ?hy43⟩) (by assumption) ?rr43
        case hy43 => intro w hSw; (try dsimp only at hSw); go_simp; all_goals with_reducible rfl
        try simp only [Act.put, List.setIfInBounds_toArray, List.set_cons_zero, List.set_cons_succ]
        refine wpAnyH_take (i := 1) (oi := { dst := some 16, op := Go.Op.move (Go.Operand.tmp 3), type := 3, pos := "ref.go:80", after := #[], guard := none }) (v := ?vv44) rfl (by kernel_rfl) (by kernel_rfl) (by kernel_rfl) (fun _ _ _ h => h) (Or.inl ⟨by rfl, ?hy44⟩) (by assumption) ?rr44
        case hy44 => intro w hSw; (try dsimp only at hSw); go_simp; all_goals with_reducible rfl
        try simp only [Act.put, List.setIfInBounds_toArray, List.set_cons_zero, List.set_cons_succ]
        refine wpAnyH_take (i := 3) (oi := { dst := some 18, op := Go.Op.load 24 (Go.Operand.tmp 7), type := 24, pos := "ref.go:80", after := #[], guard := none }) (v := ?vv45) rfl (by kernel_rfl) (by kernel_rfl) (by kernel_rfl) (fun _ _ _ h => h) (Or.inl ⟨by rfl, ?hy45⟩) (by assumption) ?rr45
        case hy45 => intro w hSw; (try dsimp only at hSw); go_simp; all_goals with_reducible rfl
        try simp only [Act.put, List.setIfInBounds_toArray, List.set_cons_zero, List.set_cons_succ]
        refine wpAnyH_take (i := 4) (oi := { dst := some 19, op := Go.Op.move (Go.Operand.tmp 4), type := 3, pos := "ref.go:80", after := #[], guard := none }) (v := ?vv46) rfl (by kernel_rfl) (by kernel_rfl) (by kernel_rfl) (fun _ _ _ h => h) (Or.inl ⟨by rfl, ?hy46⟩) (by assumption) ?rr46
        case hy46 => intro w hSw; (try dsimp only at hSw); go_simp; all_goals with_reducible rfl
        try simp only [Act.put, List.setIfInBounds_toArray, List.set_cons_zero, List.set_cons_succ]
        refine wpAnyH_ready (rs := [2]) (by kernel_rfl) (by simp) ?_
        refine AllReadyH.cons (i := 2) (o := { dst := some 17, op := Go.Op.call { callee := Go.Callee.value (Go.Operand.func 32), args := #[Go.Operand.tmp 15, Go.Operand.tmp 16], argTypes := #[24, 3] }, type := 3, pos := "ref.go:80", after := #[{ on := 0, ground := Go.Ground.data }, { on := 1, ground := Go.Ground.data }], guard := none }) rfl (fun K hK => ?_) AllReadyH.nil
        go_simp
        go_at_call 32
        refine (rref_any a v A c _).mono ?_
        rintro e w1 ⟨rfl, hb⟩
        rw [rv]
        have hbw1 : Below W.heap.size W w1 := then_b (Below.refl _ W).drew hb
        refine hK.out _ _ ?_ (fun hH1 => ?_)
        · exact ⟨cell_later hb hH0.1, cell_later hb hH0.2.1, cell_later hb hH0.2.2.1, cell_later hb hH0.2.2.2.1, cell_later hb hH0.2.2.2.2.1, cell_later hb hH0.2.2.2.2.2⟩
        clear hK K
        try simp only [Act.put, List.setIfInBounds_toArray, List.set_cons_zero, List.set_cons_succ]
        clear hb
        refine wpAnyH_ready (rs := [5]) (by kernel_rfl) (by simp) ?_
        refine AllReadyH.cons (i := 5) (o := { dst := some 20, op := Go.Op.call { callee := Go.Callee.value (Go.Operand.func 32), args := #[Go.Operand.tmp 18, Go.Operand.tmp 19], argTypes := #[24, 3] }, type := 3, pos := "ref.go:80", after := #[{ on := 3, ground := Go.Ground.data }, { on := 4, ground := Go.Ground.data }, { on := 2, ground := Go.Ground.chain }], guard := none }) rfl (fun K hK => ?_) AllReadyH.nil
        go_simp
        go_at_call 32
        refine (rref_any b u B d _).mono ?_
        rintro e w2 ⟨rfl, hb⟩
        rw [ru]
        have hbw2 : Below W.heap.size W w2 := then_b hbw1 hb
        refine hK.out _ _ ?_ (fun hH2 => ?_)
        · exact ⟨cell_later hb hH1.1, cell_later hb hH1.2.1, cell_later hb hH1.2.2.1, cell_later hb hH1.2.2.2.1, cell_later hb hH1.2.2.2.2.1, cell_later hb hH1.2.2.2.2.2⟩
        clear hK K
        try simp only [Act.put, List.setIfInBounds_toArray, List.set_cons_zero, List.set_cons_succ]
        clear hb
        refine wpAnyH_take (i := 6) (oi := { dst := some 11, op := Go.Op.assign (Go.Operand.tmp 17), type := 3, pos := "ref.go:80", after := #[{ on := 2, ground := Go.Ground.data }, { on := 5, ground := Go.Ground.chain }, { on := 0, ground := Go.Ground.phase }, { on := 1, ground := Go.Ground.phase }, { on := 2, ground := Go.Ground.phase }, { on := 3, ground := Go.Ground.textOnly Go.Departure.lateStores }, { on := 4, ground := Go.Ground.textOnly Go.Departure.lateStores }, { on := 5, ground := Go.Ground.textOnly Go.Departure.lateStoresUnsure }], guard := none }) (v := ?vv47) rfl (by kernel_rfl) (by kernel_rfl) (by kernel_rfl) (fun _ _ _ h => h) (Or.inl ⟨by rfl, ?hy47⟩) (by assumption) ?rr47
        case hy47 => intro w hSw; (try dsimp only at hSw); go_simp; all_goals with_reducible rfl
        try simp only [Act.put, List.setIfInBounds_toArray, List.set_cons_zero, List.set_cons_succ]
        refine wpAnyH_take (i := 7) (oi := { dst := some 12, op := Go.Op.assign (Go.Operand.tmp 20), type := 3, pos := "ref.go:80", after := #[{ on := 5, ground := Go.Ground.data }, { on := 6, ground := Go.Ground.chain }, { on := 0, ground := Go.Ground.phase }, { on := 1, ground := Go.Ground.phase }, { on := 2, ground := Go.Ground.phase }, { on := 3, ground := Go.Ground.phase }, { on := 4, ground := Go.Ground.phase }, { on := 5, ground := Go.Ground.phase }, { on := 6, ground := Go.Ground.phase }], guard := none }) (v := ?vv48) rfl (by kernel_rfl) (by kernel_rfl) (by kernel_rfl) (fun _ _ _ h => h) (Or.inl ⟨by rfl, ?hy48⟩) (by assumption) ?rr48
        case hy48 => intro w hSw; (try dsimp only at hSw); go_simp; all_goals with_reducible rfl
        try simp only [Act.put, List.setIfInBounds_toArray, List.set_cons_zero, List.set_cons_succ]
        refine wpAnyH_done (by kernel_rfl) ?_ _
        have HB2 := hid (then_b HB0.out hbw2)
        have HP2 := hid (HP.out.later HB2.out)
        clear hbw1 hbw2 x0 x1 x2 y0 y1 y2
        rcases Int.lt_or_le ri 0 with g | g
        · go_wp2_with (first | (go_at_call 67; refine (rn_any _ _).mono ?_; rintro e w3 ⟨rfl, rfl⟩; rw [hn]))
          go_ret
          exact ⟨.of_below HB2.out _ _, .inr ⟨rfl, rfl⟩⟩
        · have g2 : rk < 0 := by omega
          go_wp2_with (first | (go_at_call 67; refine (rn_any _ _).mono ?_; rintro e w3 ⟨rfl, rfl⟩; rw [hn]))
          go_ret
          exact ⟨.of_below HB2.out _ _, .inr ⟨rfl, rfl⟩⟩
end Go.Proofs.YtnilempeldlieaaGreat
