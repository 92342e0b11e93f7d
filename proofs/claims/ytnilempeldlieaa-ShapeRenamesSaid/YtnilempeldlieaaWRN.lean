/- The document's Renamed walked: objects change places, one by one. -/
import Derived.Test.YtnilempeldlieaaM19
import Derived.Test.YtnilempeldlieaaM04
import Derived.Test.YtnilempeldlieaaM09
import Derived.Test.YtnilempeldlieaaM03
import Derived.Deep.OwnRows
namespace Go.Proofs.Ytnilempeldlieaa
open Go.RowKit
set_option maxRecDepth 100000
theorem two_old3 {w : World} {p : Addr} {v : Value} {o1 o2 : Obj} (h : w.cell? p = some v) : ((w.alloc o1).alloc o2).drew.cell? p = some v := cell_later (Below.refl _ _).drew (cell_old (cell_old h))
def zLO : LO := ⟨default, none, 0⟩
def zrow (n : Nat) : Array Value := madeCells #[.int .i64 0, .int .i64 0, .slice none 0 0, .string ⟨#[]⟩, .int .i64 0, .int .i64 0] (n * 6)
theorem zrow_size (n : Nat) : (zrow n).size = n * 6 := size_madeCells _ _
theorem zrow_list (n : Nat) : (zrow n).toList = rowOf (List.replicate n zLO) := by
  apply List.ext_getElem?
  intro j
  by_cases hj : j < n * 6
  · have h1 : j / 6 < (List.replicate n zLO).length := by rw [List.length_replicate]; omega
    have e := rowOf_get (List.replicate n zLO) (j / 6) (j % 6) _ (List.getElem?_eq_getElem h1) (by omega)
    rw [show j / 6 * 6 + j % 6 = j by omega] at e
    rw [e, List.getElem_replicate]
    have hz : (zrow n)[j]? = (#[Value.int .i64 0, .int .i64 0, .slice none 0 0, .string ⟨#[]⟩, .int .i64 0, .int .i64 0] : Array Value)[j % 6]? := by
      have h6 : j % 6 < 6 := by omega
      unfold zrow madeCells
      simp only [Array.getElem?_map, Array.getElem?_range, hj, if_true, Option.map_some]
      show some _ = _
      rw [Array.getElem?_eq_getElem (by simpa using h6)]
      congr 1
      exact getElem!_pos _ _ (by simpa using h6)
    rw [← Array.getElem?_toList] at hz
    rw [hz]
    have hr : j % 6 = 0 ∨ j % 6 = 1 ∨ j % 6 = 2 ∨ j % 6 = 3 ∨ j % 6 = 4 ∨ j % 6 = 5 := by omega
    rcases hr with r | r | r | r | r | r <;> rw [r] <;> rfl
  · rw [List.getElem?_eq_none (by rw [Array.length_toList, zrow_size]; omega), List.getElem?_eq_none (by rw [rowOf_length, List.length_replicate]; omega)]
theorem zown {w : World} {base g c n : Nat} (h : w.ownsRow base 39 6 (.slice (some ⟨g, 0, none⟩) n c) n (rowOf (List.replicate n zLO))) : OwnH w base (some ⟨g, 0, none⟩) c (List.replicate n zLO) := by
  have hz : ∀ (i : Nat) (l : LO), (List.replicate n zLO)[i]? = some l → l = zLO := fun i l hl => List.eq_of_mem_replicate (List.mem_of_getElem? hl)
  refine ⟨by rw [List.length_replicate]; exact h, fun i l hl => ?_, fun i j li lj a b hi hj _ ha => ?_⟩
  · obtain rfl := hz i l hl
    exact World.ownsRow_nil _ _ _ _
  · obtain rfl := hz i li hi
    cases ha
theorem rowOf_put (ls : List LO) (k : Nat) (l : LO) (hk : k < ls.length) : rowOf (ls.set k l) = ((((((rowOf ls).set (k * 6) (.int .i64 l.o.cls)).set (k * 6 + 1) (.int .i64 l.o.kind)).set (k * 6 + 2) (.slice l.S l.o.slots.length l.c)).set (k * 6 + 3) (.string l.o.text)).set (k * 6 + 4) (.int .i64 l.o.bits)).set (k * 6 + 5) (.int .i64 l.o.hash) := by
  apply List.ext_getElem?
  intro j
  rw [rowOf_upd ls k l hk]
  simp only [List.getElem?_set, List.length_set, rowOf_length]
  by_cases e : j / 6 = k
  · rw [if_pos e]
    have hr : j % 6 = 0 ∨ j % 6 = 1 ∨ j % 6 = 2 ∨ j % 6 = 3 ∨ j % 6 = 4 ∨ j % 6 = 5 := by omega
    rcases hr with r | r | r | r | r | r <;> rw [r]
    · rw [if_neg (by omega), if_neg (by omega), if_neg (by omega), if_neg (by omega), if_neg (by omega), if_pos (by omega), if_pos (by omega)]; rfl
    · rw [if_neg (by omega), if_neg (by omega), if_neg (by omega), if_neg (by omega), if_pos (by omega), if_pos (by omega)]; rfl
    · rw [if_neg (by omega), if_neg (by omega), if_neg (by omega), if_pos (by omega), if_pos (by omega)]; rfl
    · rw [if_neg (by omega), if_neg (by omega), if_pos (by omega), if_pos (by omega)]; rfl
    · rw [if_neg (by omega), if_pos (by omega), if_pos (by omega)]; rfl
    · rw [if_pos (by omega), if_pos (by omega)]; rfl
  · rw [if_neg e, if_neg (by omega), if_neg (by omega), if_neg (by omega), if_neg (by omega), if_neg (by omega), if_neg (by omega)]
theorem OwnH.put {w : World} {base b g c n : Nat} {ls : List LO} (h : OwnH w base (some ⟨g, 0, none⟩) c ls) (k : Nat) (hk : k < ls.length) (l : LO) (hl : w.ownsRow b 3 1 (.slice l.S l.o.slots.length l.c) l.o.slots.length (l.o.slots.map (Value.int .i64))) (hb : base ≤ b)
    (hnew : ∀ (i : Nat) (li : LO) (a : Addr), ls[i]? = some li → li.S = some a → a.block < b) (hn : n = k * 6) :
    OwnH ((((((w.setCell ⟨g, n, none⟩ (.int .i64 l.o.cls)).setCell ⟨g, n + 1, none⟩ (.int .i64 l.o.kind)).setCell ⟨g, n + 2, none⟩ (.slice l.S l.o.slots.length l.c)).setCell ⟨g, n + 3, none⟩ (.string l.o.text)).setCell ⟨g, n + 4, none⟩ (.int .i64 l.o.bits)).setCell ⟨g, n + 5, none⟩ (.int .i64 l.o.hash)) base (some ⟨g, 0, none⟩) c (ls.set k l) := by
  subst hn
  have G : w.grownBy ((((((w.setCell ⟨g, k * 6, none⟩ (.int .i64 l.o.cls)).setCell ⟨g, k * 6 + 1, none⟩ (.int .i64 l.o.kind)).setCell ⟨g, k * 6 + 2, none⟩ (.slice l.S l.o.slots.length l.c)).setCell ⟨g, k * 6 + 3, none⟩ (.string l.o.text)).setCell ⟨g, k * 6 + 4, none⟩ (.int .i64 l.o.bits)).setCell ⟨g, k * 6 + 5, none⟩ (.int .i64 l.o.hash)) (some g) :=
    (((((grown_set w ⟨g, k * 6, none⟩ _).trans (grown_set _ ⟨g, k * 6 + 1, none⟩ _)).trans (grown_set _ ⟨g, k * 6 + 2, none⟩ _)).trans (grown_set _ ⟨g, k * 6 + 3, none⟩ _)).trans (grown_set _ ⟨g, k * 6 + 4, none⟩ _)).trans (grown_set _ ⟨g, k * 6 + 5, none⟩ _)
  obtain ⟨cur, hB, _, _, _⟩ := own_blk (b := g) (o := 0) (s := none) h.row
  refine ⟨?_, fun i m hm => ?_, fun i j li lj a b' hi hj hij ha hb' => ?_⟩
  · rw [List.length_set, rowOf_put ls k l hk]
    exact ((((((h.row.stored (k * 6) (.int .i64 l.o.cls)).1.stored (k * 6 + 1) (.int .i64 l.o.kind)).1.stored (k * 6 + 2) (.slice l.S l.o.slots.length l.c)).1.stored (k * 6 + 3) (.string l.o.text)).1.stored (k * 6 + 4) (.int .i64 l.o.bits)).1.stored (k * 6 + 5) (.int .i64 l.o.hash)).1
  · rcases set_get hm with ⟨_, rfl⟩ | ⟨_, hm2⟩
    · exact own_lower (hl.kept G (.inr (own_blk_ne hl hB (by decide)))) hb
    · have h3 := h.ints i m hm2
      exact h3.kept G (.inr (own_blk_ne h3 hB (by decide)))
  · have hlb : ∀ a, l.S = some a → b ≤ a.block := fun a ha => by
      rw [ha] at hl
      exact (hl.lt a.block rfl).1
    rcases set_get hi with ⟨e1, rfl⟩ | ⟨e1, hi2⟩ <;> rcases set_get hj with ⟨e2, rfl⟩ | ⟨e2, hj2⟩
    · omega
    · have := hnew j lj b' hj2 hb'
      have := hlb a ha
      omega
    · have := hnew i li a hi2 ha
      have := hlb b' hb'
      omega
    · exact h.apart i j li lj a b' hi2 hj2 hij ha hb'
theorem far6c {w : World} {g g' o n : Nat} {u v0 v1 v2 v3 v4 v5 : Value} (hne : g' ≠ g) (h : w.cell? ⟨g', o, none⟩ = some u) :
    ((((((w.setCell ⟨g, n, none⟩ v0).setCell ⟨g, n + 1, none⟩ v1).setCell ⟨g, n + 2, none⟩ v2).setCell ⟨g, n + 3, none⟩ v3).setCell ⟨g, n + 4, none⟩ v4).setCell ⟨g, n + 5, none⟩ v5).cell? ⟨g', o, none⟩ = some u :=
  far_cell5 hne (far_cell5 hne (far_cell5 hne (far_cell5 hne (far_cell5 hne (far_cell5 hne h)))))
theorem far6d {w : World} {g g' o n : Nat} {u v0 v1 v2 v3 v4 v5 : Value} (hne : g' ≠ g) (h : w.drew.cell? ⟨g', o, none⟩ = some u) :
    ((((((w.setCell ⟨g, n, none⟩ v0).setCell ⟨g, n + 1, none⟩ v1).setCell ⟨g, n + 2, none⟩ v2).setCell ⟨g, n + 3, none⟩ v3).setCell ⟨g, n + 4, none⟩ v4).setCell ⟨g, n + 5, none⟩ v5).drew.cell? ⟨g', o, none⟩ = some u :=
  cell_later (Below.refl _ _).drew (far6c hne (show w.cell? ⟨g', o, none⟩ = some u from h))
theorem map_set_o (ls : List LO) (k : Nat) (l : LO) : (ls.set k l).map (·.o) = (ls.map (·.o)).set k l.o := by rw [List.map_set]
set_option maxHeartbeats 2000000 in
theorem renamed_any (h : Hp) (pm : List Int) (A B : Option Addr) (c d : Nat) (w : World) (hs : ObsR w A h.objs) (hm : mayB h = true) (hp : IntsR w B pm) (P : PermL pm h.objs.length) :
    Calls Try.prog 26 #[.agg #[.slice A h.objs.length c, .int .i64 h.cap, .int .i64 h.last], .slice B pm.length d] w (HeapOwn w ⟨rnK h pm h.objs.length, h.cap, h.last⟩) := by
  have HB0 := hid (below_alloc2 w (.cells #[Value.slice A h.objs.length c, Value.int .i64 h.cap, Value.int .i64 h.last] 24) (.cells #[.slice none 0 0, .int .i64 0, .int .i64 0] 24))
  have X0 := hid ((Lies.new w 24 #[Value.slice A h.objs.length c, Value.int .i64 h.cap, Value.int .i64 h.last]).alloc (.cells #[.slice none 0 0, .int .i64 0, .int .i64 0] 24))
  have K0 : Hid (Lies ((w.alloc (.cells #[Value.slice A h.objs.length c, Value.int .i64 h.cap, Value.int .i64 h.last] 24)).alloc (.cells #[.slice none 0 0, .int .i64 0, .int .i64 0] 24)) (w.heap.size + 1) 24 #[.slice none 0 0, .int .i64 0, .int .i64 0]) := by
    have := Lies.new (w.alloc (.cells #[Value.slice A h.objs.length c, Value.int .i64 h.cap, Value.int .i64 h.last] 24)) 24 #[.slice none 0 0, .int .i64 0, .int .i64 0]
    simpa [Hid] using this
  have HS := hid hs
  have HM := hid hm
  have HP := hid hp
  have HPL := hid P
  have hle := may_len hm
  have hpl1 := Nat.le_of_eq P.1
  have hpl2 := Nat.le_of_eq P.1.symm
  have HPM : Hid (∀ x ∈ pm, 0 ≤ x ∧ x ≤ 256) := fun x hx => by have := (count_one _ pm (Nat.le_of_eq P.1) P.2).2 x hx; omega
  have hmk : ∀ w : World, (Instr.makeSlice 22 (.int .i64 (h.objs.length : Int)) (.int .i64 (h.objs.length : Int))).run Try.prog w = .ok (.slice (some ⟨w.heap.size, 0, none⟩) h.objs.length h.objs.length) (w.alloc (.cells (zrow h.objs.length) 39)) := fun w => by
    obtain ⟨j0, hj, hy0, hy1, hy2⟩ := info_parts obj_info
    have := run_make (P := Try.prog) w 22 39 j0 _ Try.underlying22 hj hy0 .i64 .i64 (h.objs.length : Int) (h.objs.length : Int) (by omega) (Int.le_refl _) (by rw [hy2]; omega) (by omega)
    rw [hy1] at this
    simpa [zrow, Value.cells] using this
  clear hs hm hp P
  go_enter Try.func26, Try.ntmps26
  go_wp2_with fail
  obtain ⟨wa, hwa⟩ : ∃ wa, wa = (w.alloc (.cells #[Value.slice A h.objs.length c, Value.int .i64 h.cap, Value.int .i64 h.last] 24)).alloc (.cells #[.slice none 0 0, .int .i64 0, .int .i64 0] 24) := ⟨_, rfl⟩
  rw [← hwa] at HB0 X0 K0
  rw [← hwa]
  clear hwa
  have x0 := X0.out.cell 0
  have x1 := X0.out.cell 1
  have x2 := X0.out.cell 2
  simp only [List.getElem?_toArray, List.getElem?_cons_zero, List.getElem?_cons_succ] at x0 x1 x2
  refine wp_region_held_drew (S := (fun w' => w'.cell? ⟨w.heap.size, 0, none⟩ = some (.slice A h.objs.length c) ∧ w'.cell? ⟨w.heap.size, 1, none⟩ = some (.int .i64 h.cap) ∧ w'.cell? ⟨w.heap.size, 2, none⟩ = some (.int .i64 h.last))) (by kernel_rfl) ?_ (fun hH0 => ?_)
  · exact ⟨x0, x1, x2⟩
  refine wpAnyH_take (i := 0) (oi := { dst := some 8, op := Go.Op.fieldAddr 24 (Go.Operand.tmp 2) 1, type := 0, pos := "ref.go:143", after := #[], guard := none }) (v := ?vv1) rfl (by kernel_rfl) (by kernel_rfl) (by kernel_rfl) (fun _ _ _ h => h) (Or.inl ⟨by rfl, ?hy1⟩) (by assumption) ?rr1
  case hy1 => intro w hSw; (try dsimp only at hSw); go_simp; all_goals with_reducible rfl
  try simp only [Act.put, List.setIfInBounds_toArray, List.set_cons_zero, List.set_cons_succ]
  refine wpAnyH_take (i := 1) (oi := { dst := some 9, op := Go.Op.load 3 (Go.Operand.tmp 8), type := 3, pos := "ref.go:143", after := #[{ on := 0, ground := Go.Ground.data }], guard := none }) (v := ?vv2) rfl (by kernel_rfl) (by kernel_rfl) (by kernel_rfl) (fun _ _ _ h => h) (Or.inl ⟨by rfl, ?hy2⟩) (by assumption) ?rr2
  case hy2 => intro w hSw; (try dsimp only at hSw); go_simp; all_goals with_reducible rfl
  try simp only [Act.put, List.setIfInBounds_toArray, List.set_cons_zero, List.set_cons_succ]
  refine wpAnyH_take (i := 2) (oi := { dst := some 10, op := Go.Op.fieldAddr 24 (Go.Operand.tmp 2) 2, type := 0, pos := "ref.go:143", after := #[], guard := none }) (v := ?vv3) rfl (by kernel_rfl) (by kernel_rfl) (by kernel_rfl) (fun _ _ _ h => h) (Or.inl ⟨by rfl, ?hy3⟩) (by assumption) ?rr3
  case hy3 => intro w hSw; (try dsimp only at hSw); go_simp; all_goals with_reducible rfl
  try simp only [Act.put, List.setIfInBounds_toArray, List.set_cons_zero, List.set_cons_succ]
  refine wpAnyH_take (i := 3) (oi := { dst := some 11, op := Go.Op.load 3 (Go.Operand.tmp 10), type := 3, pos := "ref.go:143", after := #[{ on := 2, ground := Go.Ground.data }], guard := none }) (v := ?vv4) rfl (by kernel_rfl) (by kernel_rfl) (by kernel_rfl) (fun _ _ _ h => h) (Or.inl ⟨by rfl, ?hy4⟩) (by assumption) ?rr4
  case hy4 => intro w hSw; (try dsimp only at hSw); go_simp; all_goals with_reducible rfl
  try simp only [Act.put, List.setIfInBounds_toArray, List.set_cons_zero, List.set_cons_succ]
  refine wpAnyH_take (i := 4) (oi := { dst := some 12, op := Go.Op.fieldAddr 24 (Go.Operand.tmp 2) 0, type := 0, pos := "ref.go:143", after := #[], guard := none }) (v := ?vv5) rfl (by kernel_rfl) (by kernel_rfl) (by kernel_rfl) (fun _ _ _ h => h) (Or.inl ⟨by rfl, ?hy5⟩) (by assumption) ?rr5
  case hy5 => intro w hSw; (try dsimp only at hSw); go_simp; all_goals with_reducible rfl
  try simp only [Act.put, List.setIfInBounds_toArray, List.set_cons_zero, List.set_cons_succ]
  refine wpAnyH_take (i := 5) (oi := { dst := some 13, op := Go.Op.load 22 (Go.Operand.tmp 12), type := 22, pos := "ref.go:143", after := #[{ on := 4, ground := Go.Ground.data }], guard := none }) (v := ?vv6) rfl (by kernel_rfl) (by kernel_rfl) (by kernel_rfl) (fun _ _ _ h => h) (Or.inl ⟨by rfl, ?hy6⟩) (by assumption) ?rr6
  case hy6 => intro w hSw; (try dsimp only at hSw); go_simp; all_goals with_reducible rfl
  try simp only [Act.put, List.setIfInBounds_toArray, List.set_cons_zero, List.set_cons_succ]
  refine wpAnyH_take (i := 6) (oi := { dst := some 14, op := Go.Op.call { callee := Go.Callee.builtin Go.Builtin.len, args := #[Go.Operand.tmp 13], argTypes := #[22] }, type := 3, pos := "ref.go:143", after := #[{ on := 5, ground := Go.Ground.data }], guard := none }) (v := ?vv7) rfl (by kernel_rfl) (by kernel_rfl) (by kernel_rfl) (fun _ _ _ h => h) (Or.inl ⟨by rfl, ?hy7⟩) (by assumption) ?rr7
  case hy7 => intro w hSw; (try dsimp only at hSw); go_simp; all_goals with_reducible rfl
  try simp only [Act.put, List.setIfInBounds_toArray, List.set_cons_zero, List.set_cons_succ]
  refine wpAnyH_ready (rs := [7, 9]) (by kernel_rfl) (by simp) ?_
  refine AllReadyH.cons (i := 7) (o := { dst := some 15, op := Go.Op.makeSlice 22 (Go.Operand.tmp 14) (Go.Operand.tmp 14), type := 22, pos := "ref.go:143", after := #[{ on := 6, ground := Go.Ground.data }, { on := 6, ground := Go.Ground.data }], guard := none }) rfl (fun K hK => ?_) (AllReadyH.cons (i := 9) (o := { dst := some 5, op := Go.Op.alloc 24, type := 0, pos := "ref.go:143", after := #[], guard := none }) rfl (fun K hK => ?_) AllReadyH.nil)
  · go_simp
    refine hK.out _ _ ?_ (fun hH1 => ?_)
    · exact ⟨cell_old hH0.1, cell_old hH0.2.1, cell_old hH0.2.2⟩
    clear hK K
    try simp only [Act.put, List.setIfInBounds_toArray, List.set_cons_zero, List.set_cons_succ]
    refine wpAnyH_take (i := 8) (oi := { dst := some 16, op := Go.Op.build 24 #[(1, Go.Operand.tmp 9), (2, Go.Operand.tmp 11), (0, Go.Operand.tmp 15)], type := 24, pos := "ref.go:143", after := #[{ on := 1, ground := Go.Ground.data }, { on := 3, ground := Go.Ground.data }, { on := 7, ground := Go.Ground.data }], guard := none }) (v := ?vv8) rfl (by kernel_rfl) (by kernel_rfl) (by kernel_rfl) (fun _ _ _ h => h) (Or.inl ⟨by rfl, ?hy8⟩) (by assumption) ?rr8
    case hy8 => intro w hSw; (try dsimp only at hSw); go_simp; all_goals with_reducible rfl
    try simp only [Act.put, List.setIfInBounds_toArray, List.set_cons_zero, List.set_cons_succ]
    refine wpAnyH_ready (rs := [9]) (by kernel_rfl) (by simp) ?_
    refine AllReadyH.cons (i := 9) (o := { dst := some 5, op := Go.Op.alloc 24, type := 0, pos := "ref.go:143", after := #[], guard := none }) rfl (fun K hK => ?_) AllReadyH.nil
    go_simp
    refine hK.out _ _ ?_ (fun hH2 => ?_)
    · exact ⟨cell_old hH1.1, cell_old hH1.2.1, cell_old hH1.2.2⟩
    clear hK K
    try simp only [Act.put, List.setIfInBounds_toArray, List.set_cons_zero, List.set_cons_succ]
    refine wpAnyH_ready (rs := [10]) (by kernel_rfl) (by simp) ?_
    refine AllReadyH.cons (i := 10) (o := { dst := none, op := Go.Op.store 24 (Go.Operand.tmp 5) (Go.Operand.tmp 16), type := 0, pos := "ref.go:143", after := #[{ on := 9, ground := Go.Ground.data }, { on := 8, ground := Go.Ground.data }, { on := 0, ground := Go.Ground.phase }, { on := 1, ground := Go.Ground.phase }, { on := 2, ground := Go.Ground.phase }, { on := 3, ground := Go.Ground.phase }, { on := 4, ground := Go.Ground.phase }, { on := 5, ground := Go.Ground.phase }, { on := 6, ground := Go.Ground.phase }, { on := 7, ground := Go.Ground.phase }, { on := 8, ground := Go.Ground.phase }, { on := 9, ground := Go.Ground.phase }], guard := none }) rfl (fun K hK => ?_) AllReadyH.nil
    go_simp
    refine hK.out _ _ ?_ (fun hH3 => ?_)
    · exact ⟨two_old3 x0, two_old3 x1, two_old3 x2⟩
    clear hK K
    try simp only [Act.put, List.setIfInBounds_toArray, List.set_cons_zero, List.set_cons_succ]
    refine wpAnyH_done (by kernel_rfl) ?_ _
    obtain ⟨rg, hrg⟩ : ∃ n, n = wa.heap.size := ⟨_, rfl⟩
    obtain ⟨gg, hgg⟩ : ∃ n, n = wa.heap.size + 1 := ⟨_, rfl⟩
    obtain ⟨W, hW⟩ : ∃ W, W = ((wa.alloc (.cells (zrow h.objs.length) 39)).alloc (.cells #[.slice (some ⟨wa.heap.size, 0, none⟩) h.objs.length h.objs.length, .int .i64 h.cap, .int .i64 h.last] 24)).drew := ⟨_, rfl⟩
    have hg0 : Lies W gg 24 #[.slice (some ⟨rg, 0, none⟩) h.objs.length h.objs.length, .int .i64 h.cap, .int .i64 h.last] := by
      rw [hW, hgg, hrg]
      have := (Lies.new (wa.alloc (.cells (zrow h.objs.length) 39)) 24 #[.slice (some ⟨wa.heap.size, 0, none⟩) h.objs.length h.objs.length, .int .i64 h.cap, .int .i64 h.last]).drew
      simpa using this
    have hbg : Below wa.heap.size wa W := by rw [hW]; exact ((below_alloc wa _).alloc (by simp) _).drew
    have ho0 : OwnH W wa.heap.size (some ⟨rg, 0, none⟩) h.objs.length (List.replicate h.objs.length zLO) := by
      refine zown ?_
      rw [hW, hrg]
      have := World.ownsRow_lit (base := wa.heap.size) (e := 39) (size := 6) wa (zrow h.objs.length) h.objs.length (Nat.le_refl _) (by unfold maxLen; omega) (zrow_size _)
      rw [zrow_list] at this
      exact own_later (own_later this (below_alloc _ _)) (Below.refl _ _).drew
    rw [← hW, ← hgg, ← hrg]
    clear hW hrg hgg
    have HBG := hid hbg
    have HG0 := hid hg0
    have HO0 := hid ho0
    have XW := hid (X0.out.later hbg)
    have KW := hid (K0.out.later hbg)
    have hka := K0.out.lt
    have hrn : rg ≠ gg := fun e => by
      obtain ⟨cur, hB, _, _, _⟩ := own_blk (b := rg) (o := 0) (s := none) ho0.row
      have h1 : Lies W gg 39 cur := by rw [← e]; exact hB
      have : some (Obj.cells cur 39 (0, 0)) = some (Obj.cells _ 24 (0, 0)) := h1.symm.trans hg0
      injection this with this
      injection this with _ this
      exact absurd this (by decide)
    clear hbg hg0 ho0 x0 x1 x2
    go_wp2_with fail
    go_loopw [6] (fun i wr => ∃ (k : Nat) (ls : List LO), k ≤ h.objs.length ∧ i = .int .i64 k ∧ OwnH wr wa.heap.size (some ⟨rg, 0, none⟩) h.objs.length ls ∧ ls.map (·.o) = rnK h pm k ∧ Lies wr gg 24 #[.slice (some ⟨rg, 0, none⟩) h.objs.length h.objs.length, .int .i64 h.cap, .int .i64 h.last] ∧ Below wa.heap.size wa wr) (fun i _ => h.objs.length - (intOf i).toNat)
    case atStart => exact ⟨0, _, Nat.zero_le _, rfl, HO0.out, by rw [List.map_replicate]; rfl, HG0.out, HBG.out⟩
    case round =>
      clear HO0 HG0 HBG XW KW
      obtain ⟨k, ls, hk, rfl, hown, hls, hgb, hbw⟩ := hrel
      rename World => wo
      have HO := hid hown
      have HLS := hid hls
      have HG := hid hgb
      have HW := hid hbw
      have HX := hid (X0.out.later hbw)
      have hgl := hgb.lt
      have hlsn : ls.length ≤ h.objs.length ∧ h.objs.length ≤ ls.length := by
        have := congrArg List.length hls
        rw [List.length_map, rnK_len] at this
        omega
      obtain ⟨hls1, hls2⟩ := hlsn
      have g0 := hgb.cell 0
      simp only [List.getElem?_toArray, List.getElem?_cons_zero] at g0
      clear hown hls hgb hbw
      have x0 := HX.out.cell 0
      have x1 := HX.out.cell 1
      have x2 := HX.out.cell 2
      simp only [List.getElem?_toArray, List.getElem?_cons_zero, List.getElem?_cons_succ] at x0 x1 x2
      by_cases hlt : k < h.objs.length
      · have hlt2 : k < pm.length := by omega
        obtain ⟨b, off, rfl, hb, hc⟩ := HS.out (by omega)
        obtain ⟨bl, ol, rfl, hbl, hcl⟩ := HP.out (by omega)
        have hoi := List.getElem?_eq_getElem hlt
        obtain ⟨S, ds, hob, hin, -, -⟩ := hc _ _ hoi
        have hok := may_all HM.out _ (List.getElem_mem hlt)
        obtain ⟨o, ho⟩ : ∃ o, o = h.objs[k] := ⟨_, rfl⟩
        rw [← ho] at hob hin hok hoi
        have hol := (kind_len (ob_kind hok)).1
        have HBZ := hid (HB0.out.trans (HW.out.mono HB0.out.size))
        obtain ⟨y0, y1, y2, y3, y4, y5⟩ := hob.below hb HBZ.out
        have HIN := hid (hin.below HBZ.out)
        have HIP := hid (HP.out.below HBZ.out)
        obtain ⟨q, hqn, hq1, hq2⟩ := perm_at HPL.out hlt
        have lc := hcl k _ hq2
        have HLC := hid lc
        have HBL := hid hbl
        have HRN : Hid (rnK h pm (k + 1) = (rnK h pm k).set q (rnO h.objs.length pm o)) := by
          show _ = _
          conv => lhs; unfold rnK
          rw [hq1, List.getD_eq_getElem?_getD (l := h.objs), hoi]; rfl
        obtain ⟨z, hz⟩ : ∃ z, z = rnV h.objs.length pm o.cls := ⟨_, rfl⟩
        obtain ⟨xs, hxs⟩ : ∃ xs, xs = o.slots.map (rnV h.objs.length pm) := ⟨_, rfl⟩
        have hm1 : ([o.cls] : List Int).map (rnV h.objs.length pm) = [z] := by rw [hz]; rfl
        have hmo : rnO h.objs.length pm o = ⟨z, o.kind, xs, o.text, o.bits, o.hash⟩ := by unfold rnO; rw [hxs, hz]
        have HM1 := hid hm1
        have HM2 := hid hxs
        have HMO := hid hmo
        clear hc hcl hob hin hok ho hoi hq1 hq2 lc hbl hz hm1 hxs hmo
        go_upto_region 6 with fail
        obtain ⟨W, hW⟩ : ∃ W, W = wo.alloc (.cells #[.int .i64 o.cls, .int .i64 o.kind, .slice S o.slots.length ds, .string o.text, .int .i64 o.bits, .int .i64 o.hash] 39) := ⟨_, rfl⟩
        have hBW : Below wo.heap.size wo W := by rw [hW]; exact below_alloc _ _
        have hLO : Lies W wo.heap.size 39 #[.int .i64 o.cls, .int .i64 o.kind, .slice S o.slots.length ds, .string o.text, .int .i64 o.bits, .int .i64 o.hash] := by rw [hW]; exact Lies.new _ _ _
        have hzW : W.heap.size = wo.heap.size + 1 := by rw [hW]; exact Array.size_push ..
        rw [← hW]
        have HBW := hid hBW
        have HLO := hid hLO
        have hzW2 := Nat.le_of_eq hzW
        have hzW3 := Nat.le_of_eq hzW.symm
        clear hW hBW hLO hzW y0 y1 y2 y3 y4 y5 x0 x1 x2 g0
        have HXW := hid (HX.out.later HBW.out)
        have HIW := hid (HIP.out.below HBW.out)
        have x0 := HXW.out.cell 0
        have x1 := HXW.out.cell 1
        have x2 := HXW.out.cell 2
        simp only [List.getElem?_toArray, List.getElem?_cons_zero, List.getElem?_cons_succ] at x0 x1 x2
        have e0 := HLO.out.cell 0
        simp only [List.getElem?_toArray, List.getElem?_cons_zero] at e0
        have HAL3 := hid (below_alloc W (.cells #[.int .i64 o.cls] 3))
        go_wp2_with fail
        refine (values_ref_any h pm [o.cls] (some ⟨b, off, none⟩) (some ⟨bl, ol, none⟩) (some ⟨W.heap.size, 0, none⟩) c d 1 _ (HIW.out.below HAL3.out) (at_one _ _) HPL.out.1 HPM.out (by simp)).mono ?_
        rintro e w4 ⟨A4, c4, rfl, hown4, hb4⟩
        rw [HM1.out] at hown4 ⊢
        obtain ⟨g4, cg4, hv4, hg40, hg41⟩ := hown4.form (by simp)
        simp only [Value.slice.injEq, true_and] at hv4
        obtain ⟨rfl, rfl⟩ := hv4
        have q4 := hown4.cellAt 0 (by simp)
        have hl1 : ([z] : List Int).length = 1 := rfl
        simp only [List.map_cons, List.getElem?_cons_zero] at q4
        rw [hl1]
        have h34 := HAL3.out.trans (hb4.mono HAL3.out.size)
        have HL4 := hid (HLO.out.later h34)
        have HWW4 := hid (HBW.out.trans (h34.mono HBW.out.size))
        have b0 := HL4.out.cell 0
        have bf0 := HL4.out.frozen 0
        simp only [List.getElem?_toArray, List.getElem?_cons_zero] at b0
        clear hown4 hb4 h34 hl1 x0 x1 x2 e0
        go_upto_region 7 with fail
        obtain ⟨w5, hw5⟩ : ∃ w5, w5 = w4.setCell ⟨wo.heap.size, 0, none⟩ (.int .i64 z) := ⟨_, rfl⟩
        have hL5 : Lies w5 wo.heap.size 39 #[.int .i64 z, .int .i64 o.kind, .slice S o.slots.length ds, .string o.text, .int .i64 o.bits, .int .i64 o.hash] := by
          rw [hw5]
          have := HL4.out.set_ 0 (.int .i64 z)
          simpa using this
        have hwo5 : Below wo.heap.size wo w5 := by rw [hw5]; exact HWW4.out.setCell (p := ⟨wo.heap.size, 0, none⟩) (Nat.le_refl _) _
        rw [← hw5]
        have HL5 := hid hL5
        have HWW5 := hid hwo5
        clear hL5 hwo5 hw5 b0 bf0 q4 HL4 HWW4
        have HX5 := hid (HX.out.later HWW5.out)
        have x0 := HX5.out.cell 0
        have x1 := HX5.out.cell 1
        have x2 := HX5.out.cell 2
        simp only [List.getElem?_toArray, List.getElem?_cons_zero, List.getElem?_cons_succ] at x0 x1 x2
        have e2 := HL5.out.cell 2
        simp only [List.getElem?_toArray, List.getElem?_cons_zero, List.getElem?_cons_succ] at e2
        go_wp2_with fail
        refine (values_ref_any h pm o.slots (some ⟨b, off, none⟩) (some ⟨bl, ol, none⟩) S c d ds _ (HIP.out.below HWW5.out) (HIN.out.below HWW5.out) HPL.out.1 HPM.out (by omega)).mono ?_
        rintro e w6 ⟨S3, d3, rfl, hown6, hb6⟩
        rw [← HM2.out] at hown6 ⊢
        have HL6 := hid (HL5.out.later hb6)
        have HWW6 := hid (HWW5.out.trans (hb6.mono HWW5.out.size))
        have HV6 := hid (own_lower (base' := wo.heap.size + 1) hown6 HL5.out.lt)
        have f2 := HL6.out.frozen 2
        have k2 := HL6.out.cell 2
        simp only [List.getElem?_toArray, List.getElem?_cons_zero, List.getElem?_cons_succ] at k2
        clear hown6 hb6 x0 x1 x2 e2
        go_upto_region 8 with fail
        obtain ⟨w7, hw7⟩ : ∃ w7, w7 = w6.setCell ⟨wo.heap.size, 2, none⟩ (.slice S3 xs.length d3) := ⟨_, rfl⟩
        have hL7 : Lies w7 wo.heap.size 39 #[.int .i64 z, .int .i64 o.kind, .slice S3 xs.length d3, .string o.text, .int .i64 o.bits, .int .i64 o.hash] := by
          rw [hw7]
          have := HL6.out.set_ 2 (.slice S3 xs.length d3)
          simpa using this
        have hwo7 : Below wo.heap.size wo w7 := by rw [hw7]; exact HWW6.out.setCell (p := ⟨wo.heap.size, 2, none⟩) (Nat.le_refl _) _
        have hV7 : w7.ownsRow (wo.heap.size + 1) 3 1 (.slice S3 xs.length d3) xs.length (xs.map (Value.int .i64)) := by rw [hw7]; exact ownsRow_setCell_below HV6.out (Nat.lt_succ_self _) _
        rw [← hw7]
        clear hw7 f2 k2
        have HO7 := hid (HO.out.later hwo7)
        have HG7 := hid (HG.out.later hwo7)
        have HV7 := hid hV7
        have HWW7 := hid hwo7
        have g7 := HG7.out.cell 0
        have e0 := hL7.cell 0
        have e1 := hL7.cell 1
        have e2 := hL7.cell 2
        have e3 := hL7.cell 3
        have e4 := hL7.cell 4
        have e5 := hL7.cell 5
        simp only [List.getElem?_toArray, List.getElem?_cons_zero, List.getElem?_cons_succ] at g7 e0 e1 e2 e3 e4 e5
        have hrl := (HO.out.row.lt rg rfl).2
        have hrb := (HO.out.row.lt rg rfl).1
        have t7 := (HBZ.out.trans (hwo7.mono HBZ.out.size)).cell (p := ⟨bl, ol + k, none⟩) HBL.out
        have t7 := t7.trans HLC.out
        have hblr : bl ≠ rg := by have := HBL.out; have := HB0.out.size; omega
        have HO7D := hid (HO7.out.later (Below.refl _ w7).drew)
        have rf0 := HO7D.out.row.frozenAt (q * 6)
        have rf1 := HO7D.out.row.frozenAt (q * 6 + 1)
        have rf2 := HO7D.out.row.frozenAt (q * 6 + 2)
        have rf3 := HO7D.out.row.frozenAt (q * 6 + 3)
        have rf4 := HO7D.out.row.frozenAt (q * 6 + 4)
        have rf5 := HO7D.out.row.frozenAt (q * 6 + 5)
        have hqs : q < ls.length := by omega
        have hqg := List.getElem?_eq_getElem hqs
        have r0 := (HO7D.out.row.cellAt (q * 6) (by omega)).trans (rowOf_get ls q 0 _ hqg (by omega))
        have ra0 := (HO7.out.row.cellAt (q * 6) (by omega)).trans (rowOf_get ls q 0 _ hqg (by omega))
        have rg0 := HO7.out.row.frozenAt (q * 6)
        have r1 := (HO7D.out.row.cellAt (q * 6 + 1) (by omega)).trans (rowOf_get ls q 1 _ hqg (by omega))
        have ra1 := (HO7.out.row.cellAt (q * 6 + 1) (by omega)).trans (rowOf_get ls q 1 _ hqg (by omega))
        have rg1 := HO7.out.row.frozenAt (q * 6 + 1)
        have r2 := (HO7D.out.row.cellAt (q * 6 + 2) (by omega)).trans (rowOf_get ls q 2 _ hqg (by omega))
        have ra2 := (HO7.out.row.cellAt (q * 6 + 2) (by omega)).trans (rowOf_get ls q 2 _ hqg (by omega))
        have rg2 := HO7.out.row.frozenAt (q * 6 + 2)
        have r3 := (HO7D.out.row.cellAt (q * 6 + 3) (by omega)).trans (rowOf_get ls q 3 _ hqg (by omega))
        have ra3 := (HO7.out.row.cellAt (q * 6 + 3) (by omega)).trans (rowOf_get ls q 3 _ hqg (by omega))
        have rg3 := HO7.out.row.frozenAt (q * 6 + 3)
        have r4 := (HO7D.out.row.cellAt (q * 6 + 4) (by omega)).trans (rowOf_get ls q 4 _ hqg (by omega))
        have ra4 := (HO7.out.row.cellAt (q * 6 + 4) (by omega)).trans (rowOf_get ls q 4 _ hqg (by omega))
        have rg4 := HO7.out.row.frozenAt (q * 6 + 4)
        have r5 := (HO7D.out.row.cellAt (q * 6 + 5) (by omega)).trans (rowOf_get ls q 5 _ hqg (by omega))
        have ra5 := (HO7.out.row.cellAt (q * 6 + 5) (by omega)).trans (rowOf_get ls q 5 _ hqg (by omega))
        have rg5 := HO7.out.row.frozenAt (q * 6 + 5)
        simp only [LO.cells, List.getElem?_cons_zero, List.getElem?_cons_succ] at r0 r1 r2 r3 r4 r5 ra0 ra1 ra2 ra3 ra4 ra5
        have hwr : wo.heap.size ≠ rg := by omega
        clear hL7 hwo7 hV7 hqg
        refine wp_region_held_drew (S := (fun w' => w'.cell? ⟨gg, 0, none⟩ = some (.slice (some ⟨rg, 0, none⟩) h.objs.length h.objs.length) ∧ w'.cell? ⟨bl, ol + k, none⟩ = some (.int .i64 (q : Int)) ∧ w'.cell? ⟨wo.heap.size, 0, none⟩ = some (.int .i64 z) ∧ w'.cell? ⟨wo.heap.size, 1, none⟩ = some (.int .i64 o.kind) ∧ w'.cell? ⟨wo.heap.size, 2, none⟩ = some (.slice S3 xs.length d3) ∧ w'.cell? ⟨wo.heap.size, 3, none⟩ = some (.string o.text) ∧ w'.cell? ⟨wo.heap.size, 4, none⟩ = some (.int .i64 o.bits) ∧ w'.cell? ⟨wo.heap.size, 5, none⟩ = some (.int .i64 o.hash))) (by kernel_rfl) ?_ (fun hH0 => ?_)
        · exact ⟨g7, t7, e0, e1, e2, e3, e4, e5⟩
        refine wpAnyH_take (i := 0) (oi := { dst := some 50, op := Go.Op.fieldAddr 24 (Go.Operand.tmp 5) 0, type := 0, pos := "ref.go:148", after := #[], guard := none }) (v := ?vv9) rfl (by kernel_rfl) (by kernel_rfl) (by kernel_rfl) (fun _ _ _ h => h) (Or.inl ⟨by rfl, ?hy9⟩) (by assumption) ?rr9
        case hy9 => intro w hSw; (try dsimp only at hSw); go_simp; all_goals with_reducible rfl
        try simp only [Act.put, List.setIfInBounds_toArray, List.set_cons_zero, List.set_cons_succ]
        refine wpAnyH_take (i := 1) (oi := { dst := some 51, op := Go.Op.load 22 (Go.Operand.tmp 50), type := 22, pos := "ref.go:148", after := #[{ on := 0, ground := Go.Ground.data }], guard := none }) (v := ?vv10) rfl (by kernel_rfl) (by kernel_rfl) (by kernel_rfl) (fun _ _ _ h => h) (Or.inl ⟨by rfl, ?hy10⟩) (by assumption) ?rr10
        case hy10 => intro w hSw; (try dsimp only at hSw); go_simp; all_goals with_reducible rfl
        try simp only [Act.put, List.setIfInBounds_toArray, List.set_cons_zero, List.set_cons_succ]
        refine wpAnyH_take (i := 2) (oi := { dst := some 52, op := Go.Op.move (Go.Operand.tmp 1), type := 31, pos := "ref.go:148", after := #[], guard := none }) (v := ?vv11) rfl (by kernel_rfl) (by kernel_rfl) (by kernel_rfl) (fun _ _ _ h => h) (Or.inl ⟨by rfl, ?hy11⟩) (by assumption) ?rr11
        case hy11 => intro w hSw; (try dsimp only at hSw); go_simp; all_goals with_reducible rfl
        try simp only [Act.put, List.setIfInBounds_toArray, List.set_cons_zero, List.set_cons_succ]
        refine wpAnyH_take (i := 3) (oi := { dst := some 53, op := Go.Op.move (Go.Operand.tmp 6), type := 3, pos := "ref.go:148", after := #[], guard := none }) (v := ?vv12) rfl (by kernel_rfl) (by kernel_rfl) (by kernel_rfl) (fun _ _ _ h => h) (Or.inl ⟨by rfl, ?hy12⟩) (by assumption) ?rr12
        case hy12 => intro w hSw; (try dsimp only at hSw); go_simp; all_goals with_reducible rfl
        try simp only [Act.put, List.setIfInBounds_toArray, List.set_cons_zero, List.set_cons_succ]
        refine wpAnyH_take (i := 4) (oi := { dst := some 54, op := Go.Op.indexAddr 31 (Go.Operand.tmp 52) (Go.Operand.tmp 53), type := 0, pos := "ref.go:148", after := #[{ on := 2, ground := Go.Ground.data }, { on := 3, ground := Go.Ground.data }], guard := none }) (v := ?vv13) rfl (by kernel_rfl) (by kernel_rfl) (by kernel_rfl) (fun _ _ _ h => h) (Or.inl ⟨by rfl, ?hy13⟩) (by assumption) ?rr13
        case hy13 => intro w hSw; (try dsimp only at hSw); go_simp; all_goals with_reducible rfl
        try simp only [Act.put, List.setIfInBounds_toArray, List.set_cons_zero, List.set_cons_succ]
        refine wpAnyH_take (i := 5) (oi := { dst := some 55, op := Go.Op.load 3 (Go.Operand.tmp 54), type := 3, pos := "ref.go:148", after := #[{ on := 4, ground := Go.Ground.data }], guard := none }) (v := ?vv14) rfl (by kernel_rfl) (by kernel_rfl) (by kernel_rfl) (fun _ _ _ h => h) (Or.inl ⟨by rfl, ?hy14⟩) (by assumption) ?rr14
        case hy14 => intro w hSw; (try dsimp only at hSw); go_simp; all_goals with_reducible rfl
        try simp only [Act.put, List.setIfInBounds_toArray, List.set_cons_zero, List.set_cons_succ]
        refine wpAnyH_take (i := 6) (oi := { dst := some 56, op := Go.Op.load 39 (Go.Operand.tmp 7), type := 39, pos := "ref.go:148", after := #[], guard := none }) (v := ?vv15) rfl (by kernel_rfl) (by kernel_rfl) (by kernel_rfl) (fun _ _ _ h => h) (Or.inl ⟨by rfl, ?hy15⟩) (by assumption) ?rr15
        case hy15 => intro w hSw; (try dsimp only at hSw); go_simp; all_goals with_reducible rfl
        try simp only [Act.put, List.setIfInBounds_toArray, List.set_cons_zero, List.set_cons_succ]
        refine wpAnyH_take (i := 7) (oi := { dst := some 57, op := Go.Op.indexAddr 22 (Go.Operand.tmp 51) (Go.Operand.tmp 55), type := 0, pos := "ref.go:148", after := #[{ on := 1, ground := Go.Ground.data }, { on := 5, ground := Go.Ground.data }, { on := 0, ground := Go.Ground.phase }, { on := 1, ground := Go.Ground.phase }, { on := 2, ground := Go.Ground.phase }, { on := 3, ground := Go.Ground.phase }, { on := 4, ground := Go.Ground.phase }, { on := 5, ground := Go.Ground.phase }, { on := 6, ground := Go.Ground.phase }], guard := none }) (v := ?vv16) rfl (by kernel_rfl) (by kernel_rfl) (by kernel_rfl) (fun _ _ _ h => h) (Or.inl ⟨by rfl, ?hy16⟩) (by assumption) ?rr16
        case hy16 => intro w hSw; (try dsimp only at hSw); go_simp; all_goals with_reducible rfl
        try simp only [Act.put, List.setIfInBounds_toArray, List.set_cons_zero, List.set_cons_succ]
        refine wpAnyH_ready (rs := [8]) (by kernel_rfl) (by simp) ?_
        refine AllReadyH.cons (i := 8) (o := { dst := none, op := Go.Op.store 39 (Go.Operand.tmp 57) (Go.Operand.tmp 56), type := 0, pos := "ref.go:148", after := #[{ on := 7, ground := Go.Ground.data }, { on := 6, ground := Go.Ground.data }, { on := 0, ground := Go.Ground.phase }, { on := 1, ground := Go.Ground.phase }, { on := 2, ground := Go.Ground.phase }, { on := 3, ground := Go.Ground.phase }, { on := 4, ground := Go.Ground.phase }, { on := 5, ground := Go.Ground.phase }, { on := 6, ground := Go.Ground.phase }], guard := none }) rfl (fun K hK => ?_) AllReadyH.nil
        go_simp
        refine hK.out _ _ ?_ (fun hH1 => ?_)
        · exact ⟨far6d (fun e => hrn e.symm) hH0.1, far6d hblr hH0.2.1, far6d hwr hH0.2.2.1, far6d hwr hH0.2.2.2.1, far6d hwr hH0.2.2.2.2.1, far6d hwr hH0.2.2.2.2.2.1, far6d hwr hH0.2.2.2.2.2.2.1, far6d hwr hH0.2.2.2.2.2.2.2⟩
        clear hK K
        try simp only [Act.put, List.setIfInBounds_toArray, List.set_cons_zero, List.set_cons_succ]
        refine wpAnyH_done (by kernel_rfl) ?_ _
        go_wp2_with fail
        go_roundw
        case rel =>
          have hOP := HO7.out.put (n := q * 6) q (by omega) ⟨⟨z, o.kind, xs, o.text, o.bits, o.hash⟩, S3, d3⟩ HV7.out (by have := HW.out.size; omega) (fun i li a hi ha => by have := HO.out.blk_lt hi ha; omega) rfl
          have hBP : Below wa.heap.size wa w7 := HW.out.trans (HWW7.out.mono HW.out.size)
          refine ⟨k + 1, ls.set q ⟨⟨z, o.kind, xs, o.text, o.bits, o.hash⟩, S3, d3⟩, by omega, by go_num, hOP.later (Below.refl _ _).drew, by rw [map_set_o, HLS.out, HRN.out, HMO.out], ?_, ?_⟩
          · exact ((((((HG7.out.far (p := ⟨rg, q * 6, none⟩) (fun e => hrn e.symm) _).far (p := ⟨rg, q * 6 + 1, none⟩) (fun e => hrn e.symm) _).far (p := ⟨rg, q * 6 + 2, none⟩) (fun e => hrn e.symm) _).far (p := ⟨rg, q * 6 + 3, none⟩) (fun e => hrn e.symm) _).far (p := ⟨rg, q * 6 + 4, none⟩) (fun e => hrn e.symm) _).far (p := ⟨rg, q * 6 + 5, none⟩) (fun e => hrn e.symm) _).drew
          · exact ((((((hBP.setCell (p := ⟨rg, q * 6, none⟩) hrb _).setCell (p := ⟨rg, q * 6 + 1, none⟩) hrb _).setCell (p := ⟨rg, q * 6 + 2, none⟩) hrb _).setCell (p := ⟨rg, q * 6 + 3, none⟩) hrb _).setCell (p := ⟨rg, q * 6 + 4, none⟩) hrb _).setCell (p := ⟨rg, q * 6 + 5, none⟩) hrb _).drew
        case measure => simp [intOf]; omega
      · obtain rfl : k = h.objs.length := by omega
        have HK2 := hid (K0.out.later HW.out)
        have HB2 := hid (HB0.out.trans (HW.out.mono HB0.out.size))
        have z0 := HG.out.cell 0
        have z1 := HG.out.cell 1
        have z2 := HG.out.cell 2
        have u0 := HK2.out.cell 0
        have u1 := HK2.out.cell 1
        have u2 := HK2.out.cell 2
        have uf0 := HK2.out.frozen 0
        have uf1 := HK2.out.frozen 1
        have uf2 := HK2.out.frozen 2
        simp only [List.getElem?_toArray, List.getElem?_cons_zero, List.getElem?_cons_succ] at z0 z1 z2 u0 u1 u2
        go_wp2_with fail
        have KF := (((HK2.out.set_ 0 (.slice (some ⟨rg, 0, none⟩) h.objs.length h.objs.length)).set_ 1 (.int .i64 h.cap)).set_ 2 (.int .i64 h.last))
        have r0 := KF.cell 0
        have r1 := KF.cell 1
        have r2 := KF.cell 2
        simp only [List.setIfInBounds_toArray, List.set_cons_zero, List.set_cons_succ, List.getElem?_toArray, List.getElem?_cons_zero, List.getElem?_cons_succ] at r0 r1 r2
        refine bodyPost_ret (v := .agg #[.slice (some ⟨rg, 0, none⟩) h.objs.length h.objs.length, .int .i64 h.cap, .int .i64 h.last]) (by simp [results, Try.results26, go_sem, r0, r1, r2]) rfl ?_
        refine ⟨some ⟨rg, 0, none⟩, h.objs.length, _, by rw [rnK_len], HLS.out, OwnH.lower (base := wa.heap.size) ?_ (by omega), ?_⟩
        · exact ((HO.out.low (p := ⟨w.heap.size + 1, 0, none⟩) hka _).low (p := ⟨w.heap.size + 1, 1, none⟩) hka _).low (p := ⟨w.heap.size + 1, 2, none⟩) hka _
        · exact (((HB2.out.setCell (p := ⟨w.heap.size + 1, 0, none⟩) (by simp) _).setCell (p := ⟨w.heap.size + 1, 1, none⟩) (by simp) _).setCell (p := ⟨w.heap.size + 1, 2, none⟩) (by simp) _)
  · go_simp
    refine hK.out _ _ ?_ (fun hH1 => ?_)
    · exact ⟨cell_old hH0.1, cell_old hH0.2.1, cell_old hH0.2.2⟩
    clear hK K
    try simp only [Act.put, List.setIfInBounds_toArray, List.set_cons_zero, List.set_cons_succ]
    refine wpAnyH_ready (rs := [7]) (by kernel_rfl) (by simp) ?_
    refine AllReadyH.cons (i := 7) (o := { dst := some 15, op := Go.Op.makeSlice 22 (Go.Operand.tmp 14) (Go.Operand.tmp 14), type := 22, pos := "ref.go:143", after := #[{ on := 6, ground := Go.Ground.data }, { on := 6, ground := Go.Ground.data }], guard := none }) rfl (fun K hK => ?_) AllReadyH.nil
    go_simp
    refine hK.out _ _ ?_ (fun hH2 => ?_)
    · exact ⟨cell_old hH1.1, cell_old hH1.2.1, cell_old hH1.2.2⟩
    clear hK K
    try simp only [Act.put, List.setIfInBounds_toArray, List.set_cons_zero, List.set_cons_succ]
    refine wpAnyH_take (i := 8) (oi := { dst := some 16, op := Go.Op.build 24 #[(1, Go.Operand.tmp 9), (2, Go.Operand.tmp 11), (0, Go.Operand.tmp 15)], type := 24, pos := "ref.go:143", after := #[{ on := 1, ground := Go.Ground.data }, { on := 3, ground := Go.Ground.data }, { on := 7, ground := Go.Ground.data }], guard := none }) (v := ?vv17) rfl (by kernel_rfl) (by kernel_rfl) (by kernel_rfl) (fun _ _ _ h => h) (Or.inl ⟨by rfl, ?hy17⟩) (by assumption) ?rr17
    case hy17 => intro w hSw; (try dsimp only at hSw); go_simp; all_goals with_reducible rfl
    try simp only [Act.put, List.setIfInBounds_toArray, List.set_cons_zero, List.set_cons_succ]
    refine wpAnyH_ready (rs := [10]) (by kernel_rfl) (by simp) ?_
    refine AllReadyH.cons (i := 10) (o := { dst := none, op := Go.Op.store 24 (Go.Operand.tmp 5) (Go.Operand.tmp 16), type := 0, pos := "ref.go:143", after := #[{ on := 9, ground := Go.Ground.data }, { on := 8, ground := Go.Ground.data }, { on := 0, ground := Go.Ground.phase }, { on := 1, ground := Go.Ground.phase }, { on := 2, ground := Go.Ground.phase }, { on := 3, ground := Go.Ground.phase }, { on := 4, ground := Go.Ground.phase }, { on := 5, ground := Go.Ground.phase }, { on := 6, ground := Go.Ground.phase }, { on := 7, ground := Go.Ground.phase }, { on := 8, ground := Go.Ground.phase }, { on := 9, ground := Go.Ground.phase }], guard := none }) rfl (fun K hK => ?_) AllReadyH.nil
    go_simp
    refine hK.out _ _ ?_ (fun hH3 => ?_)
    · exact ⟨two_old3 x0, two_old3 x1, two_old3 x2⟩
    clear hK K
    try simp only [Act.put, List.setIfInBounds_toArray, List.set_cons_zero, List.set_cons_succ]
    refine wpAnyH_done (by kernel_rfl) ?_ _
    obtain ⟨rg, hrg⟩ : ∃ n, n = wa.heap.size + 1 := ⟨_, rfl⟩
    obtain ⟨gg, hgg⟩ : ∃ n, n = wa.heap.size := ⟨_, rfl⟩
    obtain ⟨W, hW⟩ : ∃ W, W = ((wa.alloc (.cells #[.slice (some ⟨wa.heap.size + 1, 0, none⟩) h.objs.length h.objs.length, .int .i64 h.cap, .int .i64 h.last] 24)).alloc (.cells (zrow h.objs.length) 39)).drew := ⟨_, rfl⟩
    have hg0 : Lies W gg 24 #[.slice (some ⟨rg, 0, none⟩) h.objs.length h.objs.length, .int .i64 h.cap, .int .i64 h.last] := by
      rw [hW, hgg, hrg]
      exact ((Lies.new wa 24 _).alloc _).drew
    have hbg : Below wa.heap.size wa W := by rw [hW]; exact ((below_alloc wa _).alloc (by simp) _).drew
    have ho0 : OwnH W wa.heap.size (some ⟨rg, 0, none⟩) h.objs.length (List.replicate h.objs.length zLO) := by
      refine zown ?_
      rw [hW, hrg]
      have := World.ownsRow_lit (base := wa.heap.size) (e := 39) (size := 6) (wa.alloc (.cells #[.slice (some ⟨wa.heap.size + 1, 0, none⟩) h.objs.length h.objs.length, .int .i64 h.cap, .int .i64 h.last] 24)) (zrow h.objs.length) h.objs.length (by simp) (by unfold maxLen; omega) (zrow_size _)
      rw [zrow_list] at this
      have := own_later this (Below.refl _ _).drew
      simpa using this
    rw [← hW, ← hrg, ← hgg]
    clear hW hgg hrg
    have HBG := hid hbg
    have HG0 := hid hg0
    have HO0 := hid ho0
    have XW := hid (X0.out.later hbg)
    have KW := hid (K0.out.later hbg)
    have hka := K0.out.lt
    have hrn : rg ≠ gg := fun e => by
      obtain ⟨cur, hB, _, _, _⟩ := own_blk (b := rg) (o := 0) (s := none) ho0.row
      have h1 : Lies W gg 39 cur := by rw [← e]; exact hB
      have : some (Obj.cells cur 39 (0, 0)) = some (Obj.cells _ 24 (0, 0)) := h1.symm.trans hg0
      injection this with this
      injection this with _ this
      exact absurd this (by decide)
    clear hbg hg0 ho0 x0 x1 x2
    go_wp2_with fail
    go_loopw [6] (fun i wr => ∃ (k : Nat) (ls : List LO), k ≤ h.objs.length ∧ i = .int .i64 k ∧ OwnH wr wa.heap.size (some ⟨rg, 0, none⟩) h.objs.length ls ∧ ls.map (·.o) = rnK h pm k ∧ Lies wr gg 24 #[.slice (some ⟨rg, 0, none⟩) h.objs.length h.objs.length, .int .i64 h.cap, .int .i64 h.last] ∧ Below wa.heap.size wa wr) (fun i _ => h.objs.length - (intOf i).toNat)
    case atStart => exact ⟨0, _, Nat.zero_le _, rfl, HO0.out, by rw [List.map_replicate]; rfl, HG0.out, HBG.out⟩
    case round =>
      clear HO0 HG0 HBG XW KW
      obtain ⟨k, ls, hk, rfl, hown, hls, hgb, hbw⟩ := hrel
      rename World => wo
      have HO := hid hown
      have HLS := hid hls
      have HG := hid hgb
      have HW := hid hbw
      have HX := hid (X0.out.later hbw)
      have hgl := hgb.lt
      have hlsn : ls.length ≤ h.objs.length ∧ h.objs.length ≤ ls.length := by
        have := congrArg List.length hls
        rw [List.length_map, rnK_len] at this
        omega
      obtain ⟨hls1, hls2⟩ := hlsn
      have g0 := hgb.cell 0
      simp only [List.getElem?_toArray, List.getElem?_cons_zero] at g0
      clear hown hls hgb hbw
      have x0 := HX.out.cell 0
      have x1 := HX.out.cell 1
      have x2 := HX.out.cell 2
      simp only [List.getElem?_toArray, List.getElem?_cons_zero, List.getElem?_cons_succ] at x0 x1 x2
      by_cases hlt : k < h.objs.length
      · have hlt2 : k < pm.length := by omega
        obtain ⟨b, off, rfl, hb, hc⟩ := HS.out (by omega)
        obtain ⟨bl, ol, rfl, hbl, hcl⟩ := HP.out (by omega)
        have hoi := List.getElem?_eq_getElem hlt
        obtain ⟨S, ds, hob, hin, -, -⟩ := hc _ _ hoi
        have hok := may_all HM.out _ (List.getElem_mem hlt)
        obtain ⟨o, ho⟩ : ∃ o, o = h.objs[k] := ⟨_, rfl⟩
        rw [← ho] at hob hin hok hoi
        have hol := (kind_len (ob_kind hok)).1
        have HBZ := hid (HB0.out.trans (HW.out.mono HB0.out.size))
        obtain ⟨y0, y1, y2, y3, y4, y5⟩ := hob.below hb HBZ.out
        have HIN := hid (hin.below HBZ.out)
        have HIP := hid (HP.out.below HBZ.out)
        obtain ⟨q, hqn, hq1, hq2⟩ := perm_at HPL.out hlt
        have lc := hcl k _ hq2
        have HLC := hid lc
        have HBL := hid hbl
        have HRN : Hid (rnK h pm (k + 1) = (rnK h pm k).set q (rnO h.objs.length pm o)) := by
          show _ = _
          conv => lhs; unfold rnK
          rw [hq1, List.getD_eq_getElem?_getD (l := h.objs), hoi]; rfl
        obtain ⟨z, hz⟩ : ∃ z, z = rnV h.objs.length pm o.cls := ⟨_, rfl⟩
        obtain ⟨xs, hxs⟩ : ∃ xs, xs = o.slots.map (rnV h.objs.length pm) := ⟨_, rfl⟩
        have hm1 : ([o.cls] : List Int).map (rnV h.objs.length pm) = [z] := by rw [hz]; rfl
        have hmo : rnO h.objs.length pm o = ⟨z, o.kind, xs, o.text, o.bits, o.hash⟩ := by unfold rnO; rw [hxs, hz]
        have HM1 := hid hm1
        have HM2 := hid hxs
        have HMO := hid hmo
        clear hc hcl hob hin hok ho hoi hq1 hq2 lc hbl hz hm1 hxs hmo
        go_upto_region 6 with fail
        obtain ⟨W, hW⟩ : ∃ W, W = wo.alloc (.cells #[.int .i64 o.cls, .int .i64 o.kind, .slice S o.slots.length ds, .string o.text, .int .i64 o.bits, .int .i64 o.hash] 39) := ⟨_, rfl⟩
        have hBW : Below wo.heap.size wo W := by rw [hW]; exact below_alloc _ _
        have hLO : Lies W wo.heap.size 39 #[.int .i64 o.cls, .int .i64 o.kind, .slice S o.slots.length ds, .string o.text, .int .i64 o.bits, .int .i64 o.hash] := by rw [hW]; exact Lies.new _ _ _
        have hzW : W.heap.size = wo.heap.size + 1 := by rw [hW]; exact Array.size_push ..
        rw [← hW]
        have HBW := hid hBW
        have HLO := hid hLO
        have hzW2 := Nat.le_of_eq hzW
        have hzW3 := Nat.le_of_eq hzW.symm
        clear hW hBW hLO hzW y0 y1 y2 y3 y4 y5 x0 x1 x2 g0
        have HXW := hid (HX.out.later HBW.out)
        have HIW := hid (HIP.out.below HBW.out)
        have x0 := HXW.out.cell 0
        have x1 := HXW.out.cell 1
        have x2 := HXW.out.cell 2
        simp only [List.getElem?_toArray, List.getElem?_cons_zero, List.getElem?_cons_succ] at x0 x1 x2
        have e0 := HLO.out.cell 0
        simp only [List.getElem?_toArray, List.getElem?_cons_zero] at e0
        have HAL3 := hid (below_alloc W (.cells #[.int .i64 o.cls] 3))
        go_wp2_with fail
        refine (values_ref_any h pm [o.cls] (some ⟨b, off, none⟩) (some ⟨bl, ol, none⟩) (some ⟨W.heap.size, 0, none⟩) c d 1 _ (HIW.out.below HAL3.out) (at_one _ _) HPL.out.1 HPM.out (by simp)).mono ?_
        rintro e w4 ⟨A4, c4, rfl, hown4, hb4⟩
        rw [HM1.out] at hown4 ⊢
        obtain ⟨g4, cg4, hv4, hg40, hg41⟩ := hown4.form (by simp)
        simp only [Value.slice.injEq, true_and] at hv4
        obtain ⟨rfl, rfl⟩ := hv4
        have q4 := hown4.cellAt 0 (by simp)
        have hl1 : ([z] : List Int).length = 1 := rfl
        simp only [List.map_cons, List.getElem?_cons_zero] at q4
        rw [hl1]
        have h34 := HAL3.out.trans (hb4.mono HAL3.out.size)
        have HL4 := hid (HLO.out.later h34)
        have HWW4 := hid (HBW.out.trans (h34.mono HBW.out.size))
        have b0 := HL4.out.cell 0
        have bf0 := HL4.out.frozen 0
        simp only [List.getElem?_toArray, List.getElem?_cons_zero] at b0
        clear hown4 hb4 h34 hl1 x0 x1 x2 e0
        go_upto_region 7 with fail
        obtain ⟨w5, hw5⟩ : ∃ w5, w5 = w4.setCell ⟨wo.heap.size, 0, none⟩ (.int .i64 z) := ⟨_, rfl⟩
        have hL5 : Lies w5 wo.heap.size 39 #[.int .i64 z, .int .i64 o.kind, .slice S o.slots.length ds, .string o.text, .int .i64 o.bits, .int .i64 o.hash] := by
          rw [hw5]
          have := HL4.out.set_ 0 (.int .i64 z)
          simpa using this
        have hwo5 : Below wo.heap.size wo w5 := by rw [hw5]; exact HWW4.out.setCell (p := ⟨wo.heap.size, 0, none⟩) (Nat.le_refl _) _
        rw [← hw5]
        have HL5 := hid hL5
        have HWW5 := hid hwo5
        clear hL5 hwo5 hw5 b0 bf0 q4 HL4 HWW4
        have HX5 := hid (HX.out.later HWW5.out)
        have x0 := HX5.out.cell 0
        have x1 := HX5.out.cell 1
        have x2 := HX5.out.cell 2
        simp only [List.getElem?_toArray, List.getElem?_cons_zero, List.getElem?_cons_succ] at x0 x1 x2
        have e2 := HL5.out.cell 2
        simp only [List.getElem?_toArray, List.getElem?_cons_zero, List.getElem?_cons_succ] at e2
        go_wp2_with fail
        refine (values_ref_any h pm o.slots (some ⟨b, off, none⟩) (some ⟨bl, ol, none⟩) S c d ds _ (HIP.out.below HWW5.out) (HIN.out.below HWW5.out) HPL.out.1 HPM.out (by omega)).mono ?_
        rintro e w6 ⟨S3, d3, rfl, hown6, hb6⟩
        rw [← HM2.out] at hown6 ⊢
        have HL6 := hid (HL5.out.later hb6)
        have HWW6 := hid (HWW5.out.trans (hb6.mono HWW5.out.size))
        have HV6 := hid (own_lower (base' := wo.heap.size + 1) hown6 HL5.out.lt)
        have f2 := HL6.out.frozen 2
        have k2 := HL6.out.cell 2
        simp only [List.getElem?_toArray, List.getElem?_cons_zero, List.getElem?_cons_succ] at k2
        clear hown6 hb6 x0 x1 x2 e2
        go_upto_region 8 with fail
        obtain ⟨w7, hw7⟩ : ∃ w7, w7 = w6.setCell ⟨wo.heap.size, 2, none⟩ (.slice S3 xs.length d3) := ⟨_, rfl⟩
        have hL7 : Lies w7 wo.heap.size 39 #[.int .i64 z, .int .i64 o.kind, .slice S3 xs.length d3, .string o.text, .int .i64 o.bits, .int .i64 o.hash] := by
          rw [hw7]
          have := HL6.out.set_ 2 (.slice S3 xs.length d3)
          simpa using this
        have hwo7 : Below wo.heap.size wo w7 := by rw [hw7]; exact HWW6.out.setCell (p := ⟨wo.heap.size, 2, none⟩) (Nat.le_refl _) _
        have hV7 : w7.ownsRow (wo.heap.size + 1) 3 1 (.slice S3 xs.length d3) xs.length (xs.map (Value.int .i64)) := by rw [hw7]; exact ownsRow_setCell_below HV6.out (Nat.lt_succ_self _) _
        rw [← hw7]
        clear hw7 f2 k2
        have HO7 := hid (HO.out.later hwo7)
        have HG7 := hid (HG.out.later hwo7)
        have HV7 := hid hV7
        have HWW7 := hid hwo7
        have g7 := HG7.out.cell 0
        have e0 := hL7.cell 0
        have e1 := hL7.cell 1
        have e2 := hL7.cell 2
        have e3 := hL7.cell 3
        have e4 := hL7.cell 4
        have e5 := hL7.cell 5
        simp only [List.getElem?_toArray, List.getElem?_cons_zero, List.getElem?_cons_succ] at g7 e0 e1 e2 e3 e4 e5
        have hrl := (HO.out.row.lt rg rfl).2
        have hrb := (HO.out.row.lt rg rfl).1
        have t7 := (HBZ.out.trans (hwo7.mono HBZ.out.size)).cell (p := ⟨bl, ol + k, none⟩) HBL.out
        have t7 := t7.trans HLC.out
        have hblr : bl ≠ rg := by have := HBL.out; have := HB0.out.size; omega
        have HO7D := hid (HO7.out.later (Below.refl _ w7).drew)
        have rf0 := HO7D.out.row.frozenAt (q * 6)
        have rf1 := HO7D.out.row.frozenAt (q * 6 + 1)
        have rf2 := HO7D.out.row.frozenAt (q * 6 + 2)
        have rf3 := HO7D.out.row.frozenAt (q * 6 + 3)
        have rf4 := HO7D.out.row.frozenAt (q * 6 + 4)
        have rf5 := HO7D.out.row.frozenAt (q * 6 + 5)
        have hqs : q < ls.length := by omega
        have hqg := List.getElem?_eq_getElem hqs
        have r0 := (HO7D.out.row.cellAt (q * 6) (by omega)).trans (rowOf_get ls q 0 _ hqg (by omega))
        have ra0 := (HO7.out.row.cellAt (q * 6) (by omega)).trans (rowOf_get ls q 0 _ hqg (by omega))
        have rg0 := HO7.out.row.frozenAt (q * 6)
        have r1 := (HO7D.out.row.cellAt (q * 6 + 1) (by omega)).trans (rowOf_get ls q 1 _ hqg (by omega))
        have ra1 := (HO7.out.row.cellAt (q * 6 + 1) (by omega)).trans (rowOf_get ls q 1 _ hqg (by omega))
        have rg1 := HO7.out.row.frozenAt (q * 6 + 1)
        have r2 := (HO7D.out.row.cellAt (q * 6 + 2) (by omega)).trans (rowOf_get ls q 2 _ hqg (by omega))
        have ra2 := (HO7.out.row.cellAt (q * 6 + 2) (by omega)).trans (rowOf_get ls q 2 _ hqg (by omega))
        have rg2 := HO7.out.row.frozenAt (q * 6 + 2)
        have r3 := (HO7D.out.row.cellAt (q * 6 + 3) (by omega)).trans (rowOf_get ls q 3 _ hqg (by omega))
        have ra3 := (HO7.out.row.cellAt (q * 6 + 3) (by omega)).trans (rowOf_get ls q 3 _ hqg (by omega))
        have rg3 := HO7.out.row.frozenAt (q * 6 + 3)
        have r4 := (HO7D.out.row.cellAt (q * 6 + 4) (by omega)).trans (rowOf_get ls q 4 _ hqg (by omega))
        have ra4 := (HO7.out.row.cellAt (q * 6 + 4) (by omega)).trans (rowOf_get ls q 4 _ hqg (by omega))
        have rg4 := HO7.out.row.frozenAt (q * 6 + 4)
        have r5 := (HO7D.out.row.cellAt (q * 6 + 5) (by omega)).trans (rowOf_get ls q 5 _ hqg (by omega))
        have ra5 := (HO7.out.row.cellAt (q * 6 + 5) (by omega)).trans (rowOf_get ls q 5 _ hqg (by omega))
        have rg5 := HO7.out.row.frozenAt (q * 6 + 5)
        simp only [LO.cells, List.getElem?_cons_zero, List.getElem?_cons_succ] at r0 r1 r2 r3 r4 r5 ra0 ra1 ra2 ra3 ra4 ra5
        have hwr : wo.heap.size ≠ rg := by omega
        clear hL7 hwo7 hV7 hqg
        refine wp_region_held_drew (S := (fun w' => w'.cell? ⟨gg, 0, none⟩ = some (.slice (some ⟨rg, 0, none⟩) h.objs.length h.objs.length) ∧ w'.cell? ⟨bl, ol + k, none⟩ = some (.int .i64 (q : Int)) ∧ w'.cell? ⟨wo.heap.size, 0, none⟩ = some (.int .i64 z) ∧ w'.cell? ⟨wo.heap.size, 1, none⟩ = some (.int .i64 o.kind) ∧ w'.cell? ⟨wo.heap.size, 2, none⟩ = some (.slice S3 xs.length d3) ∧ w'.cell? ⟨wo.heap.size, 3, none⟩ = some (.string o.text) ∧ w'.cell? ⟨wo.heap.size, 4, none⟩ = some (.int .i64 o.bits) ∧ w'.cell? ⟨wo.heap.size, 5, none⟩ = some (.int .i64 o.hash))) (by kernel_rfl) ?_ (fun hH0 => ?_)
        · exact ⟨g7, t7, e0, e1, e2, e3, e4, e5⟩
        refine wpAnyH_take (i := 0) (oi := { dst := some 50, op := Go.Op.fieldAddr 24 (Go.Operand.tmp 5) 0, type := 0, pos := "ref.go:148", after := #[], guard := none }) (v := ?vv18) rfl (by kernel_rfl) (by kernel_rfl) (by kernel_rfl) (fun _ _ _ h => h) (Or.inl ⟨by rfl, ?hy18⟩) (by assumption) ?rr18
        case hy18 => intro w hSw; (try dsimp only at hSw); go_simp; all_goals with_reducible rfl
        try simp only [Act.put, List.setIfInBounds_toArray, List.set_cons_zero, List.set_cons_succ]
        refine wpAnyH_take (i := 1) (oi := { dst := some 51, op := Go.Op.load 22 (Go.Operand.tmp 50), type := 22, pos := "ref.go:148", after := #[{ on := 0, ground := Go.Ground.data }], guard := none }) (v := ?vv19) rfl (by kernel_rfl) (by kernel_rfl) (by kernel_rfl) (fun _ _ _ h => h) (Or.inl ⟨by rfl, ?hy19⟩) (by assumption) ?rr19
        case hy19 => intro w hSw; (try dsimp only at hSw); go_simp; all_goals with_reducible rfl
        try simp only [Act.put, List.setIfInBounds_toArray, List.set_cons_zero, List.set_cons_succ]
        refine wpAnyH_take (i := 2) (oi := { dst := some 52, op := Go.Op.move (Go.Operand.tmp 1), type := 31, pos := "ref.go:148", after := #[], guard := none }) (v := ?vv20) rfl (by kernel_rfl) (by kernel_rfl) (by kernel_rfl) (fun _ _ _ h => h) (Or.inl ⟨by rfl, ?hy20⟩) (by assumption) ?rr20
        case hy20 => intro w hSw; (try dsimp only at hSw); go_simp; all_goals with_reducible rfl
        try simp only [Act.put, List.setIfInBounds_toArray, List.set_cons_zero, List.set_cons_succ]
        refine wpAnyH_take (i := 3) (oi := { dst := some 53, op := Go.Op.move (Go.Operand.tmp 6), type := 3, pos := "ref.go:148", after := #[], guard := none }) (v := ?vv21) rfl (by kernel_rfl) (by kernel_rfl) (by kernel_rfl) (fun _ _ _ h => h) (Or.inl ⟨by rfl, ?hy21⟩) (by assumption) ?rr21
        case hy21 => intro w hSw; (try dsimp only at hSw); go_simp; all_goals with_reducible rfl
        try simp only [Act.put, List.setIfInBounds_toArray, List.set_cons_zero, List.set_cons_succ]
        refine wpAnyH_take (i := 4) (oi := { dst := some 54, op := Go.Op.indexAddr 31 (Go.Operand.tmp 52) (Go.Operand.tmp 53), type := 0, pos := "ref.go:148", after := #[{ on := 2, ground := Go.Ground.data }, { on := 3, ground := Go.Ground.data }], guard := none }) (v := ?vv22) rfl (by kernel_rfl) (by kernel_rfl) (by kernel_rfl) (fun _ _ _ h => h) (Or.inl ⟨by rfl, ?hy22⟩) (by assumption) ?rr22
        case hy22 => intro w hSw; (try dsimp only at hSw); go_simp; all_goals with_reducible rfl
        try simp only [Act.put, List.setIfInBounds_toArray, List.set_cons_zero, List.set_cons_succ]
        refine wpAnyH_take (i := 5) (oi := { dst := some 55, op := Go.Op.load 3 (Go.Operand.tmp 54), type := 3, pos := "ref.go:148", after := #[{ on := 4, ground := Go.Ground.data }], guard := none }) (v := ?vv23) rfl (by kernel_rfl) (by kernel_rfl) (by kernel_rfl) (fun _ _ _ h => h) (Or.inl ⟨by rfl, ?hy23⟩) (by assumption) ?rr23
        case hy23 => intro w hSw; (try dsimp only at hSw); go_simp; all_goals with_reducible rfl
        try simp only [Act.put, List.setIfInBounds_toArray, List.set_cons_zero, List.set_cons_succ]
        refine wpAnyH_take (i := 6) (oi := { dst := some 56, op := Go.Op.load 39 (Go.Operand.tmp 7), type := 39, pos := "ref.go:148", after := #[], guard := none }) (v := ?vv24) rfl (by kernel_rfl) (by kernel_rfl) (by kernel_rfl) (fun _ _ _ h => h) (Or.inl ⟨by rfl, ?hy24⟩) (by assumption) ?rr24
        case hy24 => intro w hSw; (try dsimp only at hSw); go_simp; all_goals with_reducible rfl
        try simp only [Act.put, List.setIfInBounds_toArray, List.set_cons_zero, List.set_cons_succ]
        refine wpAnyH_take (i := 7) (oi := { dst := some 57, op := Go.Op.indexAddr 22 (Go.Operand.tmp 51) (Go.Operand.tmp 55), type := 0, pos := "ref.go:148", after := #[{ on := 1, ground := Go.Ground.data }, { on := 5, ground := Go.Ground.data }, { on := 0, ground := Go.Ground.phase }, { on := 1, ground := Go.Ground.phase }, { on := 2, ground := Go.Ground.phase }, { on := 3, ground := Go.Ground.phase }, { on := 4, ground := Go.Ground.phase }, { on := 5, ground := Go.Ground.phase }, { on := 6, ground := Go.Ground.phase }], guard := none }) (v := ?vv25) rfl (by kernel_rfl) (by kernel_rfl) (by kernel_rfl) (fun _ _ _ h => h) (Or.inl ⟨by rfl, ?hy25⟩) (by assumption) ?rr25
        case hy25 => intro w hSw; (try dsimp only at hSw); go_simp; all_goals with_reducible rfl
        try simp only [Act.put, List.setIfInBounds_toArray, List.set_cons_zero, List.set_cons_succ]
        refine wpAnyH_ready (rs := [8]) (by kernel_rfl) (by simp) ?_
        refine AllReadyH.cons (i := 8) (o := { dst := none, op := Go.Op.store 39 (Go.Operand.tmp 57) (Go.Operand.tmp 56), type := 0, pos := "ref.go:148", after := #[{ on := 7, ground := Go.Ground.data }, { on := 6, ground := Go.Ground.data }, { on := 0, ground := Go.Ground.phase }, { on := 1, ground := Go.Ground.phase }, { on := 2, ground := Go.Ground.phase }, { on := 3, ground := Go.Ground.phase }, { on := 4, ground := Go.Ground.phase }, { on := 5, ground := Go.Ground.phase }, { on := 6, ground := Go.Ground.phase }], guard := none }) rfl (fun K hK => ?_) AllReadyH.nil
        go_simp
        refine hK.out _ _ ?_ (fun hH1 => ?_)
        · exact ⟨far6d (fun e => hrn e.symm) hH0.1, far6d hblr hH0.2.1, far6d hwr hH0.2.2.1, far6d hwr hH0.2.2.2.1, far6d hwr hH0.2.2.2.2.1, far6d hwr hH0.2.2.2.2.2.1, far6d hwr hH0.2.2.2.2.2.2.1, far6d hwr hH0.2.2.2.2.2.2.2⟩
        clear hK K
        try simp only [Act.put, List.setIfInBounds_toArray, List.set_cons_zero, List.set_cons_succ]
        refine wpAnyH_done (by kernel_rfl) ?_ _
        go_wp2_with fail
        go_roundw
        case rel =>
          have hOP := HO7.out.put (n := q * 6) q (by omega) ⟨⟨z, o.kind, xs, o.text, o.bits, o.hash⟩, S3, d3⟩ HV7.out (by have := HW.out.size; omega) (fun i li a hi ha => by have := HO.out.blk_lt hi ha; omega) rfl
          have hBP : Below wa.heap.size wa w7 := HW.out.trans (HWW7.out.mono HW.out.size)
          refine ⟨k + 1, ls.set q ⟨⟨z, o.kind, xs, o.text, o.bits, o.hash⟩, S3, d3⟩, by omega, by go_num, hOP.later (Below.refl _ _).drew, by rw [map_set_o, HLS.out, HRN.out, HMO.out], ?_, ?_⟩
          · exact ((((((HG7.out.far (p := ⟨rg, q * 6, none⟩) (fun e => hrn e.symm) _).far (p := ⟨rg, q * 6 + 1, none⟩) (fun e => hrn e.symm) _).far (p := ⟨rg, q * 6 + 2, none⟩) (fun e => hrn e.symm) _).far (p := ⟨rg, q * 6 + 3, none⟩) (fun e => hrn e.symm) _).far (p := ⟨rg, q * 6 + 4, none⟩) (fun e => hrn e.symm) _).far (p := ⟨rg, q * 6 + 5, none⟩) (fun e => hrn e.symm) _).drew
          · exact ((((((hBP.setCell (p := ⟨rg, q * 6, none⟩) hrb _).setCell (p := ⟨rg, q * 6 + 1, none⟩) hrb _).setCell (p := ⟨rg, q * 6 + 2, none⟩) hrb _).setCell (p := ⟨rg, q * 6 + 3, none⟩) hrb _).setCell (p := ⟨rg, q * 6 + 4, none⟩) hrb _).setCell (p := ⟨rg, q * 6 + 5, none⟩) hrb _).drew
        case measure => simp [intOf]; omega
      · obtain rfl : k = h.objs.length := by omega
        have HK2 := hid (K0.out.later HW.out)
        have HB2 := hid (HB0.out.trans (HW.out.mono HB0.out.size))
        have z0 := HG.out.cell 0
        have z1 := HG.out.cell 1
        have z2 := HG.out.cell 2
        have u0 := HK2.out.cell 0
        have u1 := HK2.out.cell 1
        have u2 := HK2.out.cell 2
        have uf0 := HK2.out.frozen 0
        have uf1 := HK2.out.frozen 1
        have uf2 := HK2.out.frozen 2
        simp only [List.getElem?_toArray, List.getElem?_cons_zero, List.getElem?_cons_succ] at z0 z1 z2 u0 u1 u2
        go_wp2_with fail
        have KF := (((HK2.out.set_ 0 (.slice (some ⟨rg, 0, none⟩) h.objs.length h.objs.length)).set_ 1 (.int .i64 h.cap)).set_ 2 (.int .i64 h.last))
        have r0 := KF.cell 0
        have r1 := KF.cell 1
        have r2 := KF.cell 2
        simp only [List.setIfInBounds_toArray, List.set_cons_zero, List.set_cons_succ, List.getElem?_toArray, List.getElem?_cons_zero, List.getElem?_cons_succ] at r0 r1 r2
        refine bodyPost_ret (v := .agg #[.slice (some ⟨rg, 0, none⟩) h.objs.length h.objs.length, .int .i64 h.cap, .int .i64 h.last]) (by simp [results, Try.results26, go_sem, r0, r1, r2]) rfl ?_
        refine ⟨some ⟨rg, 0, none⟩, h.objs.length, _, by rw [rnK_len], HLS.out, OwnH.lower (base := wa.heap.size) ?_ (by omega), ?_⟩
        · exact ((HO.out.low (p := ⟨w.heap.size + 1, 0, none⟩) hka _).low (p := ⟨w.heap.size + 1, 1, none⟩) hka _).low (p := ⟨w.heap.size + 1, 2, none⟩) hka _
        · exact (((HB2.out.setCell (p := ⟨w.heap.size + 1, 0, none⟩) (by simp) _).setCell (p := ⟨w.heap.size + 1, 1, none⟩) (by simp) _).setCell (p := ⟨w.heap.size + 1, 2, none⟩) (by simp) _)
end Go.Proofs.Ytnilempeldlieaa
