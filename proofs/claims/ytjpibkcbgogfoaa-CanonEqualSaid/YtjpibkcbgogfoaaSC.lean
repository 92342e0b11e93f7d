/- canon.Same's closure walked: are two objects the same by their new numbers? -/
import Derived.Test.YtjpibkcbgogfoaaEQ
import Derived.Test.YtjpibkcbgogfoaaNM
namespace Go.Proofs.Ytjpibkcbgogfoaa
open Go.RowKit
set_option maxRecDepth 100000
theorem two_old {w : World} {p : Addr} {v : Value} {o1 o2 : Obj} (h : w.cell? p = some v) : ((w.alloc o1).alloc o2).drew.cell? p = some v := cell_later (Below.refl _ _).drew (cell_old (cell_old h))
theorem text_inj {s t : ByteArray} (h : s.toList = t.toList) : s = t := by
  rw [ByteArray.toList_eq, ByteArray.toList_eq] at h
  have := Array.toList_inj.1 h
  cases s; cases t; simp_all
theorem ob_eq {o p : Ob} (h0 : o.cls = p.cls) (h1 : o.kind = p.kind) (h2 : o.slots = p.slots) (h3 : o.text = p.text) (h4 : o.bits = p.bits) (h5 : o.hash = p.hash) : o = p := by
  cases o; cases p; simp_all
set_option maxHeartbeats 1500000 in
theorem pair1_any (os ps : List Ob) (i : Nat) (o p : Ob) (ho : os[i]? = some o) (hp : ps[i]? = some p) (A B : Option Addr) (c d gb hb : Nat) (w : World) (g0 : w.cell? ⟨gb, 0, none⟩ = some (.slice A os.length c)) (h0 : w.cell? ⟨hb, 0, none⟩ = some (.slice B ps.length d))
    (hs : ObsR w A os) (ht : ObsR w B ps) (hol : o.slots.length ≤ 9223372036854775807) (hn : os.length ≤ 9223372036854775807) (hn2 : ps.length ≤ 9223372036854775807) :
    Calls Try.prog 74 #[.int .i64 i, .pointer (some ⟨gb, 0, none⟩), .pointer (some ⟨hb, 0, none⟩)] w fun e w' => ∃ t : Bool, e = .returned (.bool t) ∧ (t = true ↔ o = p) ∧ Below w.heap.size w w' := by
  have hi1 : i < os.length := (List.getElem?_eq_some_iff.1 ho).1
  have hi2 : i < ps.length := (List.getElem?_eq_some_iff.1 hp).1
  obtain ⟨b, off, rfl, hb1, hc1⟩ := hs (by omega)
  obtain ⟨b2, off2, rfl, hb2, hc2⟩ := ht (by omega)
  obtain ⟨S, ds, hob, hin, -, -⟩ := hc1 i _ ho
  obtain ⟨T, dt, hob2, hin2, -, -⟩ := hc2 i _ hp
  obtain ⟨x0, x1, x2, x3, x4, x5⟩ := hob
  obtain ⟨y0, y1, y2, y3, y4, y5⟩ := hob2
  have HXS := hid hin
  have HYS := hid hin2
  clear hc1 hc2 hin hin2 hs ht ho hp hb1 hb2
  go_enter Try.func74, Try.ntmps74
  go_wp2_with fail
  refine wp_region_held_drew (S := (fun w' => w'.cell? ⟨gb, 0, none⟩ = some (.slice (some ⟨b, off, none⟩) os.length c) ∧ w'.cell? ⟨hb, 0, none⟩ = some (.slice (some ⟨b2, off2, none⟩) ps.length d) ∧ w'.cell? ⟨b, off + i * 6, none⟩ = some (.int .i64 o.cls) ∧ w'.cell? ⟨b, off + i * 6 + 1, none⟩ = some (.int .i64 o.kind) ∧ w'.cell? ⟨b, off + i * 6 + 2, none⟩ = some (.slice S o.slots.length ds) ∧ w'.cell? ⟨b, off + i * 6 + 3, none⟩ = some (.string o.text) ∧ w'.cell? ⟨b, off + i * 6 + 4, none⟩ = some (.int .i64 o.bits) ∧ w'.cell? ⟨b, off + i * 6 + 5, none⟩ = some (.int .i64 o.hash) ∧ w'.cell? ⟨b2, off2 + i * 6, none⟩ = some (.int .i64 p.cls) ∧ w'.cell? ⟨b2, off2 + i * 6 + 1, none⟩ = some (.int .i64 p.kind) ∧ w'.cell? ⟨b2, off2 + i * 6 + 2, none⟩ = some (.slice T p.slots.length dt) ∧ w'.cell? ⟨b2, off2 + i * 6 + 3, none⟩ = some (.string p.text) ∧ w'.cell? ⟨b2, off2 + i * 6 + 4, none⟩ = some (.int .i64 p.bits) ∧ w'.cell? ⟨b2, off2 + i * 6 + 5, none⟩ = some (.int .i64 p.hash))) (by kernel_rfl) ?_ (fun hH0 => ?_)
  · exact ⟨g0, h0, x0, x1, x2, x3, x4, x5, y0, y1, y2, y3, y4, y5⟩
  refine wpAnyH_take (i := 0) (oi := { dst := some 7, op := Go.Op.fieldAddr 24 (Go.Operand.tmp 1) 0, type := 0, pos := "canon.go:35", after := #[], guard := none }) (v := ?vv1) rfl (by kernel_rfl) (by kernel_rfl) (by kernel_rfl) (fun _ _ _ h => h) (Or.inl ⟨by rfl, ?hy1⟩) (by assumption) ?rr1
  case hy1 => intro w hSw; (try dsimp only at hSw); go_simp; all_goals with_reducible rfl
  try simp only [Act.put, List.setIfInBounds_toArray, List.set_cons_zero, List.set_cons_succ]
  refine wpAnyH_take (i := 1) (oi := { dst := some 8, op := Go.Op.load 22 (Go.Operand.tmp 7), type := 22, pos := "canon.go:35", after := #[{ on := 0, ground := Go.Ground.data }], guard := none }) (v := ?vv2) rfl (by kernel_rfl) (by kernel_rfl) (by kernel_rfl) (fun _ _ _ h => h) (Or.inl ⟨by rfl, ?hy2⟩) (by assumption) ?rr2
  case hy2 => intro w hSw; (try dsimp only at hSw); go_simp; all_goals with_reducible rfl
  try simp only [Act.put, List.setIfInBounds_toArray, List.set_cons_zero, List.set_cons_succ]
  refine wpAnyH_take (i := 2) (oi := { dst := some 9, op := Go.Op.move (Go.Operand.tmp 0), type := 3, pos := "canon.go:35", after := #[], guard := none }) (v := ?vv3) rfl (by kernel_rfl) (by kernel_rfl) (by kernel_rfl) (fun _ _ _ h => h) (Or.inl ⟨by rfl, ?hy3⟩) (by assumption) ?rr3
  case hy3 => intro w hSw; (try dsimp only at hSw); go_simp; all_goals with_reducible rfl
  try simp only [Act.put, List.setIfInBounds_toArray, List.set_cons_zero, List.set_cons_succ]
  refine wpAnyH_take (i := 3) (oi := { dst := some 10, op := Go.Op.indexAddr 22 (Go.Operand.tmp 8) (Go.Operand.tmp 9), type := 0, pos := "canon.go:35", after := #[{ on := 1, ground := Go.Ground.data }, { on := 2, ground := Go.Ground.data }], guard := none }) (v := ?vv4) rfl (by kernel_rfl) (by kernel_rfl) (by kernel_rfl) (fun _ _ _ h => h) (Or.inl ⟨by rfl, ?hy4⟩) (by assumption) ?rr4
  case hy4 => intro w hSw; (try dsimp only at hSw); go_simp; all_goals with_reducible rfl
  try simp only [Act.put, List.setIfInBounds_toArray, List.set_cons_zero, List.set_cons_succ]
  refine wpAnyH_take (i := 4) (oi := { dst := some 11, op := Go.Op.load 46 (Go.Operand.tmp 10), type := 46, pos := "canon.go:35", after := #[{ on := 3, ground := Go.Ground.data }], guard := none }) (v := ?vv5) rfl (by kernel_rfl) (by kernel_rfl) (by kernel_rfl) (fun _ _ _ h => h) (Or.inl ⟨by rfl, ?hy5⟩) (by assumption) ?rr5
  case hy5 => intro w hSw; (try dsimp only at hSw); go_simp; all_goals with_reducible rfl
  try simp only [Act.put, List.setIfInBounds_toArray, List.set_cons_zero, List.set_cons_succ]
  refine wpAnyH_take (i := 5) (oi := { dst := some 12, op := Go.Op.fieldAddr 24 (Go.Operand.tmp 2) 0, type := 0, pos := "canon.go:35", after := #[{ on := 12, ground := Go.Ground.gcOnly Go.Departure.lateStores }], guard := none }) (v := ?vv6) rfl (by kernel_rfl) (by kernel_rfl) (by kernel_rfl) (fun _ _ _ h => h) (Or.inl ⟨by rfl, ?hy6⟩) (by assumption) ?rr6
  case hy6 => intro w hSw; (try dsimp only at hSw); go_simp; all_goals with_reducible rfl
  try simp only [Act.put, List.setIfInBounds_toArray, List.set_cons_zero, List.set_cons_succ]
  refine wpAnyH_take (i := 6) (oi := { dst := some 13, op := Go.Op.load 22 (Go.Operand.tmp 12), type := 22, pos := "canon.go:35", after := #[{ on := 5, ground := Go.Ground.data }, { on := 12, ground := Go.Ground.gcOnly Go.Departure.lateStores }], guard := none }) (v := ?vv7) rfl (by kernel_rfl) (by kernel_rfl) (by kernel_rfl) (fun _ _ _ h => h) (Or.inl ⟨by rfl, ?hy7⟩) (by assumption) ?rr7
  case hy7 => intro w hSw; (try dsimp only at hSw); go_simp; all_goals with_reducible rfl
  try simp only [Act.put, List.setIfInBounds_toArray, List.set_cons_zero, List.set_cons_succ]
  refine wpAnyH_take (i := 7) (oi := { dst := some 14, op := Go.Op.move (Go.Operand.tmp 0), type := 3, pos := "canon.go:35", after := #[{ on := 12, ground := Go.Ground.gcOnly Go.Departure.lateStores }], guard := none }) (v := ?vv8) rfl (by kernel_rfl) (by kernel_rfl) (by kernel_rfl) (fun _ _ _ h => h) (Or.inl ⟨by rfl, ?hy8⟩) (by assumption) ?rr8
  case hy8 => intro w hSw; (try dsimp only at hSw); go_simp; all_goals with_reducible rfl
  try simp only [Act.put, List.setIfInBounds_toArray, List.set_cons_zero, List.set_cons_succ]
  refine wpAnyH_take (i := 8) (oi := { dst := some 15, op := Go.Op.indexAddr 22 (Go.Operand.tmp 13) (Go.Operand.tmp 14), type := 0, pos := "canon.go:35", after := #[{ on := 6, ground := Go.Ground.data }, { on := 7, ground := Go.Ground.data }, { on := 12, ground := Go.Ground.gcOnly Go.Departure.lateStores }], guard := none }) (v := ?vv9) rfl (by kernel_rfl) (by kernel_rfl) (by kernel_rfl) (fun _ _ _ h => h) (Or.inl ⟨by rfl, ?hy9⟩) (by assumption) ?rr9
  case hy9 => intro w hSw; (try dsimp only at hSw); go_simp; all_goals with_reducible rfl
  try simp only [Act.put, List.setIfInBounds_toArray, List.set_cons_zero, List.set_cons_succ]
  refine wpAnyH_take (i := 9) (oi := { dst := some 16, op := Go.Op.load 46 (Go.Operand.tmp 15), type := 46, pos := "canon.go:35", after := #[{ on := 8, ground := Go.Ground.data }, { on := 12, ground := Go.Ground.gcOnly Go.Departure.lateStores }], guard := none }) (v := ?vv10) rfl (by kernel_rfl) (by kernel_rfl) (by kernel_rfl) (fun _ _ _ h => h) (Or.inl ⟨by rfl, ?hy10⟩) (by assumption) ?rr10
  case hy10 => intro w hSw; (try dsimp only at hSw); go_simp; all_goals with_reducible rfl
  try simp only [Act.put, List.setIfInBounds_toArray, List.set_cons_zero, List.set_cons_succ]
  refine wpAnyH_ready (rs := [10, 11]) (by kernel_rfl) (by simp) ?_
  refine AllReadyH.cons (i := 10) (o := { dst := some 5, op := Go.Op.alloc 46, type := 0, pos := "canon.go:35", after := #[], guard := none }) rfl (fun K hK => ?_) (AllReadyH.cons (i := 11) (o := { dst := some 6, op := Go.Op.alloc 46, type := 0, pos := "canon.go:35", after := #[], guard := none }) rfl (fun K hK => ?_) AllReadyH.nil)
  · go_simp
    refine hK.out _ _ ?_ (fun hH1 => ?_)
    · exact ⟨cell_old hH0.1, cell_old hH0.2.1, cell_old hH0.2.2.1, cell_old hH0.2.2.2.1, cell_old hH0.2.2.2.2.1, cell_old hH0.2.2.2.2.2.1, cell_old hH0.2.2.2.2.2.2.1, cell_old hH0.2.2.2.2.2.2.2.1, cell_old hH0.2.2.2.2.2.2.2.2.1, cell_old hH0.2.2.2.2.2.2.2.2.2.1, cell_old hH0.2.2.2.2.2.2.2.2.2.2.1, cell_old hH0.2.2.2.2.2.2.2.2.2.2.2.1, cell_old hH0.2.2.2.2.2.2.2.2.2.2.2.2.1, cell_old hH0.2.2.2.2.2.2.2.2.2.2.2.2.2⟩
    clear hK K
    try simp only [Act.put, List.setIfInBounds_toArray, List.set_cons_zero, List.set_cons_succ]
    refine wpAnyH_ready (rs := [11]) (by kernel_rfl) (by simp) ?_
    refine AllReadyH.cons (i := 11) (o := { dst := some 6, op := Go.Op.alloc 46, type := 0, pos := "canon.go:35", after := #[], guard := none }) rfl (fun K hK => ?_) AllReadyH.nil
    go_simp
    refine hK.out _ _ ?_ (fun hH2 => ?_)
    · exact ⟨cell_old hH1.1, cell_old hH1.2.1, cell_old hH1.2.2.1, cell_old hH1.2.2.2.1, cell_old hH1.2.2.2.2.1, cell_old hH1.2.2.2.2.2.1, cell_old hH1.2.2.2.2.2.2.1, cell_old hH1.2.2.2.2.2.2.2.1, cell_old hH1.2.2.2.2.2.2.2.2.1, cell_old hH1.2.2.2.2.2.2.2.2.2.1, cell_old hH1.2.2.2.2.2.2.2.2.2.2.1, cell_old hH1.2.2.2.2.2.2.2.2.2.2.2.1, cell_old hH1.2.2.2.2.2.2.2.2.2.2.2.2.1, cell_old hH1.2.2.2.2.2.2.2.2.2.2.2.2.2⟩
    clear hK K
    try simp only [Act.put, List.setIfInBounds_toArray, List.set_cons_zero, List.set_cons_succ]
    refine wpAnyH_ready (rs := [12]) (by kernel_rfl) (by simp) ?_
    refine AllReadyH.cons (i := 12) (o := { dst := none, op := Go.Op.store 46 (Go.Operand.tmp 5) (Go.Operand.tmp 11), type := 0, pos := "canon.go:35", after := #[{ on := 10, ground := Go.Ground.data }, { on := 4, ground := Go.Ground.data }, { on := 0, ground := Go.Ground.phase }, { on := 1, ground := Go.Ground.phase }, { on := 2, ground := Go.Ground.phase }, { on := 3, ground := Go.Ground.phase }, { on := 4, ground := Go.Ground.phase }, { on := 5, ground := Go.Ground.textOnly Go.Departure.lateStores }, { on := 6, ground := Go.Ground.textOnly Go.Departure.lateStores }, { on := 7, ground := Go.Ground.textOnly Go.Departure.lateStores }, { on := 8, ground := Go.Ground.textOnly Go.Departure.lateStores }, { on := 9, ground := Go.Ground.textOnly Go.Departure.lateStores }, { on := 10, ground := Go.Ground.phase }, { on := 11, ground := Go.Ground.phase }], guard := none }) rfl (fun K hK => ?_) AllReadyH.nil
    go_simp
    refine hK.out _ _ ?_ (fun hH3 => ?_)
    · exact ⟨two_old g0, two_old h0, two_old x0, two_old x1, two_old x2, two_old x3, two_old x4, two_old x5, two_old y0, two_old y1, two_old y2, two_old y3, two_old y4, two_old y5⟩
    clear hK K
    try simp only [Act.put, List.setIfInBounds_toArray, List.set_cons_zero, List.set_cons_succ]
    refine wpAnyH_ready (rs := [13]) (by kernel_rfl) (by simp) ?_
    refine AllReadyH.cons (i := 13) (o := { dst := none, op := Go.Op.store 46 (Go.Operand.tmp 6) (Go.Operand.tmp 16), type := 0, pos := "canon.go:35", after := #[{ on := 11, ground := Go.Ground.data }, { on := 9, ground := Go.Ground.data }, { on := 12, ground := Go.Ground.chain }, { on := 0, ground := Go.Ground.phase }, { on := 1, ground := Go.Ground.phase }, { on := 2, ground := Go.Ground.phase }, { on := 3, ground := Go.Ground.phase }, { on := 4, ground := Go.Ground.phase }, { on := 5, ground := Go.Ground.phase }, { on := 6, ground := Go.Ground.phase }, { on := 7, ground := Go.Ground.phase }, { on := 8, ground := Go.Ground.phase }, { on := 9, ground := Go.Ground.phase }, { on := 10, ground := Go.Ground.phase }, { on := 11, ground := Go.Ground.phase }, { on := 12, ground := Go.Ground.phase }], guard := none }) rfl (fun K hK => ?_) AllReadyH.nil
    go_simp
    refine hK.out _ _ ?_ (fun hH4 => ?_)
    · exact ⟨two_old g0, two_old h0, two_old x0, two_old x1, two_old x2, two_old x3, two_old x4, two_old x5, two_old y0, two_old y1, two_old y2, two_old y3, two_old y4, two_old y5⟩
    clear hK K
    try simp only [Act.put, List.setIfInBounds_toArray, List.set_cons_zero, List.set_cons_succ]
    refine wpAnyH_done (by kernel_rfl) ?_ _
    obtain ⟨W, hW⟩ : ∃ W, W = ((w.alloc (.cells #[.int .i64 o.cls, .int .i64 o.kind, .slice S o.slots.length ds, .string o.text, .int .i64 o.bits, .int .i64 o.hash] 46)).alloc (.cells #[.int .i64 p.cls, .int .i64 p.kind, .slice T p.slots.length dt, .string p.text, .int .i64 p.bits, .int .i64 p.hash] 46)).drew := ⟨_, rfl⟩
    have hB : Below w.heap.size w W := by rw [hW]; exact ((below_alloc w _).alloc (by simp) _).drew
    have hL1 : Lies W w.heap.size 46 #[.int .i64 o.cls, .int .i64 o.kind, .slice S o.slots.length ds, .string o.text, .int .i64 o.bits, .int .i64 o.hash] := by rw [hW]; exact ((Lies.new w 46 _).alloc _).drew
    have hL2 : Lies W (w.heap.size + 1) 46 #[.int .i64 p.cls, .int .i64 p.kind, .slice T p.slots.length dt, .string p.text, .int .i64 p.bits, .int .i64 p.hash] := by
      rw [hW]
      have := (Lies.new (w.alloc (.cells #[.int .i64 o.cls, .int .i64 o.kind, .slice S o.slots.length ds, .string o.text, .int .i64 o.bits, .int .i64 o.hash] 46)) 46 #[.int .i64 p.cls, .int .i64 p.kind, .slice T p.slots.length dt, .string p.text, .int .i64 p.bits, .int .i64 p.hash]).drew
      simpa using this
    rw [← hW]
    have e0 := hL1.cell 0
    have f0 := hL2.cell 0
    have e1 := hL1.cell 1
    have f1 := hL2.cell 1
    have e2 := hL1.cell 2
    have f2 := hL2.cell 2
    have e3 := hL1.cell 3
    have f3 := hL2.cell 3
    have e4 := hL1.cell 4
    have f4 := hL2.cell 4
    have e5 := hL1.cell 5
    have f5 := hL2.cell 5
    simp only [List.getElem?_toArray, List.getElem?_cons_zero, List.getElem?_cons_succ] at e0 e1 e2 e3 e4 e5 f0 f1 f2 f3 f4 f5
    have HB := hid hB
    have HXI := hid (HXS.out.below hB)
    have HYI := hid (HYS.out.below hB)
    clear hB hL1 hL2 hW g0 h0 x0 x1 x2 x3 x4 x5 y0 y1 y2 y3 y4 y5
    by_cases q0 : o.cls = p.cls
    · have t0 : (o.cls == p.cls) = true := by rw [q0]; simp
      have Q0 := hid q0
      clear q0
      by_cases q1 : o.kind = p.kind
      · have t1 : (o.kind == p.kind) = true := by rw [q1]; simp
        have Q1 := hid q1
        clear q1
        by_cases q2 : o.text = p.text
        · have t2 : o.text.toList = p.text.toList := by rw [q2]
          have Q2 := hid q2
          clear q2
          by_cases q3 : o.bits = p.bits
          · have t3 : (o.bits == p.bits) = true := by rw [q3]; simp
            have Q3 := hid q3
            clear q3
            by_cases q4 : o.hash = p.hash
            · have t4 : (o.hash == p.hash) = true := by rw [q4]; simp
              have Q4 := hid q4
              clear q4
              by_cases q5 : o.slots = p.slots
              · have hEQ : Hid (o = p) := by
                  exact ob_eq Q0.out Q1.out q5 Q2.out Q3.out Q4.out
                have Q5 := hid q5
                clear q5
                go_wp2_with fail
                refine (equal_any o.slots p.slots S T ds dt W HXI.out HYI.out hol).mono ?_
                rintro e w' ⟨rfl, hb9⟩
                rw [decide_eq_true Q5.out]
                have HBB := hid (then_b HB.out hb9)
                clear hb9
                go_wp2_with fail
                go_ret
                exact ⟨true, rfl, ⟨fun _ => hEQ.out, fun _ => rfl⟩, HBB.out⟩
              · have hEQ : Hid (¬ o = p) := by
                  show ¬ _
                  intro e; exact q5 (by rw [e])
                have Q5 := hid q5
                clear q5
                go_wp2_with fail
                refine (equal_any o.slots p.slots S T ds dt W HXI.out HYI.out hol).mono ?_
                rintro e w' ⟨rfl, hb9⟩
                rw [decide_eq_false Q5.out]
                have HBB := hid (then_b HB.out hb9)
                clear hb9
                go_wp2_with fail
                go_ret
                exact ⟨false, rfl, ⟨fun g => (by cases g), fun g => absurd g hEQ.out⟩, HBB.out⟩
            · have t4 : (o.hash == p.hash) = false := by simpa using q4
              have hEQ : Hid (¬ o = p) := by
                show ¬ _
                intro e; exact q4 (by rw [e])
              clear q4
              go_wp2_with fail
              go_ret
              exact ⟨false, rfl, ⟨fun g => (by cases g), fun g => absurd g hEQ.out⟩, HB.out⟩
          · have t3 : (o.bits == p.bits) = false := by simpa using q3
            have hEQ : Hid (¬ o = p) := by
              show ¬ _
              intro e; exact q3 (by rw [e])
            clear q3
            go_wp2_with fail
            go_ret
            exact ⟨false, rfl, ⟨fun g => (by cases g), fun g => absurd g hEQ.out⟩, HB.out⟩
        · have t2 : ¬ o.text.toList = p.text.toList := fun e => q2 (text_inj e)
          have hEQ : Hid (¬ o = p) := by
            show ¬ _
            intro e; exact q2 (by rw [e])
          clear q2
          go_wp2_with fail
          go_ret
          exact ⟨false, rfl, ⟨fun g => (by cases g), fun g => absurd g hEQ.out⟩, HB.out⟩
      · have t1 : (o.kind == p.kind) = false := by simpa using q1
        have hEQ : Hid (¬ o = p) := by
          show ¬ _
          intro e; exact q1 (by rw [e])
        clear q1
        go_wp2_with fail
        go_ret
        exact ⟨false, rfl, ⟨fun g => (by cases g), fun g => absurd g hEQ.out⟩, HB.out⟩
    · have t0 : (o.cls == p.cls) = false := by simpa using q0
      have hEQ : Hid (¬ o = p) := by
        show ¬ _
        intro e; exact q0 (by rw [e])
      clear q0
      go_wp2_with fail
      go_ret
      exact ⟨false, rfl, ⟨fun g => (by cases g), fun g => absurd g hEQ.out⟩, HB.out⟩
  · go_simp
    refine hK.out _ _ ?_ (fun hH1 => ?_)
    · exact ⟨cell_old hH0.1, cell_old hH0.2.1, cell_old hH0.2.2.1, cell_old hH0.2.2.2.1, cell_old hH0.2.2.2.2.1, cell_old hH0.2.2.2.2.2.1, cell_old hH0.2.2.2.2.2.2.1, cell_old hH0.2.2.2.2.2.2.2.1, cell_old hH0.2.2.2.2.2.2.2.2.1, cell_old hH0.2.2.2.2.2.2.2.2.2.1, cell_old hH0.2.2.2.2.2.2.2.2.2.2.1, cell_old hH0.2.2.2.2.2.2.2.2.2.2.2.1, cell_old hH0.2.2.2.2.2.2.2.2.2.2.2.2.1, cell_old hH0.2.2.2.2.2.2.2.2.2.2.2.2.2⟩
    clear hK K
    try simp only [Act.put, List.setIfInBounds_toArray, List.set_cons_zero, List.set_cons_succ]
    refine wpAnyH_ready (rs := [10]) (by kernel_rfl) (by simp) ?_
    refine AllReadyH.cons (i := 10) (o := { dst := some 5, op := Go.Op.alloc 46, type := 0, pos := "canon.go:35", after := #[], guard := none }) rfl (fun K hK => ?_) AllReadyH.nil
    go_simp
    refine hK.out _ _ ?_ (fun hH2 => ?_)
    · exact ⟨cell_old hH1.1, cell_old hH1.2.1, cell_old hH1.2.2.1, cell_old hH1.2.2.2.1, cell_old hH1.2.2.2.2.1, cell_old hH1.2.2.2.2.2.1, cell_old hH1.2.2.2.2.2.2.1, cell_old hH1.2.2.2.2.2.2.2.1, cell_old hH1.2.2.2.2.2.2.2.2.1, cell_old hH1.2.2.2.2.2.2.2.2.2.1, cell_old hH1.2.2.2.2.2.2.2.2.2.2.1, cell_old hH1.2.2.2.2.2.2.2.2.2.2.2.1, cell_old hH1.2.2.2.2.2.2.2.2.2.2.2.2.1, cell_old hH1.2.2.2.2.2.2.2.2.2.2.2.2.2⟩
    clear hK K
    try simp only [Act.put, List.setIfInBounds_toArray, List.set_cons_zero, List.set_cons_succ]
    refine wpAnyH_ready (rs := [12]) (by kernel_rfl) (by simp) ?_
    refine AllReadyH.cons (i := 12) (o := { dst := none, op := Go.Op.store 46 (Go.Operand.tmp 5) (Go.Operand.tmp 11), type := 0, pos := "canon.go:35", after := #[{ on := 10, ground := Go.Ground.data }, { on := 4, ground := Go.Ground.data }, { on := 0, ground := Go.Ground.phase }, { on := 1, ground := Go.Ground.phase }, { on := 2, ground := Go.Ground.phase }, { on := 3, ground := Go.Ground.phase }, { on := 4, ground := Go.Ground.phase }, { on := 5, ground := Go.Ground.textOnly Go.Departure.lateStores }, { on := 6, ground := Go.Ground.textOnly Go.Departure.lateStores }, { on := 7, ground := Go.Ground.textOnly Go.Departure.lateStores }, { on := 8, ground := Go.Ground.textOnly Go.Departure.lateStores }, { on := 9, ground := Go.Ground.textOnly Go.Departure.lateStores }, { on := 10, ground := Go.Ground.phase }, { on := 11, ground := Go.Ground.phase }], guard := none }) rfl (fun K hK => ?_) AllReadyH.nil
    go_simp
    refine hK.out _ _ ?_ (fun hH3 => ?_)
    · exact ⟨two_old g0, two_old h0, two_old x0, two_old x1, two_old x2, two_old x3, two_old x4, two_old x5, two_old y0, two_old y1, two_old y2, two_old y3, two_old y4, two_old y5⟩
    clear hK K
    try simp only [Act.put, List.setIfInBounds_toArray, List.set_cons_zero, List.set_cons_succ]
    refine wpAnyH_ready (rs := [13]) (by kernel_rfl) (by simp) ?_
    refine AllReadyH.cons (i := 13) (o := { dst := none, op := Go.Op.store 46 (Go.Operand.tmp 6) (Go.Operand.tmp 16), type := 0, pos := "canon.go:35", after := #[{ on := 11, ground := Go.Ground.data }, { on := 9, ground := Go.Ground.data }, { on := 12, ground := Go.Ground.chain }, { on := 0, ground := Go.Ground.phase }, { on := 1, ground := Go.Ground.phase }, { on := 2, ground := Go.Ground.phase }, { on := 3, ground := Go.Ground.phase }, { on := 4, ground := Go.Ground.phase }, { on := 5, ground := Go.Ground.phase }, { on := 6, ground := Go.Ground.phase }, { on := 7, ground := Go.Ground.phase }, { on := 8, ground := Go.Ground.phase }, { on := 9, ground := Go.Ground.phase }, { on := 10, ground := Go.Ground.phase }, { on := 11, ground := Go.Ground.phase }, { on := 12, ground := Go.Ground.phase }], guard := none }) rfl (fun K hK => ?_) AllReadyH.nil
    go_simp
    refine hK.out _ _ ?_ (fun hH4 => ?_)
    · exact ⟨two_old g0, two_old h0, two_old x0, two_old x1, two_old x2, two_old x3, two_old x4, two_old x5, two_old y0, two_old y1, two_old y2, two_old y3, two_old y4, two_old y5⟩
    clear hK K
    try simp only [Act.put, List.setIfInBounds_toArray, List.set_cons_zero, List.set_cons_succ]
    refine wpAnyH_done (by kernel_rfl) ?_ _
    obtain ⟨W, hW⟩ : ∃ W, W = ((w.alloc (.cells #[.int .i64 p.cls, .int .i64 p.kind, .slice T p.slots.length dt, .string p.text, .int .i64 p.bits, .int .i64 p.hash] 46)).alloc (.cells #[.int .i64 o.cls, .int .i64 o.kind, .slice S o.slots.length ds, .string o.text, .int .i64 o.bits, .int .i64 o.hash] 46)).drew := ⟨_, rfl⟩
    have hB : Below w.heap.size w W := by rw [hW]; exact ((below_alloc w _).alloc (by simp) _).drew
    have hL1 : Lies W w.heap.size 46 #[.int .i64 p.cls, .int .i64 p.kind, .slice T p.slots.length dt, .string p.text, .int .i64 p.bits, .int .i64 p.hash] := by rw [hW]; exact ((Lies.new w 46 _).alloc _).drew
    have hL2 : Lies W (w.heap.size + 1) 46 #[.int .i64 o.cls, .int .i64 o.kind, .slice S o.slots.length ds, .string o.text, .int .i64 o.bits, .int .i64 o.hash] := by
      rw [hW]
      have := (Lies.new (w.alloc (.cells #[.int .i64 p.cls, .int .i64 p.kind, .slice T p.slots.length dt, .string p.text, .int .i64 p.bits, .int .i64 p.hash] 46)) 46 #[.int .i64 o.cls, .int .i64 o.kind, .slice S o.slots.length ds, .string o.text, .int .i64 o.bits, .int .i64 o.hash]).drew
      simpa using this
    rw [← hW]
    have e0 := hL1.cell 0
    have f0 := hL2.cell 0
    have e1 := hL1.cell 1
    have f1 := hL2.cell 1
    have e2 := hL1.cell 2
    have f2 := hL2.cell 2
    have e3 := hL1.cell 3
    have f3 := hL2.cell 3
    have e4 := hL1.cell 4
    have f4 := hL2.cell 4
    have e5 := hL1.cell 5
    have f5 := hL2.cell 5
    simp only [List.getElem?_toArray, List.getElem?_cons_zero, List.getElem?_cons_succ] at e0 e1 e2 e3 e4 e5 f0 f1 f2 f3 f4 f5
    have HB := hid hB
    have HXI := hid (HXS.out.below hB)
    have HYI := hid (HYS.out.below hB)
    clear hB hL1 hL2 hW g0 h0 x0 x1 x2 x3 x4 x5 y0 y1 y2 y3 y4 y5
    by_cases q0 : o.cls = p.cls
    · have t0 : (o.cls == p.cls) = true := by rw [q0]; simp
      have Q0 := hid q0
      clear q0
      by_cases q1 : o.kind = p.kind
      · have t1 : (o.kind == p.kind) = true := by rw [q1]; simp
        have Q1 := hid q1
        clear q1
        by_cases q2 : o.text = p.text
        · have t2 : o.text.toList = p.text.toList := by rw [q2]
          have Q2 := hid q2
          clear q2
          by_cases q3 : o.bits = p.bits
          · have t3 : (o.bits == p.bits) = true := by rw [q3]; simp
            have Q3 := hid q3
            clear q3
            by_cases q4 : o.hash = p.hash
            · have t4 : (o.hash == p.hash) = true := by rw [q4]; simp
              have Q4 := hid q4
              clear q4
              by_cases q5 : o.slots = p.slots
              · have hEQ : Hid (o = p) := by
                  exact ob_eq Q0.out Q1.out q5 Q2.out Q3.out Q4.out
                have Q5 := hid q5
                clear q5
                go_wp2_with fail
                refine (equal_any o.slots p.slots S T ds dt W HXI.out HYI.out hol).mono ?_
                rintro e w' ⟨rfl, hb9⟩
                rw [decide_eq_true Q5.out]
                have HBB := hid (then_b HB.out hb9)
                clear hb9
                go_wp2_with fail
                go_ret
                exact ⟨true, rfl, ⟨fun _ => hEQ.out, fun _ => rfl⟩, HBB.out⟩
              · have hEQ : Hid (¬ o = p) := by
                  show ¬ _
                  intro e; exact q5 (by rw [e])
                have Q5 := hid q5
                clear q5
                go_wp2_with fail
                refine (equal_any o.slots p.slots S T ds dt W HXI.out HYI.out hol).mono ?_
                rintro e w' ⟨rfl, hb9⟩
                rw [decide_eq_false Q5.out]
                have HBB := hid (then_b HB.out hb9)
                clear hb9
                go_wp2_with fail
                go_ret
                exact ⟨false, rfl, ⟨fun g => (by cases g), fun g => absurd g hEQ.out⟩, HBB.out⟩
            · have t4 : (o.hash == p.hash) = false := by simpa using q4
              have hEQ : Hid (¬ o = p) := by
                show ¬ _
                intro e; exact q4 (by rw [e])
              clear q4
              go_wp2_with fail
              go_ret
              exact ⟨false, rfl, ⟨fun g => (by cases g), fun g => absurd g hEQ.out⟩, HB.out⟩
          · have t3 : (o.bits == p.bits) = false := by simpa using q3
            have hEQ : Hid (¬ o = p) := by
              show ¬ _
              intro e; exact q3 (by rw [e])
            clear q3
            go_wp2_with fail
            go_ret
            exact ⟨false, rfl, ⟨fun g => (by cases g), fun g => absurd g hEQ.out⟩, HB.out⟩
        · have t2 : ¬ o.text.toList = p.text.toList := fun e => q2 (text_inj e)
          have hEQ : Hid (¬ o = p) := by
            show ¬ _
            intro e; exact q2 (by rw [e])
          clear q2
          go_wp2_with fail
          go_ret
          exact ⟨false, rfl, ⟨fun g => (by cases g), fun g => absurd g hEQ.out⟩, HB.out⟩
      · have t1 : (o.kind == p.kind) = false := by simpa using q1
        have hEQ : Hid (¬ o = p) := by
          show ¬ _
          intro e; exact q1 (by rw [e])
        clear q1
        go_wp2_with fail
        go_ret
        exact ⟨false, rfl, ⟨fun g => (by cases g), fun g => absurd g hEQ.out⟩, HB.out⟩
    · have t0 : (o.cls == p.cls) = false := by simpa using q0
      have hEQ : Hid (¬ o = p) := by
        show ¬ _
        intro e; exact q0 (by rw [e])
      clear q0
      go_wp2_with fail
      go_ret
      exact ⟨false, rfl, ⟨fun g => (by cases g), fun g => absurd g hEQ.out⟩, HB.out⟩
end Go.Proofs.Ytjpibkcbgogfoaa
