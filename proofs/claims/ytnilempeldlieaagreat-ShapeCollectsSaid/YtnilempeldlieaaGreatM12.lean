/- canon.Same's closure walked: are two objects the same by their new numbers? What is marked round by round, as the document says: behind as many rounds as there are objects it is what is reached. -/
import Derived.Test.YtnilempeldlieaaGreatM09
import Derived.Test.YtnilempeldlieaaGreatM11
import Derived.Test.YtnilempeldlieaaGreatM04
namespace Go.Proofs.YtnilempeldlieaaGreat
open Go.RowKit
set_option maxRecDepth 100000
set_option maxHeartbeats 1500000 in
theorem pair1_any (os ps : List Ob) (i : Nat) (o p : Ob) (ho : os[i]? = some o) (hp : ps[i]? = some p) (A B : Option Addr) (c d gb hb : Nat) (w : World) (g0 : w.cell? ⟨gb, 0, none⟩ = some (.slice A os.length c)) (h0 : w.cell? ⟨hb, 0, none⟩ = some (.slice B ps.length d))
    (hs : ObsR w A os) (ht : ObsR w B ps) (hol : o.slots.length ≤ 9223372036854775807) (hn : os.length ≤ 9223372036854775807) (hn2 : ps.length ≤ 9223372036854775807) :
    Calls Tryz.prog 66 #[.int .i64 i, .pointer (some ⟨gb, 0, none⟩), .pointer (some ⟨hb, 0, none⟩)] w fun e w' => ∃ t : Bool, e = .returned (.bool t) ∧ (t = true ↔ o = p) ∧ Below w.heap.size w w' := by
  have hi1 : i < os.length := (List.getElem?_eq_some_iff.1 ho).1
  have hi2 : i < ps.length := (List.getElem?_eq_some_iff.1 hp).1
  obtain ⟨b, off, rfl, hb1, hc1⟩ := hs (by omega)
  obtain ⟨b2, off2, rfl, hb2, hc2⟩ := ht (by omega)
  obtain ⟨S, ds, hob, hin, -, -⟩ := hc1 i _ ho
  obtain ⟨T, dt, hob2, hin2, -, -⟩ := hc2 i _ hp
  obtain ⟨x0, x1, x2, x3, x4, x5⟩ := hob
  obtain ⟨y0, y1, y2, y3, y4, y5⟩ := hob2
  have HXS := hid hin
  have HYS := hid hin2
  clear hc1 hc2 hin hin2 hs ht ho hp hb1 hb2
  go_enter Tryz.func66, Tryz.ntmps66
  go_wp2_with fail
  refine wp_region_held_drew (S := (fun w' => w'.cell? ⟨gb, 0, none⟩ = some (.slice (some ⟨b, off, none⟩) os.length c) ∧ w'.cell? ⟨hb, 0, none⟩ = some (.slice (some ⟨b2, off2, none⟩) ps.length d) ∧ w'.cell? ⟨b, off + i * 6, none⟩ = some (.int .i64 o.cls) ∧ w'.cell? ⟨b, off + i * 6 + 1, none⟩ = some (.int .i64 o.kind) ∧ w'.cell? ⟨b, off + i * 6 + 2, none⟩ = some (.slice S o.slots.length ds) ∧ w'.cell? ⟨b, off + i * 6 + 3, none⟩ = some (.string o.text) ∧ w'.cell? ⟨b, off + i * 6 + 4, none⟩ = some (.int .i64 o.bits) ∧ w'.cell? ⟨b, off + i * 6 + 5, none⟩ = some (.int .i64 o.hash) ∧ w'.cell? ⟨b2, off2 + i * 6, none⟩ = some (.int .i64 p.cls) ∧ w'.cell? ⟨b2, off2 + i * 6 + 1, none⟩ = some (.int .i64 p.kind) ∧ w'.cell? ⟨b2, off2 + i * 6 + 2, none⟩ = some (.slice T p.slots.length dt) ∧ w'.cell? ⟨b2, off2 + i * 6 + 3, none⟩ = some (.string p.text) ∧ w'.cell? ⟨b2, off2 + i * 6 + 4, none⟩ = some (.int .i64 p.bits) ∧ w'.cell? ⟨b2, off2 + i * 6 + 5, none⟩ = some (.int .i64 p.hash))) (by kernel_rfl) ?_ (fun hH0 => ?_)
  · exact ⟨g0, h0, x0, x1, x2, x3, x4, x5, y0, y1, y2, y3, y4, y5⟩
  refine wpAnyH_take (i := 0) (oi := { dst := some 7, op := Go.Op.fieldAddr 24 (Go.Operand.tmp 1) 0, type := 0, pos := "canon.go:35", after := #[], guard := none }) (v := ?vv1) rfl (by kernel_rfl) (by kernel_rfl) (by kernel_rfl) (fun _ _ _ h => h) (Or.inl ⟨by rfl, ?hy1⟩) (by assumption) ?rr1
  case hy1 => intro w hSw; (try dsimp only at hSw); go_simp; all_goals with_reducible rfl
  try simp only [Act.put, List.setIfInBounds_toArray, List.set_cons_zero, List.set_cons_succ]
  refine wpAnyH_take (i := 1) (oi := { dst := some 8, op := Go.Op.load 22 (Go.Operand.tmp 7), type := 22, pos := "canon.go:35", after := #[{ on := 0, ground := Go.Ground.data }], guard := none }) (v := ?vv2) rfl (by kernel_rfl) (by kernel_rfl) (by kernel_rfl) (fun _ _ _ h => h) (Or.inl ⟨by rfl, ?hy2⟩) (by assumption) ?rr2
  case hy2 => intro w hSw; (try dsimp only at hSw); go_simp; all_goals with_reducible rfl
  try simp only [Act.put, List.setIfInBounds_toArray, List.set_cons_zero, List.set_cons_succ]
  refine wpAnyH_take (i := 2) (oi := { dst := some 9, op := Go.Op.move (Go.Operand.tmp 0), type := 3, pos := "canon.go:35", after := #[], guard := none }) (v := ?vv3) rfl (by kernel_rfl) (by kernel_rfl) (by kernel_rfl) (fun _ _ _ h => h) (Or.inl ⟨by rfl, ?hy3⟩) (by assumption) ?rr3
  case hy3 => intro w hSw; (try dsimp only at hSw); go_simp; all_goals with_reducible rfl
  try simp only [Act.put, List.setIfInBounds_toArray, List.set_cons_zero, List.set_cons_succ]
  refine wpAnyH_take (i := 3) (oi := { dst := some 10, op := Go.Op.indexAddr 22 (Go.Operand.tmp 8) (Go.Operand.tmp 9), type := 0, pos := "canon.go:35", after := #[{ on := 1, ground := Go.Ground.data }, { on := 2, ground := Go.Ground.data }], guard := none }) (v := ?vv4) rfl (by kernel_rfl) (by kernel_rfl) (by kernel_rfl) (fun _ _ _ h => h) (Or.inl ⟨by rfl, ?hy4⟩) (by assumption) ?rr4
  case hy4 => intro w hSw; (try dsimp only at hSw); go_simp; all_goals with_reducible rfl
  try simp only [Act.put, List.setIfInBounds_toArray, List.set_cons_zero, List.set_cons_succ]
  refine wpAnyH_take (i := 4) (oi := { dst := some 11, op := Go.Op.load 41 (Go.Operand.tmp 10), type := 41, pos := "canon.go:35", after := #[{ on := 3, ground := Go.Ground.data }], guard := none }) (v := ?vv5) rfl (by kernel_rfl) (by kernel_rfl) (by kernel_rfl) (fun _ _ _ h => h) (Or.inl ⟨by rfl, ?hy5⟩) (by assumption) ?rr5
  case hy5 => intro w hSw; (try dsimp only at hSw); go_simp; all_goals with_reducible rfl
  try simp only [Act.put, List.setIfInBounds_toArray, List.set_cons_zero, List.set_cons_succ]
  refine wpAnyH_take (i := 5) (oi := { dst := some 12, op := Go.Op.fieldAddr 24 (Go.Operand.tmp 2) 0, type := 0, pos := "canon.go:35", after := #[{ on := 12, ground := Go.Ground.gcOnly Go.Departure.lateStores }], guard := none }) (v := ?vv6) rfl (by kernel_rfl) (by kernel_rfl) (by kernel_rfl) (fun _ _ _ h => h) (Or.inl ⟨by rfl, ?hy6⟩) (by assumption) ?rr6
  case hy6 => intro w hSw; (try dsimp only at hSw); go_simp; all_goals with_reducible rfl
  try simp only [Act.put, List.setIfInBounds_toArray, List.set_cons_zero, List.set_cons_succ]
  refine wpAnyH_take (i := 6) (oi := { dst := some 13, op := Go.Op.load 22 (Go.Operand.tmp 12), type := 22, pos := "canon.go:35", after := #[{ on := 5, ground := Go.Ground.data }, { on := 12, ground := Go.Ground.gcOnly Go.Departure.lateStores }], guard := none }) (v := ?vv7) rfl (by kernel_rfl) (by kernel_rfl) (by kernel_rfl) (fun _ _ _ h => h) (Or.inl ⟨by rfl, ?hy7⟩) (by assumption) ?rr7
  case hy7 => intro w hSw; (try dsimp only at hSw); go_simp; all_goals with_reducible rfl
  try simp only [Act.put, List.setIfInBounds_toArray, List.set_cons_zero, List.set_cons_succ]
  refine wpAnyH_take (i := 7) (oi := { dst := some 14, op := Go.Op.move (Go.Operand.tmp 0), type := 3, pos := "canon.go:35", after := #[{ on := 12, ground := Go.Ground.gcOnly Go.Departure.lateStores }], guard := none }) (v := ?vv8) rfl (by kernel_rfl) (by kernel_rfl) (by kernel_rfl) (fun _ _ _ h => h) (Or.inl ⟨by rfl, ?hy8⟩) (by assumption) ?rr8
  case hy8 => intro w hSw; (try dsimp only at hSw); go_simp; all_goals with_reducible rfl
  try simp only [Act.put, List.setIfInBounds_toArray, List.set_cons_zero, List.set_cons_succ]
  refine wpAnyH_take (i := 8) (oi := { dst := some 15, op := Go.Op.indexAddr 22 (Go.Operand.tmp 13) (Go.Operand.tmp 14), type := 0, pos := "canon.go:35", after := #[{ on := 6, ground := Go.Ground.data }, { on := 7, ground := Go.Ground.data }, { on := 12, ground := Go.Ground.gcOnly Go.Departure.lateStores }], guard := none }) (v := ?vv9) rfl (by kernel_rfl) (by kernel_rfl) (by kernel_rfl) (fun _ _ _ h => h) (Or.inl ⟨by rfl, ?hy9⟩) (by assumption) ?rr9
  case hy9 => intro w hSw; (try dsimp only at hSw); go_simp; all_goals with_reducible rfl
  try simp only [Act.put, List.setIfInBounds_toArray, List.set_cons_zero, List.set_cons_succ]
  refine wpAnyH_take (i := 9) (oi := { dst := some 16, op := Go.Op.load 41 (Go.Operand.tmp 15), type := 41, pos := "canon.go:35", after := #[{ on := 8, ground := Go.Ground.data }, { on := 12, ground := Go.Ground.gcOnly Go.Departure.lateStores }], guard := none }) (v := ?vv10) rfl (by kernel_rfl) (by kernel_rfl) (by kernel_rfl) (fun _ _ _ h => h) (Or.inl ⟨by rfl, ?hy10⟩) (by assumption) ?rr10
  case hy10 => intro w hSw; (try dsimp only at hSw); go_simp; all_goals with_reducible rfl
  try simp only [Act.put, List.setIfInBounds_toArray, List.set_cons_zero, List.set_cons_succ]
  refine wpAnyH_ready (rs := [10, 11]) (by kernel_rfl) (by simp) ?_
  refine AllReadyH.cons (i := 10) (o := { dst := some 5, op := Go.Op.alloc 41, type := 0, pos := "canon.go:35", after := #[], guard := none }) rfl (fun K hK => ?_) (AllReadyH.cons (i := 11) (o := { dst := some 6, op := Go.Op.alloc 41, type := 0, pos := "canon.go:35", after := #[], guard := none }) rfl (fun K hK => ?_) AllReadyH.nil)
  · go_simp
    refine hK.out _ _ ?_ (fun hH1 => ?_)
    · exact ⟨cell_old hH0.1, cell_old hH0.2.1, cell_old hH0.2.2.1, cell_old hH0.2.2.2.1, cell_old hH0.2.2.2.2.1, cell_old hH0.2.2.2.2.2.1, cell_old hH0.2.2.2.2.2.2.1, cell_old hH0.2.2.2.2.2.2.2.1, cell_old hH0.2.2.2.2.2.2.2.2.1, cell_old hH0.2.2.2.2.2.2.2.2.2.1, cell_old hH0.2.2.2.2.2.2.2.2.2.2.1, cell_old hH0.2.2.2.2.2.2.2.2.2.2.2.1, cell_old hH0.2.2.2.2.2.2.2.2.2.2.2.2.1, cell_old hH0.2.2.2.2.2.2.2.2.2.2.2.2.2⟩
    clear hK K
    try simp only [Act.put, List.setIfInBounds_toArray, List.set_cons_zero, List.set_cons_succ]
    refine wpAnyH_ready (rs := [11]) (by kernel_rfl) (by simp) ?_
    refine AllReadyH.cons (i := 11) (o := { dst := some 6, op := Go.Op.alloc 41, type := 0, pos := "canon.go:35", after := #[], guard := none }) rfl (fun K hK => ?_) AllReadyH.nil
    go_simp
    refine hK.out _ _ ?_ (fun hH2 => ?_)
    · exact ⟨cell_old hH1.1, cell_old hH1.2.1, cell_old hH1.2.2.1, cell_old hH1.2.2.2.1, cell_old hH1.2.2.2.2.1, cell_old hH1.2.2.2.2.2.1, cell_old hH1.2.2.2.2.2.2.1, cell_old hH1.2.2.2.2.2.2.2.1, cell_old hH1.2.2.2.2.2.2.2.2.1, cell_old hH1.2.2.2.2.2.2.2.2.2.1, cell_old hH1.2.2.2.2.2.2.2.2.2.2.1, cell_old hH1.2.2.2.2.2.2.2.2.2.2.2.1, cell_old hH1.2.2.2.2.2.2.2.2.2.2.2.2.1, cell_old hH1.2.2.2.2.2.2.2.2.2.2.2.2.2⟩
    clear hK K
    try simp only [Act.put, List.setIfInBounds_toArray, List.set_cons_zero, List.set_cons_succ]
    refine wpAnyH_ready (rs := [12]) (by kernel_rfl) (by simp) ?_
    refine AllReadyH.cons (i := 12) (o := { dst := none, op := Go.Op.store 41 (Go.Operand.tmp 5) (Go.Operand.tmp 11), type := 0, pos := "canon.go:35", after := #[{ on := 10, ground := Go.Ground.data }, { on := 4, ground := Go.Ground.data }, { on := 0, ground := Go.Ground.phase }, { on := 1, ground := Go.Ground.phase }, { on := 2, ground := Go.Ground.phase }, { on := 3, ground := Go.Ground.phase }, { on := 4, ground := Go.Ground.phase }, { on := 5, ground := Go.Ground.textOnly Go.Departure.lateStores }, { on := 6, ground := Go.Ground.textOnly Go.Departure.lateStores }, { on := 7, ground := Go.Ground.textOnly Go.Departure.lateStores }, { on := 8, ground := Go.Ground.textOnly Go.Departure.lateStores }, { on := 9, ground := Go.Ground.textOnly Go.Departure.lateStores }, { on := 10, ground := Go.Ground.phase }, { on := 11, ground := Go.Ground.phase }], guard := none }) rfl (fun K hK => ?_) AllReadyH.nil
    go_simp
    refine hK.out _ _ ?_ (fun hH3 => ?_)
    · exact ⟨two_old g0, two_old h0, two_old x0, two_old x1, two_old x2, two_old x3, two_old x4, two_old x5, two_old y0, two_old y1, two_old y2, two_old y3, two_old y4, two_old y5⟩
    clear hK K
    try simp only [Act.put, List.setIfInBounds_toArray, List.set_cons_zero, List.set_cons_succ]
    refine wpAnyH_ready (rs := [13]) (by kernel_rfl) (by simp) ?_
    refine AllReadyH.cons (i := 13) (o := { dst := none, op := Go.Op.store 41 (Go.Operand.tmp 6) (Go.Operand.tmp 16), type := 0, pos := "canon.go:35", after := #[{ on := 11, ground := Go.Ground.data }, { on := 9, ground := Go.Ground.data }, { on := 12, ground := Go.Ground.chain }, { on := 0, ground := Go.Ground.phase }, { on := 1, ground := Go.Ground.phase }, { on := 2, ground := Go.Ground.phase }, { on := 3, ground := Go.Ground.phase }, { on := 4, ground := Go.Ground.phase }, { on := 5, ground := Go.Ground.phase }, { on := 6, ground := Go.Ground.phase }, { on := 7, ground := Go.Ground.phase }, { on := 8, ground := Go.Ground.phase }, { on := 9, ground := Go.Ground.phase }, { on := 10, ground := Go.Ground.phase }, { on := 11, ground := Go.Ground.phase }, { on := 12, ground := Go.Ground.phase }], guard := none }) rfl (fun K hK => ?_) AllReadyH.nil
    go_simp
    refine hK.out _ _ ?_ (fun hH4 => ?_)
    · exact ⟨two_old g0, two_old h0, two_old x0, two_old x1, two_old x2, two_old x3, two_old x4, two_old x5, two_old y0, two_old y1, two_old y2, two_old y3, two_old y4, two_old y5⟩
    clear hK K
    try simp only [Act.put, List.setIfInBounds_toArray, List.set_cons_zero, List.set_cons_succ]
    refine wpAnyH_done (by kernel_rfl) ?_ _
    obtain ⟨W, hW⟩ : ∃ W, W = ((w.alloc (.cells #[.int .i64 o.cls, .int .i64 o.kind, .slice S o.slots.length ds, .string o.text, .int .i64 o.bits, .int .i64 o.hash] 41)).alloc (.cells #[.int .i64 p.cls, .int .i64 p.kind, .slice T p.slots.length dt, .string p.text, .int .i64 p.bits, .int .i64 p.hash] 41)).drew := ⟨_, rfl⟩
    have hB : Below w.heap.size w W := by rw [hW]; exact ((below_alloc w _).alloc (by simp) _).drew
    have hL1 : Lies W w.heap.size 41 #[.int .i64 o.cls, .int .i64 o.kind, .slice S o.slots.length ds, .string o.text, .int .i64 o.bits, .int .i64 o.hash] := by rw [hW]; exact ((Lies.new w 41 _).alloc _).drew
    have hL2 : Lies W (w.heap.size + 1) 41 #[.int .i64 p.cls, .int .i64 p.kind, .slice T p.slots.length dt, .string p.text, .int .i64 p.bits, .int .i64 p.hash] := by
      rw [hW]
      have := (Lies.new (w.alloc (.cells #[.int .i64 o.cls, .int .i64 o.kind, .slice S o.slots.length ds, .string o.text, .int .i64 o.bits, .int .i64 o.hash] 41)) 41 #[.int .i64 p.cls, .int .i64 p.kind, .slice T p.slots.length dt, .string p.text, .int .i64 p.bits, .int .i64 p.hash]).drew
      simpa using this
    rw [← hW]
    have e0 := hL1.cell 0
    have f0 := hL2.cell 0
    have e1 := hL1.cell 1
    have f1 := hL2.cell 1
    have e2 := hL1.cell 2
    have f2 := hL2.cell 2
    have e3 := hL1.cell 3
    have f3 := hL2.cell 3
    have e4 := hL1.cell 4
    have f4 := hL2.cell 4
    have e5 := hL1.cell 5
    have f5 := hL2.cell 5
    simp only [List.getElem?_toArray, List.getElem?_cons_zero, List.getElem?_cons_succ] at e0 e1 e2 e3 e4 e5 f0 f1 f2 f3 f4 f5
    have HB := hid hB
    have HXI := hid (HXS.out.below hB)
    have HYI := hid (HYS.out.below hB)
    clear hB hL1 hL2 hW g0 h0 x0 x1 x2 x3 x4 x5 y0 y1 y2 y3 y4 y5
    by_cases q0 : o.cls = p.cls
    · have t0 : (o.cls == p.cls) = true := by rw [q0]; simp
      have Q0 := hid q0
      clear q0
      by_cases q1 : o.kind = p.kind
      · have t1 : (o.kind == p.kind) = true := by rw [q1]; simp
        have Q1 := hid q1
        clear q1
        by_cases q2 : o.text = p.text
        · have t2 : o.text.toList = p.text.toList := by rw [q2]
          have Q2 := hid q2
          clear q2
          by_cases q3 : o.bits = p.bits
          · have t3 : (o.bits == p.bits) = true := by rw [q3]; simp
            have Q3 := hid q3
            clear q3
            by_cases q4 : o.hash = p.hash
            · have t4 : (o.hash == p.hash) = true := by rw [q4]; simp
              have Q4 := hid q4
              clear q4
              by_cases q5 : o.slots = p.slots
              · have hEQ : Hid (o = p) := by
                  exact ob_eq Q0.out Q1.out q5 Q2.out Q3.out Q4.out
                have Q5 := hid q5
                clear q5
                go_wp2_with fail
                refine (equal_any o.slots p.slots S T ds dt W HXI.out HYI.out hol).mono ?_
                rintro e w' ⟨rfl, hb9⟩
                rw [decide_eq_true Q5.out]
                have HBB := hid (then_b HB.out hb9)
                clear hb9
                go_wp2_with fail
                go_ret
                exact ⟨true, rfl, ⟨fun _ => hEQ.out, fun _ => rfl⟩, HBB.out⟩
              · have hEQ : Hid (¬ o = p) := by
                  show ¬ _
                  intro e; exact q5 (by rw [e])
                have Q5 := hid q5
                clear q5
                go_wp2_with fail
                refine (equal_any o.slots p.slots S T ds dt W HXI.out HYI.out hol).mono ?_
                rintro e w' ⟨rfl, hb9⟩
                rw [decide_eq_false Q5.out]
                have HBB := hid (then_b HB.out hb9)
                clear hb9
                go_wp2_with fail
                go_ret
                exact ⟨false, rfl, ⟨fun g => (by cases g), fun g => absurd g hEQ.out⟩, HBB.out⟩
            · have t4 : (o.hash == p.hash) = false := by simpa using q4
              have hEQ : Hid (¬ o = p) := by
                show ¬ _
                intro e; exact q4 (by rw [e])
              clear q4
              go_wp2_with fail
              go_ret
              exact ⟨false, rfl, ⟨fun g => (by cases g), fun g => absurd g hEQ.out⟩, HB.out⟩
          · have t3 : (o.bits == p.bits) = false := by simpa using q3
            have hEQ : Hid (¬ o = p) := by
              show ¬ _
              intro e; exact q3 (by rw [e])
            clear q3
            go_wp2_with fail
            go_ret
            exact ⟨false, rfl, ⟨fun g => (by cases g), fun g => absurd g hEQ.out⟩, HB.out⟩
        · have t2 : ¬ o.text.toList = p.text.toList := fun e => q2 (text_inj e)
          have hEQ : Hid (¬ o = p) := by
            show ¬ _
            intro e; exact q2 (by rw [e])
          clear q2
          go_wp2_with fail
          go_ret
          exact ⟨false, rfl, ⟨fun g => (by cases g), fun g => absurd g hEQ.out⟩, HB.out⟩
      · have t1 : (o.kind == p.kind) = false := by simpa using q1
        have hEQ : Hid (¬ o = p) := by
          show ¬ _
          intro e; exact q1 (by rw [e])
        clear q1
        go_wp2_with fail
        go_ret
        exact ⟨false, rfl, ⟨fun g => (by cases g), fun g => absurd g hEQ.out⟩, HB.out⟩
    · have t0 : (o.cls == p.cls) = false := by simpa using q0
      have hEQ : Hid (¬ o = p) := by
        show ¬ _
        intro e; exact q0 (by rw [e])
      clear q0
      go_wp2_with fail
      go_ret
      exact ⟨false, rfl, ⟨fun g => (by cases g), fun g => absurd g hEQ.out⟩, HB.out⟩
  · go_simp
    refine hK.out _ _ ?_ (fun hH1 => ?_)
    · exact ⟨cell_old hH0.1, cell_old hH0.2.1, cell_old hH0.2.2.1, cell_old hH0.2.2.2.1, cell_old hH0.2.2.2.2.1, cell_old hH0.2.2.2.2.2.1, cell_old hH0.2.2.2.2.2.2.1, cell_old hH0.2.2.2.2.2.2.2.1, cell_old hH0.2.2.2.2.2.2.2.2.1, cell_old hH0.2.2.2.2.2.2.2.2.2.1, cell_old hH0.2.2.2.2.2.2.2.2.2.2.1, cell_old hH0.2.2.2.2.2.2.2.2.2.2.2.1, cell_old hH0.2.2.2.2.2.2.2.2.2.2.2.2.1, cell_old hH0.2.2.2.2.2.2.2.2.2.2.2.2.2⟩
    clear hK K
    try simp only [Act.put, List.setIfInBounds_toArray, List.set_cons_zero, List.set_cons_succ]
    refine wpAnyH_ready (rs := [10]) (by kernel_rfl) (by simp) ?_
    refine AllReadyH.cons (i := 10) (o := { dst := some 5, op := Go.Op.alloc 41, type := 0, pos := "canon.go:35", after := #[], guard := none }) rfl (fun K hK => ?_) AllReadyH.nil
    go_simp
    refine hK.out _ _ ?_ (fun hH2 => ?_)
    · exact ⟨cell_old hH1.1, cell_old hH1.2.1, cell_old hH1.2.2.1, cell_old hH1.2.2.2.1, cell_old hH1.2.2.2.2.1, cell_old hH1.2.2.2.2.2.1, cell_old hH1.2.2.2.2.2.2.1, cell_old hH1.2.2.2.2.2.2.2.1, cell_old hH1.2.2.2.2.2.2.2.2.1, cell_old hH1.2.2.2.2.2.2.2.2.2.1, cell_old hH1.2.2.2.2.2.2.2.2.2.2.1, cell_old hH1.2.2.2.2.2.2.2.2.2.2.2.1, cell_old hH1.2.2.2.2.2.2.2.2.2.2.2.2.1, cell_old hH1.2.2.2.2.2.2.2.2.2.2.2.2.2⟩
    clear hK K
    try simp only [Act.put, List.setIfInBounds_toArray, List.set_cons_zero, List.set_cons_succ]
    refine wpAnyH_ready (rs := [12]) (by kernel_rfl) (by simp) ?_
    refine AllReadyH.cons (i := 12) (o := { dst := none, op := Go.Op.store 41 (Go.Operand.tmp 5) (Go.Operand.tmp 11), type := 0, pos := "canon.go:35", after := #[{ on := 10, ground := Go.Ground.data }, { on := 4, ground := Go.Ground.data }, { on := 0, ground := Go.Ground.phase }, { on := 1, ground := Go.Ground.phase }, { on := 2, ground := Go.Ground.phase }, { on := 3, ground := Go.Ground.phase }, { on := 4, ground := Go.Ground.phase }, { on := 5, ground := Go.Ground.textOnly Go.Departure.lateStores }, { on := 6, ground := Go.Ground.textOnly Go.Departure.lateStores }, { on := 7, ground := Go.Ground.textOnly Go.Departure.lateStores }, { on := 8, ground := Go.Ground.textOnly Go.Departure.lateStores }, { on := 9, ground := Go.Ground.textOnly Go.Departure.lateStores }, { on := 10, ground := Go.Ground.phase }, { on := 11, ground := Go.Ground.phase }], guard := none }) rfl (fun K hK => ?_) AllReadyH.nil
    go_simp
    refine hK.out _ _ ?_ (fun hH3 => ?_)
    · exact ⟨two_old g0, two_old h0, two_old x0, two_old x1, two_old x2, two_old x3, two_old x4, two_old x5, two_old y0, two_old y1, two_old y2, two_old y3, two_old y4, two_old y5⟩
    clear hK K
    try simp only [Act.put, List.setIfInBounds_toArray, List.set_cons_zero, List.set_cons_succ]
    refine wpAnyH_ready (rs := [13]) (by kernel_rfl) (by simp) ?_
    refine AllReadyH.cons (i := 13) (o := { dst := none, op := Go.Op.store 41 (Go.Operand.tmp 6) (Go.Operand.tmp 16), type := 0, pos := "canon.go:35", after := #[{ on := 11, ground := Go.Ground.data }, { on := 9, ground := Go.Ground.data }, { on := 12, ground := Go.Ground.chain }, { on := 0, ground := Go.Ground.phase }, { on := 1, ground := Go.Ground.phase }, { on := 2, ground := Go.Ground.phase }, { on := 3, ground := Go.Ground.phase }, { on := 4, ground := Go.Ground.phase }, { on := 5, ground := Go.Ground.phase }, { on := 6, ground := Go.Ground.phase }, { on := 7, ground := Go.Ground.phase }, { on := 8, ground := Go.Ground.phase }, { on := 9, ground := Go.Ground.phase }, { on := 10, ground := Go.Ground.phase }, { on := 11, ground := Go.Ground.phase }, { on := 12, ground := Go.Ground.phase }], guard := none }) rfl (fun K hK => ?_) AllReadyH.nil
    go_simp
    refine hK.out _ _ ?_ (fun hH4 => ?_)
    · exact ⟨two_old g0, two_old h0, two_old x0, two_old x1, two_old x2, two_old x3, two_old x4, two_old x5, two_old y0, two_old y1, two_old y2, two_old y3, two_old y4, two_old y5⟩
    clear hK K
    try simp only [Act.put, List.setIfInBounds_toArray, List.set_cons_zero, List.set_cons_succ]
    refine wpAnyH_done (by kernel_rfl) ?_ _
    obtain ⟨W, hW⟩ : ∃ W, W = ((w.alloc (.cells #[.int .i64 p.cls, .int .i64 p.kind, .slice T p.slots.length dt, .string p.text, .int .i64 p.bits, .int .i64 p.hash] 41)).alloc (.cells #[.int .i64 o.cls, .int .i64 o.kind, .slice S o.slots.length ds, .string o.text, .int .i64 o.bits, .int .i64 o.hash] 41)).drew := ⟨_, rfl⟩
    have hB : Below w.heap.size w W := by rw [hW]; exact ((below_alloc w _).alloc (by simp) _).drew
    have hL1 : Lies W w.heap.size 41 #[.int .i64 p.cls, .int .i64 p.kind, .slice T p.slots.length dt, .string p.text, .int .i64 p.bits, .int .i64 p.hash] := by rw [hW]; exact ((Lies.new w 41 _).alloc _).drew
    have hL2 : Lies W (w.heap.size + 1) 41 #[.int .i64 o.cls, .int .i64 o.kind, .slice S o.slots.length ds, .string o.text, .int .i64 o.bits, .int .i64 o.hash] := by
      rw [hW]
      have := (Lies.new (w.alloc (.cells #[.int .i64 p.cls, .int .i64 p.kind, .slice T p.slots.length dt, .string p.text, .int .i64 p.bits, .int .i64 p.hash] 41)) 41 #[.int .i64 o.cls, .int .i64 o.kind, .slice S o.slots.length ds, .string o.text, .int .i64 o.bits, .int .i64 o.hash]).drew
      simpa using this
    rw [← hW]
    have e0 := hL1.cell 0
    have f0 := hL2.cell 0
    have e1 := hL1.cell 1
    have f1 := hL2.cell 1
    have e2 := hL1.cell 2
    have f2 := hL2.cell 2
    have e3 := hL1.cell 3
    have f3 := hL2.cell 3
    have e4 := hL1.cell 4
    have f4 := hL2.cell 4
    have e5 := hL1.cell 5
    have f5 := hL2.cell 5
    simp only [List.getElem?_toArray, List.getElem?_cons_zero, List.getElem?_cons_succ] at e0 e1 e2 e3 e4 e5 f0 f1 f2 f3 f4 f5
    have HB := hid hB
    have HXI := hid (HXS.out.below hB)
    have HYI := hid (HYS.out.below hB)
    clear hB hL1 hL2 hW g0 h0 x0 x1 x2 x3 x4 x5 y0 y1 y2 y3 y4 y5
    by_cases q0 : o.cls = p.cls
    · have t0 : (o.cls == p.cls) = true := by rw [q0]; simp
      have Q0 := hid q0
      clear q0
      by_cases q1 : o.kind = p.kind
      · have t1 : (o.kind == p.kind) = true := by rw [q1]; simp
        have Q1 := hid q1
        clear q1
        by_cases q2 : o.text = p.text
        · have t2 : o.text.toList = p.text.toList := by rw [q2]
          have Q2 := hid q2
          clear q2
          by_cases q3 : o.bits = p.bits
          · have t3 : (o.bits == p.bits) = true := by rw [q3]; simp
            have Q3 := hid q3
            clear q3
            by_cases q4 : o.hash = p.hash
            · have t4 : (o.hash == p.hash) = true := by rw [q4]; simp
              have Q4 := hid q4
              clear q4
              by_cases q5 : o.slots = p.slots
              · have hEQ : Hid (o = p) := by
                  exact ob_eq Q0.out Q1.out q5 Q2.out Q3.out Q4.out
                have Q5 := hid q5
                clear q5
                go_wp2_with fail
                refine (equal_any o.slots p.slots S T ds dt W HXI.out HYI.out hol).mono ?_
                rintro e w' ⟨rfl, hb9⟩
                rw [decide_eq_true Q5.out]
                have HBB := hid (then_b HB.out hb9)
                clear hb9
                go_wp2_with fail
                go_ret
                exact ⟨true, rfl, ⟨fun _ => hEQ.out, fun _ => rfl⟩, HBB.out⟩
              · have hEQ : Hid (¬ o = p) := by
                  show ¬ _
                  intro e; exact q5 (by rw [e])
                have Q5 := hid q5
                clear q5
                go_wp2_with fail
                refine (equal_any o.slots p.slots S T ds dt W HXI.out HYI.out hol).mono ?_
                rintro e w' ⟨rfl, hb9⟩
                rw [decide_eq_false Q5.out]
                have HBB := hid (then_b HB.out hb9)
                clear hb9
                go_wp2_with fail
                go_ret
                exact ⟨false, rfl, ⟨fun g => (by cases g), fun g => absurd g hEQ.out⟩, HBB.out⟩
            · have t4 : (o.hash == p.hash) = false := by simpa using q4
              have hEQ : Hid (¬ o = p) := by
                show ¬ _
                intro e; exact q4 (by rw [e])
              clear q4
              go_wp2_with fail
              go_ret
              exact ⟨false, rfl, ⟨fun g => (by cases g), fun g => absurd g hEQ.out⟩, HB.out⟩
          · have t3 : (o.bits == p.bits) = false := by simpa using q3
            have hEQ : Hid (¬ o = p) := by
              show ¬ _
              intro e; exact q3 (by rw [e])
            clear q3
            go_wp2_with fail
            go_ret
            exact ⟨false, rfl, ⟨fun g => (by cases g), fun g => absurd g hEQ.out⟩, HB.out⟩
        · have t2 : ¬ o.text.toList = p.text.toList := fun e => q2 (text_inj e)
          have hEQ : Hid (¬ o = p) := by
            show ¬ _
            intro e; exact q2 (by rw [e])
          clear q2
          go_wp2_with fail
          go_ret
          exact ⟨false, rfl, ⟨fun g => (by cases g), fun g => absurd g hEQ.out⟩, HB.out⟩
      · have t1 : (o.kind == p.kind) = false := by simpa using q1
        have hEQ : Hid (¬ o = p) := by
          show ¬ _
          intro e; exact q1 (by rw [e])
        clear q1
        go_wp2_with fail
        go_ret
        exact ⟨false, rfl, ⟨fun g => (by cases g), fun g => absurd g hEQ.out⟩, HB.out⟩
    · have t0 : (o.cls == p.cls) = false := by simpa using q0
      have hEQ : Hid (¬ o = p) := by
        show ¬ _
        intro e; exact q0 (by rw [e])
      clear q0
      go_wp2_with fail
      go_ret
      exact ⟨false, rfl, ⟨fun g => (by cases g), fun g => absurd g hEQ.out⟩, HB.out⟩
end Go.Proofs.YtnilempeldlieaaGreat
namespace Go.Proofs.YtnilempeldlieaaGreat
open Go.RowKit
/-- does the value v tell object i? -/
def tells (n : Nat) (v : Int) (i : Nat) : Bool := refB n v && decide ((atV v).toNat = i)
def marks0 (h : Hp) (rs : List Int) : List Bool := (List.range h.objs.length).map fun i => rs.any fun v => tells h.objs.length v i
def leads (n : Nat) (o : Ob) (i : Nat) : Bool := (o.cls :: o.slots).any fun v => tells n v i
def nearB (h : Hp) (m : List Bool) : List Bool := (List.range h.objs.length).map fun i => m.getD i false || (List.range h.objs.length).any fun j => m.getD j false && (match h.objs[j]? with | some o => leads h.objs.length o i | none => false)
def nearN (h : Hp) : Nat → List Bool → List Bool
  | 0, m => m
  | k + 1, m => nearN h k (nearB h m)
theorem nearN_succ (h : Hp) : ∀ (k : Nat) (m : List Bool), nearN h (k + 1) m = nearB h (nearN h k m)
  | 0, _ => rfl
  | k + 1, m => nearN_succ h k (nearB h m)
theorem nearB_length (h : Hp) (m : List Bool) : (nearB h m).length = h.objs.length := by simp [nearB]
theorem nearN_length (h : Hp) : ∀ (k : Nat) (m : List Bool), m.length = h.objs.length → (nearN h k m).length = h.objs.length
  | 0, _, e => e
  | k + 1, m, _ => nearN_length h k _ (nearB_length h m)
theorem tells_iff {n : Nat} {v : Int} {i : Nat} : tells n v i = true ↔ refB n v = true ∧ (atV v).toNat = i := by simp [tells]
theorem marks0_iff {h : Hp} {rs : List Int} {i : Nat} : (marks0 h rs).getD i false = true ↔ ∃ v ∈ rs, refB h.objs.length v = true ∧ (atV v).toNat = i := by
  unfold marks0
  by_cases hi : i < h.objs.length
  · simp [List.getD_eq_getElem?_getD, hi, tells_iff]
  · simp only [List.getD_eq_getElem?_getD]
    rw [List.getElem?_eq_none (by simp; omega)]
    simp only [Option.getD_none]
    constructor
    · intro h; cases h
    · rintro ⟨v, -, hv, rfl⟩; exact absurd (refB_nat hv).1 hi
theorem nearB_iff {h : Hp} {m : List Bool} {i : Nat} (hm : m.length = h.objs.length) : (nearB h m).getD i false = true ↔ m.getD i false = true ∨ ∃ j o v, m.getD j false = true ∧ h.objs[j]? = some o ∧ v ∈ o.cls :: o.slots ∧ refB h.objs.length v = true ∧ (atV v).toNat = i := by
  unfold nearB
  by_cases hi : i < h.objs.length
  · simp only [List.getD_eq_getElem?_getD, List.getElem?_map, List.getElem?_range hi, Option.map_some, Option.getD_some, Bool.or_eq_true, List.any_eq_true, List.mem_range, Bool.and_eq_true]
    constructor
    · rintro (h1 | ⟨j, hj, h1, h2⟩)
      · exact .inl h1
      · rw [List.getElem?_eq_getElem hj] at h2
        simp only [leads, List.any_eq_true, tells_iff] at h2
        obtain ⟨v, hv, hr, he⟩ := h2
        exact .inr ⟨j, _, v, h1, List.getElem?_eq_getElem hj, hv, hr, he⟩
    · rintro (h1 | ⟨j, o, v, h1, h2, hv, hr, he⟩)
      · exact .inl h1
      · refine .inr ⟨j, (List.getElem?_eq_some_iff.1 h2).1, h1, ?_⟩
        rw [h2]
        simp only [leads, List.any_eq_true, tells_iff]
        exact ⟨v, hv, hr, he⟩
  · simp only [List.getD_eq_getElem?_getD]
    rw [List.getElem?_eq_none (by simp; omega), List.getElem?_eq_none (show m.length ≤ i by omega)]
    simp only [Option.getD_none]
    constructor
    · intro h; cases h
    · rintro (h | ⟨j, o, v, -, -, -, hr, rfl⟩)
      · cases h
      · exact absurd (refB_nat hr).1 hi
theorem near_sub {h : Hp} {m : List Bool} {i : Nat} (hm : m.length = h.objs.length) (hi : m.getD i false = true) : (nearB h m).getD i false = true := (nearB_iff hm).2 (.inl hi)
theorem near_sound {h : Hp} {rs : List Int} : ∀ (k : Nat) (m : List Bool), m.length = h.objs.length → (∀ i, m.getD i false = true → Reach h rs i) → ∀ i, (nearN h k m).getD i false = true → Reach h rs i
  | 0, _, _, h => h
  | k + 1, m, hl, h => near_sound k _ (nearB_length _ _) fun i hi => by
    rcases (nearB_iff hl).1 hi with g | ⟨j, o, v, g, ho, hv, hr, rfl⟩
    · exact h i g
    · exact .step j o v (h j g) ho hv hr
def trues : List Bool → Nat
  | [] => 0
  | b :: t => (if b then 1 else 0) + trues t
theorem trues_le : ∀ m : List Bool, trues m ≤ m.length
  | [] => Nat.le_refl _
  | b :: t => by have := trues_le t; cases b <;> simp [trues] <;> omega
theorem trues_mono : ∀ m m' : List Bool, m.length = m'.length → (∀ i, m.getD i false = true → m'.getD i false = true) → trues m ≤ trues m' ∧ (trues m = trues m' → m = m')
  | [], [], _, _ => ⟨Nat.le_refl _, fun _ => rfl⟩
  | [], _ :: _, e, _ => by simp at e
  | _ :: _, [], e, _ => by simp at e
  | b :: t, b' :: t', e, h => by
    have ih := trues_mono t t' (by simpa using e) fun i hi => by simpa using h (i + 1) (by simpa using hi)
    have h0 := h 0
    obtain ⟨i1, i2⟩ := ih
    cases b <;> cases b' <;> simp [trues] at h0 ⊢
    · exact ⟨i1, i2⟩
    · exact ⟨by omega, by omega⟩
    · exact ⟨i1, i2⟩
theorem near_count {h : Hp} {m : List Bool} (hm : m.length = h.objs.length) : ∀ k, nearB h (nearN h k m) = nearN h k m ∨ k ≤ trues (nearN h k m)
  | 0 => .inr (Nat.zero_le _)
  | k + 1 => by
    rw [nearN_succ]
    rcases near_count hm k with e | c
    · exact .inl (by rw [e, e])
    · by_cases e : nearB h (nearN h k m) = nearN h k m
      · exact .inl (by rw [e, e])
      · have hl := nearN_length h k m hm
        obtain ⟨h1, h2⟩ := trues_mono (nearN h k m) (nearB h (nearN h k m)) (by rw [hl, nearB_length]) fun i hi => near_sub hl hi
        refine .inr ?_
        have : trues (nearN h k m) ≠ trues (nearB h (nearN h k m)) := fun q => e (h2 q).symm
        omega
theorem near_fix {h : Hp} {m : List Bool} (hm : m.length = h.objs.length) : nearB h (nearN h h.objs.length m) = nearN h h.objs.length m := by
  rcases near_count (h := h) hm (h.objs.length + 1) with e | c
  · rw [nearN_succ] at e
    rcases near_count (h := h) hm h.objs.length with e' | c'
    · exact e'
    · have hl := nearN_length h h.objs.length m hm
      have hl2 := nearB_length h (nearN h h.objs.length m)
      obtain ⟨h1, h2⟩ := trues_mono (nearN h h.objs.length m) (nearB h (nearN h h.objs.length m)) (by rw [hl, nearB_length]) fun i hi => near_sub hl hi
      have := trues_le (nearB h (nearN h h.objs.length m))
      exact (h2 (by omega)).symm
  · have hl := nearN_length h (h.objs.length + 1) m hm
    have := trues_le (nearN h (h.objs.length + 1) m)
    omega
theorem near_reach {h : Hp} {rs : List Int} {i : Nat} : (nearN h h.objs.length (marks0 h rs)).getD i false = true ↔ Reach h rs i := by
  have hm : (marks0 h rs).length = h.objs.length := by simp [marks0]
  constructor
  · refine near_sound _ _ hm (fun j hj => ?_) i
    obtain ⟨v, hv, hr, rfl⟩ := marks0_iff.1 hj
    exact .root v hv hr
  · intro r
    have hl := nearN_length h h.objs.length _ hm
    have grow : ∀ (k : Nat) (m : List Bool), m.length = h.objs.length → ∀ i, m.getD i false = true → (nearN h k m).getD i false = true := by
      intro k
      induction k with
      | zero => exact fun m _ i hi => hi
      | succ k ih => exact fun m hm i hi => ih _ (nearB_length _ _) i (near_sub hm hi)
    refine r.least (fun i => (nearN h h.objs.length (marks0 h rs)).getD i false = true) (fun v hv hr => grow _ _ hm _ (marks0_iff.2 ⟨v, hv, hr, rfl⟩)) fun j o v hj ho hv hr => ?_
    rw [← near_fix hm]
    exact (nearB_iff hl).2 (.inr ⟨j, o, v, hj, ho, hv, hr, rfl⟩)
/-- the numbers that are marked -/
def picked (m : List Bool) : List Int := ((List.range m.length).filter fun i => m.getD i false).map Int.ofNat
theorem live_marks (h : Hp) (rs : List Int) : liveL h rs = picked (nearN h h.objs.length (marks0 h rs)) := by
  unfold liveL liveN picked
  rw [nearN_length h h.objs.length _ (by simp [marks0])]
  congr 1
  apply List.filter_congr
  intro i _
  have := near_reach (h := h) (rs := rs) (i := i)
  cases hb : (nearN h h.objs.length (marks0 h rs)).getD i false
  · rw [hb] at this; simpa using this
  · rw [hb] at this; simpa using this
end Go.Proofs.YtnilempeldlieaaGreat
