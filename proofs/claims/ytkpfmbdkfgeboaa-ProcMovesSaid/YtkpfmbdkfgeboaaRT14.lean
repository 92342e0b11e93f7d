/- Take and Drop. -/
import Derived.Test.YtkpfmbdkfgeboaaRQ14
namespace Go.Proofs.Ytkpfmbdkfgeboaa
open Go.RowKit
set_option maxRecDepth 100000
theorem idx_from14 : ∀ (l : List Int) (x : Int) (i : Nat), Lib.idxFrom l x i = if x ∈ l then ((i + l.idxOf x : Nat) : Int) else -1
  | [], _, _ => by simp [Lib.idxFrom]
  | z :: t, x, i => by
    unfold Lib.idxFrom
    by_cases e : z = x
    · subst e; simp
    · rw [if_neg e, idx_from14 t x (i + 1)]
      have e2 : ¬ x = z := fun g => e g.symm
      by_cases m : x ∈ t
      · rw [if_pos m, if_pos (List.mem_cons_of_mem _ m), List.idxOf_cons, show (z == x) = false from by simpa using e]
        simp only [cond_false]
        omega
      · rw [if_neg m, if_neg (by simp [e2, m])]
theorem pindex_any14 (l : List Int) (S : Option Addr) (c : Nat) (x : Int) (w : World) (hs : IntsR w S l) (hl : l.length ≤ 9223372036854775807) :
    Calls Try.prog 36 #[.slice S l.length c, .int .i64 x] w fun e w' => e = .returned (.int .i64 (if x ∈ l then (l.idxOf x : Int) else -1)) ∧ w' = w := by
  have key : Lib.idxOf l x = if x ∈ l then (l.idxOf x : Int) else -1 := by
    have := idx_from14 l x 0
    rw [Nat.zero_add] at this
    exact this
  rw [← key]
  by_cases h0 : l.length = 0
  · obtain rfl : l = [] := List.length_eq_zero_iff.1 h0
    exact Try.slices_Index_int_empty S c x w
  · obtain ⟨b, o, rfl, hb, hc⟩ := hs (by omega)
    have := Try.slices_Index_int b o l.length c l x w (Nat.le_refl _) hl (fun j hj => hc j _ (by rw [List.getD_eq_getElem?_getD, List.getElem?_eq_getElem hj]; rfl))
    rw [List.take_length] at this
    exact this
theorem cell_same14 {X Y : World} {b o : Nat} (e : X.heap[b]? = Y.heap[b]?) : X.cell? ⟨b, o, none⟩ = Y.cell? ⟨b, o, none⟩ := by
  unfold World.cell?
  simp only [e]
def TK14 (w : World) (r : Hp × Int × Int × Int) (e : Ending) (w' : World) : Prop := ∃ A c ls, e = .returned (.tuple #[.agg #[.slice A r.1.objs.length c, .int .i64 r.1.cap, .int .i64 r.1.last], .int .i64 r.2.1, .int .i64 r.2.2.1, .int .i64 r.2.2.2]) ∧ ls.map (·.o) = r.1.objs ∧ OwnH w' w.heap.size A c ls ∧ Below w.heap.size w w'
theorem tk_arg14 {h : Hp} {f : Int} (hm : mayB h = false) : tk14 h f = (zeroH, 0, 0, 1) := by unfold tk14; rw [if_pos hm]
theorem tk_none14 {h : Hp} {f : Int} (hm : mayB h = true) (e : ls14 h f = none) : tk14 h f = (h, 0, 0, 141) := by unfold tk14; rw [if_neg (by rw [hm]; decide), e]
theorem tk_nil14 {h : Hp} {f : Int} (hm : mayB h = true) (e : ls14 h f = some []) : tk14 h f = (h, 0, 0, 141) := by unfold tk14; rw [if_neg (by rw [hm]; decide), e]; rfl
theorem tk_good14 {h : Hp} {f : Int} {l : List Int} (hm : mayB h = true) (e : ls14 h f = some l) (hn : l ≠ []) : tk14 h f = ((wo14 h l 0).1, l.getD 0 0, (wo14 h l 0).2, 0) := by unfold tk14; rw [if_neg (by rw [hm]; decide), e]; simp only; rw [if_neg hn]
theorem dr_arg14 {h : Hp} {f p : Int} (hm : mayB h = false) : dr14 h f p = (zeroH, 0, 1) := by unfold dr14; rw [if_pos hm]
theorem dr_none14 {h : Hp} {f p : Int} (hm : mayB h = true) (e : ls14 h f = none) : dr14 h f p = (h, 0, 141) := by unfold dr14; rw [if_neg (by rw [hm]; decide), e]
theorem dr_not14 {h : Hp} {f p : Int} {l : List Int} (hm : mayB h = true) (e : ls14 h f = some l) (hn : p ∉ l) : dr14 h f p = (h, 0, 140) := by unfold dr14; rw [if_neg (by rw [hm]; decide), e]; simp only; rw [if_neg hn]
theorem dr_good14 {h : Hp} {f p : Int} {l : List Int} (hm : mayB h = true) (e : ls14 h f = some l) (hn : p ∈ l) : dr14 h f p = ((wo14 h l (l.idxOf p)).1, (wo14 h l (l.idxOf p)).2, 0) := by unfold dr14; rw [if_neg (by rw [hm]; decide), e]; simp only; rw [if_pos hn]
theorem wo_same14 (h : Hp) (l : List Int) (k : Nat) : (wo14 h l k).1.objs.length = h.objs.length ∧ (wo14 h l k).1.cap = h.cap ∧ (wo14 h l k).1.last = h.last := by
  obtain ⟨a1, a2, a3⟩ := lk_same14 (setH h (l.getD k 0) 0 0) (wl14 l k)
  obtain ⟨b1, b2, b3⟩ := lf_same14 h [(l.getD k 0, 0)]
  exact ⟨a1.trans b1, a2.trans b2, a3.trans b3⟩
set_option maxHeartbeats 4000000 in
theorem ptake_any14 (h : Hp) (f : Int) (A : Option Addr) (c : Nat) (w : World) (hs : ObsR w A h.objs) (fit : h.Fit) :
    Calls Try.prog 14 #[.agg #[.slice A h.objs.length c, .int .i64 h.cap, .int .i64 h.last], .int .i64 f] w (TK14 w (tk14 h f)) := by
  obtain ⟨w0, hw0⟩ : ∃ u, u = (w.alloc (.cells #[Value.slice A h.objs.length c, Value.int .i64 h.cap, Value.int .i64 h.last] 24)).alloc (.cells #[.slice none 0 0, .int .i64 0, .int .i64 0] 24) := ⟨_, rfl⟩
  obtain ⟨bR, hbR⟩ : ∃ x, x = w.heap.size + 1 := ⟨_, rfl⟩
  have HB0 : Hid (Below w.heap.size w w0) := by show Below _ _ _; rw [hw0]; exact below_alloc2 w _ _
  have HX0 : Hid (Lies w0 w.heap.size 24 #[Value.slice A h.objs.length c, Value.int .i64 h.cap, Value.int .i64 h.last]) := by
    show Lies _ _ _ _
    rw [hw0]; exact (Lies.new _ _ _).alloc _
  have HR0 : Hid (Lies w0 bR 24 #[.slice none 0 0, .int .i64 0, .int .i64 0]) := by
    show Lies _ _ _ _
    have := Lies.new (w.alloc (.cells #[Value.slice A h.objs.length c, Value.int .i64 h.cap, Value.int .i64 h.last] 24)) 24 #[.slice none 0 0, .int .i64 0, .int .i64 0]
    rw [hw0, hbR]; simpa using this
  have HRW : Hid (w.heap.size ≤ bR) := by show _ ≤ _; omega
  have HRL : Hid (bR < w0.heap.size) := HR0.out.lt
  have HS := hid hs
  have HF := hid fit
  obtain ⟨rr, hrr⟩ : ∃ r, r = tk14 h f := ⟨_, rfl⟩
  rw [← hrr]
  have HRR := hid hrr
  clear hs fit hrr
  go_enter Try.func14, Try.ntmps14
  go_upto_region 1 with fail
  rw [← hw0, ← hbR]
  clear hw0 hbR
  obtain ⟨x0, x1, x2⟩ := HX0.out.c3
  go_wp2_with fail
  refine (plist_any14 h f A c w0 (HS.out.below HB0.out) HF.out).mono ?_
  rintro e w1 ⟨S, cl, rfl, hol, hb⟩
  have HW1 : Hid (w0.heap.size ≤ w1.heap.size) := hb.size
  have HB1 := hid (then_w HB0.out hb)
  have HX1 := hid (HX0.out.later hb)
  have HR1 := hid (HR0.out.later hb)
  clear hb x0 x1 x2
  cases hm : mayB h
  · have HR2 : Hid (rr = (zeroH, 0, 0, 1)) := by show _ = _; rw [HRR.out]; exact tk_arg14 hm
    rw [lr_arg14 hm] at hol ⊢
    clear hm hol
    obtain ⟨x0, x1, x2⟩ := HX1.out.c3
    go_wp2_with fail
    refine (punchanged_any14 h 1 A c w1 (HS.out.below HB1.out) (fun e => absurd rfl e)).mono ?_
    rintro e wu ⟨Au, cu, lu, rfl, hlu, hou, hbu⟩
    have HKu := hid (HR1.out.later hbu)
    have HBu := hid (then_w HB1.out hbu)
    have HOu := hid hou
    have HLu := hid hlu
    have HBW := hid (HB1.out.size)
    clear hou hbu hlu x0 x1 x2
    rw [show unH h 1 = zeroH from rfl] at HLu ⊢
    obtain ⟨k0, k1, k2⟩ := HKu.out.c3
    obtain ⟨f0, f1, f2⟩ := HKu.out.f3
    go_wp2_with fail
    obtain ⟨s1, s2, s3⟩ := set3_14 HKu.out HOu.out HBu.out HRW.out (.slice Au (zeroH).objs.length cu) (.int .i64 (zeroH).cap) (.int .i64 (zeroH).last)
    obtain ⟨r0, r1, r2⟩ := s1.c3
    refine bodyPost_ret (v := .tuple #[.agg #[.slice Au (zeroH).objs.length cu, .int .i64 (zeroH).cap, .int .i64 (zeroH).last], .int .i64 0, .int .i64 0, .int .i64 1]) (by simp [results, Try.results14, go_sem, r0, r1, r2]) rfl ?_
    rw [HR2.out]
    exact ⟨Au, cu, lu, rfl, HLu.out, s2.lower HBW.out, s3⟩
  · have HM := hid hm
    cases hl : ls14 h f with
    | none =>
      have HR2 : Hid (rr = (h, 0, 0, 141)) := by show _ = _; rw [HRR.out]; exact tk_none14 hm hl
      rw [lr_none14 hm hl] at hol ⊢
      clear hm hl hol
      obtain ⟨x0, x1, x2⟩ := HX1.out.c3
      go_wp2_with fail
      refine (punchanged_any14 h 141 A c w1 (HS.out.below HB1.out) (fun _ => HM.out)).mono ?_
      rintro e wu ⟨Au, cu, lu, rfl, hlu, hou, hbu⟩
      have HKu := hid (HR1.out.later hbu)
      have HBu := hid (then_w HB1.out hbu)
      have HOu := hid hou
      have HLu := hid hlu
      have HBW := hid (HB1.out.size)
      clear hou hbu hlu x0 x1 x2
      rw [show unH h 141 = h from rfl] at HLu ⊢
      obtain ⟨k0, k1, k2⟩ := HKu.out.c3
      obtain ⟨f0, f1, f2⟩ := HKu.out.f3
      go_wp2_with fail
      obtain ⟨s1, s2, s3⟩ := set3_14 HKu.out HOu.out HBu.out HRW.out (.slice Au (h).objs.length cu) (.int .i64 (h).cap) (.int .i64 (h).last)
      obtain ⟨r0, r1, r2⟩ := s1.c3
      refine bodyPost_ret (v := .tuple #[.agg #[.slice Au (h).objs.length cu, .int .i64 (h).cap, .int .i64 (h).last], .int .i64 0, .int .i64 0, .int .i64 141]) (by simp [results, Try.results14, go_sem, r0, r1, r2]) rfl ?_
      rw [HR2.out]
      exact ⟨Au, cu, lu, rfl, HLu.out, s2.lower HBW.out, s3⟩
    | some l =>
      obtain ⟨hnd, hpc, hhd, hlen⟩ := ls_some14 hl
      have HPC := hid hpc
      have h256 : l.length ≤ 256 := by have := may_len hm; omega
      have HL2 := hid h256
      by_cases hn : l = []
      · subst hn
        have HR2 : Hid (rr = (h, 0, 0, 141)) := by show _ = _; rw [HRR.out]; exact tk_nil14 hm hl
        rw [lr_some14 hm hl] at hol ⊢
        clear hm hl hol h256 HL2 HPC hnd hpc hhd hlen
        obtain ⟨x0, x1, x2⟩ := HX1.out.c3
        go_wp2_with fail
        refine (punchanged_any14 h 141 A c w1 (HS.out.below HB1.out) (fun _ => HM.out)).mono ?_
        rintro e wu ⟨Au, cu, lu, rfl, hlu, hou, hbu⟩
        have HKu := hid (HR1.out.later hbu)
        have HBu := hid (then_w HB1.out hbu)
        have HOu := hid hou
        have HLu := hid hlu
        have HBW := hid (HB1.out.size)
        clear hou hbu hlu x0 x1 x2
        rw [show unH h 141 = h from rfl] at HLu ⊢
        obtain ⟨k0, k1, k2⟩ := HKu.out.c3
        obtain ⟨f0, f1, f2⟩ := HKu.out.f3
        go_wp2_with fail
        obtain ⟨s1, s2, s3⟩ := set3_14 HKu.out HOu.out HBu.out HRW.out (.slice Au (h).objs.length cu) (.int .i64 (h).cap) (.int .i64 (h).last)
        obtain ⟨r0, r1, r2⟩ := s1.c3
        refine bodyPost_ret (v := .tuple #[.agg #[.slice Au (h).objs.length cu, .int .i64 (h).cap, .int .i64 (h).last], .int .i64 0, .int .i64 0, .int .i64 141]) (by simp [results, Try.results14, go_sem, r0, r1, r2]) rfl ?_
        rw [HR2.out]
        exact ⟨Au, cu, lu, rfl, HLu.out, s2.lower HBW.out, s3⟩
      · have HRG : Hid (rr = ((wo14 h l 0).1, l.getD 0 0, (wo14 h l 0).2, 0)) := by show _ = _; rw [HRR.out]; exact tk_good14 hm hl hn
        rw [lr_some14 hm hl] at hol ⊢
        obtain ⟨n, hln⟩ : ∃ n, l.length = n + 1 := ⟨l.length - 1, by have := List.length_pos_iff.2 hn; omega⟩
        have hk : 0 < l.length := by omega
        have hk2 : (0 : Int) < (l.length : Int) := by omega
        have hne : ((l.length : Int) == 0) = false := by simp; omega
        obtain ⟨k, hkk⟩ : ∃ k : Nat, k = 0 := ⟨_, rfl⟩
        obtain ⟨bs, os, rfl, hbs, hcs⟩ := own_ints hol (by omega)
        obtain ⟨q, hq⟩ : ∃ q, q = l.getD 0 0 := ⟨_, rfl⟩
        have hy0 : w1.cell? ⟨bs, os, none⟩ = some (.int .i64 q) := by
          have := hcs 0 q (by rw [hq, List.getD_eq_getElem?_getD, List.getElem?_eq_getElem hk]; rfl)
          simpa using this
        rw [← hq] at HRG
        have HY0 := hid hy0
        have HBS := hid hbs
        have HBR : Hid (bs ≠ bR) := by
          show _ ≠ _
          have := (hol.lt bs rfl).1
          have := HRL.out
          omega
        clear hq hcs hy0 hbs hn hln
        have HNC := hid (own_cap hol)
        have HIX := hid (own_ints hol)
        have HLX : Hid (l.length ≤ 9223372036854775807) := by show _ ≤ _; omega
        have HKL := hid hk
        clear hm hl hol h256 hnd hpc hhd hlen hkk
        obtain ⟨x0, x1, x2⟩ := HX1.out.c3
        go_wp2_with fail
        refine (pwithout_any14 h l 0 A c (some ⟨bs, os, none⟩) cl w1 (HS.out.below HB1.out) HM.out HPC.out HL2.out HKL.out HIX.out HNC.out).mono ?_
        rintro e w5 ⟨A2, c2, ls, rfl, hm5, ho5, hb⟩
        have HM5 := hid hm5
        have HO5 := hid ho5
        have HB5 := hid (then_w HB1.out hb)
        have HR5 := hid (HR1.out.later hb)
        have HW15 := hid hb.size
        have HY5 := hid ((hb.cell (p := ⟨bs, os, none⟩) (Nat.lt_of_lt_of_le HBS.out (Nat.le_refl _))).trans HY0.out)
        clear hm5 ho5 hb x0 x1 x2
        go_upto_region 7 with fail
        obtain ⟨w6, hw6⟩ : ∃ x, x = w5.alloc (.cells #[Value.slice A2 h.objs.length c2, Value.int .i64 h.cap, Value.int .i64 h.last] 24) := ⟨_, rfl⟩
        obtain ⟨bG, hbG⟩ : ∃ x, x = w5.heap.size := ⟨_, rfl⟩
        have HG6 : Hid (Lies w6 bG 24 #[Value.slice A2 h.objs.length c2, Value.int .i64 h.cap, Value.int .i64 h.last]) := by show Lies _ _ _ _; rw [hw6, hbG]; exact Lies.new _ _ _
        have hb : Below w5.heap.size w5 w6 := by rw [hw6]; exact below_alloc _ _
        have HGR : Hid (bG ≠ bR) := by show _ ≠ _; have := HRL.out; have := HW1.out; have := HW15.out; omega
        have HB6 := hid (then_w HB5.out hb)
        have HR6 := hid (HR5.out.later hb)
        have HO6 := hid (HO5.out.later hb)
        have HY6 := hid (cell_later hb HY5.out)
        rw [← hw6, ← hbG]
        clear hw6 hbG hb
        obtain ⟨g0, g1, g2⟩ := HG6.out.c3
        obtain ⟨q1, q2, q3⟩ := wo_same14 h l 0
        have y0 := HY6.out
        have hbsr : bs ≠ bR := HBR.out
        refine wp_region_held_drew (S := (fun w' => w'.cell? ⟨bG, 0, none⟩ = some (.slice A2 h.objs.length c2) ∧ w'.cell? ⟨bG, 1, none⟩ = some (.int .i64 h.cap) ∧ w'.cell? ⟨bG, 2, none⟩ = some (.int .i64 h.last) ∧ w'.cell? ⟨bs, os, none⟩ = some (.int .i64 q))) (by kernel_rfl) ?_ (fun hH0 => ?_)
        · exact ⟨cell_later (Below.refl w6.heap.size w6).drew g0, cell_later (Below.refl w6.heap.size w6).drew g1, cell_later (Below.refl w6.heap.size w6).drew g2, cell_later (Below.refl w6.heap.size w6).drew y0⟩
        refine wpAnyH_take (i := 0) (oi := { dst := some 37, op := Go.Op.load 24 (Go.Operand.tmp 10), type := 24, pos := "proc.go:63", after := #[], guard := none }) (v := ?vv1) rfl (by kernel_rfl) (by kernel_rfl) (by kernel_rfl) (fun _ _ _ h => h) (Or.inl ⟨by rfl, ?hy1⟩) (by assumption) ?rr1
        case hy1 => intro w hSw; (try dsimp only at hSw); go_simp; all_goals with_reducible rfl
        try simp only [Act.put, List.setIfInBounds_toArray, List.set_cons_zero, List.set_cons_succ]
        refine wpAnyH_take (i := 1) (oi := { dst := some 38, op := Go.Op.move (Go.Operand.tmp 8), type := 27, pos := "proc.go:63", after := #[{ on := 5, ground := Go.Ground.gcOnly Go.Departure.lateStores }], guard := none }) (v := ?vv2) rfl (by kernel_rfl) (by kernel_rfl) (by kernel_rfl) (fun _ _ _ h => h) (Or.inl ⟨by rfl, ?hy2⟩) (by assumption) ?rr2
        case hy2 => intro w hSw; (try dsimp only at hSw); go_simp; all_goals with_reducible rfl
        try simp only [Act.put, List.setIfInBounds_toArray, List.set_cons_zero, List.set_cons_succ]
        refine wpAnyH_take (i := 2) (oi := { dst := some 39, op := Go.Op.indexAddr 27 (Go.Operand.tmp 38) (Go.Operand.const (Go.Value.int Go.IntKind.i64 0)), type := 0, pos := "proc.go:63", after := #[{ on := 1, ground := Go.Ground.data }, { on := 5, ground := Go.Ground.gcOnly Go.Departure.lateStores }], guard := none }) (v := ?vv3) rfl (by kernel_rfl) (by kernel_rfl) (by kernel_rfl) (fun _ _ _ h => h) (Or.inl ⟨by rfl, ?hy3⟩) (by assumption) ?rr3
        case hy3 => intro w hSw; (try dsimp only at hSw); go_simp; all_goals with_reducible rfl
        try simp only [Act.put, List.setIfInBounds_toArray, List.set_cons_zero, List.set_cons_succ]
        refine wpAnyH_take (i := 3) (oi := { dst := some 40, op := Go.Op.load 3 (Go.Operand.tmp 39), type := 3, pos := "proc.go:63", after := #[{ on := 2, ground := Go.Ground.data }, { on := 5, ground := Go.Ground.gcOnly Go.Departure.lateStores }], guard := none }) (v := ?vv4) rfl (by kernel_rfl) (by kernel_rfl) (by kernel_rfl) (fun _ _ _ h => h) (Or.inl ⟨by rfl, ?hy4⟩) (by assumption) ?rr4
        case hy4 => intro w hSw; (try dsimp only at hSw); go_simp; all_goals with_reducible rfl
        try simp only [Act.put, List.setIfInBounds_toArray, List.set_cons_zero, List.set_cons_succ]
        refine wpAnyH_take (i := 4) (oi := { dst := some 41, op := Go.Op.move (Go.Operand.tmp 11), type := 3, pos := "proc.go:63", after := #[{ on := 6, ground := Go.Ground.gcOnly Go.Departure.lateStores }], guard := none }) (v := ?vv5) rfl (by kernel_rfl) (by kernel_rfl) (by kernel_rfl) (fun _ _ _ h => h) (Or.inl ⟨by rfl, ?hy5⟩) (by assumption) ?rr5
        case hy5 => intro w hSw; (try dsimp only at hSw); go_simp; all_goals with_reducible rfl
        try simp only [Act.put, List.setIfInBounds_toArray, List.set_cons_zero, List.set_cons_succ]
        refine wpAnyH_ready (rs := [5]) (by kernel_rfl) (by simp) ?_
        refine AllReadyH.cons (i := 5) (o := { dst := none, op := Go.Op.store 24 (Go.Operand.tmp 4) (Go.Operand.tmp 37), type := 0, pos := "proc.go:63", after := #[{ on := 0, ground := Go.Ground.data }, { on := 0, ground := Go.Ground.phase }, { on := 1, ground := Go.Ground.textOnly Go.Departure.lateStores }, { on := 2, ground := Go.Ground.textOnly Go.Departure.lateStores }, { on := 3, ground := Go.Ground.textOnly Go.Departure.lateStores }, { on := 4, ground := Go.Ground.textOnly Go.Departure.lateStores }], guard := none }) rfl (fun K hK => ?_) AllReadyH.nil
        obtain ⟨V0, hV0⟩ : ∃ V, V = w6.drew := ⟨_, rfl⟩
        rw [← hV0]
        have hbd : Below w6.heap.size w6 V0 := by rw [hV0]; exact (Below.refl _ _).drew
        have HR7 := hid (HR6.out.later hbd)
        have HO7 := hid (HO6.out.later hbd)
        have HB7 := hid (then_w HB6.out hbd)
        have HG7 := hid (HG6.out.later hbd)
        have HY7 := hid (cell_later hbd HY6.out)
        clear hV0 hbd
        obtain ⟨k0, k1, k2⟩ := HR7.out.c3
        obtain ⟨f0, f1, f2⟩ := HR7.out.f3
        go_simp
        clear k0 k1 k2 f0 f1 f2
        obtain ⟨s1, s2, s3⟩ := set3_14 HR7.out HO7.out HB7.out HRW.out (.slice A2 h.objs.length c2) (.int .i64 h.cap) (.int .i64 h.last)
        have s4 := ((HG7.out.far (p := ⟨bR, 0, none⟩) HGR.out (.slice A2 h.objs.length c2)).far (p := ⟨bR, 1, none⟩) HGR.out (.int .i64 h.cap)).far (p := ⟨bR, 2, none⟩) HGR.out (.int .i64 h.last)
        have s5 : (((V0.setCell ⟨bR, 0, none⟩ (.slice A2 h.objs.length c2)).setCell ⟨bR, 1, none⟩ (.int .i64 h.cap)).setCell ⟨bR, 2, none⟩ (.int .i64 h.last)).cell? ⟨bs, os, none⟩ = some (.int .i64 q) := by
          refine (cell_same14 ?_).trans HY7.out
          rw [Below.heap_setCell _ _ _ _ (show bs ≠ bR from hbsr), Below.heap_setCell _ _ _ _ (show bs ≠ bR from hbsr), Below.heap_setCell _ _ _ _ (show bs ≠ bR from hbsr)]
        obtain ⟨V, hV⟩ : ∃ V, V = ((V0.setCell ⟨bR, 0, none⟩ (.slice A2 h.objs.length c2)).setCell ⟨bR, 1, none⟩ (.int .i64 h.cap)).setCell ⟨bR, 2, none⟩ (.int .i64 h.last) := ⟨_, rfl⟩
        rw [← hV] at s1 s2 s3 s4 s5
        rw [← hV]
        have HRV := hid s1
        have HOV := hid s2
        have HBV := hid s3
        have HGV := hid s4
        have HYV := hid s5
        clear hV s1 s2 s3 s4 s5 g0 g1 g2 y0
        obtain ⟨g0, g1, g2⟩ := HGV.out.c3
        refine hK.out _ _ ?_ (fun hH1 => ?_)
        · exact ⟨g0, g1, g2, HYV.out⟩
        clear hK K
        try simp only [Act.put, List.setIfInBounds_toArray, List.set_cons_zero, List.set_cons_succ]
        clear g0 g1 g2
        refine wpAnyH_take (i := 6) (oi := { dst := some 5, op := Go.Op.assign (Go.Operand.tmp 40), type := 3, pos := "proc.go:63", after := #[{ on := 3, ground := Go.Ground.data }, { on := 5, ground := Go.Ground.chain }, { on := 0, ground := Go.Ground.phase }, { on := 1, ground := Go.Ground.phase }, { on := 2, ground := Go.Ground.phase }, { on := 3, ground := Go.Ground.phase }, { on := 4, ground := Go.Ground.textOnly Go.Departure.lateStores }, { on := 5, ground := Go.Ground.phase }], guard := none }) (v := ?vv6) rfl (by kernel_rfl) (by kernel_rfl) (by kernel_rfl) (fun _ _ _ h => h) (Or.inl ⟨by rfl, ?hy6⟩) (by assumption) ?rr6
        case hy6 => intro w hSw; (try dsimp only at hSw); go_simp; all_goals with_reducible rfl
        try simp only [Act.put, List.setIfInBounds_toArray, List.set_cons_zero, List.set_cons_succ]
        refine wpAnyH_take (i := 7) (oi := { dst := some 6, op := Go.Op.assign (Go.Operand.tmp 41), type := 3, pos := "proc.go:63", after := #[{ on := 4, ground := Go.Ground.data }, { on := 6, ground := Go.Ground.chain }, { on := 0, ground := Go.Ground.phase }, { on := 1, ground := Go.Ground.phase }, { on := 2, ground := Go.Ground.phase }, { on := 3, ground := Go.Ground.phase }, { on := 4, ground := Go.Ground.phase }, { on := 5, ground := Go.Ground.phase }, { on := 6, ground := Go.Ground.phase }], guard := none }) (v := ?vv7) rfl (by kernel_rfl) (by kernel_rfl) (by kernel_rfl) (fun _ _ _ h => h) (Or.inl ⟨by rfl, ?hy7⟩) (by assumption) ?rr7
        case hy7 => intro w hSw; (try dsimp only at hSw); go_simp; all_goals with_reducible rfl
        try simp only [Act.put, List.setIfInBounds_toArray, List.set_cons_zero, List.set_cons_succ]
        refine wpAnyH_take (i := 8) (oi := { dst := some 7, op := Go.Op.assign (Go.Operand.const (Go.Value.int Go.IntKind.i64 0)), type := 28, pos := "proc.go:63", after := #[{ on := 7, ground := Go.Ground.chain }, { on := 0, ground := Go.Ground.phase }, { on := 1, ground := Go.Ground.phase }, { on := 2, ground := Go.Ground.phase }, { on := 3, ground := Go.Ground.phase }, { on := 4, ground := Go.Ground.phase }, { on := 5, ground := Go.Ground.phase }, { on := 6, ground := Go.Ground.phase }, { on := 7, ground := Go.Ground.phase }], guard := none }) (v := ?vv8) rfl (by kernel_rfl) (by kernel_rfl) (by kernel_rfl) (fun _ _ _ h => h) (Or.inl ⟨by rfl, ?hy8⟩) (by assumption) ?rr8
        case hy8 => intro w hSw; (try dsimp only at hSw); go_simp; all_goals with_reducible rfl
        try simp only [Act.put, List.setIfInBounds_toArray, List.set_cons_zero, List.set_cons_succ]
        refine wpAnyH_done (by kernel_rfl) ?_ _
        obtain ⟨r0, r1, r2⟩ := HRV.out.c3
        go_wp2_with fail
        refine bodyPost_ret (v := .tuple #[.agg #[.slice A2 h.objs.length c2, .int .i64 h.cap, .int .i64 h.last], .int .i64 q, .int .i64 (wo14 h l 0).2, .int .i64 0]) (by simp [results, Try.results14, go_sem, r0, r1, r2]) rfl ?_
        rw [HRG.out]
        refine ⟨A2, c2, ls, ?_, HM5.out, HOV.out.lower (Nat.le_trans HB0.out.size HW1.out), HBV.out⟩
        rw [q1, q2, q3]
set_option maxHeartbeats 4000000 in
theorem pdrop_any14 (h : Hp) (f p : Int) (A : Option Addr) (c : Nat) (w : World) (hs : ObsR w A h.objs) (fit : h.Fit) :
    Calls Try.prog 15 #[.agg #[.slice A h.objs.length c, .int .i64 h.cap, .int .i64 h.last], .int .i64 f, .int .i64 p] w (HO14 w (dr14 h f p)) := by
  obtain ⟨w0, hw0⟩ : ∃ u, u = (w.alloc (.cells #[Value.slice A h.objs.length c, Value.int .i64 h.cap, Value.int .i64 h.last] 24)).alloc (.cells #[.slice none 0 0, .int .i64 0, .int .i64 0] 24) := ⟨_, rfl⟩
  obtain ⟨bR, hbR⟩ : ∃ x, x = w.heap.size + 1 := ⟨_, rfl⟩
  have HB0 : Hid (Below w.heap.size w w0) := by show Below _ _ _; rw [hw0]; exact below_alloc2 w _ _
  have HX0 : Hid (Lies w0 w.heap.size 24 #[Value.slice A h.objs.length c, Value.int .i64 h.cap, Value.int .i64 h.last]) := by
    show Lies _ _ _ _
    rw [hw0]; exact (Lies.new _ _ _).alloc _
  have HR0 : Hid (Lies w0 bR 24 #[.slice none 0 0, .int .i64 0, .int .i64 0]) := by
    show Lies _ _ _ _
    have := Lies.new (w.alloc (.cells #[Value.slice A h.objs.length c, Value.int .i64 h.cap, Value.int .i64 h.last] 24)) 24 #[.slice none 0 0, .int .i64 0, .int .i64 0]
    rw [hw0, hbR]; simpa using this
  have HRW : Hid (w.heap.size ≤ bR) := by show _ ≤ _; omega
  have HRL : Hid (bR < w0.heap.size) := HR0.out.lt
  have HS := hid hs
  have HF := hid fit
  obtain ⟨rr, hrr⟩ : ∃ r, r = dr14 h f p := ⟨_, rfl⟩
  rw [← hrr]
  have HRR := hid hrr
  clear hs fit hrr
  go_enter Try.func15, Try.ntmps15
  go_upto_region 1 with fail
  rw [← hw0, ← hbR]
  clear hw0 hbR
  obtain ⟨x0, x1, x2⟩ := HX0.out.c3
  go_wp2_with fail
  refine (plist_any14 h f A c w0 (HS.out.below HB0.out) HF.out).mono ?_
  rintro e w1 ⟨S, cl, rfl, hol, hb⟩
  have HW1 : Hid (w0.heap.size ≤ w1.heap.size) := hb.size
  have HB1 := hid (then_w HB0.out hb)
  have HX1 := hid (HX0.out.later hb)
  have HR1 := hid (HR0.out.later hb)
  clear hb x0 x1 x2
  cases hm : mayB h
  · have HR2 : Hid (rr = (zeroH, 0, 1)) := by show _ = _; rw [HRR.out]; exact dr_arg14 hm
    rw [lr_arg14 hm] at hol ⊢
    have HIX := hid (own_ints hol)
    have HLX : Hid (([] : List Int).length ≤ 9223372036854775807) := by show _ ≤ _; decide
    have HKX : Hid ((if p ∈ ([] : List Int) then ((([] : List Int).idxOf p : Nat) : Int) else -1) = -1) := by show _ = _; rw [if_neg (by simp)]
    clear hm hol
    obtain ⟨x0, x1, x2⟩ := HX1.out.c3
    go_wp2_with fail
    refine (pindex_any14 _ S cl p w1 HIX.out HLX.out).mono ?_
    rintro e wx ⟨rfl, hwx⟩
    rw [HKX.out, hwx]
    clear hwx
    go_wp2_with fail
    refine (punchanged_any14 h 1 A c w1 (HS.out.below HB1.out) (fun e => absurd rfl e)).mono ?_
    rintro e wu ⟨Au, cu, lu, rfl, hlu, hou, hbu⟩
    have HKu := hid (HR1.out.later hbu)
    have HBu := hid (then_w HB1.out hbu)
    have HOu := hid hou
    have HLu := hid hlu
    have HBW := hid (HB1.out.size)
    clear hou hbu hlu x0 x1 x2
    rw [show unH h 1 = zeroH from rfl] at HLu ⊢
    obtain ⟨k0, k1, k2⟩ := HKu.out.c3
    obtain ⟨f0, f1, f2⟩ := HKu.out.f3
    go_wp2_with fail
    obtain ⟨s1, s2, s3⟩ := set3_14 HKu.out HOu.out HBu.out HRW.out (.slice Au (zeroH).objs.length cu) (.int .i64 (zeroH).cap) (.int .i64 (zeroH).last)
    obtain ⟨r0, r1, r2⟩ := s1.c3
    refine bodyPost_ret (v := .tuple #[.agg #[.slice Au (zeroH).objs.length cu, .int .i64 (zeroH).cap, .int .i64 (zeroH).last], .int .i64 0, .int .i64 1]) (by simp [results, Try.results15, go_sem, r0, r1, r2]) rfl ?_
    rw [HR2.out]
    exact ⟨Au, cu, lu, rfl, HLu.out, s2.lower HBW.out, s3⟩
  · have HM := hid hm
    cases hl : ls14 h f with
    | none =>
      have HR2 : Hid (rr = (h, 0, 141)) := by show _ = _; rw [HRR.out]; exact dr_none14 hm hl
      rw [lr_none14 hm hl] at hol ⊢
      have HIX := hid (own_ints hol)
      have HLX : Hid (([] : List Int).length ≤ 9223372036854775807) := by show _ ≤ _; decide
      have HKX : Hid ((if p ∈ ([] : List Int) then ((([] : List Int).idxOf p : Nat) : Int) else -1) = -1) := by show _ = _; rw [if_neg (by simp)]
      clear hm hl hol
      obtain ⟨x0, x1, x2⟩ := HX1.out.c3
      go_wp2_with fail
      refine (pindex_any14 _ S cl p w1 HIX.out HLX.out).mono ?_
      rintro e wx ⟨rfl, hwx⟩
      rw [HKX.out, hwx]
      clear hwx
      go_wp2_with fail
      refine (punchanged_any14 h 141 A c w1 (HS.out.below HB1.out) (fun _ => HM.out)).mono ?_
      rintro e wu ⟨Au, cu, lu, rfl, hlu, hou, hbu⟩
      have HKu := hid (HR1.out.later hbu)
      have HBu := hid (then_w HB1.out hbu)
      have HOu := hid hou
      have HLu := hid hlu
      have HBW := hid (HB1.out.size)
      clear hou hbu hlu x0 x1 x2
      rw [show unH h 141 = h from rfl] at HLu ⊢
      obtain ⟨k0, k1, k2⟩ := HKu.out.c3
      obtain ⟨f0, f1, f2⟩ := HKu.out.f3
      go_wp2_with fail
      obtain ⟨s1, s2, s3⟩ := set3_14 HKu.out HOu.out HBu.out HRW.out (.slice Au (h).objs.length cu) (.int .i64 (h).cap) (.int .i64 (h).last)
      obtain ⟨r0, r1, r2⟩ := s1.c3
      refine bodyPost_ret (v := .tuple #[.agg #[.slice Au (h).objs.length cu, .int .i64 (h).cap, .int .i64 (h).last], .int .i64 0, .int .i64 141]) (by simp [results, Try.results15, go_sem, r0, r1, r2]) rfl ?_
      rw [HR2.out]
      exact ⟨Au, cu, lu, rfl, HLu.out, s2.lower HBW.out, s3⟩
    | some l =>
      obtain ⟨hnd, hpc, hhd, hlen⟩ := ls_some14 hl
      have HPC := hid hpc
      have h256 : l.length ≤ 256 := by have := may_len hm; omega
      have HL2 := hid h256
      by_cases hn : p ∈ l
      · have HRG : Hid (rr = ((wo14 h l (l.idxOf p)).1, (wo14 h l (l.idxOf p)).2, 0)) := by show _ = _; rw [HRR.out]; exact dr_good14 hm hl hn
        rw [lr_some14 hm hl] at hol ⊢
        obtain ⟨k, hkk⟩ : ∃ k : Nat, k = l.idxOf p := ⟨_, rfl⟩
        have hk : k < l.length := by rw [hkk]; exact List.idxOf_lt_length_of_mem hn
        have HKX : Hid ((if p ∈ l then ((l.idxOf p : Nat) : Int) else -1) = (k : Int)) := by show _ = _; rw [if_pos hn, hkk]
        rw [← hkk] at HRG
        have hk0 : ¬ (k : Int) < 0 := by omega
        have hk1 : (0 : Int) ≤ (k : Int) := by omega
        clear hn
        have HNC := hid (own_cap hol)
        have HIX := hid (own_ints hol)
        have HLX : Hid (l.length ≤ 9223372036854775807) := by show _ ≤ _; omega
        have HKL := hid hk
        clear hm hl hol h256 hnd hpc hhd hlen hkk
        obtain ⟨x0, x1, x2⟩ := HX1.out.c3
        go_wp2_with fail
        refine (pindex_any14 l S cl p w1 HIX.out HLX.out).mono ?_
        rintro e wx ⟨rfl, hwx⟩
        rw [HKX.out, hwx]
        clear hwx
        go_wp2_with fail
        refine (pwithout_any14 h l k A c S cl w1 (HS.out.below HB1.out) HM.out HPC.out HL2.out HKL.out HIX.out HNC.out).mono ?_
        rintro e w5 ⟨A2, c2, ls, rfl, hm5, ho5, hb⟩
        have HM5 := hid hm5
        have HO5 := hid ho5
        have HB5 := hid (then_w HB1.out hb)
        have HR5 := hid (HR1.out.later hb)
        have HW15 := hid hb.size
        clear hm5 ho5 hb x0 x1 x2
        go_upto_region 8 with fail
        obtain ⟨w6, hw6⟩ : ∃ x, x = w5.alloc (.cells #[Value.slice A2 h.objs.length c2, Value.int .i64 h.cap, Value.int .i64 h.last] 24) := ⟨_, rfl⟩
        obtain ⟨bG, hbG⟩ : ∃ x, x = w5.heap.size := ⟨_, rfl⟩
        have HG6 : Hid (Lies w6 bG 24 #[Value.slice A2 h.objs.length c2, Value.int .i64 h.cap, Value.int .i64 h.last]) := by show Lies _ _ _ _; rw [hw6, hbG]; exact Lies.new _ _ _
        have hb : Below w5.heap.size w5 w6 := by rw [hw6]; exact below_alloc _ _
        have HGR : Hid (bG ≠ bR) := by show _ ≠ _; have := HRL.out; have := HW1.out; have := HW15.out; omega
        have HB6 := hid (then_w HB5.out hb)
        have HR6 := hid (HR5.out.later hb)
        have HO6 := hid (HO5.out.later hb)
        rw [← hw6, ← hbG]
        clear hw6 hbG hb
        obtain ⟨g0, g1, g2⟩ := HG6.out.c3
        obtain ⟨q1, q2, q3⟩ := wo_same14 h l k
        obtain ⟨k0, k1, k2⟩ := HR6.out.c3
        obtain ⟨f0, f1, f2⟩ := HR6.out.f3
        go_wp2_with fail
        clear k0 k1 k2 f0 f1 f2
        obtain ⟨s1, s2, s3⟩ := set3_14 HR6.out HO6.out HB6.out HRW.out (.slice A2 h.objs.length c2) (.int .i64 h.cap) (.int .i64 h.last)
        obtain ⟨r0, r1, r2⟩ := s1.c3
        refine bodyPost_ret (v := .tuple #[.agg #[.slice A2 h.objs.length c2, .int .i64 h.cap, .int .i64 h.last], .int .i64 (wo14 h l k).2, .int .i64 0]) (by simp [results, Try.results15, go_sem, r0, r1, r2]) rfl ?_
        rw [HRG.out]
        refine ⟨A2, c2, ls, ?_, HM5.out, s2.lower (Nat.le_trans HB0.out.size HW1.out), s3⟩
        rw [q1, q2, q3]
      · have HR2 : Hid (rr = (h, 0, 140)) := by show _ = _; rw [HRR.out]; exact dr_not14 hm hl hn
        rw [lr_some14 hm hl] at hol ⊢
        have HIX := hid (own_ints hol)
        have HLX : Hid (l.length ≤ 9223372036854775807) := by show _ ≤ _; omega
        have HKX : Hid ((if p ∈ l then ((l.idxOf p : Nat) : Int) else -1) = -1) := by show _ = _; rw [if_neg hn]
        clear hm hl hol h256 HL2 HPC hnd hpc hhd hlen hn
        obtain ⟨x0, x1, x2⟩ := HX1.out.c3
        go_wp2_with fail
        refine (pindex_any14 _ S cl p w1 HIX.out HLX.out).mono ?_
        rintro e wx ⟨rfl, hwx⟩
        rw [HKX.out, hwx]
        clear hwx
        go_wp2_with fail
        refine (punchanged_any14 h 140 A c w1 (HS.out.below HB1.out) (fun _ => HM.out)).mono ?_
        rintro e wu ⟨Au, cu, lu, rfl, hlu, hou, hbu⟩
        have HKu := hid (HR1.out.later hbu)
        have HBu := hid (then_w HB1.out hbu)
        have HOu := hid hou
        have HLu := hid hlu
        have HBW := hid (HB1.out.size)
        clear hou hbu hlu x0 x1 x2
        rw [show unH h 140 = h from rfl] at HLu ⊢
        obtain ⟨k0, k1, k2⟩ := HKu.out.c3
        obtain ⟨f0, f1, f2⟩ := HKu.out.f3
        go_wp2_with fail
        obtain ⟨s1, s2, s3⟩ := set3_14 HKu.out HOu.out HBu.out HRW.out (.slice Au (h).objs.length cu) (.int .i64 (h).cap) (.int .i64 (h).last)
        obtain ⟨r0, r1, r2⟩ := s1.c3
        refine bodyPost_ret (v := .tuple #[.agg #[.slice Au (h).objs.length cu, .int .i64 (h).cap, .int .i64 (h).last], .int .i64 0, .int .i64 140]) (by simp [results, Try.results15, go_sem, r0, r1, r2]) rfl ?_
        rw [HR2.out]
        exact ⟨Au, cu, lu, rfl, HLu.out, s2.lower HBW.out, s3⟩
end Go.Proofs.Ytkpfmbdkfgeboaa
