/- A process of a list without the one at place k. -/
import Derived.Test.YtkpfmbdkfgeboaaRP14
namespace Go.Proofs.Ytkpfmbdkfgeboaa
open Go.RowKit
set_option maxRecDepth 100000
set_option maxHeartbeats 4000000 in
theorem pwithout_any14 (h : Hp) (l : List Int) (k : Nat) (A : Option Addr) (c : Nat) (S : Option Addr) (cl : Nat) (w : World) (hs : ObsR w A h.objs) (hm : mayB h = true) (hl : ∀ q ∈ l, pc14 h q = true) (hlen : l.length ≤ 256) (hk : k < l.length) (hr : IntsR w S l) (hcl : l.length ≤ cl) :
    Calls Try.prog 35 #[.agg #[.slice A h.objs.length c, .int .i64 h.cap, .int .i64 h.last], .slice S l.length cl, .int .i64 k] w fun e w' => ∃ A c ls, e = .returned (.tuple #[.agg #[.slice A h.objs.length c, .int .i64 h.cap, .int .i64 h.last], .int .i64 (wo14 h l k).2]) ∧ ls.map (·.o) = (wo14 h l k).1.objs ∧ OwnH w' w.heap.size A c ls ∧ Below w.heap.size w w' := by
  obtain ⟨w0, hw0⟩ : ∃ u, u = (w.alloc (.cells #[Value.slice A h.objs.length c, Value.int .i64 h.cap, Value.int .i64 h.last] 24)).alloc (.cells #[.slice none 0 0, .int .i64 0, .int .i64 0] 24) := ⟨_, rfl⟩
  obtain ⟨bR, hbR⟩ : ∃ x, x = w.heap.size + 1 := ⟨_, rfl⟩
  have HB0 : Hid (Below w.heap.size w w0) := by show Below _ _ _; rw [hw0]; exact below_alloc2 w _ _
  have HX0 : Hid (Lies w0 w.heap.size 24 #[Value.slice A h.objs.length c, Value.int .i64 h.cap, Value.int .i64 h.last]) := by
    show Lies _ _ _ _
    rw [hw0]; exact (Lies.new _ _ _).alloc _
  have HR0 : Hid (Lies w0 bR 24 #[.slice none 0 0, .int .i64 0, .int .i64 0]) := by
    show Lies _ _ _ _
    have := Lies.new (w.alloc (.cells #[Value.slice A h.objs.length c, Value.int .i64 h.cap, Value.int .i64 h.last] 24)) 24 #[.slice none 0 0, .int .i64 0, .int .i64 0]
    rw [hw0, hbR]; simpa using this
  have HRW : Hid (w.heap.size ≤ bR) := by show _ ≤ _; omega
  have HRL : Hid (bR < w0.heap.size) := HR0.out.lt
  obtain ⟨bs, os, rfl, hbs, hcs⟩ := hr (by omega)
  have HBS := hid hbs
  have HLK := hid (hcs k _ (List.getElem?_eq_getElem hk))
  have HCS := hid hcs
  have HRI := hid hr
  have HS := hid hs
  have HM := hid hm
  have HP := hid hl
  have HLE := hid hlen
  obtain ⟨q, hq⟩ : ∃ q, q = l[k] := ⟨_, rfl⟩
  rw [← hq] at HLK
  have HQM : Hid (q ∈ l) := by show _ ∈ _; rw [hq]; exact List.getElem_mem hk
  have HQD : Hid (l.getD k 0 = q) := by
    show _ = _
    rw [hq, List.getD_eq_getElem?_getD, List.getElem?_eq_getElem hk]; rfl
  obtain ⟨wl, hwl⟩ : ∃ m, m = wl14 l k := ⟨_, rfl⟩
  obtain ⟨H, hH⟩ : ∃ G, G = setH h q 0 0 := ⟨_, rfl⟩
  have HWO : Hid (wo14 h l k = (lk14 H wl, wl.headD 0)) := by show _ = _; unfold wo14; rw [HQD.out, ← hH, hwl]
  have HWL := hid hwl
  have HH := hid hH
  rw [HWO.out]
  have HK := hid hk
  obtain ⟨s1, s2, s3⟩ := lf_same14 h [(q, 0)]
  rw [show lf14 h [(q, 0)] = H from by rw [hH]; rfl] at s1 s2 s3
  have HS1 := hid s1
  have HS2 := hid s2
  have HS3 := hid s3
  have HPW : Hid (∀ x ∈ wl, pc14 H x = true) := fun x hx => by
    rw [hH, pc_set14 (HP.out q HQM.out) (by decide)]
    refine HP.out x ?_
    rw [hwl] at hx
    unfold wl14 at hx
    rcases List.mem_append.1 hx with g | g
    · exact List.mem_of_mem_take g
    · exact List.mem_of_mem_drop g
  clear s1 s2 s3
  have HCL := hid hcl
  clear hs hm hl hlen hr hq hbs hcs hwl hH hk hcl
  go_enter Try.func35, Try.ntmps35
  go_upto_region 1 with fail
  rw [← hw0, ← hbR]
  clear hw0 hbR
  obtain ⟨x0, x1, x2⟩ := HX0.out.c3
  go_wp2_with fail
  refine (pclone_h14 h A c w0 (HS.out.below HB0.out) HM.out).mono ?_
  rintro e w1 ⟨A2, c2, ls, rfl, hm5, ho5, hb⟩
  have HM1 := hid hm5
  have HO1 := hid ho5
  have HW01 := hid (hb.size)
  have HB1 := hid (then_w HB0.out hb)
  have HR1 := hid (HR0.out.later hb)
  clear hm5 ho5 hb x0 x1 x2
  go_upto_region 2 with fail
  obtain ⟨w2, hw2⟩ : ∃ x, x = w1.alloc (.cells #[Value.slice A2 h.objs.length c2, Value.int .i64 h.cap, Value.int .i64 h.last] 24) := ⟨_, rfl⟩
  obtain ⟨bG, hbG⟩ : ∃ x, x = w1.heap.size := ⟨_, rfl⟩
  have HG2 : Hid (Lies w2 bG 24 #[Value.slice A2 h.objs.length c2, Value.int .i64 h.cap, Value.int .i64 h.last]) := by show Lies _ _ _ _; rw [hw2, hbG]; exact Lies.new _ _ _
  have hb : Below w1.heap.size w1 w2 := by rw [hw2]; exact below_alloc _ _
  have HGE : Hid (w1.heap.size ≤ bG) := by show _ ≤ _; omega
  have HGR : Hid (bG ≠ bR) := by show _ ≠ _; have := HRL.out; have := HW01.out; omega
  have HB2 := hid (then_w HB1.out hb)
  have HR2 := hid (HR1.out.later hb)
  have HO2 := hid (HO1.out.later hb)
  have HW12 := hid hb.size
  rw [← hw2, ← hbG]
  clear hw2 hbG hb
  obtain ⟨g0, g1, g2⟩ := HG2.out.c3
  have y0 := (HB2.out.cell (p := ⟨bs, os + k, none⟩) HBS.out).trans HLK.out
  have hkI : (k : Int) < (l.length : Int) := by have := HK.out; omega
  have hk0 : (0 : Int) ≤ (k : Int) := by omega
  refine wp_region_held_drew (S := (fun w' => w'.cell? ⟨bG, 0, none⟩ = some (.slice A2 h.objs.length c2) ∧ w'.cell? ⟨bG, 1, none⟩ = some (.int .i64 h.cap) ∧ w'.cell? ⟨bG, 2, none⟩ = some (.int .i64 h.last) ∧ w'.cell? ⟨bs, os + k, none⟩ = some (.int .i64 q))) (by kernel_rfl) ?_ (fun hH0 => ?_)
  · exact ⟨cell_later (Below.refl w2.heap.size w2).drew g0, cell_later (Below.refl w2.heap.size w2).drew g1, cell_later (Below.refl w2.heap.size w2).drew g2, cell_later (Below.refl w2.heap.size w2).drew y0⟩
  refine wpAnyH_take (i := 0) (oi := { dst := some 11, op := Go.Op.load 24 (Go.Operand.tmp 8), type := 24, pos := "proc.go:100", after := #[], guard := none }) (v := ?vv1) rfl (by kernel_rfl) (by kernel_rfl) (by kernel_rfl) (fun _ _ _ h => h) (Or.inl ⟨by rfl, ?hy1⟩) (by assumption) ?rr1
  case hy1 => intro w hSw; (try dsimp only at hSw); go_simp; all_goals with_reducible rfl
  try simp only [Act.put, List.setIfInBounds_toArray, List.set_cons_zero, List.set_cons_succ]
  refine wpAnyH_take (i := 1) (oi := { dst := some 12, op := Go.Op.move (Go.Operand.tmp 1), type := 27, pos := "proc.go:100", after := #[], guard := none }) (v := ?vv2) rfl (by kernel_rfl) (by kernel_rfl) (by kernel_rfl) (fun _ _ _ h => h) (Or.inl ⟨by rfl, ?hy2⟩) (by assumption) ?rr2
  case hy2 => intro w hSw; (try dsimp only at hSw); go_simp; all_goals with_reducible rfl
  try simp only [Act.put, List.setIfInBounds_toArray, List.set_cons_zero, List.set_cons_succ]
  refine wpAnyH_take (i := 2) (oi := { dst := some 13, op := Go.Op.move (Go.Operand.tmp 2), type := 3, pos := "proc.go:100", after := #[], guard := none }) (v := ?vv3) rfl (by kernel_rfl) (by kernel_rfl) (by kernel_rfl) (fun _ _ _ h => h) (Or.inl ⟨by rfl, ?hy3⟩) (by assumption) ?rr3
  case hy3 => intro w hSw; (try dsimp only at hSw); go_simp; all_goals with_reducible rfl
  try simp only [Act.put, List.setIfInBounds_toArray, List.set_cons_zero, List.set_cons_succ]
  refine wpAnyH_take (i := 3) (oi := { dst := some 14, op := Go.Op.indexAddr 27 (Go.Operand.tmp 12) (Go.Operand.tmp 13), type := 0, pos := "proc.go:100", after := #[{ on := 1, ground := Go.Ground.data }, { on := 2, ground := Go.Ground.data }], guard := none }) (v := ?vv4) rfl (by kernel_rfl) (by kernel_rfl) (by kernel_rfl) (fun _ _ _ h => h) (Or.inl ⟨by rfl, ?hy4⟩) (by assumption) ?rr4
  case hy4 => intro w hSw; (try dsimp only at hSw); go_simp; all_goals with_reducible rfl
  try simp only [Act.put, List.setIfInBounds_toArray, List.set_cons_zero, List.set_cons_succ]
  refine wpAnyH_take (i := 4) (oi := { dst := some 15, op := Go.Op.load 3 (Go.Operand.tmp 14), type := 3, pos := "proc.go:100", after := #[{ on := 3, ground := Go.Ground.data }], guard := none }) (v := ?vv5) rfl (by kernel_rfl) (by kernel_rfl) (by kernel_rfl) (fun _ _ _ h => h) (Or.inl ⟨by rfl, ?hy5⟩) (by assumption) ?rr5
  case hy5 => intro w hSw; (try dsimp only at hSw); go_simp; all_goals with_reducible rfl
  try simp only [Act.put, List.setIfInBounds_toArray, List.set_cons_zero, List.set_cons_succ]
  refine wpAnyH_ready (rs := [5]) (by kernel_rfl) (by simp) ?_
  refine AllReadyH.cons (i := 5) (o := { dst := some 16, op := Go.Op.call { callee := Go.Callee.value (Go.Operand.func 54), args := #[Go.Operand.tmp 11, Go.Operand.tmp 15, Go.Operand.const (Go.Value.int Go.IntKind.i64 0)], argTypes := #[24, 3, 3] }, type := 0, pos := "proc.go:100", after := #[{ on := 0, ground := Go.Ground.data }, { on := 4, ground := Go.Ground.data }], guard := none }) rfl (fun K hK => ?_) AllReadyH.nil
  go_simp
  go_at_call 54
  obtain ⟨wd, hd⟩ : ∃ x, x = w2.drew := ⟨_, rfl⟩
  rw [← hd]
  have hbd : Below w2.heap.size w2 wd := by rw [hd]; exact (Below.refl _ _).drew
  have HOd := hid (HO2.out.later hbd)
  have HBd := hid (then_w HB2.out hbd)
  have HRd := hid (HR2.out.later hbd)
  have HGd := hid (HG2.out.later hbd)
  have HWd : Hid (w1.heap.size ≤ wd.heap.size) := Nat.le_trans HW12.out hbd.size
  clear hd hbd
  refine (psetnext_any14 h q 0 A2 c2 w0.heap.size ls wd HOd.out HM1.out (HP.out q HQM.out) (Nat.le_trans HW01.out HWd.out)).mono ?_
  rintro e w3 ⟨⟨v, rfl⟩, ls3, hm3, ho3, hS3, hon⟩
  have HM3 := hid hm3
  have HO3 := hid ho3
  have hwr : ∀ g, Wr14 ls g → w0.heap.size ≤ g ∧ g < w1.heap.size := fun g hg => ⟨(wr_lt14 HO1.out g hg).2, (wr_lt14 HO1.out g hg).1⟩
  have HB3 := hid (HBd.out.trans (hon.below HBd.out.size fun g hg => Nat.le_trans HB0.out.size (hwr g hg).1))
  have HR3 : Hid (Lies w3 bR 24 #[.slice none 0 0, .int .i64 0, .int .i64 0]) := (hon.block bR HRd.out.lt fun g => by have := (hwr _ g).1; have := HRL.out; omega).trans HRd.out
  have HG3 : Hid (Lies w3 bG 24 #[Value.slice A2 h.objs.length c2, Value.int .i64 h.cap, Value.int .i64 h.last]) := (hon.block bG HGd.out.lt fun g => by have := (hwr _ g).2; have := HGE.out; omega).trans HGd.out
  have HW13 : Hid (w1.heap.size ≤ w3.heap.size) := Nat.le_trans HWd.out hon.size
  have HNG : Hid (¬ Wr14 ls3 bG) := fun g => by
    have h1 := (hwr _ ((wr_same14 hS3 bG).1 g)).2
    have := HGE.out
    omega
  clear hm3 ho3 hS3 hon hwr g0 g1 g2 y0
  obtain ⟨g0, g1, g2⟩ := HG3.out.c3
  have y0 := (HB3.out.cell (p := ⟨bs, os + k, none⟩) HBS.out).trans HLK.out
  refine hK.out _ _ ?_ (fun hH1 => ?_)
  · exact ⟨g0, g1, g2, y0⟩
  clear hK K
  try simp only [Act.put, List.setIfInBounds_toArray, List.set_cons_zero, List.set_cons_succ]
  clear g0 g1 g2 y0
  refine wpAnyH_done (by kernel_rfl) ?_ _
  go_upto_region 3 with fail
  obtain ⟨g0, g1, g2⟩ := HG3.out.c3
  have hw1 : IntKind.i64.wrap ((k : Int) + 1) = (k : Int) + 1 := IntWalk.i64_in _ (by have := HLE.out; have := HK.out; omega)
  have hkc : (k : Int) ≤ (cl : Int) := by have := HCL.out; omega
  have hkl2 : (k : Int) + 1 ≤ (l.length : Int) := by omega
  have hlc2 : (l.length : Int) ≤ (cl : Int) := by have := HCL.out; omega
  have hk1 : (0 : Int) ≤ (k : Int) + 1 := by omega
  obtain ⟨xs, hxs⟩ : ∃ m, m = l.take k := ⟨_, rfl⟩
  obtain ⟨ys, hys⟩ : ∃ m, m = l.drop (k + 1) := ⟨_, rfl⟩
  have HXS : Hid (xs.length = k) := by show _ = _; rw [hxs, List.length_take]; have := HK.out; omega
  have HYS : Hid (ys.length = l.length - (k + 1)) := by show _ = _; rw [hys, List.length_drop]
  have HXY : Hid (xs ++ ys = wl) := by show _ = _; rw [HWL.out, hxs, hys]; rfl
  refine wp_region_held_drew (S := (fun w' => w'.cell? ⟨bG, 0, none⟩ = some (.slice A2 h.objs.length c2) ∧ w'.cell? ⟨bG, 1, none⟩ = some (.int .i64 h.cap) ∧ w'.cell? ⟨bG, 2, none⟩ = some (.int .i64 h.last))) (by kernel_rfl) ?_ (fun hH0 => ?_)
  · exact ⟨cell_later (Below.refl w3.heap.size w3).drew g0, cell_later (Below.refl w3.heap.size w3).drew g1, cell_later (Below.refl w3.heap.size w3).drew g2⟩
  refine wpAnyH_take (i := 0) (oi := { dst := some 17, op := Go.Op.load 24 (Go.Operand.tmp 8), type := 24, pos := "proc.go:101", after := #[], guard := none }) (v := ?vv6) rfl (by kernel_rfl) (by kernel_rfl) (by kernel_rfl) (fun _ _ _ h => h) (Or.inl ⟨by rfl, ?hy6⟩) (by assumption) ?rr6
  case hy6 => intro w hSw; (try dsimp only at hSw); go_simp; all_goals with_reducible rfl
  try simp only [Act.put, List.setIfInBounds_toArray, List.set_cons_zero, List.set_cons_succ]
  refine wpAnyH_take (i := 1) (oi := { dst := some 18, op := Go.Op.load 24 (Go.Operand.tmp 8), type := 24, pos := "proc.go:101", after := #[], guard := none }) (v := ?vv7) rfl (by kernel_rfl) (by kernel_rfl) (by kernel_rfl) (fun _ _ _ h => h) (Or.inl ⟨by rfl, ?hy7⟩) (by assumption) ?rr7
  case hy7 => intro w hSw; (try dsimp only at hSw); go_simp; all_goals with_reducible rfl
  try simp only [Act.put, List.setIfInBounds_toArray, List.set_cons_zero, List.set_cons_succ]
  refine wpAnyH_take (i := 2) (oi := { dst := some 19, op := Go.Op.move (Go.Operand.tmp 1), type := 27, pos := "proc.go:101", after := #[], guard := none }) (v := ?vv8) rfl (by kernel_rfl) (by kernel_rfl) (by kernel_rfl) (fun _ _ _ h => h) (Or.inl ⟨by rfl, ?hy8⟩) (by assumption) ?rr8
  case hy8 => intro w hSw; (try dsimp only at hSw); go_simp; all_goals with_reducible rfl
  try simp only [Act.put, List.setIfInBounds_toArray, List.set_cons_zero, List.set_cons_succ]
  refine wpAnyH_take (i := 3) (oi := { dst := some 20, op := Go.Op.move (Go.Operand.tmp 2), type := 3, pos := "proc.go:101", after := #[], guard := none }) (v := ?vv9) rfl (by kernel_rfl) (by kernel_rfl) (by kernel_rfl) (fun _ _ _ h => h) (Or.inl ⟨by rfl, ?hy9⟩) (by assumption) ?rr9
  case hy9 => intro w hSw; (try dsimp only at hSw); go_simp; all_goals with_reducible rfl
  try simp only [Act.put, List.setIfInBounds_toArray, List.set_cons_zero, List.set_cons_succ]
  refine wpAnyH_take (i := 4) (oi := { dst := some 21, op := Go.Op.slice 27 (Go.Operand.tmp 19) none (some (Go.Operand.tmp 20)) none, type := 27, pos := "proc.go:101", after := #[{ on := 2, ground := Go.Ground.data }, { on := 3, ground := Go.Ground.data }], guard := none }) (v := ?vv10) rfl (by kernel_rfl) (by kernel_rfl) (by kernel_rfl) (fun _ _ _ h => h) (Or.inl ⟨by rfl, ?hy10⟩) (by assumption) ?rr10
  case hy10 => intro w hSw; (try dsimp only at hSw); go_simp; all_goals with_reducible rfl
  try simp only [Act.put, List.setIfInBounds_toArray, List.set_cons_zero, List.set_cons_succ]
  refine wpAnyH_take (i := 5) (oi := { dst := some 22, op := Go.Op.move (Go.Operand.tmp 1), type := 27, pos := "proc.go:101", after := #[], guard := none }) (v := ?vv11) rfl (by kernel_rfl) (by kernel_rfl) (by kernel_rfl) (fun _ _ _ h => h) (Or.inl ⟨by rfl, ?hy11⟩) (by assumption) ?rr11
  case hy11 => intro w hSw; (try dsimp only at hSw); go_simp; all_goals with_reducible rfl
  try simp only [Act.put, List.setIfInBounds_toArray, List.set_cons_zero, List.set_cons_succ]
  refine wpAnyH_take (i := 6) (oi := { dst := some 23, op := Go.Op.move (Go.Operand.tmp 2), type := 3, pos := "proc.go:101", after := #[], guard := none }) (v := ?vv12) rfl (by kernel_rfl) (by kernel_rfl) (by kernel_rfl) (fun _ _ _ h => h) (Or.inl ⟨by rfl, ?hy12⟩) (by assumption) ?rr12
  case hy12 => intro w hSw; (try dsimp only at hSw); go_simp; all_goals with_reducible rfl
  try simp only [Act.put, List.setIfInBounds_toArray, List.set_cons_zero, List.set_cons_succ]
  refine wpAnyH_take (i := 7) (oi := { dst := some 24, op := Go.Op.binOp Go.BinOp.add 3 (Go.Operand.tmp 23) (Go.Operand.const (Go.Value.int Go.IntKind.i64 1)) 3, type := 3, pos := "proc.go:101", after := #[{ on := 6, ground := Go.Ground.data }], guard := none }) (v := ?vv13) rfl (by kernel_rfl) (by kernel_rfl) (by kernel_rfl) (fun _ _ _ h => h) (Or.inl ⟨by rfl, ?hy13⟩) (by assumption) ?rr13
  case hy13 => intro w hSw; (try dsimp only at hSw); go_simp; all_goals with_reducible rfl
  try simp only [Act.put, List.setIfInBounds_toArray, List.set_cons_zero, List.set_cons_succ]
  refine wpAnyH_take (i := 8) (oi := { dst := some 25, op := Go.Op.slice 27 (Go.Operand.tmp 22) (some (Go.Operand.tmp 24)) none none, type := 27, pos := "proc.go:101", after := #[{ on := 5, ground := Go.Ground.data }, { on := 7, ground := Go.Ground.data }], guard := none }) (v := ?vv14) rfl (by kernel_rfl) (by kernel_rfl) (by kernel_rfl) (fun _ _ _ h => h) (Or.inl ⟨by rfl, ?hy14⟩) (by assumption) ?rr14
  case hy14 => intro w hSw; (try dsimp only at hSw); go_simp; all_goals with_reducible rfl
  try simp only [Act.put, List.setIfInBounds_toArray, List.set_cons_zero, List.set_cons_succ]
  refine wpAnyH_ready (rs := [9]) (by kernel_rfl) (by simp) ?_
  refine AllReadyH.cons (i := 9) (o := { dst := some 26, op := Go.Op.buildSlice 79 2 #[(0, Go.Operand.tmp 21), (1, Go.Operand.tmp 25)], type := 79, pos := "proc.go:101", after := #[{ on := 4, ground := Go.Ground.data }, { on := 8, ground := Go.Ground.data }], guard := none }) rfl (fun K hK => ?_) AllReadyH.nil
  go_simp
  obtain ⟨T2, hT2⟩ : ∃ T2, T2 = (if cl = k + 1 then some (⟨bs, os, none⟩ : Addr) else some ⟨bs, os + (k + 1), none⟩) := ⟨_, rfl⟩
  rw [← hT2]
  have HT0 : Hid (T2 = none → cl - (k + 1) = 0) := fun e => by
    rw [hT2] at e
    split at e <;> cases e
  have HY : Hid (IntsR w T2 ys) := fun h0 => by
    rw [hys] at h0
    rw [List.length_drop] at h0
    have := HCL.out
    rw [if_neg (by omega)] at hT2
    refine ⟨bs, os + (k + 1), hT2, HBS.out, fun j x hj => ?_⟩
    rw [hys, List.getElem?_drop] at hj
    rw [Nat.add_assoc]
    exact HCS.out _ x hj
  have HX : Hid (IntsR w (some ⟨bs, os, none⟩) xs) := fun h0 => by
    refine ⟨bs, os, rfl, HBS.out, fun j x hj => ?_⟩
    rw [hxs, List.getElem?_take] at hj
    split at hj
    · exact HCS.out _ x hj
    · cases hj
  clear hT2 hxs hys
  obtain ⟨w4, hw4⟩ : ∃ x, x = (w3.alloc (.cells #[.slice (some ⟨bs, os, none⟩) k cl, .slice T2 (l.length - (k + 1)) (cl - (k + 1))] 27)).drew := ⟨_, rfl⟩
  obtain ⟨gb, hgb⟩ : ∃ x, x = w3.heap.size := ⟨_, rfl⟩
  rw [← hw4, ← hgb]
  have hb : Below w3.heap.size w3 w4 := by rw [hw4]; exact (below_alloc _ _).drew
  have HL4 : Hid (Lies w4 gb 27 #[.slice (some ⟨bs, os, none⟩) xs.length cl, .slice T2 ys.length (cl - (k + 1))]) := by
    show Lies _ _ _ _
    rw [HXS.out, HYS.out, hw4, hgb]; exact (Lies.new _ _ _).later (Below.refl _ _).drew
  have HB4 := hid (then_w HB3.out hb)
  have HR4 := hid (HR3.out.later hb)
  have HG4 := hid (HG3.out.later hb)
  have HO4 := hid (HO3.out.later hb)
  have HX4 := hid (HX.out.below HB4.out)
  have HY4 := hid (HY.out.below HB4.out)
  have HW34 := hid hb.size
  clear hw4 hgb hb g0 g1 g2 HX HY
  obtain ⟨g0, g1, g2⟩ := HG4.out.c3
  refine hK.out _ _ ?_ (fun hH1 => ?_)
  · exact ⟨g0, g1, g2⟩
  clear hK K
  try simp only [Act.put, List.setIfInBounds_toArray, List.set_cons_zero, List.set_cons_succ]
  clear g0 g1 g2
  refine wpAnyH_ready (rs := [10]) (by kernel_rfl) (by simp) ?_
  refine AllReadyH.cons (i := 10) (o := { dst := some 27, op := Go.Op.call { callee := Go.Callee.value (Go.Operand.func 55), args := #[Go.Operand.tmp 26], argTypes := #[79] }, type := 27, pos := "proc.go:101", after := #[{ on := 9, ground := Go.Ground.data }], guard := none }) rfl (fun K hK => ?_) AllReadyH.nil
  go_simp
  refine (concat_any14 xs ys (some ⟨bs, os, none⟩) T2 cl (cl - (k + 1)) gb w4 HL4.out HX4.out HY4.out (fun e => by cases e) HT0.out (by rw [HXS.out, HYS.out]; have := HK.out; have := HLE.out; omega)).mono ?_
  rintro e w5 ⟨S2, cJ, rfl, hown, hb⟩
  rw [HXY.out] at hown ⊢
  have HV5 := hid (own_ints hown)
  have HNS : Hid (∀ a, S2 = some a → ¬ Wr14 ls3 a.block ∧ a.block < w5.heap.size) := fun a e => by
    have h1 := hown.lt a.block (by rw [e]; rfl)
    exact ⟨fun g => by have := (wr_lt14 HO3.out _ g).1; have := HW34.out; omega, h1.2⟩
  have HB5 := hid (then_w HB4.out hb)
  have HR5 := hid (HR4.out.later hb)
  have HG5 := hid (HG4.out.later hb)
  have HO5 := hid (HO4.out.later hb)
  have HW5 : Hid (w0.heap.size ≤ w5.heap.size) := Nat.le_trans HW01.out (Nat.le_trans HW13.out (Nat.le_trans HW34.out hb.size))
  clear hown hb
  obtain ⟨g0, g1, g2⟩ := HG5.out.c3
  refine hK.out _ _ ?_ (fun hH2 => ?_)
  · exact ⟨g0, g1, g2⟩
  clear hK K
  try simp only [Act.put, List.setIfInBounds_toArray, List.set_cons_zero, List.set_cons_succ]
  clear g0 g1 g2
  refine wpAnyH_ready (rs := [11]) (by kernel_rfl) (by simp) ?_
  refine AllReadyH.cons (i := 11) (o := { dst := some 28, op := Go.Op.call { callee := Go.Callee.value (Go.Operand.func 51), args := #[Go.Operand.tmp 18, Go.Operand.tmp 27], argTypes := #[24, 27] }, type := 3, pos := "proc.go:101", after := #[{ on := 1, ground := Go.Ground.data }, { on := 10, ground := Go.Ground.data }, { on := 10, ground := Go.Ground.chain }], guard := none }) rfl (fun K hK => ?_) AllReadyH.nil
  go_simp
  have HLK2 : Hid (Calls Try.prog 51 #[.agg #[.slice A2 h.objs.length c2, .int .i64 h.cap, .int .i64 h.last], .slice S2 wl.length cJ] w5 fun e w' => e = .returned (.int .i64 (wl.headD 0)) ∧ ∃ ls', ls'.map (·.o) = (lk14 H wl).objs ∧ OwnH w' w0.heap.size A2 c2 ls' ∧ ls'.map (·.S) = ls3.map (·.S) ∧ On14 (Wr14 ls3) w5 w') := by
    show Calls _ _ _ _ _
    have := plink_any14 H wl A2 c2 S2 cJ w0.heap.size ls3 w5 HO5.out (HM3.out.trans (by rw [HH.out])) HPW.out (by rw [← HXY.out, List.length_append, HXS.out, HYS.out]; have := HK.out; have := HLE.out; omega) HV5.out HNS.out HW5.out
    rw [HS1.out, HS2.out, HS3.out] at this
    exact this
  refine HLK2.out.mono ?_
  clear HLK2
  rintro e w9 ⟨rfl, ls9, hm9, ho9, -, hon⟩
  have HM9 := hid hm9
  have HO9 := hid ho9
  have HB9 := hid (HB5.out.trans (hon.below HB5.out.size fun g hg => Nat.le_trans HB0.out.size (wr_lt14 HO3.out g hg).2))
  have HR9 : Hid (Lies w9 bR 24 #[.slice none 0 0, .int .i64 0, .int .i64 0]) := (hon.block bR HR5.out.lt fun g => by have := (wr_lt14 HO3.out _ g).2; have := HRL.out; omega).trans HR5.out
  have HG9 : Hid (Lies w9 bG 24 #[Value.slice A2 h.objs.length c2, Value.int .i64 h.cap, Value.int .i64 h.last]) := (hon.block bG HG5.out.lt fun g => HNG.out g).trans HG5.out
  clear hm9 ho9 hon
  obtain ⟨g0, g1, g2⟩ := HG9.out.c3
  refine hK.out _ _ ?_ (fun hH3 => ?_)
  · exact ⟨g0, g1, g2⟩
  clear hK K
  try simp only [Act.put, List.setIfInBounds_toArray, List.set_cons_zero, List.set_cons_succ]
  clear g0 g1 g2
  refine wpAnyH_ready (rs := [12]) (by kernel_rfl) (by simp) ?_
  refine AllReadyH.cons (i := 12) (o := { dst := none, op := Go.Op.store 24 (Go.Operand.tmp 6) (Go.Operand.tmp 17), type := 0, pos := "proc.go:101", after := #[{ on := 0, ground := Go.Ground.data }, { on := 11, ground := Go.Ground.chain }, { on := 0, ground := Go.Ground.phase }, { on := 1, ground := Go.Ground.textOnly Go.Departure.lateStores }, { on := 2, ground := Go.Ground.textOnly Go.Departure.lateStores }, { on := 3, ground := Go.Ground.textOnly Go.Departure.lateStores }, { on := 4, ground := Go.Ground.textOnly Go.Departure.lateStoresUnsure }, { on := 5, ground := Go.Ground.textOnly Go.Departure.lateStores }, { on := 6, ground := Go.Ground.textOnly Go.Departure.lateStores }, { on := 7, ground := Go.Ground.textOnly Go.Departure.lateStores }, { on := 8, ground := Go.Ground.textOnly Go.Departure.lateStoresUnsure }, { on := 9, ground := Go.Ground.textOnly Go.Departure.lateStores }, { on := 10, ground := Go.Ground.textOnly Go.Departure.lateStoresUnsure }, { on := 11, ground := Go.Ground.textOnly Go.Departure.lateStoresUnsure }], guard := none }) rfl (fun K hK => ?_) AllReadyH.nil
  obtain ⟨k0, k1, k2⟩ := HR9.out.c3
  obtain ⟨f0, f1, f2⟩ := HR9.out.f3
  go_simp
  clear k0 k1 k2 f0 f1 f2
  obtain ⟨s1, s2, s3⟩ := set3_14 HR9.out HO9.out HB9.out HRW.out (.slice A2 h.objs.length c2) (.int .i64 h.cap) (.int .i64 h.last)
  have s4 := ((HG9.out.far (p := ⟨bR, 0, none⟩) HGR.out (.slice A2 h.objs.length c2)).far (p := ⟨bR, 1, none⟩) HGR.out (.int .i64 h.cap)).far (p := ⟨bR, 2, none⟩) HGR.out (.int .i64 h.last)
  obtain ⟨V, hV⟩ : ∃ V, V = ((w9.setCell ⟨bR, 0, none⟩ (.slice A2 h.objs.length c2)).setCell ⟨bR, 1, none⟩ (.int .i64 h.cap)).setCell ⟨bR, 2, none⟩ (.int .i64 h.last) := ⟨_, rfl⟩
  rw [← hV] at s1 s2 s3 s4
  rw [← hV]
  have HRV := hid s1
  have HOV := hid s2
  have HBV := hid s3
  have HGV := hid s4
  clear hV s1 s2 s3 s4
  obtain ⟨g0, g1, g2⟩ := HGV.out.c3
  refine hK.out _ _ ?_ (fun hH4 => ?_)
  · exact ⟨g0, g1, g2⟩
  clear hK K
  try simp only [Act.put, List.setIfInBounds_toArray, List.set_cons_zero, List.set_cons_succ]
  clear g0 g1 g2
  refine wpAnyH_take (i := 13) (oi := { dst := some 7, op := Go.Op.assign (Go.Operand.tmp 28), type := 3, pos := "proc.go:101", after := #[{ on := 11, ground := Go.Ground.data }, { on := 12, ground := Go.Ground.chain }, { on := 0, ground := Go.Ground.phase }, { on := 1, ground := Go.Ground.phase }, { on := 2, ground := Go.Ground.phase }, { on := 3, ground := Go.Ground.phase }, { on := 4, ground := Go.Ground.phase }, { on := 5, ground := Go.Ground.phase }, { on := 6, ground := Go.Ground.phase }, { on := 7, ground := Go.Ground.phase }, { on := 8, ground := Go.Ground.phase }, { on := 9, ground := Go.Ground.phase }, { on := 10, ground := Go.Ground.phase }, { on := 11, ground := Go.Ground.phase }, { on := 12, ground := Go.Ground.phase }], guard := none }) (v := ?vv15) rfl (by kernel_rfl) (by kernel_rfl) (by kernel_rfl) (fun _ _ _ h => h) (Or.inl ⟨by rfl, ?hy15⟩) (by assumption) ?rr15
  case hy15 => intro w hSw; (try dsimp only at hSw); go_simp; all_goals with_reducible rfl
  try simp only [Act.put, List.setIfInBounds_toArray, List.set_cons_zero, List.set_cons_succ]
  refine wpAnyH_done (by kernel_rfl) ?_ _
  obtain ⟨r0, r1, r2⟩ := HRV.out.c3
  obtain ⟨q1, q2, q3⟩ := lk_same14 H wl
  go_wp2_with fail
  refine bodyPost_ret (v := .tuple #[.agg #[.slice A2 h.objs.length c2, .int .i64 h.cap, .int .i64 h.last], .int .i64 (wl.headD 0)]) (by simp [results, Try.results35, go_sem, r0, r1, r2]) rfl ?_
  exact ⟨A2, c2, ls9, rfl, HM9.out, HOV.out.lower HB0.out.size, HBV.out⟩
end Go.Proofs.Ytkpfmbdkfgeboaa
