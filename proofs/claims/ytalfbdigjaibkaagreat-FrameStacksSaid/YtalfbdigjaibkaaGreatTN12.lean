/- A context, read: the program's word. -/
import Derived.Test.YtalfbdigjaibkaaGreatTM12
import Derived.Test.YtalfbdigjaibkaaGreatSLM12
namespace Go.Proofs.YtalfbdigjaibkaaGreat
open Go.RowKit
set_option maxRecDepth 100000
/-- what a context has, as it is handed on: its method, its number, where it is, how many count, its area -/
def RdP12 (w : World) (h : Hp) (cx : Int) (e : Ending) (w' : World) : Prop := Below w.heap.size w w' ∧
  ((may12 h cx = false ∧ e = .returned (.tuple #[.agg #[.int .i64 0, .int .i64 0, .int .i64 0, .slice none 0 0, .slice none 0 0, .int .i64 0, .int .i64 0, .int .i64 0, .slice none 0 0], .int .i64 120])) ∨
   (may12 h cx = true ∧ ∃ CA cc LA lc bl ol ac, e = .returned (.tuple #[.agg #[.int .i64 (cm12 h cx).prim, .int .i64 (cm12 h cx).args, .int .i64 (cm12 h cx).temps, .slice CA (cm12 h cx).code.length cc, .slice LA (cm12 h cx).lits.length lc, .int .i64 (atV cx), .int .i64 (at12 h cx).1, .int .i64 (sp12 h cx), .slice (some ⟨bl, ol + 6, none⟩) 16 ac], .int .i64 0]) ∧
     InsR w' CA (cm12 h cx).code ∧ IntsR w (some ⟨bl, ol, none⟩) (sls12 h cx) ∧ ∀ k o s, CA = some ⟨k, o, s⟩ → w.heap.size ≤ k))
theorem rd_ref12 {h : Hp} {c : Int} (e : refB h.objs.length c = false) : may12 h c = false := may_len12 (by rw [sls_noref12 e]; decide)
theorem rd_cls12 {h : Hp} {c : Int} (e : (obAt h c).cls ≠ 12) : may12 h c = false := by unfold may12; simp [e]
theorem rd_meth12 {h : Hp} {c : Int} (e : (mt12 h (sl12 h c 3)).2 ≠ 0) : may12 h c = false := by unfold may12; simp [e]
theorem refI_neg12 {n : Nat} {v : Int} (e : refB n v = false) : ¬ 0 ≤ refI n v := by rw [refI_no12 e]; decide
theorem refI_pos12 {n : Nat} {v : Int} (e : refB n v = true) : 0 ≤ refI n v := by rw [refI_nonneg e]; exact (refB_no e).2.1
theorem rd_send12 {h : Hp} {c : Int} (e : refB h.objs.length (sl12 h c 0) = false) : may12 h c = false := by unfold may12; simp [refI_neg12 e]
theorem rd_home12 {h : Hp} {c : Int} (e : refB h.objs.length (sl12 h c 5) = false) : may12 h c = false := by unfold may12; simp [refI_neg12 e]
theorem rd_ip12 {h : Hp} {c : Int} (e : wi12 (sl12 h c 1) 0 ((cm12 h c).code.length - 1) = false) : may12 h c = false := by
  have : ¬ 0 ≤ sm12 (sl12 h c 1) ((cm12 h c).code.length - 1) := fun g => by rw [(wi_at12 (Int.le_refl 0)).2 g] at e; cases e
  unfold may12; simp [this]
theorem mt_temps12 {h : Hp} {m : Int} : 0 ≤ (mt12 h m).1.temps := by
  by_cases z : (mt12 h m).2 = 0
  next =>
   obtain ⟨z1, z2⟩ := mt_ok12 z
   obtain ⟨-, -, -, -, -, -, a1, a2, -⟩ := mb_parts12 z1
   rw [z2]; omega
  next =>
   rw [mt_no12 z]; decide
theorem cm_temps12 {h : Hp} {c : Int} : 0 ≤ (cm12 h c).temps := mt_temps12
theorem rd_sp12 {h : Hp} {c : Int} (e : wi12 (sl12 h c 2) (cm12 h c).temps 16 = false) : may12 h c = false := by
  have : ¬ (cm12 h c).temps ≤ sm12 (sl12 h c 2) 16 := fun g => by rw [(wi_at12 cm_temps12).2 g] at e; cases e
  unfold may12; simp [this]
theorem rd_all12 {h : Hp} {c : Int} (hm : mayB h = true) (h22 : (sls12 h c).length = 22) (hc : (obAt h c).cls = 12) (e3 : (mt12 h (sl12 h c 3)).2 = 0) (r0 : refB h.objs.length (sl12 h c 0) = true) (r5 : refB h.objs.length (sl12 h c 5) = true)
    (b1 : wi12 (sl12 h c 1) 0 ((cm12 h c).code.length - 1) = true) (b2 : wi12 (sl12 h c 2) (cm12 h c).temps 16 = true) : may12 h c = true ∧ (at12 h c).1 = nV (sl12 h c 1) ∧ sp12 h c = nV (sl12 h c 2) := by
  have a1 := (wi_at12 (Int.le_refl 0)).1 b1
  have a2 := (wi_at12 cm_temps12).1 b2
  have hy : may12 h c = true := by
    unfold may12
    simp [hm, h22, hc, e3, refI_pos12 r0, refI_pos12 r5, a1, a2]
  have hl : ((cm12 h c).code.length : Int) ≤ 32 := code_le12
  obtain ⟨s1, -⟩ := sm_same12 a1 (b := 64) (by omega)
  refine ⟨hy, ?_, ?_⟩
  next =>
   unfold at12
   rw [if_neg (by rw [hy]; decide), s1]
   exact sm_wi12 b1
  next =>
   unfold sp12
   exact sm_wi12 ((wi_at12 (Int.le_refl 0)).2 (Int.le_trans cm_temps12 a2))
theorem ins_far12 {w : World} {A : Option Addr} {l : List In} (h : InsR w A l) {g : Nat} (hne : ∀ k o s, A = some ⟨k, o, s⟩ → k ≠ g) (j : Nat) (u : Value) : InsR (w.setCell ⟨g, j, none⟩ u) A l := fun hn => by
  obtain ⟨b, off, rfl, hlt, hc⟩ := h hn
  refine ⟨b, off, rfl, by simpa using hlt, fun i x hx => ?_⟩
  obtain ⟨h0, h1⟩ := hc i x hx
  exact ⟨cell_far (hne b off none rfl) h0, cell_far (hne b off none rfl) h1⟩
/-- a heap's object, read, and how long its row may grow -/
theorem ob_cap12 {h : Hp} {v : Int} {A : Option Addr} {w : World} (hs : ObsR w A h.objs) (hr : refB h.objs.length v = true) :
    ∃ (i : Nat) (b off : Nat) (S : Option Addr) (d : Nat), refI h.objs.length v = i ∧ i < h.objs.length ∧ A = some ⟨b, off, none⟩ ∧ ObC w b (off + i * 6) S d (obAt h v) ∧ IntsR w S (obAt h v).slots ∧ (obAt h v).slots.length ≤ d ∧ b < w.heap.size := by
  obtain ⟨i, hi, hv, ho⟩ := obAt_get hr
  obtain ⟨b, off, rfl, hlt, hc⟩ := hs (by omega)
  obtain ⟨S, d, h1, h2, h3, h4⟩ := hc i _ ho
  exact ⟨i, b, off, S, d, by rw [refI_nonneg hr, hv], hi, rfl, h1, h2, h3, hlt⟩
set_option maxHeartbeats 4000000 in
theorem pread_any12 (h : Hp) (cx : Int) (A : Option Addr) (c : Nat) (w : World) (hs : ObsR w A h.objs) (fit : h.Fit) :
    Calls Tryz.prog 43 #[.agg #[.slice A h.objs.length c, .int .i64 h.cap, .int .i64 h.last], .int .i64 cx] w (RdP12 w h cx) := by
  obtain ⟨w0, hw0⟩ : ∃ w0, w0 = (w.alloc (.cells #[Value.slice A h.objs.length c, Value.int .i64 h.cap, Value.int .i64 h.last] 24)).alloc (.cells #[.int .i64 0, .int .i64 0, .int .i64 0, .slice none 0 0, .slice none 0 0, .int .i64 0, .int .i64 0, .int .i64 0, .slice none 0 0] 69) := ⟨_, rfl⟩
  have HB0 : Hid (Below w.heap.size w w0) := by show Below _ _ _; rw [hw0]; exact below_alloc2 w _ _
  have HX0 : Hid (Lies w0 w.heap.size 24 #[Value.slice A h.objs.length c, Value.int .i64 h.cap, Value.int .i64 h.last]) := by show Lies _ _ _ _; rw [hw0]; exact ((Lies.new w _ _).alloc _)
  have HK0 : Hid (Lies w0 (w.heap.size + 1) 69 #[.int .i64 0, .int .i64 0, .int .i64 0, .slice none 0 0, .slice none 0 0, .int .i64 0, .int .i64 0, .int .i64 0, .slice none 0 0]) := by
    show Lies _ _ _ _
    have := (Lies.new (w.alloc (.cells #[Value.slice A h.objs.length c, Value.int .i64 h.cap, Value.int .i64 h.last] 24)) 69 #[.int .i64 0, .int .i64 0, .int .i64 0, .slice none 0 0, .slice none 0 0, .int .i64 0, .int .i64 0, .int .i64 0, .slice none 0 0])
    rw [hw0]
    simpa [Hid] using this
  have HS := hid hs
  have HF := hid fit
  clear hs fit
  go_enter Tryz.func43, Tryz.ntmps43
  go_upto_region 1 with fail
  rw [← hw0]
  clear hw0
  obtain ⟨x0, x1, x2⟩ := HX0.out.c3
  go_wp2_with fail
  refine (may_any h A c _ (HS.out.below HB0.out) HF.out).mono ?_
  rintro e w1 ⟨rfl, hb⟩
  have HB1 := hid (then_w HB0.out hb)
  have HX1 := hid (HX0.out.later hb)
  have HK1 := hid (HK0.out.later hb)
  clear hb x0 x1 x2 HX0 HK0 HB0
  cases hm : mayB h
  next =>
   have HM := hid hm
   clear hm
   have HRR : Hid (may12 h cx = false) := may_no12 HM.out
   obtain ⟨u0, u1, u2, u3, u4, u5, u6, u7, u8⟩ := HK1.out.c9
   obtain ⟨uf0, uf1, uf2, uf3, uf4, uf5, uf6, uf7, uf8⟩ := HK1.out.f9
   go_wp2_with fail
   have K0 := (((((((((HK1.out.set_ 0 (.int .i64 0)).set_ 1 (.int .i64 0)).set_ 2 (.int .i64 0)).set_ 3 (.slice none 0 0)).set_ 4 (.slice none 0 0)).set_ 5 (.int .i64 0)).set_ 6 (.int .i64 0)).set_ 7 (.int .i64 0)).set_ 8 (.slice none 0 0))
   have r0 := K0.cell 0
   have r1 := K0.cell 1
   have r2 := K0.cell 2
   have r3 := K0.cell 3
   have r4 := K0.cell 4
   have r5 := K0.cell 5
   have r6 := K0.cell 6
   have r7 := K0.cell 7
   have r8 := K0.cell 8
   simp only [List.setIfInBounds_toArray, List.set_cons_zero, List.set_cons_succ, List.getElem?_toArray, List.getElem?_cons_zero, List.getElem?_cons_succ] at r0 r1 r2 r3 r4 r5 r6 r7 r8
   refine bodyPost_ret (v := .tuple #[.agg #[.int .i64 0, .int .i64 0, .int .i64 0, .slice none 0 0, .slice none 0 0, .int .i64 0, .int .i64 0, .int .i64 0, .slice none 0 0], .int .i64 120]) (by simp [results, Tryz.results43, go_sem, r0, r1, r2, r3, r4, r5, r6, r7, r8]) rfl ?_
   have HBE := (((((((((HB1.out).setCell (p := ⟨w.heap.size + 1, 0, none⟩) (by simp) (.int .i64 0)).setCell (p := ⟨w.heap.size + 1, 1, none⟩) (by simp) (.int .i64 0)).setCell (p := ⟨w.heap.size + 1, 2, none⟩) (by simp) (.int .i64 0)).setCell (p := ⟨w.heap.size + 1, 3, none⟩) (by simp) (.slice none 0 0)).setCell (p := ⟨w.heap.size + 1, 4, none⟩) (by simp) (.slice none 0 0)).setCell (p := ⟨w.heap.size + 1, 5, none⟩) (by simp) (.int .i64 0)).setCell (p := ⟨w.heap.size + 1, 6, none⟩) (by simp) (.int .i64 0)).setCell (p := ⟨w.heap.size + 1, 7, none⟩) (by simp) (.int .i64 0)).setCell (p := ⟨w.heap.size + 1, 8, none⟩) (by simp) (.slice none 0 0)
   exact ⟨HBE, .inl ⟨HRR.out, rfl⟩⟩
  have HM := hid hm
  clear hm
  obtain ⟨x0, x1, x2⟩ := HX1.out.c3
  go_wp2_with fail
  refine (pfind_any12 h cx A c _).mono ?_
  rintro e w2 ⟨rfl, hb⟩
  have HB2 := hid (then_w HB1.out hb)
  have HX2 := hid (HX1.out.later hb)
  have HK2 := hid (HK1.out.later hb)
  clear hb x0 x1 x2 HX1 HK1 HB1
  cases hr : refB h.objs.length cx
  next =>
   have HNR := hid hr
   clear hr
   obtain ⟨x0, x1, x2⟩ := HX2.out.c3
   go_upto_region 4 with fail
   refine wp_region_held_drew (S := (fun w' => w'.cell? ⟨w.heap.size, 0, none⟩ = some (.slice A h.objs.length c))) (by kernel_rfl) ?_ (fun hH0 => ?_)
   next =>
    exact cell_later (Below.refl w2.heap.size w2).drew x0
   refine tkI 0 ⟨some 25, .move (.tmp 7), 4, "frame.go:189", #[], none⟩ ?v1 rfl (by kernel_rfl) (by rfl) ?y1 ?_
   case y1 => intro w hSw; (try dsimp only at hSw); go_simp; all_goals with_reducible rfl
   try simp only [apt12]
   refine tkI 1 ⟨some 26, .unOp .not 4 (.tmp 25), 4, "frame.go:189", #[⟨0, .data⟩], none⟩ ?v2 rfl (by kernel_rfl) (by rfl) ?y2 ?_
   case y2 => intro w hSw; (try dsimp only at hSw); go_simp; all_goals with_reducible rfl
   try simp only [apt12]
   refine tkI 2 ⟨some 27, .move (.tmp 26), 4, "frame.go:189", #[⟨1, .data⟩], none⟩ ?v3 rfl (by kernel_rfl) (by rfl) ?y3 ?_
   case y3 => intro w hSw; (try dsimp only at hSw); go_simp; all_goals with_reducible rfl
   try simp only [apt12]
   refine tkO 3 ⟨some 28, .fieldAddr 24 (.tmp 2) 0, 0, "frame.go:189", #[⟨2, .guard⟩], some (2, false)⟩ rfl (by kernel_rfl) (by rfl) ?_
   try simp only [apt12]
   refine tkO 4 ⟨some 29, .load 22 (.tmp 28), 22, "frame.go:189", #[⟨3, .data⟩, ⟨2, .guard⟩], some (2, false)⟩ rfl (by kernel_rfl) (by rfl) ?_
   try simp only [apt12]
   refine tkO 5 ⟨some 30, .move (.tmp 6), 3, "frame.go:189", #[⟨2, .guard⟩], some (2, false)⟩ rfl (by kernel_rfl) (by rfl) ?_
   try simp only [apt12]
   refine tkO 6 ⟨some 31, .indexAddr 22 (.tmp 29) (.tmp 30), 0, "frame.go:189", #[⟨4, .data⟩, ⟨5, .data⟩, ⟨2, .guard⟩], some (2, false)⟩ rfl (by kernel_rfl) (by rfl) ?_
   try simp only [apt12]
   refine tkO 7 ⟨some 32, .fieldAddr 60 (.tmp 31) 0, 0, "frame.go:189", #[⟨6, .data⟩, ⟨2, .guard⟩], some (2, false)⟩ rfl (by kernel_rfl) (by rfl) ?_
   try simp only [apt12]
   refine tkO 8 ⟨some 33, .load 3 (.tmp 32), 3, "frame.go:189", #[⟨7, .data⟩, ⟨2, .guard⟩], some (2, false)⟩ rfl (by kernel_rfl) (by rfl) ?_
   try simp only [apt12]
   refine tkO 9 ⟨some 34, .call { callee := .value (.func 54), args := #[.const (Go.Value.int .i64 6)], argTypes := #[3] }, 3, "frame.go:189", #[⟨2, .chain⟩, ⟨2, .guard⟩], some (2, false)⟩ rfl (by kernel_rfl) (by rfl) ?_
   try simp only [apt12]
   refine tkO 10 ⟨some 35, .binOp .neq 3 (.tmp 33) (.tmp 34) 3, 4, "frame.go:189", #[⟨8, .data⟩, ⟨9, .data⟩, ⟨2, .guard⟩], some (2, false)⟩ rfl (by kernel_rfl) (by rfl) ?_
   try simp only [apt12]
   refine tkI 11 ⟨some 36, .pick (.tmp 27) (.const (Go.Value.bool true)) (.tmp 35), 4, "frame.go:189", #[⟨2, .data⟩, ⟨10, .data⟩], none⟩ ?v12 rfl (by kernel_rfl) (by rfl) ?y12 ?_
   case y12 => intro w hSw; (try dsimp only at hSw); go_simp; all_goals with_reducible rfl
   try simp only [apt12]
   refine tkI 12 ⟨some 37, .move (.tmp 36), 4, "frame.go:189", #[⟨11, .data⟩, ⟨9, .chain⟩], none⟩ ?v13 rfl (by kernel_rfl) (by rfl) ?y13 ?_
   case y13 => intro w hSw; (try dsimp only at hSw); go_simp; all_goals with_reducible rfl
   try simp only [apt12]
   refine tkO 13 ⟨some 38, .fieldAddr 24 (.tmp 2) 0, 0, "frame.go:189", #[⟨12, .guard⟩], some (12, false)⟩ rfl (by kernel_rfl) (by rfl) ?_
   try simp only [apt12]
   refine tkO 14 ⟨some 39, .load 22 (.tmp 38), 22, "frame.go:189", #[⟨13, .data⟩, ⟨12, .guard⟩], some (12, false)⟩ rfl (by kernel_rfl) (by rfl) ?_
   try simp only [apt12]
   refine tkO 15 ⟨some 40, .move (.tmp 6), 3, "frame.go:189", #[⟨12, .guard⟩], some (12, false)⟩ rfl (by kernel_rfl) (by rfl) ?_
   try simp only [apt12]
   refine tkO 16 ⟨some 41, .indexAddr 22 (.tmp 39) (.tmp 40), 0, "frame.go:189", #[⟨14, .data⟩, ⟨15, .data⟩, ⟨12, .guard⟩], some (12, false)⟩ rfl (by kernel_rfl) (by rfl) ?_
   try simp only [apt12]
   refine tkO 17 ⟨some 42, .fieldAddr 60 (.tmp 41) 2, 0, "frame.go:189", #[⟨16, .data⟩, ⟨12, .guard⟩], some (12, false)⟩ rfl (by kernel_rfl) (by rfl) ?_
   try simp only [apt12]
   refine tkO 18 ⟨some 43, .load 30 (.tmp 42), 30, "frame.go:189", #[⟨17, .data⟩, ⟨12, .guard⟩], some (12, false)⟩ rfl (by kernel_rfl) (by rfl) ?_
   try simp only [apt12]
   refine tkO 19 ⟨some 44, .call { callee := .builtin .len, args := #[.tmp 43], argTypes := #[30] }, 3, "frame.go:189", #[⟨18, .data⟩, ⟨12, .guard⟩], some (12, false)⟩ rfl (by kernel_rfl) (by rfl) ?_
   try simp only [apt12]
   refine tkO 20 ⟨some 45, .binOp .neq 3 (.tmp 44) (.const (Go.Value.int .i64 22)) 3, 4, "frame.go:189", #[⟨19, .data⟩, ⟨12, .guard⟩], some (12, false)⟩ rfl (by kernel_rfl) (by rfl) ?_
   try simp only [apt12]
   refine tkI 21 ⟨some 46, .pick (.tmp 37) (.const (Go.Value.bool true)) (.tmp 45), 4, "frame.go:189", #[⟨12, .data⟩, ⟨20, .data⟩], none⟩ ?v22 rfl (by kernel_rfl) (by rfl) ?y22 ?_
   case y22 => intro w hSw; (try dsimp only at hSw); go_simp; all_goals with_reducible rfl
   try simp only [apt12]
   refine wpAnyH_done (by kernel_rfl) ?_ _
   obtain ⟨w3, hw3⟩ : ∃ x, x = w2.drew := ⟨_, rfl⟩
   have HB3 : Hid (Below w.heap.size w w3) := by show Below w.heap.size w w3; rw [hw3]; exact HB2.out.drew
   have HK3 : Hid (Lies w3 (w.heap.size + 1) 69 #[.int .i64 0, .int .i64 0, .int .i64 0, .slice none 0 0, .slice none 0 0, .int .i64 0, .int .i64 0, .int .i64 0, .slice none 0 0]) := by show Lies w3 (w.heap.size + 1) 69 #[.int .i64 0, .int .i64 0, .int .i64 0, .slice none 0 0, .slice none 0 0, .int .i64 0, .int .i64 0, .int .i64 0, .slice none 0 0]; rw [hw3]; exact HK2.out.drew
   rw [← hw3]
   clear hw3
   have HRR : Hid (may12 h cx = false) := rd_ref12 HNR.out
   obtain ⟨u0, u1, u2, u3, u4, u5, u6, u7, u8⟩ := HK3.out.c9
   obtain ⟨uf0, uf1, uf2, uf3, uf4, uf5, uf6, uf7, uf8⟩ := HK3.out.f9
   go_wp2_with fail
   have K0 := (((((((((HK3.out.set_ 0 (.int .i64 0)).set_ 1 (.int .i64 0)).set_ 2 (.int .i64 0)).set_ 3 (.slice none 0 0)).set_ 4 (.slice none 0 0)).set_ 5 (.int .i64 0)).set_ 6 (.int .i64 0)).set_ 7 (.int .i64 0)).set_ 8 (.slice none 0 0))
   have r0 := K0.cell 0
   have r1 := K0.cell 1
   have r2 := K0.cell 2
   have r3 := K0.cell 3
   have r4 := K0.cell 4
   have r5 := K0.cell 5
   have r6 := K0.cell 6
   have r7 := K0.cell 7
   have r8 := K0.cell 8
   simp only [List.setIfInBounds_toArray, List.set_cons_zero, List.set_cons_succ, List.getElem?_toArray, List.getElem?_cons_zero, List.getElem?_cons_succ] at r0 r1 r2 r3 r4 r5 r6 r7 r8
   refine bodyPost_ret (v := .tuple #[.agg #[.int .i64 0, .int .i64 0, .int .i64 0, .slice none 0 0, .slice none 0 0, .int .i64 0, .int .i64 0, .int .i64 0, .slice none 0 0], .int .i64 120]) (by simp [results, Tryz.results43, go_sem, r0, r1, r2, r3, r4, r5, r6, r7, r8]) rfl ?_
   have HBE := (((((((((HB3.out).setCell (p := ⟨w.heap.size + 1, 0, none⟩) (by simp) (.int .i64 0)).setCell (p := ⟨w.heap.size + 1, 1, none⟩) (by simp) (.int .i64 0)).setCell (p := ⟨w.heap.size + 1, 2, none⟩) (by simp) (.int .i64 0)).setCell (p := ⟨w.heap.size + 1, 3, none⟩) (by simp) (.slice none 0 0)).setCell (p := ⟨w.heap.size + 1, 4, none⟩) (by simp) (.slice none 0 0)).setCell (p := ⟨w.heap.size + 1, 5, none⟩) (by simp) (.int .i64 0)).setCell (p := ⟨w.heap.size + 1, 6, none⟩) (by simp) (.int .i64 0)).setCell (p := ⟨w.heap.size + 1, 7, none⟩) (by simp) (.int .i64 0)).setCell (p := ⟨w.heap.size + 1, 8, none⟩) (by simp) (.slice none 0 0)
   exact ⟨HBE, .inl ⟨HRR.out, rfl⟩⟩
  obtain ⟨i, b, off, S, d, hi, hil, rfl, hc, hint, hnil, hlt⟩ := ob_cap12 HS.out hr
  have HI : Hid (refV h.objs.length cx = i) := (refV_I12 hr).trans hi
  have HAT : Hid (atV cx = i) := (refI_nonneg hr).symm.trans hi
  have hilI : (i : Int) < (h.objs.length : Int) := by omega
  have hi0 : (0 : Int) ≤ (i : Int) := by omega
  have HSL := hid (sls_ref12 HM.out hr)
  rw [HI.out]
  obtain ⟨l, hl⟩ : ∃ l, l = (obAt h cx).slots := ⟨_, rfl⟩
  obtain ⟨cl, hcl⟩ : ∃ l, l = (obAt h cx).cls := ⟨_, rfl⟩
  have hc2 := hc.below hlt HB2.out
  have y0 := hc2.c0
  have y2 := hc2.c2
  rw [← hcl] at y0
  rw [← hl] at y2 hint HSL hnil
  have HCAP := hid hnil
  have HCL := hid hcl
  have HIN := hid hint
  clear hi hc hc2 hint hnil hr hl hcl hlt
  obtain ⟨x0, x1, x2⟩ := HX2.out.c3
  by_cases hcc : cl = 12
  case neg =>
    have hcB : (cl != 12) = true := bne_iff_ne.2 hcc
    have HNC : Hid ((obAt h cx).cls ≠ 12) := by show _ ≠ _; rw [← HCL.out]; exact hcc
    go_upto_region 4 with fail
    refine wp_region_held_drew (S := (fun w' => w'.cell? ⟨w.heap.size, 0, none⟩ = some (.slice (some ⟨b, off, none⟩) h.objs.length c) ∧ w'.cell? ⟨b, off + i * 6, none⟩ = some (.int .i64 cl) ∧ w'.cell? ⟨b, off + i * 6 + 2, none⟩ = some (.slice S l.length d))) (by kernel_rfl) ?_ (fun hH0 => ?_)
    next =>
     exact ⟨cell_later (Below.refl w2.heap.size w2).drew x0, cell_later (Below.refl w2.heap.size w2).drew y0, cell_later (Below.refl w2.heap.size w2).drew y2⟩
    refine tkI 0 ⟨some 25, .move (.tmp 7), 4, "frame.go:189", #[], none⟩ ?v23 rfl (by kernel_rfl) (by rfl) ?y23 ?_
    case y23 => intro w hSw; (try dsimp only at hSw); go_simp; all_goals with_reducible rfl
    try simp only [apt12]
    refine tkI 1 ⟨some 26, .unOp .not 4 (.tmp 25), 4, "frame.go:189", #[⟨0, .data⟩], none⟩ ?v24 rfl (by kernel_rfl) (by rfl) ?y24 ?_
    case y24 => intro w hSw; (try dsimp only at hSw); go_simp; all_goals with_reducible rfl
    try simp only [apt12]
    refine tkI 2 ⟨some 27, .move (.tmp 26), 4, "frame.go:189", #[⟨1, .data⟩], none⟩ ?v25 rfl (by kernel_rfl) (by rfl) ?y25 ?_
    case y25 => intro w hSw; (try dsimp only at hSw); go_simp; all_goals with_reducible rfl
    try simp only [apt12]
    refine tkI 3 ⟨some 28, .fieldAddr 24 (.tmp 2) 0, 0, "frame.go:189", #[⟨2, .guard⟩], some (2, false)⟩ ?v26 rfl (by kernel_rfl) (by rfl) ?y26 ?_
    case y26 => intro w hSw; (try dsimp only at hSw); go_simp; all_goals with_reducible rfl
    try simp only [apt12]
    refine tkI 4 ⟨some 29, .load 22 (.tmp 28), 22, "frame.go:189", #[⟨3, .data⟩, ⟨2, .guard⟩], some (2, false)⟩ ?v27 rfl (by kernel_rfl) (by rfl) ?y27 ?_
    case y27 => intro w hSw; (try dsimp only at hSw); go_simp; all_goals with_reducible rfl
    try simp only [apt12]
    refine tkI 5 ⟨some 30, .move (.tmp 6), 3, "frame.go:189", #[⟨2, .guard⟩], some (2, false)⟩ ?v28 rfl (by kernel_rfl) (by rfl) ?y28 ?_
    case y28 => intro w hSw; (try dsimp only at hSw); go_simp; all_goals with_reducible rfl
    try simp only [apt12]
    refine tkI 6 ⟨some 31, .indexAddr 22 (.tmp 29) (.tmp 30), 0, "frame.go:189", #[⟨4, .data⟩, ⟨5, .data⟩, ⟨2, .guard⟩], some (2, false)⟩ ?v29 rfl (by kernel_rfl) (by rfl) ?y29 ?_
    case y29 => intro w hSw; (try dsimp only at hSw); go_simp; all_goals with_reducible rfl
    try simp only [apt12]
    refine tkI 7 ⟨some 32, .fieldAddr 60 (.tmp 31) 0, 0, "frame.go:189", #[⟨6, .data⟩, ⟨2, .guard⟩], some (2, false)⟩ ?v30 rfl (by kernel_rfl) (by rfl) ?y30 ?_
    case y30 => intro w hSw; (try dsimp only at hSw); go_simp; all_goals with_reducible rfl
    try simp only [apt12]
    refine tkI 8 ⟨some 33, .load 3 (.tmp 32), 3, "frame.go:189", #[⟨7, .data⟩, ⟨2, .guard⟩], some (2, false)⟩ ?v31 rfl (by kernel_rfl) (by rfl) ?y31 ?_
    case y31 => intro w hSw; (try dsimp only at hSw); go_simp; all_goals with_reducible rfl
    try simp only [apt12]
    refine wpAnyH_ready (rs := [9]) (by kernel_rfl) (by simp) ?_
    refine AllReadyH.cons (i := 9) (o := ⟨some 34, .call { callee := .value (.func 54), args := #[.const (Go.Value.int .i64 6)], argTypes := #[3] }, 3, "frame.go:189", #[⟨2, .chain⟩, ⟨2, .guard⟩], some (2, false)⟩) rfl (fun K hK => ?_) AllReadyH.nil
    go_simp
    go_at_call 54
    refine (pref_any12 6 _).mono ?_
    rintro e wr ⟨rfl, hwr⟩
    subst hwr
    rw [show reV 6 = 12 by decide]
    refine hK.out _ _ ?_ (fun hH1 => ?_)
    next =>
     exact hH0
    clear hK K
    try simp only [apt12]
    refine tkI 10 ⟨some 35, .binOp .neq 3 (.tmp 33) (.tmp 34) 3, 4, "frame.go:189", #[⟨8, .data⟩, ⟨9, .data⟩, ⟨2, .guard⟩], some (2, false)⟩ ?v32 rfl (by kernel_rfl) (by rfl) ?y32 ?_
    case y32 => intro w hSw; (try dsimp only at hSw); go_simp; all_goals with_reducible rfl
    try simp only [apt12]
    refine tkI 11 ⟨some 36, .pick (.tmp 27) (.const (Go.Value.bool true)) (.tmp 35), 4, "frame.go:189", #[⟨2, .data⟩, ⟨10, .data⟩], none⟩ ?v33 rfl (by kernel_rfl) (by rfl) ?y33 ?_
    case y33 => intro w hSw; (try dsimp only at hSw); go_simp; all_goals with_reducible rfl
    try simp only [apt12]
    refine tkI 12 ⟨some 37, .move (.tmp 36), 4, "frame.go:189", #[⟨11, .data⟩, ⟨9, .chain⟩], none⟩ ?v34 rfl (by kernel_rfl) (by rfl) ?y34 ?_
    case y34 => intro w hSw; (try dsimp only at hSw); go_simp; all_goals with_reducible rfl
    try simp only [apt12]
    refine tkO 13 ⟨some 38, .fieldAddr 24 (.tmp 2) 0, 0, "frame.go:189", #[⟨12, .guard⟩], some (12, false)⟩ rfl (by kernel_rfl) (by rfl) ?_
    try simp only [apt12]
    refine tkO 14 ⟨some 39, .load 22 (.tmp 38), 22, "frame.go:189", #[⟨13, .data⟩, ⟨12, .guard⟩], some (12, false)⟩ rfl (by kernel_rfl) (by rfl) ?_
    try simp only [apt12]
    refine tkO 15 ⟨some 40, .move (.tmp 6), 3, "frame.go:189", #[⟨12, .guard⟩], some (12, false)⟩ rfl (by kernel_rfl) (by rfl) ?_
    try simp only [apt12]
    refine tkO 16 ⟨some 41, .indexAddr 22 (.tmp 39) (.tmp 40), 0, "frame.go:189", #[⟨14, .data⟩, ⟨15, .data⟩, ⟨12, .guard⟩], some (12, false)⟩ rfl (by kernel_rfl) (by rfl) ?_
    try simp only [apt12]
    refine tkO 17 ⟨some 42, .fieldAddr 60 (.tmp 41) 2, 0, "frame.go:189", #[⟨16, .data⟩, ⟨12, .guard⟩], some (12, false)⟩ rfl (by kernel_rfl) (by rfl) ?_
    try simp only [apt12]
    refine tkO 18 ⟨some 43, .load 30 (.tmp 42), 30, "frame.go:189", #[⟨17, .data⟩, ⟨12, .guard⟩], some (12, false)⟩ rfl (by kernel_rfl) (by rfl) ?_
    try simp only [apt12]
    refine tkO 19 ⟨some 44, .call { callee := .builtin .len, args := #[.tmp 43], argTypes := #[30] }, 3, "frame.go:189", #[⟨18, .data⟩, ⟨12, .guard⟩], some (12, false)⟩ rfl (by kernel_rfl) (by rfl) ?_
    try simp only [apt12]
    refine tkO 20 ⟨some 45, .binOp .neq 3 (.tmp 44) (.const (Go.Value.int .i64 22)) 3, 4, "frame.go:189", #[⟨19, .data⟩, ⟨12, .guard⟩], some (12, false)⟩ rfl (by kernel_rfl) (by rfl) ?_
    try simp only [apt12]
    refine tkI 21 ⟨some 46, .pick (.tmp 37) (.const (Go.Value.bool true)) (.tmp 45), 4, "frame.go:189", #[⟨12, .data⟩, ⟨20, .data⟩], none⟩ ?v43 rfl (by kernel_rfl) (by rfl) ?y43 ?_
    case y43 => intro w hSw; (try dsimp only at hSw); go_simp; all_goals with_reducible rfl
    try simp only [apt12]
    refine wpAnyH_done (by kernel_rfl) ?_ _
    obtain ⟨w3, hw3⟩ : ∃ x, x = w2.drew := ⟨_, rfl⟩
    have HB3 : Hid (Below w.heap.size w w3) := by show Below w.heap.size w w3; rw [hw3]; exact HB2.out.drew
    have HK3 : Hid (Lies w3 (w.heap.size + 1) 69 #[.int .i64 0, .int .i64 0, .int .i64 0, .slice none 0 0, .slice none 0 0, .int .i64 0, .int .i64 0, .int .i64 0, .slice none 0 0]) := by show Lies w3 (w.heap.size + 1) 69 #[.int .i64 0, .int .i64 0, .int .i64 0, .slice none 0 0, .slice none 0 0, .int .i64 0, .int .i64 0, .int .i64 0, .slice none 0 0]; rw [hw3]; exact HK2.out.drew
    rw [← hw3]
    clear hw3
    have HRR : Hid (may12 h cx = false) := rd_cls12 HNC.out
    obtain ⟨u0, u1, u2, u3, u4, u5, u6, u7, u8⟩ := HK3.out.c9
    obtain ⟨uf0, uf1, uf2, uf3, uf4, uf5, uf6, uf7, uf8⟩ := HK3.out.f9
    go_wp2_with fail
    have K0 := (((((((((HK3.out.set_ 0 (.int .i64 0)).set_ 1 (.int .i64 0)).set_ 2 (.int .i64 0)).set_ 3 (.slice none 0 0)).set_ 4 (.slice none 0 0)).set_ 5 (.int .i64 0)).set_ 6 (.int .i64 0)).set_ 7 (.int .i64 0)).set_ 8 (.slice none 0 0))
    have r0 := K0.cell 0
    have r1 := K0.cell 1
    have r2 := K0.cell 2
    have r3 := K0.cell 3
    have r4 := K0.cell 4
    have r5 := K0.cell 5
    have r6 := K0.cell 6
    have r7 := K0.cell 7
    have r8 := K0.cell 8
    simp only [List.setIfInBounds_toArray, List.set_cons_zero, List.set_cons_succ, List.getElem?_toArray, List.getElem?_cons_zero, List.getElem?_cons_succ] at r0 r1 r2 r3 r4 r5 r6 r7 r8
    refine bodyPost_ret (v := .tuple #[.agg #[.int .i64 0, .int .i64 0, .int .i64 0, .slice none 0 0, .slice none 0 0, .int .i64 0, .int .i64 0, .int .i64 0, .slice none 0 0], .int .i64 120]) (by simp [results, Tryz.results43, go_sem, r0, r1, r2, r3, r4, r5, r6, r7, r8]) rfl ?_
    have HBE := (((((((((HB3.out).setCell (p := ⟨w.heap.size + 1, 0, none⟩) (by simp) (.int .i64 0)).setCell (p := ⟨w.heap.size + 1, 1, none⟩) (by simp) (.int .i64 0)).setCell (p := ⟨w.heap.size + 1, 2, none⟩) (by simp) (.int .i64 0)).setCell (p := ⟨w.heap.size + 1, 3, none⟩) (by simp) (.slice none 0 0)).setCell (p := ⟨w.heap.size + 1, 4, none⟩) (by simp) (.slice none 0 0)).setCell (p := ⟨w.heap.size + 1, 5, none⟩) (by simp) (.int .i64 0)).setCell (p := ⟨w.heap.size + 1, 6, none⟩) (by simp) (.int .i64 0)).setCell (p := ⟨w.heap.size + 1, 7, none⟩) (by simp) (.int .i64 0)).setCell (p := ⟨w.heap.size + 1, 8, none⟩) (by simp) (.slice none 0 0)
    exact ⟨HBE, .inl ⟨HRR.out, rfl⟩⟩
  subst hcc
  by_cases h22 : l.length = 22
  case neg =>
    have hlI : ¬ ((l.length : Int) = 22) := by omega
    have hlB : ((l.length : Int) != 22) = true := bne_iff_ne.2 hlI
    have HNL : Hid ((sls12 h cx).length ≠ 22) := by show _ ≠ _; rw [HSL.out]; exact h22
    go_upto_region 4 with fail
    refine wp_region_held_drew (S := (fun w' => w'.cell? ⟨w.heap.size, 0, none⟩ = some (.slice (some ⟨b, off, none⟩) h.objs.length c) ∧ w'.cell? ⟨b, off + i * 6, none⟩ = some (.int .i64 12) ∧ w'.cell? ⟨b, off + i * 6 + 2, none⟩ = some (.slice S l.length d))) (by kernel_rfl) ?_ (fun hH0 => ?_)
    next =>
     exact ⟨cell_later (Below.refl w2.heap.size w2).drew x0, cell_later (Below.refl w2.heap.size w2).drew y0, cell_later (Below.refl w2.heap.size w2).drew y2⟩
    refine tkI 0 ⟨some 25, .move (.tmp 7), 4, "frame.go:189", #[], none⟩ ?v44 rfl (by kernel_rfl) (by rfl) ?y44 ?_
    case y44 => intro w hSw; (try dsimp only at hSw); go_simp; all_goals with_reducible rfl
    try simp only [apt12]
    refine tkI 1 ⟨some 26, .unOp .not 4 (.tmp 25), 4, "frame.go:189", #[⟨0, .data⟩], none⟩ ?v45 rfl (by kernel_rfl) (by rfl) ?y45 ?_
    case y45 => intro w hSw; (try dsimp only at hSw); go_simp; all_goals with_reducible rfl
    try simp only [apt12]
    refine tkI 2 ⟨some 27, .move (.tmp 26), 4, "frame.go:189", #[⟨1, .data⟩], none⟩ ?v46 rfl (by kernel_rfl) (by rfl) ?y46 ?_
    case y46 => intro w hSw; (try dsimp only at hSw); go_simp; all_goals with_reducible rfl
    try simp only [apt12]
    refine tkI 3 ⟨some 28, .fieldAddr 24 (.tmp 2) 0, 0, "frame.go:189", #[⟨2, .guard⟩], some (2, false)⟩ ?v47 rfl (by kernel_rfl) (by rfl) ?y47 ?_
    case y47 => intro w hSw; (try dsimp only at hSw); go_simp; all_goals with_reducible rfl
    try simp only [apt12]
    refine tkI 4 ⟨some 29, .load 22 (.tmp 28), 22, "frame.go:189", #[⟨3, .data⟩, ⟨2, .guard⟩], some (2, false)⟩ ?v48 rfl (by kernel_rfl) (by rfl) ?y48 ?_
    case y48 => intro w hSw; (try dsimp only at hSw); go_simp; all_goals with_reducible rfl
    try simp only [apt12]
    refine tkI 5 ⟨some 30, .move (.tmp 6), 3, "frame.go:189", #[⟨2, .guard⟩], some (2, false)⟩ ?v49 rfl (by kernel_rfl) (by rfl) ?y49 ?_
    case y49 => intro w hSw; (try dsimp only at hSw); go_simp; all_goals with_reducible rfl
    try simp only [apt12]
    refine tkI 6 ⟨some 31, .indexAddr 22 (.tmp 29) (.tmp 30), 0, "frame.go:189", #[⟨4, .data⟩, ⟨5, .data⟩, ⟨2, .guard⟩], some (2, false)⟩ ?v50 rfl (by kernel_rfl) (by rfl) ?y50 ?_
    case y50 => intro w hSw; (try dsimp only at hSw); go_simp; all_goals with_reducible rfl
    try simp only [apt12]
    refine tkI 7 ⟨some 32, .fieldAddr 60 (.tmp 31) 0, 0, "frame.go:189", #[⟨6, .data⟩, ⟨2, .guard⟩], some (2, false)⟩ ?v51 rfl (by kernel_rfl) (by rfl) ?y51 ?_
    case y51 => intro w hSw; (try dsimp only at hSw); go_simp; all_goals with_reducible rfl
    try simp only [apt12]
    refine tkI 8 ⟨some 33, .load 3 (.tmp 32), 3, "frame.go:189", #[⟨7, .data⟩, ⟨2, .guard⟩], some (2, false)⟩ ?v52 rfl (by kernel_rfl) (by rfl) ?y52 ?_
    case y52 => intro w hSw; (try dsimp only at hSw); go_simp; all_goals with_reducible rfl
    try simp only [apt12]
    refine wpAnyH_ready (rs := [9]) (by kernel_rfl) (by simp) ?_
    refine AllReadyH.cons (i := 9) (o := ⟨some 34, .call { callee := .value (.func 54), args := #[.const (Go.Value.int .i64 6)], argTypes := #[3] }, 3, "frame.go:189", #[⟨2, .chain⟩, ⟨2, .guard⟩], some (2, false)⟩) rfl (fun K hK => ?_) AllReadyH.nil
    go_simp
    go_at_call 54
    refine (pref_any12 6 _).mono ?_
    rintro e wr ⟨rfl, hwr⟩
    subst hwr
    rw [show reV 6 = 12 by decide]
    refine hK.out _ _ ?_ (fun hH1 => ?_)
    next =>
     exact hH0
    clear hK K
    try simp only [apt12]
    refine tkI 10 ⟨some 35, .binOp .neq 3 (.tmp 33) (.tmp 34) 3, 4, "frame.go:189", #[⟨8, .data⟩, ⟨9, .data⟩, ⟨2, .guard⟩], some (2, false)⟩ ?v53 rfl (by kernel_rfl) (by rfl) ?y53 ?_
    case y53 => intro w hSw; (try dsimp only at hSw); go_simp; all_goals with_reducible rfl
    try simp only [apt12]
    refine tkI 11 ⟨some 36, .pick (.tmp 27) (.const (Go.Value.bool true)) (.tmp 35), 4, "frame.go:189", #[⟨2, .data⟩, ⟨10, .data⟩], none⟩ ?v54 rfl (by kernel_rfl) (by rfl) ?y54 ?_
    case y54 => intro w hSw; (try dsimp only at hSw); go_simp; all_goals with_reducible rfl
    try simp only [apt12]
    refine tkI 12 ⟨some 37, .move (.tmp 36), 4, "frame.go:189", #[⟨11, .data⟩, ⟨9, .chain⟩], none⟩ ?v55 rfl (by kernel_rfl) (by rfl) ?y55 ?_
    case y55 => intro w hSw; (try dsimp only at hSw); go_simp; all_goals with_reducible rfl
    try simp only [apt12]
    refine tkI 13 ⟨some 38, .fieldAddr 24 (.tmp 2) 0, 0, "frame.go:189", #[⟨12, .guard⟩], some (12, false)⟩ ?v56 rfl (by kernel_rfl) (by rfl) ?y56 ?_
    case y56 => intro w hSw; (try dsimp only at hSw); go_simp; all_goals with_reducible rfl
    try simp only [apt12]
    refine tkI 14 ⟨some 39, .load 22 (.tmp 38), 22, "frame.go:189", #[⟨13, .data⟩, ⟨12, .guard⟩], some (12, false)⟩ ?v57 rfl (by kernel_rfl) (by rfl) ?y57 ?_
    case y57 => intro w hSw; (try dsimp only at hSw); go_simp; all_goals with_reducible rfl
    try simp only [apt12]
    refine tkI 15 ⟨some 40, .move (.tmp 6), 3, "frame.go:189", #[⟨12, .guard⟩], some (12, false)⟩ ?v58 rfl (by kernel_rfl) (by rfl) ?y58 ?_
    case y58 => intro w hSw; (try dsimp only at hSw); go_simp; all_goals with_reducible rfl
    try simp only [apt12]
    refine tkI 16 ⟨some 41, .indexAddr 22 (.tmp 39) (.tmp 40), 0, "frame.go:189", #[⟨14, .data⟩, ⟨15, .data⟩, ⟨12, .guard⟩], some (12, false)⟩ ?v59 rfl (by kernel_rfl) (by rfl) ?y59 ?_
    case y59 => intro w hSw; (try dsimp only at hSw); go_simp; all_goals with_reducible rfl
    try simp only [apt12]
    refine tkI 17 ⟨some 42, .fieldAddr 60 (.tmp 41) 2, 0, "frame.go:189", #[⟨16, .data⟩, ⟨12, .guard⟩], some (12, false)⟩ ?v60 rfl (by kernel_rfl) (by rfl) ?y60 ?_
    case y60 => intro w hSw; (try dsimp only at hSw); go_simp; all_goals with_reducible rfl
    try simp only [apt12]
    refine tkI 18 ⟨some 43, .load 30 (.tmp 42), 30, "frame.go:189", #[⟨17, .data⟩, ⟨12, .guard⟩], some (12, false)⟩ ?v61 rfl (by kernel_rfl) (by rfl) ?y61 ?_
    case y61 => intro w hSw; (try dsimp only at hSw); go_simp; all_goals with_reducible rfl
    try simp only [apt12]
    refine tkI 19 ⟨some 44, .call { callee := .builtin .len, args := #[.tmp 43], argTypes := #[30] }, 3, "frame.go:189", #[⟨18, .data⟩, ⟨12, .guard⟩], some (12, false)⟩ ?v62 rfl (by kernel_rfl) (by rfl) ?y62 ?_
    case y62 => intro w hSw; (try dsimp only at hSw); go_simp; all_goals with_reducible rfl
    try simp only [apt12]
    refine tkI 20 ⟨some 45, .binOp .neq 3 (.tmp 44) (.const (Go.Value.int .i64 22)) 3, 4, "frame.go:189", #[⟨19, .data⟩, ⟨12, .guard⟩], some (12, false)⟩ ?v63 rfl (by kernel_rfl) (by rfl) ?y63 ?_
    case y63 => intro w hSw; (try dsimp only at hSw); go_simp; all_goals with_reducible rfl
    try simp only [apt12]
    refine tkI 21 ⟨some 46, .pick (.tmp 37) (.const (Go.Value.bool true)) (.tmp 45), 4, "frame.go:189", #[⟨12, .data⟩, ⟨20, .data⟩], none⟩ ?v64 rfl (by kernel_rfl) (by rfl) ?y64 ?_
    case y64 => intro w hSw; (try dsimp only at hSw); go_simp; all_goals with_reducible rfl
    try simp only [apt12]
    refine wpAnyH_done (by kernel_rfl) ?_ _
    obtain ⟨w3, hw3⟩ : ∃ x, x = w2.drew := ⟨_, rfl⟩
    have HB3 : Hid (Below w.heap.size w w3) := by show Below w.heap.size w w3; rw [hw3]; exact HB2.out.drew
    have HK3 : Hid (Lies w3 (w.heap.size + 1) 69 #[.int .i64 0, .int .i64 0, .int .i64 0, .slice none 0 0, .slice none 0 0, .int .i64 0, .int .i64 0, .int .i64 0, .slice none 0 0]) := by show Lies w3 (w.heap.size + 1) 69 #[.int .i64 0, .int .i64 0, .int .i64 0, .slice none 0 0, .slice none 0 0, .int .i64 0, .int .i64 0, .int .i64 0, .slice none 0 0]; rw [hw3]; exact HK2.out.drew
    rw [← hw3]
    clear hw3
    have HRR : Hid (may12 h cx = false) := may_len12 HNL.out
    obtain ⟨u0, u1, u2, u3, u4, u5, u6, u7, u8⟩ := HK3.out.c9
    obtain ⟨uf0, uf1, uf2, uf3, uf4, uf5, uf6, uf7, uf8⟩ := HK3.out.f9
    go_wp2_with fail
    have K0 := (((((((((HK3.out.set_ 0 (.int .i64 0)).set_ 1 (.int .i64 0)).set_ 2 (.int .i64 0)).set_ 3 (.slice none 0 0)).set_ 4 (.slice none 0 0)).set_ 5 (.int .i64 0)).set_ 6 (.int .i64 0)).set_ 7 (.int .i64 0)).set_ 8 (.slice none 0 0))
    have r0 := K0.cell 0
    have r1 := K0.cell 1
    have r2 := K0.cell 2
    have r3 := K0.cell 3
    have r4 := K0.cell 4
    have r5 := K0.cell 5
    have r6 := K0.cell 6
    have r7 := K0.cell 7
    have r8 := K0.cell 8
    simp only [List.setIfInBounds_toArray, List.set_cons_zero, List.set_cons_succ, List.getElem?_toArray, List.getElem?_cons_zero, List.getElem?_cons_succ] at r0 r1 r2 r3 r4 r5 r6 r7 r8
    refine bodyPost_ret (v := .tuple #[.agg #[.int .i64 0, .int .i64 0, .int .i64 0, .slice none 0 0, .slice none 0 0, .int .i64 0, .int .i64 0, .int .i64 0, .slice none 0 0], .int .i64 120]) (by simp [results, Tryz.results43, go_sem, r0, r1, r2, r3, r4, r5, r6, r7, r8]) rfl ?_
    have HBE := (((((((((HB3.out).setCell (p := ⟨w.heap.size + 1, 0, none⟩) (by simp) (.int .i64 0)).setCell (p := ⟨w.heap.size + 1, 1, none⟩) (by simp) (.int .i64 0)).setCell (p := ⟨w.heap.size + 1, 2, none⟩) (by simp) (.int .i64 0)).setCell (p := ⟨w.heap.size + 1, 3, none⟩) (by simp) (.slice none 0 0)).setCell (p := ⟨w.heap.size + 1, 4, none⟩) (by simp) (.slice none 0 0)).setCell (p := ⟨w.heap.size + 1, 5, none⟩) (by simp) (.int .i64 0)).setCell (p := ⟨w.heap.size + 1, 6, none⟩) (by simp) (.int .i64 0)).setCell (p := ⟨w.heap.size + 1, 7, none⟩) (by simp) (.int .i64 0)).setCell (p := ⟨w.heap.size + 1, 8, none⟩) (by simp) (.slice none 0 0)
    exact ⟨HBE, .inl ⟨HRR.out, rfl⟩⟩
  have hlI : ((l.length : Int) = 22) := by omega
  have hlB : ((l.length : Int) != 22) = false := by rw [hlI]; rfl
  have H22 := hid h22
  obtain ⟨bl, ol, rfl, hbl, hcl⟩ := HIN.out (by omega)
  have hp : ∀ k, k < 22 → w.cell? ⟨bl, ol + k, none⟩ = some (.int .i64 (sl12 h cx k)) := fun k hk => hcl k _ (by
    unfold sl12
    rw [HSL.out, List.getElem?_eq_getElem (by omega), List.getD_eq_getElem?_getD, List.getElem?_eq_getElem (by omega)]; rfl)
  obtain ⟨v0, hv0⟩ : ∃ v, v = sl12 h cx 0 := ⟨_, rfl⟩
  have q0 := hp 0 (by decide)
  rw [← hv0] at q0
  have V0 := hid hv0
  have Q0 := hid q0
  obtain ⟨v1, hv1⟩ : ∃ v, v = sl12 h cx 1 := ⟨_, rfl⟩
  have q1 := hp 1 (by decide)
  rw [← hv1] at q1
  have V1 := hid hv1
  have Q1 := hid q1
  obtain ⟨v2, hv2⟩ : ∃ v, v = sl12 h cx 2 := ⟨_, rfl⟩
  have q2 := hp 2 (by decide)
  rw [← hv2] at q2
  have V2 := hid hv2
  have Q2 := hid q2
  obtain ⟨v3, hv3⟩ : ∃ v, v = sl12 h cx 3 := ⟨_, rfl⟩
  have q3 := hp 3 (by decide)
  rw [← hv3] at q3
  have V3 := hid hv3
  have Q3 := hid q3
  obtain ⟨v5, hv5⟩ : ∃ v, v = sl12 h cx 5 := ⟨_, rfl⟩
  have q5 := hp 5 (by decide)
  rw [← hv5] at q5
  have V5 := hid hv5
  have Q5 := hid q5
  obtain ⟨M3, hM3⟩ : ∃ M, M = (mt12 h v3).1 := ⟨_, rfl⟩
  obtain ⟨e3, he3⟩ : ∃ e, e = (mt12 h v3).2 := ⟨_, rfl⟩
  have HM3 := hid hM3
  have HE3 := hid he3
  have HCM : Hid (cm12 h cx = M3) := by show _ = _; unfold cm12; rw [← V3.out, hM3]
  have HCL32 : Hid ((M3.code.length : Int) ≤ 32) := by show _ ≤ _; rw [hM3]; exact code_le12
  clear hp hcl hM3 he3 hbl h22 hv0 q0 hv1 q1 hv2 q2 hv3 q3 hv5 q5
  go_upto_region 4 with fail
  refine wp_region_held_drew (S := (fun w' => w'.cell? ⟨w.heap.size, 0, none⟩ = some (.slice (some ⟨b, off, none⟩) h.objs.length c) ∧ w'.cell? ⟨b, off + i * 6, none⟩ = some (.int .i64 12) ∧ w'.cell? ⟨b, off + i * 6 + 2, none⟩ = some (.slice (some ⟨bl, ol, none⟩) l.length d))) (by kernel_rfl) ?_ (fun hH0 => ?_)
  next =>
   exact ⟨cell_later (Below.refl w2.heap.size w2).drew x0, cell_later (Below.refl w2.heap.size w2).drew y0, cell_later (Below.refl w2.heap.size w2).drew y2⟩
  refine tkI 0 ⟨some 25, .move (.tmp 7), 4, "frame.go:189", #[], none⟩ ?v65 rfl (by kernel_rfl) (by rfl) ?y65 ?_
  case y65 => intro w hSw; (try dsimp only at hSw); go_simp; all_goals with_reducible rfl
  try simp only [apt12]
  refine tkI 1 ⟨some 26, .unOp .not 4 (.tmp 25), 4, "frame.go:189", #[⟨0, .data⟩], none⟩ ?v66 rfl (by kernel_rfl) (by rfl) ?y66 ?_
  case y66 => intro w hSw; (try dsimp only at hSw); go_simp; all_goals with_reducible rfl
  try simp only [apt12]
  refine tkI 2 ⟨some 27, .move (.tmp 26), 4, "frame.go:189", #[⟨1, .data⟩], none⟩ ?v67 rfl (by kernel_rfl) (by rfl) ?y67 ?_
  case y67 => intro w hSw; (try dsimp only at hSw); go_simp; all_goals with_reducible rfl
  try simp only [apt12]
  refine tkI 3 ⟨some 28, .fieldAddr 24 (.tmp 2) 0, 0, "frame.go:189", #[⟨2, .guard⟩], some (2, false)⟩ ?v68 rfl (by kernel_rfl) (by rfl) ?y68 ?_
  case y68 => intro w hSw; (try dsimp only at hSw); go_simp; all_goals with_reducible rfl
  try simp only [apt12]
  refine tkI 4 ⟨some 29, .load 22 (.tmp 28), 22, "frame.go:189", #[⟨3, .data⟩, ⟨2, .guard⟩], some (2, false)⟩ ?v69 rfl (by kernel_rfl) (by rfl) ?y69 ?_
  case y69 => intro w hSw; (try dsimp only at hSw); go_simp; all_goals with_reducible rfl
  try simp only [apt12]
  refine tkI 5 ⟨some 30, .move (.tmp 6), 3, "frame.go:189", #[⟨2, .guard⟩], some (2, false)⟩ ?v70 rfl (by kernel_rfl) (by rfl) ?y70 ?_
  case y70 => intro w hSw; (try dsimp only at hSw); go_simp; all_goals with_reducible rfl
  try simp only [apt12]
  refine tkI 6 ⟨some 31, .indexAddr 22 (.tmp 29) (.tmp 30), 0, "frame.go:189", #[⟨4, .data⟩, ⟨5, .data⟩, ⟨2, .guard⟩], some (2, false)⟩ ?v71 rfl (by kernel_rfl) (by rfl) ?y71 ?_
  case y71 => intro w hSw; (try dsimp only at hSw); go_simp; all_goals with_reducible rfl
  try simp only [apt12]
  refine tkI 7 ⟨some 32, .fieldAddr 60 (.tmp 31) 0, 0, "frame.go:189", #[⟨6, .data⟩, ⟨2, .guard⟩], some (2, false)⟩ ?v72 rfl (by kernel_rfl) (by rfl) ?y72 ?_
  case y72 => intro w hSw; (try dsimp only at hSw); go_simp; all_goals with_reducible rfl
  try simp only [apt12]
  refine tkI 8 ⟨some 33, .load 3 (.tmp 32), 3, "frame.go:189", #[⟨7, .data⟩, ⟨2, .guard⟩], some (2, false)⟩ ?v73 rfl (by kernel_rfl) (by rfl) ?y73 ?_
  case y73 => intro w hSw; (try dsimp only at hSw); go_simp; all_goals with_reducible rfl
  try simp only [apt12]
  refine wpAnyH_ready (rs := [9]) (by kernel_rfl) (by simp) ?_
  refine AllReadyH.cons (i := 9) (o := ⟨some 34, .call { callee := .value (.func 54), args := #[.const (Go.Value.int .i64 6)], argTypes := #[3] }, 3, "frame.go:189", #[⟨2, .chain⟩, ⟨2, .guard⟩], some (2, false)⟩) rfl (fun K hK => ?_) AllReadyH.nil
  go_simp
  go_at_call 54
  refine (pref_any12 6 _).mono ?_
  rintro e wr ⟨rfl, hwr⟩
  subst hwr
  rw [show reV 6 = 12 by decide]
  refine hK.out _ _ ?_ (fun hH1 => ?_)
  next =>
   exact hH0
  clear hK K
  try simp only [apt12]
  refine tkI 10 ⟨some 35, .binOp .neq 3 (.tmp 33) (.tmp 34) 3, 4, "frame.go:189", #[⟨8, .data⟩, ⟨9, .data⟩, ⟨2, .guard⟩], some (2, false)⟩ ?v74 rfl (by kernel_rfl) (by rfl) ?y74 ?_
  case y74 => intro w hSw; (try dsimp only at hSw); go_simp; all_goals with_reducible rfl
  try simp only [apt12]
  refine tkI 11 ⟨some 36, .pick (.tmp 27) (.const (Go.Value.bool true)) (.tmp 35), 4, "frame.go:189", #[⟨2, .data⟩, ⟨10, .data⟩], none⟩ ?v75 rfl (by kernel_rfl) (by rfl) ?y75 ?_
  case y75 => intro w hSw; (try dsimp only at hSw); go_simp; all_goals with_reducible rfl
  try simp only [apt12]
  refine tkI 12 ⟨some 37, .move (.tmp 36), 4, "frame.go:189", #[⟨11, .data⟩, ⟨9, .chain⟩], none⟩ ?v76 rfl (by kernel_rfl) (by rfl) ?y76 ?_
  case y76 => intro w hSw; (try dsimp only at hSw); go_simp; all_goals with_reducible rfl
  try simp only [apt12]
  refine tkI 13 ⟨some 38, .fieldAddr 24 (.tmp 2) 0, 0, "frame.go:189", #[⟨12, .guard⟩], some (12, false)⟩ ?v77 rfl (by kernel_rfl) (by rfl) ?y77 ?_
  case y77 => intro w hSw; (try dsimp only at hSw); go_simp; all_goals with_reducible rfl
  try simp only [apt12]
  refine tkI 14 ⟨some 39, .load 22 (.tmp 38), 22, "frame.go:189", #[⟨13, .data⟩, ⟨12, .guard⟩], some (12, false)⟩ ?v78 rfl (by kernel_rfl) (by rfl) ?y78 ?_
  case y78 => intro w hSw; (try dsimp only at hSw); go_simp; all_goals with_reducible rfl
  try simp only [apt12]
  refine tkI 15 ⟨some 40, .move (.tmp 6), 3, "frame.go:189", #[⟨12, .guard⟩], some (12, false)⟩ ?v79 rfl (by kernel_rfl) (by rfl) ?y79 ?_
  case y79 => intro w hSw; (try dsimp only at hSw); go_simp; all_goals with_reducible rfl
  try simp only [apt12]
  refine tkI 16 ⟨some 41, .indexAddr 22 (.tmp 39) (.tmp 40), 0, "frame.go:189", #[⟨14, .data⟩, ⟨15, .data⟩, ⟨12, .guard⟩], some (12, false)⟩ ?v80 rfl (by kernel_rfl) (by rfl) ?y80 ?_
  case y80 => intro w hSw; (try dsimp only at hSw); go_simp; all_goals with_reducible rfl
  try simp only [apt12]
  refine tkI 17 ⟨some 42, .fieldAddr 60 (.tmp 41) 2, 0, "frame.go:189", #[⟨16, .data⟩, ⟨12, .guard⟩], some (12, false)⟩ ?v81 rfl (by kernel_rfl) (by rfl) ?y81 ?_
  case y81 => intro w hSw; (try dsimp only at hSw); go_simp; all_goals with_reducible rfl
  try simp only [apt12]
  refine tkI 18 ⟨some 43, .load 30 (.tmp 42), 30, "frame.go:189", #[⟨17, .data⟩, ⟨12, .guard⟩], some (12, false)⟩ ?v82 rfl (by kernel_rfl) (by rfl) ?y82 ?_
  case y82 => intro w hSw; (try dsimp only at hSw); go_simp; all_goals with_reducible rfl
  try simp only [apt12]
  refine tkI 19 ⟨some 44, .call { callee := .builtin .len, args := #[.tmp 43], argTypes := #[30] }, 3, "frame.go:189", #[⟨18, .data⟩, ⟨12, .guard⟩], some (12, false)⟩ ?v83 rfl (by kernel_rfl) (by rfl) ?y83 ?_
  case y83 => intro w hSw; (try dsimp only at hSw); go_simp; all_goals with_reducible rfl
  try simp only [apt12]
  refine tkI 20 ⟨some 45, .binOp .neq 3 (.tmp 44) (.const (Go.Value.int .i64 22)) 3, 4, "frame.go:189", #[⟨19, .data⟩, ⟨12, .guard⟩], some (12, false)⟩ ?v84 rfl (by kernel_rfl) (by rfl) ?y84 ?_
  case y84 => intro w hSw; (try dsimp only at hSw); go_simp; all_goals with_reducible rfl
  try simp only [apt12]
  refine tkI 21 ⟨some 46, .pick (.tmp 37) (.const (Go.Value.bool true)) (.tmp 45), 4, "frame.go:189", #[⟨12, .data⟩, ⟨20, .data⟩], none⟩ ?v85 rfl (by kernel_rfl) (by rfl) ?y85 ?_
  case y85 => intro w hSw; (try dsimp only at hSw); go_simp; all_goals with_reducible rfl
  try simp only [apt12]
  refine wpAnyH_done (by kernel_rfl) ?_ _
  obtain ⟨w3, hw3⟩ : ∃ x, x = w2.drew := ⟨_, rfl⟩
  have HB3 : Hid (Below w.heap.size w w3) := by show Below w.heap.size w w3; rw [hw3]; exact HB2.out.drew
  have HK3 : Hid (Lies w3 (w.heap.size + 1) 69 #[.int .i64 0, .int .i64 0, .int .i64 0, .slice none 0 0, .slice none 0 0, .int .i64 0, .int .i64 0, .int .i64 0, .slice none 0 0]) := by show Lies w3 (w.heap.size + 1) 69 #[.int .i64 0, .int .i64 0, .int .i64 0, .slice none 0 0, .slice none 0 0, .int .i64 0, .int .i64 0, .int .i64 0, .slice none 0 0]; rw [hw3]; exact HK2.out.drew
  have HX3 : Hid (Lies w3 w.heap.size 24 #[Value.slice (some ⟨b, off, none⟩) h.objs.length c, Value.int .i64 h.cap, Value.int .i64 h.last]) := by show Lies w3 w.heap.size 24 #[Value.slice (some ⟨b, off, none⟩) h.objs.length c, Value.int .i64 h.cap, Value.int .i64 h.last]; rw [hw3]; exact HX2.out.drew
  have Y2 : Hid (w3.cell? ⟨b, off + i * 6 + 2, none⟩ = some (.slice (some ⟨bl, ol, none⟩) 22 d)) := by show w3.cell? ⟨b, off + i * 6 + 2, none⟩ = some (.slice (some ⟨bl, ol, none⟩) 22 d); rw [hw3]; exact (by have := cell_later (Below.refl w2.heap.size w2).drew y2; rw [H22.out] at this; exact this)
  rw [← hw3]
  clear hw3
  clear x0 x1 x2 y0 y2 HB2 HK2 HX2
  have y2 := Y2.out
  obtain ⟨x0, x1, x2⟩ := HX3.out.c3
  have q3 := (HB3.out.cell (p := ⟨bl, ol + 3, none⟩) (World.block_lt_of_cell? _ _ Q3.out)).trans Q3.out
  have HB := HB3
  go_upto_region 7 with fail
  go_cut [9, 10] from 54 to 61 (fun p z wx => ∃ bx CA cc LA lc, p = .pointer (some ⟨bx, 0, none⟩) ∧ z = .int .i64 e3 ∧ Hid (Lies wx bx 32 #[.int .i64 M3.prim, .int .i64 M3.args, .int .i64 M3.temps, .slice CA M3.code.length cc, .slice LA M3.lits.length lc]) ∧ Hid (Below w3.heap.size w3 wx) ∧ Hid (InsR wx CA M3.code) ∧ Hid (∀ k o s, CA = some ⟨k, o, s⟩ → w3.heap.size ≤ k))
  case first =>
    have BB0 := hid ((Below.refl w3.heap.size w3).drew)
    have z0 := cell_later BB0.out x0
    have z1 := cell_later BB0.out x1
    have z2 := cell_later BB0.out x2
    have z3 := cell_later BB0.out q3
    refine wp_region_held_drew (S := (fun w' => w'.cell? ⟨w.heap.size, 0, none⟩ = some (.slice (some ⟨b, off, none⟩) h.objs.length c) ∧ w'.cell? ⟨w.heap.size, 1, none⟩ = some (.int .i64 h.cap) ∧ w'.cell? ⟨w.heap.size, 2, none⟩ = some (.int .i64 h.last) ∧ w'.cell? ⟨bl, ol + 3, none⟩ = some (.int .i64 v3))) (by kernel_rfl) ?_ (fun hH0 => ?_)
    next =>
     exact ⟨cell_later BB0.out x0, cell_later BB0.out x1, cell_later BB0.out x2, cell_later BB0.out q3⟩
    refine tkI 0 ⟨some 55, .load 24 (.tmp 2), 24, "frame.go:193", #[], none⟩ ?v86 rfl (by kernel_rfl) (by rfl) ?y86 ?_
    case y86 => intro w hSw; (try dsimp only at hSw); go_simp; all_goals with_reducible rfl
    try simp only [apt12]
    refine tkI 1 ⟨some 56, .move (.tmp 8), 30, "frame.go:193", #[], none⟩ ?v87 rfl (by kernel_rfl) (by rfl) ?y87 ?_
    case y87 => intro w hSw; (try dsimp only at hSw); go_simp; all_goals with_reducible rfl
    try simp only [apt12]
    refine tkI 2 ⟨some 57, .indexAddr 30 (.tmp 56) (.const (Go.Value.int .i64 3)), 0, "frame.go:193", #[⟨1, .data⟩], none⟩ ?v88 rfl (by kernel_rfl) (by rfl) ?y88 ?_
    case y88 => intro w hSw; (try dsimp only at hSw); go_simp; all_goals with_reducible rfl
    try simp only [apt12]
    refine tkI 3 ⟨some 58, .load 3 (.tmp 57), 3, "frame.go:193", #[⟨2, .data⟩], none⟩ ?v89 rfl (by kernel_rfl) (by rfl) ?y89 ?_
    case y89 => intro w hSw; (try dsimp only at hSw); go_simp; all_goals with_reducible rfl
    try simp only [apt12]
    refine wpAnyH_ready (rs := [4, 8]) (by kernel_rfl) (by simp) ?_
    refine AllReadyH.cons (i := 4) (o := ⟨some 59, .call { callee := .value (.func 37), args := #[.tmp 55, .tmp 58], argTypes := #[24, 3] }, 34, "frame.go:193", #[⟨0, .data⟩, ⟨3, .data⟩], none⟩) rfl (fun K hK => ?_) (AllReadyH.cons (i := 8) (o := ⟨some 9, .alloc 32, 0, "frame.go:193", #[], none⟩) rfl (fun K hK => ?_) AllReadyH.nil)
    next =>
     go_simp
     go_at_call 37
     refine (pmeth_any12 h v3 _ c _ (HS.out.below (then_w HB.out BB0.out)) HM.out).mono ?_
     rintro e u1 ⟨CA, cc, LA, lc, rfl, hins, -, hb, hfr, -⟩
     have HFX : Hid (∀ k o s, CA = some ⟨k, o, s⟩ → w3.heap.size ≤ k) := fun k o s e => Nat.le_trans BB0.out.size (hfr k o s e)
     rw [← HM3.out] at hins
     rw [← HM3.out, ← HE3.out]
     have BB1 := hid (then_w BB0.out hb)
     have IC1 := hid hins
     refine hK.out _ _ ?_ (fun hH1 => ?_)
     next =>
      exact ⟨cell_later BB1.out x0, cell_later BB1.out x1, cell_later BB1.out x2, cell_later BB1.out q3⟩
     clear hK K
     try simp only [apt12]
     clear hb hins hfr
     refine tkI 5 ⟨some 54, .move (.tmp 59), 34, "frame.go:193", #[⟨4, .data⟩], none⟩ ?v90 rfl (by kernel_rfl) (by rfl) ?y90 ?_
     case y90 => intro w hSw; (try dsimp only at hSw); go_simp; all_goals with_reducible rfl
     try simp only [apt12]
     refine tkI 6 ⟨some 60, .extract (.tmp 54) 0, 32, "frame.go:193", #[⟨5, .data⟩], none⟩ ?v91 rfl (by kernel_rfl) (by rfl) ?y91 ?_
     case y91 => intro w hSw; (try dsimp only at hSw); go_simp; all_goals with_reducible rfl
     try simp only [apt12]
     refine tkI 7 ⟨some 61, .extract (.tmp 54) 1, 33, "frame.go:193", #[⟨5, .data⟩, ⟨9, .gcOnly .lateStores⟩], none⟩ ?v92 rfl (by kernel_rfl) (by rfl) ?y92 ?_
     case y92 => intro w hSw; (try dsimp only at hSw); go_simp; all_goals with_reducible rfl
     try simp only [apt12]
     refine wpAnyH_ready (rs := [8]) (by kernel_rfl) (by simp) ?_
     refine AllReadyH.cons (i := 8) (o := ⟨some 9, .alloc 32, 0, "frame.go:193", #[], none⟩) rfl (fun K hK => ?_) AllReadyH.nil
     go_simp
     obtain ⟨u2, hu⟩ : ∃ x, x = u1.alloc (.cells #[.int .i64 0, .int .i64 0, .int .i64 0, .slice none 0 0, .slice none 0 0] 32) := ⟨_, rfl⟩
     obtain ⟨bx, hg⟩ : ∃ x, x = u1.heap.size := ⟨_, rfl⟩
     have hb : Below u1.heap.size u1 u2 := by rw [hu]; exact below_alloc u1 _
     have HX9 : Hid (w3.heap.size ≤ bx) := by show _ ≤ _; rw [hg]; exact BB1.out.size
     have LB2 := hid (show Lies u2 bx 32 #[.int .i64 0, .int .i64 0, .int .i64 0, .slice none 0 0, .slice none 0 0] by rw [hu, hg]; exact Lies.new u1 _ _)
     have BB2 := hid (then_w BB1.out hb)
     have HNE : Hid (0 < M3.code.length → ∀ k o s, CA = some ⟨k, o, s⟩ → k ≠ bx) := fun hn k o s e => by
       obtain ⟨b9, o9, e9, hl9, -⟩ := IC1.out hn
       rw [e9] at e
       injection e with e
       injection e with e
       omega
     have IC2 := hid (IC1.out.below hb)
     try simp only [← hg]
     try rw [← hu]
     refine hK.out _ _ ?_ (fun hH2 => ?_)
     next =>
      exact ⟨cell_later BB2.out x0, cell_later BB2.out x1, cell_later BB2.out x2, cell_later BB2.out q3⟩
     clear hK K
     try simp only [apt12]
     clear hb hu hg
     refine wpAnyH_ready (rs := [9]) (by kernel_rfl) (by simp) ?_
     refine AllReadyH.cons (i := 9) (o := ⟨none, .store 32 (.tmp 9) (.tmp 60), 0, "frame.go:193", #[⟨8, .data⟩, ⟨6, .data⟩, ⟨4, .chain⟩, ⟨0, .phase⟩, ⟨1, .phase⟩, ⟨2, .phase⟩, ⟨3, .phase⟩, ⟨4, .phase⟩, ⟨5, .phase⟩, ⟨6, .phase⟩, ⟨7, .textOnly .lateStores⟩, ⟨8, .phase⟩], none⟩) rfl (fun K hK => ?_) AllReadyH.nil
     obtain ⟨r0, r1, r2, r3, r4⟩ := LB2.out.c5
     obtain ⟨f0, f1, f2, f3, f4⟩ := LB2.out.f5
     have BB3 := hid (below_five12 BB2.out HX9.out (.int .i64 M3.prim) (.int .i64 M3.args) (.int .i64 M3.temps) (.slice CA M3.code.length cc) (.slice LA M3.lits.length lc))
     have LF : Hid (Lies (((((u2.setCell ⟨bx, 0, none⟩ (.int .i64 M3.prim)).setCell ⟨bx, 1, none⟩ (.int .i64 M3.args)).setCell ⟨bx, 2, none⟩ (.int .i64 M3.temps)).setCell ⟨bx, 3, none⟩ (.slice CA M3.code.length cc)).setCell ⟨bx, 4, none⟩ (.slice LA M3.lits.length lc)) bx 32 #[.int .i64 M3.prim, .int .i64 M3.args, .int .i64 M3.temps, .slice CA M3.code.length cc, .slice LA M3.lits.length lc]) := by
       show Lies _ _ _ _
       exact (((((LB2.out.set_ 0 (.int .i64 M3.prim)).set_ 1 (.int .i64 M3.args)).set_ 2 (.int .i64 M3.temps)).set_ 3 (.slice CA M3.code.length cc)).set_ 4 (.slice LA M3.lits.length lc))
     have IF : Hid (InsR (((((u2.setCell ⟨bx, 0, none⟩ (.int .i64 M3.prim)).setCell ⟨bx, 1, none⟩ (.int .i64 M3.args)).setCell ⟨bx, 2, none⟩ (.int .i64 M3.temps)).setCell ⟨bx, 3, none⟩ (.slice CA M3.code.length cc)).setCell ⟨bx, 4, none⟩ (.slice LA M3.lits.length lc)) CA M3.code) := fun hn => ins_five12 IC2.out (HNE.out hn) (.int .i64 M3.prim) (.int .i64 M3.args) (.int .i64 M3.temps) (.slice CA M3.code.length cc) (.slice LA M3.lits.length lc) hn
     go_simp
     refine hK.out _ _ ?_ (fun hH3 => ?_)
     next =>
      exact ⟨cell_later BB3.out x0, cell_later BB3.out x1, cell_later BB3.out x2, cell_later BB3.out q3⟩
     clear hK K
     try simp only [apt12]
     clear r0 r1 r2 r3 r4 f0 f1 f2 f3 f4
     refine tkI 10 ⟨some 10, .assign (.tmp 61), 33, "frame.go:193", #[⟨7, .data⟩, ⟨9, .chain⟩, ⟨0, .phase⟩, ⟨1, .phase⟩, ⟨2, .phase⟩, ⟨3, .phase⟩, ⟨4, .phase⟩, ⟨5, .phase⟩, ⟨6, .phase⟩, ⟨7, .phase⟩, ⟨8, .phase⟩, ⟨9, .phase⟩], none⟩ ?v93 rfl (by kernel_rfl) (by rfl) ?y93 ?_
     case y93 => intro w hSw; (try dsimp only at hSw); go_simp; all_goals with_reducible rfl
     try simp only [apt12]
     refine wpAnyH_done (by kernel_rfl) ?_ _
     go_wp2_with fail
     go_meet
     exact ⟨bx, CA, cc, LA, lc, rfl, rfl, LF, BB3, IF, HFX⟩
    next =>
     go_simp
     obtain ⟨u1, hu⟩ : ∃ x, x = (w3.alloc (.cells #[.int .i64 0, .int .i64 0, .int .i64 0, .slice none 0 0, .slice none 0 0] 32)).drew := ⟨_, rfl⟩
     obtain ⟨bx, hg⟩ : ∃ x, x = w3.heap.size := ⟨_, rfl⟩
     have hb : Below w3.drew.heap.size w3.drew u1 := by rw [hu]; exact below_alloc w3.drew _
     have HX9 : Hid (w3.heap.size ≤ bx) := by show _ ≤ _; rw [hg]; exact BB0.out.size
     have LB1 := hid (show Lies u1 bx 32 #[.int .i64 0, .int .i64 0, .int .i64 0, .slice none 0 0, .slice none 0 0] by rw [hu, hg]; exact Lies.new w3.drew _ _)
     have BB1 := hid (then_w BB0.out hb)
     try simp only [← hg]
     try rw [← hu]
     refine hK.out _ _ ?_ (fun hH1 => ?_)
     next =>
      exact ⟨cell_later BB1.out x0, cell_later BB1.out x1, cell_later BB1.out x2, cell_later BB1.out q3⟩
     clear hK K
     try simp only [apt12]
     clear hb hu hg
     refine wpAnyH_ready (rs := [4]) (by kernel_rfl) (by simp) ?_
     refine AllReadyH.cons (i := 4) (o := ⟨some 59, .call { callee := .value (.func 37), args := #[.tmp 55, .tmp 58], argTypes := #[24, 3] }, 34, "frame.go:193", #[⟨0, .data⟩, ⟨3, .data⟩], none⟩) rfl (fun K hK => ?_) AllReadyH.nil
     go_simp
     go_at_call 37
     refine (pmeth_any12 h v3 _ c _ (HS.out.below (then_w HB.out BB1.out)) HM.out).mono ?_
     rintro e u2 ⟨CA, cc, LA, lc, rfl, hins, -, hb, hfr, -⟩
     have HFX : Hid (∀ k o s, CA = some ⟨k, o, s⟩ → w3.heap.size ≤ k) := fun k o s e => Nat.le_trans BB1.out.size (hfr k o s e)
     rw [← HM3.out] at hins
     rw [← HM3.out, ← HE3.out]
     have BB2 := hid (then_w BB1.out hb)
     have IC2 := hid hins
     have HNE : Hid (0 < M3.code.length → ∀ k o s, CA = some ⟨k, o, s⟩ → k ≠ bx) := fun _ k o s e => by have := hfr k o s e; have := LB1.out.lt; omega
     have LB2 := hid (LB1.out.later hb)
     refine hK.out _ _ ?_ (fun hH2 => ?_)
     next =>
      exact ⟨cell_later BB2.out x0, cell_later BB2.out x1, cell_later BB2.out x2, cell_later BB2.out q3⟩
     clear hK K
     try simp only [apt12]
     clear hb hins hfr
     refine tkI 5 ⟨some 54, .move (.tmp 59), 34, "frame.go:193", #[⟨4, .data⟩], none⟩ ?v94 rfl (by kernel_rfl) (by rfl) ?y94 ?_
     case y94 => intro w hSw; (try dsimp only at hSw); go_simp; all_goals with_reducible rfl
     try simp only [apt12]
     refine tkI 6 ⟨some 60, .extract (.tmp 54) 0, 32, "frame.go:193", #[⟨5, .data⟩], none⟩ ?v95 rfl (by kernel_rfl) (by rfl) ?y95 ?_
     case y95 => intro w hSw; (try dsimp only at hSw); go_simp; all_goals with_reducible rfl
     try simp only [apt12]
     refine tkI 7 ⟨some 61, .extract (.tmp 54) 1, 33, "frame.go:193", #[⟨5, .data⟩, ⟨9, .gcOnly .lateStores⟩], none⟩ ?v96 rfl (by kernel_rfl) (by rfl) ?y96 ?_
     case y96 => intro w hSw; (try dsimp only at hSw); go_simp; all_goals with_reducible rfl
     try simp only [apt12]
     refine wpAnyH_ready (rs := [9]) (by kernel_rfl) (by simp) ?_
     refine AllReadyH.cons (i := 9) (o := ⟨none, .store 32 (.tmp 9) (.tmp 60), 0, "frame.go:193", #[⟨8, .data⟩, ⟨6, .data⟩, ⟨4, .chain⟩, ⟨0, .phase⟩, ⟨1, .phase⟩, ⟨2, .phase⟩, ⟨3, .phase⟩, ⟨4, .phase⟩, ⟨5, .phase⟩, ⟨6, .phase⟩, ⟨7, .textOnly .lateStores⟩, ⟨8, .phase⟩], none⟩) rfl (fun K hK => ?_) AllReadyH.nil
     obtain ⟨r0, r1, r2, r3, r4⟩ := LB2.out.c5
     obtain ⟨f0, f1, f2, f3, f4⟩ := LB2.out.f5
     have BB3 := hid (below_five12 BB2.out HX9.out (.int .i64 M3.prim) (.int .i64 M3.args) (.int .i64 M3.temps) (.slice CA M3.code.length cc) (.slice LA M3.lits.length lc))
     have LF : Hid (Lies (((((u2.setCell ⟨bx, 0, none⟩ (.int .i64 M3.prim)).setCell ⟨bx, 1, none⟩ (.int .i64 M3.args)).setCell ⟨bx, 2, none⟩ (.int .i64 M3.temps)).setCell ⟨bx, 3, none⟩ (.slice CA M3.code.length cc)).setCell ⟨bx, 4, none⟩ (.slice LA M3.lits.length lc)) bx 32 #[.int .i64 M3.prim, .int .i64 M3.args, .int .i64 M3.temps, .slice CA M3.code.length cc, .slice LA M3.lits.length lc]) := by
       show Lies _ _ _ _
       exact (((((LB2.out.set_ 0 (.int .i64 M3.prim)).set_ 1 (.int .i64 M3.args)).set_ 2 (.int .i64 M3.temps)).set_ 3 (.slice CA M3.code.length cc)).set_ 4 (.slice LA M3.lits.length lc))
     have IF : Hid (InsR (((((u2.setCell ⟨bx, 0, none⟩ (.int .i64 M3.prim)).setCell ⟨bx, 1, none⟩ (.int .i64 M3.args)).setCell ⟨bx, 2, none⟩ (.int .i64 M3.temps)).setCell ⟨bx, 3, none⟩ (.slice CA M3.code.length cc)).setCell ⟨bx, 4, none⟩ (.slice LA M3.lits.length lc)) CA M3.code) := fun hn => ins_five12 IC2.out (HNE.out hn) (.int .i64 M3.prim) (.int .i64 M3.args) (.int .i64 M3.temps) (.slice CA M3.code.length cc) (.slice LA M3.lits.length lc) hn
     go_simp
     refine hK.out _ _ ?_ (fun hH3 => ?_)
     next =>
      exact ⟨cell_later BB3.out x0, cell_later BB3.out x1, cell_later BB3.out x2, cell_later BB3.out q3⟩
     clear hK K
     try simp only [apt12]
     clear r0 r1 r2 r3 r4 f0 f1 f2 f3 f4
     refine tkI 10 ⟨some 10, .assign (.tmp 61), 33, "frame.go:193", #[⟨7, .data⟩, ⟨9, .chain⟩, ⟨0, .phase⟩, ⟨1, .phase⟩, ⟨2, .phase⟩, ⟨3, .phase⟩, ⟨4, .phase⟩, ⟨5, .phase⟩, ⟨6, .phase⟩, ⟨7, .phase⟩, ⟨8, .phase⟩, ⟨9, .phase⟩], none⟩ ?v97 rfl (by kernel_rfl) (by rfl) ?y97 ?_
     case y97 => intro w hSw; (try dsimp only at hSw); go_simp; all_goals with_reducible rfl
     try simp only [apt12]
     refine wpAnyH_done (by kernel_rfl) ?_ _
     go_wp2_with fail
     go_meet
     exact ⟨bx, CA, cc, LA, lc, rfl, rfl, LF, BB3, IF, HFX⟩
  case rest =>
    rename World => w4
    obtain ⟨bx, CA, cc, LA, lc, rfl, rfl, LF, BF, IF, HFX⟩ := hcut
    have HLT3 : Hid (w.heap.size + 1 < w3.heap.size) := HK3.out.lt
    have HB4 := hid (then_w HB3.out BF.out)
    have HX4 := hid (HX3.out.below BF.out HX3.out.lt)
    have HK4 := hid (HK3.out.below BF.out HK3.out.lt)
    clear x0 x1 x2 q3 y2 BF HX3 HK3 HB3 HB
    have q0 := (HB4.out.cell (p := ⟨bl, ol + 0, none⟩) (World.block_lt_of_cell? _ _ Q0.out)).trans Q0.out
    have q5 := (HB4.out.cell (p := ⟨bl, ol + 5, none⟩) (World.block_lt_of_cell? _ _ Q5.out)).trans Q5.out
    rw [Nat.add_zero] at q0
    obtain ⟨x0, x1, x2⟩ := HX4.out.c3
    obtain ⟨r0, hr0⟩ : ∃ r, r = refB h.objs.length v0 := ⟨_, rfl⟩
    obtain ⟨r5, hr5⟩ : ∃ r, r = refB h.objs.length v5 := ⟨_, rfl⟩
    have R0 := hid hr0
    have R5 := hid hr5
    clear hr0 hr5
    by_cases he : e3 = 0
    case neg =>
      have heB : (e3 != 0) = true := bne_iff_ne.2 he
      have HNM : Hid ((mt12 h (sl12 h cx 3)).2 ≠ 0) := by show _ ≠ _; rw [← V3.out, ← HE3.out]; exact he
      go_upto_region 8 with fail
      refine wp_region_held_drew (S := (fun w' => w'.cell? ⟨w.heap.size, 0, none⟩ = some (.slice (some ⟨b, off, none⟩) h.objs.length c) ∧ w'.cell? ⟨w.heap.size, 1, none⟩ = some (.int .i64 h.cap) ∧ w'.cell? ⟨w.heap.size, 2, none⟩ = some (.int .i64 h.last) ∧ w'.cell? ⟨bl, ol, none⟩ = some (.int .i64 v0) ∧ w'.cell? ⟨bl, ol + 5, none⟩ = some (.int .i64 v5) ∧ Below w4.heap.size w4 w')) (by kernel_rfl) ?_ (fun hH0 => ?_)
      next =>
       exact ⟨cell_later (Below.refl w4.heap.size w4).drew x0, cell_later (Below.refl w4.heap.size w4).drew x1, cell_later (Below.refl w4.heap.size w4).drew x2, cell_later (Below.refl w4.heap.size w4).drew q0, cell_later (Below.refl w4.heap.size w4).drew q5, (Below.refl _ _).drew⟩
      refine tkI 0 ⟨some 62, .move (.tmp 10), 33, "frame.go:194", #[], none⟩ ?v98 rfl (by kernel_rfl) (by rfl) ?y98 ?_
      case y98 => intro w hSw; (try dsimp only at hSw); go_simp; all_goals with_reducible rfl
      try simp only [apt12]
      refine tkI 1 ⟨some 63, .binOp .neq 33 (.tmp 62) (.const (Go.Value.int .i64 0)) 33, 4, "frame.go:194", #[⟨0, .data⟩], none⟩ ?v99 rfl (by kernel_rfl) (by rfl) ?y99 ?_
      case y99 => intro w hSw; (try dsimp only at hSw); go_simp; all_goals with_reducible rfl
      try simp only [apt12]
      refine tkI 2 ⟨some 64, .move (.tmp 63), 4, "frame.go:194", #[⟨1, .data⟩], none⟩ ?v100 rfl (by kernel_rfl) (by rfl) ?y100 ?_
      case y100 => intro w hSw; (try dsimp only at hSw); go_simp; all_goals with_reducible rfl
      try simp only [apt12]
      refine tkO 3 ⟨some 65, .load 24 (.tmp 2), 24, "frame.go:194", #[⟨2, .guard⟩], some (2, false)⟩ rfl (by kernel_rfl) (by rfl) ?_
      try simp only [apt12]
      refine tkO 4 ⟨some 66, .move (.tmp 8), 30, "frame.go:194", #[⟨2, .guard⟩], some (2, false)⟩ rfl (by kernel_rfl) (by rfl) ?_
      try simp only [apt12]
      refine tkO 5 ⟨some 67, .indexAddr 30 (.tmp 66) (.const (Go.Value.int .i64 0)), 0, "frame.go:194", #[⟨4, .data⟩, ⟨2, .guard⟩], some (2, false)⟩ rfl (by kernel_rfl) (by rfl) ?_
      try simp only [apt12]
      refine tkO 6 ⟨some 68, .load 3 (.tmp 67), 3, "frame.go:194", #[⟨5, .data⟩, ⟨2, .guard⟩], some (2, false)⟩ rfl (by kernel_rfl) (by rfl) ?_
      try simp only [apt12]
      refine tkO 7 ⟨some 69, .call { callee := .value (.func 56), args := #[.tmp 65, .tmp 68], argTypes := #[24, 3] }, 4, "frame.go:194", #[⟨3, .data⟩, ⟨6, .data⟩, ⟨2, .chain⟩, ⟨2, .guard⟩], some (2, false)⟩ rfl (by kernel_rfl) (by rfl) ?_
      try simp only [apt12]
      refine tkO 8 ⟨some 70, .unOp .not 4 (.tmp 69), 4, "frame.go:194", #[⟨7, .data⟩, ⟨2, .guard⟩], some (2, false)⟩ rfl (by kernel_rfl) (by rfl) ?_
      try simp only [apt12]
      refine tkI 9 ⟨some 71, .pick (.tmp 64) (.const (Go.Value.bool true)) (.tmp 70), 4, "frame.go:194", #[⟨2, .data⟩, ⟨8, .data⟩], none⟩ ?v107 rfl (by kernel_rfl) (by rfl) ?y107 ?_
      case y107 => intro w hSw; (try dsimp only at hSw); go_simp; all_goals with_reducible rfl
      try simp only [apt12]
      refine tkI 10 ⟨some 72, .move (.tmp 71), 4, "frame.go:194", #[⟨9, .data⟩, ⟨7, .chain⟩], none⟩ ?v108 rfl (by kernel_rfl) (by rfl) ?y108 ?_
      case y108 => intro w hSw; (try dsimp only at hSw); go_simp; all_goals with_reducible rfl
      try simp only [apt12]
      refine tkO 11 ⟨some 73, .load 24 (.tmp 2), 24, "frame.go:194", #[⟨10, .guard⟩], some (10, false)⟩ rfl (by kernel_rfl) (by rfl) ?_
      try simp only [apt12]
      refine tkO 12 ⟨some 74, .move (.tmp 8), 30, "frame.go:194", #[⟨10, .guard⟩], some (10, false)⟩ rfl (by kernel_rfl) (by rfl) ?_
      try simp only [apt12]
      refine tkO 13 ⟨some 75, .indexAddr 30 (.tmp 74) (.const (Go.Value.int .i64 5)), 0, "frame.go:194", #[⟨12, .data⟩, ⟨10, .guard⟩], some (10, false)⟩ rfl (by kernel_rfl) (by rfl) ?_
      try simp only [apt12]
      refine tkO 14 ⟨some 76, .load 3 (.tmp 75), 3, "frame.go:194", #[⟨13, .data⟩, ⟨10, .guard⟩], some (10, false)⟩ rfl (by kernel_rfl) (by rfl) ?_
      try simp only [apt12]
      refine tkO 15 ⟨some 77, .call { callee := .value (.func 56), args := #[.tmp 73, .tmp 76], argTypes := #[24, 3] }, 4, "frame.go:194", #[⟨11, .data⟩, ⟨14, .data⟩, ⟨10, .chain⟩, ⟨10, .guard⟩], some (10, false)⟩ rfl (by kernel_rfl) (by rfl) ?_
      try simp only [apt12]
      refine tkO 16 ⟨some 78, .unOp .not 4 (.tmp 77), 4, "frame.go:194", #[⟨15, .data⟩, ⟨10, .guard⟩], some (10, false)⟩ rfl (by kernel_rfl) (by rfl) ?_
      try simp only [apt12]
      refine tkI 17 ⟨some 79, .pick (.tmp 72) (.const (Go.Value.bool true)) (.tmp 78), 4, "frame.go:194", #[⟨10, .data⟩, ⟨16, .data⟩], none⟩ ?v115 rfl (by kernel_rfl) (by rfl) ?y115 ?_
      case y115 => intro w hSw; (try dsimp only at hSw); go_simp; all_goals with_reducible rfl
      try simp only [apt12]
      refine wpAnyH_done (by kernel_rfl) ?_ _
      have HBX := hid ((Below.refl w4.heap.size w4).drew)
      obtain ⟨w5, hw5⟩ : ∃ x, x = w4.drew := ⟨_, rfl⟩
      have HB5 : Hid (Below w.heap.size w w5) := by show Below w.heap.size w w5; rw [hw5]; exact then_w HB4.out HBX.out
      have HK5 : Hid (Lies w5 (w.heap.size + 1) 69 #[.int .i64 0, .int .i64 0, .int .i64 0, .slice none 0 0, .slice none 0 0, .int .i64 0, .int .i64 0, .int .i64 0, .slice none 0 0]) := by show Lies w5 (w.heap.size + 1) 69 #[.int .i64 0, .int .i64 0, .int .i64 0, .slice none 0 0, .slice none 0 0, .int .i64 0, .int .i64 0, .int .i64 0, .slice none 0 0]; rw [hw5]; exact HK4.out.below HBX.out HK4.out.lt
      have LF5 : Hid (Lies w5 bx 32 #[.int .i64 M3.prim, .int .i64 M3.args, .int .i64 M3.temps, .slice CA M3.code.length cc, .slice LA M3.lits.length lc]) := by show Lies w5 bx 32 #[.int .i64 M3.prim, .int .i64 M3.args, .int .i64 M3.temps, .slice CA M3.code.length cc, .slice LA M3.lits.length lc]; rw [hw5]; exact LF.out.below HBX.out LF.out.lt
      have IF5 : Hid (InsR w5 CA M3.code) := by show InsR w5 CA M3.code; rw [hw5]; exact IF.out.below HBX.out
      rw [← hw5]
      clear hw5
      have HRR : Hid (may12 h cx = false) := rd_meth12 HNM.out
      obtain ⟨u0, u1, u2, u3, u4, u5, u6, u7, u8⟩ := HK5.out.c9
      obtain ⟨uf0, uf1, uf2, uf3, uf4, uf5, uf6, uf7, uf8⟩ := HK5.out.f9
      go_wp2_with fail
      have K0 := (((((((((HK5.out.set_ 0 (.int .i64 0)).set_ 1 (.int .i64 0)).set_ 2 (.int .i64 0)).set_ 3 (.slice none 0 0)).set_ 4 (.slice none 0 0)).set_ 5 (.int .i64 0)).set_ 6 (.int .i64 0)).set_ 7 (.int .i64 0)).set_ 8 (.slice none 0 0))
      have r0 := K0.cell 0
      have r1 := K0.cell 1
      have r2 := K0.cell 2
      have r3 := K0.cell 3
      have r4 := K0.cell 4
      have r5 := K0.cell 5
      have r6 := K0.cell 6
      have r7 := K0.cell 7
      have r8 := K0.cell 8
      simp only [List.setIfInBounds_toArray, List.set_cons_zero, List.set_cons_succ, List.getElem?_toArray, List.getElem?_cons_zero, List.getElem?_cons_succ] at r0 r1 r2 r3 r4 r5 r6 r7 r8
      refine bodyPost_ret (v := .tuple #[.agg #[.int .i64 0, .int .i64 0, .int .i64 0, .slice none 0 0, .slice none 0 0, .int .i64 0, .int .i64 0, .int .i64 0, .slice none 0 0], .int .i64 120]) (by simp [results, Tryz.results43, go_sem, r0, r1, r2, r3, r4, r5, r6, r7, r8]) rfl ?_
      have HBE := (((((((((HB5.out).setCell (p := ⟨w.heap.size + 1, 0, none⟩) (by simp) (.int .i64 0)).setCell (p := ⟨w.heap.size + 1, 1, none⟩) (by simp) (.int .i64 0)).setCell (p := ⟨w.heap.size + 1, 2, none⟩) (by simp) (.int .i64 0)).setCell (p := ⟨w.heap.size + 1, 3, none⟩) (by simp) (.slice none 0 0)).setCell (p := ⟨w.heap.size + 1, 4, none⟩) (by simp) (.slice none 0 0)).setCell (p := ⟨w.heap.size + 1, 5, none⟩) (by simp) (.int .i64 0)).setCell (p := ⟨w.heap.size + 1, 6, none⟩) (by simp) (.int .i64 0)).setCell (p := ⟨w.heap.size + 1, 7, none⟩) (by simp) (.int .i64 0)).setCell (p := ⟨w.heap.size + 1, 8, none⟩) (by simp) (.slice none 0 0)
      exact ⟨HBE, .inl ⟨HRR.out, rfl⟩⟩
    subst he
    cases r0
    next =>
     go_upto_region 8 with fail
     refine wp_region_held_drew (S := (fun w' => w'.cell? ⟨w.heap.size, 0, none⟩ = some (.slice (some ⟨b, off, none⟩) h.objs.length c) ∧ w'.cell? ⟨w.heap.size, 1, none⟩ = some (.int .i64 h.cap) ∧ w'.cell? ⟨w.heap.size, 2, none⟩ = some (.int .i64 h.last) ∧ w'.cell? ⟨bl, ol, none⟩ = some (.int .i64 v0) ∧ w'.cell? ⟨bl, ol + 5, none⟩ = some (.int .i64 v5) ∧ Below w4.heap.size w4 w')) (by kernel_rfl) ?_ (fun hH0 => ?_)
     next =>
      exact ⟨cell_later (Below.refl w4.heap.size w4).drew x0, cell_later (Below.refl w4.heap.size w4).drew x1, cell_later (Below.refl w4.heap.size w4).drew x2, cell_later (Below.refl w4.heap.size w4).drew q0, cell_later (Below.refl w4.heap.size w4).drew q5, (Below.refl _ _).drew⟩
     refine tkI 0 ⟨some 62, .move (.tmp 10), 33, "frame.go:194", #[], none⟩ ?v116 rfl (by kernel_rfl) (by rfl) ?y116 ?_
     case y116 => intro w hSw; (try dsimp only at hSw); go_simp; all_goals with_reducible rfl
     try simp only [apt12]
     refine tkI 1 ⟨some 63, .binOp .neq 33 (.tmp 62) (.const (Go.Value.int .i64 0)) 33, 4, "frame.go:194", #[⟨0, .data⟩], none⟩ ?v117 rfl (by kernel_rfl) (by rfl) ?y117 ?_
     case y117 => intro w hSw; (try dsimp only at hSw); go_simp; all_goals with_reducible rfl
     try simp only [apt12]
     refine tkI 2 ⟨some 64, .move (.tmp 63), 4, "frame.go:194", #[⟨1, .data⟩], none⟩ ?v118 rfl (by kernel_rfl) (by rfl) ?y118 ?_
     case y118 => intro w hSw; (try dsimp only at hSw); go_simp; all_goals with_reducible rfl
     try simp only [apt12]
     refine tkI 3 ⟨some 65, .load 24 (.tmp 2), 24, "frame.go:194", #[⟨2, .guard⟩], some (2, false)⟩ ?v119 rfl (by kernel_rfl) (by rfl) ?y119 ?_
     case y119 => intro w hSw; (try dsimp only at hSw); go_simp; all_goals with_reducible rfl
     try simp only [apt12]
     refine tkI 4 ⟨some 66, .move (.tmp 8), 30, "frame.go:194", #[⟨2, .guard⟩], some (2, false)⟩ ?v120 rfl (by kernel_rfl) (by rfl) ?y120 ?_
     case y120 => intro w hSw; (try dsimp only at hSw); go_simp; all_goals with_reducible rfl
     try simp only [apt12]
     refine tkI 5 ⟨some 67, .indexAddr 30 (.tmp 66) (.const (Go.Value.int .i64 0)), 0, "frame.go:194", #[⟨4, .data⟩, ⟨2, .guard⟩], some (2, false)⟩ ?v121 rfl (by kernel_rfl) (by rfl) ?y121 ?_
     case y121 => intro w hSw; (try dsimp only at hSw); go_simp; all_goals with_reducible rfl
     try simp only [apt12]
     refine tkI 6 ⟨some 68, .load 3 (.tmp 67), 3, "frame.go:194", #[⟨5, .data⟩, ⟨2, .guard⟩], some (2, false)⟩ ?v122 rfl (by kernel_rfl) (by rfl) ?y122 ?_
     case y122 => intro w hSw; (try dsimp only at hSw); go_simp; all_goals with_reducible rfl
     try simp only [apt12]
     refine wpAnyH_ready (rs := [7]) (by kernel_rfl) (by simp) ?_
     refine AllReadyH.cons (i := 7) (o := ⟨some 69, .call { callee := .value (.func 56), args := #[.tmp 65, .tmp 68], argTypes := #[24, 3] }, 4, "frame.go:194", #[⟨3, .data⟩, ⟨6, .data⟩, ⟨2, .chain⟩, ⟨2, .guard⟩], some (2, false)⟩) rfl (fun K hK => ?_) AllReadyH.nil
     go_simp
     go_at_call 56
     refine (pisref_any12 h v0 _ c _).mono ?_
     rintro e u1 ⟨rfl, hb⟩
     rw [← R0.out]
     refine hK.out _ _ ?_ (fun hH1 => ?_)
     next =>
      exact ⟨cell_later hb hH0.1, cell_later hb hH0.2.1, cell_later hb hH0.2.2.1, cell_later hb hH0.2.2.2.1, cell_later hb hH0.2.2.2.2.1, then_w hH0.2.2.2.2.2 hb⟩
     clear hK K
     try simp only [apt12]
     clear hb
     refine tkI 8 ⟨some 70, .unOp .not 4 (.tmp 69), 4, "frame.go:194", #[⟨7, .data⟩, ⟨2, .guard⟩], some (2, false)⟩ ?v123 rfl (by kernel_rfl) (by rfl) ?y123 ?_
     case y123 => intro w hSw; (try dsimp only at hSw); go_simp; all_goals with_reducible rfl
     try simp only [apt12]
     refine tkI 9 ⟨some 71, .pick (.tmp 64) (.const (Go.Value.bool true)) (.tmp 70), 4, "frame.go:194", #[⟨2, .data⟩, ⟨8, .data⟩], none⟩ ?v124 rfl (by kernel_rfl) (by rfl) ?y124 ?_
     case y124 => intro w hSw; (try dsimp only at hSw); go_simp; all_goals with_reducible rfl
     try simp only [apt12]
     refine tkI 10 ⟨some 72, .move (.tmp 71), 4, "frame.go:194", #[⟨9, .data⟩, ⟨7, .chain⟩], none⟩ ?v125 rfl (by kernel_rfl) (by rfl) ?y125 ?_
     case y125 => intro w hSw; (try dsimp only at hSw); go_simp; all_goals with_reducible rfl
     try simp only [apt12]
     refine tkO 11 ⟨some 73, .load 24 (.tmp 2), 24, "frame.go:194", #[⟨10, .guard⟩], some (10, false)⟩ rfl (by kernel_rfl) (by rfl) ?_
     try simp only [apt12]
     refine tkO 12 ⟨some 74, .move (.tmp 8), 30, "frame.go:194", #[⟨10, .guard⟩], some (10, false)⟩ rfl (by kernel_rfl) (by rfl) ?_
     try simp only [apt12]
     refine tkO 13 ⟨some 75, .indexAddr 30 (.tmp 74) (.const (Go.Value.int .i64 5)), 0, "frame.go:194", #[⟨12, .data⟩, ⟨10, .guard⟩], some (10, false)⟩ rfl (by kernel_rfl) (by rfl) ?_
     try simp only [apt12]
     refine tkO 14 ⟨some 76, .load 3 (.tmp 75), 3, "frame.go:194", #[⟨13, .data⟩, ⟨10, .guard⟩], some (10, false)⟩ rfl (by kernel_rfl) (by rfl) ?_
     try simp only [apt12]
     refine tkO 15 ⟨some 77, .call { callee := .value (.func 56), args := #[.tmp 73, .tmp 76], argTypes := #[24, 3] }, 4, "frame.go:194", #[⟨11, .data⟩, ⟨14, .data⟩, ⟨10, .chain⟩, ⟨10, .guard⟩], some (10, false)⟩ rfl (by kernel_rfl) (by rfl) ?_
     try simp only [apt12]
     refine tkO 16 ⟨some 78, .unOp .not 4 (.tmp 77), 4, "frame.go:194", #[⟨15, .data⟩, ⟨10, .guard⟩], some (10, false)⟩ rfl (by kernel_rfl) (by rfl) ?_
     try simp only [apt12]
     refine tkI 17 ⟨some 79, .pick (.tmp 72) (.const (Go.Value.bool true)) (.tmp 78), 4, "frame.go:194", #[⟨10, .data⟩, ⟨16, .data⟩], none⟩ ?v132 rfl (by kernel_rfl) (by rfl) ?y132 ?_
     case y132 => intro w hSw; (try dsimp only at hSw); go_simp; all_goals with_reducible rfl
     try simp only [apt12]
     refine wpAnyH_done (by kernel_rfl) ?_ _
     have HBX := hid (hH1.2.2.2.2.2)
     obtain ⟨w5, hw5⟩ : ∃ x, x = u1 := ⟨_, rfl⟩
     have HB5 : Hid (Below w.heap.size w w5) := by show Below w.heap.size w w5; rw [hw5]; exact then_w HB4.out HBX.out
     have HK5 : Hid (Lies w5 (w.heap.size + 1) 69 #[.int .i64 0, .int .i64 0, .int .i64 0, .slice none 0 0, .slice none 0 0, .int .i64 0, .int .i64 0, .int .i64 0, .slice none 0 0]) := by show Lies w5 (w.heap.size + 1) 69 #[.int .i64 0, .int .i64 0, .int .i64 0, .slice none 0 0, .slice none 0 0, .int .i64 0, .int .i64 0, .int .i64 0, .slice none 0 0]; rw [hw5]; exact HK4.out.below HBX.out HK4.out.lt
     have LF5 : Hid (Lies w5 bx 32 #[.int .i64 M3.prim, .int .i64 M3.args, .int .i64 M3.temps, .slice CA M3.code.length cc, .slice LA M3.lits.length lc]) := by show Lies w5 bx 32 #[.int .i64 M3.prim, .int .i64 M3.args, .int .i64 M3.temps, .slice CA M3.code.length cc, .slice LA M3.lits.length lc]; rw [hw5]; exact LF.out.below HBX.out LF.out.lt
     have IF5 : Hid (InsR w5 CA M3.code) := by show InsR w5 CA M3.code; rw [hw5]; exact IF.out.below HBX.out
     rw [← hw5]
     clear hw5
     have HRR : Hid (may12 h cx = false) := rd_send12 (by rw [← V0.out]; exact R0.out.symm)
     obtain ⟨u0, u1, u2, u3, u4, u5, u6, u7, u8⟩ := HK5.out.c9
     obtain ⟨uf0, uf1, uf2, uf3, uf4, uf5, uf6, uf7, uf8⟩ := HK5.out.f9
     go_wp2_with fail
     have K0 := (((((((((HK5.out.set_ 0 (.int .i64 0)).set_ 1 (.int .i64 0)).set_ 2 (.int .i64 0)).set_ 3 (.slice none 0 0)).set_ 4 (.slice none 0 0)).set_ 5 (.int .i64 0)).set_ 6 (.int .i64 0)).set_ 7 (.int .i64 0)).set_ 8 (.slice none 0 0))
     have r0 := K0.cell 0
     have r1 := K0.cell 1
     have r2 := K0.cell 2
     have r3 := K0.cell 3
     have r4 := K0.cell 4
     have r5 := K0.cell 5
     have r6 := K0.cell 6
     have r7 := K0.cell 7
     have r8 := K0.cell 8
     simp only [List.setIfInBounds_toArray, List.set_cons_zero, List.set_cons_succ, List.getElem?_toArray, List.getElem?_cons_zero, List.getElem?_cons_succ] at r0 r1 r2 r3 r4 r5 r6 r7 r8
     refine bodyPost_ret (v := .tuple #[.agg #[.int .i64 0, .int .i64 0, .int .i64 0, .slice none 0 0, .slice none 0 0, .int .i64 0, .int .i64 0, .int .i64 0, .slice none 0 0], .int .i64 120]) (by simp [results, Tryz.results43, go_sem, r0, r1, r2, r3, r4, r5, r6, r7, r8]) rfl ?_
     have HBE := (((((((((HB5.out).setCell (p := ⟨w.heap.size + 1, 0, none⟩) (by simp) (.int .i64 0)).setCell (p := ⟨w.heap.size + 1, 1, none⟩) (by simp) (.int .i64 0)).setCell (p := ⟨w.heap.size + 1, 2, none⟩) (by simp) (.int .i64 0)).setCell (p := ⟨w.heap.size + 1, 3, none⟩) (by simp) (.slice none 0 0)).setCell (p := ⟨w.heap.size + 1, 4, none⟩) (by simp) (.slice none 0 0)).setCell (p := ⟨w.heap.size + 1, 5, none⟩) (by simp) (.int .i64 0)).setCell (p := ⟨w.heap.size + 1, 6, none⟩) (by simp) (.int .i64 0)).setCell (p := ⟨w.heap.size + 1, 7, none⟩) (by simp) (.int .i64 0)).setCell (p := ⟨w.heap.size + 1, 8, none⟩) (by simp) (.slice none 0 0)
     exact ⟨HBE, .inl ⟨HRR.out, rfl⟩⟩
    cases r5
    next =>
     go_upto_region 8 with fail
     refine wp_region_held_drew (S := (fun w' => w'.cell? ⟨w.heap.size, 0, none⟩ = some (.slice (some ⟨b, off, none⟩) h.objs.length c) ∧ w'.cell? ⟨w.heap.size, 1, none⟩ = some (.int .i64 h.cap) ∧ w'.cell? ⟨w.heap.size, 2, none⟩ = some (.int .i64 h.last) ∧ w'.cell? ⟨bl, ol, none⟩ = some (.int .i64 v0) ∧ w'.cell? ⟨bl, ol + 5, none⟩ = some (.int .i64 v5) ∧ Below w4.heap.size w4 w')) (by kernel_rfl) ?_ (fun hH0 => ?_)
     next =>
      exact ⟨cell_later (Below.refl w4.heap.size w4).drew x0, cell_later (Below.refl w4.heap.size w4).drew x1, cell_later (Below.refl w4.heap.size w4).drew x2, cell_later (Below.refl w4.heap.size w4).drew q0, cell_later (Below.refl w4.heap.size w4).drew q5, (Below.refl _ _).drew⟩
     refine tkI 0 ⟨some 62, .move (.tmp 10), 33, "frame.go:194", #[], none⟩ ?v133 rfl (by kernel_rfl) (by rfl) ?y133 ?_
     case y133 => intro w hSw; (try dsimp only at hSw); go_simp; all_goals with_reducible rfl
     try simp only [apt12]
     refine tkI 1 ⟨some 63, .binOp .neq 33 (.tmp 62) (.const (Go.Value.int .i64 0)) 33, 4, "frame.go:194", #[⟨0, .data⟩], none⟩ ?v134 rfl (by kernel_rfl) (by rfl) ?y134 ?_
     case y134 => intro w hSw; (try dsimp only at hSw); go_simp; all_goals with_reducible rfl
     try simp only [apt12]
     refine tkI 2 ⟨some 64, .move (.tmp 63), 4, "frame.go:194", #[⟨1, .data⟩], none⟩ ?v135 rfl (by kernel_rfl) (by rfl) ?y135 ?_
     case y135 => intro w hSw; (try dsimp only at hSw); go_simp; all_goals with_reducible rfl
     try simp only [apt12]
     refine tkI 3 ⟨some 65, .load 24 (.tmp 2), 24, "frame.go:194", #[⟨2, .guard⟩], some (2, false)⟩ ?v136 rfl (by kernel_rfl) (by rfl) ?y136 ?_
     case y136 => intro w hSw; (try dsimp only at hSw); go_simp; all_goals with_reducible rfl
     try simp only [apt12]
     refine tkI 4 ⟨some 66, .move (.tmp 8), 30, "frame.go:194", #[⟨2, .guard⟩], some (2, false)⟩ ?v137 rfl (by kernel_rfl) (by rfl) ?y137 ?_
     case y137 => intro w hSw; (try dsimp only at hSw); go_simp; all_goals with_reducible rfl
     try simp only [apt12]
     refine tkI 5 ⟨some 67, .indexAddr 30 (.tmp 66) (.const (Go.Value.int .i64 0)), 0, "frame.go:194", #[⟨4, .data⟩, ⟨2, .guard⟩], some (2, false)⟩ ?v138 rfl (by kernel_rfl) (by rfl) ?y138 ?_
     case y138 => intro w hSw; (try dsimp only at hSw); go_simp; all_goals with_reducible rfl
     try simp only [apt12]
     refine tkI 6 ⟨some 68, .load 3 (.tmp 67), 3, "frame.go:194", #[⟨5, .data⟩, ⟨2, .guard⟩], some (2, false)⟩ ?v139 rfl (by kernel_rfl) (by rfl) ?y139 ?_
     case y139 => intro w hSw; (try dsimp only at hSw); go_simp; all_goals with_reducible rfl
     try simp only [apt12]
     refine wpAnyH_ready (rs := [7]) (by kernel_rfl) (by simp) ?_
     refine AllReadyH.cons (i := 7) (o := ⟨some 69, .call { callee := .value (.func 56), args := #[.tmp 65, .tmp 68], argTypes := #[24, 3] }, 4, "frame.go:194", #[⟨3, .data⟩, ⟨6, .data⟩, ⟨2, .chain⟩, ⟨2, .guard⟩], some (2, false)⟩) rfl (fun K hK => ?_) AllReadyH.nil
     go_simp
     go_at_call 56
     refine (pisref_any12 h v0 _ c _).mono ?_
     rintro e u1 ⟨rfl, hb⟩
     rw [← R0.out]
     refine hK.out _ _ ?_ (fun hH1 => ?_)
     next =>
      exact ⟨cell_later hb hH0.1, cell_later hb hH0.2.1, cell_later hb hH0.2.2.1, cell_later hb hH0.2.2.2.1, cell_later hb hH0.2.2.2.2.1, then_w hH0.2.2.2.2.2 hb⟩
     clear hK K
     try simp only [apt12]
     clear hb
     refine tkI 8 ⟨some 70, .unOp .not 4 (.tmp 69), 4, "frame.go:194", #[⟨7, .data⟩, ⟨2, .guard⟩], some (2, false)⟩ ?v140 rfl (by kernel_rfl) (by rfl) ?y140 ?_
     case y140 => intro w hSw; (try dsimp only at hSw); go_simp; all_goals with_reducible rfl
     try simp only [apt12]
     refine tkI 9 ⟨some 71, .pick (.tmp 64) (.const (Go.Value.bool true)) (.tmp 70), 4, "frame.go:194", #[⟨2, .data⟩, ⟨8, .data⟩], none⟩ ?v141 rfl (by kernel_rfl) (by rfl) ?y141 ?_
     case y141 => intro w hSw; (try dsimp only at hSw); go_simp; all_goals with_reducible rfl
     try simp only [apt12]
     refine tkI 10 ⟨some 72, .move (.tmp 71), 4, "frame.go:194", #[⟨9, .data⟩, ⟨7, .chain⟩], none⟩ ?v142 rfl (by kernel_rfl) (by rfl) ?y142 ?_
     case y142 => intro w hSw; (try dsimp only at hSw); go_simp; all_goals with_reducible rfl
     try simp only [apt12]
     refine tkI 11 ⟨some 73, .load 24 (.tmp 2), 24, "frame.go:194", #[⟨10, .guard⟩], some (10, false)⟩ ?v143 rfl (by kernel_rfl) (by rfl) ?y143 ?_
     case y143 => intro w hSw; (try dsimp only at hSw); go_simp; all_goals with_reducible rfl
     try simp only [apt12]
     refine tkI 12 ⟨some 74, .move (.tmp 8), 30, "frame.go:194", #[⟨10, .guard⟩], some (10, false)⟩ ?v144 rfl (by kernel_rfl) (by rfl) ?y144 ?_
     case y144 => intro w hSw; (try dsimp only at hSw); go_simp; all_goals with_reducible rfl
     try simp only [apt12]
     refine tkI 13 ⟨some 75, .indexAddr 30 (.tmp 74) (.const (Go.Value.int .i64 5)), 0, "frame.go:194", #[⟨12, .data⟩, ⟨10, .guard⟩], some (10, false)⟩ ?v145 rfl (by kernel_rfl) (by rfl) ?y145 ?_
     case y145 => intro w hSw; (try dsimp only at hSw); go_simp; all_goals with_reducible rfl
     try simp only [apt12]
     refine tkI 14 ⟨some 76, .load 3 (.tmp 75), 3, "frame.go:194", #[⟨13, .data⟩, ⟨10, .guard⟩], some (10, false)⟩ ?v146 rfl (by kernel_rfl) (by rfl) ?y146 ?_
     case y146 => intro w hSw; (try dsimp only at hSw); go_simp; all_goals with_reducible rfl
     try simp only [apt12]
     refine wpAnyH_ready (rs := [15]) (by kernel_rfl) (by simp) ?_
     refine AllReadyH.cons (i := 15) (o := ⟨some 77, .call { callee := .value (.func 56), args := #[.tmp 73, .tmp 76], argTypes := #[24, 3] }, 4, "frame.go:194", #[⟨11, .data⟩, ⟨14, .data⟩, ⟨10, .chain⟩, ⟨10, .guard⟩], some (10, false)⟩) rfl (fun K hK => ?_) AllReadyH.nil
     go_simp
     go_at_call 56
     refine (pisref_any12 h v5 _ c _).mono ?_
     rintro e u2 ⟨rfl, hb⟩
     rw [← R5.out]
     refine hK.out _ _ ?_ (fun hH2 => ?_)
     next =>
      exact ⟨cell_later hb hH1.1, cell_later hb hH1.2.1, cell_later hb hH1.2.2.1, cell_later hb hH1.2.2.2.1, cell_later hb hH1.2.2.2.2.1, then_w hH1.2.2.2.2.2 hb⟩
     clear hK K
     try simp only [apt12]
     clear hb
     refine tkI 16 ⟨some 78, .unOp .not 4 (.tmp 77), 4, "frame.go:194", #[⟨15, .data⟩, ⟨10, .guard⟩], some (10, false)⟩ ?v147 rfl (by kernel_rfl) (by rfl) ?y147 ?_
     case y147 => intro w hSw; (try dsimp only at hSw); go_simp; all_goals with_reducible rfl
     try simp only [apt12]
     refine tkI 17 ⟨some 79, .pick (.tmp 72) (.const (Go.Value.bool true)) (.tmp 78), 4, "frame.go:194", #[⟨10, .data⟩, ⟨16, .data⟩], none⟩ ?v148 rfl (by kernel_rfl) (by rfl) ?y148 ?_
     case y148 => intro w hSw; (try dsimp only at hSw); go_simp; all_goals with_reducible rfl
     try simp only [apt12]
     refine wpAnyH_done (by kernel_rfl) ?_ _
     have HBX := hid (hH2.2.2.2.2.2)
     obtain ⟨w5, hw5⟩ : ∃ x, x = u2 := ⟨_, rfl⟩
     have HB5 : Hid (Below w.heap.size w w5) := by show Below w.heap.size w w5; rw [hw5]; exact then_w HB4.out HBX.out
     have HK5 : Hid (Lies w5 (w.heap.size + 1) 69 #[.int .i64 0, .int .i64 0, .int .i64 0, .slice none 0 0, .slice none 0 0, .int .i64 0, .int .i64 0, .int .i64 0, .slice none 0 0]) := by show Lies w5 (w.heap.size + 1) 69 #[.int .i64 0, .int .i64 0, .int .i64 0, .slice none 0 0, .slice none 0 0, .int .i64 0, .int .i64 0, .int .i64 0, .slice none 0 0]; rw [hw5]; exact HK4.out.below HBX.out HK4.out.lt
     have LF5 : Hid (Lies w5 bx 32 #[.int .i64 M3.prim, .int .i64 M3.args, .int .i64 M3.temps, .slice CA M3.code.length cc, .slice LA M3.lits.length lc]) := by show Lies w5 bx 32 #[.int .i64 M3.prim, .int .i64 M3.args, .int .i64 M3.temps, .slice CA M3.code.length cc, .slice LA M3.lits.length lc]; rw [hw5]; exact LF.out.below HBX.out LF.out.lt
     have IF5 : Hid (InsR w5 CA M3.code) := by show InsR w5 CA M3.code; rw [hw5]; exact IF.out.below HBX.out
     rw [← hw5]
     clear hw5
     have HRR : Hid (may12 h cx = false) := rd_home12 (by rw [← V5.out]; exact R5.out.symm)
     obtain ⟨u0, u1, u2, u3, u4, u5, u6, u7, u8⟩ := HK5.out.c9
     obtain ⟨uf0, uf1, uf2, uf3, uf4, uf5, uf6, uf7, uf8⟩ := HK5.out.f9
     go_wp2_with fail
     have K0 := (((((((((HK5.out.set_ 0 (.int .i64 0)).set_ 1 (.int .i64 0)).set_ 2 (.int .i64 0)).set_ 3 (.slice none 0 0)).set_ 4 (.slice none 0 0)).set_ 5 (.int .i64 0)).set_ 6 (.int .i64 0)).set_ 7 (.int .i64 0)).set_ 8 (.slice none 0 0))
     have r0 := K0.cell 0
     have r1 := K0.cell 1
     have r2 := K0.cell 2
     have r3 := K0.cell 3
     have r4 := K0.cell 4
     have r5 := K0.cell 5
     have r6 := K0.cell 6
     have r7 := K0.cell 7
     have r8 := K0.cell 8
     simp only [List.setIfInBounds_toArray, List.set_cons_zero, List.set_cons_succ, List.getElem?_toArray, List.getElem?_cons_zero, List.getElem?_cons_succ] at r0 r1 r2 r3 r4 r5 r6 r7 r8
     refine bodyPost_ret (v := .tuple #[.agg #[.int .i64 0, .int .i64 0, .int .i64 0, .slice none 0 0, .slice none 0 0, .int .i64 0, .int .i64 0, .int .i64 0, .slice none 0 0], .int .i64 120]) (by simp [results, Tryz.results43, go_sem, r0, r1, r2, r3, r4, r5, r6, r7, r8]) rfl ?_
     have HBE := (((((((((HB5.out).setCell (p := ⟨w.heap.size + 1, 0, none⟩) (by simp) (.int .i64 0)).setCell (p := ⟨w.heap.size + 1, 1, none⟩) (by simp) (.int .i64 0)).setCell (p := ⟨w.heap.size + 1, 2, none⟩) (by simp) (.int .i64 0)).setCell (p := ⟨w.heap.size + 1, 3, none⟩) (by simp) (.slice none 0 0)).setCell (p := ⟨w.heap.size + 1, 4, none⟩) (by simp) (.slice none 0 0)).setCell (p := ⟨w.heap.size + 1, 5, none⟩) (by simp) (.int .i64 0)).setCell (p := ⟨w.heap.size + 1, 6, none⟩) (by simp) (.int .i64 0)).setCell (p := ⟨w.heap.size + 1, 7, none⟩) (by simp) (.int .i64 0)).setCell (p := ⟨w.heap.size + 1, 8, none⟩) (by simp) (.slice none 0 0)
     exact ⟨HBE, .inl ⟨HRR.out, rfl⟩⟩
    go_upto_region 8 with fail
    refine wp_region_held_drew (S := (fun w' => w'.cell? ⟨w.heap.size, 0, none⟩ = some (.slice (some ⟨b, off, none⟩) h.objs.length c) ∧ w'.cell? ⟨w.heap.size, 1, none⟩ = some (.int .i64 h.cap) ∧ w'.cell? ⟨w.heap.size, 2, none⟩ = some (.int .i64 h.last) ∧ w'.cell? ⟨bl, ol, none⟩ = some (.int .i64 v0) ∧ w'.cell? ⟨bl, ol + 5, none⟩ = some (.int .i64 v5) ∧ Below w4.heap.size w4 w')) (by kernel_rfl) ?_ (fun hH0 => ?_)
    next =>
     exact ⟨cell_later (Below.refl w4.heap.size w4).drew x0, cell_later (Below.refl w4.heap.size w4).drew x1, cell_later (Below.refl w4.heap.size w4).drew x2, cell_later (Below.refl w4.heap.size w4).drew q0, cell_later (Below.refl w4.heap.size w4).drew q5, (Below.refl _ _).drew⟩
    refine tkI 0 ⟨some 62, .move (.tmp 10), 33, "frame.go:194", #[], none⟩ ?v149 rfl (by kernel_rfl) (by rfl) ?y149 ?_
    case y149 => intro w hSw; (try dsimp only at hSw); go_simp; all_goals with_reducible rfl
    try simp only [apt12]
    refine tkI 1 ⟨some 63, .binOp .neq 33 (.tmp 62) (.const (Go.Value.int .i64 0)) 33, 4, "frame.go:194", #[⟨0, .data⟩], none⟩ ?v150 rfl (by kernel_rfl) (by rfl) ?y150 ?_
    case y150 => intro w hSw; (try dsimp only at hSw); go_simp; all_goals with_reducible rfl
    try simp only [apt12]
    refine tkI 2 ⟨some 64, .move (.tmp 63), 4, "frame.go:194", #[⟨1, .data⟩], none⟩ ?v151 rfl (by kernel_rfl) (by rfl) ?y151 ?_
    case y151 => intro w hSw; (try dsimp only at hSw); go_simp; all_goals with_reducible rfl
    try simp only [apt12]
    refine tkI 3 ⟨some 65, .load 24 (.tmp 2), 24, "frame.go:194", #[⟨2, .guard⟩], some (2, false)⟩ ?v152 rfl (by kernel_rfl) (by rfl) ?y152 ?_
    case y152 => intro w hSw; (try dsimp only at hSw); go_simp; all_goals with_reducible rfl
    try simp only [apt12]
    refine tkI 4 ⟨some 66, .move (.tmp 8), 30, "frame.go:194", #[⟨2, .guard⟩], some (2, false)⟩ ?v153 rfl (by kernel_rfl) (by rfl) ?y153 ?_
    case y153 => intro w hSw; (try dsimp only at hSw); go_simp; all_goals with_reducible rfl
    try simp only [apt12]
    refine tkI 5 ⟨some 67, .indexAddr 30 (.tmp 66) (.const (Go.Value.int .i64 0)), 0, "frame.go:194", #[⟨4, .data⟩, ⟨2, .guard⟩], some (2, false)⟩ ?v154 rfl (by kernel_rfl) (by rfl) ?y154 ?_
    case y154 => intro w hSw; (try dsimp only at hSw); go_simp; all_goals with_reducible rfl
    try simp only [apt12]
    refine tkI 6 ⟨some 68, .load 3 (.tmp 67), 3, "frame.go:194", #[⟨5, .data⟩, ⟨2, .guard⟩], some (2, false)⟩ ?v155 rfl (by kernel_rfl) (by rfl) ?y155 ?_
    case y155 => intro w hSw; (try dsimp only at hSw); go_simp; all_goals with_reducible rfl
    try simp only [apt12]
    refine wpAnyH_ready (rs := [7]) (by kernel_rfl) (by simp) ?_
    refine AllReadyH.cons (i := 7) (o := ⟨some 69, .call { callee := .value (.func 56), args := #[.tmp 65, .tmp 68], argTypes := #[24, 3] }, 4, "frame.go:194", #[⟨3, .data⟩, ⟨6, .data⟩, ⟨2, .chain⟩, ⟨2, .guard⟩], some (2, false)⟩) rfl (fun K hK => ?_) AllReadyH.nil
    go_simp
    go_at_call 56
    refine (pisref_any12 h v0 _ c _).mono ?_
    rintro e u1 ⟨rfl, hb⟩
    rw [← R0.out]
    refine hK.out _ _ ?_ (fun hH1 => ?_)
    next =>
     exact ⟨cell_later hb hH0.1, cell_later hb hH0.2.1, cell_later hb hH0.2.2.1, cell_later hb hH0.2.2.2.1, cell_later hb hH0.2.2.2.2.1, then_w hH0.2.2.2.2.2 hb⟩
    clear hK K
    try simp only [apt12]
    clear hb
    refine tkI 8 ⟨some 70, .unOp .not 4 (.tmp 69), 4, "frame.go:194", #[⟨7, .data⟩, ⟨2, .guard⟩], some (2, false)⟩ ?v156 rfl (by kernel_rfl) (by rfl) ?y156 ?_
    case y156 => intro w hSw; (try dsimp only at hSw); go_simp; all_goals with_reducible rfl
    try simp only [apt12]
    refine tkI 9 ⟨some 71, .pick (.tmp 64) (.const (Go.Value.bool true)) (.tmp 70), 4, "frame.go:194", #[⟨2, .data⟩, ⟨8, .data⟩], none⟩ ?v157 rfl (by kernel_rfl) (by rfl) ?y157 ?_
    case y157 => intro w hSw; (try dsimp only at hSw); go_simp; all_goals with_reducible rfl
    try simp only [apt12]
    refine tkI 10 ⟨some 72, .move (.tmp 71), 4, "frame.go:194", #[⟨9, .data⟩, ⟨7, .chain⟩], none⟩ ?v158 rfl (by kernel_rfl) (by rfl) ?y158 ?_
    case y158 => intro w hSw; (try dsimp only at hSw); go_simp; all_goals with_reducible rfl
    try simp only [apt12]
    refine tkI 11 ⟨some 73, .load 24 (.tmp 2), 24, "frame.go:194", #[⟨10, .guard⟩], some (10, false)⟩ ?v159 rfl (by kernel_rfl) (by rfl) ?y159 ?_
    case y159 => intro w hSw; (try dsimp only at hSw); go_simp; all_goals with_reducible rfl
    try simp only [apt12]
    refine tkI 12 ⟨some 74, .move (.tmp 8), 30, "frame.go:194", #[⟨10, .guard⟩], some (10, false)⟩ ?v160 rfl (by kernel_rfl) (by rfl) ?y160 ?_
    case y160 => intro w hSw; (try dsimp only at hSw); go_simp; all_goals with_reducible rfl
    try simp only [apt12]
    refine tkI 13 ⟨some 75, .indexAddr 30 (.tmp 74) (.const (Go.Value.int .i64 5)), 0, "frame.go:194", #[⟨12, .data⟩, ⟨10, .guard⟩], some (10, false)⟩ ?v161 rfl (by kernel_rfl) (by rfl) ?y161 ?_
    case y161 => intro w hSw; (try dsimp only at hSw); go_simp; all_goals with_reducible rfl
    try simp only [apt12]
    refine tkI 14 ⟨some 76, .load 3 (.tmp 75), 3, "frame.go:194", #[⟨13, .data⟩, ⟨10, .guard⟩], some (10, false)⟩ ?v162 rfl (by kernel_rfl) (by rfl) ?y162 ?_
    case y162 => intro w hSw; (try dsimp only at hSw); go_simp; all_goals with_reducible rfl
    try simp only [apt12]
    refine wpAnyH_ready (rs := [15]) (by kernel_rfl) (by simp) ?_
    refine AllReadyH.cons (i := 15) (o := ⟨some 77, .call { callee := .value (.func 56), args := #[.tmp 73, .tmp 76], argTypes := #[24, 3] }, 4, "frame.go:194", #[⟨11, .data⟩, ⟨14, .data⟩, ⟨10, .chain⟩, ⟨10, .guard⟩], some (10, false)⟩) rfl (fun K hK => ?_) AllReadyH.nil
    go_simp
    go_at_call 56
    refine (pisref_any12 h v5 _ c _).mono ?_
    rintro e u2 ⟨rfl, hb⟩
    rw [← R5.out]
    refine hK.out _ _ ?_ (fun hH2 => ?_)
    next =>
     exact ⟨cell_later hb hH1.1, cell_later hb hH1.2.1, cell_later hb hH1.2.2.1, cell_later hb hH1.2.2.2.1, cell_later hb hH1.2.2.2.2.1, then_w hH1.2.2.2.2.2 hb⟩
    clear hK K
    try simp only [apt12]
    clear hb
    refine tkI 16 ⟨some 78, .unOp .not 4 (.tmp 77), 4, "frame.go:194", #[⟨15, .data⟩, ⟨10, .guard⟩], some (10, false)⟩ ?v163 rfl (by kernel_rfl) (by rfl) ?y163 ?_
    case y163 => intro w hSw; (try dsimp only at hSw); go_simp; all_goals with_reducible rfl
    try simp only [apt12]
    refine tkI 17 ⟨some 79, .pick (.tmp 72) (.const (Go.Value.bool true)) (.tmp 78), 4, "frame.go:194", #[⟨10, .data⟩, ⟨16, .data⟩], none⟩ ?v164 rfl (by kernel_rfl) (by rfl) ?y164 ?_
    case y164 => intro w hSw; (try dsimp only at hSw); go_simp; all_goals with_reducible rfl
    try simp only [apt12]
    refine wpAnyH_done (by kernel_rfl) ?_ _
    have HBX := hid (hH2.2.2.2.2.2)
    obtain ⟨w5, hw5⟩ : ∃ x, x = u2 := ⟨_, rfl⟩
    have HB5 : Hid (Below w.heap.size w w5) := by show Below w.heap.size w w5; rw [hw5]; exact then_w HB4.out HBX.out
    have HK5 : Hid (Lies w5 (w.heap.size + 1) 69 #[.int .i64 0, .int .i64 0, .int .i64 0, .slice none 0 0, .slice none 0 0, .int .i64 0, .int .i64 0, .int .i64 0, .slice none 0 0]) := by show Lies w5 (w.heap.size + 1) 69 #[.int .i64 0, .int .i64 0, .int .i64 0, .slice none 0 0, .slice none 0 0, .int .i64 0, .int .i64 0, .int .i64 0, .slice none 0 0]; rw [hw5]; exact HK4.out.below HBX.out HK4.out.lt
    have LF5 : Hid (Lies w5 bx 32 #[.int .i64 M3.prim, .int .i64 M3.args, .int .i64 M3.temps, .slice CA M3.code.length cc, .slice LA M3.lits.length lc]) := by show Lies w5 bx 32 #[.int .i64 M3.prim, .int .i64 M3.args, .int .i64 M3.temps, .slice CA M3.code.length cc, .slice LA M3.lits.length lc]; rw [hw5]; exact LF.out.below HBX.out LF.out.lt
    have IF5 : Hid (InsR w5 CA M3.code) := by show InsR w5 CA M3.code; rw [hw5]; exact IF.out.below HBX.out
    rw [← hw5]
    clear hw5
    clear x0 x1 x2 q0 q5
    have q1 := (HB5.out.cell (p := ⟨bl, ol + 1, none⟩) (World.block_lt_of_cell? _ _ Q1.out)).trans Q1.out
    have q2 := (HB5.out.cell (p := ⟨bl, ol + 2, none⟩) (World.block_lt_of_cell? _ _ Q2.out)).trans Q2.out
    have m2 := LF5.out.cell 2
    have m3 := LF5.out.cell 3
    simp only [List.getElem?_toArray, List.getElem?_cons_zero, List.getElem?_cons_succ] at m2 m3
    have hlw : IntKind.i64.wrap ((M3.code.length : Int) - 1) = (M3.code.length : Int) - 1 := IntWalk.i64_in _ ⟨by omega, by have := HCL32.out; omega⟩
    obtain ⟨b1, hb1⟩ : ∃ r, r = wi12 v1 0 (M3.code.length - 1) := ⟨_, rfl⟩
    obtain ⟨b2, hb2⟩ : ∃ r, r = wi12 v2 M3.temps 16 := ⟨_, rfl⟩
    obtain ⟨n1, hn1⟩ : ∃ n, n = nV v1 := ⟨_, rfl⟩
    obtain ⟨n2, hn2⟩ : ∃ n, n = nV v2 := ⟨_, rfl⟩
    have B1 := hid hb1
    have B2 := hid hb2
    have N1 := hid hn1
    have N2 := hid hn2
    clear hb1 hb2 hn1 hn2
    go_upto_region 10 with fail
    refine wp_region_held_drew (S := (fun w' => w'.cell? ⟨bl, ol + 1, none⟩ = some (.int .i64 v1) ∧ w'.cell? ⟨bx, 3, none⟩ = some (.slice CA M3.code.length cc))) (by kernel_rfl) ?_ (fun hH0 => ?_)
    next =>
     exact ⟨cell_later (Below.refl w5.heap.size w5).drew q1, cell_later (Below.refl w5.heap.size w5).drew m3⟩
    refine tkI 0 ⟨some 82, .move (.tmp 8), 30, "frame.go:197", #[], none⟩ ?v165 rfl (by kernel_rfl) (by rfl) ?y165 ?_
    case y165 => intro w hSw; (try dsimp only at hSw); go_simp; all_goals with_reducible rfl
    try simp only [apt12]
    refine tkI 1 ⟨some 83, .indexAddr 30 (.tmp 82) (.const (Go.Value.int .i64 1)), 0, "frame.go:197", #[⟨0, .data⟩], none⟩ ?v166 rfl (by kernel_rfl) (by rfl) ?y166 ?_
    case y166 => intro w hSw; (try dsimp only at hSw); go_simp; all_goals with_reducible rfl
    try simp only [apt12]
    refine tkI 2 ⟨some 84, .load 3 (.tmp 83), 3, "frame.go:197", #[⟨1, .data⟩], none⟩ ?v167 rfl (by kernel_rfl) (by rfl) ?y167 ?_
    case y167 => intro w hSw; (try dsimp only at hSw); go_simp; all_goals with_reducible rfl
    try simp only [apt12]
    refine tkI 3 ⟨some 85, .fieldAddr 32 (.tmp 9) 3, 0, "frame.go:197", #[], none⟩ ?v168 rfl (by kernel_rfl) (by rfl) ?y168 ?_
    case y168 => intro w hSw; (try dsimp only at hSw); go_simp; all_goals with_reducible rfl
    try simp only [apt12]
    refine tkI 4 ⟨some 86, .load 29 (.tmp 85), 29, "frame.go:197", #[⟨3, .data⟩], none⟩ ?v169 rfl (by kernel_rfl) (by rfl) ?y169 ?_
    case y169 => intro w hSw; (try dsimp only at hSw); go_simp; all_goals with_reducible rfl
    try simp only [apt12]
    refine tkI 5 ⟨some 87, .call { callee := .builtin .len, args := #[.tmp 86], argTypes := #[29] }, 3, "frame.go:197", #[⟨4, .data⟩], none⟩ ?v170 rfl (by kernel_rfl) (by rfl) ?y170 ?_
    case y170 => intro w hSw; (try dsimp only at hSw); go_simp; all_goals with_reducible rfl
    try simp only [apt12]
    refine tkI 6 ⟨some 88, .binOp .sub 3 (.tmp 87) (.const (Go.Value.int .i64 1)) 3, 3, "frame.go:197", #[⟨5, .data⟩], none⟩ ?v171 rfl (by kernel_rfl) (by rfl) ?y171 ?_
    case y171 => intro w hSw; (try dsimp only at hSw); go_simp; all_goals with_reducible rfl
    try simp only [apt12]
    refine wpAnyH_ready (rs := [7]) (by kernel_rfl) (by simp) ?_
    refine AllReadyH.cons (i := 7) (o := ⟨some 89, .call { callee := .value (.func 73), args := #[.tmp 84, .const (Go.Value.int .i64 0), .tmp 88], argTypes := #[3, 3, 3] }, 87, "frame.go:197", #[⟨2, .data⟩, ⟨6, .data⟩], none⟩) rfl (fun K hK => ?_) AllReadyH.nil
    go_simp
    go_at_call 73
    refine (pwithin_any12 v1 0 (M3.code.length - 1) _).mono ?_
    rintro e wr ⟨rfl, hwr⟩
    subst hwr
    rw [← B1.out, ← N1.out]
    refine hK.out _ _ ?_ (fun hH1 => ?_)
    next =>
     exact hH0
    clear hK K
    try simp only [apt12]
    refine tkI 8 ⟨some 81, .move (.tmp 89), 87, "frame.go:197", #[⟨7, .data⟩], none⟩ ?v172 rfl (by kernel_rfl) (by rfl) ?y172 ?_
    case y172 => intro w hSw; (try dsimp only at hSw); go_simp; all_goals with_reducible rfl
    try simp only [apt12]
    refine tkI 9 ⟨some 90, .extract (.tmp 81) 0, 3, "frame.go:197", #[⟨8, .data⟩], none⟩ ?v173 rfl (by kernel_rfl) (by rfl) ?y173 ?_
    case y173 => intro w hSw; (try dsimp only at hSw); go_simp; all_goals with_reducible rfl
    try simp only [apt12]
    refine tkI 10 ⟨some 91, .extract (.tmp 81) 1, 4, "frame.go:197", #[⟨8, .data⟩, ⟨11, .gcOnly .lateStores⟩], none⟩ ?v174 rfl (by kernel_rfl) (by rfl) ?y174 ?_
    case y174 => intro w hSw; (try dsimp only at hSw); go_simp; all_goals with_reducible rfl
    try simp only [apt12]
    refine tkI 11 ⟨some 11, .assign (.tmp 90), 3, "frame.go:197", #[⟨9, .data⟩, ⟨7, .chain⟩, ⟨0, .phase⟩, ⟨1, .phase⟩, ⟨2, .phase⟩, ⟨3, .phase⟩, ⟨4, .phase⟩, ⟨5, .phase⟩, ⟨6, .phase⟩, ⟨7, .phase⟩, ⟨8, .phase⟩, ⟨9, .phase⟩, ⟨10, .textOnly .lateStores⟩], none⟩ ?v175 rfl (by kernel_rfl) (by rfl) ?y175 ?_
    case y175 => intro w hSw; (try dsimp only at hSw); go_simp; all_goals with_reducible rfl
    try simp only [apt12]
    refine tkI 12 ⟨some 12, .assign (.tmp 91), 4, "frame.go:197", #[⟨10, .data⟩, ⟨11, .chain⟩, ⟨0, .phase⟩, ⟨1, .phase⟩, ⟨2, .phase⟩, ⟨3, .phase⟩, ⟨4, .phase⟩, ⟨5, .phase⟩, ⟨6, .phase⟩, ⟨7, .phase⟩, ⟨8, .phase⟩, ⟨9, .phase⟩, ⟨10, .phase⟩, ⟨11, .phase⟩], none⟩ ?v176 rfl (by kernel_rfl) (by rfl) ?y176 ?_
    case y176 => intro w hSw; (try dsimp only at hSw); go_simp; all_goals with_reducible rfl
    try simp only [apt12]
    refine wpAnyH_done (by kernel_rfl) ?_ _
    go_upto_region 11 with fail
    refine wp_region_held_drew (S := (fun w' => w'.cell? ⟨bl, ol + 2, none⟩ = some (.int .i64 v2) ∧ w'.cell? ⟨bx, 2, none⟩ = some (.int .i64 M3.temps))) (by kernel_rfl) ?_ (fun hH0 => ?_)
    next =>
     exact ⟨cell_later (Below.refl w5.heap.size w5).drew.drew q2, cell_later (Below.refl w5.heap.size w5).drew.drew m2⟩
    refine tkI 0 ⟨some 93, .move (.tmp 8), 30, "frame.go:198", #[], none⟩ ?v177 rfl (by kernel_rfl) (by rfl) ?y177 ?_
    case y177 => intro w hSw; (try dsimp only at hSw); go_simp; all_goals with_reducible rfl
    try simp only [apt12]
    refine tkI 1 ⟨some 94, .indexAddr 30 (.tmp 93) (.const (Go.Value.int .i64 2)), 0, "frame.go:198", #[⟨0, .data⟩], none⟩ ?v178 rfl (by kernel_rfl) (by rfl) ?y178 ?_
    case y178 => intro w hSw; (try dsimp only at hSw); go_simp; all_goals with_reducible rfl
    try simp only [apt12]
    refine tkI 2 ⟨some 95, .load 3 (.tmp 94), 3, "frame.go:198", #[⟨1, .data⟩], none⟩ ?v179 rfl (by kernel_rfl) (by rfl) ?y179 ?_
    case y179 => intro w hSw; (try dsimp only at hSw); go_simp; all_goals with_reducible rfl
    try simp only [apt12]
    refine tkI 3 ⟨some 96, .fieldAddr 32 (.tmp 9) 2, 0, "frame.go:198", #[], none⟩ ?v180 rfl (by kernel_rfl) (by rfl) ?y180 ?_
    case y180 => intro w hSw; (try dsimp only at hSw); go_simp; all_goals with_reducible rfl
    try simp only [apt12]
    refine tkI 4 ⟨some 97, .load 3 (.tmp 96), 3, "frame.go:198", #[⟨3, .data⟩], none⟩ ?v181 rfl (by kernel_rfl) (by rfl) ?y181 ?_
    case y181 => intro w hSw; (try dsimp only at hSw); go_simp; all_goals with_reducible rfl
    try simp only [apt12]
    refine wpAnyH_ready (rs := [5]) (by kernel_rfl) (by simp) ?_
    refine AllReadyH.cons (i := 5) (o := ⟨some 98, .call { callee := .value (.func 73), args := #[.tmp 95, .tmp 97, .const (Go.Value.int .i64 16)], argTypes := #[3, 3, 3] }, 87, "frame.go:198", #[⟨2, .data⟩, ⟨4, .data⟩], none⟩) rfl (fun K hK => ?_) AllReadyH.nil
    go_simp
    go_at_call 73
    refine (pwithin_any12 v2 M3.temps 16 _).mono ?_
    rintro e wr ⟨rfl, hwr⟩
    subst hwr
    rw [← B2.out, ← N2.out]
    refine hK.out _ _ ?_ (fun hH1 => ?_)
    next =>
     exact hH0
    clear hK K
    try simp only [apt12]
    refine tkI 6 ⟨some 92, .move (.tmp 98), 87, "frame.go:198", #[⟨5, .data⟩], none⟩ ?v182 rfl (by kernel_rfl) (by rfl) ?y182 ?_
    case y182 => intro w hSw; (try dsimp only at hSw); go_simp; all_goals with_reducible rfl
    try simp only [apt12]
    refine tkI 7 ⟨some 99, .extract (.tmp 92) 0, 3, "frame.go:198", #[⟨6, .data⟩], none⟩ ?v183 rfl (by kernel_rfl) (by rfl) ?y183 ?_
    case y183 => intro w hSw; (try dsimp only at hSw); go_simp; all_goals with_reducible rfl
    try simp only [apt12]
    refine tkI 8 ⟨some 100, .extract (.tmp 92) 1, 4, "frame.go:198", #[⟨6, .data⟩, ⟨9, .gcOnly .lateStores⟩], none⟩ ?v184 rfl (by kernel_rfl) (by rfl) ?y184 ?_
    case y184 => intro w hSw; (try dsimp only at hSw); go_simp; all_goals with_reducible rfl
    try simp only [apt12]
    refine tkI 9 ⟨some 13, .assign (.tmp 99), 3, "frame.go:198", #[⟨7, .data⟩, ⟨5, .chain⟩, ⟨0, .phase⟩, ⟨1, .phase⟩, ⟨2, .phase⟩, ⟨3, .phase⟩, ⟨4, .phase⟩, ⟨5, .phase⟩, ⟨6, .phase⟩, ⟨7, .phase⟩, ⟨8, .textOnly .lateStores⟩], none⟩ ?v185 rfl (by kernel_rfl) (by rfl) ?y185 ?_
    case y185 => intro w hSw; (try dsimp only at hSw); go_simp; all_goals with_reducible rfl
    try simp only [apt12]
    refine tkI 10 ⟨some 14, .assign (.tmp 100), 4, "frame.go:198", #[⟨8, .data⟩, ⟨9, .chain⟩, ⟨0, .phase⟩, ⟨1, .phase⟩, ⟨2, .phase⟩, ⟨3, .phase⟩, ⟨4, .phase⟩, ⟨5, .phase⟩, ⟨6, .phase⟩, ⟨7, .phase⟩, ⟨8, .phase⟩, ⟨9, .phase⟩], none⟩ ?v186 rfl (by kernel_rfl) (by rfl) ?y186 ?_
    case y186 => intro w hSw; (try dsimp only at hSw); go_simp; all_goals with_reducible rfl
    try simp only [apt12]
    refine wpAnyH_done (by kernel_rfl) ?_ _
    obtain ⟨w6, hw6⟩ : ∃ x, x = w5.drew.drew := ⟨_, rfl⟩
    have HB6 : Hid (Below w.heap.size w w6) := by show Below w.heap.size w w6; rw [hw6]; exact HB5.out.drew.drew
    have HK6 : Hid (Lies w6 (w.heap.size + 1) 69 #[.int .i64 0, .int .i64 0, .int .i64 0, .slice none 0 0, .slice none 0 0, .int .i64 0, .int .i64 0, .int .i64 0, .slice none 0 0]) := by show Lies w6 (w.heap.size + 1) 69 #[.int .i64 0, .int .i64 0, .int .i64 0, .slice none 0 0, .slice none 0 0, .int .i64 0, .int .i64 0, .int .i64 0, .slice none 0 0]; rw [hw6]; exact HK5.out.drew.drew
    have LF6 : Hid (Lies w6 bx 32 #[.int .i64 M3.prim, .int .i64 M3.args, .int .i64 M3.temps, .slice CA M3.code.length cc, .slice LA M3.lits.length lc]) := by show Lies w6 bx 32 #[.int .i64 M3.prim, .int .i64 M3.args, .int .i64 M3.temps, .slice CA M3.code.length cc, .slice LA M3.lits.length lc]; rw [hw6]; exact LF5.out.drew.drew
    have IF6 : Hid (InsR w6 CA M3.code) := by show InsR w6 CA M3.code; rw [hw6]; exact IF5.out.below (Below.refl _ _).drew.drew
    rw [← hw6]
    clear hw6
    clear q1 q2 m2 m3 hlw HB5 HK5 LF5 IF5
    cases b1
    next =>
     have HRR : Hid (may12 h cx = false) := rd_ip12 (by rw [HCM.out, ← V1.out]; exact B1.out.symm)
     obtain ⟨u0, u1, u2, u3, u4, u5, u6, u7, u8⟩ := HK6.out.c9
     obtain ⟨uf0, uf1, uf2, uf3, uf4, uf5, uf6, uf7, uf8⟩ := HK6.out.f9
     go_wp2_with fail
     have K0 := (((((((((HK6.out.set_ 0 (.int .i64 0)).set_ 1 (.int .i64 0)).set_ 2 (.int .i64 0)).set_ 3 (.slice none 0 0)).set_ 4 (.slice none 0 0)).set_ 5 (.int .i64 0)).set_ 6 (.int .i64 0)).set_ 7 (.int .i64 0)).set_ 8 (.slice none 0 0))
     have r0 := K0.cell 0
     have r1 := K0.cell 1
     have r2 := K0.cell 2
     have r3 := K0.cell 3
     have r4 := K0.cell 4
     have r5 := K0.cell 5
     have r6 := K0.cell 6
     have r7 := K0.cell 7
     have r8 := K0.cell 8
     simp only [List.setIfInBounds_toArray, List.set_cons_zero, List.set_cons_succ, List.getElem?_toArray, List.getElem?_cons_zero, List.getElem?_cons_succ] at r0 r1 r2 r3 r4 r5 r6 r7 r8
     refine bodyPost_ret (v := .tuple #[.agg #[.int .i64 0, .int .i64 0, .int .i64 0, .slice none 0 0, .slice none 0 0, .int .i64 0, .int .i64 0, .int .i64 0, .slice none 0 0], .int .i64 120]) (by simp [results, Tryz.results43, go_sem, r0, r1, r2, r3, r4, r5, r6, r7, r8]) rfl ?_
     have HBE := (((((((((HB6.out).setCell (p := ⟨w.heap.size + 1, 0, none⟩) (by simp) (.int .i64 0)).setCell (p := ⟨w.heap.size + 1, 1, none⟩) (by simp) (.int .i64 0)).setCell (p := ⟨w.heap.size + 1, 2, none⟩) (by simp) (.int .i64 0)).setCell (p := ⟨w.heap.size + 1, 3, none⟩) (by simp) (.slice none 0 0)).setCell (p := ⟨w.heap.size + 1, 4, none⟩) (by simp) (.slice none 0 0)).setCell (p := ⟨w.heap.size + 1, 5, none⟩) (by simp) (.int .i64 0)).setCell (p := ⟨w.heap.size + 1, 6, none⟩) (by simp) (.int .i64 0)).setCell (p := ⟨w.heap.size + 1, 7, none⟩) (by simp) (.int .i64 0)).setCell (p := ⟨w.heap.size + 1, 8, none⟩) (by simp) (.slice none 0 0)
     exact ⟨HBE, .inl ⟨HRR.out, rfl⟩⟩
    cases b2
    next =>
     have HRR : Hid (may12 h cx = false) := rd_sp12 (by rw [HCM.out, ← V2.out]; exact B2.out.symm)
     obtain ⟨u0, u1, u2, u3, u4, u5, u6, u7, u8⟩ := HK6.out.c9
     obtain ⟨uf0, uf1, uf2, uf3, uf4, uf5, uf6, uf7, uf8⟩ := HK6.out.f9
     go_wp2_with fail
     have K0 := (((((((((HK6.out.set_ 0 (.int .i64 0)).set_ 1 (.int .i64 0)).set_ 2 (.int .i64 0)).set_ 3 (.slice none 0 0)).set_ 4 (.slice none 0 0)).set_ 5 (.int .i64 0)).set_ 6 (.int .i64 0)).set_ 7 (.int .i64 0)).set_ 8 (.slice none 0 0))
     have r0 := K0.cell 0
     have r1 := K0.cell 1
     have r2 := K0.cell 2
     have r3 := K0.cell 3
     have r4 := K0.cell 4
     have r5 := K0.cell 5
     have r6 := K0.cell 6
     have r7 := K0.cell 7
     have r8 := K0.cell 8
     simp only [List.setIfInBounds_toArray, List.set_cons_zero, List.set_cons_succ, List.getElem?_toArray, List.getElem?_cons_zero, List.getElem?_cons_succ] at r0 r1 r2 r3 r4 r5 r6 r7 r8
     refine bodyPost_ret (v := .tuple #[.agg #[.int .i64 0, .int .i64 0, .int .i64 0, .slice none 0 0, .slice none 0 0, .int .i64 0, .int .i64 0, .int .i64 0, .slice none 0 0], .int .i64 120]) (by simp [results, Tryz.results43, go_sem, r0, r1, r2, r3, r4, r5, r6, r7, r8]) rfl ?_
     have HBE := (((((((((HB6.out).setCell (p := ⟨w.heap.size + 1, 0, none⟩) (by simp) (.int .i64 0)).setCell (p := ⟨w.heap.size + 1, 1, none⟩) (by simp) (.int .i64 0)).setCell (p := ⟨w.heap.size + 1, 2, none⟩) (by simp) (.int .i64 0)).setCell (p := ⟨w.heap.size + 1, 3, none⟩) (by simp) (.slice none 0 0)).setCell (p := ⟨w.heap.size + 1, 4, none⟩) (by simp) (.slice none 0 0)).setCell (p := ⟨w.heap.size + 1, 5, none⟩) (by simp) (.int .i64 0)).setCell (p := ⟨w.heap.size + 1, 6, none⟩) (by simp) (.int .i64 0)).setCell (p := ⟨w.heap.size + 1, 7, none⟩) (by simp) (.int .i64 0)).setCell (p := ⟨w.heap.size + 1, 8, none⟩) (by simp) (.slice none 0 0)
     exact ⟨HBE, .inl ⟨HRR.out, rfl⟩⟩
    obtain ⟨HY, HAT1, HSP⟩ := rd_all12 HM.out (by rw [HSL.out]; exact H22.out) HCL.out.symm (by rw [← V3.out]; exact HE3.out.symm) (by rw [← V0.out]; exact R0.out.symm) (by rw [← V5.out]; exact R5.out.symm) (by rw [HCM.out, ← V1.out]; exact B1.out.symm) (by rw [HCM.out, ← V2.out]; exact B2.out.symm)
    rw [← V1.out, ← N1.out] at HAT1
    rw [← V2.out, ← N2.out] at HSP
    have HY := hid HY
    have HAT1 := hid HAT1
    have HSP := hid HSP
    have hne : bx ≠ w.heap.size + 1 := lies_ne LF6.out HK6.out (by decide)
    have hd6 : ¬ d = 6 := by have := HCAP.out; have := H22.out; omega
    obtain ⟨m0, m1, m2, m3, m4⟩ := LF6.out.c5
    obtain ⟨u0, u1, u2, u3, u4, u5, u6, u7, u8⟩ := HK6.out.c9
    obtain ⟨uf0, uf1, uf2, uf3, uf4, uf5, uf6, uf7, uf8⟩ := HK6.out.f9
    go_upto_region 14 with fail
    refine wp_region_held_drew (S := (fun w' => w'.cell? ⟨bx, 0, none⟩ = some (.int .i64 M3.prim) ∧ w'.cell? ⟨bx, 1, none⟩ = some (.int .i64 M3.args) ∧ w'.cell? ⟨bx, 2, none⟩ = some (.int .i64 M3.temps) ∧ w'.cell? ⟨bx, 3, none⟩ = some (.slice CA M3.code.length cc) ∧ w'.cell? ⟨bx, 4, none⟩ = some (.slice LA M3.lits.length lc))) (by kernel_rfl) ?_ (fun hH0 => ?_)
    next =>
     exact ⟨cell_later (Below.refl w6.heap.size w6).drew m0, cell_later (Below.refl w6.heap.size w6).drew m1, cell_later (Below.refl w6.heap.size w6).drew m2, cell_later (Below.refl w6.heap.size w6).drew m3, cell_later (Below.refl w6.heap.size w6).drew m4⟩
    refine tkI 0 ⟨some 108, .load 32 (.tmp 9), 32, "frame.go:202", #[], none⟩ ?v187 rfl (by kernel_rfl) (by rfl) ?y187 ?_
    case y187 => intro w hSw; (try dsimp only at hSw); go_simp; all_goals with_reducible rfl
    try simp only [apt12]
    refine tkI 1 ⟨some 109, .move (.tmp 6), 3, "frame.go:202", #[], none⟩ ?v188 rfl (by kernel_rfl) (by rfl) ?y188 ?_
    case y188 => intro w hSw; (try dsimp only at hSw); go_simp; all_goals with_reducible rfl
    try simp only [apt12]
    refine tkI 2 ⟨some 110, .move (.tmp 11), 3, "frame.go:202", #[], none⟩ ?v189 rfl (by kernel_rfl) (by rfl) ?y189 ?_
    case y189 => intro w hSw; (try dsimp only at hSw); go_simp; all_goals with_reducible rfl
    try simp only [apt12]
    refine tkI 3 ⟨some 111, .move (.tmp 13), 3, "frame.go:202", #[], none⟩ ?v190 rfl (by kernel_rfl) (by rfl) ?y190 ?_
    case y190 => intro w hSw; (try dsimp only at hSw); go_simp; all_goals with_reducible rfl
    try simp only [apt12]
    refine tkI 4 ⟨some 112, .move (.tmp 8), 30, "frame.go:202", #[], none⟩ ?v191 rfl (by kernel_rfl) (by rfl) ?y191 ?_
    case y191 => intro w hSw; (try dsimp only at hSw); go_simp; all_goals with_reducible rfl
    try simp only [apt12]
    refine tkI 5 ⟨some 113, .slice 30 (.tmp 112) (some (.const (Go.Value.int .i64 6))) none none, 30, "frame.go:202", #[⟨4, .data⟩], none⟩ ?v192 rfl (by kernel_rfl) (by rfl) ?y192 ?_
    case y192 => intro w hSw; (try dsimp only at hSw); go_simp; all_goals with_reducible rfl
    try simp only [apt12]
    refine tkI 6 ⟨some 114, .build 69 #[(0, .tmp 108), (1, .tmp 109), (2, .tmp 110), (3, .tmp 111), (4, .tmp 113)], 69, "frame.go:202", #[⟨0, .data⟩, ⟨1, .data⟩, ⟨2, .data⟩, ⟨3, .data⟩, ⟨5, .data⟩], none⟩ ?v193 rfl (by kernel_rfl) (by rfl) ?y193 ?_
    case y193 => intro w hSw; (try dsimp only at hSw); go_simp; all_goals with_reducible rfl
    try simp only [apt12]
    refine wpAnyH_ready (rs := [7]) (by kernel_rfl) (by simp) ?_
    refine AllReadyH.cons (i := 7) (o := ⟨none, .store 69 (.tmp 4) (.tmp 114), 0, "frame.go:202", #[⟨6, .data⟩, ⟨0, .phase⟩, ⟨1, .phase⟩, ⟨2, .phase⟩, ⟨3, .phase⟩, ⟨4, .phase⟩, ⟨5, .phase⟩, ⟨6, .phase⟩], none⟩) rfl (fun K hK => ?_) AllReadyH.nil
    go_simp
    refine hK.out _ _ ?_ (fun hH1 => ?_)
    next =>
     exact ⟨cell_later (Below.refl _ _).drew (cell_far hne (cell_far hne (cell_far hne (cell_far hne (cell_far hne (cell_far hne (cell_far hne (cell_far hne (cell_far hne m0))))))))), cell_later (Below.refl _ _).drew (cell_far hne (cell_far hne (cell_far hne (cell_far hne (cell_far hne (cell_far hne (cell_far hne (cell_far hne (cell_far hne m1))))))))), cell_later (Below.refl _ _).drew (cell_far hne (cell_far hne (cell_far hne (cell_far hne (cell_far hne (cell_far hne (cell_far hne (cell_far hne (cell_far hne m2))))))))), cell_later (Below.refl _ _).drew (cell_far hne (cell_far hne (cell_far hne (cell_far hne (cell_far hne (cell_far hne (cell_far hne (cell_far hne (cell_far hne m3))))))))), cell_later (Below.refl _ _).drew (cell_far hne (cell_far hne (cell_far hne (cell_far hne (cell_far hne (cell_far hne (cell_far hne (cell_far hne (cell_far hne m4)))))))))⟩
    clear hK K
    try simp only [apt12]
    refine tkI 8 ⟨some 5, .assign (.const (Go.Value.int .i64 0)), 33, "frame.go:202", #[⟨7, .chain⟩, ⟨0, .phase⟩, ⟨1, .phase⟩, ⟨2, .phase⟩, ⟨3, .phase⟩, ⟨4, .phase⟩, ⟨5, .phase⟩, ⟨6, .phase⟩, ⟨7, .phase⟩], none⟩ ?v194 rfl (by kernel_rfl) (by rfl) ?y194 ?_
    case y194 => intro w hSw; (try dsimp only at hSw); go_simp; all_goals with_reducible rfl
    try simp only [apt12]
    refine wpAnyH_done (by kernel_rfl) ?_ _
    have hc9 : ∀ k o s, CA = some ⟨k, o, s⟩ → k ≠ w.heap.size + 1 := fun k o s e => by have := HFX.out k o s e; have := HLT3.out; omega
    have K1 : Lies (((((((((w6.setCell ⟨w.heap.size + 1, 0, none⟩ (.int .i64 M3.prim)).setCell ⟨w.heap.size + 1, 1, none⟩ (.int .i64 M3.args)).setCell ⟨w.heap.size + 1, 2, none⟩ (.int .i64 M3.temps)).setCell ⟨w.heap.size + 1, 3, none⟩ (.slice CA M3.code.length cc)).setCell ⟨w.heap.size + 1, 4, none⟩ (.slice LA M3.lits.length lc)).setCell ⟨w.heap.size + 1, 5, none⟩ (.int .i64 i)).setCell ⟨w.heap.size + 1, 6, none⟩ (.int .i64 n1)).setCell ⟨w.heap.size + 1, 7, none⟩ (.int .i64 n2)).setCell ⟨w.heap.size + 1, 8, none⟩ (.slice (some ⟨bl, ol + 6, none⟩) 16 (d - 6))).drew (w.heap.size + 1) 69 #[.int .i64 M3.prim, .int .i64 M3.args, .int .i64 M3.temps, .slice CA M3.code.length cc, .slice LA M3.lits.length lc, .int .i64 i, .int .i64 n1, .int .i64 n2, .slice (some ⟨bl, ol + 6, none⟩) 16 (d - 6)] := (((((((((HK6.out.set_ 0 (.int .i64 M3.prim)).set_ 1 (.int .i64 M3.args)).set_ 2 (.int .i64 M3.temps)).set_ 3 (.slice CA M3.code.length cc)).set_ 4 (.slice LA M3.lits.length lc)).set_ 5 (.int .i64 i)).set_ 6 (.int .i64 n1)).set_ 7 (.int .i64 n2)).set_ 8 (.slice (some ⟨bl, ol + 6, none⟩) 16 (d - 6))).drew
    obtain ⟨w7, hw7⟩ : ∃ x, x = (((((((((w6.setCell ⟨w.heap.size + 1, 0, none⟩ (.int .i64 M3.prim)).setCell ⟨w.heap.size + 1, 1, none⟩ (.int .i64 M3.args)).setCell ⟨w.heap.size + 1, 2, none⟩ (.int .i64 M3.temps)).setCell ⟨w.heap.size + 1, 3, none⟩ (.slice CA M3.code.length cc)).setCell ⟨w.heap.size + 1, 4, none⟩ (.slice LA M3.lits.length lc)).setCell ⟨w.heap.size + 1, 5, none⟩ (.int .i64 i)).setCell ⟨w.heap.size + 1, 6, none⟩ (.int .i64 n1)).setCell ⟨w.heap.size + 1, 7, none⟩ (.int .i64 n2)).setCell ⟨w.heap.size + 1, 8, none⟩ (.slice (some ⟨bl, ol + 6, none⟩) 16 (d - 6))).drew := ⟨_, rfl⟩
    rw [← hw7] at K1 ⊢
    have HB7 : Hid (Below w.heap.size w w7) := by show Below _ _ _; rw [hw7]; exact ((((((((((HB6.out).setCell (p := ⟨w.heap.size + 1, 0, none⟩) (by simp) (.int .i64 M3.prim)).setCell (p := ⟨w.heap.size + 1, 1, none⟩) (by simp) (.int .i64 M3.args)).setCell (p := ⟨w.heap.size + 1, 2, none⟩) (by simp) (.int .i64 M3.temps)).setCell (p := ⟨w.heap.size + 1, 3, none⟩) (by simp) (.slice CA M3.code.length cc)).setCell (p := ⟨w.heap.size + 1, 4, none⟩) (by simp) (.slice LA M3.lits.length lc)).setCell (p := ⟨w.heap.size + 1, 5, none⟩) (by simp) (.int .i64 i)).setCell (p := ⟨w.heap.size + 1, 6, none⟩) (by simp) (.int .i64 n1)).setCell (p := ⟨w.heap.size + 1, 7, none⟩) (by simp) (.int .i64 n2)).setCell (p := ⟨w.heap.size + 1, 8, none⟩) (by simp) (.slice (some ⟨bl, ol + 6, none⟩) 16 (d - 6))).drew
    have IF7 : Hid (InsR w7 CA M3.code) := by show InsR _ _ _; rw [hw7]; exact (ins_far12 (ins_far12 (ins_far12 (ins_far12 (ins_far12 (ins_far12 (ins_far12 (ins_far12 (ins_far12 IF6.out hc9 0 (.int .i64 M3.prim)) hc9 1 (.int .i64 M3.args)) hc9 2 (.int .i64 M3.temps)) hc9 3 (.slice CA M3.code.length cc)) hc9 4 (.slice LA M3.lits.length lc)) hc9 5 (.int .i64 i)) hc9 6 (.int .i64 n1)) hc9 7 (.int .i64 n2)) hc9 8 (.slice (some ⟨bl, ol + 6, none⟩) 16 (d - 6))).below (Below.refl _ _).drew
    clear hw7
    obtain ⟨r0, r1, r2, r3, r4, r5, r6, r7, r8⟩ := K1.c9
    go_wp2_with fail
    refine bodyPost_ret (v := .tuple #[.agg #[.int .i64 M3.prim, .int .i64 M3.args, .int .i64 M3.temps, .slice CA M3.code.length cc, .slice LA M3.lits.length lc, .int .i64 i, .int .i64 n1, .int .i64 n2, .slice (some ⟨bl, ol + 6, none⟩) 16 (d - 6)], .int .i64 0]) (by simp [results, Tryz.results43, go_sem, r0, r1, r2, r3, r4, r5, r6, r7, r8]) rfl ?_
    exact ⟨HB7.out, .inr ⟨HY.out, CA, cc, LA, lc, bl, ol, d - 6, by rw [HCM.out, HAT1.out, HSP.out, HAT.out], by rw [HCM.out]; exact IF7.out, by rw [HSL.out]; exact HIN.out, fun k o s e => by have := HFX.out k o s e; have := HLT3.out; omega⟩⟩
end Go.Proofs.YtalfbdigjaibkaaGreat
