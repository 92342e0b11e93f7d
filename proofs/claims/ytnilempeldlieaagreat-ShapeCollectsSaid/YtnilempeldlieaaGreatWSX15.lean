/- The calls whose answers the document fixes: all are as it says. -/
import Derived.Test.YtnilempeldlieaaGreatM08
import Derived.Test.YtnilempeldlieaaGreatM14
import Derived.Test.YtnilempeldlieaaGreatWSE15
namespace Go.Proofs.YtnilempeldlieaaGreat
open Go.RowKit
set_option maxRecDepth 100000
/-! ### the contracts, by letters -/
theorem cckL15 {s : St} {en : Int} (he : ckI s = en) (A : Option Addr) (c : Nat) (w : World) (hs : ObsR w A s.hp.objs) (fit : s.hp.Fit) : Calls Tryz.prog 10 #[.agg #[.slice A s.hp.objs.length c, .int .i64 s.hp.cap, .int .i64 s.hp.last, .int .i64 s.proc, .int .i64 s.ready, .int .i64 s.halt, .int .i64 s.steps, .int .i64 s.used]] w fun e w' => e = .returned (.int .i64 en) ∧ Below w.heap.size w w' := by subst he; exact cck_any15 s A c w hs fit
theorem csameL15 {s t : St} {b : Bool} (hb : ssB s t = b) (A : Option Addr) (c : Nat) (B : Option Addr) (d : Nat) (w : World) (hs : ObsR w A s.hp.objs) (fs : s.hp.Fit) (ht : ObsR w B t.hp.objs) (ft : t.hp.Fit) : Calls Tryz.prog 17 #[.agg #[.slice A s.hp.objs.length c, .int .i64 s.hp.cap, .int .i64 s.hp.last, .int .i64 s.proc, .int .i64 s.ready, .int .i64 s.halt, .int .i64 s.steps, .int .i64 s.used], .agg #[.slice B t.hp.objs.length d, .int .i64 t.hp.cap, .int .i64 t.hp.last, .int .i64 t.proc, .int .i64 t.ready, .int .i64 t.halt, .int .i64 t.steps, .int .i64 t.used]] w fun e w' => e = .returned (.bool b) ∧ Below w.heap.size w w' := by subst hb; exact csame_any15 s A c t B d w hs fs ht ft
theorem ccolL15 {s t : St} {en : Int} (ht : coS s = t) (he : ckI s = en) (A : Option Addr) (c : Nat) (w : World) (hs : ObsR w A s.hp.objs) (fit : s.hp.Fit) : Calls Tryz.prog 8 #[.agg #[.slice A s.hp.objs.length c, .int .i64 s.hp.cap, .int .i64 s.hp.last, .int .i64 s.proc, .int .i64 s.ready, .int .i64 s.halt, .int .i64 s.steps, .int .i64 s.used]] w (StE15 w t en) := by subst ht he; exact ccol_any15 s A c w hs fit
theorem crootsN15 {s : St} {n : Nat} (hn : (rtL s).length = n) (A : Option Addr) (c : Nat) (w : World) (hs : ObsR w A s.hp.objs) (fit : s.hp.Fit) : Calls Tryz.prog 13 #[.agg #[.slice A s.hp.objs.length c, .int .i64 s.hp.cap, .int .i64 s.hp.last, .int .i64 s.proc, .int .i64 s.ready, .int .i64 s.halt, .int .i64 s.steps, .int .i64 s.used]] w fun e w' => (∃ B d, e = .returned (.slice B n d)) ∧ Below w.heap.size w w' := by
  subst hn
  exact (croots_any15 s A c w hs fit).mono fun e w' ⟨B, d, h1, _, h3⟩ => ⟨⟨B, d, h1⟩, h3⟩
/-! ### the state of the fixed calls, collected -/
theorem ckT15 : Ck15 T15 := ck_iff.1 (by decide +kernel)
theorem reachT15 {i : Nat} (r : Reach T15.hp (rt15 T15) i) : i ≠ 12 := by
  refine r.least (fun i => i ≠ 12) (fun v hv _ => ?_) (fun i o v _ ho hv _ => ?_)
  · have : ∀ v ∈ rt15 T15, (atV v).toNat ≠ 12 := by decide +kernel
    exact this v hv
  · have hl : i < 14 := (List.getElem?_eq_some_iff.1 ho).1
    have ho2 : T15.hp.objs[i]? = some (hO15 i) := by show ((List.range 14).map hO15)[i]? = _; rw [List.getElem?_map, List.getElem?_range hl]; rfl
    obtain rfl := Option.some.inj (ho.symm.trans ho2)
    have hv0 : v = 0 := by rcases List.mem_cons.1 hv with g | g; exact g; cases g
    rw [hv0]; decide +kernel
theorem liveT15 : liveN T15.hp (rt15 T15) = [0, 1, 2, 3, 4, 5, 6, 7, 8, 9, 10, 11, 13] := by
  have h13 : Reach T15.hp (rt15 T15) 13 := by
    have := Reach.root (h := T15.hp) (rs := rt15 T15) 26 (by decide +kernel) (by decide +kernel)
    exact this
  have hall : ∀ i ∈ List.range 14, (Reach T15.hp (rt15 T15) i ↔ i ≠ 12) := fun i hi => ⟨reachT15, fun hne => by
    have hi := List.mem_range.1 hi
    by_cases h : i < 12
    · exact mem_liveN.1 (sp_live ckT15 h)
    · have : i = 13 := by omega
      rw [this]; exact h13⟩
  unfold liveN
  show (List.range 14).filter _ = _
  rw [List.filter_congr (q := fun i => decide (i ≠ 12)) fun i hi => decide_eq_decide.2 (hall i hi)]
  decide
theorem colT15 : (cl15 T15).hp.objs.length = 13 ∧ (cl15 T15).proc = 24 ∧ ∃ o, (cl15 T15).hp.objs[12]? = some o ∧ o.hash = 13 := by
  have e := rt_li ckT15
  refine ⟨?_, ?_, ?_⟩
  · show (coH T15.hp (rt15 T15)).objs.length = 13
    rw [coH_len e, liveT15]; rfl
  · show vaV (tabL T15.hp (rt15 T15)) 26 = 24
    have h1 : (atV 26).toNat = 13 := by decide +kernel
    rw [(va_ref e (v := 26) (by decide +kernel) (by rw [h1, liveT15]; decide)).1, h1, liveT15]; decide
  · obtain ⟨o, h1, h2⟩ := coH_get e (k := 12) (by rw [liveT15]; decide)
    refine ⟨_, h2, ?_⟩
    show o.hash = 13
    have h3 : (liveN T15.hp (rt15 T15))[12]'(by rw [liveT15]; decide) = 13 := by simp only [liveT15]; rfl
    rw [h3] at h1
    have h4 : T15.hp.objs[13]? = some (hO15 13) := rfl
    obtain rfl := Option.some.inj (h1.symm.trans h4)
    rfl
def N15 : St := ⟨T15.hp, 26, 0, 0, -1, 0⟩
theorem ckN15 : ckB N15 = false := by decide +kernel
theorem fitT15 : T15.hp.Fit := by
  have hm := ckT15.may
  refine ⟨by have := may_len hm; omega, fun o ho => ?_⟩
  have := (kind_len (ob_kind (may_all hm _ ho))).1
  exact Nat.le_trans (by exact_mod_cast this) (by decide)
theorem coZ15 : coS zeroS = zeroS ∧ ckI zeroS = 150 := by
  have h : ckB zeroS = false := by decide +kernel
  exact ⟨coS_no h, ckI_no h⟩
set_option maxHeartbeats 4000000 in
theorem fixed15_any (w : World) : Calls Tryz.prog 7 #[] w fun e w' => e = .returned (.bool true) ∧ Below w.heap.size w w' := by
  obtain ⟨U, hU⟩ : ∃ U, U = cl15 T15 := ⟨_, rfl⟩
  obtain ⟨hU1, hU2, o, hU3, hU4⟩ := colT15
  rw [← hU] at hU1 hU2 hU3
  have HU : Hid (coS T15 = U) := (coS_yes (ck_iff.2 ckT15)).trans hU.symm
  have HUF : Hid U.hp.Fit := by show U.hp.Fit; rw [hU]; exact co_fit15 ckT15
  have HUS : Hid (ssB T15 U = true) := by show _ = _; rw [hU]; exact ss_cl ckT15
  have HK := hid (ckI_yes (ck_iff.2 ckT15))
  have HN : Hid (ssB T15 N15 = false) := ssB_no fun h => by rw [ckN15] at h; exact absurd h.2.1 (by decide)
  have HU1 := hid hU1
  have HU2 := hid hU2
  have HU3 := hid hU3
  have HU4 := hid hU4
  clear hU hU1 hU2 hU3 hU4
  go_enter Tryz.func7, Tryz.ntmps7
  go_wp2_with fail
  refine (twelve_any15 w).mono ?_
  rintro e w1 ⟨A1, c1, rfl, ob1, hb⟩
  have HB1 := hid hb
  clear hb
  have O1 := hid ob1
  clear ob1
  go_upto_region 2 with fail
  obtain ⟨w2, hw⟩ : ∃ x, x = w1.alloc (.cells #[.slice A1 T15.hp.objs.length c1, .int .i64 T15.hp.cap, .int .i64 T15.hp.last, .int .i64 T15.proc, .int .i64 T15.ready, .int .i64 T15.halt, .int .i64 T15.steps, .int .i64 T15.used] 27) := ⟨_, rfl⟩
  obtain ⟨bs, hbx⟩ : ∃ x, x = w1.heap.size := ⟨_, rfl⟩
  have S2 : Hid (Lies w2 bs 27 #[.slice A1 T15.hp.objs.length c1, .int .i64 T15.hp.cap, .int .i64 T15.hp.last, .int .i64 T15.proc, .int .i64 T15.ready, .int .i64 T15.halt, .int .i64 T15.steps, .int .i64 T15.used]) := by show Lies _ _ _ _; rw [hw, hbx]; exact Lies.new _ _ _
  have hb : Below w1.heap.size w1 w2 := by rw [hw]; exact below_alloc _ _
  rw [← hw, ← hbx]
  have at_S : Hid (bs = w1.heap.size) := hbx
  have le_HB_S : Hid (w.heap.size ≤ bs) := by show _ ≤ _; rw [hbx]; exact HB1.out.size
  clear hbx hw
  have HALS := hid hb
  have HB2 := hid (then_w HB1.out hb)
  have O2 := hid (O1.out.below hb)
  clear hb
  clear HB1 O1
  have s_0 := S2.out.cell 0
  have s_1 := S2.out.cell 1
  have s_2 := S2.out.cell 2
  have s_3 := S2.out.cell 3
  have s_4 := S2.out.cell 4
  have s_5 := S2.out.cell 5
  have s_6 := S2.out.cell 6
  have s_7 := S2.out.cell 7
  simp only [List.getElem?_toArray, List.getElem?_cons_zero, List.getElem?_cons_succ] at s_0 s_1 s_2 s_3 s_4 s_5 s_6 s_7
  go_wp2_with fail
  refine (ccolL15 HU.out HK.out A1 c1 _ O2.out fitT15).mono ?_
  rintro e w3 ⟨A2, c2, rfl, ob2, hb⟩
  clear s_0 s_1 s_2 s_3 s_4 s_5 s_6 s_7
  have HB3 := hid (then_w HB2.out hb)
  have S3 := hid (S2.out.later hb)
  have O3 := hid (O2.out.below hb)
  clear hb
  clear HB2 S2 O2
  have P3 := hid ob2
  clear ob2
  go_upto_region 3 with fail
  obtain ⟨w4, hw⟩ : ∃ x, x = w3.alloc (.cells #[.slice A2 U.hp.objs.length c2, .int .i64 U.hp.cap, .int .i64 U.hp.last, .int .i64 U.proc, .int .i64 U.ready, .int .i64 U.halt, .int .i64 U.steps, .int .i64 U.used] 27) := ⟨_, rfl⟩
  obtain ⟨bc, hbx⟩ : ∃ x, x = w3.heap.size := ⟨_, rfl⟩
  have C4 : Hid (Lies w4 bc 27 #[.slice A2 U.hp.objs.length c2, .int .i64 U.hp.cap, .int .i64 U.hp.last, .int .i64 U.proc, .int .i64 U.ready, .int .i64 U.halt, .int .i64 U.steps, .int .i64 U.used]) := by show Lies _ _ _ _; rw [hw, hbx]; exact Lies.new _ _ _
  have hb : Below w3.heap.size w3 w4 := by rw [hw]; exact below_alloc _ _
  rw [← hw, ← hbx]
  have ne_S_C : Hid (bs ≠ bc) := by show _ ≠ _; rw [hbx]; exact Nat.ne_of_lt S3.out.lt
  have at_C : Hid (bc = w3.heap.size) := hbx
  have le_HB_C : Hid (w.heap.size ≤ bc) := by show _ ≤ _; rw [hbx]; exact HB3.out.size
  clear hbx hw
  have HALC := hid hb
  have HB4 := hid (then_w HB3.out hb)
  have S4 := hid (S3.out.later hb)
  have O4 := hid (O3.out.below hb)
  have P4 := hid (P3.out.below hb)
  clear hb
  clear HB3 S3 O3 P3
  go_wp2_with fail
  refine (ccolL15 coZ15.1 coZ15.2 none 0 _ (ObsR.nil _) ⟨by decide, fun o ho => by cases ho⟩).mono ?_
  rintro e w5 ⟨A3, c3, rfl, -, hb⟩
  have HB5 := hid (then_w HB4.out hb)
  have S5 := hid (S4.out.later hb)
  have C5 := hid (C4.out.later hb)
  have O5 := hid (O4.out.below hb)
  have P5 := hid (P4.out.below hb)
  clear hb
  clear HB4 S4 C4 O4 P4
  go_upto_region 4 with fail
  obtain ⟨w6, hw⟩ : ∃ x, x = w5.alloc (.cells #[.slice A3 zeroS.hp.objs.length c3, .int .i64 zeroS.hp.cap, .int .i64 zeroS.hp.last, .int .i64 zeroS.proc, .int .i64 zeroS.ready, .int .i64 zeroS.halt, .int .i64 zeroS.steps, .int .i64 zeroS.used] 27) := ⟨_, rfl⟩
  obtain ⟨bd, hbx⟩ : ∃ x, x = w5.heap.size := ⟨_, rfl⟩
  have D6 : Hid (Lies w6 bd 27 #[.slice A3 zeroS.hp.objs.length c3, .int .i64 zeroS.hp.cap, .int .i64 zeroS.hp.last, .int .i64 zeroS.proc, .int .i64 zeroS.ready, .int .i64 zeroS.halt, .int .i64 zeroS.steps, .int .i64 zeroS.used]) := by show Lies _ _ _ _; rw [hw, hbx]; exact Lies.new _ _ _
  have hb : Below w5.heap.size w5 w6 := by rw [hw]; exact below_alloc _ _
  rw [← hw, ← hbx]
  have ne_S_D : Hid (bs ≠ bd) := by show _ ≠ _; rw [hbx]; exact Nat.ne_of_lt S5.out.lt
  have ne_C_D : Hid (bc ≠ bd) := by show _ ≠ _; rw [hbx]; exact Nat.ne_of_lt C5.out.lt
  have at_D : Hid (bd = w5.heap.size) := hbx
  have le_HB_D : Hid (w.heap.size ≤ bd) := by show _ ≤ _; rw [hbx]; exact HB5.out.size
  clear hbx hw
  have HALD := hid hb
  have HB6 := hid (then_w HB5.out hb)
  have S6 := hid (S5.out.later hb)
  have C6 := hid (C5.out.later hb)
  have O6 := hid (O5.out.below hb)
  have P6 := hid (P5.out.below hb)
  clear hb
  clear HB5 S5 C5 O5 P5
  have BT6 := hid (Below.refl w6.heap.size w6)
  have O_BT := O6
  have P_BT := P6
  have s_0 := S6.out.cell 0
  have s_1 := S6.out.cell 1
  have s_2 := S6.out.cell 2
  have s_3 := S6.out.cell 3
  have s_4 := S6.out.cell 4
  have s_5 := S6.out.cell 5
  have s_6 := S6.out.cell 6
  have s_7 := S6.out.cell 7
  simp only [List.getElem?_toArray, List.getElem?_cons_zero, List.getElem?_cons_succ] at s_0 s_1 s_2 s_3 s_4 s_5 s_6 s_7
  go_upto_region 5 with fail
  clear s_0 s_1 s_2 s_3 s_4 s_5 s_6 s_7
  obtain ⟨w7, hw⟩ : ∃ x, x = w6.alloc (.cells #[.slice A1 T15.hp.objs.length c1, .int .i64 T15.hp.cap, .int .i64 T15.hp.last, .int .i64 T15.proc, .int .i64 T15.ready, .int .i64 T15.halt, .int .i64 T15.steps, .int .i64 T15.used] 27) := ⟨_, rfl⟩
  obtain ⟨bt, hbx⟩ : ∃ x, x = w6.heap.size := ⟨_, rfl⟩
  have T7 : Hid (Lies w7 bt 27 #[.slice A1 T15.hp.objs.length c1, .int .i64 T15.hp.cap, .int .i64 T15.hp.last, .int .i64 T15.proc, .int .i64 T15.ready, .int .i64 T15.halt, .int .i64 T15.steps, .int .i64 T15.used]) := by show Lies _ _ _ _; rw [hw, hbx]; exact Lies.new _ _ _
  have hb : Below w6.heap.size w6 w7 := by rw [hw]; exact below_alloc _ _
  rw [← hw, ← hbx]
  have ne_S_T : Hid (bs ≠ bt) := by show _ ≠ _; rw [hbx]; exact Nat.ne_of_lt S6.out.lt
  have ne_C_T : Hid (bc ≠ bt) := by show _ ≠ _; rw [hbx]; exact Nat.ne_of_lt C6.out.lt
  have ne_D_T : Hid (bd ≠ bt) := by show _ ≠ _; rw [hbx]; exact Nat.ne_of_lt D6.out.lt
  have at_T : Hid (bt = w6.heap.size) := hbx
  have le_BT_T : Hid (w6.heap.size ≤ bt) := by show _ ≤ _; rw [hbx]; exact BT6.out.size
  have le_HB_T : Hid (w.heap.size ≤ bt) := by show _ ≤ _; rw [hbx]; exact HB6.out.size
  clear hbx hw
  have HALT := hid hb
  have HB7 := hid (then_w HB6.out hb)
  have BT7 := hid (then_w BT6.out hb)
  have S7 := hid (S6.out.later hb)
  have C7 := hid (C6.out.later hb)
  have D7 := hid (D6.out.later hb)
  have O7 := hid (O6.out.below hb)
  have P7 := hid (P6.out.below hb)
  clear hb
  clear HB6 BT6 S6 C6 D6 O6 P6
  have t_0 := T7.out.cell 0
  have t_1 := T7.out.cell 1
  have t_2 := T7.out.cell 2
  have t_3 := T7.out.cell 3
  have t_4 := T7.out.cell 4
  have t_5 := T7.out.cell 5
  have t_6 := T7.out.cell 6
  have t_7 := T7.out.cell 7
  have t_f0 := T7.out.frozen 0
  have t_f1 := T7.out.frozen 1
  have t_f2 := T7.out.frozen 2
  have t_f3 := T7.out.frozen 3
  have t_f4 := T7.out.frozen 4
  have t_f5 := T7.out.frozen 5
  have t_f6 := T7.out.frozen 6
  have t_f7 := T7.out.frozen 7
  simp only [List.getElem?_toArray, List.getElem?_cons_zero, List.getElem?_cons_succ] at t_0 t_1 t_2 t_3 t_4 t_5 t_6 t_7
  go_upto_region 6 with fail
  clear t_f0 t_f1 t_f2 t_f3 t_f4 t_f5 t_f6 t_f7 t_0 t_1 t_2 t_3 t_4 t_5 t_6 t_7
  obtain ⟨w8, hw⟩ : ∃ x, x = (w7.setCell ⟨bt, 6, none⟩ (.int .i64 (-1))) := ⟨_, rfl⟩
  rw [← hw]
  have hw2 : w8 = (sets15 w7 bt 6 [.int .i64 (-1)]) := hw
  clear hw
  have HB8 : Hid (Below w.heap.size w w8) := by show Below _ _ _; rw [hw2]; exact (Below.sets15 le_HB_T.out [.int .i64 (-1)] 6 HB7.out)
  have BT8 : Hid (Below w6.heap.size w6 w8) := by show Below _ _ _; rw [hw2]; exact (Below.sets15 le_BT_T.out [.int .i64 (-1)] 6 BT7.out)
  have S8 : Hid (Lies w8 bs 27 #[.slice A1 T15.hp.objs.length c1, .int .i64 T15.hp.cap, .int .i64 T15.hp.last, .int .i64 T15.proc, .int .i64 T15.ready, .int .i64 T15.halt, .int .i64 T15.steps, .int .i64 T15.used]) := by show Lies _ _ _ _; rw [hw2]; exact (Lies.sets15_far ne_S_T.out [.int .i64 (-1)] 6 S7.out)
  have C8 : Hid (Lies w8 bc 27 #[.slice A2 U.hp.objs.length c2, .int .i64 U.hp.cap, .int .i64 U.hp.last, .int .i64 U.proc, .int .i64 U.ready, .int .i64 U.halt, .int .i64 U.steps, .int .i64 U.used]) := by show Lies _ _ _ _; rw [hw2]; exact (Lies.sets15_far ne_C_T.out [.int .i64 (-1)] 6 C7.out)
  have D8 : Hid (Lies w8 bd 27 #[.slice A3 zeroS.hp.objs.length c3, .int .i64 zeroS.hp.cap, .int .i64 zeroS.hp.last, .int .i64 zeroS.proc, .int .i64 zeroS.ready, .int .i64 zeroS.halt, .int .i64 zeroS.steps, .int .i64 zeroS.used]) := by show Lies _ _ _ _; rw [hw2]; exact (Lies.sets15_far ne_D_T.out [.int .i64 (-1)] 6 D7.out)
  have T8 : Hid (Lies w8 bt 27 #[.slice A1 T15.hp.objs.length c1, .int .i64 T15.hp.cap, .int .i64 T15.hp.last, .int .i64 T15.proc, .int .i64 T15.ready, .int .i64 T15.halt, .int .i64 (-1), .int .i64 T15.used]) := by show Lies _ _ _ _; rw [hw2]; exact (T7.out.s1at6_15 (.int .i64 (-1)))
  clear hw2
  clear HB7 S7 C7 D7 T7 O7 P7 BT7
  have O8 := hid (O_BT.out.below BT8.out)
  have P8 := hid (P_BT.out.below BT8.out)
  clear BT8
  have v1 : ((U.hp.objs.length : Int) == 13) = true := by rw [HU1.out]; rfl
  have v2 : (U.proc == 24) = true := by rw [HU2.out]; rfl
  have v3 : (12 : Int) < (U.hp.objs.length : Int) := by rw [HU1.out]; decide
  have v4 : 12 < U.hp.objs.length := by rw [HU1.out]; decide
  have s_0 := S8.out.cell 0
  have s_1 := S8.out.cell 1
  have s_2 := S8.out.cell 2
  have s_3 := S8.out.cell 3
  have s_4 := S8.out.cell 4
  have s_5 := S8.out.cell 5
  have s_6 := S8.out.cell 6
  have s_7 := S8.out.cell 7
  simp only [List.getElem?_toArray, List.getElem?_cons_zero, List.getElem?_cons_succ] at s_0 s_1 s_2 s_3 s_4 s_5 s_6 s_7
  have c_0 := C8.out.cell 0
  have c_1 := C8.out.cell 1
  have c_2 := C8.out.cell 2
  have c_3 := C8.out.cell 3
  have c_4 := C8.out.cell 4
  have c_5 := C8.out.cell 5
  have c_6 := C8.out.cell 6
  have c_7 := C8.out.cell 7
  simp only [List.getElem?_toArray, List.getElem?_cons_zero, List.getElem?_cons_succ] at c_0 c_1 c_2 c_3 c_4 c_5 c_6 c_7
  have d_0 := D8.out.cell 0
  have d_1 := D8.out.cell 1
  have d_2 := D8.out.cell 2
  have d_3 := D8.out.cell 3
  have d_4 := D8.out.cell 4
  have d_5 := D8.out.cell 5
  have d_6 := D8.out.cell 6
  have d_7 := D8.out.cell 7
  simp only [List.getElem?_toArray, List.getElem?_cons_zero, List.getElem?_cons_succ] at d_0 d_1 d_2 d_3 d_4 d_5 d_6 d_7
  have t_0 := T8.out.cell 0
  have t_1 := T8.out.cell 1
  have t_2 := T8.out.cell 2
  have t_3 := T8.out.cell 3
  have t_4 := T8.out.cell 4
  have t_5 := T8.out.cell 5
  have t_6 := T8.out.cell 6
  have t_7 := T8.out.cell 7
  simp only [List.getElem?_toArray, List.getElem?_cons_zero, List.getElem?_cons_succ] at t_0 t_1 t_2 t_3 t_4 t_5 t_6 t_7
  go_wp2_with fail
  refine (cckL15 HK.out A1 c1 _ O8.out fitT15).mono ?_
  rintro e w9 ⟨rfl, hb⟩
  clear s_0 s_1 s_2 s_3 s_4 s_5 s_6 s_7 c_0 c_1 c_2 c_3 c_4 c_5 c_6 c_7 d_0 d_1 d_2 d_3 d_4 d_5 d_6 d_7 t_0 t_1 t_2 t_3 t_4 t_5 t_6 t_7
  have HB9 := hid (then_w HB8.out hb)
  have S9 := hid (S8.out.later hb)
  have C9 := hid (C8.out.later hb)
  have D9 := hid (D8.out.later hb)
  have T9 := hid (T8.out.later hb)
  have O9 := hid (O8.out.below hb)
  have P9 := hid (P8.out.below hb)
  clear hb
  clear HB8 S8 C8 D8 T8 O8 P8
  have s_0 := S9.out.cell 0
  have s_1 := S9.out.cell 1
  have s_2 := S9.out.cell 2
  have s_3 := S9.out.cell 3
  have s_4 := S9.out.cell 4
  have s_5 := S9.out.cell 5
  have s_6 := S9.out.cell 6
  have s_7 := S9.out.cell 7
  simp only [List.getElem?_toArray, List.getElem?_cons_zero, List.getElem?_cons_succ] at s_0 s_1 s_2 s_3 s_4 s_5 s_6 s_7
  have c_0 := C9.out.cell 0
  have c_1 := C9.out.cell 1
  have c_2 := C9.out.cell 2
  have c_3 := C9.out.cell 3
  have c_4 := C9.out.cell 4
  have c_5 := C9.out.cell 5
  have c_6 := C9.out.cell 6
  have c_7 := C9.out.cell 7
  simp only [List.getElem?_toArray, List.getElem?_cons_zero, List.getElem?_cons_succ] at c_0 c_1 c_2 c_3 c_4 c_5 c_6 c_7
  have d_0 := D9.out.cell 0
  have d_1 := D9.out.cell 1
  have d_2 := D9.out.cell 2
  have d_3 := D9.out.cell 3
  have d_4 := D9.out.cell 4
  have d_5 := D9.out.cell 5
  have d_6 := D9.out.cell 6
  have d_7 := D9.out.cell 7
  simp only [List.getElem?_toArray, List.getElem?_cons_zero, List.getElem?_cons_succ] at d_0 d_1 d_2 d_3 d_4 d_5 d_6 d_7
  have t_0 := T9.out.cell 0
  have t_1 := T9.out.cell 1
  have t_2 := T9.out.cell 2
  have t_3 := T9.out.cell 3
  have t_4 := T9.out.cell 4
  have t_5 := T9.out.cell 5
  have t_6 := T9.out.cell 6
  have t_7 := T9.out.cell 7
  simp only [List.getElem?_toArray, List.getElem?_cons_zero, List.getElem?_cons_succ] at t_0 t_1 t_2 t_3 t_4 t_5 t_6 t_7
  go_wp2_with fail
  refine (cckL15 (ckI_no ckN15) A1 c1 _ O9.out fitT15).mono ?_
  rintro e w10 ⟨rfl, hb⟩
  clear s_0 s_1 s_2 s_3 s_4 s_5 s_6 s_7 c_0 c_1 c_2 c_3 c_4 c_5 c_6 c_7 d_0 d_1 d_2 d_3 d_4 d_5 d_6 d_7 t_0 t_1 t_2 t_3 t_4 t_5 t_6 t_7
  have HB10 := hid (then_w HB9.out hb)
  have S10 := hid (S9.out.later hb)
  have C10 := hid (C9.out.later hb)
  have D10 := hid (D9.out.later hb)
  have T10 := hid (T9.out.later hb)
  have O10 := hid (O9.out.below hb)
  have P10 := hid (P9.out.below hb)
  clear hb
  clear HB9 S9 C9 D9 T9 O9 P9
  obtain ⟨bO, oO, hA2, hltO, hcO⟩ := P10.out (by omega)
  subst hA2
  obtain ⟨S_, d_, h1, -, -, -⟩ := hcO 12 o HU3.out
  obtain ⟨-, -, -, -, -, z5⟩ := h1
  rw [HU4.out] at z5
  clear hltO hcO
  have s_0 := S10.out.cell 0
  have s_1 := S10.out.cell 1
  have s_2 := S10.out.cell 2
  have s_3 := S10.out.cell 3
  have s_4 := S10.out.cell 4
  have s_5 := S10.out.cell 5
  have s_6 := S10.out.cell 6
  have s_7 := S10.out.cell 7
  simp only [List.getElem?_toArray, List.getElem?_cons_zero, List.getElem?_cons_succ] at s_0 s_1 s_2 s_3 s_4 s_5 s_6 s_7
  have c_0 := C10.out.cell 0
  have c_1 := C10.out.cell 1
  have c_2 := C10.out.cell 2
  have c_3 := C10.out.cell 3
  have c_4 := C10.out.cell 4
  have c_5 := C10.out.cell 5
  have c_6 := C10.out.cell 6
  have c_7 := C10.out.cell 7
  simp only [List.getElem?_toArray, List.getElem?_cons_zero, List.getElem?_cons_succ] at c_0 c_1 c_2 c_3 c_4 c_5 c_6 c_7
  have d_0 := D10.out.cell 0
  have d_1 := D10.out.cell 1
  have d_2 := D10.out.cell 2
  have d_3 := D10.out.cell 3
  have d_4 := D10.out.cell 4
  have d_5 := D10.out.cell 5
  have d_6 := D10.out.cell 6
  have d_7 := D10.out.cell 7
  simp only [List.getElem?_toArray, List.getElem?_cons_zero, List.getElem?_cons_succ] at d_0 d_1 d_2 d_3 d_4 d_5 d_6 d_7
  have t_0 := T10.out.cell 0
  have t_1 := T10.out.cell 1
  have t_2 := T10.out.cell 2
  have t_3 := T10.out.cell 3
  have t_4 := T10.out.cell 4
  have t_5 := T10.out.cell 5
  have t_6 := T10.out.cell 6
  have t_7 := T10.out.cell 7
  simp only [List.getElem?_toArray, List.getElem?_cons_zero, List.getElem?_cons_succ] at t_0 t_1 t_2 t_3 t_4 t_5 t_6 t_7
  go_wp2_with fail
  refine (csameL15 HUS.out A1 c1 (some ⟨bO, oO, none⟩) c2 _ O10.out fitT15 P10.out HUF.out).mono ?_
  rintro e w11 ⟨rfl, hb⟩
  clear s_0 s_1 s_2 s_3 s_4 s_5 s_6 s_7 c_0 c_1 c_2 c_3 c_4 c_5 c_6 c_7 d_0 d_1 d_2 d_3 d_4 d_5 d_6 d_7 t_0 t_1 t_2 t_3 t_4 t_5 t_6 t_7
  clear z5
  have HB11 := hid (then_w HB10.out hb)
  have S11 := hid (S10.out.later hb)
  have C11 := hid (C10.out.later hb)
  have D11 := hid (D10.out.later hb)
  have T11 := hid (T10.out.later hb)
  have O11 := hid (O10.out.below hb)
  have P11 := hid (P10.out.below hb)
  clear hb
  clear HB10 S10 C10 D10 T10 O10 P10
  have s_0 := S11.out.cell 0
  have s_1 := S11.out.cell 1
  have s_2 := S11.out.cell 2
  have s_3 := S11.out.cell 3
  have s_4 := S11.out.cell 4
  have s_5 := S11.out.cell 5
  have s_6 := S11.out.cell 6
  have s_7 := S11.out.cell 7
  simp only [List.getElem?_toArray, List.getElem?_cons_zero, List.getElem?_cons_succ] at s_0 s_1 s_2 s_3 s_4 s_5 s_6 s_7
  have c_0 := C11.out.cell 0
  have c_1 := C11.out.cell 1
  have c_2 := C11.out.cell 2
  have c_3 := C11.out.cell 3
  have c_4 := C11.out.cell 4
  have c_5 := C11.out.cell 5
  have c_6 := C11.out.cell 6
  have c_7 := C11.out.cell 7
  simp only [List.getElem?_toArray, List.getElem?_cons_zero, List.getElem?_cons_succ] at c_0 c_1 c_2 c_3 c_4 c_5 c_6 c_7
  have d_0 := D11.out.cell 0
  have d_1 := D11.out.cell 1
  have d_2 := D11.out.cell 2
  have d_3 := D11.out.cell 3
  have d_4 := D11.out.cell 4
  have d_5 := D11.out.cell 5
  have d_6 := D11.out.cell 6
  have d_7 := D11.out.cell 7
  simp only [List.getElem?_toArray, List.getElem?_cons_zero, List.getElem?_cons_succ] at d_0 d_1 d_2 d_3 d_4 d_5 d_6 d_7
  have t_0 := T11.out.cell 0
  have t_1 := T11.out.cell 1
  have t_2 := T11.out.cell 2
  have t_3 := T11.out.cell 3
  have t_4 := T11.out.cell 4
  have t_5 := T11.out.cell 5
  have t_6 := T11.out.cell 6
  have t_7 := T11.out.cell 7
  simp only [List.getElem?_toArray, List.getElem?_cons_zero, List.getElem?_cons_succ] at t_0 t_1 t_2 t_3 t_4 t_5 t_6 t_7
  go_wp2_with fail
  refine (csameL15 HN.out A1 c1 A1 c1 _ O11.out fitT15 O11.out fitT15).mono ?_
  rintro e w12 ⟨rfl, hb⟩
  clear s_0 s_1 s_2 s_3 s_4 s_5 s_6 s_7 c_0 c_1 c_2 c_3 c_4 c_5 c_6 c_7 d_0 d_1 d_2 d_3 d_4 d_5 d_6 d_7 t_0 t_1 t_2 t_3 t_4 t_5 t_6 t_7
  have HB12 := hid (then_w HB11.out hb)
  have S12 := hid (S11.out.later hb)
  have C12 := hid (C11.out.later hb)
  have D12 := hid (D11.out.later hb)
  have T12 := hid (T11.out.later hb)
  have O12 := hid (O11.out.below hb)
  have P12 := hid (P11.out.below hb)
  clear hb
  clear HB11 S11 C11 D11 T11 O11 P11
  have s_0 := S12.out.cell 0
  have s_1 := S12.out.cell 1
  have s_2 := S12.out.cell 2
  have s_3 := S12.out.cell 3
  have s_4 := S12.out.cell 4
  have s_5 := S12.out.cell 5
  have s_6 := S12.out.cell 6
  have s_7 := S12.out.cell 7
  simp only [List.getElem?_toArray, List.getElem?_cons_zero, List.getElem?_cons_succ] at s_0 s_1 s_2 s_3 s_4 s_5 s_6 s_7
  have c_0 := C12.out.cell 0
  have c_1 := C12.out.cell 1
  have c_2 := C12.out.cell 2
  have c_3 := C12.out.cell 3
  have c_4 := C12.out.cell 4
  have c_5 := C12.out.cell 5
  have c_6 := C12.out.cell 6
  have c_7 := C12.out.cell 7
  simp only [List.getElem?_toArray, List.getElem?_cons_zero, List.getElem?_cons_succ] at c_0 c_1 c_2 c_3 c_4 c_5 c_6 c_7
  have d_0 := D12.out.cell 0
  have d_1 := D12.out.cell 1
  have d_2 := D12.out.cell 2
  have d_3 := D12.out.cell 3
  have d_4 := D12.out.cell 4
  have d_5 := D12.out.cell 5
  have d_6 := D12.out.cell 6
  have d_7 := D12.out.cell 7
  simp only [List.getElem?_toArray, List.getElem?_cons_zero, List.getElem?_cons_succ] at d_0 d_1 d_2 d_3 d_4 d_5 d_6 d_7
  have t_0 := T12.out.cell 0
  have t_1 := T12.out.cell 1
  have t_2 := T12.out.cell 2
  have t_3 := T12.out.cell 3
  have t_4 := T12.out.cell 4
  have t_5 := T12.out.cell 5
  have t_6 := T12.out.cell 6
  have t_7 := T12.out.cell 7
  simp only [List.getElem?_toArray, List.getElem?_cons_zero, List.getElem?_cons_succ] at t_0 t_1 t_2 t_3 t_4 t_5 t_6 t_7
  go_wp2_with fail
  refine (crootsN15 (n := 14) (by decide +kernel) A1 c1 _ O12.out fitT15).mono ?_
  rintro e w13 ⟨⟨B1, e1, rfl⟩, hb⟩
  clear s_0 s_1 s_2 s_3 s_4 s_5 s_6 s_7 c_0 c_1 c_2 c_3 c_4 c_5 c_6 c_7 d_0 d_1 d_2 d_3 d_4 d_5 d_6 d_7 t_0 t_1 t_2 t_3 t_4 t_5 t_6 t_7
  have HB13 := hid (then_w HB12.out hb)
  have S13 := hid (S12.out.later hb)
  have C13 := hid (C12.out.later hb)
  have D13 := hid (D12.out.later hb)
  have T13 := hid (T12.out.later hb)
  have O13 := hid (O12.out.below hb)
  have P13 := hid (P12.out.below hb)
  clear hb
  clear HB12 S12 C12 D12 T12 O12 P12
  have s_0 := S13.out.cell 0
  have s_1 := S13.out.cell 1
  have s_2 := S13.out.cell 2
  have s_3 := S13.out.cell 3
  have s_4 := S13.out.cell 4
  have s_5 := S13.out.cell 5
  have s_6 := S13.out.cell 6
  have s_7 := S13.out.cell 7
  simp only [List.getElem?_toArray, List.getElem?_cons_zero, List.getElem?_cons_succ] at s_0 s_1 s_2 s_3 s_4 s_5 s_6 s_7
  have c_0 := C13.out.cell 0
  have c_1 := C13.out.cell 1
  have c_2 := C13.out.cell 2
  have c_3 := C13.out.cell 3
  have c_4 := C13.out.cell 4
  have c_5 := C13.out.cell 5
  have c_6 := C13.out.cell 6
  have c_7 := C13.out.cell 7
  simp only [List.getElem?_toArray, List.getElem?_cons_zero, List.getElem?_cons_succ] at c_0 c_1 c_2 c_3 c_4 c_5 c_6 c_7
  have d_0 := D13.out.cell 0
  have d_1 := D13.out.cell 1
  have d_2 := D13.out.cell 2
  have d_3 := D13.out.cell 3
  have d_4 := D13.out.cell 4
  have d_5 := D13.out.cell 5
  have d_6 := D13.out.cell 6
  have d_7 := D13.out.cell 7
  simp only [List.getElem?_toArray, List.getElem?_cons_zero, List.getElem?_cons_succ] at d_0 d_1 d_2 d_3 d_4 d_5 d_6 d_7
  have t_0 := T13.out.cell 0
  have t_1 := T13.out.cell 1
  have t_2 := T13.out.cell 2
  have t_3 := T13.out.cell 3
  have t_4 := T13.out.cell 4
  have t_5 := T13.out.cell 5
  have t_6 := T13.out.cell 6
  have t_7 := T13.out.cell 7
  simp only [List.getElem?_toArray, List.getElem?_cons_zero, List.getElem?_cons_succ] at t_0 t_1 t_2 t_3 t_4 t_5 t_6 t_7
  go_wp2_with fail
  refine (crootsN15 (s := N15) (n := 0) (by decide +kernel) A1 c1 _ O13.out fitT15).mono ?_
  rintro e w14 ⟨⟨B2, e2, rfl⟩, hb⟩
  clear s_0 s_1 s_2 s_3 s_4 s_5 s_6 s_7 c_0 c_1 c_2 c_3 c_4 c_5 c_6 c_7 d_0 d_1 d_2 d_3 d_4 d_5 d_6 d_7 t_0 t_1 t_2 t_3 t_4 t_5 t_6 t_7
  have HB14 := hid (then_w HB13.out hb)
  have S14 := hid (S13.out.later hb)
  have C14 := hid (C13.out.later hb)
  have D14 := hid (D13.out.later hb)
  have T14 := hid (T13.out.later hb)
  have O14 := hid (O13.out.below hb)
  have P14 := hid (P13.out.below hb)
  clear hb
  clear HB13 S13 C13 D13 T13 O13 P13
  go_wp2_with fail
  go_ret
  exact ⟨rfl, HB14.out⟩
end Go.Proofs.YtnilempeldlieaaGreat
