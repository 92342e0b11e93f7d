/- What a method has: the program's word, of a heap that may be. -/
import Derived.Test.YtalfbdigjaibkaaGreatTK12
import Derived.Test.YtalfbdigjaibkaaGreatTU12
import Derived.Test.YtalfbdigjaibkaaGreatTD11
import Derived.Test.YtalfbdigjaibkaaGreatSD12
import Derived.Test.YtalfbdigjaibkaaGreatC
namespace Go.Proofs.YtalfbdigjaibkaaGreat
open Go.RowKit
set_option maxRecDepth 100000
/-- a method and an error are returned, in memory of the call's own -/
def PmP12 (w : World) (x : Mt) (er : Int) (e : Ending) (w' : World) : Prop := ∃ CA cc LA lc, e = .returned (.tuple #[.agg #[.int .i64 x.prim, .int .i64 x.args, .int .i64 x.temps, .slice CA x.code.length cc, .slice LA x.lits.length lc], .int .i64 er]) ∧ InsR w' CA x.code ∧ IntsR w' LA x.lits ∧ Below w.heap.size w w' ∧ (∀ k o s, CA = some ⟨k, o, s⟩ → w.heap.size ≤ k) ∧ ∀ k o s, LA = some ⟨k, o, s⟩ → w.heap.size ≤ k
theorem pm_err12 {w w' : World} (hb : Below w.heap.size w w') : PmP12 w mt0 120 (.returned (.tuple #[.agg #[.int .i64 0, .int .i64 0, .int .i64 0, .slice none 0 0, .slice none 0 0], .int .i64 120])) w' :=
  ⟨none, 0, none, 0, rfl, fun h => absurd h (by decide), fun h => absurd h (by decide), hb, fun _ _ _ e => (by cases e), fun _ _ _ e => (by cases e)⟩
/-- who has slots is of Kind Pointers -/
theorem kind_zero12 {h : Hp} {v : Int} (hm : mayB h = true) (hr : refB h.objs.length v = true) (hl : 0 < (obAt h v).slots.length) : (obAt h v).kind = 0 := by
  obtain ⟨i, hi, -, ho⟩ := obAt_get hr
  have hk := ob_kind (may_all hm _ (List.mem_of_getElem? ho))
  unfold kiB at hk
  by_cases h0 : (obAt h v).kind = 0
  next =>
   exact h0
  next =>
   rw [if_neg h0] at hk
   by_cases h1 : (obAt h v).kind = 1
   next =>
    rw [if_pos h1] at hk
    simp only [Bool.and_eq_true, decide_eq_true_eq] at hk
    rw [hk.1.1] at hl; exact absurd hl (by simp)
   next =>
    rw [if_neg h1] at hk
    by_cases h2 : (obAt h v).kind = 2
    next =>
     rw [if_pos h2] at hk
     simp only [Bool.and_eq_true, decide_eq_true_eq] at hk
     rw [hk.1.1] at hl; exact absurd hl (by simp)
    next =>
     rw [if_neg h2] at hk; cases hk
theorem sls_ref12 {h : Hp} {v : Int} (hm : mayB h = true) (hr : refB h.objs.length v = true) : sls12 h v = (obAt h v).slots := by
  unfold sls12
  by_cases hl : 0 < (obAt h v).slots.length
  next =>
   rw [if_pos (kd_is12 hr (kind_zero12 hm hr hl))]
  next =>
   have e : (obAt h v).slots = [] := List.eq_nil_of_length_eq_zero (by omega)
   rw [e]; simp
theorem sls_noref12 {h : Hp} {v : Int} (hr : refB h.objs.length v = false) : sls12 h v = [] := by
  unfold sls12; rw [kd_no12 hr]; rfl
theorem sm_wi12 {v b : Int} : wi12 v 0 b = true → sm12 v b = nV v := fun e => by
  unfold wi12 at e
  simp only [Bool.and_eq_true, decide_eq_true_eq] at e
  unfold sm12
  rw [if_pos ⟨e.1, e.2.1, e.2.2⟩]
theorem sm_nowi12 {v b : Int} : wi12 v 0 b = false → sm12 v b = -1 := fun e => by
  unfold wi12 at e
  unfold sm12
  rw [if_neg]
  rintro ⟨h1, h2, h3⟩
  rw [h1, decide_eq_true h2, decide_eq_true h3] at e
  cases e
theorem wi_at12 {v a b : Int} (h0 : 0 ≤ a) : wi12 v a b = true ↔ a ≤ sm12 v b := by
  unfold wi12 sm12
  simp only [Bool.and_eq_true, decide_eq_true_eq]
  constructor
  next =>
   rintro ⟨h1, h2, h3⟩
   rw [if_pos ⟨h1, by omega, h3⟩]; exact h2
  next =>
   intro h
   by_cases g : nB v = true ∧ 0 ≤ nV v ∧ nV v ≤ b
   next =>
    rw [if_pos g] at h; exact ⟨g.1, h, g.2.2⟩
   next =>
    rw [if_neg g] at h; omega
/-- what stands against a method, in the program's order -/
theorem pm_prim12 {h : Hp} {m : Int} (e : wi12 (sl12 h m 0) 0 63 = false) : mb12 h m = false := by
  unfold mb12 mx12; rw [sm_nowi12 e]; simp
theorem pm_args12 {h : Hp} {m : Int} (e : wi12 (sl12 h m 1) 0 4 = false) : mb12 h m = false := by
  unfold mb12 mx12; rw [sm_nowi12 e]; simp
theorem pm_temps12 {h : Hp} {m : Int} (e1 : wi12 (sl12 h m 1) 0 4 = true) (e : wi12 (sl12 h m 2) (nV (sl12 h m 1)) 8 = false) : mb12 h m = false := by
  have h0 : 0 ≤ nV (sl12 h m 1) := by
    have := (wi_at12 (Int.le_refl 0)).1 e1
    rw [sm_wi12 e1] at this; exact this
  have : ¬ nV (sl12 h m 1) ≤ sm12 (sl12 h m 2) 8 := fun g => by rw [(wi_at12 h0).2 g] at e; cases e
  unfold mb12 mx12; rw [sm_wi12 e1]; simp [this]
theorem pm_code12 {h : Hp} {m : Int} (e : (cd12 h m).2 ≠ 0) : mb12 h m = false := by unfold mb12; simp [e]
theorem pm_yes12 {h : Hp} {m : Int} (e0 : wi12 (sl12 h m 0) 0 63 = true) (e1 : wi12 (sl12 h m 1) 0 4 = true) (e2 : wi12 (sl12 h m 2) (nV (sl12 h m 1)) 8 = true) :
    mx12 h m = ⟨nV (sl12 h m 0), nV (sl12 h m 1), nV (sl12 h m 2), (cd12 h m).1, sls12 h (sl12 h m 4)⟩ := by
  have h0 : 0 ≤ nV (sl12 h m 1) := by
    have := (wi_at12 (Int.le_refl 0)).1 e1
    rw [sm_wi12 e1] at this; exact this
  have e3 : wi12 (sl12 h m 2) 0 8 = true := (wi_at12 (Int.le_refl 0)).2 (Int.le_trans h0 ((wi_at12 h0).1 e2))
  unfold mx12
  rw [sm_wi12 e0, sm_wi12 e1, sm_wi12 e3]
theorem pm_all12 {h : Hp} {m : Int} (hm : mayB h = true) (h5 : (sls12 h m).length = 5) (e0 : wi12 (sl12 h m 0) 0 63 = true) (e1 : wi12 (sl12 h m 1) 0 4 = true) (e2 : wi12 (sl12 h m 2) (nV (sl12 h m 1)) 8 = true)
    (e3 : kd12 h (sl12 h m 3) 1 = true) (e4 : kd12 h (sl12 h m 4) 0 = true) (e5 : (cd12 h m).2 = 0) (e6 : ck11 (cd12 h m).1 (sls12 h (sl12 h m 4)).length (nV (sl12 h m 2)) = 0) :
    mt12 h m = (⟨nV (sl12 h m 0), nV (sl12 h m 1), nV (sl12 h m 2), (cd12 h m).1, sls12 h (sl12 h m 4)⟩, 0) := by
  have hx := pm_yes12 e0 e1 e2
  have a0 := (wi_at12 (Int.le_refl 0)).1 e0
  have a1 := (wi_at12 (Int.le_refl 0)).1 e1
  rw [sm_wi12 e0] at a0
  rw [sm_wi12 e1] at a1
  have a2 := (wi_at12 a1).1 e2
  have e3' : wi12 (sl12 h m 2) 0 8 = true := (wi_at12 (Int.le_refl 0)).2 (Int.le_trans a1 a2)
  rw [sm_wi12 e3'] at a2
  unfold mt12
  rw [if_pos, hx]
  unfold mb12
  rw [hx]
  simp [hm, h5, e3, e4, e5, e6, a0, a1, a2]
theorem pm_check12 {h : Hp} {m : Int} (e0 : wi12 (sl12 h m 0) 0 63 = true) (e1 : wi12 (sl12 h m 1) 0 4 = true) (e2 : wi12 (sl12 h m 2) (nV (sl12 h m 1)) 8 = true)
    (e6 : ck11 (cd12 h m).1 (sls12 h (sl12 h m 4)).length (nV (sl12 h m 2)) ≠ 0) : mb12 h m = false := by
  unfold mb12
  rw [pm_yes12 e0 e1 e2]
  simp [e6]
set_option maxHeartbeats 4000000 in
theorem pmeth_any12 (h : Hp) (m : Int) (A : Option Addr) (c : Nat) (w : World) (hs : ObsR w A h.objs) (hm : mayB h = true) :
    Calls Tryz.prog 37 #[.agg #[.slice A h.objs.length c, .int .i64 h.cap, .int .i64 h.last], .int .i64 m] w (PmP12 w (mt12 h m).1 (mt12 h m).2) := by
  obtain ⟨w0, hw0⟩ : ∃ w0, w0 = (w.alloc (.cells #[Value.slice A h.objs.length c, Value.int .i64 h.cap, Value.int .i64 h.last] 24)).alloc (.cells #[.int .i64 0, .int .i64 0, .int .i64 0, .slice none 0 0, .slice none 0 0] 32) := ⟨_, rfl⟩
  have HB0 : Hid (Below w.heap.size w w0) := by show Below _ _ _; rw [hw0]; exact below_alloc2 w _ _
  have HX0 : Hid (Lies w0 w.heap.size 24 #[Value.slice A h.objs.length c, Value.int .i64 h.cap, Value.int .i64 h.last]) := by show Lies _ _ _ _; rw [hw0]; exact ((Lies.new w _ _).alloc _)
  have HK0 : Hid (Lies w0 (w.heap.size + 1) 32 #[.int .i64 0, .int .i64 0, .int .i64 0, .slice none 0 0, .slice none 0 0]) := by
    show Lies _ _ _ _
    have := (Lies.new (w.alloc (.cells #[Value.slice A h.objs.length c, Value.int .i64 h.cap, Value.int .i64 h.last] 24)) 32 #[.int .i64 0, .int .i64 0, .int .i64 0, .slice none 0 0, .slice none 0 0])
    rw [hw0]
    simpa [Hid] using this
  have HS := hid hs
  have HM := hid hm
  clear hs hm
  go_enter Tryz.func37, Tryz.ntmps37
  go_upto_region 1 with fail
  rw [← hw0]
  clear hw0
  obtain ⟨x0, x1, x2⟩ := HX0.out.c3
  go_wp2_with fail
  refine (pfind_any12 h m A c _).mono ?_
  rintro e w1 ⟨rfl, hb⟩
  have HB1 := hid (then_w HB0.out hb)
  have HX1 := hid (HX0.out.later hb)
  have HK1 := hid (HK0.out.later hb)
  clear hb x0 x1 x2
  cases hr : refB h.objs.length m
  next =>
   have HL : Hid ((sls12 h m).length ≠ 5) := by show _ ≠ _; rw [sls_noref12 hr]; decide
   clear hr
   clear HX0 HK0 HB0
   have HRR : Hid (mt12 h m = (mt0, 120)) := mt_err12 (mb_len12 HL.out)
   obtain ⟨u0, u1, u2, u3, u4⟩ := HK1.out.c5
   obtain ⟨uf0, uf1, uf2, uf3, uf4⟩ := HK1.out.f5
   go_wp2_with fail
   have K0 := (((((HK1.out.set_ 0 (.int .i64 0)).set_ 1 (.int .i64 0)).set_ 2 (.int .i64 0)).set_ 3 (.slice none 0 0)).set_ 4 (.slice none 0 0))
   have r0 := K0.cell 0
   have r1 := K0.cell 1
   have r2 := K0.cell 2
   have r3 := K0.cell 3
   have r4 := K0.cell 4
   simp only [List.setIfInBounds_toArray, List.set_cons_zero, List.set_cons_succ, List.getElem?_toArray, List.getElem?_cons_zero, List.getElem?_cons_succ] at r0 r1 r2 r3 r4
   refine bodyPost_ret (v := .tuple #[.agg #[.int .i64 0, .int .i64 0, .int .i64 0, .slice none 0 0, .slice none 0 0], .int .i64 120]) (by simp [results, Tryz.results37, go_sem, r0, r1, r2, r3, r4]) rfl ?_
   have HBE := (((((HB1.out).setCell (p := ⟨w.heap.size + 1, 0, none⟩) (by simp) (.int .i64 0)).setCell (p := ⟨w.heap.size + 1, 1, none⟩) (by simp) (.int .i64 0)).setCell (p := ⟨w.heap.size + 1, 2, none⟩) (by simp) (.int .i64 0)).setCell (p := ⟨w.heap.size + 1, 3, none⟩) (by simp) (.slice none 0 0)).setCell (p := ⟨w.heap.size + 1, 4, none⟩) (by simp) (.slice none 0 0)
   rw [HRR.out]
   exact pm_err12 HBE
  obtain ⟨i, b, off, S, d, hi, hil, rfl, hc, hint, hnil, hlt⟩ := ob_read12 HS.out HB1.out hr
  have HI : Hid (refV h.objs.length m = i) := (refV_I12 hr).trans hi
  have hilI : (i : Int) < (h.objs.length : Int) := by omega
  have hi0 : (0 : Int) ≤ (i : Int) := by omega
  have HSL := hid (sls_ref12 HM.out hr)
  rw [HI.out]
  obtain ⟨l, hl⟩ : ∃ l, l = (obAt h m).slots := ⟨_, rfl⟩
  have y2 := hc.c2
  rw [← hl] at y2 hint HSL
  have HIN := hid hint
  clear hi hc hint hnil hr hl hlt HX0 HK0 HB0
  obtain ⟨x0, x1, x2⟩ := HX1.out.c3
  by_cases h5 : l.length = 5
  case neg =>
    have hlI : ¬ ((l.length : Int) = 5) := by omega
    have hlB : ((l.length : Int) != 5) = true := bne_iff_ne.2 hlI
    have HL : Hid ((sls12 h m).length ≠ 5) := by show _ ≠ _; rw [HSL.out]; exact h5
    clear h5
    have HRR : Hid (mt12 h m = (mt0, 120)) := mt_err12 (mb_len12 HL.out)
    obtain ⟨u0, u1, u2, u3, u4⟩ := HK1.out.c5
    obtain ⟨uf0, uf1, uf2, uf3, uf4⟩ := HK1.out.f5
    go_wp2_with fail
    have K0 := (((((HK1.out.set_ 0 (.int .i64 0)).set_ 1 (.int .i64 0)).set_ 2 (.int .i64 0)).set_ 3 (.slice none 0 0)).set_ 4 (.slice none 0 0))
    have r0 := K0.cell 0
    have r1 := K0.cell 1
    have r2 := K0.cell 2
    have r3 := K0.cell 3
    have r4 := K0.cell 4
    simp only [List.setIfInBounds_toArray, List.set_cons_zero, List.set_cons_succ, List.getElem?_toArray, List.getElem?_cons_zero, List.getElem?_cons_succ] at r0 r1 r2 r3 r4
    refine bodyPost_ret (v := .tuple #[.agg #[.int .i64 0, .int .i64 0, .int .i64 0, .slice none 0 0, .slice none 0 0], .int .i64 120]) (by simp [results, Tryz.results37, go_sem, r0, r1, r2, r3, r4]) rfl ?_
    have HBE := (((((HB1.out).setCell (p := ⟨w.heap.size + 1, 0, none⟩) (by simp) (.int .i64 0)).setCell (p := ⟨w.heap.size + 1, 1, none⟩) (by simp) (.int .i64 0)).setCell (p := ⟨w.heap.size + 1, 2, none⟩) (by simp) (.int .i64 0)).setCell (p := ⟨w.heap.size + 1, 3, none⟩) (by simp) (.slice none 0 0)).setCell (p := ⟨w.heap.size + 1, 4, none⟩) (by simp) (.slice none 0 0)
    rw [HRR.out]
    exact pm_err12 HBE
  have hlI : ((l.length : Int) = 5) := by omega
  have hlB : ((l.length : Int) != 5) = false := by rw [hlI]; rfl
  have H5 := hid h5
  obtain ⟨bl, ol, rfl, hbl, hcl⟩ := HIN.out (by omega)
  have hp : ∀ k, k < 5 → w1.cell? ⟨bl, ol + k, none⟩ = some (.int .i64 (sl12 h m k)) := fun k hk => hcl k _ (by
    unfold sl12
    rw [HSL.out, List.getElem?_eq_getElem (by omega), List.getD_eq_getElem?_getD, List.getElem?_eq_getElem (by omega)]; rfl)
  have q0 := hp 0 (by decide)
  have q1 := hp 1 (by decide)
  have q2 := hp 2 (by decide)
  have q3 := hp 3 (by decide)
  have q4 := hp 4 (by decide)
  rw [Nat.add_zero] at q0
  obtain ⟨v0, hv0⟩ : ∃ v, v = sl12 h m 0 := ⟨_, rfl⟩
  obtain ⟨v1, hv1⟩ : ∃ v, v = sl12 h m 1 := ⟨_, rfl⟩
  obtain ⟨v2, hv2⟩ : ∃ v, v = sl12 h m 2 := ⟨_, rfl⟩
  obtain ⟨v3, hv3⟩ : ∃ v, v = sl12 h m 3 := ⟨_, rfl⟩
  obtain ⟨v4, hv4⟩ : ∃ v, v = sl12 h m 4 := ⟨_, rfl⟩
  rw [← hv0] at q0
  rw [← hv1] at q1
  rw [← hv2] at q2
  rw [← hv3] at q3
  rw [← hv4] at q4
  have V0 := hid hv0
  have V1 := hid hv1
  have V2 := hid hv2
  have V3 := hid hv3
  have V4 := hid hv4
  clear hp hcl hbl hv0 hv1 hv2 hv3 hv4 h5
  obtain ⟨b0, hb0⟩ : ∃ b, b = wi12 v0 0 63 := ⟨_, rfl⟩
  have B0 := hid hb0
  obtain ⟨b1, hb1⟩ : ∃ b, b = wi12 v1 0 4 := ⟨_, rfl⟩
  have B1 := hid hb1
  obtain ⟨b2, hb2⟩ : ∃ b, b = wi12 v2 (nV v1) 8 := ⟨_, rfl⟩
  have B2 := hid hb2
  clear hb0 hb1 hb2
  go_wp2_with fail
  refine (pwithin_any12 v0 0 63 _).mono ?_
  rintro e wq ⟨rfl, hb⟩
  subst hb
  rw [← B0.out]
  go_wp2_with fail
  refine (pwithin_any12 v1 0 4 _).mono ?_
  rintro e wq ⟨rfl, hb⟩
  subst hb
  rw [← B1.out]
  obtain ⟨n1, hn1⟩ : ∃ n, n = nV v1 := ⟨_, rfl⟩
  have N1 := hid hn1
  rw [← hn1] at B2 ⊢
  clear hn1
  go_wp2_with fail
  refine (pwithin_any12 v2 n1 8 _).mono ?_
  rintro e wq ⟨rfl, hb⟩
  subst hb
  rw [← B2.out]
  obtain ⟨n0, hn0⟩ : ∃ n, n = nV v0 := ⟨_, rfl⟩
  obtain ⟨n2, hn2⟩ : ∃ n, n = nV v2 := ⟨_, rfl⟩
  have N0 := hid hn0
  have N2 := hid hn2
  rw [← hn0, ← hn2]
  clear hn0 hn2
  obtain ⟨k3, hk3⟩ : ∃ k, k = kd12 h v3 1 := ⟨_, rfl⟩
  obtain ⟨k4, hk4⟩ : ∃ k, k = kd12 h v4 0 := ⟨_, rfl⟩
  have K3 := hid hk3
  have K4 := hid hk4
  clear hk3 hk4
  go_upto_region 8 with fail
  go_cut [15, 16] from 68 to 75 (fun p z wx => ∃ bx o3 S3 d3, p = .pointer (some ⟨bx, 0, none⟩) ∧ z = .bool k3 ∧ Hid (Lies wx bx 60 #[.int .i64 o3.cls, .int .i64 o3.kind, .slice S3 o3.slots.length d3, .string o3.text, .int .i64 o3.bits, .int .i64 o3.hash]) ∧ Hid (Below w1.heap.size w1 wx) ∧ Hid (k3 = true → o3 = obAt h v3))
  case first =>
    have BB0 := hid ((Below.refl w1.heap.size w1).drew)
    have z0 := cell_later BB0.out x0
    have z1 := cell_later BB0.out x1
    have z2 := cell_later BB0.out x2
    have z3 := cell_later BB0.out q3
    refine wp_region_held_drew (S := (fun w' => w'.cell? ⟨w.heap.size, 0, none⟩ = some (.slice (some ⟨b, off, none⟩) h.objs.length c) ∧ w'.cell? ⟨w.heap.size, 1, none⟩ = some (.int .i64 h.cap) ∧ w'.cell? ⟨w.heap.size, 2, none⟩ = some (.int .i64 h.last) ∧ w'.cell? ⟨bl, ol + 3, none⟩ = some (.int .i64 v3))) (by kernel_rfl) ?_ (fun hH0 => ?_)
    next =>
     exact ⟨cell_later BB0.out x0, cell_later BB0.out x1, cell_later BB0.out x2, cell_later BB0.out q3⟩
    refine tkI 0 ⟨some 69, .load 24 (.tmp 2), 24, "frame.go:170", #[], none⟩ ?v1 rfl (by kernel_rfl) (by rfl) ?y1 ?_
    case y1 => intro w hSw; (try dsimp only at hSw); go_simp; all_goals with_reducible rfl
    try simp only [apt12]
    refine tkI 1 ⟨some 70, .move (.tmp 8), 30, "frame.go:170", #[], none⟩ ?v2 rfl (by kernel_rfl) (by rfl) ?y2 ?_
    case y2 => intro w hSw; (try dsimp only at hSw); go_simp; all_goals with_reducible rfl
    try simp only [apt12]
    refine tkI 2 ⟨some 71, .indexAddr 30 (.tmp 70) (.const (Go.Value.int .i64 3)), 0, "frame.go:170", #[⟨1, .data⟩], none⟩ ?v3 rfl (by kernel_rfl) (by rfl) ?y3 ?_
    case y3 => intro w hSw; (try dsimp only at hSw); go_simp; all_goals with_reducible rfl
    try simp only [apt12]
    refine tkI 3 ⟨some 72, .load 3 (.tmp 71), 3, "frame.go:170", #[⟨2, .data⟩], none⟩ ?v4 rfl (by kernel_rfl) (by rfl) ?y4 ?_
    case y4 => intro w hSw; (try dsimp only at hSw); go_simp; all_goals with_reducible rfl
    try simp only [apt12]
    refine wpAnyH_ready (rs := [4, 8]) (by kernel_rfl) (by simp) ?_
    refine AllReadyH.cons (i := 4) (o := ⟨some 73, .call { callee := .value (.func 74), args := #[.tmp 69, .tmp 72, .const (Go.Value.int .i64 1)], argTypes := #[24, 3, 3] }, 92, "frame.go:170", #[⟨0, .data⟩, ⟨3, .data⟩], none⟩) rfl (fun K hK => ?_) (AllReadyH.cons (i := 8) (o := ⟨some 15, .alloc 60, 0, "frame.go:170", #[], none⟩) rfl (fun K hK => ?_) AllReadyH.nil)
    next =>
     go_simp
     go_at_call 74
     refine (pkind_any12 h v3 1 _ c w _ HS.out (then_w HB1.out BB0.out)).mono ?_
     rintro e u1 ⟨o3, S3, d3, rfl, hin3, hnil3, ho3, hb⟩
     rw [← K3.out] at ho3 ⊢
     have HO3 := hid ho3
     clear hin3 hnil3 ho3
     have BB1 := hid (then_w BB0.out hb)
     refine hK.out _ _ ?_ (fun hH1 => ?_)
     next =>
      exact ⟨cell_later BB1.out x0, cell_later BB1.out x1, cell_later BB1.out x2, cell_later BB1.out q3⟩
     clear hK K
     try simp only [apt12]
     clear hb
     refine tkI 5 ⟨some 68, .move (.tmp 73), 92, "frame.go:170", #[⟨4, .data⟩], none⟩ ?v5 rfl (by kernel_rfl) (by rfl) ?y5 ?_
     case y5 => intro w hSw; (try dsimp only at hSw); go_simp; all_goals with_reducible rfl
     try simp only [apt12]
     refine tkI 6 ⟨some 74, .extract (.tmp 68) 0, 60, "frame.go:170", #[⟨5, .data⟩], none⟩ ?v6 rfl (by kernel_rfl) (by rfl) ?y6 ?_
     case y6 => intro w hSw; (try dsimp only at hSw); go_simp; all_goals with_reducible rfl
     try simp only [apt12]
     refine tkI 7 ⟨some 75, .extract (.tmp 68) 1, 4, "frame.go:170", #[⟨5, .data⟩, ⟨9, .gcOnly .lateStores⟩], none⟩ ?v7 rfl (by kernel_rfl) (by rfl) ?y7 ?_
     case y7 => intro w hSw; (try dsimp only at hSw); go_simp; all_goals with_reducible rfl
     try simp only [apt12]
     refine wpAnyH_ready (rs := [8]) (by kernel_rfl) (by simp) ?_
     refine AllReadyH.cons (i := 8) (o := ⟨some 15, .alloc 60, 0, "frame.go:170", #[], none⟩) rfl (fun K hK => ?_) AllReadyH.nil
     go_simp
     obtain ⟨u2, hu⟩ : ∃ x, x = u1.alloc (.cells #[.int .i64 0, .int .i64 0, .slice none 0 0, .string ⟨#[]⟩, .int .i64 0, .int .i64 0] 60) := ⟨_, rfl⟩
     obtain ⟨bx, hg⟩ : ∃ x, x = u1.heap.size := ⟨_, rfl⟩
     have hb : Below u1.heap.size u1 u2 := by rw [hu]; exact below_alloc u1 _
     have HX9 : Hid (w1.heap.size ≤ bx) := by show _ ≤ _; rw [hg]; exact BB1.out.size
     have LB2 := hid (show Lies u2 bx 60 #[.int .i64 0, .int .i64 0, .slice none 0 0, .string ⟨#[]⟩, .int .i64 0, .int .i64 0] by rw [hu, hg]; exact Lies.new u1 _ _)
     have BB2 := hid (then_w BB1.out hb)
     try simp only [← hg]
     try rw [← hu]
     refine hK.out _ _ ?_ (fun hH2 => ?_)
     next =>
      exact ⟨cell_later BB2.out x0, cell_later BB2.out x1, cell_later BB2.out x2, cell_later BB2.out q3⟩
     clear hK K
     try simp only [apt12]
     clear hb hu hg
     refine wpAnyH_ready (rs := [9]) (by kernel_rfl) (by simp) ?_
     refine AllReadyH.cons (i := 9) (o := ⟨none, .store 60 (.tmp 15) (.tmp 74), 0, "frame.go:170", #[⟨8, .data⟩, ⟨6, .data⟩, ⟨4, .chain⟩, ⟨0, .phase⟩, ⟨1, .phase⟩, ⟨2, .phase⟩, ⟨3, .phase⟩, ⟨4, .phase⟩, ⟨5, .phase⟩, ⟨6, .phase⟩, ⟨7, .textOnly .lateStores⟩, ⟨8, .phase⟩], none⟩) rfl (fun K hK => ?_) AllReadyH.nil
     obtain ⟨r0, r1, r2, r3, r4, r5⟩ := LB2.out.c6
     obtain ⟨rf0, rf1, rf2, rf3, rf4, rf5⟩ := LB2.out.f6
     have BB3 := hid (((((((BB2.out).setCell (p := ⟨bx, 0, none⟩) HX9.out (.int .i64 o3.cls)).setCell (p := ⟨bx, 1, none⟩) HX9.out (.int .i64 o3.kind)).setCell (p := ⟨bx, 2, none⟩) HX9.out (.slice S3 o3.slots.length d3)).setCell (p := ⟨bx, 3, none⟩) HX9.out (.string o3.text)).setCell (p := ⟨bx, 4, none⟩) HX9.out (.int .i64 o3.bits)).setCell (p := ⟨bx, 5, none⟩) HX9.out (.int .i64 o3.hash))
     have LF : Hid (Lies ((((((u2.setCell ⟨bx, 0, none⟩ (.int .i64 o3.cls)).setCell ⟨bx, 1, none⟩ (.int .i64 o3.kind)).setCell ⟨bx, 2, none⟩ (.slice S3 o3.slots.length d3)).setCell ⟨bx, 3, none⟩ (.string o3.text)).setCell ⟨bx, 4, none⟩ (.int .i64 o3.bits)).setCell ⟨bx, 5, none⟩ (.int .i64 o3.hash)) bx 60 #[.int .i64 o3.cls, .int .i64 o3.kind, .slice S3 o3.slots.length d3, .string o3.text, .int .i64 o3.bits, .int .i64 o3.hash]) := by
       show Lies _ _ _ _
       exact ((((((LB2.out.set_ 0 (.int .i64 o3.cls)).set_ 1 (.int .i64 o3.kind)).set_ 2 (.slice S3 o3.slots.length d3)).set_ 3 (.string o3.text)).set_ 4 (.int .i64 o3.bits)).set_ 5 (.int .i64 o3.hash))
     go_simp
     refine hK.out _ _ ?_ (fun hH3 => ?_)
     next =>
      exact ⟨cell_later BB3.out x0, cell_later BB3.out x1, cell_later BB3.out x2, cell_later BB3.out q3⟩
     clear hK K
     try simp only [apt12]
     clear r0 rf0 r1 rf1 r2 rf2 r3 rf3 r4 rf4 r5 rf5
     refine tkI 10 ⟨some 16, .assign (.tmp 75), 4, "frame.go:170", #[⟨7, .data⟩, ⟨9, .chain⟩, ⟨0, .phase⟩, ⟨1, .phase⟩, ⟨2, .phase⟩, ⟨3, .phase⟩, ⟨4, .phase⟩, ⟨5, .phase⟩, ⟨6, .phase⟩, ⟨7, .phase⟩, ⟨8, .phase⟩, ⟨9, .phase⟩], none⟩ ?v8 rfl (by kernel_rfl) (by rfl) ?y8 ?_
     case y8 => intro w hSw; (try dsimp only at hSw); go_simp; all_goals with_reducible rfl
     try simp only [apt12]
     refine wpAnyH_done (by kernel_rfl) ?_ _
     go_wp2_with fail
     go_meet
     exact ⟨bx, o3, S3, d3, rfl, rfl, LF, BB3, HO3⟩
    next =>
     go_simp
     obtain ⟨u1, hu⟩ : ∃ x, x = (w1.alloc (.cells #[.int .i64 0, .int .i64 0, .slice none 0 0, .string ⟨#[]⟩, .int .i64 0, .int .i64 0] 60)).drew := ⟨_, rfl⟩
     obtain ⟨bx, hg⟩ : ∃ x, x = w1.heap.size := ⟨_, rfl⟩
     have hb : Below w1.drew.heap.size w1.drew u1 := by rw [hu]; exact below_alloc w1.drew _
     have HX9 : Hid (w1.heap.size ≤ bx) := by show _ ≤ _; rw [hg]; exact BB0.out.size
     have LB1 := hid (show Lies u1 bx 60 #[.int .i64 0, .int .i64 0, .slice none 0 0, .string ⟨#[]⟩, .int .i64 0, .int .i64 0] by rw [hu, hg]; exact Lies.new w1.drew _ _)
     have BB1 := hid (then_w BB0.out hb)
     try simp only [← hg]
     try rw [← hu]
     refine hK.out _ _ ?_ (fun hH1 => ?_)
     next =>
      exact ⟨cell_later BB1.out x0, cell_later BB1.out x1, cell_later BB1.out x2, cell_later BB1.out q3⟩
     clear hK K
     try simp only [apt12]
     clear hb hu hg
     refine wpAnyH_ready (rs := [4]) (by kernel_rfl) (by simp) ?_
     refine AllReadyH.cons (i := 4) (o := ⟨some 73, .call { callee := .value (.func 74), args := #[.tmp 69, .tmp 72, .const (Go.Value.int .i64 1)], argTypes := #[24, 3, 3] }, 92, "frame.go:170", #[⟨0, .data⟩, ⟨3, .data⟩], none⟩) rfl (fun K hK => ?_) AllReadyH.nil
     go_simp
     go_at_call 74
     refine (pkind_any12 h v3 1 _ c w _ HS.out (then_w HB1.out BB1.out)).mono ?_
     rintro e u2 ⟨o3, S3, d3, rfl, hin3, hnil3, ho3, hb⟩
     rw [← K3.out] at ho3 ⊢
     have HO3 := hid ho3
     clear hin3 hnil3 ho3
     have BB2 := hid (then_w BB1.out hb)
     have LB2 := hid (LB1.out.later hb)
     refine hK.out _ _ ?_ (fun hH2 => ?_)
     next =>
      exact ⟨cell_later BB2.out x0, cell_later BB2.out x1, cell_later BB2.out x2, cell_later BB2.out q3⟩
     clear hK K
     try simp only [apt12]
     clear hb
     refine tkI 5 ⟨some 68, .move (.tmp 73), 92, "frame.go:170", #[⟨4, .data⟩], none⟩ ?v9 rfl (by kernel_rfl) (by rfl) ?y9 ?_
     case y9 => intro w hSw; (try dsimp only at hSw); go_simp; all_goals with_reducible rfl
     try simp only [apt12]
     refine tkI 6 ⟨some 74, .extract (.tmp 68) 0, 60, "frame.go:170", #[⟨5, .data⟩], none⟩ ?v10 rfl (by kernel_rfl) (by rfl) ?y10 ?_
     case y10 => intro w hSw; (try dsimp only at hSw); go_simp; all_goals with_reducible rfl
     try simp only [apt12]
     refine tkI 7 ⟨some 75, .extract (.tmp 68) 1, 4, "frame.go:170", #[⟨5, .data⟩, ⟨9, .gcOnly .lateStores⟩], none⟩ ?v11 rfl (by kernel_rfl) (by rfl) ?y11 ?_
     case y11 => intro w hSw; (try dsimp only at hSw); go_simp; all_goals with_reducible rfl
     try simp only [apt12]
     refine wpAnyH_ready (rs := [9]) (by kernel_rfl) (by simp) ?_
     refine AllReadyH.cons (i := 9) (o := ⟨none, .store 60 (.tmp 15) (.tmp 74), 0, "frame.go:170", #[⟨8, .data⟩, ⟨6, .data⟩, ⟨4, .chain⟩, ⟨0, .phase⟩, ⟨1, .phase⟩, ⟨2, .phase⟩, ⟨3, .phase⟩, ⟨4, .phase⟩, ⟨5, .phase⟩, ⟨6, .phase⟩, ⟨7, .textOnly .lateStores⟩, ⟨8, .phase⟩], none⟩) rfl (fun K hK => ?_) AllReadyH.nil
     obtain ⟨r0, r1, r2, r3, r4, r5⟩ := LB2.out.c6
     obtain ⟨rf0, rf1, rf2, rf3, rf4, rf5⟩ := LB2.out.f6
     have BB3 := hid (((((((BB2.out).setCell (p := ⟨bx, 0, none⟩) HX9.out (.int .i64 o3.cls)).setCell (p := ⟨bx, 1, none⟩) HX9.out (.int .i64 o3.kind)).setCell (p := ⟨bx, 2, none⟩) HX9.out (.slice S3 o3.slots.length d3)).setCell (p := ⟨bx, 3, none⟩) HX9.out (.string o3.text)).setCell (p := ⟨bx, 4, none⟩) HX9.out (.int .i64 o3.bits)).setCell (p := ⟨bx, 5, none⟩) HX9.out (.int .i64 o3.hash))
     have LF : Hid (Lies ((((((u2.setCell ⟨bx, 0, none⟩ (.int .i64 o3.cls)).setCell ⟨bx, 1, none⟩ (.int .i64 o3.kind)).setCell ⟨bx, 2, none⟩ (.slice S3 o3.slots.length d3)).setCell ⟨bx, 3, none⟩ (.string o3.text)).setCell ⟨bx, 4, none⟩ (.int .i64 o3.bits)).setCell ⟨bx, 5, none⟩ (.int .i64 o3.hash)) bx 60 #[.int .i64 o3.cls, .int .i64 o3.kind, .slice S3 o3.slots.length d3, .string o3.text, .int .i64 o3.bits, .int .i64 o3.hash]) := by
       show Lies _ _ _ _
       exact ((((((LB2.out.set_ 0 (.int .i64 o3.cls)).set_ 1 (.int .i64 o3.kind)).set_ 2 (.slice S3 o3.slots.length d3)).set_ 3 (.string o3.text)).set_ 4 (.int .i64 o3.bits)).set_ 5 (.int .i64 o3.hash))
     go_simp
     refine hK.out _ _ ?_ (fun hH3 => ?_)
     next =>
      exact ⟨cell_later BB3.out x0, cell_later BB3.out x1, cell_later BB3.out x2, cell_later BB3.out q3⟩
     clear hK K
     try simp only [apt12]
     clear r0 rf0 r1 rf1 r2 rf2 r3 rf3 r4 rf4 r5 rf5
     refine tkI 10 ⟨some 16, .assign (.tmp 75), 4, "frame.go:170", #[⟨7, .data⟩, ⟨9, .chain⟩, ⟨0, .phase⟩, ⟨1, .phase⟩, ⟨2, .phase⟩, ⟨3, .phase⟩, ⟨4, .phase⟩, ⟨5, .phase⟩, ⟨6, .phase⟩, ⟨7, .phase⟩, ⟨8, .phase⟩, ⟨9, .phase⟩], none⟩ ?v12 rfl (by kernel_rfl) (by rfl) ?y12 ?_
     case y12 => intro w hSw; (try dsimp only at hSw); go_simp; all_goals with_reducible rfl
     try simp only [apt12]
     refine wpAnyH_done (by kernel_rfl) ?_ _
     go_wp2_with fail
     go_meet
     exact ⟨bx, o3, S3, d3, rfl, rfl, LF, BB3, HO3⟩
  case rest =>
    rename World => w2
    obtain ⟨bx3, o3, S3, d3, rfl, rfl, LF3, BF3, HO3⟩ := hcut
    have HB2 := hid (then_w HB1.out BF3.out)
    have HX2 := hid (HX1.out.below BF3.out HX1.out.lt)
    have HK2 := hid (HK1.out.below BF3.out HK1.out.lt)
    have q4 := cell_later BF3.out q4
    clear x0 x1 x2 q0 q1 q2 q3
    obtain ⟨x0, x1, x2⟩ := HX2.out.c3
    go_upto_region 9 with fail
    go_cut [17, 18] from 76 to 83 (fun p z wx => ∃ bx o4 S4 d4, p = .pointer (some ⟨bx, 0, none⟩) ∧ z = .bool k4 ∧ Hid (Lies wx bx 60 #[.int .i64 o4.cls, .int .i64 o4.kind, .slice S4 o4.slots.length d4, .string o4.text, .int .i64 o4.bits, .int .i64 o4.hash]) ∧ Hid (Below w2.heap.size w2 wx) ∧ Hid (k4 = true → o4 = obAt h v4) ∧ Hid (IntsR w S4 o4.slots) ∧ Hid (S4 = none → d4 = 0))
    case first =>
      have BB0 := hid ((Below.refl w2.heap.size w2).drew)
      have z0 := cell_later BB0.out x0
      have z1 := cell_later BB0.out x1
      have z2 := cell_later BB0.out x2
      have z3 := cell_later BB0.out q4
      refine wp_region_held_drew (S := (fun w' => w'.cell? ⟨w.heap.size, 0, none⟩ = some (.slice (some ⟨b, off, none⟩) h.objs.length c) ∧ w'.cell? ⟨w.heap.size, 1, none⟩ = some (.int .i64 h.cap) ∧ w'.cell? ⟨w.heap.size, 2, none⟩ = some (.int .i64 h.last) ∧ w'.cell? ⟨bl, ol + 4, none⟩ = some (.int .i64 v4))) (by kernel_rfl) ?_ (fun hH0 => ?_)
      next =>
       exact ⟨cell_later BB0.out x0, cell_later BB0.out x1, cell_later BB0.out x2, cell_later BB0.out q4⟩
      refine tkI 0 ⟨some 77, .load 24 (.tmp 2), 24, "frame.go:171", #[], none⟩ ?v13 rfl (by kernel_rfl) (by rfl) ?y13 ?_
      case y13 => intro w hSw; (try dsimp only at hSw); go_simp; all_goals with_reducible rfl
      try simp only [apt12]
      refine tkI 1 ⟨some 78, .move (.tmp 8), 30, "frame.go:171", #[], none⟩ ?v14 rfl (by kernel_rfl) (by rfl) ?y14 ?_
      case y14 => intro w hSw; (try dsimp only at hSw); go_simp; all_goals with_reducible rfl
      try simp only [apt12]
      refine tkI 2 ⟨some 79, .indexAddr 30 (.tmp 78) (.const (Go.Value.int .i64 4)), 0, "frame.go:171", #[⟨1, .data⟩], none⟩ ?v15 rfl (by kernel_rfl) (by rfl) ?y15 ?_
      case y15 => intro w hSw; (try dsimp only at hSw); go_simp; all_goals with_reducible rfl
      try simp only [apt12]
      refine tkI 3 ⟨some 80, .load 3 (.tmp 79), 3, "frame.go:171", #[⟨2, .data⟩], none⟩ ?v16 rfl (by kernel_rfl) (by rfl) ?y16 ?_
      case y16 => intro w hSw; (try dsimp only at hSw); go_simp; all_goals with_reducible rfl
      try simp only [apt12]
      refine wpAnyH_ready (rs := [4, 8]) (by kernel_rfl) (by simp) ?_
      refine AllReadyH.cons (i := 4) (o := ⟨some 81, .call { callee := .value (.func 74), args := #[.tmp 77, .tmp 80, .const (Go.Value.int .i64 0)], argTypes := #[24, 3, 3] }, 92, "frame.go:171", #[⟨0, .data⟩, ⟨3, .data⟩], none⟩) rfl (fun K hK => ?_) (AllReadyH.cons (i := 8) (o := ⟨some 17, .alloc 60, 0, "frame.go:171", #[], none⟩) rfl (fun K hK => ?_) AllReadyH.nil)
      next =>
       go_simp
       go_at_call 74
       refine (pkind_any12 h v4 0 _ c w _ HS.out (then_w HB2.out BB0.out)).mono ?_
       rintro e u1 ⟨o4, S4, d4, rfl, hin4, hnil4, ho4, hb⟩
       rw [← K4.out] at ho4 ⊢
       have HO4 := hid ho4
       have HI4 := hid hin4
       have HN4 := hid hnil4
       clear hin4 hnil4 ho4
       have BB1 := hid (then_w BB0.out hb)
       refine hK.out _ _ ?_ (fun hH1 => ?_)
       next =>
        exact ⟨cell_later BB1.out x0, cell_later BB1.out x1, cell_later BB1.out x2, cell_later BB1.out q4⟩
       clear hK K
       try simp only [apt12]
       clear hb
       refine tkI 5 ⟨some 76, .move (.tmp 81), 92, "frame.go:171", #[⟨4, .data⟩], none⟩ ?v17 rfl (by kernel_rfl) (by rfl) ?y17 ?_
       case y17 => intro w hSw; (try dsimp only at hSw); go_simp; all_goals with_reducible rfl
       try simp only [apt12]
       refine tkI 6 ⟨some 82, .extract (.tmp 76) 0, 60, "frame.go:171", #[⟨5, .data⟩], none⟩ ?v18 rfl (by kernel_rfl) (by rfl) ?y18 ?_
       case y18 => intro w hSw; (try dsimp only at hSw); go_simp; all_goals with_reducible rfl
       try simp only [apt12]
       refine tkI 7 ⟨some 83, .extract (.tmp 76) 1, 4, "frame.go:171", #[⟨5, .data⟩, ⟨9, .gcOnly .lateStores⟩], none⟩ ?v19 rfl (by kernel_rfl) (by rfl) ?y19 ?_
       case y19 => intro w hSw; (try dsimp only at hSw); go_simp; all_goals with_reducible rfl
       try simp only [apt12]
       refine wpAnyH_ready (rs := [8]) (by kernel_rfl) (by simp) ?_
       refine AllReadyH.cons (i := 8) (o := ⟨some 17, .alloc 60, 0, "frame.go:171", #[], none⟩) rfl (fun K hK => ?_) AllReadyH.nil
       go_simp
       obtain ⟨u2, hu⟩ : ∃ x, x = u1.alloc (.cells #[.int .i64 0, .int .i64 0, .slice none 0 0, .string ⟨#[]⟩, .int .i64 0, .int .i64 0] 60) := ⟨_, rfl⟩
       obtain ⟨bx, hg⟩ : ∃ x, x = u1.heap.size := ⟨_, rfl⟩
       have hb : Below u1.heap.size u1 u2 := by rw [hu]; exact below_alloc u1 _
       have HX9 : Hid (w2.heap.size ≤ bx) := by show _ ≤ _; rw [hg]; exact BB1.out.size
       have LB2 := hid (show Lies u2 bx 60 #[.int .i64 0, .int .i64 0, .slice none 0 0, .string ⟨#[]⟩, .int .i64 0, .int .i64 0] by rw [hu, hg]; exact Lies.new u1 _ _)
       have BB2 := hid (then_w BB1.out hb)
       try simp only [← hg]
       try rw [← hu]
       refine hK.out _ _ ?_ (fun hH2 => ?_)
       next =>
        exact ⟨cell_later BB2.out x0, cell_later BB2.out x1, cell_later BB2.out x2, cell_later BB2.out q4⟩
       clear hK K
       try simp only [apt12]
       clear hb hu hg
       refine wpAnyH_ready (rs := [9]) (by kernel_rfl) (by simp) ?_
       refine AllReadyH.cons (i := 9) (o := ⟨none, .store 60 (.tmp 17) (.tmp 82), 0, "frame.go:171", #[⟨8, .data⟩, ⟨6, .data⟩, ⟨4, .chain⟩, ⟨0, .phase⟩, ⟨1, .phase⟩, ⟨2, .phase⟩, ⟨3, .phase⟩, ⟨4, .phase⟩, ⟨5, .phase⟩, ⟨6, .phase⟩, ⟨7, .textOnly .lateStores⟩, ⟨8, .phase⟩], none⟩) rfl (fun K hK => ?_) AllReadyH.nil
       obtain ⟨r0, r1, r2, r3, r4, r5⟩ := LB2.out.c6
       obtain ⟨rf0, rf1, rf2, rf3, rf4, rf5⟩ := LB2.out.f6
       have BB3 := hid (((((((BB2.out).setCell (p := ⟨bx, 0, none⟩) HX9.out (.int .i64 o4.cls)).setCell (p := ⟨bx, 1, none⟩) HX9.out (.int .i64 o4.kind)).setCell (p := ⟨bx, 2, none⟩) HX9.out (.slice S4 o4.slots.length d4)).setCell (p := ⟨bx, 3, none⟩) HX9.out (.string o4.text)).setCell (p := ⟨bx, 4, none⟩) HX9.out (.int .i64 o4.bits)).setCell (p := ⟨bx, 5, none⟩) HX9.out (.int .i64 o4.hash))
       have LF : Hid (Lies ((((((u2.setCell ⟨bx, 0, none⟩ (.int .i64 o4.cls)).setCell ⟨bx, 1, none⟩ (.int .i64 o4.kind)).setCell ⟨bx, 2, none⟩ (.slice S4 o4.slots.length d4)).setCell ⟨bx, 3, none⟩ (.string o4.text)).setCell ⟨bx, 4, none⟩ (.int .i64 o4.bits)).setCell ⟨bx, 5, none⟩ (.int .i64 o4.hash)) bx 60 #[.int .i64 o4.cls, .int .i64 o4.kind, .slice S4 o4.slots.length d4, .string o4.text, .int .i64 o4.bits, .int .i64 o4.hash]) := by
         show Lies _ _ _ _
         exact ((((((LB2.out.set_ 0 (.int .i64 o4.cls)).set_ 1 (.int .i64 o4.kind)).set_ 2 (.slice S4 o4.slots.length d4)).set_ 3 (.string o4.text)).set_ 4 (.int .i64 o4.bits)).set_ 5 (.int .i64 o4.hash))
       go_simp
       refine hK.out _ _ ?_ (fun hH3 => ?_)
       next =>
        exact ⟨cell_later BB3.out x0, cell_later BB3.out x1, cell_later BB3.out x2, cell_later BB3.out q4⟩
       clear hK K
       try simp only [apt12]
       clear r0 rf0 r1 rf1 r2 rf2 r3 rf3 r4 rf4 r5 rf5
       refine tkI 10 ⟨some 18, .assign (.tmp 83), 4, "frame.go:171", #[⟨7, .data⟩, ⟨9, .chain⟩, ⟨0, .phase⟩, ⟨1, .phase⟩, ⟨2, .phase⟩, ⟨3, .phase⟩, ⟨4, .phase⟩, ⟨5, .phase⟩, ⟨6, .phase⟩, ⟨7, .phase⟩, ⟨8, .phase⟩, ⟨9, .phase⟩], none⟩ ?v20 rfl (by kernel_rfl) (by rfl) ?y20 ?_
       case y20 => intro w hSw; (try dsimp only at hSw); go_simp; all_goals with_reducible rfl
       try simp only [apt12]
       refine wpAnyH_done (by kernel_rfl) ?_ _
       go_wp2_with fail
       go_meet
       exact ⟨bx, o4, S4, d4, rfl, rfl, LF, BB3, HO4, HI4, HN4⟩
      next =>
       go_simp
       obtain ⟨u1, hu⟩ : ∃ x, x = (w2.alloc (.cells #[.int .i64 0, .int .i64 0, .slice none 0 0, .string ⟨#[]⟩, .int .i64 0, .int .i64 0] 60)).drew := ⟨_, rfl⟩
       obtain ⟨bx, hg⟩ : ∃ x, x = w2.heap.size := ⟨_, rfl⟩
       have hb : Below w2.drew.heap.size w2.drew u1 := by rw [hu]; exact below_alloc w2.drew _
       have HX9 : Hid (w2.heap.size ≤ bx) := by show _ ≤ _; rw [hg]; exact BB0.out.size
       have LB1 := hid (show Lies u1 bx 60 #[.int .i64 0, .int .i64 0, .slice none 0 0, .string ⟨#[]⟩, .int .i64 0, .int .i64 0] by rw [hu, hg]; exact Lies.new w2.drew _ _)
       have BB1 := hid (then_w BB0.out hb)
       try simp only [← hg]
       try rw [← hu]
       refine hK.out _ _ ?_ (fun hH1 => ?_)
       next =>
        exact ⟨cell_later BB1.out x0, cell_later BB1.out x1, cell_later BB1.out x2, cell_later BB1.out q4⟩
       clear hK K
       try simp only [apt12]
       clear hb hu hg
       refine wpAnyH_ready (rs := [4]) (by kernel_rfl) (by simp) ?_
       refine AllReadyH.cons (i := 4) (o := ⟨some 81, .call { callee := .value (.func 74), args := #[.tmp 77, .tmp 80, .const (Go.Value.int .i64 0)], argTypes := #[24, 3, 3] }, 92, "frame.go:171", #[⟨0, .data⟩, ⟨3, .data⟩], none⟩) rfl (fun K hK => ?_) AllReadyH.nil
       go_simp
       go_at_call 74
       refine (pkind_any12 h v4 0 _ c w _ HS.out (then_w HB2.out BB1.out)).mono ?_
       rintro e u2 ⟨o4, S4, d4, rfl, hin4, hnil4, ho4, hb⟩
       rw [← K4.out] at ho4 ⊢
       have HO4 := hid ho4
       have HI4 := hid hin4
       have HN4 := hid hnil4
       clear hin4 hnil4 ho4
       have BB2 := hid (then_w BB1.out hb)
       have LB2 := hid (LB1.out.later hb)
       refine hK.out _ _ ?_ (fun hH2 => ?_)
       next =>
        exact ⟨cell_later BB2.out x0, cell_later BB2.out x1, cell_later BB2.out x2, cell_later BB2.out q4⟩
       clear hK K
       try simp only [apt12]
       clear hb
       refine tkI 5 ⟨some 76, .move (.tmp 81), 92, "frame.go:171", #[⟨4, .data⟩], none⟩ ?v21 rfl (by kernel_rfl) (by rfl) ?y21 ?_
       case y21 => intro w hSw; (try dsimp only at hSw); go_simp; all_goals with_reducible rfl
       try simp only [apt12]
       refine tkI 6 ⟨some 82, .extract (.tmp 76) 0, 60, "frame.go:171", #[⟨5, .data⟩], none⟩ ?v22 rfl (by kernel_rfl) (by rfl) ?y22 ?_
       case y22 => intro w hSw; (try dsimp only at hSw); go_simp; all_goals with_reducible rfl
       try simp only [apt12]
       refine tkI 7 ⟨some 83, .extract (.tmp 76) 1, 4, "frame.go:171", #[⟨5, .data⟩, ⟨9, .gcOnly .lateStores⟩], none⟩ ?v23 rfl (by kernel_rfl) (by rfl) ?y23 ?_
       case y23 => intro w hSw; (try dsimp only at hSw); go_simp; all_goals with_reducible rfl
       try simp only [apt12]
       refine wpAnyH_ready (rs := [9]) (by kernel_rfl) (by simp) ?_
       refine AllReadyH.cons (i := 9) (o := ⟨none, .store 60 (.tmp 17) (.tmp 82), 0, "frame.go:171", #[⟨8, .data⟩, ⟨6, .data⟩, ⟨4, .chain⟩, ⟨0, .phase⟩, ⟨1, .phase⟩, ⟨2, .phase⟩, ⟨3, .phase⟩, ⟨4, .phase⟩, ⟨5, .phase⟩, ⟨6, .phase⟩, ⟨7, .textOnly .lateStores⟩, ⟨8, .phase⟩], none⟩) rfl (fun K hK => ?_) AllReadyH.nil
       obtain ⟨r0, r1, r2, r3, r4, r5⟩ := LB2.out.c6
       obtain ⟨rf0, rf1, rf2, rf3, rf4, rf5⟩ := LB2.out.f6
       have BB3 := hid (((((((BB2.out).setCell (p := ⟨bx, 0, none⟩) HX9.out (.int .i64 o4.cls)).setCell (p := ⟨bx, 1, none⟩) HX9.out (.int .i64 o4.kind)).setCell (p := ⟨bx, 2, none⟩) HX9.out (.slice S4 o4.slots.length d4)).setCell (p := ⟨bx, 3, none⟩) HX9.out (.string o4.text)).setCell (p := ⟨bx, 4, none⟩) HX9.out (.int .i64 o4.bits)).setCell (p := ⟨bx, 5, none⟩) HX9.out (.int .i64 o4.hash))
       have LF : Hid (Lies ((((((u2.setCell ⟨bx, 0, none⟩ (.int .i64 o4.cls)).setCell ⟨bx, 1, none⟩ (.int .i64 o4.kind)).setCell ⟨bx, 2, none⟩ (.slice S4 o4.slots.length d4)).setCell ⟨bx, 3, none⟩ (.string o4.text)).setCell ⟨bx, 4, none⟩ (.int .i64 o4.bits)).setCell ⟨bx, 5, none⟩ (.int .i64 o4.hash)) bx 60 #[.int .i64 o4.cls, .int .i64 o4.kind, .slice S4 o4.slots.length d4, .string o4.text, .int .i64 o4.bits, .int .i64 o4.hash]) := by
         show Lies _ _ _ _
         exact ((((((LB2.out.set_ 0 (.int .i64 o4.cls)).set_ 1 (.int .i64 o4.kind)).set_ 2 (.slice S4 o4.slots.length d4)).set_ 3 (.string o4.text)).set_ 4 (.int .i64 o4.bits)).set_ 5 (.int .i64 o4.hash))
       go_simp
       refine hK.out _ _ ?_ (fun hH3 => ?_)
       next =>
        exact ⟨cell_later BB3.out x0, cell_later BB3.out x1, cell_later BB3.out x2, cell_later BB3.out q4⟩
       clear hK K
       try simp only [apt12]
       clear r0 rf0 r1 rf1 r2 rf2 r3 rf3 r4 rf4 r5 rf5
       refine tkI 10 ⟨some 18, .assign (.tmp 83), 4, "frame.go:171", #[⟨7, .data⟩, ⟨9, .chain⟩, ⟨0, .phase⟩, ⟨1, .phase⟩, ⟨2, .phase⟩, ⟨3, .phase⟩, ⟨4, .phase⟩, ⟨5, .phase⟩, ⟨6, .phase⟩, ⟨7, .phase⟩, ⟨8, .phase⟩, ⟨9, .phase⟩], none⟩ ?v24 rfl (by kernel_rfl) (by rfl) ?y24 ?_
       case y24 => intro w hSw; (try dsimp only at hSw); go_simp; all_goals with_reducible rfl
       try simp only [apt12]
       refine wpAnyH_done (by kernel_rfl) ?_ _
       go_wp2_with fail
       go_meet
       exact ⟨bx, o4, S4, d4, rfl, rfl, LF, BB3, HO4, HI4, HN4⟩
    case rest =>
      rename World => w3
      obtain ⟨bx4, o4, S4, d4, rfl, rfl, LF4, BF4, HO4, HI4, HN4⟩ := hcut
      have HB3 := hid (then_w HB2.out BF4.out)
      have HK3 := hid (HK2.out.below BF4.out HK2.out.lt)
      have LF3b := hid (LF3.out.below BF4.out LF3.out.lt)
      clear x0 x1 x2 q4 HX1 HX2 HK1 HK2 HB1 HB2 BF3 BF4 LF3
      cases b0
      next =>
       have HRR : Hid (mt12 h m = (mt0, 120)) := mt_err12 (pm_prim12 (by rw [← V0.out]; exact B0.out.symm))
       obtain ⟨u0, u1, u2, u3, u4⟩ := HK3.out.c5
       obtain ⟨uf0, uf1, uf2, uf3, uf4⟩ := HK3.out.f5
       go_wp2_with fail
       have K0 := (((((HK3.out.set_ 0 (.int .i64 0)).set_ 1 (.int .i64 0)).set_ 2 (.int .i64 0)).set_ 3 (.slice none 0 0)).set_ 4 (.slice none 0 0))
       have r0 := K0.cell 0
       have r1 := K0.cell 1
       have r2 := K0.cell 2
       have r3 := K0.cell 3
       have r4 := K0.cell 4
       simp only [List.setIfInBounds_toArray, List.set_cons_zero, List.set_cons_succ, List.getElem?_toArray, List.getElem?_cons_zero, List.getElem?_cons_succ] at r0 r1 r2 r3 r4
       refine bodyPost_ret (v := .tuple #[.agg #[.int .i64 0, .int .i64 0, .int .i64 0, .slice none 0 0, .slice none 0 0], .int .i64 120]) (by simp [results, Tryz.results37, go_sem, r0, r1, r2, r3, r4]) rfl ?_
       have HBE := (((((HB3.out).setCell (p := ⟨w.heap.size + 1, 0, none⟩) (by simp) (.int .i64 0)).setCell (p := ⟨w.heap.size + 1, 1, none⟩) (by simp) (.int .i64 0)).setCell (p := ⟨w.heap.size + 1, 2, none⟩) (by simp) (.int .i64 0)).setCell (p := ⟨w.heap.size + 1, 3, none⟩) (by simp) (.slice none 0 0)).setCell (p := ⟨w.heap.size + 1, 4, none⟩) (by simp) (.slice none 0 0)
       rw [HRR.out]
       exact pm_err12 HBE
      cases b1
      next =>
       have HRR : Hid (mt12 h m = (mt0, 120)) := mt_err12 (pm_args12 (by rw [← V1.out]; exact B1.out.symm))
       obtain ⟨u0, u1, u2, u3, u4⟩ := HK3.out.c5
       obtain ⟨uf0, uf1, uf2, uf3, uf4⟩ := HK3.out.f5
       go_wp2_with fail
       have K0 := (((((HK3.out.set_ 0 (.int .i64 0)).set_ 1 (.int .i64 0)).set_ 2 (.int .i64 0)).set_ 3 (.slice none 0 0)).set_ 4 (.slice none 0 0))
       have r0 := K0.cell 0
       have r1 := K0.cell 1
       have r2 := K0.cell 2
       have r3 := K0.cell 3
       have r4 := K0.cell 4
       simp only [List.setIfInBounds_toArray, List.set_cons_zero, List.set_cons_succ, List.getElem?_toArray, List.getElem?_cons_zero, List.getElem?_cons_succ] at r0 r1 r2 r3 r4
       refine bodyPost_ret (v := .tuple #[.agg #[.int .i64 0, .int .i64 0, .int .i64 0, .slice none 0 0, .slice none 0 0], .int .i64 120]) (by simp [results, Tryz.results37, go_sem, r0, r1, r2, r3, r4]) rfl ?_
       have HBE := (((((HB3.out).setCell (p := ⟨w.heap.size + 1, 0, none⟩) (by simp) (.int .i64 0)).setCell (p := ⟨w.heap.size + 1, 1, none⟩) (by simp) (.int .i64 0)).setCell (p := ⟨w.heap.size + 1, 2, none⟩) (by simp) (.int .i64 0)).setCell (p := ⟨w.heap.size + 1, 3, none⟩) (by simp) (.slice none 0 0)).setCell (p := ⟨w.heap.size + 1, 4, none⟩) (by simp) (.slice none 0 0)
       rw [HRR.out]
       exact pm_err12 HBE
      cases b2
      next =>
       have HRR : Hid (mt12 h m = (mt0, 120)) := mt_err12 (pm_temps12 (by rw [← V1.out]; exact B1.out.symm) (by rw [← V1.out, ← V2.out, ← N1.out]; exact B2.out.symm))
       obtain ⟨u0, u1, u2, u3, u4⟩ := HK3.out.c5
       obtain ⟨uf0, uf1, uf2, uf3, uf4⟩ := HK3.out.f5
       go_wp2_with fail
       have K0 := (((((HK3.out.set_ 0 (.int .i64 0)).set_ 1 (.int .i64 0)).set_ 2 (.int .i64 0)).set_ 3 (.slice none 0 0)).set_ 4 (.slice none 0 0))
       have r0 := K0.cell 0
       have r1 := K0.cell 1
       have r2 := K0.cell 2
       have r3 := K0.cell 3
       have r4 := K0.cell 4
       simp only [List.setIfInBounds_toArray, List.set_cons_zero, List.set_cons_succ, List.getElem?_toArray, List.getElem?_cons_zero, List.getElem?_cons_succ] at r0 r1 r2 r3 r4
       refine bodyPost_ret (v := .tuple #[.agg #[.int .i64 0, .int .i64 0, .int .i64 0, .slice none 0 0, .slice none 0 0], .int .i64 120]) (by simp [results, Tryz.results37, go_sem, r0, r1, r2, r3, r4]) rfl ?_
       have HBE := (((((HB3.out).setCell (p := ⟨w.heap.size + 1, 0, none⟩) (by simp) (.int .i64 0)).setCell (p := ⟨w.heap.size + 1, 1, none⟩) (by simp) (.int .i64 0)).setCell (p := ⟨w.heap.size + 1, 2, none⟩) (by simp) (.int .i64 0)).setCell (p := ⟨w.heap.size + 1, 3, none⟩) (by simp) (.slice none 0 0)).setCell (p := ⟨w.heap.size + 1, 4, none⟩) (by simp) (.slice none 0 0)
       rw [HRR.out]
       exact pm_err12 HBE
      cases k3
      next =>
       have HRR : Hid (mt12 h m = (mt0, 120)) := mt_err12 (mb_three12 (by rw [← V3.out]; exact K3.out.symm))
       obtain ⟨u0, u1, u2, u3, u4⟩ := HK3.out.c5
       obtain ⟨uf0, uf1, uf2, uf3, uf4⟩ := HK3.out.f5
       go_wp2_with fail
       have K0 := (((((HK3.out.set_ 0 (.int .i64 0)).set_ 1 (.int .i64 0)).set_ 2 (.int .i64 0)).set_ 3 (.slice none 0 0)).set_ 4 (.slice none 0 0))
       have r0 := K0.cell 0
       have r1 := K0.cell 1
       have r2 := K0.cell 2
       have r3 := K0.cell 3
       have r4 := K0.cell 4
       simp only [List.setIfInBounds_toArray, List.set_cons_zero, List.set_cons_succ, List.getElem?_toArray, List.getElem?_cons_zero, List.getElem?_cons_succ] at r0 r1 r2 r3 r4
       refine bodyPost_ret (v := .tuple #[.agg #[.int .i64 0, .int .i64 0, .int .i64 0, .slice none 0 0, .slice none 0 0], .int .i64 120]) (by simp [results, Tryz.results37, go_sem, r0, r1, r2, r3, r4]) rfl ?_
       have HBE := (((((HB3.out).setCell (p := ⟨w.heap.size + 1, 0, none⟩) (by simp) (.int .i64 0)).setCell (p := ⟨w.heap.size + 1, 1, none⟩) (by simp) (.int .i64 0)).setCell (p := ⟨w.heap.size + 1, 2, none⟩) (by simp) (.int .i64 0)).setCell (p := ⟨w.heap.size + 1, 3, none⟩) (by simp) (.slice none 0 0)).setCell (p := ⟨w.heap.size + 1, 4, none⟩) (by simp) (.slice none 0 0)
       rw [HRR.out]
       exact pm_err12 HBE
      cases k4
      next =>
       have HRR : Hid (mt12 h m = (mt0, 120)) := mt_err12 (mb_four12 (by rw [← V4.out]; exact K4.out.symm))
       obtain ⟨u0, u1, u2, u3, u4⟩ := HK3.out.c5
       obtain ⟨uf0, uf1, uf2, uf3, uf4⟩ := HK3.out.f5
       go_wp2_with fail
       have K0 := (((((HK3.out.set_ 0 (.int .i64 0)).set_ 1 (.int .i64 0)).set_ 2 (.int .i64 0)).set_ 3 (.slice none 0 0)).set_ 4 (.slice none 0 0))
       have r0 := K0.cell 0
       have r1 := K0.cell 1
       have r2 := K0.cell 2
       have r3 := K0.cell 3
       have r4 := K0.cell 4
       simp only [List.setIfInBounds_toArray, List.set_cons_zero, List.set_cons_succ, List.getElem?_toArray, List.getElem?_cons_zero, List.getElem?_cons_succ] at r0 r1 r2 r3 r4
       refine bodyPost_ret (v := .tuple #[.agg #[.int .i64 0, .int .i64 0, .int .i64 0, .slice none 0 0, .slice none 0 0], .int .i64 120]) (by simp [results, Tryz.results37, go_sem, r0, r1, r2, r3, r4]) rfl ?_
       have HBE := (((((HB3.out).setCell (p := ⟨w.heap.size + 1, 0, none⟩) (by simp) (.int .i64 0)).setCell (p := ⟨w.heap.size + 1, 1, none⟩) (by simp) (.int .i64 0)).setCell (p := ⟨w.heap.size + 1, 2, none⟩) (by simp) (.int .i64 0)).setCell (p := ⟨w.heap.size + 1, 3, none⟩) (by simp) (.slice none 0 0)).setCell (p := ⟨w.heap.size + 1, 4, none⟩) (by simp) (.slice none 0 0)
       rw [HRR.out]
       exact pm_err12 HBE
      have H3 := HO3.out rfl
      have H4 := HO4.out rfl
      subst H3
      obtain ⟨btx, hbtx⟩ : ∃ t, t = (obAt h v3).text.data.toList := ⟨_, rfl⟩
      have HUP : Hid (cd12 h m = Up11 btx) := by show _ = _; unfold cd12; rw [← V3.out, hbtx]
      have y3 := LF3b.out.cell 3
      simp only [List.getElem?_toArray, List.getElem?_cons_zero, List.getElem?_cons_succ] at y3
      have hts : (.string (obAt h v3).text : Value) = .string (str btx) := by rw [hbtx, str_list]
      rw [hts] at y3
      have hbl : btx.length ≤ 64 := by
        have e : (obAt h v3).text.data.toList.length = (obAt h v3).text.size := rfl
        rw [hbtx, e]
        exact (text_bd12 HM.out (kd_ref12 K3.out.symm).1).1
      have HBT := hid hbl
      have HL4 : Hid (sls12 h (sl12 h m 4) = o4.slots) := by show _ = _; rw [← V4.out, sls_ref12 HM.out (kd_ref12 K4.out.symm).1, H4]
      have HS4 : Hid (o4.slots.length ≤ 64) := by show _ ≤ _; rw [H4]; exact (text_bd12 HM.out (kd_ref12 K4.out.symm).1).2
      obtain ⟨C4, hC4⟩ : ∃ x, x = (cd12 h m).1 := ⟨_, rfl⟩
      obtain ⟨e4, he4⟩ : ∃ x, x = (cd12 h m).2 := ⟨_, rfl⟩
      have HC4 := hid hC4
      have HE4 := hid he4
      clear hts hbtx H4 hbl LF3b
      go_wp2_with fail
      refine (cunpack_any12 btx _ (by have := HBT.out; omega)).mono ?_
      rintro e w4 ⟨CA, cc, rfl, hins, hb, hfr⟩
      rw [← HUP.out, ← hC4] at hins
      rw [← HUP.out, ← hC4, ← he4]
      have HINS := hid hins
      have HFR : Hid (∀ k o s, CA = some ⟨k, o, s⟩ → w.heap.size ≤ k ∧ w.heap.size + 1 < k) := fun k o s e => by
        have h1 := hfr k o s e
        have h2 := HK3.out.lt
        exact ⟨by omega, by omega⟩
      have HB4 := hid (then_w HB3.out hb)
      have HK4 := hid (HK3.out.later hb)
      have HLF4 := hid (LF4.out.later hb)
      clear hb hins hfr hC4 he4 y3
      have y2 := HLF4.out.cell 2
      simp only [List.getElem?_toArray, List.getElem?_cons_zero, List.getElem?_cons_succ] at y2
      by_cases he : e4 = 0
      case neg =>
        have heB : (e4 != 0) = true := bne_iff_ne.2 he
        have HNE : Hid ((cd12 h m).2 ≠ 0) := by show _ ≠ _; rw [← HE4.out]; exact he
        have HRR : Hid (mt12 h m = (mt0, 120)) := mt_err12 (pm_code12 HNE.out)
        obtain ⟨u0, u1, u2, u3, u4⟩ := HK4.out.c5
        obtain ⟨uf0, uf1, uf2, uf3, uf4⟩ := HK4.out.f5
        go_wp2_with fail
        have K0 := (((((HK4.out.set_ 0 (.int .i64 0)).set_ 1 (.int .i64 0)).set_ 2 (.int .i64 0)).set_ 3 (.slice none 0 0)).set_ 4 (.slice none 0 0))
        have r0 := K0.cell 0
        have r1 := K0.cell 1
        have r2 := K0.cell 2
        have r3 := K0.cell 3
        have r4 := K0.cell 4
        simp only [List.setIfInBounds_toArray, List.set_cons_zero, List.set_cons_succ, List.getElem?_toArray, List.getElem?_cons_zero, List.getElem?_cons_succ] at r0 r1 r2 r3 r4
        refine bodyPost_ret (v := .tuple #[.agg #[.int .i64 0, .int .i64 0, .int .i64 0, .slice none 0 0, .slice none 0 0], .int .i64 120]) (by simp [results, Tryz.results37, go_sem, r0, r1, r2, r3, r4]) rfl ?_
        have HBE := (((((HB4.out).setCell (p := ⟨w.heap.size + 1, 0, none⟩) (by simp) (.int .i64 0)).setCell (p := ⟨w.heap.size + 1, 1, none⟩) (by simp) (.int .i64 0)).setCell (p := ⟨w.heap.size + 1, 2, none⟩) (by simp) (.int .i64 0)).setCell (p := ⟨w.heap.size + 1, 3, none⟩) (by simp) (.slice none 0 0)).setCell (p := ⟨w.heap.size + 1, 4, none⟩) (by simp) (.slice none 0 0)
        rw [HRR.out]
        exact pm_err12 HBE
      subst he
      have HC32 : Hid (C4.length ≤ 1000) := by show _ ≤ _; rw [HC4.out, HUP.out]; exact Nat.le_trans (up_len12 btx) (by decide)
      obtain ⟨kk, hkk⟩ : ∃ kk, kk = ck11 C4 o4.slots.length n2 := ⟨_, rfl⟩
      have HKK := hid hkk
      clear hkk
      go_wp2_with fail
      refine (ccheck_any11 C4 (o4.slots.length : Int) n2 CA cc _ HINS.out HC32.out).mono ?_
      rintro e w5 ⟨rfl, hb⟩
      rw [← HKK.out]
      have HB5 := hid (then_w HB4.out hb)
      have HK5 := hid (HK4.out.later hb)
      have HLF5 := hid (HLF4.out.later hb)
      have HINS5 := hid (HINS.out.below hb)
      clear hb y2
      have y2 := HLF5.out.cell 2
      simp only [List.getElem?_toArray, List.getElem?_cons_zero, List.getElem?_cons_succ] at y2
      have D0 : Hid (wi12 (sl12 h m 0) 0 63 = true) := by show _ = _; rw [← V0.out]; exact B0.out.symm
      have D1 : Hid (wi12 (sl12 h m 1) 0 4 = true) := by show _ = _; rw [← V1.out]; exact B1.out.symm
      have D2 : Hid (wi12 (sl12 h m 2) (nV (sl12 h m 1)) 8 = true) := by show _ = _; rw [← V1.out, ← V2.out, ← N1.out]; exact B2.out.symm
      have D6 : Hid (ck11 (cd12 h m).1 (sls12 h (sl12 h m 4)).length (nV (sl12 h m 2)) = kk) := by show _ = _; rw [HKK.out, HC4.out, HL4.out, N2.out, V2.out]
      by_cases hk : kk = 0
      case neg =>
        have hkB : (kk != 0) = true := bne_iff_ne.2 hk
        have HRR : Hid (mt12 h m = (mt0, 120)) := mt_err12 (pm_check12 D0.out D1.out D2.out (by rw [D6.out]; exact hk))
        obtain ⟨u0, u1, u2, u3, u4⟩ := HK5.out.c5
        obtain ⟨uf0, uf1, uf2, uf3, uf4⟩ := HK5.out.f5
        go_wp2_with fail
        have K0 := (((((HK5.out.set_ 0 (.int .i64 0)).set_ 1 (.int .i64 0)).set_ 2 (.int .i64 0)).set_ 3 (.slice none 0 0)).set_ 4 (.slice none 0 0))
        have r0 := K0.cell 0
        have r1 := K0.cell 1
        have r2 := K0.cell 2
        have r3 := K0.cell 3
        have r4 := K0.cell 4
        simp only [List.setIfInBounds_toArray, List.set_cons_zero, List.set_cons_succ, List.getElem?_toArray, List.getElem?_cons_zero, List.getElem?_cons_succ] at r0 r1 r2 r3 r4
        refine bodyPost_ret (v := .tuple #[.agg #[.int .i64 0, .int .i64 0, .int .i64 0, .slice none 0 0, .slice none 0 0], .int .i64 120]) (by simp [results, Tryz.results37, go_sem, r0, r1, r2, r3, r4]) rfl ?_
        have HBE := (((((HB5.out).setCell (p := ⟨w.heap.size + 1, 0, none⟩) (by simp) (.int .i64 0)).setCell (p := ⟨w.heap.size + 1, 1, none⟩) (by simp) (.int .i64 0)).setCell (p := ⟨w.heap.size + 1, 2, none⟩) (by simp) (.int .i64 0)).setCell (p := ⟨w.heap.size + 1, 3, none⟩) (by simp) (.slice none 0 0)).setCell (p := ⟨w.heap.size + 1, 4, none⟩) (by simp) (.slice none 0 0)
        rw [HRR.out]
        exact pm_err12 HBE
      subst hk
      have HRR : Hid (mt12 h m = (⟨n0, n1, n2, C4, o4.slots⟩, 0)) := by
        show _ = _
        rw [pm_all12 HM.out (by rw [HSL.out]; exact H5.out) D0.out D1.out D2.out (by rw [← V3.out]; exact K3.out.symm) (by rw [← V4.out]; exact K4.out.symm) HE4.out.symm D6.out, HL4.out, ← HC4.out, ← V0.out, ← V1.out, ← V2.out, ← N0.out, ← N1.out, ← N2.out]
      go_wp2_with fail
      refine (clone1_any S4 o4.slots d4 _ (HI4.out.below HB5.out) (by have := HS4.out; omega)).mono ?_
      rintro e w6 ⟨LA, lc, rfl, hown, hb⟩
      have HB6 := hid (then_w HB5.out hb)
      have HK6 := hid (HK5.out.later hb)
      have HINS6 := hid (HINS5.out.below hb)
      have HOWN := hid hown
      have hlt5 : w.heap.size + 1 < w5.heap.size := HK5.out.lt
      clear hb y2 hown
      obtain ⟨u0, u1, u2, u3, u4⟩ := HK6.out.c5
      obtain ⟨uf0, uf1, uf2, uf3, uf4⟩ := HK6.out.f5
      go_wp2_with fail
      have K0 := (((((HK6.out.set_ 0 (.int .i64 n0)).set_ 1 (.int .i64 n1)).set_ 2 (.int .i64 n2)).set_ 3 (.slice CA C4.length cc)).set_ 4 (.slice LA o4.slots.length lc))
      have r0 := K0.cell 0
      have r1 := K0.cell 1
      have r2 := K0.cell 2
      have r3 := K0.cell 3
      have r4 := K0.cell 4
      simp only [List.setIfInBounds_toArray, List.set_cons_zero, List.set_cons_succ, List.getElem?_toArray, List.getElem?_cons_zero, List.getElem?_cons_succ] at r0 r1 r2 r3 r4
      refine bodyPost_ret (v := .tuple #[.agg #[.int .i64 n0, .int .i64 n1, .int .i64 n2, .slice CA C4.length cc, .slice LA o4.slots.length lc], .int .i64 0]) (by simp [results, Tryz.results37, go_sem, r0, r1, r2, r3, r4]) rfl ?_
      have HBE := (((((HB6.out).setCell (p := ⟨w.heap.size + 1, 0, none⟩) (by simp) (.int .i64 n0)).setCell (p := ⟨w.heap.size + 1, 1, none⟩) (by simp) (.int .i64 n1)).setCell (p := ⟨w.heap.size + 1, 2, none⟩) (by simp) (.int .i64 n2)).setCell (p := ⟨w.heap.size + 1, 3, none⟩) (by simp) (.slice CA C4.length cc)).setCell (p := ⟨w.heap.size + 1, 4, none⟩) (by simp) (.slice LA o4.slots.length lc)
      rw [HRR.out]
      exact ⟨CA, cc, LA, lc, rfl, ins_five12 HINS6.out (fun k o s e => by have := HFR.out k o s e; omega) (.int .i64 n0) (.int .i64 n1) (.int .i64 n2) (.slice CA C4.length cc) (.slice LA o4.slots.length lc), ints_five12 (own_ints HOWN.out) (fun k o s e => by
        subst e
        have := (HOWN.out.lt k rfl).1
        omega) (.int .i64 n0) (.int .i64 n1) (.int .i64 n2) (.slice CA C4.length cc) (.slice LA o4.slots.length lc), HBE, fun k o s e => (HFR.out k o s e).1, fun k o s e => by
        subst e
        have := (HOWN.out.lt k rfl).1
        omega⟩
end Go.Proofs.YtalfbdigjaibkaaGreat
