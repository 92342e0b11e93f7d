/- The document on primitives: a class, being the same, a hash, become. -/
import Derived.Test.YtnilempeldlieaaGreatJ04
import Derived.Test.YtnilempeldlieaaGreatJ13
import Derived.Test.YtnilempeldlieaaGreatJRB
namespace Go.Proofs.YtnilempeldlieaaGreat
abbrev oYN130 : Oper := ⟨some 59, .move (.tmp 11), 3, "ref.go:207", #[], none⟩
abbrev oYN131 : Oper := ⟨some 60, .binOp .lss 3 (.tmp 59) (.const (Go.Value.int .i64 12)) 3, 4, "ref.go:207", #[⟨0, .data⟩], none⟩
abbrev oYN132 : Oper := ⟨some 61, .move (.tmp 60), 4, "ref.go:207", #[⟨1, .data⟩], none⟩
abbrev oYN133 : Oper := ⟨some 62, .load 24 (.tmp 4), 24, "ref.go:207", #[⟨2, .guard⟩], some (2, false)⟩
abbrev oYN134 : Oper := ⟨some 63, .move (.tmp 3), 34, "ref.go:207", #[⟨2, .guard⟩], some (2, false)⟩
abbrev oYN135 : Oper := ⟨some 64, .indexAddr 34 (.tmp 63) (.const (Go.Value.int .i64 0)), 0, "ref.go:207", #[⟨4, .data⟩, ⟨2, .guard⟩], some (2, false)⟩
abbrev oYN136 : Oper := ⟨some 65, .load 3 (.tmp 64), 3, "ref.go:207", #[⟨5, .data⟩, ⟨2, .guard⟩], some (2, false)⟩
abbrev oYN137 : Oper := ⟨some 66, .call { callee := .value (.func 32), args := #[.tmp 62, .tmp 65], argTypes := #[24, 3] }, 3, "ref.go:207", #[⟨3, .data⟩, ⟨6, .data⟩, ⟨2, .chain⟩, ⟨2, .guard⟩], some (2, false)⟩
abbrev oYN138 : Oper := ⟨some 67, .binOp .lss 3 (.tmp 66) (.const (Go.Value.int .i64 12)) 3, 4, "ref.go:207", #[⟨7, .data⟩, ⟨2, .guard⟩], some (2, false)⟩
abbrev oYN139 : Oper := ⟨some 68, .pick (.tmp 61) (.const (Go.Value.bool true)) (.tmp 67), 4, "ref.go:207", #[⟨2, .data⟩, ⟨8, .data⟩], none⟩
abbrev oYN1310 : Oper := ⟨some 74, .move (.tmp 80), 93, "ref.go:210", #[⟨5, .data⟩], none⟩
abbrev oYN1311 : Oper := ⟨some 81, .extract (.tmp 74) 0, 24, "ref.go:210", #[⟨6, .data⟩], none⟩
abbrev oYN1312 : Oper := ⟨some 82, .extract (.tmp 74) 1, 25, "ref.go:210", #[⟨6, .data⟩, ⟨10, .gcOnly .lateStores⟩], none⟩
abbrev oYN1313 : Oper := ⟨none, .store 24 (.tmp 14) (.tmp 81), 0, "ref.go:210", #[⟨9, .data⟩, ⟨7, .data⟩, ⟨5, .chain⟩, ⟨0, .phase⟩, ⟨1, .phase⟩, ⟨2, .phase⟩, ⟨3, .phase⟩, ⟨4, .phase⟩, ⟨5, .phase⟩, ⟨6, .phase⟩, ⟨7, .phase⟩, ⟨8, .textOnly .lateStores⟩, ⟨9, .phase⟩], none⟩
abbrev oYN1314 : Oper := ⟨some 15, .assign (.tmp 82), 25, "ref.go:210", #[⟨8, .data⟩, ⟨10, .chain⟩, ⟨0, .phase⟩, ⟨1, .phase⟩, ⟨2, .phase⟩, ⟨3, .phase⟩, ⟨4, .phase⟩, ⟨5, .phase⟩, ⟨6, .phase⟩, ⟨7, .phase⟩, ⟨8, .phase⟩, ⟨9, .phase⟩, ⟨10, .phase⟩], none⟩
open Go.RowKit Flt
set_option maxRecDepth 100000
set_option maxHeartbeats 1000000 in
theorem rof9_any13 (h : Hp) (v : Int) (A : Option Addr) (c : Nat) (w : World) (hs : ObsR w A h.objs) (fit : h.Fit) (hm : mayB h = true) (hv : hasB h.objs.length v = true) :
    Calls Tryz.prog 87 #[.agg #[.slice A h.objs.length c, .int .i64 h.cap, .int .i64 h.last], .int .i64 v] w fun e w' => e = .returned (.tuple #[.int .i64 (lf9 h v).1, .int .i64 (lf9 h v).2]) ∧ Below w.heap.size w w' := by
  have HS := hid hs
  have HF := hid fit
  have HM := hid hm
  obtain ⟨w0, hw0⟩ : ∃ u, u = w.alloc (.cells #[Value.slice A h.objs.length c, Value.int .i64 h.cap, Value.int .i64 h.last] 24) := ⟨_, rfl⟩
  have HB0 : Hid (Below w.heap.size w w0) := by show Below _ _ _; rw [hw0]; exact below_alloc w _
  have HX0 : Hid (Lies w0 w.heap.size 24 #[Value.slice A h.objs.length c, Value.int .i64 h.cap, Value.int .i64 h.last]) := by show Lies _ _ _ _; rw [hw0]; exact Lies.new _ _ _
  obtain ⟨p1, hp1⟩ : ∃ x, x = (lf9 h v).1 := ⟨_, rfl⟩
  obtain ⟨p2, hp2⟩ : ∃ x, x = (lf9 h v).2 := ⟨_, rfl⟩
  rw [← hp1, ← hp2]
  have HP1 := hid hp1
  have HP2 := hid hp2
  clear hs fit hm hp1 hp2
  go_enter Tryz.func87, Tryz.ntmps87
  go_upto_region 1 with fail
  rw [← hw0]
  clear hw0
  obtain ⟨x0, x1, x2⟩ := HX0.out.c3
  go_wp2_with fail
  refine (rmay_any h A c w0 (HS.out.below HB0.out) HF.out).mono ?_
  rintro e w1 ⟨rfl, hb⟩
  rw [HM.out]
  have HB1 := hid (then_w HB0.out hb)
  have HX1 := hid (HX0.out.later hb)
  clear hb x0 x1 x2
  go_wp2_with fail
  refine (rn_any v w1).mono ?_
  rintro e wa ⟨rfl, hw⟩
  rw [← hw]
  clear hw
  cases hn : nB v
  next =>
   have hr : refB h.objs.length v = true := by
     unfold hasB at hv
     rw [hn, Bool.false_or] at hv; exact hv
   have HE1 : Hid (p1 = (obAt h v).cls) := by show _ = _; rw [HP1.out]; unfold lf9; rw [if_neg (by rw [HM.out]; decide), if_neg (by rw [hn]; decide), if_pos hr]
   have HE2 : Hid (p2 = 0) := by show _ = _; rw [HP2.out]; unfold lf9; rw [if_neg (by rw [HM.out]; decide), if_neg (by rw [hn]; decide), if_pos hr]
   obtain ⟨n, hnv⟩ : ∃ n, n = nV v := ⟨_, rfl⟩
   rw [← hnv]
   obtain ⟨i, b, off, S, d, hi, hil, rfl, hc, -, -, -⟩ := ob_read12 HS.out HB1.out hr
   obtain ⟨q0, -, -, -, -, -⟩ := hc
   have HI := hid hi
   have hiI : (i : Int) < (h.objs.length : Int) := by omega
   have hi0 : ¬ (i : Int) < 0 := by omega
   have HREF : Hid (∀ W : World, Calls Tryz.prog 32 #[.agg #[.slice ((some ⟨b, off, none⟩)) h.objs.length c, .int .i64 h.cap, .int .i64 h.last], .int .i64 v] W fun e w' => e = .returned (.int .i64 i) ∧ Below W.heap.size W w') := by
     show ∀ W : World, _
     intro W
     rw [← HI.out]; exact rref_any h v _ c W
   clear hn hnv hr hi hv
   obtain ⟨x0, x1, x2⟩ := HX1.out.c3
   have Q0 := hid q0
   go_wp2_with fail
   refine (HREF.out w1).mono ?_
   rintro e w2 ⟨rfl, hb⟩
   have HB2 := hid (then_w HB1.out hb)
   have HX2 := hid (HX1.out.later hb)
   have Q2 := hid (cell_later hb Q0.out)
   clear hb x0 x1 x2 q0 Q0
   obtain ⟨x0, x1, x2⟩ := HX2.out.c3
   have q0 := Q2.out
   go_upto_region 8 with fail
   refine wp_region_held_drew (S := (fun w' => w'.cell? ⟨w.heap.size, 0, none⟩ = some (.slice (some ⟨b, off, none⟩) h.objs.length c) ∧ w'.cell? ⟨w.heap.size, 1, none⟩ = some (.int .i64 h.cap) ∧ w'.cell? ⟨w.heap.size, 2, none⟩ = some (.int .i64 h.last) ∧ w'.cell? ⟨b, off + i * 6, none⟩ = some (.int .i64 (obAt h v).cls))) (by kernel_rfl) ?_ (fun hH0 => ?_)
   next =>
    exact ⟨dcJ x0, dcJ x1, dcJ x2, dcJ q0⟩
   refine tkJ 0 ⟨some 21, .fieldAddr 24 (.tmp 2) 0, 0, "ref.go:46", #[], none⟩ ?_
   refine tkJ 1 ⟨some 22, .load 22 (.tmp 21), 22, "ref.go:46", #[⟨0, .data⟩], none⟩ ?_
   refine tkJ 2 ⟨some 23, .load 24 (.tmp 2), 24, "ref.go:46", #[], none⟩ ?_
   refine tkJ 3 ⟨some 24, .move (.tmp 1), 3, "ref.go:46", #[], none⟩ ?_
   refine rdJ 4 ⟨some 25, .call { callee := .value (.func 32), args := #[.tmp 23, .tmp 24], argTypes := #[24, 3] }, 3, "ref.go:46", #[⟨2, .data⟩, ⟨3, .data⟩], none⟩ fun K hK => ?_
   go_simp
   go_at_call 32
   refine (HREF.out _).mono ?_
   rintro e w3 ⟨rfl, hb⟩
   have HB3 := hid (then_w HB2.out (then_w (Below.refl _ w2).drew hb))
   refine hK.out _ _ ?_ (fun hH1 => ?_)
   next =>
    exact ⟨cell_later hb hH0.1, cell_later hb hH0.2.1, cell_later hb hH0.2.2.1, cell_later hb hH0.2.2.2⟩
   clear hK K
   try simp only [apt12]
   clear hb
   refine tkJ 5 ⟨some 26, .indexAddr 22 (.tmp 22) (.tmp 25), 0, "ref.go:46", #[⟨1, .data⟩, ⟨4, .data⟩], none⟩ ?_
   refine tkJ 6 ⟨some 27, .fieldAddr 41 (.tmp 26) 0, 0, "ref.go:46", #[⟨5, .data⟩], none⟩ ?_
   refine tkJ 7 ⟨some 28, .load 3 (.tmp 27), 3, "ref.go:46", #[⟨6, .data⟩], none⟩ ?_
   refine tkJ 8 ⟨some 4, .assign (.tmp 28), 3, "ref.go:46", #[⟨7, .data⟩, ⟨4, .chain⟩, ⟨0, .phase⟩, ⟨1, .phase⟩, ⟨2, .phase⟩, ⟨3, .phase⟩, ⟨4, .phase⟩, ⟨5, .phase⟩, ⟨6, .phase⟩, ⟨7, .phase⟩], none⟩ ?_
   refine tkJ 9 ⟨some 5, .assign (.const (Go.Value.int .i64 0)), 25, "ref.go:46", #[⟨8, .chain⟩, ⟨0, .phase⟩, ⟨1, .phase⟩, ⟨2, .phase⟩, ⟨3, .phase⟩, ⟨4, .phase⟩, ⟨5, .phase⟩, ⟨6, .phase⟩, ⟨7, .phase⟩, ⟨8, .phase⟩], none⟩ ?_
   refine wpAnyH_done (by kernel_rfl) ?_ _
   go_wp2_with fail
   go_ret2
   exact ⟨by rw [HE1.out, HE2.out]; rfl, HB3.out⟩
  next =>
   have HE1 : Hid (p1 = 6) := by show _ = _; rw [HP1.out]; unfold lf9; rw [if_neg (by rw [HM.out]; decide), if_pos hn]
   have HE2 : Hid (p2 = 0) := by show _ = _; rw [HP2.out]; unfold lf9; rw [if_neg (by rw [HM.out]; decide), if_pos hn]
   obtain ⟨n, hnv⟩ : ∃ n, n = nV v := ⟨_, rfl⟩
   rw [← hnv]
   clear hn hnv hv
   go_wp2_with fail
   go_ret2
   exact ⟨by rw [HE1.out, HE2.out]; rfl, HB1.out⟩
theorem in_h13' (h : Hp) (n : Int) : (in13 h n).1 = h := by unfold in13; split <;> rfl
theorem at0_13 {w w' : World} {ba oa : Nat} {x : Value} (hb : Below w.heap.size w w') (h : ba < w.heap.size) (hz : w.cell? ⟨ba, oa + 0, none⟩ = some x) : w'.cell? ⟨ba, oa, none⟩ = some x := by
  have := (hb.cell (p := ⟨ba, oa + 0, none⟩) h).trans hz
  simpa using this
theorem be_ok13 {h : Hp} {s a : Int} (hm : mayB h = true) (h1 : 0 ≤ refI h.objs.length s) (h2 : 0 ≤ refI h.objs.length a) : beE h s a = 0 := by
  have k1 : refB h.objs.length s = true := by
    cases hr : refB h.objs.length s
    next =>
     unfold refI at h1; rw [if_neg (by rw [hr]; decide)] at h1; exact absurd h1 (by decide)
    next =>
     rfl
  have k2 : refB h.objs.length a = true := by
    cases hr : refB h.objs.length a
    next =>
     unfold refI at h2; rw [if_neg (by rw [hr]; decide)] at h2; exact absurd h2 (by decide)
    next =>
     rfl
  unfold beE
  simp [hm, k1, k2]
theorem ref12_13 {h : Hp} {s : Int} (hv : hasB h.objs.length s = true) : refI h.objs.length s < 12 ↔ (atB s = false ∨ atV s < 12) := by
  unfold hasB at hv
  cases hr : refB h.objs.length s
  next =>
   have hn : nB s = true := by rw [hr, Bool.or_false] at hv; exact hv
   have h1 : refI h.objs.length s = -1 := by unfold refI; rw [if_neg (by rw [hr]; decide)]
   have h2 : atB s = false := by
     cases ha : atB s
     next =>
      rfl
     next =>
      have := nB_iff.1 hn; have := atB_iff.1 ha; omega
   rw [h1, h2]; simp
  next =>
   rw [refI_nonneg hr]
   have := (refB_no hr).1
   rw [this]; simp
set_option maxHeartbeats 2000000 in
theorem ridentity_any13 (h : Hp) (num s : Int) (al : List Int) (SA : Option Addr) (da : Nat) (A : Option Addr) (c : Nat) (w : World) (hs : ObsR w A h.objs) (fit : h.Fit) (hm : mayB h = true) (hv : hasB h.objs.length s = true) (hsa : IntsR w SA al) (ha : ∀ x ∈ al, hasB h.objs.length x = true) (hnum : num = 13 ∨ num = 14 ∨ num = 15 ∨ num = 16) (har : ar13 num = some al.length) :
    Calls Tryz.prog 45 #[.agg #[.slice A h.objs.length c, .int .i64 h.cap, .int .i64 h.last], .int .i64 num, .int .i64 s, .slice SA al.length da] w (RsQ13 w.heap.size w h A c (id13 h num s (al.getD 0 0))) := by
  have HS := hid hs
  have HF := hid fit
  have HM := hid hm
  have HV := hid hv
  have HSA := hid hsa
  have HA := hid ha
  have HAR := hid har
  clear hs fit hsa hm hv ha har
  obtain ⟨r, hr⟩ : ∃ r, r = id13 h num s (al.getD 0 0) := ⟨_, rfl⟩
  rw [← hr]
  have HRR := hid hr
  clear hr
  obtain ⟨w0, hw0⟩ : ∃ u, u = (w.alloc (.cells #[Value.slice A h.objs.length c, Value.int .i64 h.cap, Value.int .i64 h.last] 24)).alloc (.cells #[.slice none 0 0, .int .i64 0, .int .i64 0] 24) := ⟨_, rfl⟩
  obtain ⟨bR, hbR⟩ : ∃ x, x = w.heap.size + 1 := ⟨_, rfl⟩
  have HB0 : Hid (Below w.heap.size w w0) := by show Below _ _ _; rw [hw0]; exact below_alloc2 w _ _
  have HX0 : Hid (Lies w0 w.heap.size 24 #[Value.slice A h.objs.length c, Value.int .i64 h.cap, Value.int .i64 h.last]) := by
    show Lies _ _ _ _
    rw [hw0]; exact (Lies.new _ _ _).alloc _
  have HR0 : Hid (Lies w0 bR 24 #[.slice none 0 0, .int .i64 0, .int .i64 0]) := by
    show Lies _ _ _ _
    have := Lies.new (w.alloc (.cells #[Value.slice A h.objs.length c, Value.int .i64 h.cap, Value.int .i64 h.last] 24)) 24 #[.slice none 0 0, .int .i64 0, .int .i64 0]
    rw [hw0, hbR]; simpa using this
  have HRW : Hid (w.heap.size ≤ bR) := by show _ ≤ _; omega
  have HNE : Hid (w.heap.size ≠ bR) := by show _ ≠ _; omega
  go_enter Tryz.func45, Tryz.ntmps45
  go_upto_region 1 with fail
  rw [← hw0, ← hbR]
  clear hw0 hbR
  obtain ⟨ri, hri⟩ : ∃ x, x = refI h.objs.length s := ⟨_, rfl⟩
  have HRI := hid hri
  clear hri
  obtain ⟨x0, x1, x2⟩ := HX0.out.c3
  go_wp2_with fail
  refine (rref_any h s A c w0).mono ?_
  rintro e w1 ⟨rfl, hb⟩
  rw [← HRI.out]
  have HB1 := hid (then_w HB0.out hb)
  have HX1 := hid (HX0.out.later hb)
  have HR1 := hid (HR0.out.later hb)
  clear hb
  clear x0 x1 x2
  rcases hnum with rfl | rfl | rfl | rfl
  next =>
   obtain ⟨v, hv⟩ : ∃ x, x = (lf9 h s).1 := ⟨_, rfl⟩
   obtain ⟨e9, he9⟩ : ∃ x, x = (lf9 h s).2 := ⟨_, rfl⟩
   obtain ⟨ra, hra⟩ : ∃ x : Rs, x = (h, v, 0) := ⟨_, rfl⟩
   have HE : Hid (r = ra) := by show _ = _; rw [HRR.out, hra, hv]; rfl
   have HO9 := hid (rof9_any13 h s A c w1 (HS.out.below HB1.out) HF.out HM.out HV.out)
   rw [← hv, ← he9] at HO9
   have HRA := hid hra
   clear hv he9 hra
   obtain ⟨x0, x1, x2⟩ := HX1.out.c3
   go_wp2_with fail
   refine HO9.out.mono ?_
   rintro e w2 ⟨rfl, hb⟩
   have HB2 := hid (then_w HB1.out hb)
   have HX2 := hid (HX1.out.later hb)
   have HR2 := hid (HR1.out.later hb)
   clear hb
   clear x0 x1 x2
   obtain ⟨x0, x1, x2⟩ := HX2.out.c3
   obtain ⟨k0, k1, k2⟩ := HR2.out.c3
   obtain ⟨f0, f1, f2⟩ := HR2.out.f3
   go_wp2_with fail
   have HK := HR2.out.s3 (.slice A h.objs.length c) (.int .i64 h.cap) (.int .i64 h.last)
   obtain ⟨r0, r1, r2⟩ := HK
   have HBE := below_s3 HB2.out HRW.out (.slice A h.objs.length c) (.int .i64 h.cap) (.int .i64 h.last)
   refine bodyPost_ret (v := .tuple #[.agg #[.slice A h.objs.length c, .int .i64 h.cap, .int .i64 h.last], .int .i64 v, .int .i64 0]) (by simp [results, Tryz.results45, go_sem, r0, r1, r2]) rfl ?_
   rw [HE.out, HRA.out]
   exact ⟨A, c, rfl, .inl ⟨rfl, rfl, rfl⟩, HBE⟩
  next =>
   have hl : al.length = 1 := (Option.some.inj HAR.out).symm
   obtain ⟨ba, oa, rfl, hba, hca⟩ := HSA.out (by omega)
   obtain ⟨a, ha⟩ : ∃ a, a = al.getD 0 0 := ⟨_, rfl⟩
   have ha0 : al[0]? = some a := by rw [ha, List.getD_eq_getElem?_getD, List.getElem?_eq_getElem (by omega)]; rfl
   have HZ0 := hid (hca 0 a ha0)
   have HBA := hid hba
   have HHA := hid (HA.out a (List.mem_of_getElem? ha0))
   have HRR2 : Hid (r = id13 h 14 s a) := by show _ = _; rw [HRR.out, ha]
   rw [hl]
   clear hl hba hca ha ha0 HRR HSA HA
   have y0 : w1.cell? ⟨ba, oa, none⟩ = some (.int .i64 a) := by
     have := (HB1.out.cell (p := ⟨ba, oa + 0, none⟩) HBA.out).trans HZ0.out
     simpa using this
   obtain ⟨bb, hbb⟩ : ∃ x, x = decide (s = a) := ⟨_, rfl⟩
   obtain ⟨ra, hra⟩ : ∃ x : Rs, x = tr13 h bb := ⟨_, rfl⟩
   have HE : Hid (r = ra) := by show _ = _; rw [HRR2.out, hra, hbb]; rfl
   have HRA := hid hra
   have hbe : (s == a) = bb := by rw [hbb]; rfl
   have HTR : Hid (∀ W, Calls Tryz.prog 77 #[.agg #[.slice A h.objs.length c, .int .i64 h.cap, .int .i64 h.last], .bool bb] W (RsQ13 w.heap.size W h A c ra)) := by
     show ∀ W, _
     intro W
     rw [HRA.out]
     exact (rtruth_any13 h bb A c W).mono fun _ _ p => p.q rfl
   have hdd : decide (s = a) = bb := hbb.symm
   clear hbb hra
   obtain ⟨x0, x1, x2⟩ := HX1.out.c3
   go_upto_region 7 with fail
   refine wp_region_held_drew (S := (fun w' => w'.cell? ⟨w.heap.size, 0, none⟩ = some (.slice A h.objs.length c) ∧ w'.cell? ⟨w.heap.size, 1, none⟩ = some (.int .i64 h.cap) ∧ w'.cell? ⟨w.heap.size, 2, none⟩ = some (.int .i64 h.last) ∧ w'.cell? ⟨ba, oa, none⟩ = some (.int .i64 a))) (by kernel_rfl) ?_ (fun hH0 => ?_)
   next =>
    exact ⟨dcJ x0, dcJ x1, dcJ x2, dcJ y0⟩
   refine tkJ 0 ⟨some 32, .load 24 (.tmp 4), 24, "ref.go:200", #[], none⟩ ?_
   refine tkJ 1 ⟨some 33, .move (.tmp 2), 3, "ref.go:200", #[], none⟩ ?_
   refine tkJ 2 ⟨some 34, .move (.tmp 3), 34, "ref.go:200", #[], none⟩ ?_
   refine tkJ 3 ⟨some 35, .indexAddr 34 (.tmp 34) (.const (Go.Value.int .i64 0)), 0, "ref.go:200", #[⟨2, .data⟩], none⟩ ?_
   refine tkJ 4 ⟨some 36, .load 3 (.tmp 35), 3, "ref.go:200", #[⟨3, .data⟩], none⟩ ?_
   refine tkJ 5 ⟨some 37, .binOp .eql 3 (.tmp 33) (.tmp 36) 3, 4, "ref.go:200", #[⟨1, .data⟩, ⟨4, .data⟩], none⟩ ?_
   refine rdJ 6 ⟨some 38, .call { callee := .value (.func 77), args := #[.tmp 32, .tmp 37], argTypes := #[24, 4] }, 44, "ref.go:200", #[⟨0, .data⟩, ⟨5, .data⟩], none⟩ fun K hK => ?_
   go_simp
   go_at_call 77
   obtain ⟨wd, hd⟩ : ∃ x, x = w1.drew := ⟨_, rfl⟩
   rw [← hd]
   have hbd : Below w1.heap.size w1 wd := by rw [hd]; exact (Below.refl _ _).drew
   have HBz := hid (then_w HB1.out hbd)
   refine (HTR.out wd).mono ?_
   rintro e ut ⟨A9, c9, rfl, hor, hb2⟩
   have hb := then_w hbd hb2
   have HBT := hid (then_w HB1.out hb)
   have HXT := hid (HX1.out.later hb)
   have HRT := hid (HR1.out.later hb)
   have HOR := hid hor
   clear hd hbd hb hb2 hor
   obtain ⟨v0, v1, v2⟩ := HXT.out.c3
   have v3 := at0_13 HBT.out HBA.out HZ0.out
   refine hK.out _ _ ?_ (fun hH1 => ?_)
   next =>
    exact ⟨v0, v1, v2, v3⟩
   clear hK K
   try simp only [apt12]
   clear v0 v1 v2 v3
   refine tkJ 7 ⟨some 39, .extract (.tmp 38) 0, 24, "ref.go:200", #[⟨6, .data⟩], none⟩ ?_
   refine tkJ 8 ⟨some 40, .extract (.tmp 38) 1, 3, "ref.go:200", #[⟨6, .data⟩], none⟩ ?_
   refine tkJ 9 ⟨some 41, .extract (.tmp 38) 2, 25, "ref.go:200", #[⟨6, .data⟩], none⟩ ?_
   refine rdJ 10 ⟨none, .store 24 (.tmp 8) (.tmp 39), 0, "ref.go:200", #[⟨7, .data⟩, ⟨6, .chain⟩, ⟨0, .phase⟩, ⟨1, .phase⟩, ⟨2, .phase⟩, ⟨3, .phase⟩, ⟨4, .phase⟩, ⟨5, .phase⟩, ⟨6, .phase⟩, ⟨7, .phase⟩, ⟨8, .phase⟩, ⟨9, .phase⟩], none⟩ fun K hK => ?_
   obtain ⟨k0, k1, k2⟩ := HRT.out.c3
   obtain ⟨f0, f1, f2⟩ := HRT.out.f3
   go_simp
   clear k0 k1 k2 f0 f1 f2
   have HBE := below_s3 HBT.out HRW.out (.slice A9 ra.1.objs.length c9) (.int .i64 ra.1.cap) (.int .i64 ra.1.last)
   have HX9 := ((HXT.out.far (p := ⟨bR, 0, none⟩) HNE.out (.slice A9 ra.1.objs.length c9)).far (p := ⟨bR, 1, none⟩) HNE.out (.int .i64 ra.1.cap)).far (p := ⟨bR, 2, none⟩) HNE.out (.int .i64 ra.1.last)
   obtain ⟨v0, v1, v2⟩ := HX9.c3
   have v3 := at0_13 HBE HBA.out HZ0.out
   refine hK.out _ _ ?_ (fun hH2 => ?_)
   next =>
    exact ⟨v0, v1, v2, v3⟩
   clear hK K
   try simp only [apt12]
   clear v0 v1 v2 v3
   clear HX9
   refine tkJ 11 ⟨some 9, .assign (.tmp 40), 3, "ref.go:200", #[⟨8, .data⟩, ⟨10, .chain⟩, ⟨0, .phase⟩, ⟨1, .phase⟩, ⟨2, .phase⟩, ⟨3, .phase⟩, ⟨4, .phase⟩, ⟨5, .phase⟩, ⟨6, .phase⟩, ⟨7, .phase⟩, ⟨8, .phase⟩, ⟨9, .phase⟩, ⟨10, .phase⟩], none⟩ ?_
   refine tkJ 12 ⟨some 10, .assign (.tmp 41), 25, "ref.go:200", #[⟨9, .data⟩, ⟨11, .chain⟩, ⟨0, .phase⟩, ⟨1, .phase⟩, ⟨2, .phase⟩, ⟨3, .phase⟩, ⟨4, .phase⟩, ⟨5, .phase⟩, ⟨6, .phase⟩, ⟨7, .phase⟩, ⟨8, .phase⟩, ⟨9, .phase⟩, ⟨10, .phase⟩, ⟨11, .phase⟩], none⟩ ?_
   refine wpAnyH_done (by kernel_rfl) ?_ _
   have HK := HRT.out.s3 (.slice A9 ra.1.objs.length c9) (.int .i64 ra.1.cap) (.int .i64 ra.1.last)
   obtain ⟨r0, r1, r2⟩ := HK
   go_wp2_with fail
   refine bodyPost_ret (v := .tuple #[.agg #[.slice A9 ra.1.objs.length c9, .int .i64 ra.1.cap, .int .i64 ra.1.last], .int .i64 ra.2.1, .int .i64 ra.2.2]) (by simp [results, Tryz.results45, go_sem, r0, r1, r2]) rfl ?_
   rw [HE.out]
   refine ⟨A9, c9, rfl, ?_, HBE⟩
   rcases HOR.out with h1 | ⟨ls, h1, h2⟩
   next =>
    exact .inl h1
   next =>
    exact .inr ⟨ls, h1, h2.s3_13 HRT.out _ _ _⟩
  next =>
   cases hn : nB s
   next =>
    have hr : refB h.objs.length s = true := by
      have hv := HV.out
      unfold hasB at hv
      rw [hn, Bool.false_or] at hv; exact hv
    obtain ⟨i, b, off, S, d, hi, hil, rfl, hc, -, -, hbw⟩ := ob_read12 HS.out HB1.out hr
    obtain ⟨-, -, -, -, -, q5⟩ := hc
    obtain rfl : ri = i := HRI.out.trans hi
    obtain ⟨g5, hg5⟩ : ∃ x, x = (obAt h s).hash := ⟨_, rfl⟩
    rw [← hg5] at q5
    obtain ⟨ra, hra⟩ : ∃ x : Rs, x = in13 h g5 := ⟨_, rfl⟩
    have HE : Hid (r = ra) := by show _ = _; rw [HRR.out, hra, hg5]; unfold id13; rw [if_neg (by decide), if_neg (by decide), if_pos rfl, if_neg (by rw [hn]; decide)]
    have hiI : (i : Int) < (h.objs.length : Int) := by omega
    have hi0 : ¬ (i : Int) < 0 := by omega
    have HRA := hid hra
    have HIN : Hid (∀ W, Calls Tryz.prog 75 #[.agg #[.slice ((some ⟨b, off, none⟩)) h.objs.length c, .int .i64 h.cap, .int .i64 h.last], .int .i64 g5] W (RsQ13 w.heap.size W h (some ⟨b, off, none⟩) c ra)) := by
      show ∀ W, _
      intro W
      rw [HRA.out]
      exact (rinteger_any13 h g5 _ c W).mono fun _ _ p => p.q (in_h13' _ _)
    have HBW := hid hbw
    have HQ5 : Hid (w.cell? ⟨b, off + i * 6 + 5, none⟩ = some (.int .i64 g5)) := (HB1.out.cell (p := ⟨b, off + i * 6 + 5, none⟩) hbw).symm.trans q5
    clear hn hr hi hg5 hra HRR hbw
    obtain ⟨x0, x1, x2⟩ := HX1.out.c3
    go_upto_region 11 with fail
    refine wp_region_held_drew (S := (fun w' => w'.cell? ⟨w.heap.size, 0, none⟩ = some (.slice (some ⟨b, off, none⟩) h.objs.length c) ∧ w'.cell? ⟨w.heap.size, 1, none⟩ = some (.int .i64 h.cap) ∧ w'.cell? ⟨w.heap.size, 2, none⟩ = some (.int .i64 h.last) ∧ w'.cell? ⟨b, off + i * 6 + 5, none⟩ = some (.int .i64 g5))) (by kernel_rfl) ?_ (fun hH0 => ?_)
    next =>
     exact ⟨dcJ x0, dcJ x1, dcJ x2, dcJ q5⟩
    refine tkJ 0 ⟨some 48, .load 24 (.tmp 4), 24, "ref.go:205", #[], none⟩ ?_
    refine tkJ 1 ⟨some 49, .fieldAddr 24 (.tmp 4) 0, 0, "ref.go:205", #[], none⟩ ?_
    refine tkJ 2 ⟨some 50, .load 22 (.tmp 49), 22, "ref.go:205", #[⟨1, .data⟩], none⟩ ?_
    refine tkJ 3 ⟨some 51, .move (.tmp 11), 3, "ref.go:205", #[], none⟩ ?_
    refine tkJ 4 ⟨some 52, .indexAddr 22 (.tmp 50) (.tmp 51), 0, "ref.go:205", #[⟨2, .data⟩, ⟨3, .data⟩], none⟩ ?_
    refine tkJ 5 ⟨some 53, .fieldAddr 41 (.tmp 52) 5, 0, "ref.go:205", #[⟨4, .data⟩], none⟩ ?_
    refine tkJ 6 ⟨some 54, .load 3 (.tmp 53), 3, "ref.go:205", #[⟨5, .data⟩], none⟩ ?_
    refine rdJ 7 ⟨some 55, .call { callee := .value (.func 75), args := #[.tmp 48, .tmp 54], argTypes := #[24, 3] }, 44, "ref.go:205", #[⟨0, .data⟩, ⟨6, .data⟩], none⟩ fun K hK => ?_
    go_simp
    go_at_call 75
    obtain ⟨wd, hd⟩ : ∃ x, x = w1.drew := ⟨_, rfl⟩
    rw [← hd]
    have hbd : Below w1.heap.size w1 wd := by rw [hd]; exact (Below.refl _ _).drew
    have HBz := hid (then_w HB1.out hbd)
    refine (HIN.out wd).mono ?_
    rintro e ut ⟨A9, c9, rfl, hor, hb2⟩
    have hb := then_w hbd hb2
    have HBT := hid (then_w HB1.out hb)
    have HXT := hid (HX1.out.later hb)
    have HRT := hid (HR1.out.later hb)
    have HOR := hid hor
    clear hd hbd hb hb2 hor
    obtain ⟨v0, v1, v2⟩ := HXT.out.c3
    have v3 := (HBT.out.cell (p := ⟨b, off + i * 6 + 5, none⟩) HBW.out).trans HQ5.out
    refine hK.out _ _ ?_ (fun hH1 => ?_)
    next =>
     exact ⟨v0, v1, v2, v3⟩
    clear hK K
    try simp only [apt12]
    clear v0 v1 v2 v3
    refine tkJ 8 ⟨some 56, .extract (.tmp 55) 0, 24, "ref.go:205", #[⟨7, .data⟩], none⟩ ?_
    refine tkJ 9 ⟨some 57, .extract (.tmp 55) 1, 3, "ref.go:205", #[⟨7, .data⟩], none⟩ ?_
    refine tkJ 10 ⟨some 58, .extract (.tmp 55) 2, 25, "ref.go:205", #[⟨7, .data⟩], none⟩ ?_
    refine rdJ 11 ⟨none, .store 24 (.tmp 8) (.tmp 56), 0, "ref.go:205", #[⟨8, .data⟩, ⟨7, .chain⟩, ⟨0, .phase⟩, ⟨1, .phase⟩, ⟨2, .phase⟩, ⟨3, .phase⟩, ⟨4, .phase⟩, ⟨5, .phase⟩, ⟨6, .phase⟩, ⟨7, .phase⟩, ⟨8, .phase⟩, ⟨9, .phase⟩, ⟨10, .phase⟩], none⟩ fun K hK => ?_
    obtain ⟨k0, k1, k2⟩ := HRT.out.c3
    obtain ⟨f0, f1, f2⟩ := HRT.out.f3
    go_simp
    clear k0 k1 k2 f0 f1 f2
    have HBE := below_s3 HBT.out HRW.out (.slice A9 ra.1.objs.length c9) (.int .i64 ra.1.cap) (.int .i64 ra.1.last)
    have HX9 := ((HXT.out.far (p := ⟨bR, 0, none⟩) HNE.out (.slice A9 ra.1.objs.length c9)).far (p := ⟨bR, 1, none⟩) HNE.out (.int .i64 ra.1.cap)).far (p := ⟨bR, 2, none⟩) HNE.out (.int .i64 ra.1.last)
    obtain ⟨v0, v1, v2⟩ := HX9.c3
    have v3 := (HBE.cell (p := ⟨b, off + i * 6 + 5, none⟩) HBW.out).trans HQ5.out
    refine hK.out _ _ ?_ (fun hH2 => ?_)
    next =>
     exact ⟨v0, v1, v2, v3⟩
    clear hK K
    try simp only [apt12]
    clear v0 v1 v2 v3
    clear HX9
    refine tkJ 12 ⟨some 9, .assign (.tmp 57), 3, "ref.go:205", #[⟨9, .data⟩, ⟨11, .chain⟩, ⟨0, .phase⟩, ⟨1, .phase⟩, ⟨2, .phase⟩, ⟨3, .phase⟩, ⟨4, .phase⟩, ⟨5, .phase⟩, ⟨6, .phase⟩, ⟨7, .phase⟩, ⟨8, .phase⟩, ⟨9, .phase⟩, ⟨10, .phase⟩, ⟨11, .phase⟩], none⟩ ?_
    refine tkJ 13 ⟨some 10, .assign (.tmp 58), 25, "ref.go:205", #[⟨10, .data⟩, ⟨12, .chain⟩, ⟨0, .phase⟩, ⟨1, .phase⟩, ⟨2, .phase⟩, ⟨3, .phase⟩, ⟨4, .phase⟩, ⟨5, .phase⟩, ⟨6, .phase⟩, ⟨7, .phase⟩, ⟨8, .phase⟩, ⟨9, .phase⟩, ⟨10, .phase⟩, ⟨11, .phase⟩, ⟨12, .phase⟩], none⟩ ?_
    refine wpAnyH_done (by kernel_rfl) ?_ _
    have HK := HRT.out.s3 (.slice A9 ra.1.objs.length c9) (.int .i64 ra.1.cap) (.int .i64 ra.1.last)
    obtain ⟨r0, r1, r2⟩ := HK
    go_wp2_with fail
    refine bodyPost_ret (v := .tuple #[.agg #[.slice A9 ra.1.objs.length c9, .int .i64 ra.1.cap, .int .i64 ra.1.last], .int .i64 ra.2.1, .int .i64 ra.2.2]) (by simp [results, Tryz.results45, go_sem, r0, r1, r2]) rfl ?_
    rw [HE.out]
    refine ⟨A9, c9, rfl, ?_, HBE⟩
    rcases HOR.out with h1 | ⟨ls, h1, h2⟩
    next =>
     exact .inl h1
    next =>
     exact .inr ⟨ls, h1, h2.s3_13 HRT.out _ _ _⟩
   next =>
    obtain ⟨ra, hra⟩ : ∃ x : Rs, x = (h, s, 0) := ⟨_, rfl⟩
    have HE : Hid (r = ra) := by show _ = _; rw [HRR.out, hra]; unfold id13; rw [if_neg (by decide), if_neg (by decide), if_pos rfl, if_pos hn]
    have hri : ri < 0 := by
      rw [HRI.out]
      unfold refI
      have : refB h.objs.length s = false := by
        cases hr : refB h.objs.length s
        next =>
         rfl
        next =>
         have h1 := nB_iff.1 hn; have h2 := atB_iff.1 (refB_no hr).1; omega
      rw [if_neg (by rw [this]; decide)]; decide
    have HRA := hid hra
    clear hn hra
    obtain ⟨x0, x1, x2⟩ := HX1.out.c3
    obtain ⟨k0, k1, k2⟩ := HR1.out.c3
    obtain ⟨f0, f1, f2⟩ := HR1.out.f3
    go_wp2_with fail
    have HK := HR1.out.s3 (.slice A h.objs.length c) (.int .i64 h.cap) (.int .i64 h.last)
    obtain ⟨r0, r1, r2⟩ := HK
    have HBE := below_s3 HB1.out HRW.out (.slice A h.objs.length c) (.int .i64 h.cap) (.int .i64 h.last)
    refine bodyPost_ret (v := .tuple #[.agg #[.slice A h.objs.length c, .int .i64 h.cap, .int .i64 h.last], .int .i64 s, .int .i64 0]) (by simp [results, Tryz.results45, go_sem, r0, r1, r2]) rfl ?_
    rw [HE.out, HRA.out]
    exact ⟨A, c, rfl, .inl ⟨rfl, rfl, rfl⟩, HBE⟩
  next =>
   have hl : al.length = 1 := (Option.some.inj HAR.out).symm
   obtain ⟨ba, oa, rfl, hba, hca⟩ := HSA.out (by omega)
   obtain ⟨a, ha⟩ : ∃ a, a = al.getD 0 0 := ⟨_, rfl⟩
   have ha0 : al[0]? = some a := by rw [ha, List.getD_eq_getElem?_getD, List.getElem?_eq_getElem (by omega)]; rfl
   have HZ0 := hid (hca 0 a ha0)
   have HBA := hid hba
   have HHA := hid (HA.out a (List.mem_of_getElem? ha0))
   have HRR2 : Hid (r = id13 h 16 s a) := by show _ = _; rw [HRR.out, ha]
   rw [hl]
   clear hl hba hca ha ha0 HRR HSA HA
   have y0 : w1.cell? ⟨ba, oa, none⟩ = some (.int .i64 a) := by
     have := (HB1.out.cell (p := ⟨ba, oa + 0, none⟩) HBA.out).trans HZ0.out
     simpa using this
   by_cases hi : ri < 12
   next =>
    have HBAD : Hid (r = fa13 h) := by
      show _ = _
      rw [HRR2.out]; unfold id13
      rw [if_neg (by decide), if_neg (by decide), if_neg (by decide), if_pos ?_]
      rcases (ref12_13 HV.out).1 (by rw [← HRI.out]; exact hi) with g | g
      next =>
       exact .inl g
      next =>
       exact .inr (.inl g)
    obtain ⟨x0, x1, x2⟩ := HX1.out.c3
    go_upto_region 12 with fail
    go_quiet (fail)
    obtain ⟨w2, hw2⟩ : ∃ x, x = w1.drewN nq := ⟨_, rfl⟩
    rw [← hw2]
    have hb : Below w1.heap.size w1 w2 := by rw [hw2]; exact _root_.Go.below_drewN (Below.refl _ _) _
    clear hw2
    have HB2 := hid (then_w HB1.out hb)
    have HX2 := hid (HX1.out.later hb)
    have HR2 := hid (HR1.out.later hb)
    clear hb
    clear x0 x1 x2 y0
    have HE : Hid (r = fa13 h) := by show _ = _; exact HBAD.out
    obtain ⟨ra, hra⟩ : ∃ x, x = fa13 h := ⟨_, rfl⟩
    rw [← hra] at HE
    have HC9 := hid (show Calls Tryz.prog 41 #[.agg #[.slice A h.objs.length c, .int .i64 h.cap, .int .i64 h.last]] w2 (RsQ13 w.heap.size w2 h A c ra) from by rw [hra]; exact (rfail_any13 h A c w2).mono fun _ _ p => p.q rfl)
    clear hra
    obtain ⟨x0, x1, x2⟩ := HX2.out.c3
    go_wp2_with fail
    refine (HC9.out).mono ?_
    rintro e w3 ⟨A9, c9, rfl, hor, hb⟩
    have HOR := hid hor
    clear hor
    have HB3 := hid (then_w HB2.out hb)
    have HX3 := hid (HX2.out.later hb)
    have HR3 := hid (HR2.out.later hb)
    clear hb
    clear x0 x1 x2
    obtain ⟨k0, k1, k2⟩ := HR3.out.c3
    obtain ⟨f0, f1, f2⟩ := HR3.out.f3
    go_wp2_with fail
    have HK := HR3.out.s3 (.slice A9 ra.1.objs.length c9) (.int .i64 ra.1.cap) (.int .i64 ra.1.last)
    obtain ⟨r0, r1, r2⟩ := HK
    have HBE := below_s3 HB3.out HRW.out (.slice A9 ra.1.objs.length c9) (.int .i64 ra.1.cap) (.int .i64 ra.1.last)
    refine bodyPost_ret (v := .tuple #[.agg #[.slice A9 ra.1.objs.length c9, .int .i64 ra.1.cap, .int .i64 ra.1.last], .int .i64 ra.2.1, .int .i64 ra.2.2]) (by simp [results, Tryz.results45, go_sem, r0, r1, r2]) rfl ?_
    rw [HE.out]
    refine ⟨A9, c9, rfl, ?_, HBE⟩
    rcases HOR.out with h1 | ⟨ls, h1, h2⟩
    next =>
     exact .inl h1
    next =>
     exact .inr ⟨ls, h1, h2.s3_13 HR3.out _ _ _⟩
   next =>
    obtain ⟨qi, hqi⟩ : ∃ x, x = refI h.objs.length a := ⟨_, rfl⟩
    have HQI := hid hqi
    have HREF : Hid (∀ W : World, Calls Tryz.prog 32 #[.agg #[.slice A h.objs.length c, .int .i64 h.cap, .int .i64 h.last], .int .i64 a] W fun e w' => e = .returned (.int .i64 qi) ∧ Below W.heap.size W w') := by
      show ∀ W : World, _
      intro W
      rw [HQI.out]; exact rref_any h a _ c W
    clear hqi
    have hdi : decide (ri < 12) = false := decide_eq_false hi
    obtain ⟨x0, x1, x2⟩ := HX1.out.c3
    by_cases hj : qi < 12
    next =>
     have HBAD : Hid (r = fa13 h) := by
       show _ = _
       rw [HRR2.out]; unfold id13
       rw [if_neg (by decide), if_neg (by decide), if_neg (by decide), if_pos ?_]
       rcases (ref12_13 HHA.out).1 (by rw [← HQI.out]; exact hj) with g | g
       next =>
        exact .inr (.inr (.inl g))
       next =>
        exact .inr (.inr (.inr g))
     have hdj : decide (qi < 12) = true := decide_eq_true hj
     go_upto_region 12 with fail
     refine wp_region_held_drew (S := (fun w' => w'.cell? ⟨w.heap.size, 0, none⟩ = some (.slice A h.objs.length c) ∧ w'.cell? ⟨w.heap.size, 1, none⟩ = some (.int .i64 h.cap) ∧ w'.cell? ⟨w.heap.size, 2, none⟩ = some (.int .i64 h.last) ∧ w'.cell? ⟨ba, oa, none⟩ = some (.int .i64 a))) (by kernel_rfl) ?_ (fun hH0 => ?_)
     next =>
      exact ⟨dcJ x0, dcJ x1, dcJ x2, dcJ y0⟩
     refine tkJ 0 oYN130 ?_
     refine tkJ 1 oYN131 ?_
     refine tkJ 2 oYN132 ?_
     refine tkJ 3 oYN133 ?_
     refine tkJ 4 oYN134 ?_
     refine tkJ 5 oYN135 ?_
     refine tkJ 6 oYN136 ?_
     refine rdJ 7 oYN137 fun K hK => ?_
     go_simp
     go_at_call 32
     refine (HREF.out _).mono ?_
     rintro e w2 ⟨rfl, hb2⟩
     have hb := then_w (Below.refl _ w1).drew hb2
     have HB2 := hid (then_w HB1.out hb)
     have HX2 := hid (HX1.out.later hb)
     have HR2 := hid (HR1.out.later hb)
     clear hb
     refine hK.out _ _ ?_ (fun hH1 => ?_)
     next =>
      exact ⟨cell_later hb2 hH0.1, cell_later hb2 hH0.2.1, cell_later hb2 hH0.2.2.1, cell_later hb2 hH0.2.2.2⟩
     clear hK K
     try simp only [apt12]
     clear hb2
     refine tkJ 8 oYN138 ?_
     refine tkJ 9 oYN139 ?_
     refine wpAnyH_done (by kernel_rfl) ?_ _
     clear x0 x1 x2 y0
     have HE : Hid (r = fa13 h) := by show _ = _; exact HBAD.out
     obtain ⟨ra, hra⟩ : ∃ x, x = fa13 h := ⟨_, rfl⟩
     rw [← hra] at HE
     have HC9 := hid (show Calls Tryz.prog 41 #[.agg #[.slice A h.objs.length c, .int .i64 h.cap, .int .i64 h.last]] w2 (RsQ13 w.heap.size w2 h A c ra) from by rw [hra]; exact (rfail_any13 h A c w2).mono fun _ _ p => p.q rfl)
     clear hra
     obtain ⟨x0, x1, x2⟩ := HX2.out.c3
     go_wp2_with fail
     refine (HC9.out).mono ?_
     rintro e w3 ⟨A9, c9, rfl, hor, hb⟩
     have HOR := hid hor
     clear hor
     have HB3 := hid (then_w HB2.out hb)
     have HX3 := hid (HX2.out.later hb)
     have HR3 := hid (HR2.out.later hb)
     clear hb
     clear x0 x1 x2
     obtain ⟨k0, k1, k2⟩ := HR3.out.c3
     obtain ⟨f0, f1, f2⟩ := HR3.out.f3
     go_wp2_with fail
     have HK := HR3.out.s3 (.slice A9 ra.1.objs.length c9) (.int .i64 ra.1.cap) (.int .i64 ra.1.last)
     obtain ⟨r0, r1, r2⟩ := HK
     have HBE := below_s3 HB3.out HRW.out (.slice A9 ra.1.objs.length c9) (.int .i64 ra.1.cap) (.int .i64 ra.1.last)
     refine bodyPost_ret (v := .tuple #[.agg #[.slice A9 ra.1.objs.length c9, .int .i64 ra.1.cap, .int .i64 ra.1.last], .int .i64 ra.2.1, .int .i64 ra.2.2]) (by simp [results, Tryz.results45, go_sem, r0, r1, r2]) rfl ?_
     rw [HE.out]
     refine ⟨A9, c9, rfl, ?_, HBE⟩
     rcases HOR.out with h1 | ⟨ls, h1, h2⟩
     next =>
      exact .inl h1
     next =>
      exact .inr ⟨ls, h1, h2.s3_13 HR3.out _ _ _⟩
    next =>
     have HGOOD : Hid (r = (beR h s a, s, 0)) := by
       show _ = _
       rw [HRR2.out]; unfold id13
       rw [if_neg (by decide), if_neg (by decide), if_neg (by decide), if_neg ?_]
       intro g
       have g1 := fun k => hi (by rw [HRI.out]; exact (ref12_13 HV.out).2 k)
       have g2 := fun k => hj (by rw [HQI.out]; exact (ref12_13 HHA.out).2 k)
       rcases g with g | g | g | g
       next =>
        exact g1 (.inl g)
       next =>
        exact g1 (.inr g)
       next =>
        exact g2 (.inl g)
       next =>
        exact g2 (.inr g)
     have hbe : beE h s a = 0 := be_ok13 HM.out (by have := HRI.out; omega) (by have := HQI.out; omega)
     obtain ⟨G, hG⟩ : ∃ x, x = beR h s a := ⟨_, rfl⟩
     have HBC : Hid (∀ W : World, ObsR W A h.objs → Calls Tryz.prog 88 #[.agg #[.slice A h.objs.length c, .int .i64 h.cap, .int .i64 h.last], .int .i64 s, .int .i64 a] W (HeapOw13 W G 0)) := by
       show ∀ W : World, _
       intro W hW
       have := rbecome_own13 h s a A c W hW HF.out
       rw [hbe, ← hG] at this
       exact this
     obtain ⟨ra, hra⟩ : ∃ x : Rs, x = (G, s, 0) := ⟨_, rfl⟩
     have HE : Hid (r = ra) := by show _ = _; rw [HGOOD.out, hra, hG]
     have HRA := hid hra
     have hdj : decide (qi < 12) = false := decide_eq_false hj
     clear hbe hG hra
     go_upto_region 12 with fail
     refine wp_region_held_drew (S := (fun w' => w'.cell? ⟨w.heap.size, 0, none⟩ = some (.slice A h.objs.length c) ∧ w'.cell? ⟨w.heap.size, 1, none⟩ = some (.int .i64 h.cap) ∧ w'.cell? ⟨w.heap.size, 2, none⟩ = some (.int .i64 h.last) ∧ w'.cell? ⟨ba, oa, none⟩ = some (.int .i64 a))) (by kernel_rfl) ?_ (fun hH0 => ?_)
     next =>
      exact ⟨dcJ x0, dcJ x1, dcJ x2, dcJ y0⟩
     refine tkJ 0 oYN130 ?_
     refine tkJ 1 oYN131 ?_
     refine tkJ 2 oYN132 ?_
     refine tkJ 3 oYN133 ?_
     refine tkJ 4 oYN134 ?_
     refine tkJ 5 oYN135 ?_
     refine tkJ 6 oYN136 ?_
     refine rdJ 7 oYN137 fun K hK => ?_
     go_simp
     go_at_call 32
     refine (HREF.out _).mono ?_
     rintro e w2 ⟨rfl, hb2⟩
     have hb := then_w (Below.refl _ w1).drew hb2
     have HB2 := hid (then_w HB1.out hb)
     have HX2 := hid (HX1.out.later hb)
     have HR2 := hid (HR1.out.later hb)
     clear hb
     refine hK.out _ _ ?_ (fun hH1 => ?_)
     next =>
      exact ⟨cell_later hb2 hH0.1, cell_later hb2 hH0.2.1, cell_later hb2 hH0.2.2.1, cell_later hb2 hH0.2.2.2⟩
     clear hK K
     try simp only [apt12]
     clear hb2
     refine tkJ 8 oYN138 ?_
     refine tkJ 9 oYN139 ?_
     refine wpAnyH_done (by kernel_rfl) ?_ _
     clear x0 x1 x2 y0
     obtain ⟨x0, x1, x2⟩ := HX2.out.c3
     have y0 := at0_13 HB2.out HBA.out HZ0.out
     go_upto_region 14 with fail
     refine wp_region_held_drew (S := (fun w' => w'.cell? ⟨w.heap.size, 0, none⟩ = some (.slice A h.objs.length c) ∧ w'.cell? ⟨w.heap.size, 1, none⟩ = some (.int .i64 h.cap) ∧ w'.cell? ⟨w.heap.size, 2, none⟩ = some (.int .i64 h.last) ∧ w'.cell? ⟨ba, oa, none⟩ = some (.int .i64 a))) (by kernel_rfl) ?_ (fun hH0 => ?_)
     next =>
      exact ⟨dcJ x0, dcJ x1, dcJ x2, dcJ y0⟩
     refine tkJ 0 ⟨some 75, .load 24 (.tmp 4), 24, "ref.go:210", #[], none⟩ ?_
     refine tkJ 1 ⟨some 76, .move (.tmp 2), 3, "ref.go:210", #[], none⟩ ?_
     refine tkJ 2 ⟨some 77, .move (.tmp 3), 34, "ref.go:210", #[], none⟩ ?_
     refine tkJ 3 ⟨some 78, .indexAddr 34 (.tmp 77) (.const (Go.Value.int .i64 0)), 0, "ref.go:210", #[⟨2, .data⟩], none⟩ ?_
     refine tkJ 4 ⟨some 79, .load 3 (.tmp 78), 3, "ref.go:210", #[⟨3, .data⟩], none⟩ ?_
     refine wpAnyH_ready (rs := [5, 9]) (by kernel_rfl) (by simp) ?_
     refine AllReadyH.cons (i := 5) (o := ⟨some 80, .call { callee := .value (.func 88), args := #[.tmp 75, .tmp 76, .tmp 79], argTypes := #[24, 3, 3] }, 93, "ref.go:210", #[⟨0, .data⟩, ⟨1, .data⟩, ⟨4, .data⟩], none⟩) rfl (fun K hK => ?_) (AllReadyH.cons (i := 9) (o := ⟨some 14, .alloc 24, 0, "ref.go:210", #[], none⟩) rfl (fun K hK => ?_) AllReadyH.nil)
     next =>
      go_simp
      go_at_call 88
      obtain ⟨wd, hd⟩ : ∃ x, x = w2.drew := ⟨_, rfl⟩
      rw [← hd]
      have hbd : Below w2.heap.size w2 wd := by rw [hd]; exact (Below.refl _ _).drew
      have HBz := hid (then_w HB2.out hbd)
      refine (HBC.out wd (HS.out.below HBz.out)).mono ?_
      rintro e u1 ⟨A1, c1, rfl, -, hb2, how⟩
      have hb := then_w hbd hb2
      have OW1 : Hid (∃ ls, ls.map (·.o) = G.objs ∧ OwnH u1 w.heap.size A1 c1 ls) := by
        obtain ⟨ls, h1, h2⟩ := how rfl
        exact ⟨ls, h1, h2.lower HBz.out.size⟩
      have HBu1 := hid (then_w HB2.out hb)
      have HXu1 := hid (HX2.out.later hb)
      have HRu1 := hid (HR2.out.later hb)
      clear hd hbd hb hb2 how
      obtain ⟨v0, v1, v2⟩ := HXu1.out.c3
      have v3 := at0_13 HBu1.out HBA.out HZ0.out
      refine hK.out _ _ ?_ (fun hH1 => ?_)
      next =>
       exact ⟨v0, v1, v2, v3⟩
      clear hK K
      try simp only [apt12]
      clear v0 v1 v2 v3
      refine tkJ 6 oYN1310 ?_
      refine tkJ 7 oYN1311 ?_
      refine tkJ 8 oYN1312 ?_
      refine rdJ 9 ⟨some 14, .alloc 24, 0, "ref.go:210", #[], none⟩ fun K hK => ?_
      go_simp
      obtain ⟨u2, hu⟩ : ∃ x, x = u1.alloc (.cells #[.slice none 0 0, .int .i64 0, .int .i64 0] 24) := ⟨_, rfl⟩
      obtain ⟨bG, hg⟩ : ∃ x, x = u1.heap.size := ⟨_, rfl⟩
      rw [← hu, ← hg]
      have hb : Below u1.heap.size u1 u2 := by rw [hu]; exact below_alloc _ _
      have HG2 : Hid (Lies u2 bG 24 #[.slice none 0 0, .int .i64 0, .int .i64 0]) := by show Lies _ _ _ _; rw [hu, hg]; exact Lies.new _ _ _
      have HNX : Hid (w.heap.size ≠ bG) := by show _ ≠ _; have := HXu1.out.lt; omega
      have HNR : Hid (bR ≠ bG) := by show _ ≠ _; have := HRu1.out.lt; omega
      have HWG : Hid (w.heap.size ≤ bG) := by show _ ≤ _; have := HXu1.out.lt; omega
      have HBu2 := hid (then_w HBu1.out hb)
      have HXu2 := hid (HXu1.out.later hb)
      have HRu2 := hid (HRu1.out.later hb)
      have OW2 : Hid (∃ ls, ls.map (·.o) = G.objs ∧ OwnH u2 w.heap.size A1 c1 ls) := by
        obtain ⟨ls, h1, h2⟩ := OW1.out
        exact ⟨ls, h1, h2.later hb⟩
      clear hu hg hb
      obtain ⟨v0, v1, v2⟩ := HXu2.out.c3
      have v3 := at0_13 HBu2.out HBA.out HZ0.out
      refine hK.out _ _ ?_ (fun hH2 => ?_)
      next =>
       exact ⟨v0, v1, v2, v3⟩
      clear hK K
      try simp only [apt12]
      clear v0 v1 v2 v3
      refine rdJ 10 oYN1313 fun K hK => ?_
      obtain ⟨k0, k1, k2⟩ := HG2.out.c3
      obtain ⟨f0, f1, f2⟩ := HG2.out.f3
      go_simp
      clear k0 k1 k2 f0 f1 f2
      have t1 := HG2.out.set_ 0 (.slice A1 G.objs.length c1)
      have t2 := t1.set_ 1 (.int .i64 G.cap)
      have t3 := t2.set_ 2 (.int .i64 G.last)
      have HBV := hid (below_s3 HBu2.out HWG.out (.slice A1 G.objs.length c1) (.int .i64 G.cap) (.int .i64 G.last))
      have HXV := hid (((HXu2.out.far (p := ⟨bG, 0, none⟩) HNX.out (.slice A1 G.objs.length c1)).far (p := ⟨bG, 1, none⟩) HNX.out (.int .i64 G.cap)).far (p := ⟨bG, 2, none⟩) HNX.out (.int .i64 G.last))
      have HRV := hid (((HRu2.out.far (p := ⟨bG, 0, none⟩) HNR.out (.slice A1 G.objs.length c1)).far (p := ⟨bG, 1, none⟩) HNR.out (.int .i64 G.cap)).far (p := ⟨bG, 2, none⟩) HNR.out (.int .i64 G.last))
      have hov : ∃ ls, ls.map (·.o) = G.objs ∧ OwnH (((u2.setCell ⟨bG, 0, none⟩ (.slice A1 G.objs.length c1)).setCell ⟨bG, 1, none⟩ (.int .i64 G.cap)).setCell ⟨bG, 2, none⟩ (.int .i64 G.last)) w.heap.size A1 c1 ls := by
        obtain ⟨ls, h1, h2⟩ := OW2.out
        exact ⟨ls, h1, h2.s3_13 HG2.out _ _ _⟩
      obtain ⟨w3, huv⟩ : ∃ x, x = ((u2.setCell ⟨bG, 0, none⟩ (.slice A1 G.objs.length c1)).setCell ⟨bG, 1, none⟩ (.int .i64 G.cap)).setCell ⟨bG, 2, none⟩ (.int .i64 G.last) := ⟨_, rfl⟩
      have HGV : Hid (Lies w3 bG 24 #[Value.slice A1 G.objs.length c1, Value.int .i64 G.cap, Value.int .i64 G.last]) := by show Lies _ _ _ _; rw [huv]; exact t3
      rw [← huv] at HBV HXV HRV hov
      rw [← huv]
      have HB3 := HBV
      have HR3 := HRV
      have HOR : Hid ((G = h ∧ A1 = A ∧ c1 = c) ∨ ∃ ls, ls.map (·.o) = G.objs ∧ OwnH w3 w.heap.size A1 c1 ls) := .inr hov
      clear huv hov t1 t2 t3
      obtain ⟨v0, v1, v2⟩ := HXV.out.c3
      have v3 := at0_13 HBV.out HBA.out HZ0.out
      refine hK.out _ _ ?_ (fun hH3 => ?_)
      next =>
       exact ⟨v0, v1, v2, v3⟩
      clear hK K
      try simp only [apt12]
      clear v0 v1 v2 v3
      refine tkJ 11 oYN1314 ?_
      refine wpAnyH_done (by kernel_rfl) ?_ _
      clear x0 x1 x2 y0
      obtain ⟨x0, x1, x2⟩ := HGV.out.c3
      obtain ⟨k0, k1, k2⟩ := HR3.out.c3
      obtain ⟨f0, f1, f2⟩ := HR3.out.f3
      go_wp2_with fail
      have HK := HR3.out.s3 (.slice A1 G.objs.length c1) (.int .i64 G.cap) (.int .i64 G.last)
      obtain ⟨r0, r1, r2⟩ := HK
      have HBE := below_s3 HB3.out HRW.out (.slice A1 G.objs.length c1) (.int .i64 G.cap) (.int .i64 G.last)
      refine bodyPost_ret (v := .tuple #[.agg #[.slice A1 G.objs.length c1, .int .i64 G.cap, .int .i64 G.last], .int .i64 s, .int .i64 0]) (by simp [results, Tryz.results45, go_sem, r0, r1, r2]) rfl ?_
      rw [HE.out, HRA.out]
      refine ⟨A1, c1, rfl, ?_, HBE⟩
      rcases HOR.out with h1 | ⟨ls, h1, h2⟩
      next =>
       exact .inl h1
      next =>
       exact .inr ⟨ls, h1, h2.s3_13 HR3.out _ _ _⟩
     next =>
      go_simp
      obtain ⟨u1, hu⟩ : ∃ x, x = (w2.alloc (.cells #[.slice none 0 0, .int .i64 0, .int .i64 0] 24)).drew := ⟨_, rfl⟩
      obtain ⟨bG, hg⟩ : ∃ x, x = w2.heap.size := ⟨_, rfl⟩
      rw [← hu, ← hg]
      have hb : Below w2.heap.size w2 u1 := by rw [hu]; exact (below_alloc _ _).drew
      have HG1 : Hid (Lies u1 bG 24 #[.slice none 0 0, .int .i64 0, .int .i64 0]) := by show Lies _ _ _ _; rw [hu, hg]; exact (Lies.new _ _ _).drew
      have HNX : Hid (w.heap.size ≠ bG) := by show _ ≠ _; have := HX2.out.lt; omega
      have HNR : Hid (bR ≠ bG) := by show _ ≠ _; have := HR2.out.lt; omega
      have HWG : Hid (w.heap.size ≤ bG) := by show _ ≤ _; have := HX2.out.lt; omega
      have HBu1 := hid (then_w HB2.out hb)
      have HXu1 := hid (HX2.out.later hb)
      have HRu1 := hid (HR2.out.later hb)
      clear hu hg hb
      obtain ⟨v0, v1, v2⟩ := HXu1.out.c3
      have v3 := at0_13 HBu1.out HBA.out HZ0.out
      refine hK.out _ _ ?_ (fun hH1 => ?_)
      next =>
       exact ⟨v0, v1, v2, v3⟩
      clear hK K
      try simp only [apt12]
      clear v0 v1 v2 v3
      refine rdJ 5 ⟨some 80, .call { callee := .value (.func 88), args := #[.tmp 75, .tmp 76, .tmp 79], argTypes := #[24, 3, 3] }, 93, "ref.go:210", #[⟨0, .data⟩, ⟨1, .data⟩, ⟨4, .data⟩], none⟩ fun K hK => ?_
      go_simp
      go_at_call 88
      refine (HBC.out u1 (HS.out.below HBu1.out)).mono ?_
      rintro e u2 ⟨A1, c1, rfl, -, hb2, how⟩
      have hb := hb2
      have OW2 : Hid (∃ ls, ls.map (·.o) = G.objs ∧ OwnH u2 w.heap.size A1 c1 ls) := by
        obtain ⟨ls, h1, h2⟩ := how rfl
        exact ⟨ls, h1, h2.lower HBu1.out.size⟩
      have HBu2 := hid (then_w HBu1.out hb)
      have HXu2 := hid (HXu1.out.later hb)
      have HRu2 := hid (HRu1.out.later hb)
      have HG2 := hid (HG1.out.later hb)
      clear hb hb2 how
      obtain ⟨v0, v1, v2⟩ := HXu2.out.c3
      have v3 := at0_13 HBu2.out HBA.out HZ0.out
      refine hK.out _ _ ?_ (fun hH2 => ?_)
      next =>
       exact ⟨v0, v1, v2, v3⟩
      clear hK K
      try simp only [apt12]
      clear v0 v1 v2 v3
      refine tkJ 6 oYN1310 ?_
      refine tkJ 7 oYN1311 ?_
      refine tkJ 8 oYN1312 ?_
      refine rdJ 10 oYN1313 fun K hK => ?_
      obtain ⟨k0, k1, k2⟩ := HG2.out.c3
      obtain ⟨f0, f1, f2⟩ := HG2.out.f3
      go_simp
      clear k0 k1 k2 f0 f1 f2
      have t1 := HG2.out.set_ 0 (.slice A1 G.objs.length c1)
      have t2 := t1.set_ 1 (.int .i64 G.cap)
      have t3 := t2.set_ 2 (.int .i64 G.last)
      have HBV := hid (below_s3 HBu2.out HWG.out (.slice A1 G.objs.length c1) (.int .i64 G.cap) (.int .i64 G.last))
      have HXV := hid (((HXu2.out.far (p := ⟨bG, 0, none⟩) HNX.out (.slice A1 G.objs.length c1)).far (p := ⟨bG, 1, none⟩) HNX.out (.int .i64 G.cap)).far (p := ⟨bG, 2, none⟩) HNX.out (.int .i64 G.last))
      have HRV := hid (((HRu2.out.far (p := ⟨bG, 0, none⟩) HNR.out (.slice A1 G.objs.length c1)).far (p := ⟨bG, 1, none⟩) HNR.out (.int .i64 G.cap)).far (p := ⟨bG, 2, none⟩) HNR.out (.int .i64 G.last))
      have hov : ∃ ls, ls.map (·.o) = G.objs ∧ OwnH (((u2.setCell ⟨bG, 0, none⟩ (.slice A1 G.objs.length c1)).setCell ⟨bG, 1, none⟩ (.int .i64 G.cap)).setCell ⟨bG, 2, none⟩ (.int .i64 G.last)) w.heap.size A1 c1 ls := by
        obtain ⟨ls, h1, h2⟩ := OW2.out
        exact ⟨ls, h1, h2.s3_13 HG2.out _ _ _⟩
      obtain ⟨w3, huv⟩ : ∃ x, x = ((u2.setCell ⟨bG, 0, none⟩ (.slice A1 G.objs.length c1)).setCell ⟨bG, 1, none⟩ (.int .i64 G.cap)).setCell ⟨bG, 2, none⟩ (.int .i64 G.last) := ⟨_, rfl⟩
      have HGV : Hid (Lies w3 bG 24 #[Value.slice A1 G.objs.length c1, Value.int .i64 G.cap, Value.int .i64 G.last]) := by show Lies _ _ _ _; rw [huv]; exact t3
      rw [← huv] at HBV HXV HRV hov
      rw [← huv]
      have HB3 := HBV
      have HR3 := HRV
      have HOR : Hid ((G = h ∧ A1 = A ∧ c1 = c) ∨ ∃ ls, ls.map (·.o) = G.objs ∧ OwnH w3 w.heap.size A1 c1 ls) := .inr hov
      clear huv hov t1 t2 t3
      obtain ⟨v0, v1, v2⟩ := HXV.out.c3
      have v3 := at0_13 HBV.out HBA.out HZ0.out
      refine hK.out _ _ ?_ (fun hH3 => ?_)
      next =>
       exact ⟨v0, v1, v2, v3⟩
      clear hK K
      try simp only [apt12]
      clear v0 v1 v2 v3
      refine tkJ 11 oYN1314 ?_
      refine wpAnyH_done (by kernel_rfl) ?_ _
      clear x0 x1 x2 y0
      obtain ⟨x0, x1, x2⟩ := HGV.out.c3
      obtain ⟨k0, k1, k2⟩ := HR3.out.c3
      obtain ⟨f0, f1, f2⟩ := HR3.out.f3
      go_wp2_with fail
      have HK := HR3.out.s3 (.slice A1 G.objs.length c1) (.int .i64 G.cap) (.int .i64 G.last)
      obtain ⟨r0, r1, r2⟩ := HK
      have HBE := below_s3 HB3.out HRW.out (.slice A1 G.objs.length c1) (.int .i64 G.cap) (.int .i64 G.last)
      refine bodyPost_ret (v := .tuple #[.agg #[.slice A1 G.objs.length c1, .int .i64 G.cap, .int .i64 G.last], .int .i64 s, .int .i64 0]) (by simp [results, Tryz.results45, go_sem, r0, r1, r2]) rfl ?_
      rw [HE.out, HRA.out]
      refine ⟨A1, c1, rfl, ?_, HBE⟩
      rcases HOR.out with h1 | ⟨ls, h1, h2⟩
      next =>
       exact .inl h1
      next =>
       exact .inr ⟨ls, h1, h2.s3_13 HR3.out _ _ _⟩
end Go.Proofs.YtnilempeldlieaaGreat
