/- The document on primitives: a number as a float. The document on primitives: a new float. The contract of the document's whole number towards 0. -/
import Derived.Test.YtnilempeldlieaaGreatJ04
import Derived.Test.YtnilempeldlieaaGreatJ10
import Derived.Test.YtnilempeldlieaaGreatJFDQ2
import Derived.Test.YtnilempeldlieaaGreatJ11
import Derived.Test.YtnilempeldlieaaGreatJYD13
import Derived.Test.YtnilempeldlieaaGreatJPG13
namespace Go.Proofs.YtnilempeldlieaaGreat
abbrev oYF130 : Oper := ⟨some 20, .fieldAddr 24 (.tmp 2) 0, 0, "ref.go:151", #[], none⟩
abbrev oYF131 : Oper := ⟨some 21, .load 22 (.tmp 20), 22, "ref.go:151", #[⟨0, .data⟩], none⟩
abbrev oYF132 : Oper := ⟨some 22, .move (.tmp 8), 3, "ref.go:151", #[], none⟩
abbrev oYF133 : Oper := ⟨some 23, .indexAddr 22 (.tmp 21) (.tmp 22), 0, "ref.go:151", #[⟨1, .data⟩, ⟨2, .data⟩], none⟩
abbrev oYF134 : Oper := ⟨some 24, .fieldAddr 41 (.tmp 23) 4, 0, "ref.go:151", #[⟨3, .data⟩], none⟩
abbrev oYF135 : Oper := ⟨some 25, .load 3 (.tmp 24), 3, "ref.go:151", #[⟨4, .data⟩], none⟩
abbrev oYF136 : Oper := ⟨some 26, .fieldAddr 24 (.tmp 2) 0, 0, "ref.go:151", #[⟨13, .gcOnly .lateStores⟩], none⟩
abbrev oYF137 : Oper := ⟨some 27, .load 22 (.tmp 26), 22, "ref.go:151", #[⟨6, .data⟩, ⟨13, .gcOnly .lateStores⟩], none⟩
abbrev oYF138 : Oper := ⟨some 28, .move (.tmp 8), 3, "ref.go:151", #[⟨13, .gcOnly .lateStores⟩], none⟩
abbrev oYF139 : Oper := ⟨some 29, .indexAddr 22 (.tmp 27) (.tmp 28), 0, "ref.go:151", #[⟨7, .data⟩, ⟨8, .data⟩, ⟨13, .gcOnly .lateStores⟩], none⟩
abbrev oYF1310 : Oper := ⟨some 30, .fieldAddr 41 (.tmp 29) 1, 0, "ref.go:151", #[⟨9, .data⟩, ⟨13, .gcOnly .lateStores⟩], none⟩
abbrev oYF1311 : Oper := ⟨some 31, .load 3 (.tmp 30), 3, "ref.go:151", #[⟨10, .data⟩, ⟨13, .gcOnly .lateStores⟩], none⟩
abbrev oYF1312 : Oper := ⟨some 32, .binOp .eql 3 (.tmp 31) (.const (Go.Value.int .i64 2)) 3, 4, "ref.go:151", #[⟨11, .data⟩, ⟨13, .gcOnly .lateStores⟩], none⟩
abbrev oYF1313 : Oper := ⟨some 4, .assign (.tmp 25), 3, "ref.go:151", #[⟨5, .data⟩, ⟨0, .phase⟩, ⟨1, .phase⟩, ⟨2, .phase⟩, ⟨3, .phase⟩, ⟨4, .phase⟩, ⟨5, .phase⟩, ⟨6, .textOnly .lateStores⟩, ⟨7, .textOnly .lateStores⟩, ⟨8, .textOnly .lateStores⟩, ⟨9, .textOnly .lateStores⟩, ⟨10, .textOnly .lateStores⟩, ⟨11, .textOnly .lateStores⟩, ⟨12, .textOnly .lateStores⟩], none⟩
abbrev oYF1314 : Oper := ⟨some 5, .assign (.tmp 32), 4, "ref.go:151", #[⟨12, .data⟩, ⟨13, .chain⟩, ⟨0, .phase⟩, ⟨1, .phase⟩, ⟨2, .phase⟩, ⟨3, .phase⟩, ⟨4, .phase⟩, ⟨5, .phase⟩, ⟨6, .phase⟩, ⟨7, .phase⟩, ⟨8, .phase⟩, ⟨9, .phase⟩, ⟨10, .phase⟩, ⟨11, .phase⟩, ⟨12, .phase⟩, ⟨13, .phase⟩], none⟩
open Go.RowKit Flt
set_option maxRecDepth 100000
def fv13 (h : Hp) (v : Int) : Int × Bool := if nB v then (fOf (nV v), true) else ((obAt h v).bits, decide ((obAt h v).kind = 2))
theorem fv_fl13 (h : Hp) (v : Int) : fl13 h v = if (fv13 h v).2 then some (fv13 h v).1 else none := by
  unfold fl13 fv13
  cases nB v
  next =>
   by_cases g : (obAt h v).kind = 2 <;> simp [g]
  next =>
   rfl
set_option maxHeartbeats 1000000 in
theorem rfloated_any13 (h : Hp) (v : Int) (A : Option Addr) (c : Nat) (w : World) (hs : ObsR w A h.objs) (hv : hasB h.objs.length v = true) :
    Calls Tryz.prog 89 #[.agg #[.slice A h.objs.length c, .int .i64 h.cap, .int .i64 h.last], .int .i64 v] w fun e w' => e = .returned (.tuple #[.int .i64 (fv13 h v).1, .bool (fv13 h v).2]) ∧ Below w.heap.size w w' := by
  obtain ⟨w0, hw0⟩ : ∃ w0, w0 = w.alloc (.cells #[Value.slice A h.objs.length c, Value.int .i64 h.cap, Value.int .i64 h.last] 24) := ⟨_, rfl⟩
  have HB0 : Hid (Below w.heap.size w w0) := by show Below _ _ _; rw [hw0]; exact below_alloc _ _
  have HX0 : Hid (Lies w0 w.heap.size 24 #[Value.slice A h.objs.length c, Value.int .i64 h.cap, Value.int .i64 h.last]) := by
    show Lies _ _ _ _
    rw [hw0]; exact Lies.new _ _ _
  have HS := hid hs
  obtain ⟨r, hr⟩ : ∃ r, r = fv13 h v := ⟨_, rfl⟩
  rw [← hr]
  have HRR := hid hr
  clear hr hs
  go_enter Tryz.func89, Tryz.ntmps89
  go_upto_region 1 with fail
  rw [← hw0]
  clear hw0
  go_wp2_with fail
  refine (rn_any v w0).mono ?_
  rintro e wa ⟨rfl, hw⟩
  rw [← hw]
  clear hw
  cases hn : nB v
  next =>
   have hrf : refB h.objs.length v = true := by unfold hasB at hv; rw [hn, Bool.false_or] at hv; exact hv
   have HE : Hid (r = ((obAt h v).bits, decide ((obAt h v).kind = 2))) := by show _ = _; rw [HRR.out]; unfold fv13; rw [hn]; rfl
   obtain ⟨n, hnv⟩ : ∃ n, n = nV v := ⟨_, rfl⟩
   rw [← hnv]
   clear hn hnv hv
   obtain ⟨x0, x1, x2⟩ := HX0.out.c3
   go_wp2_with fail
   refine (rref_any h v A c w0).mono ?_
   rintro e w1 ⟨rfl, hb⟩
   have HB1 := hid (then_w HB0.out hb)
   have HX1 := hid (HX0.out.later hb)
   clear hb x0 x1 x2
   obtain ⟨i, b, off, S, dd, hi, hil, rfl, hc, -, -⟩ := ob_read9 HS.out HB1.out hrf
   rw [hi]
   have y1 := hc.c1
   have y4 := hc.c4
   have hilI : (i : Int) < (h.objs.length : Int) := by omega
   have hi0 : (0 : Int) ≤ (i : Int) := by omega
   obtain ⟨kk, hkk⟩ : ∃ k, k = (obAt h v).kind := ⟨_, rfl⟩
   obtain ⟨bb, hbb⟩ : ∃ k, k = (obAt h v).bits := ⟨_, rfl⟩
   rw [← hkk] at y1 HE
   rw [← hbb] at y4 HE
   clear hi hc hkk hbb hrf
   go_upto_region 5 with fail
   obtain ⟨x0, x1, x2⟩ := HX1.out.c3
   by_cases hk2 : kk = 2
   next =>
    have hkb : (kk == 2) = true := by simpa using hk2
    have HK2 := hid hk2
    clear hk2
    refine wp_region_held_drew (S := (fun w' => w'.cell? ⟨w.heap.size, 0, none⟩ = some (.slice (some ⟨b, off, none⟩) h.objs.length c) ∧ w'.cell? ⟨w.heap.size, 1, none⟩ = some (.int .i64 h.cap) ∧ w'.cell? ⟨w.heap.size, 2, none⟩ = some (.int .i64 h.last) ∧ w'.cell? ⟨b, off + i * 6 + 1, none⟩ = some (.int .i64 kk) ∧ w'.cell? ⟨b, off + i * 6 + 4, none⟩ = some (.int .i64 bb) ∧ Below w1.heap.size w1 w')) (by kernel_rfl) ?_ (fun hH0 => ?_)
    next =>
     exact ⟨dcJ x0, dcJ x1, dcJ x2, dcJ y1, dcJ y4, (Below.refl _ _).drew⟩
    refine tkJ 0 oYF130 ?_
    refine tkJ 1 oYF131 ?_
    refine tkJ 2 oYF132 ?_
    refine tkJ 3 oYF133 ?_
    refine tkJ 4 oYF134 ?_
    refine tkJ 5 oYF135 ?_
    refine tkJ 6 oYF136 ?_
    refine tkJ 7 oYF137 ?_
    refine tkJ 8 oYF138 ?_
    refine tkJ 9 oYF139 ?_
    refine tkJ 10 oYF1310 ?_
    refine tkJ 11 oYF1311 ?_
    refine tkJ 12 oYF1312 ?_
    refine tkJ 13 oYF1313 ?_
    refine tkJ 14 oYF1314 ?_
    refine wpAnyH_done (by kernel_rfl) ?_ _
    have BB := hH0.2.2.2.2.2
    have DONE := hid BB
    clear BB
    go_wp2_with fail
    go_ret2
    exact ⟨by rw [HE.out]; simp [HK2.out], then_w HB1.out DONE.out⟩
   next =>
    have hkb : (kk == 2) = false := by simpa using hk2
    have HK2 := hid hk2
    clear hk2
    refine wp_region_held_drew (S := (fun w' => w'.cell? ⟨w.heap.size, 0, none⟩ = some (.slice (some ⟨b, off, none⟩) h.objs.length c) ∧ w'.cell? ⟨w.heap.size, 1, none⟩ = some (.int .i64 h.cap) ∧ w'.cell? ⟨w.heap.size, 2, none⟩ = some (.int .i64 h.last) ∧ w'.cell? ⟨b, off + i * 6 + 1, none⟩ = some (.int .i64 kk) ∧ w'.cell? ⟨b, off + i * 6 + 4, none⟩ = some (.int .i64 bb) ∧ Below w1.heap.size w1 w')) (by kernel_rfl) ?_ (fun hH0 => ?_)
    next =>
     exact ⟨dcJ x0, dcJ x1, dcJ x2, dcJ y1, dcJ y4, (Below.refl _ _).drew⟩
    refine tkJ 0 oYF130 ?_
    refine tkJ 1 oYF131 ?_
    refine tkJ 2 oYF132 ?_
    refine tkJ 3 oYF133 ?_
    refine tkJ 4 oYF134 ?_
    refine tkJ 5 oYF135 ?_
    refine tkJ 6 oYF136 ?_
    refine tkJ 7 oYF137 ?_
    refine tkJ 8 oYF138 ?_
    refine tkJ 9 oYF139 ?_
    refine tkJ 10 oYF1310 ?_
    refine tkJ 11 oYF1311 ?_
    refine tkJ 12 oYF1312 ?_
    refine tkJ 13 oYF1313 ?_
    refine tkJ 14 oYF1314 ?_
    refine wpAnyH_done (by kernel_rfl) ?_ _
    have BB := hH0.2.2.2.2.2
    have DONE := hid BB
    clear BB
    go_wp2_with fail
    go_ret2
    exact ⟨by rw [HE.out]; simp [HK2.out], then_w HB1.out DONE.out⟩
  next =>
   have HE : Hid (r = (fOf (nV v), true)) := by show _ = _; rw [HRR.out]; unfold fv13; rw [hn]; rfl
   obtain ⟨n, hnv⟩ : ∃ n, n = nV v := ⟨_, rfl⟩
   rw [← hnv] at HE ⊢
   clear hn hnv hv
   go_wp2_with fail
   refine (rof_any n w0).mono ?_
   rintro e wb ⟨rfl, hw⟩
   rw [← hw]
   clear hw
   go_wp2_with fail
   go_ret2
   exact ⟨by rw [HE.out]; rfl, HB0.out⟩
end Go.Proofs.YtnilempeldlieaaGreat
namespace Go.Proofs.YtnilempeldlieaaGreat
open Go.RowKit Flt
set_option maxRecDepth 100000
theorem nf_al13 {h : Hp} (b : Int) (e : roE h 8 2 0 ≠ 0) : nf13 h b = al13 h 8 2 0 := by unfold nf13 al13; rw [if_neg e, if_neg e]
set_option maxHeartbeats 1000000 in
theorem rfloat_any13 (h : Hp) (bits : Int) (A : Option Addr) (c : Nat) (w : World) (hs : ObsR w A h.objs) (fit : h.Fit) :
    Calls Tryz.prog 91 #[.agg #[.slice A h.objs.length c, .int .i64 h.cap, .int .i64 h.last], .int .i64 bits] w (RsP13 w h A c (nf13 h (canon bits))) := by
  have HS := hid hs
  have HF := hid fit
  clear hs fit
  obtain ⟨r, hr⟩ : ∃ r, r = nf13 h (canon bits) := ⟨_, rfl⟩
  rw [← hr]
  have HRR := hid hr
  clear hr
  obtain ⟨ra, hra⟩ : ∃ r, r = al13 h 8 2 0 := ⟨_, rfl⟩
  have HRA := hid hra
  clear hra
  obtain ⟨w0, hw0⟩ : ∃ u, u = (w.alloc (.cells #[Value.slice A h.objs.length c, Value.int .i64 h.cap, Value.int .i64 h.last] 24)).alloc (.cells #[.slice none 0 0, .int .i64 0, .int .i64 0] 24) := ⟨_, rfl⟩
  obtain ⟨bR, hbR⟩ : ∃ x, x = w.heap.size + 1 := ⟨_, rfl⟩
  have HB0 : Hid (Below w.heap.size w w0) := by show Below _ _ _; rw [hw0]; exact below_alloc2 w _ _
  have HX0 : Hid (Lies w0 w.heap.size 24 #[Value.slice A h.objs.length c, Value.int .i64 h.cap, Value.int .i64 h.last]) := by
    show Lies _ _ _ _
    rw [hw0]; exact (Lies.new _ _ _).alloc _
  have HR0 : Hid (Lies w0 bR 24 #[.slice none 0 0, .int .i64 0, .int .i64 0]) := by
    show Lies _ _ _ _
    have := Lies.new (w.alloc (.cells #[Value.slice A h.objs.length c, Value.int .i64 h.cap, Value.int .i64 h.last] 24)) 24 #[.slice none 0 0, .int .i64 0, .int .i64 0]
    rw [hw0, hbR]; simpa using this
  have HRW : Hid (w.heap.size ≤ bR) := by show _ ≤ _; omega
  have HNE : Hid (w.heap.size ≠ bR) := by show _ ≠ _; omega
  go_enter Tryz.func91, Tryz.ntmps91
  go_upto_region 1 with fail
  rw [← hw0, ← hbR]
  clear hw0 hbR
  have HC : Hid (Calls Tryz.prog 86 #[.agg #[.slice A h.objs.length c, .int .i64 h.cap, .int .i64 h.last], .int .i64 8, .int .i64 2, .int .i64 0] w0 (RsP13 w0 h A c ra)) := by
    show Calls _ _ _ _ _
    rw [HRA.out]; exact ralloc_any13 h 8 2 0 A c w0 (HS.out.below HB0.out) HF.out
  obtain ⟨x0, x1, x2⟩ := HX0.out.c3
  go_wp2_with fail
  refine HC.out.mono ?_
  clear HC
  rintro e w1 ⟨hb, hor⟩
  have HB1 := hid (then_w HB0.out hb)
  have HX1 := hid (HX0.out.later hb)
  have HR1 := hid (HR0.out.later hb)
  have HW1 := hid hb.size
  clear hb x0 x1 x2
  by_cases h0 : roE h 8 2 0 = 0
  next =>
   have HE : Hid (r = (nfH13 h (canon bits), 2 * (h.objs.length : Int), 0)) := by show _ = _; rw [HRR.out]; unfold nf13; rw [if_pos h0]
   have hr1 : ra = (alH h 8 2 0, 2 * (h.objs.length : Int), 0) := by
     rw [HRA.out]; unfold al13; rw [if_pos h0]
     unfold alR alV
     rw [if_pos h0, if_pos h0]
   have hgl : (alH h 8 2 0).objs.length = h.objs.length + 1 := by simp [alH]
   have hc256 : h.objs.length < 256 := by
     have hmm := (ro_ok h0).1
     have := (ro_ok h0).2.2.2.2.2.2
     unfold mayB at hmm
     simp only [Bool.and_eq_true, decide_eq_true_eq] at hmm
     omega
   rw [hr1] at hor
   rcases hor with ⟨hr2, -⟩ | ⟨A9, c9, ls, rfl, hm, ho⟩
   next =>
    exfalso
    have := congrArg (fun g => g.objs.length) hr2
    simp only [hgl] at this
    omega
   dsimp only at hm
   have hlen : ls.length = h.objs.length + 1 := by have := congrArg List.length hm; simpa [alH] using this
   obtain ⟨g, cg, hvv, hg0, hg1⟩ := ho.row.form (by omega)
   simp only [Value.slice.injEq, true_and] at hvv
   obtain ⟨rfl, rfl⟩ := hvv
   have hin : h.objs.length < ls.length := by omega
   obtain ⟨l0, hli⟩ : ∃ l, ls[h.objs.length]? = some l := ⟨_, List.getElem?_eq_getElem hin⟩
   have hlo : l0.o = newO h 8 2 0 := by
     have := congrArg (fun t => t[h.objs.length]?) hm
     simp only [List.getElem?_map, hli, Option.map_some] at this
     rw [show (alH h 8 2 0).objs[h.objs.length]? = some (newO h 8 2 0) by simp [alH]] at this
     exact Option.some.inj this
   have q4 := (ho.row.cellAt (h.objs.length * 6 + 4) (by omega)).trans (rowOf_get ls h.objs.length 4 _ hli (by omega))
   simp only [LO.cells, List.getElem?_cons_zero, List.getElem?_cons_succ] at q4
   have f4 := ho.row.frozenAt (h.objs.length * 6 + 4)
   obtain ⟨b0, hb0⟩ : ∃ b, b = l0.o.bits := ⟨_, rfl⟩
   rw [← hb0] at q4
   have HMM : Hid ((ls.set h.objs.length ⟨{ l0.o with bits := canon bits }, l0.S, l0.c⟩).map (·.o) = (nfH13 h (canon bits)).objs) := by
     show _ = _
     rw [List.map_set, hm, hlo]
     show (alH h 8 2 0).objs.set h.objs.length _ = _
     unfold alH nfH13
     simp only
     rw [List.set_append, if_neg (Nat.lt_irrefl _), Nat.sub_self]
     rfl
   have HO1 := hid ho
   have HLI := hid hli
   dsimp only
   rw [hgl, show (alH h 8 2 0).cap = h.cap from rfl, show (alH h 8 2 0).last = nxI h.last from rfl]
   have Q4 := hid q4
   have hn1 : IntKind.i64.wrap ((h.objs.length : Int) + 1 - 1) = (h.objs.length : Int) := by rw [show (h.objs.length : Int) + 1 - 1 = (h.objs.length : Int) by omega]; exact IntWalk.i64_in _ (by omega)
   have hn2 : IntKind.i64.wrap (h.objs.length : Int) = (h.objs.length : Int) := IntWalk.i64_in _ (by omega)
   have hn3 : (h.objs.length : Int) < (h.objs.length : Int) + 1 := by omega
   have HGW : Hid (w0.heap.size ≤ g ∧ g < w1.heap.size) := ⟨hg0, hg1⟩
   have HFR : Hid (ls.length = h.objs.length + 1) := hlen
   clear hr1 hgl hlen hin hli hlo hm ho q4 f4 hb0 hg0 hg1
   go_upto_region 2 with fail
   obtain ⟨w2, hw⟩ : ∃ x, x = w1.alloc (.cells #[.slice (some ⟨g, 0, none⟩) (h.objs.length + 1) c9, .int .i64 h.cap, .int .i64 (nxI h.last)] 24) := ⟨_, rfl⟩
   obtain ⟨bG, hbG⟩ : ∃ x, x = w1.heap.size := ⟨_, rfl⟩
   have HG2 : Hid (Lies w2 bG 24 #[.slice (some ⟨g, 0, none⟩) (h.objs.length + 1) c9, .int .i64 h.cap, .int .i64 (nxI h.last)]) := by show Lies _ _ _ _; rw [hw, hbG]; exact Lies.new _ _ _
   have HBG : Hid (bG ≠ g) := by show _ ≠ _; have := HGW.out.2; omega
   have hb : Below w1.heap.size w1 w2 := by rw [hw]; exact below_alloc _ _
   have HB2 := hid (then_w HB1.out hb)
   have HR2 := hid (HR1.out.later hb)
   have HO2 := hid (HO1.out.later hb)
   have HQ2 := hid (cell_later hb Q4.out)
   rw [← hw, ← hbG]
   clear hw hbG hb HO1 Q4 HX1 HX0
   obtain ⟨g0, g1, g2⟩ := HG2.out.c3
   go_upto_region 3 with fail
   refine wp_region_held_drew (S := (fun w' => w'.cell? ⟨bG, 0, none⟩ = some (.slice (some ⟨g, 0, none⟩) (h.objs.length + 1) c9) ∧ w'.cell? ⟨bG, 1, none⟩ = some (.int .i64 h.cap) ∧ w'.cell? ⟨bG, 2, none⟩ = some (.int .i64 (nxI h.last)))) (by kernel_rfl) ?_ (fun hH0 => ?_)
   next =>
    exact ⟨dcJ g0, dcJ g1, dcJ g2⟩
   refine tkJ 0 ⟨some 18, .fieldAddr 24 (.tmp 7) 0, 0, "ref.go:158", #[], none⟩ ?_
   refine tkJ 1 ⟨some 19, .load 22 (.tmp 18), 22, "ref.go:158", #[⟨0, .data⟩], none⟩ ?_
   refine tkJ 2 ⟨some 20, .fieldAddr 24 (.tmp 7) 0, 0, "ref.go:158", #[], none⟩ ?_
   refine tkJ 3 ⟨some 21, .load 22 (.tmp 20), 22, "ref.go:158", #[⟨2, .data⟩], none⟩ ?_
   refine tkJ 4 ⟨some 22, .call { callee := .builtin .len, args := #[.tmp 21], argTypes := #[22] }, 3, "ref.go:158", #[⟨3, .data⟩], none⟩ ?_
   refine tkJ 5 ⟨some 23, .binOp .sub 3 (.tmp 22) (.const (Go.Value.int .i64 1)) 3, 3, "ref.go:158", #[⟨4, .data⟩], none⟩ ?_
   refine tkJ 6 ⟨some 24, .move (.tmp 1), 3, "ref.go:158", #[], none⟩ ?_
   refine rdJ 7 ⟨some 25, .call { callee := .value (.func 111), args := #[.tmp 24], argTypes := #[3] }, 3, "ref.go:158", #[⟨6, .data⟩], none⟩ fun K hK => ?_
   go_simp
   go_at_call 111
   obtain ⟨wd, hd⟩ : ∃ x, x = w2.drew := ⟨_, rfl⟩
   rw [← hd]
   have hbd : Below w2.heap.size w2 wd := by rw [hd]; exact (Below.refl _ _).drew
   have HBd := hid (then_w HB2.out hbd)
   have HRd := hid (HR2.out.later hbd)
   have HOd := hid (HO2.out.later hbd)
   have HQd := hid (cell_later hbd HQ2.out)
   have HGd := hid (HG2.out.later hbd)
   clear hd hbd
   refine (rcanon_any bits wd).mono ?_
   rintro e wy ⟨rfl, hw⟩
   rw [← hw]
   clear hw
   obtain ⟨y0, y1, y2⟩ := HGd.out.c3
   refine hK.out _ _ ?_ (fun hH1 => ?_)
   next =>
    exact ⟨y0, y1, y2⟩
   clear hK K
   try simp only [apt12]
   clear y0 y1 y2
   refine tkJ 8 ⟨some 26, .indexAddr 22 (.tmp 19) (.tmp 23), 0, "ref.go:158", #[⟨1, .data⟩, ⟨5, .data⟩, ⟨0, .phase⟩, ⟨1, .phase⟩, ⟨2, .phase⟩, ⟨3, .phase⟩, ⟨4, .phase⟩, ⟨5, .phase⟩, ⟨6, .phase⟩, ⟨7, .phase⟩], none⟩ ?_
   refine tkJ 9 ⟨some 27, .fieldAddr 41 (.tmp 26) 4, 0, "ref.go:158", #[⟨8, .data⟩, ⟨0, .phase⟩, ⟨1, .phase⟩, ⟨2, .phase⟩, ⟨3, .phase⟩, ⟨4, .phase⟩, ⟨5, .phase⟩, ⟨6, .phase⟩, ⟨7, .phase⟩], none⟩ ?_
   refine rdJ 10 ⟨none, .store 3 (.tmp 27) (.tmp 25), 0, "ref.go:158", #[⟨9, .data⟩, ⟨7, .data⟩, ⟨7, .chain⟩, ⟨0, .phase⟩, ⟨1, .phase⟩, ⟨2, .phase⟩, ⟨3, .phase⟩, ⟨4, .phase⟩, ⟨5, .phase⟩, ⟨6, .phase⟩, ⟨7, .phase⟩], none⟩ fun K hK => ?_
   have q4 := HQd.out
   have f4 := HOd.out.row.frozenAt (h.objs.length * 6 + 4)
   go_simp
   clear q4 f4
   have HOV := hid (HOd.out.bits (x := canon bits) HLI.out)
   have HGV := hid (HGd.out.far (p := ⟨g, h.objs.length * 6 + 4, none⟩) HBG.out (.int .i64 (canon bits)))
   have HBV := hid (HBd.out.setCell (p := ⟨g, h.objs.length * 6 + 4, none⟩) (Nat.le_trans HB0.out.size HGW.out.1) (.int .i64 (canon bits)))
   have HRV := hid (HRd.out.far (p := ⟨g, h.objs.length * 6 + 4, none⟩) (show bR ≠ g from Nat.ne_of_lt (Nat.lt_of_lt_of_le HR0.out.lt HGW.out.1)) (.int .i64 (canon bits)))
   obtain ⟨wv, hwv⟩ : ∃ x, x = wd.setCell ⟨g, h.objs.length * 6 + 4, none⟩ (.int .i64 (canon bits)) := ⟨_, rfl⟩
   rw [← hwv] at HOV HGV HBV HRV
   rw [← hwv]
   clear hwv
   obtain ⟨y0, y1, y2⟩ := HGV.out.c3
   refine hK.out _ _ ?_ (fun hH2 => ?_)
   next =>
    exact ⟨y0, y1, y2⟩
   clear hK K
   try simp only [apt12]
   clear y0 y1 y2
   refine wpAnyH_done (by kernel_rfl) ?_ _
   obtain ⟨x0, x1, x2⟩ := HGV.out.c3
   obtain ⟨k0, k1, k2⟩ := HRV.out.c3
   obtain ⟨f0, f1, f2⟩ := HRV.out.f3
   go_wp2_with fail
   have HK := HRV.out.s3 (.slice (some ⟨g, 0, none⟩) (h.objs.length + 1) c9) (.int .i64 h.cap) (.int .i64 (nxI h.last))
   obtain ⟨r0, r1, r2⟩ := HK
   have HBE := below_s3 HBV.out HRW.out (.slice (some ⟨g, 0, none⟩) (h.objs.length + 1) c9) (.int .i64 h.cap) (.int .i64 (nxI h.last))
   refine bodyPost_ret (v := .tuple #[.agg #[.slice (some ⟨g, 0, none⟩) (h.objs.length + 1) c9, .int .i64 h.cap, .int .i64 (nxI h.last)], .int .i64 (2 * (h.objs.length : Int)), .int .i64 0]) (by simp [results, Tryz.results91, go_sem, r0, r1, r2]) rfl ?_
   rw [HE.out]
   refine ⟨HBE, .inr ⟨some ⟨g, 0, none⟩, c9, _, ?_, HMM.out, (HOV.out.lower HB0.out.size).s3_13 HRV.out _ _ _⟩⟩
   rw [show (nfH13 h (canon bits)).objs.length = h.objs.length + 1 by simp [nfH13]]
   rfl
  next =>
   have HE : Hid (r = ra) := by show _ = _; rw [HRR.out, HRA.out]; exact nf_al13 _ h0
   obtain ⟨en, hen⟩ : ∃ x, x = ra.2.2 := ⟨_, rfl⟩
   have hnb : (en == 0) = false := by
     have : en ≠ 0 := by
       rw [hen, HRA.out]; unfold al13
       rw [if_neg h0]
       split
       next =>
        show (30 : Int) ≠ 0; decide
       next =>
        show (130 : Int) ≠ 0; decide
     simpa using this
   clear h0
   rcases hor with ⟨hr1, rfl⟩ | ⟨A9, c9, ls, rfl, hm, ho⟩
   next =>
    have HR1_ := hid hr1
    rw [← hen]
    have HEN := hid hen
    clear hr1 hen
    go_upto_region 2 with fail
    obtain ⟨w2, hw⟩ : ∃ x, x = w1.alloc (.cells #[Value.slice A h.objs.length c, Value.int .i64 h.cap, Value.int .i64 h.last] 24) := ⟨_, rfl⟩
    obtain ⟨bG, hbG⟩ : ∃ x, x = w1.heap.size := ⟨_, rfl⟩
    have HG2 : Hid (Lies w2 bG 24 #[Value.slice A h.objs.length c, Value.int .i64 h.cap, Value.int .i64 h.last]) := by show Lies _ _ _ _; rw [hw, hbG]; exact Lies.new _ _ _
    have hb : Below w1.heap.size w1 w2 := by rw [hw]; exact below_alloc _ _
    have HB2 := hid (then_w HB1.out hb)
    have HX2 := hid (HX1.out.later hb)
    have HR2 := hid (HR1.out.later hb)
    rw [← hw, ← hbG]
    clear hw hbG hb
    obtain ⟨x0, x1, x2⟩ := HG2.out.c3
    obtain ⟨k0, k1, k2⟩ := HR2.out.c3
    obtain ⟨f0, f1, f2⟩ := HR2.out.f3
    go_wp2_with fail
    have HK := HR2.out.s3 (.slice A h.objs.length c) (.int .i64 h.cap) (.int .i64 h.last)
    obtain ⟨r0, r1, r2⟩ := HK
    have HBE := below_s3 HB2.out HRW.out (.slice A h.objs.length c) (.int .i64 h.cap) (.int .i64 h.last)
    refine bodyPost_ret (v := .tuple #[.agg #[.slice A h.objs.length c, .int .i64 h.cap, .int .i64 h.last], .int .i64 ra.2.1, .int .i64 en]) (by simp [results, Tryz.results91, go_sem, r0, r1, r2]) rfl ?_
    rw [HE.out, HEN.out]
    exact ⟨HBE, .inl ⟨HR1_.out, rfl⟩⟩
   next =>
    have HM_ := hid hm
    have HO_ := hid ho
    rw [← hen]
    have HEN := hid hen
    clear hm ho hen
    go_upto_region 2 with fail
    obtain ⟨w2, hw⟩ : ∃ x, x = w1.alloc (.cells #[Value.slice A9 ra.1.objs.length c9, Value.int .i64 ra.1.cap, Value.int .i64 ra.1.last] 24) := ⟨_, rfl⟩
    obtain ⟨bG, hbG⟩ : ∃ x, x = w1.heap.size := ⟨_, rfl⟩
    have HG2 : Hid (Lies w2 bG 24 #[Value.slice A9 ra.1.objs.length c9, Value.int .i64 ra.1.cap, Value.int .i64 ra.1.last]) := by show Lies _ _ _ _; rw [hw, hbG]; exact Lies.new _ _ _
    have hb : Below w1.heap.size w1 w2 := by rw [hw]; exact below_alloc _ _
    have HB2 := hid (then_w HB1.out hb)
    have HX2 := hid (HX1.out.later hb)
    have HR2 := hid (HR1.out.later hb)
    have HO2_ := hid (HO_.out.later hb)
    rw [← hw, ← hbG]
    clear hw hbG hb
    obtain ⟨x0, x1, x2⟩ := HG2.out.c3
    obtain ⟨k0, k1, k2⟩ := HR2.out.c3
    obtain ⟨f0, f1, f2⟩ := HR2.out.f3
    go_wp2_with fail
    have HK := HR2.out.s3 (.slice A9 ra.1.objs.length c9) (.int .i64 ra.1.cap) (.int .i64 ra.1.last)
    obtain ⟨r0, r1, r2⟩ := HK
    have HBE := below_s3 HB2.out HRW.out (.slice A9 ra.1.objs.length c9) (.int .i64 ra.1.cap) (.int .i64 ra.1.last)
    refine bodyPost_ret (v := .tuple #[.agg #[.slice A9 ra.1.objs.length c9, .int .i64 ra.1.cap, .int .i64 ra.1.last], .int .i64 ra.2.1, .int .i64 en]) (by simp [results, Tryz.results91, go_sem, r0, r1, r2]) rfl ?_
    rw [HE.out, HEN.out]
    exact ⟨HBE, .inr ⟨A9, c9, ls, rfl, HM_.out, (HO2_.out.lower HB0.out.size).s3_13 HR2.out _ _ _⟩⟩
end Go.Proofs.YtnilempeldlieaaGreat
namespace Go.Proofs.YtnilempeldlieaaGreat
open Go.RowKit Flt

theorem tm_small {a : Int} (ha : In64 a) (h : rg a < 4503599627370496) : tm a = 0 := by
  obtain ⟨K, hK⟩ := exK
  have hi : infR = 9218868437227405312 := rfl
  rw [(toInt_fin ha (by omega)).2 K (by omega)]
  rw [Nat.div_eq_of_lt]
  unfold val
  have p52 := pow2_52
  rw [if_pos (by omega)]
  obtain ⟨x, hx⟩ : ∃ x : Nat, x = 1074 := ⟨1074, rfl⟩
  have eK : K = x + (K - 1074) := by omega
  have e : 2 ^ K = 2 ^ x * 2 ^ (K - 1074) := (congrArg (fun y => 2 ^ y) eK).trans (Nat.pow_add 2 x (K - 1074))
  rw [e]
  refine Nat.mul_lt_mul_of_pos_right ?_ (pow_pos2 _)
  have : (2 : Nat) ^ 52 ≤ 2 ^ x := Nat.pow_le_pow_right (by omega) (by omega)
  exact Nat.lt_of_lt_of_le (by omega) this

theorem tm_part {a : Int} (ha : In64 a) (hf : rg a < infR) (h0 : rg a ≠ 0) : (0 < pe (rg a) → 9007199254740992 ≤ tm a) ∧ (pe (rg a) ≤ 0 → tm a = pm (rg a) / 2 ^ (-pe (rg a)).toNat) := by
  obtain ⟨K, hK⟩ := exK
  have hv := pm_val (K := K) (r := rg a) (by omega) (by omega)
  have hr := pm_range (r := rg a) (by omega)
  have hp := pe_range hf
  rw [(toInt_fin ha hf).2 K (by omega), ← hv]
  constructor
  next =>
   intro g
   rw [Nat.le_div_iff_mul_le (pow_pos2 K)]
   have e : 2 ^ (K + 1) ≤ 2 ^ (pe (rg a) + K).toNat := Nat.pow_le_pow_right (by omega) (by omega)
   have h1 : 2 ^ 52 * 2 ^ (K + 1) ≤ pm (rg a) * 2 ^ (pe (rg a) + K).toNat := Nat.mul_le_mul hr.1 e
   have h2 : 2 ^ 52 * 2 ^ (K + 1) = 9007199254740992 * 2 ^ K := by
     rw [Nat.pow_succ 2 K, Nat.mul_comm (2 ^ K) 2, ← Nat.mul_assoc]
   rw [h2] at h1
   exact h1
  next =>
   intro g
   have e : 2 ^ K = 2 ^ (-pe (rg a)).toNat * 2 ^ (pe (rg a) + K).toNat := by rw [← Nat.pow_add]; congr 1; omega
   rw [e, Nat.mul_div_mul_right _ _ (pow_pos2 _)]

theorem kd_sub (a : Int) (h : kd a = 2 ∨ kd a = 3) : rg a < 4503599627370496 := by
  unfold kd at h
  have hi : infR = 9218868437227405312 := rfl
  by_cases c1 : infR < rg a
  next =>
   rw [if_pos c1] at h; omega
  rw [if_neg c1] at h
  by_cases c2 : rg a = infR
  next =>
   rw [if_pos c2] at h; omega
  rw [if_neg c2] at h
  by_cases c3 : rg a = 0
  next =>
   omega
  rw [if_neg c3] at h
  by_cases c4 : rg a < 4503599627370496
  next =>
   exact c4
  next =>
   rw [if_neg c4] at h; omega

set_option maxRecDepth 10000 in
set_option maxHeartbeats 2000000 in
theorem rtrunc_any {a : Int} (ha : In64 a) (w : World) : Calls Tryz.prog 90 #[.int .i64 a] w fun e w' => e = .returned (.tuple #[.int .i64 (fTr a), .bool (tb a)]) ∧ w = w' := by
  have hi : infR = 9218868437227405312 := rfl
  rcases kd_range a with k | k | k | k | k
  next =>
   have t : tb a = false := by
     have := (kd_zero a).1 k
     unfold tb
     have : ¬ rg a < infR := by omega
     simp [this]
   have e : fTr a = 0 := by unfold fTr; rw [t]; rfl
   rw [e, t]
   clear e t hi ha
   go_enter Tryz.func90, Tryz.ntmps90
   go_wp2_with (first
       | (go_at_call 124; refine (rkind_any _ _).mono ?_; rintro e w' ⟨rfl, rfl⟩)
       | (go_at_call 126; refine (rsign_any _ _).mono ?_; rintro e w' ⟨rfl, rfl⟩))
   go_ret2; exact ⟨rfl, rfl⟩
  next =>
   have t : tb a = false := by
     have := (kd_one a).1 k
     unfold tb
     have : ¬ rg a < infR := by omega
     simp [this]
   have e : fTr a = 0 := by unfold fTr; rw [t]; rfl
   rw [e, t]
   clear e t hi ha
   go_enter Tryz.func90, Tryz.ntmps90
   go_wp2_with (first
       | (go_at_call 124; refine (rkind_any _ _).mono ?_; rintro e w' ⟨rfl, rfl⟩)
       | (go_at_call 126; refine (rsign_any _ _).mono ?_; rintro e w' ⟨rfl, rfl⟩))
   go_ret2; exact ⟨rfl, rfl⟩
  next =>
   have hs := kd_sub a (.inl k)
   have hm := tm_small ha hs
   have v : tv a = 0 := by unfold tv; rw [hm]; cases ngv a <;> rfl
   have t : tb a = true := by
     unfold tb; rw [v]
     have : rg a < infR := by omega
     simp [this]
   have e : fTr a = 0 := by unfold fTr; rw [t, v]; rfl
   rw [e, t]
   clear e t hi ha hs hm v
   go_enter Tryz.func90, Tryz.ntmps90
   go_wp2_with (first
       | (go_at_call 124; refine (rkind_any _ _).mono ?_; rintro e w' ⟨rfl, rfl⟩)
       | (go_at_call 126; refine (rsign_any _ _).mono ?_; rintro e w' ⟨rfl, rfl⟩))
   go_ret2; exact ⟨rfl, rfl⟩
  next =>
   have hs := kd_sub a (.inr k)
   have hm := tm_small ha hs
   have v : tv a = 0 := by unfold tv; rw [hm]; cases ngv a <;> rfl
   have t : tb a = true := by
     unfold tb; rw [v]
     have : rg a < infR := by omega
     simp [this]
   have e : fTr a = 0 := by unfold fTr; rw [t, v]; rfl
   rw [e, t]
   clear e t hi ha hs hm v
   go_enter Tryz.func90, Tryz.ntmps90
   go_wp2_with (first
       | (go_at_call 124; refine (rkind_any _ _).mono ?_; rintro e w' ⟨rfl, rfl⟩)
       | (go_at_call 126; refine (rsign_any _ _).mono ?_; rintro e w' ⟨rfl, rfl⟩))
   go_ret2; exact ⟨rfl, rfl⟩
  next =>
   have hf := kd_fin a (by omega)
   have h0 := kd_more a (by omega)
   obtain ⟨t1, t2⟩ := tm_part ha hf h0
   have hr := pm_range (r := rg a) (by omega)
   have hp := pe_range hf
   have H0 := hid h0
   have ht : tb a = (decide (-1073741824 ≤ tv a) && decide (tv a < 1073741824)) := by
     unfold tb; simp [hf]
   by_cases c1 : 0 < pe (rg a)
   next =>
    have hm := t1 c1
    have t : tb a = false := by
      rw [ht, Bool.eq_false_iff]
      intro g
      simp only [Bool.and_eq_true, decide_eq_true_eq] at g
      unfold tv at g
      cases hn : ngv a
      next =>
       rw [hn] at g; simp only [Bool.false_eq_true, if_false] at g; omega
      next =>
       rw [hn] at g; simp only [if_true] at g; omega
    have e : fTr a = 0 := by unfold fTr; rw [t]; rfl
    rw [e, t]
    clear e t hi ha hm ht hr hp t1 t2 hf h0
    go_enter Tryz.func90, Tryz.ntmps90
    go_wp2_with (first
      | (go_at_call 124; refine (rkind_any _ _).mono ?_; rintro e w' ⟨rfl, rfl⟩)
      | (go_at_call 126; refine (rsign_any _ _).mono ?_; rintro e w' ⟨rfl, rfl⟩)
      | (go_at_call 125; refine (part_any _ H0.out _).mono ?_; rintro e w' ⟨rfl, rfl⟩))
    go_ret2; exact ⟨rfl, rfl⟩
   by_cases c2 : pe (rg a) < -62
   next =>
    have hm : tm a = 0 := by
      rw [t2 (by omega), Nat.div_eq_of_lt]
      have : (2 : Nat) ^ 53 ≤ 2 ^ (-pe (rg a)).toNat := Nat.pow_le_pow_right (by omega) (by omega)
      omega
    have v : tv a = 0 := by unfold tv; rw [hm]; cases ngv a <;> rfl
    have t : tb a = true := by rw [ht, v]; decide
    have e : fTr a = 0 := by unfold fTr; rw [t, v]; rfl
    rw [e, t]
    clear e t hi ha hm ht hr hp t1 t2 hf h0 v
    cases hn : ngv a
    next =>
     go_enter Tryz.func90, Tryz.ntmps90
     go_wp2_with (first
     | (go_at_call 124; refine (rkind_any _ _).mono ?_; rintro e w' ⟨rfl, rfl⟩)
     | (go_at_call 126; refine (rsign_any _ _).mono ?_; rintro e w' ⟨rfl, rfl⟩)
     | (go_at_call 125; refine (part_any _ H0.out _).mono ?_; rintro e w' ⟨rfl, rfl⟩))
     go_ret2; exact ⟨rfl, rfl⟩
    next =>
     go_enter Tryz.func90, Tryz.ntmps90
     go_wp2_with (first
     | (go_at_call 124; refine (rkind_any _ _).mono ?_; rintro e w' ⟨rfl, rfl⟩)
     | (go_at_call 126; refine (rsign_any _ _).mono ?_; rintro e w' ⟨rfl, rfl⟩)
     | (go_at_call 125; refine (part_any _ H0.out _).mono ?_; rintro e w' ⟨rfl, rfl⟩))
     go_ret2; exact ⟨rfl, rfl⟩
   obtain ⟨s, hs⟩ : ∃ s : Nat, pe (rg a) = -(s : Int) := ⟨(-pe (rg a)).toNat, by omega⟩
   have hsb : (s : Int) ≤ 62 := by omega
   have hm := t2 (by omega)
   have hs' : (-pe (rg a)).toNat = s := by omega
   rw [hs'] at hm
   have hd : (pm (rg a) : Int) / 2 ^ s = (tm a : Int) := by
     rw [hm, cast_pow2]; simp
   have hb : (tm a : Int) < 9007199254740992 := by
     have : tm a ≤ pm (rg a) := by rw [hm]; exact Nat.div_le_self _ _
     have p53 : (2 : Nat) ^ 53 = 9007199254740992 := by decide
     omega
   have hb0 : 0 ≤ (tm a : Int) := by omega
   have hft : fTr a = if tb a then tv a else 0 := rfl
   unfold tv at ht hft
   generalize hz : (tm a : Int) = z at *
   cases hn : ngv a
   next =>
    rw [hn] at ht hft
    simp only [Bool.false_eq_true, if_false] at ht hft
    by_cases r1 : z < 1073741824
    next =>
     have t : tb a = true := by rw [ht]; simp; omega
     have e : fTr a = z := by rw [hft, t]; rfl
     have r0 : ¬ z < -1073741824 := by omega
     have r2 : ¬ 1073741824 ≤ z := by omega
     rw [e, t]
     clear e t hi ha hm ht hr hp t1 t2 hf h0 hft hs' c1 c2 r1
     go_enter Tryz.func90, Tryz.ntmps90
     go_wp2_with (first
     | (go_at_call 124; refine (rkind_any _ _).mono ?_; rintro e w' ⟨rfl, rfl⟩)
     | (go_at_call 126; refine (rsign_any _ _).mono ?_; rintro e w' ⟨rfl, rfl⟩)
     | (go_at_call 125; refine (part_any _ H0.out _).mono ?_; rintro e w' ⟨rfl, rfl⟩))
     go_ret2; exact ⟨rfl, rfl⟩
    next =>
     have t : tb a = false := by rw [ht]; simp; omega
     have e : fTr a = 0 := by rw [hft, t]; rfl
     have r0 : ¬ z < -1073741824 := by omega
     have r2 : 1073741824 ≤ z := by omega
     rw [e, t]
     clear e t hi ha hm ht hr hp t1 t2 hf h0 hft hs' c1 c2 r1
     go_enter Tryz.func90, Tryz.ntmps90
     go_wp2_with (first
     | (go_at_call 124; refine (rkind_any _ _).mono ?_; rintro e w' ⟨rfl, rfl⟩)
     | (go_at_call 126; refine (rsign_any _ _).mono ?_; rintro e w' ⟨rfl, rfl⟩)
     | (go_at_call 125; refine (part_any _ H0.out _).mono ?_; rintro e w' ⟨rfl, rfl⟩))
     go_ret2; exact ⟨rfl, rfl⟩
   next =>
    rw [hn] at ht hft
    simp only [if_true] at ht hft
    by_cases r1 : z ≤ 1073741824
    next =>
     have t : tb a = true := by rw [ht]; simp; omega
     have e : fTr a = -z := by rw [hft, t]; rfl
     have r0 : ¬ -z < -1073741824 := by omega
     have r2 : ¬ 1073741824 ≤ -z := by omega
     rw [e, t]
     clear e t hi ha hm ht hr hp t1 t2 hf h0 hft hs' c1 c2 r1
     go_enter Tryz.func90, Tryz.ntmps90
     go_wp2_with (first
     | (go_at_call 124; refine (rkind_any _ _).mono ?_; rintro e w' ⟨rfl, rfl⟩)
     | (go_at_call 126; refine (rsign_any _ _).mono ?_; rintro e w' ⟨rfl, rfl⟩)
     | (go_at_call 125; refine (part_any _ H0.out _).mono ?_; rintro e w' ⟨rfl, rfl⟩))
     go_ret2; exact ⟨rfl, rfl⟩
    next =>
     have t : tb a = false := by rw [ht]; simp; omega
     have e : fTr a = 0 := by rw [hft, t]; rfl
     have r0 : -z < -1073741824 := by omega
     rw [e, t]
     clear e t hi ha hm ht hr hp t1 t2 hf h0 hft hs' c1 c2 r1
     go_enter Tryz.func90, Tryz.ntmps90
     go_wp2_with (first
     | (go_at_call 124; refine (rkind_any _ _).mono ?_; rintro e w' ⟨rfl, rfl⟩)
     | (go_at_call 126; refine (rsign_any _ _).mono ?_; rintro e w' ⟨rfl, rfl⟩)
     | (go_at_call 125; refine (part_any _ H0.out _).mono ?_; rintro e w' ⟨rfl, rfl⟩))
     go_ret2; exact ⟨rfl, rfl⟩

end Go.Proofs.YtnilempeldlieaaGreat
