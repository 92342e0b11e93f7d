/- The document on primitives: a slot, set. The document on primitives: slots, sizes, bytes, put together. Become twice changes nothing, whichever is told first: over plain heaps. -/
import Derived.Test.YtnilempeldlieaaGreatJ04
import Derived.Test.YtnilempeldlieaaGreatJYD13
import Derived.Test.YtnilempeldlieaaGreatJ07
import Derived.Test.YtnilempeldlieaaGreatJRSO13
import Derived.Test.YtnilempeldlieaaGreatJPM13
import Derived.Test.YtnilempeldlieaaGreatJ13
import Derived.Test.YtnilempeldlieaaGreatJ14
import Derived.Test.YtnilempeldlieaaGreatJ06
import Derived.Test.YtnilempeldlieaaGreatJ09
namespace Go.Proofs.YtnilempeldlieaaGreat
abbrev oYK130 : Oper := ⟨some 100, .move (.tmp 108), 93, "ref.go:100", #[⟨7, .data⟩], none⟩
abbrev oYK131 : Oper := ⟨some 109, .extract (.tmp 100) 0, 24, "ref.go:100", #[⟨8, .data⟩], none⟩
abbrev oYK132 : Oper := ⟨some 110, .extract (.tmp 100) 1, 25, "ref.go:100", #[⟨8, .data⟩, ⟨12, .gcOnly .lateStores⟩], none⟩
abbrev oYK133 : Oper := ⟨none, .store 24 (.tmp 16) (.tmp 109), 0, "ref.go:100", #[⟨11, .data⟩, ⟨9, .data⟩, ⟨7, .chain⟩, ⟨0, .phase⟩, ⟨1, .phase⟩, ⟨2, .phase⟩, ⟨3, .phase⟩, ⟨4, .phase⟩, ⟨5, .phase⟩, ⟨6, .phase⟩, ⟨7, .phase⟩, ⟨8, .phase⟩, ⟨9, .phase⟩, ⟨10, .textOnly .lateStores⟩, ⟨11, .phase⟩], none⟩
abbrev oYK134 : Oper := ⟨some 17, .assign (.tmp 110), 25, "ref.go:100", #[⟨10, .data⟩, ⟨12, .chain⟩, ⟨0, .phase⟩, ⟨1, .phase⟩, ⟨2, .phase⟩, ⟨3, .phase⟩, ⟨4, .phase⟩, ⟨5, .phase⟩, ⟨6, .phase⟩, ⟨7, .phase⟩, ⟨8, .phase⟩, ⟨9, .phase⟩, ⟨10, .phase⟩, ⟨11, .phase⟩, ⟨12, .phase⟩], none⟩
abbrev oYK135 : Oper := ⟨some 111, .load 24 (.tmp 4), 24, "ref.go:101", #[], none⟩
abbrev oYK136 : Oper := ⟨some 112, .load 24 (.tmp 16), 24, "ref.go:101", #[], none⟩
abbrev oYK137 : Oper := ⟨some 113, .move (.tmp 17), 25, "ref.go:101", #[], none⟩
abbrev oYK138 : Oper := ⟨some 114, .move (.tmp 3), 34, "ref.go:101", #[], none⟩
abbrev oYK139 : Oper := ⟨some 115, .indexAddr 34 (.tmp 114) (.const (Go.Value.int .i64 1)), 0, "ref.go:101", #[⟨3, .data⟩], none⟩
abbrev oYK1310 : Oper := ⟨some 116, .load 3 (.tmp 115), 3, "ref.go:101", #[⟨4, .data⟩], none⟩
abbrev oYK1311 : Oper := ⟨some 117, .call { callee := .value (.func 79), args := #[.tmp 111, .tmp 112, .tmp 113, .tmp 116], argTypes := #[24, 24, 25, 3] }, 44, "ref.go:101", #[⟨0, .data⟩, ⟨1, .data⟩, ⟨2, .data⟩, ⟨5, .data⟩], none⟩
abbrev oYK1312 : Oper := ⟨some 118, .extract (.tmp 117) 0, 24, "ref.go:101", #[⟨6, .data⟩], none⟩
abbrev oYK1313 : Oper := ⟨some 119, .extract (.tmp 117) 1, 3, "ref.go:101", #[⟨6, .data⟩], none⟩
abbrev oYK1314 : Oper := ⟨some 120, .extract (.tmp 117) 2, 25, "ref.go:101", #[⟨6, .data⟩], none⟩
abbrev oYK1315 : Oper := ⟨none, .store 24 (.tmp 8) (.tmp 118), 0, "ref.go:101", #[⟨7, .data⟩, ⟨6, .chain⟩, ⟨0, .phase⟩, ⟨1, .phase⟩, ⟨2, .phase⟩, ⟨3, .phase⟩, ⟨4, .phase⟩, ⟨5, .phase⟩, ⟨6, .phase⟩, ⟨7, .phase⟩, ⟨8, .phase⟩, ⟨9, .phase⟩], none⟩
abbrev oYK1316 : Oper := ⟨some 9, .assign (.tmp 119), 3, "ref.go:101", #[⟨8, .data⟩, ⟨10, .chain⟩, ⟨0, .phase⟩, ⟨1, .phase⟩, ⟨2, .phase⟩, ⟨3, .phase⟩, ⟨4, .phase⟩, ⟨5, .phase⟩, ⟨6, .phase⟩, ⟨7, .phase⟩, ⟨8, .phase⟩, ⟨9, .phase⟩, ⟨10, .phase⟩], none⟩
abbrev oYK1317 : Oper := ⟨some 10, .assign (.tmp 120), 25, "ref.go:101", #[⟨9, .data⟩, ⟨11, .chain⟩, ⟨0, .phase⟩, ⟨1, .phase⟩, ⟨2, .phase⟩, ⟨3, .phase⟩, ⟨4, .phase⟩, ⟨5, .phase⟩, ⟨6, .phase⟩, ⟨7, .phase⟩, ⟨8, .phase⟩, ⟨9, .phase⟩, ⟨10, .phase⟩, ⟨11, .phase⟩], none⟩
open Go.RowKit Flt
set_option maxRecDepth 100000
theorem rset_ow13 (h : Hp) (v k x : Int) (A : Option Addr) (c : Nat) (w : World) (hs : ObsR w A h.objs) (fit : h.Fit) :
    Calls Tryz.prog 80 #[.agg #[.slice A h.objs.length c, .int .i64 h.cap, .int .i64 h.last], .int .i64 v, .int .i64 k, .int .i64 x] w (HeapOw13 w (setR h v k x) (setE h v k x)) := by
  by_cases e : setE h v k x = 0
  next =>
   refine (rset_own13 h v k x A c w hs fit e).mono ?_
   rintro e' w' ⟨A', c', ls, rfl, hm, ho, hb⟩
   rw [e]
   exact ⟨A', c', rfl, own_obs ho hm, hb, fun _ => ⟨ls, hm, ho⟩⟩
  next =>
   refine (rset_any h v k x A c w hs fit).mono ?_
   rintro e' w' ⟨A', c', h1, h2, h3⟩
   exact ⟨A', c', h1, h2, h3, fun g => absurd g e⟩
set_option maxHeartbeats 800000 in
theorem rparts9_any13 (h : Hp) (s a b : Int) (al : List Int) (SA : Option Addr) (da : Nat) (A : Option Addr) (c : Nat) (w : World) (hs : ObsR w A h.objs) (fit : h.Fit) (hsa : IntsR w SA al) (hal : al.length = 2) (ha : al[0]? = some a) (hb1 : al[1]? = some b) :
    Calls Tryz.prog 43 #[.agg #[.slice A h.objs.length c, .int .i64 h.cap, .int .i64 h.last], .int .i64 9, .int .i64 s, .slice SA al.length da] w (RsP13 w h A c (pa13 h 9 s a b)) := by
  have HS := hid hs
  have HF := hid fit
  obtain ⟨ba, oa, rfl, hba, hca⟩ := hsa (by omega)
  have HY := hid (hca 0 a ha)
  have HZ := hid (hca 1 b hb1)
  have HBA := hid hba
  rw [hal]
  clear hs fit hsa hal ha hba hca hb1
  obtain ⟨r, hr⟩ : ∃ r, r = pa13 h 9 s a b := ⟨_, rfl⟩
  rw [← hr]
  have HRR := hid hr
  clear hr
  obtain ⟨w0, hw0⟩ : ∃ u, u = (w.alloc (.cells #[Value.slice A h.objs.length c, Value.int .i64 h.cap, Value.int .i64 h.last] 24)).alloc (.cells #[.slice none 0 0, .int .i64 0, .int .i64 0] 24) := ⟨_, rfl⟩
  obtain ⟨bR, hbR⟩ : ∃ x, x = w.heap.size + 1 := ⟨_, rfl⟩
  have HB0 : Hid (Below w.heap.size w w0) := by show Below _ _ _; rw [hw0]; exact below_alloc2 w _ _
  have HX0 : Hid (Lies w0 w.heap.size 24 #[Value.slice A h.objs.length c, Value.int .i64 h.cap, Value.int .i64 h.last]) := by
    show Lies _ _ _ _
    rw [hw0]; exact (Lies.new _ _ _).alloc _
  have HR0 : Hid (Lies w0 bR 24 #[.slice none 0 0, .int .i64 0, .int .i64 0]) := by
    show Lies _ _ _ _
    have := Lies.new (w.alloc (.cells #[Value.slice A h.objs.length c, Value.int .i64 h.cap, Value.int .i64 h.last] 24)) 24 #[.slice none 0 0, .int .i64 0, .int .i64 0]
    rw [hw0, hbR]; simpa using this
  have HRW : Hid (w.heap.size ≤ bR) := by show _ ≤ _; omega
  have HNE : Hid (w.heap.size ≠ bR) := by show _ ≠ _; omega
  go_enter Tryz.func43, Tryz.ntmps43
  go_upto_region 1 with fail
  rw [← hw0, ← hbR]
  clear hw0 hbR
  have y0 : w0.cell? ⟨ba, oa, none⟩ = some (.int .i64 a) := by
    have := (HB0.out.cell (p := ⟨ba, oa + 0, none⟩) HBA.out).trans HY.out
    simpa using this
  obtain ⟨x0, x1, x2⟩ := HX0.out.c3
  go_wp2_with fail
  refine (rn_any a w0).mono ?_
  rintro e wa ⟨rfl, hw⟩
  rw [← hw]
  clear hw y0 x0 x1 x2
  cases hn : nB a
  next =>
   have HE : Hid (r = fa13 h) := by show _ = _; rw [HRR.out]; unfold pa13; rw [if_neg (by decide), if_pos hn]
   obtain ⟨n, hnv⟩ : ∃ n, n = nV a := ⟨_, rfl⟩
   rw [← hnv]
   clear hn hnv
   obtain ⟨x0, x1, x2⟩ := HX0.out.c3
   go_wp2_with fail
   refine (rfail_any13 h A c w0).mono ?_
   rintro e w1 ⟨rfl, hb⟩
   have HB1 := hid (then_w HB0.out hb)
   have HX1 := hid (HX0.out.later hb)
   have HR1 := hid (HR0.out.later hb)
   clear hb x0 x1 x2
   obtain ⟨x0, x1, x2⟩ := HX1.out.c3
   obtain ⟨k0, k1, k2⟩ := HR1.out.c3
   obtain ⟨f0, f1, f2⟩ := HR1.out.f3
   go_wp2_with fail
   have HK := HR1.out.s3 (.slice A h.objs.length c) (.int .i64 h.cap) (.int .i64 h.last)
   obtain ⟨r0, r1, r2⟩ := HK
   have HBE := below_s3 HB1.out HRW.out (.slice A h.objs.length c) (.int .i64 h.cap) (.int .i64 h.last)
   refine bodyPost_ret (v := .tuple #[.agg #[.slice A h.objs.length c, .int .i64 h.cap, .int .i64 h.last], .int .i64 (fa13 h).2.1, .int .i64 (fa13 h).2.2]) (by simp [results, Tryz.results43, go_sem, r0, r1, r2]) rfl ?_
   rw [HE.out]
   exact ⟨HBE, .inl ⟨rfl, rfl⟩⟩
  next =>
   have HE0 : Hid (r = if setE h s (nV a - 1) b ≠ 0 then fa13 h else (setR h s (nV a - 1) b, b, 0)) := by show _ = _; rw [HRR.out]; unfold pa13; rw [if_neg (by decide), if_neg (by rw [hn]; decide), if_neg (by decide), if_pos rfl]
   have hbd := n_bd13 hn
   obtain ⟨n, hnv⟩ : ∃ n, n = nV a := ⟨_, rfl⟩
   rw [← hnv] at HE0 hbd ⊢
   have hw1 : IntKind.i64.wrap (n - 1) = n - 1 := IntWalk.i64_in _ (by omega)
   obtain ⟨en, hen⟩ : ∃ x, x = setE h s (n - 1) b := ⟨_, rfl⟩
   obtain ⟨G, hG⟩ : ∃ x, x = setR h s (n - 1) b := ⟨_, rfl⟩
   rw [← hen, ← hG] at HE0
   have HSET : Hid (∀ W : World, ObsR W A h.objs → Calls Tryz.prog 80 #[.agg #[.slice A h.objs.length c, .int .i64 h.cap, .int .i64 h.last], .int .i64 s, .int .i64 (n - 1), .int .i64 b] W (HeapOw13 W G en)) := by
     show ∀ W : World, _
     intro W hW
     rw [hen, hG]; exact rset_ow13 h s (n - 1) b A c W hW HF.out
   clear hn hnv HRR hbd hen hG
   obtain ⟨x0, x1, x2⟩ := HX0.out.c3
   have y1 := (HB0.out.cell (p := ⟨ba, oa + 1, none⟩) HBA.out).trans HZ.out
   go_upto_region 14 with fail
   refine wp_region_held_drew (S := (fun w' => w'.cell? ⟨w.heap.size, 0, none⟩ = some (.slice A h.objs.length c) ∧ w'.cell? ⟨w.heap.size, 1, none⟩ = some (.int .i64 h.cap) ∧ w'.cell? ⟨w.heap.size, 2, none⟩ = some (.int .i64 h.last) ∧ w'.cell? ⟨ba, oa + 1, none⟩ = some (.int .i64 b))) (by kernel_rfl) ?_ (fun hH0 => ?_)
   next =>
    exact ⟨dcJ x0, dcJ x1, dcJ x2, dcJ y1⟩
   refine tkJ 0 ⟨some 101, .load 24 (.tmp 4), 24, "ref.go:100", #[], none⟩ ?_
   refine tkJ 1 ⟨some 102, .move (.tmp 2), 3, "ref.go:100", #[], none⟩ ?_
   refine tkJ 2 ⟨some 103, .move (.tmp 12), 3, "ref.go:100", #[], none⟩ ?_
   refine tkJ 3 ⟨some 104, .binOp .sub 3 (.tmp 103) (.const (Go.Value.int .i64 1)) 3, 3, "ref.go:100", #[⟨2, .data⟩], none⟩ ?_
   refine tkJ 4 ⟨some 105, .move (.tmp 3), 34, "ref.go:100", #[], none⟩ ?_
   refine tkJ 5 ⟨some 106, .indexAddr 34 (.tmp 105) (.const (Go.Value.int .i64 1)), 0, "ref.go:100", #[⟨4, .data⟩], none⟩ ?_
   refine tkJ 6 ⟨some 107, .load 3 (.tmp 106), 3, "ref.go:100", #[⟨5, .data⟩], none⟩ ?_
   refine wpAnyH_ready (rs := [7, 11]) (by kernel_rfl) (by simp) ?_
   refine AllReadyH.cons (i := 7) (o := ⟨some 108, .call { callee := .value (.func 80), args := #[.tmp 101, .tmp 102, .tmp 104, .tmp 107], argTypes := #[24, 3, 3, 3] }, 93, "ref.go:100", #[⟨0, .data⟩, ⟨1, .data⟩, ⟨3, .data⟩, ⟨6, .data⟩], none⟩) rfl (fun K hK => ?_) (AllReadyH.cons (i := 11) (o := ⟨some 16, .alloc 24, 0, "ref.go:100", #[], none⟩) rfl (fun K hK => ?_) AllReadyH.nil)
   next =>
    go_simp
    go_at_call 80
    obtain ⟨wd, hd⟩ : ∃ x, x = w0.drew := ⟨_, rfl⟩
    rw [← hd]
    have hb : Below w0.heap.size w0 wd := by rw [hd]; exact (Below.refl _ _).drew
    have HBz := hid (then_w HB0.out hb)
    have HXz := hid (HX0.out.later hb)
    have HRz := hid (HR0.out.later hb)
    clear hd hb
    refine (HSET.out wd (HS.out.below HBz.out)).mono ?_
    rintro e u1 ⟨A1, c1, rfl, -, hb, how⟩
    have HBW := HBz.out.size
    have OW1 : Hid (en = 0 → ∃ ls, ls.map (·.o) = G.objs ∧ OwnH u1 w.heap.size A1 c1 ls) := fun e => by
      obtain ⟨ls, h1, h2⟩ := how e
      exact ⟨ls, h1, h2.lower HBW⟩
    have HB1 := hid (then_w HBz.out hb)
    have HX1 := hid (HXz.out.later hb)
    have HR1 := hid (HRz.out.later hb)
    clear hb how HBW
    obtain ⟨v0, v1, v2⟩ := HX1.out.c3
    have v3 := (HB1.out.cell (p := ⟨ba, oa + 1, none⟩) HBA.out).trans HZ.out
    refine hK.out _ _ ?_ (fun hH1 => ?_)
    next =>
     exact ⟨v0, v1, v2, v3⟩
    clear hK K
    try simp only [apt12]
    clear v0 v1 v2 v3
    refine tkJ 8 oYK130 ?_
    refine tkJ 9 oYK131 ?_
    refine tkJ 10 oYK132 ?_
    refine rdJ 11 ⟨some 16, .alloc 24, 0, "ref.go:100", #[], none⟩ fun K hK => ?_
    go_simp
    obtain ⟨u2, hu⟩ : ∃ x, x = u1.alloc (.cells #[.slice none 0 0, .int .i64 0, .int .i64 0] 24) := ⟨_, rfl⟩
    obtain ⟨bG, hg⟩ : ∃ x, x = u1.heap.size := ⟨_, rfl⟩
    rw [← hu, ← hg]
    have hb : Below u1.heap.size u1 u2 := by rw [hu]; exact below_alloc _ _
    have HG2 : Hid (Lies u2 bG 24 #[.slice none 0 0, .int .i64 0, .int .i64 0]) := by show Lies _ _ _ _; rw [hu, hg]; exact Lies.new _ _ _
    have HNX : Hid (w.heap.size ≠ bG) := by show _ ≠ _; have := HX1.out.lt; omega
    have HNR : Hid (bR ≠ bG) := by show _ ≠ _; have := HR1.out.lt; omega
    have HWG : Hid (w.heap.size ≤ bG) := by show _ ≤ _; have := HX1.out.lt; omega
    have HB2 := hid (then_w HB1.out hb)
    have HX2 := hid (HX1.out.later hb)
    have HR2 := hid (HR1.out.later hb)
    have OW2 : Hid (en = 0 → ∃ ls, ls.map (·.o) = G.objs ∧ OwnH u2 w.heap.size A1 c1 ls) := fun e => by
      obtain ⟨ls, h1, h2⟩ := OW1.out e
      exact ⟨ls, h1, h2.later hb⟩
    clear hu hg hb
    obtain ⟨v0, v1, v2⟩ := HX2.out.c3
    have v3 := (HB2.out.cell (p := ⟨ba, oa + 1, none⟩) HBA.out).trans HZ.out
    refine hK.out _ _ ?_ (fun hH2 => ?_)
    next =>
     exact ⟨v0, v1, v2, v3⟩
    clear hK K
    try simp only [apt12]
    clear v0 v1 v2 v3
    refine rdJ 12 oYK133 fun K hK => ?_
    obtain ⟨k0, k1, k2⟩ := HG2.out.c3
    obtain ⟨f0, f1, f2⟩ := HG2.out.f3
    go_simp
    clear k0 k1 k2 f0 f1 f2
    have t1 := HG2.out.set_ 0 (.slice A1 G.objs.length c1)
    have t2 := t1.set_ 1 (.int .i64 G.cap)
    have t3 := t2.set_ 2 (.int .i64 G.last)
    have HBV := hid (below_s3 HB2.out HWG.out (.slice A1 G.objs.length c1) (.int .i64 G.cap) (.int .i64 G.last))
    have HXV := hid (((HX2.out.far (p := ⟨bG, 0, none⟩) HNX.out (.slice A1 G.objs.length c1)).far (p := ⟨bG, 1, none⟩) HNX.out (.int .i64 G.cap)).far (p := ⟨bG, 2, none⟩) HNX.out (.int .i64 G.last))
    have HRV := hid (((HR2.out.far (p := ⟨bG, 0, none⟩) HNR.out (.slice A1 G.objs.length c1)).far (p := ⟨bG, 1, none⟩) HNR.out (.int .i64 G.cap)).far (p := ⟨bG, 2, none⟩) HNR.out (.int .i64 G.last))
    have hov : en = 0 → ∃ ls, ls.map (·.o) = G.objs ∧ OwnH (((u2.setCell ⟨bG, 0, none⟩ (.slice A1 G.objs.length c1)).setCell ⟨bG, 1, none⟩ (.int .i64 G.cap)).setCell ⟨bG, 2, none⟩ (.int .i64 G.last)) w.heap.size A1 c1 ls := fun e => by
      obtain ⟨ls, h1, h2⟩ := OW2.out e
      exact ⟨ls, h1, h2.s3_13 HG2.out _ _ _⟩
    obtain ⟨uv, huv⟩ : ∃ x, x = ((u2.setCell ⟨bG, 0, none⟩ (.slice A1 G.objs.length c1)).setCell ⟨bG, 1, none⟩ (.int .i64 G.cap)).setCell ⟨bG, 2, none⟩ (.int .i64 G.last) := ⟨_, rfl⟩
    have HGV : Hid (Lies uv bG 24 #[Value.slice A1 G.objs.length c1, Value.int .i64 G.cap, Value.int .i64 G.last]) := by show Lies _ _ _ _; rw [huv]; exact t3
    rw [← huv] at HBV HXV HRV hov
    rw [← huv]
    have OWV := hid hov
    clear huv hov t1 t2 t3
    obtain ⟨v0, v1, v2⟩ := HXV.out.c3
    have v3 := (HBV.out.cell (p := ⟨ba, oa + 1, none⟩) HBA.out).trans HZ.out
    refine hK.out _ _ ?_ (fun hH3 => ?_)
    next =>
     exact ⟨v0, v1, v2, v3⟩
    clear hK K
    try simp only [apt12]
    clear v0 v1 v2 v3
    refine tkJ 13 oYK134 ?_
    refine wpAnyH_done (by kernel_rfl) ?_ _
    by_cases h0 : en = 0
    next =>
     have HE : Hid (r = (G, b, 0)) := by show _ = _; rw [HE0.out, if_neg (fun g => g h0)]
     subst h0
     obtain ⟨x0, x1, x2⟩ := HXV.out.c3
     have y1 := (HBV.out.cell (p := ⟨ba, oa + 1, none⟩) HBA.out).trans HZ.out
     obtain ⟨z0, z1, z2⟩ := HGV.out.c3
     go_upto_region 15 with fail
     refine wp_region_held_drew (S := (fun w' => w'.cell? ⟨w.heap.size, 0, none⟩ = some (.slice A h.objs.length c) ∧ w'.cell? ⟨w.heap.size, 1, none⟩ = some (.int .i64 h.cap) ∧ w'.cell? ⟨w.heap.size, 2, none⟩ = some (.int .i64 h.last) ∧ w'.cell? ⟨ba, oa + 1, none⟩ = some (.int .i64 b) ∧ w'.cell? ⟨bG, 0, none⟩ = some (.slice A1 G.objs.length c1) ∧ w'.cell? ⟨bG, 1, none⟩ = some (.int .i64 G.cap) ∧ w'.cell? ⟨bG, 2, none⟩ = some (.int .i64 G.last))) (by kernel_rfl) ?_ (fun hH0 => ?_)
     next =>
      exact ⟨dcJ x0, dcJ x1, dcJ x2, dcJ y1, dcJ z0, dcJ z1, dcJ z2⟩
     refine tkJ 0 oYK135 ?_
     refine tkJ 1 oYK136 ?_
     refine tkJ 2 oYK137 ?_
     refine tkJ 3 oYK138 ?_
     refine tkJ 4 oYK139 ?_
     refine tkJ 5 oYK1310 ?_
     refine rdJ 6 oYK1311 fun K hK => ?_
     go_simp
     go_at_call 79
     obtain ⟨we, hd⟩ : ∃ x, x = uv.drew := ⟨_, rfl⟩
     rw [← hd]
     have hbd : Below uv.heap.size uv we := by rw [hd]; exact (Below.refl _ _).drew
     refine (rtook_any13 h G 0 b A A1 c c1 we).mono ?_
     rintro e ut ⟨rfl, hb2⟩
     rw [if_pos rfl]
     have hb := then_w hbd hb2
     have HBT := hid (then_w HBV.out hb)
     have HXT := hid (HXV.out.later hb)
     have HRT := hid (HRV.out.later hb)
     have HGT := hid (HGV.out.later hb)
     have OWT : Hid ((0 : Int) = 0 → ∃ ls, ls.map (·.o) = G.objs ∧ OwnH ut w.heap.size A1 c1 ls) := fun e => by
       obtain ⟨ls, h1, h2⟩ := OWV.out e
       exact ⟨ls, h1, h2.later hb⟩
     clear hd hbd hb hb2
     obtain ⟨v0, v1, v2⟩ := HXT.out.c3
     have v3 := (HBT.out.cell (p := ⟨ba, oa + 1, none⟩) HBA.out).trans HZ.out
     obtain ⟨v4, v5, v6⟩ := HGT.out.c3
     refine hK.out _ _ ?_ (fun hH1 => ?_)
     next =>
      exact ⟨v0, v1, v2, v3, v4, v5, v6⟩
     clear hK K
     try simp only [apt12]
     clear v0 v1 v2 v3 v4 v5 v6
     refine tkJ 7 oYK1312 ?_
     refine tkJ 8 oYK1313 ?_
     refine tkJ 9 oYK1314 ?_
     refine rdJ 10 oYK1315 fun K hK => ?_
     obtain ⟨k0, k1, k2⟩ := HRT.out.c3
     obtain ⟨f0, f1, f2⟩ := HRT.out.f3
     go_simp
     clear k0 k1 k2 f0 f1 f2
     have HBE := below_s3 HBT.out HRW.out (.slice A1 G.objs.length c1) (.int .i64 G.cap) (.int .i64 G.last)
     have HX9 := ((HXT.out.far (p := ⟨bR, 0, none⟩) HNE.out (.slice A1 G.objs.length c1)).far (p := ⟨bR, 1, none⟩) HNE.out (.int .i64 G.cap)).far (p := ⟨bR, 2, none⟩) HNE.out (.int .i64 G.last)
     have HG9 := ((HGT.out.far (p := ⟨bR, 0, none⟩) HNR.out.symm (.slice A1 G.objs.length c1)).far (p := ⟨bR, 1, none⟩) HNR.out.symm (.int .i64 G.cap)).far (p := ⟨bR, 2, none⟩) HNR.out.symm (.int .i64 G.last)
     obtain ⟨v0, v1, v2⟩ := HX9.c3
     have v3 := (HBE.cell (p := ⟨ba, oa + 1, none⟩) HBA.out).trans HZ.out
     obtain ⟨v4, v5, v6⟩ := HG9.c3
     refine hK.out _ _ ?_ (fun hH2 => ?_)
     next =>
      exact ⟨v0, v1, v2, v3, v4, v5, v6⟩
     clear hK K
     try simp only [apt12]
     clear v0 v1 v2 v3 v4 v5 v6
     clear HX9 HG9
     refine tkJ 11 oYK1316 ?_
     refine tkJ 12 oYK1317 ?_
     refine wpAnyH_done (by kernel_rfl) ?_ _
     have HK := HRT.out.s3 (.slice A1 G.objs.length c1) (.int .i64 G.cap) (.int .i64 G.last)
     obtain ⟨r0, r1, r2⟩ := HK
     go_wp2_with fail
     refine bodyPost_ret (v := .tuple #[.agg #[.slice A1 G.objs.length c1, .int .i64 G.cap, .int .i64 G.last], .int .i64 b, .int .i64 0]) (by simp [results, Tryz.results43, go_sem, r0, r1, r2]) rfl ?_
     rw [HE.out]
     obtain ⟨ls, h1, h2⟩ := OWT.out (by first | trivial | rfl)
     exact ⟨HBE, .inr ⟨A1, c1, ls, rfl, h1, h2.s3_13 HRT.out _ _ _⟩⟩
    next =>
     have HE : Hid (r = fa13 h) := by show _ = _; rw [HE0.out, if_pos h0]
     obtain ⟨x0, x1, x2⟩ := HXV.out.c3
     have y1 := (HBV.out.cell (p := ⟨ba, oa + 1, none⟩) HBA.out).trans HZ.out
     obtain ⟨z0, z1, z2⟩ := HGV.out.c3
     go_upto_region 15 with fail
     refine wp_region_held_drew (S := (fun w' => w'.cell? ⟨w.heap.size, 0, none⟩ = some (.slice A h.objs.length c) ∧ w'.cell? ⟨w.heap.size, 1, none⟩ = some (.int .i64 h.cap) ∧ w'.cell? ⟨w.heap.size, 2, none⟩ = some (.int .i64 h.last) ∧ w'.cell? ⟨ba, oa + 1, none⟩ = some (.int .i64 b) ∧ w'.cell? ⟨bG, 0, none⟩ = some (.slice A1 G.objs.length c1) ∧ w'.cell? ⟨bG, 1, none⟩ = some (.int .i64 G.cap) ∧ w'.cell? ⟨bG, 2, none⟩ = some (.int .i64 G.last))) (by kernel_rfl) ?_ (fun hH0 => ?_)
     next =>
      exact ⟨dcJ x0, dcJ x1, dcJ x2, dcJ y1, dcJ z0, dcJ z1, dcJ z2⟩
     refine tkJ 0 oYK135 ?_
     refine tkJ 1 oYK136 ?_
     refine tkJ 2 oYK137 ?_
     refine tkJ 3 oYK138 ?_
     refine tkJ 4 oYK139 ?_
     refine tkJ 5 oYK1310 ?_
     refine rdJ 6 oYK1311 fun K hK => ?_
     go_simp
     go_at_call 79
     obtain ⟨we, hd⟩ : ∃ x, x = uv.drew := ⟨_, rfl⟩
     rw [← hd]
     have hbd : Below uv.heap.size uv we := by rw [hd]; exact (Below.refl _ _).drew
     refine (rtook_any13 h G en b A A1 c c1 we).mono ?_
     rintro e ut ⟨rfl, hb2⟩
     rw [if_neg h0]
     have hb := then_w hbd hb2
     have HBT := hid (then_w HBV.out hb)
     have HXT := hid (HXV.out.later hb)
     have HRT := hid (HRV.out.later hb)
     have HGT := hid (HGV.out.later hb)
     have OWT : Hid (en = 0 → ∃ ls, ls.map (·.o) = G.objs ∧ OwnH ut w.heap.size A1 c1 ls) := fun e => by
       obtain ⟨ls, h1, h2⟩ := OWV.out e
       exact ⟨ls, h1, h2.later hb⟩
     clear hd hbd hb hb2
     obtain ⟨v0, v1, v2⟩ := HXT.out.c3
     have v3 := (HBT.out.cell (p := ⟨ba, oa + 1, none⟩) HBA.out).trans HZ.out
     obtain ⟨v4, v5, v6⟩ := HGT.out.c3
     refine hK.out _ _ ?_ (fun hH1 => ?_)
     next =>
      exact ⟨v0, v1, v2, v3, v4, v5, v6⟩
     clear hK K
     try simp only [apt12]
     clear v0 v1 v2 v3 v4 v5 v6
     refine tkJ 7 oYK1312 ?_
     refine tkJ 8 oYK1313 ?_
     refine tkJ 9 oYK1314 ?_
     refine rdJ 10 oYK1315 fun K hK => ?_
     obtain ⟨k0, k1, k2⟩ := HRT.out.c3
     obtain ⟨f0, f1, f2⟩ := HRT.out.f3
     go_simp
     clear k0 k1 k2 f0 f1 f2
     have HBE := below_s3 HBT.out HRW.out (.slice A h.objs.length c) (.int .i64 h.cap) (.int .i64 h.last)
     have HX9 := ((HXT.out.far (p := ⟨bR, 0, none⟩) HNE.out (.slice A h.objs.length c)).far (p := ⟨bR, 1, none⟩) HNE.out (.int .i64 h.cap)).far (p := ⟨bR, 2, none⟩) HNE.out (.int .i64 h.last)
     have HG9 := ((HGT.out.far (p := ⟨bR, 0, none⟩) HNR.out.symm (.slice A h.objs.length c)).far (p := ⟨bR, 1, none⟩) HNR.out.symm (.int .i64 h.cap)).far (p := ⟨bR, 2, none⟩) HNR.out.symm (.int .i64 h.last)
     obtain ⟨v0, v1, v2⟩ := HX9.c3
     have v3 := (HBE.cell (p := ⟨ba, oa + 1, none⟩) HBA.out).trans HZ.out
     obtain ⟨v4, v5, v6⟩ := HG9.c3
     refine hK.out _ _ ?_ (fun hH2 => ?_)
     next =>
      exact ⟨v0, v1, v2, v3, v4, v5, v6⟩
     clear hK K
     try simp only [apt12]
     clear v0 v1 v2 v3 v4 v5 v6
     clear HX9 HG9
     refine tkJ 11 oYK1316 ?_
     refine tkJ 12 oYK1317 ?_
     refine wpAnyH_done (by kernel_rfl) ?_ _
     have HK := HRT.out.s3 (.slice A h.objs.length c) (.int .i64 h.cap) (.int .i64 h.last)
     obtain ⟨r0, r1, r2⟩ := HK
     go_wp2_with fail
     refine bodyPost_ret (v := .tuple #[.agg #[.slice A h.objs.length c, .int .i64 h.cap, .int .i64 h.last], .int .i64 0, .int .i64 130]) (by simp [results, Tryz.results43, go_sem, r0, r1, r2]) rfl ?_
     rw [HE.out]
     exact ⟨HBE, .inl ⟨rfl, rfl⟩⟩
   next =>
    go_simp
    obtain ⟨u1, hu⟩ : ∃ x, x = (w0.alloc (.cells #[.slice none 0 0, .int .i64 0, .int .i64 0] 24)).drew := ⟨_, rfl⟩
    obtain ⟨bG, hg⟩ : ∃ x, x = w0.heap.size := ⟨_, rfl⟩
    rw [← hu, ← hg]
    have hb : Below w0.heap.size w0 u1 := by rw [hu]; exact (below_alloc _ _).drew
    have HG1 : Hid (Lies u1 bG 24 #[.slice none 0 0, .int .i64 0, .int .i64 0]) := by show Lies _ _ _ _; rw [hu, hg]; exact (Lies.new _ _ _).drew
    have HNX : Hid (w.heap.size ≠ bG) := by show _ ≠ _; have := HX0.out.lt; omega
    have HNR : Hid (bR ≠ bG) := by show _ ≠ _; have := HR0.out.lt; omega
    have HWG : Hid (w.heap.size ≤ bG) := by show _ ≤ _; have := HX0.out.lt; omega
    have HB1 := hid (then_w HB0.out hb)
    have HX1 := hid (HX0.out.later hb)
    have HR1 := hid (HR0.out.later hb)
    clear hu hg hb
    obtain ⟨v0, v1, v2⟩ := HX1.out.c3
    have v3 := (HB1.out.cell (p := ⟨ba, oa + 1, none⟩) HBA.out).trans HZ.out
    refine hK.out _ _ ?_ (fun hH1 => ?_)
    next =>
     exact ⟨v0, v1, v2, v3⟩
    clear hK K
    try simp only [apt12]
    clear v0 v1 v2 v3
    refine rdJ 7 ⟨some 108, .call { callee := .value (.func 80), args := #[.tmp 101, .tmp 102, .tmp 104, .tmp 107], argTypes := #[24, 3, 3, 3] }, 93, "ref.go:100", #[⟨0, .data⟩, ⟨1, .data⟩, ⟨3, .data⟩, ⟨6, .data⟩], none⟩ fun K hK => ?_
    go_simp
    go_at_call 80
    refine (HSET.out u1 (HS.out.below HB1.out)).mono ?_
    rintro e u2 ⟨A1, c1, rfl, -, hb, how⟩
    have HBW := HB1.out.size
    have OW2 : Hid (en = 0 → ∃ ls, ls.map (·.o) = G.objs ∧ OwnH u2 w.heap.size A1 c1 ls) := fun e => by
      obtain ⟨ls, h1, h2⟩ := how e
      exact ⟨ls, h1, h2.lower HBW⟩
    have HB2 := hid (then_w HB1.out hb)
    have HX2 := hid (HX1.out.later hb)
    have HR2 := hid (HR1.out.later hb)
    have HG2 := hid (HG1.out.later hb)
    clear hb how HBW
    obtain ⟨v0, v1, v2⟩ := HX2.out.c3
    have v3 := (HB2.out.cell (p := ⟨ba, oa + 1, none⟩) HBA.out).trans HZ.out
    refine hK.out _ _ ?_ (fun hH2 => ?_)
    next =>
     exact ⟨v0, v1, v2, v3⟩
    clear hK K
    try simp only [apt12]
    clear v0 v1 v2 v3
    refine tkJ 8 oYK130 ?_
    refine tkJ 9 oYK131 ?_
    refine tkJ 10 oYK132 ?_
    refine rdJ 12 oYK133 fun K hK => ?_
    obtain ⟨k0, k1, k2⟩ := HG2.out.c3
    obtain ⟨f0, f1, f2⟩ := HG2.out.f3
    go_simp
    clear k0 k1 k2 f0 f1 f2
    have t1 := HG2.out.set_ 0 (.slice A1 G.objs.length c1)
    have t2 := t1.set_ 1 (.int .i64 G.cap)
    have t3 := t2.set_ 2 (.int .i64 G.last)
    have HBV := hid (below_s3 HB2.out HWG.out (.slice A1 G.objs.length c1) (.int .i64 G.cap) (.int .i64 G.last))
    have HXV := hid (((HX2.out.far (p := ⟨bG, 0, none⟩) HNX.out (.slice A1 G.objs.length c1)).far (p := ⟨bG, 1, none⟩) HNX.out (.int .i64 G.cap)).far (p := ⟨bG, 2, none⟩) HNX.out (.int .i64 G.last))
    have HRV := hid (((HR2.out.far (p := ⟨bG, 0, none⟩) HNR.out (.slice A1 G.objs.length c1)).far (p := ⟨bG, 1, none⟩) HNR.out (.int .i64 G.cap)).far (p := ⟨bG, 2, none⟩) HNR.out (.int .i64 G.last))
    have hov : en = 0 → ∃ ls, ls.map (·.o) = G.objs ∧ OwnH (((u2.setCell ⟨bG, 0, none⟩ (.slice A1 G.objs.length c1)).setCell ⟨bG, 1, none⟩ (.int .i64 G.cap)).setCell ⟨bG, 2, none⟩ (.int .i64 G.last)) w.heap.size A1 c1 ls := fun e => by
      obtain ⟨ls, h1, h2⟩ := OW2.out e
      exact ⟨ls, h1, h2.s3_13 HG2.out _ _ _⟩
    obtain ⟨uv, huv⟩ : ∃ x, x = ((u2.setCell ⟨bG, 0, none⟩ (.slice A1 G.objs.length c1)).setCell ⟨bG, 1, none⟩ (.int .i64 G.cap)).setCell ⟨bG, 2, none⟩ (.int .i64 G.last) := ⟨_, rfl⟩
    have HGV : Hid (Lies uv bG 24 #[Value.slice A1 G.objs.length c1, Value.int .i64 G.cap, Value.int .i64 G.last]) := by show Lies _ _ _ _; rw [huv]; exact t3
    rw [← huv] at HBV HXV HRV hov
    rw [← huv]
    have OWV := hid hov
    clear huv hov t1 t2 t3
    obtain ⟨v0, v1, v2⟩ := HXV.out.c3
    have v3 := (HBV.out.cell (p := ⟨ba, oa + 1, none⟩) HBA.out).trans HZ.out
    refine hK.out _ _ ?_ (fun hH3 => ?_)
    next =>
     exact ⟨v0, v1, v2, v3⟩
    clear hK K
    try simp only [apt12]
    clear v0 v1 v2 v3
    refine tkJ 13 oYK134 ?_
    refine wpAnyH_done (by kernel_rfl) ?_ _
    by_cases h0 : en = 0
    next =>
     have HE : Hid (r = (G, b, 0)) := by show _ = _; rw [HE0.out, if_neg (fun g => g h0)]
     subst h0
     obtain ⟨x0, x1, x2⟩ := HXV.out.c3
     have y1 := (HBV.out.cell (p := ⟨ba, oa + 1, none⟩) HBA.out).trans HZ.out
     obtain ⟨z0, z1, z2⟩ := HGV.out.c3
     go_upto_region 15 with fail
     refine wp_region_held_drew (S := (fun w' => w'.cell? ⟨w.heap.size, 0, none⟩ = some (.slice A h.objs.length c) ∧ w'.cell? ⟨w.heap.size, 1, none⟩ = some (.int .i64 h.cap) ∧ w'.cell? ⟨w.heap.size, 2, none⟩ = some (.int .i64 h.last) ∧ w'.cell? ⟨ba, oa + 1, none⟩ = some (.int .i64 b) ∧ w'.cell? ⟨bG, 0, none⟩ = some (.slice A1 G.objs.length c1) ∧ w'.cell? ⟨bG, 1, none⟩ = some (.int .i64 G.cap) ∧ w'.cell? ⟨bG, 2, none⟩ = some (.int .i64 G.last))) (by kernel_rfl) ?_ (fun hH0 => ?_)
     next =>
      exact ⟨dcJ x0, dcJ x1, dcJ x2, dcJ y1, dcJ z0, dcJ z1, dcJ z2⟩
     refine tkJ 0 oYK135 ?_
     refine tkJ 1 oYK136 ?_
     refine tkJ 2 oYK137 ?_
     refine tkJ 3 oYK138 ?_
     refine tkJ 4 oYK139 ?_
     refine tkJ 5 oYK1310 ?_
     refine rdJ 6 oYK1311 fun K hK => ?_
     go_simp
     go_at_call 79
     obtain ⟨we, hd⟩ : ∃ x, x = uv.drew := ⟨_, rfl⟩
     rw [← hd]
     have hbd : Below uv.heap.size uv we := by rw [hd]; exact (Below.refl _ _).drew
     refine (rtook_any13 h G 0 b A A1 c c1 we).mono ?_
     rintro e ut ⟨rfl, hb2⟩
     rw [if_pos rfl]
     have hb := then_w hbd hb2
     have HBT := hid (then_w HBV.out hb)
     have HXT := hid (HXV.out.later hb)
     have HRT := hid (HRV.out.later hb)
     have HGT := hid (HGV.out.later hb)
     have OWT : Hid ((0 : Int) = 0 → ∃ ls, ls.map (·.o) = G.objs ∧ OwnH ut w.heap.size A1 c1 ls) := fun e => by
       obtain ⟨ls, h1, h2⟩ := OWV.out e
       exact ⟨ls, h1, h2.later hb⟩
     clear hd hbd hb hb2
     obtain ⟨v0, v1, v2⟩ := HXT.out.c3
     have v3 := (HBT.out.cell (p := ⟨ba, oa + 1, none⟩) HBA.out).trans HZ.out
     obtain ⟨v4, v5, v6⟩ := HGT.out.c3
     refine hK.out _ _ ?_ (fun hH1 => ?_)
     next =>
      exact ⟨v0, v1, v2, v3, v4, v5, v6⟩
     clear hK K
     try simp only [apt12]
     clear v0 v1 v2 v3 v4 v5 v6
     refine tkJ 7 oYK1312 ?_
     refine tkJ 8 oYK1313 ?_
     refine tkJ 9 oYK1314 ?_
     refine rdJ 10 oYK1315 fun K hK => ?_
     obtain ⟨k0, k1, k2⟩ := HRT.out.c3
     obtain ⟨f0, f1, f2⟩ := HRT.out.f3
     go_simp
     clear k0 k1 k2 f0 f1 f2
     have HBE := below_s3 HBT.out HRW.out (.slice A1 G.objs.length c1) (.int .i64 G.cap) (.int .i64 G.last)
     have HX9 := ((HXT.out.far (p := ⟨bR, 0, none⟩) HNE.out (.slice A1 G.objs.length c1)).far (p := ⟨bR, 1, none⟩) HNE.out (.int .i64 G.cap)).far (p := ⟨bR, 2, none⟩) HNE.out (.int .i64 G.last)
     have HG9 := ((HGT.out.far (p := ⟨bR, 0, none⟩) HNR.out.symm (.slice A1 G.objs.length c1)).far (p := ⟨bR, 1, none⟩) HNR.out.symm (.int .i64 G.cap)).far (p := ⟨bR, 2, none⟩) HNR.out.symm (.int .i64 G.last)
     obtain ⟨v0, v1, v2⟩ := HX9.c3
     have v3 := (HBE.cell (p := ⟨ba, oa + 1, none⟩) HBA.out).trans HZ.out
     obtain ⟨v4, v5, v6⟩ := HG9.c3
     refine hK.out _ _ ?_ (fun hH2 => ?_)
     next =>
      exact ⟨v0, v1, v2, v3, v4, v5, v6⟩
     clear hK K
     try simp only [apt12]
     clear v0 v1 v2 v3 v4 v5 v6
     clear HX9 HG9
     refine tkJ 11 oYK1316 ?_
     refine tkJ 12 oYK1317 ?_
     refine wpAnyH_done (by kernel_rfl) ?_ _
     have HK := HRT.out.s3 (.slice A1 G.objs.length c1) (.int .i64 G.cap) (.int .i64 G.last)
     obtain ⟨r0, r1, r2⟩ := HK
     go_wp2_with fail
     refine bodyPost_ret (v := .tuple #[.agg #[.slice A1 G.objs.length c1, .int .i64 G.cap, .int .i64 G.last], .int .i64 b, .int .i64 0]) (by simp [results, Tryz.results43, go_sem, r0, r1, r2]) rfl ?_
     rw [HE.out]
     obtain ⟨ls, h1, h2⟩ := OWT.out (by first | trivial | rfl)
     exact ⟨HBE, .inr ⟨A1, c1, ls, rfl, h1, h2.s3_13 HRT.out _ _ _⟩⟩
    next =>
     have HE : Hid (r = fa13 h) := by show _ = _; rw [HE0.out, if_pos h0]
     obtain ⟨x0, x1, x2⟩ := HXV.out.c3
     have y1 := (HBV.out.cell (p := ⟨ba, oa + 1, none⟩) HBA.out).trans HZ.out
     obtain ⟨z0, z1, z2⟩ := HGV.out.c3
     go_upto_region 15 with fail
     refine wp_region_held_drew (S := (fun w' => w'.cell? ⟨w.heap.size, 0, none⟩ = some (.slice A h.objs.length c) ∧ w'.cell? ⟨w.heap.size, 1, none⟩ = some (.int .i64 h.cap) ∧ w'.cell? ⟨w.heap.size, 2, none⟩ = some (.int .i64 h.last) ∧ w'.cell? ⟨ba, oa + 1, none⟩ = some (.int .i64 b) ∧ w'.cell? ⟨bG, 0, none⟩ = some (.slice A1 G.objs.length c1) ∧ w'.cell? ⟨bG, 1, none⟩ = some (.int .i64 G.cap) ∧ w'.cell? ⟨bG, 2, none⟩ = some (.int .i64 G.last))) (by kernel_rfl) ?_ (fun hH0 => ?_)
     next =>
      exact ⟨dcJ x0, dcJ x1, dcJ x2, dcJ y1, dcJ z0, dcJ z1, dcJ z2⟩
     refine tkJ 0 oYK135 ?_
     refine tkJ 1 oYK136 ?_
     refine tkJ 2 oYK137 ?_
     refine tkJ 3 oYK138 ?_
     refine tkJ 4 oYK139 ?_
     refine tkJ 5 oYK1310 ?_
     refine rdJ 6 oYK1311 fun K hK => ?_
     go_simp
     go_at_call 79
     obtain ⟨we, hd⟩ : ∃ x, x = uv.drew := ⟨_, rfl⟩
     rw [← hd]
     have hbd : Below uv.heap.size uv we := by rw [hd]; exact (Below.refl _ _).drew
     refine (rtook_any13 h G en b A A1 c c1 we).mono ?_
     rintro e ut ⟨rfl, hb2⟩
     rw [if_neg h0]
     have hb := then_w hbd hb2
     have HBT := hid (then_w HBV.out hb)
     have HXT := hid (HXV.out.later hb)
     have HRT := hid (HRV.out.later hb)
     have HGT := hid (HGV.out.later hb)
     have OWT : Hid (en = 0 → ∃ ls, ls.map (·.o) = G.objs ∧ OwnH ut w.heap.size A1 c1 ls) := fun e => by
       obtain ⟨ls, h1, h2⟩ := OWV.out e
       exact ⟨ls, h1, h2.later hb⟩
     clear hd hbd hb hb2
     obtain ⟨v0, v1, v2⟩ := HXT.out.c3
     have v3 := (HBT.out.cell (p := ⟨ba, oa + 1, none⟩) HBA.out).trans HZ.out
     obtain ⟨v4, v5, v6⟩ := HGT.out.c3
     refine hK.out _ _ ?_ (fun hH1 => ?_)
     next =>
      exact ⟨v0, v1, v2, v3, v4, v5, v6⟩
     clear hK K
     try simp only [apt12]
     clear v0 v1 v2 v3 v4 v5 v6
     refine tkJ 7 oYK1312 ?_
     refine tkJ 8 oYK1313 ?_
     refine tkJ 9 oYK1314 ?_
     refine rdJ 10 oYK1315 fun K hK => ?_
     obtain ⟨k0, k1, k2⟩ := HRT.out.c3
     obtain ⟨f0, f1, f2⟩ := HRT.out.f3
     go_simp
     clear k0 k1 k2 f0 f1 f2
     have HBE := below_s3 HBT.out HRW.out (.slice A h.objs.length c) (.int .i64 h.cap) (.int .i64 h.last)
     have HX9 := ((HXT.out.far (p := ⟨bR, 0, none⟩) HNE.out (.slice A h.objs.length c)).far (p := ⟨bR, 1, none⟩) HNE.out (.int .i64 h.cap)).far (p := ⟨bR, 2, none⟩) HNE.out (.int .i64 h.last)
     have HG9 := ((HGT.out.far (p := ⟨bR, 0, none⟩) HNR.out.symm (.slice A h.objs.length c)).far (p := ⟨bR, 1, none⟩) HNR.out.symm (.int .i64 h.cap)).far (p := ⟨bR, 2, none⟩) HNR.out.symm (.int .i64 h.last)
     obtain ⟨v0, v1, v2⟩ := HX9.c3
     have v3 := (HBE.cell (p := ⟨ba, oa + 1, none⟩) HBA.out).trans HZ.out
     obtain ⟨v4, v5, v6⟩ := HG9.c3
     refine hK.out _ _ ?_ (fun hH2 => ?_)
     next =>
      exact ⟨v0, v1, v2, v3, v4, v5, v6⟩
     clear hK K
     try simp only [apt12]
     clear v0 v1 v2 v3 v4 v5 v6
     clear HX9 HG9
     refine tkJ 11 oYK1316 ?_
     refine tkJ 12 oYK1317 ?_
     refine wpAnyH_done (by kernel_rfl) ?_ _
     have HK := HRT.out.s3 (.slice A h.objs.length c) (.int .i64 h.cap) (.int .i64 h.last)
     obtain ⟨r0, r1, r2⟩ := HK
     go_wp2_with fail
     refine bodyPost_ret (v := .tuple #[.agg #[.slice A h.objs.length c, .int .i64 h.cap, .int .i64 h.last], .int .i64 0, .int .i64 130]) (by simp [results, Tryz.results43, go_sem, r0, r1, r2]) rfl ?_
     rw [HE.out]
     exact ⟨HBE, .inl ⟨rfl, rfl⟩⟩
end Go.Proofs.YtnilempeldlieaaGreat
namespace Go.Proofs.YtnilempeldlieaaGreat
open Go.RowKit Flt
set_option maxRecDepth 100000
theorem in_h13 (h : Hp) (n : Int) : (in13 h n).1 = h := by unfold in13; split <;> rfl
theorem pa_h13 (h : Hp) {num : Int} (s a b : Int) (hn : num = 8 ∨ num = 10 ∨ num = 25) : (pa13 h num s a b).1 = h := by
  unfold pa13
  rcases hn with rfl | rfl | rfl
  · rw [if_neg (by decide)]
    split
    · rfl
    · rw [if_pos rfl]; split <;> rfl
  · rw [if_pos rfl]
    split
    · rfl
    · exact in_h13 _ _
  · rw [if_neg (by decide)]
    split
    · rfl
    · rw [if_neg (by decide), if_neg (by decide), if_pos rfl]
      split
      · rfl
      · exact in_h13 _ _
theorem rparts_any13 (h : Hp) (num s : Int) (al : List Int) (SA : Option Addr) (da : Nat) (A : Option Addr) (c : Nat) (w : World) (hs : ObsR w A h.objs) (fit : h.Fit) (hm : mayB h = true) (hsa : IntsR w SA al) (hnum : num = 8 ∨ num = 9 ∨ num = 10 ∨ num = 25 ∨ num = 26) (har : ar13 num = some al.length) :
    Calls Tryz.prog 43 #[.agg #[.slice A h.objs.length c, .int .i64 h.cap, .int .i64 h.last], .int .i64 num, .int .i64 s, .slice SA al.length da] w (RsQ13 w.heap.size w h A c (pa13 h num s (al.getD 0 0) (al.getD 1 0))) := by
  have g0 : 0 < al.length → al[0]? = some (al.getD 0 0) := fun h0 => by rw [List.getD_eq_getElem?_getD, List.getElem?_eq_getElem h0]; rfl
  have g1 : 1 < al.length → al[1]? = some (al.getD 1 0) := fun h0 => by rw [List.getD_eq_getElem?_getD, List.getElem?_eq_getElem h0]; rfl
  rcases hnum with rfl | rfl | rfl | rfl | rfl
  · have hl : al.length = 1 := (Option.some.inj har).symm
    exact (rparts8_any13 h s _ (al.getD 1 0) al SA da A c w hs fit hsa hl (g0 (by omega))).mono fun _ _ p => p.q (pa_h13 h _ _ _ (.inl rfl))
  · have hl : al.length = 2 := (Option.some.inj har).symm
    exact (rparts9_any13 h s _ _ al SA da A c w hs fit hsa hl (g0 (by omega)) (g1 (by omega))).mono fun _ _ p => p.q (Nat.le_refl _)
  · exact (rparts10_any13 h s (al.getD 0 0) (al.getD 1 0) _ A c w hs hm).mono fun _ _ p => p.q (pa_h13 h _ _ _ (.inr (.inl rfl)))
  · have hl : al.length = 1 := (Option.some.inj har).symm
    exact (rparts25_any13 h s _ (al.getD 1 0) al SA da A c w hs fit hsa hl (g0 (by omega))).mono fun _ _ p => p.q (pa_h13 h _ _ _ (.inr (.inr rfl)))
  · have hl : al.length = 2 := (Option.some.inj har).symm
    exact rparts26_any13 h s _ _ al SA da A c w hs fit hsa hl (g0 (by omega)) (g1 (by omega))
end Go.Proofs.YtnilempeldlieaaGreat
namespace Go.Proofs.YtnilempeldlieaaGreat
open Go.RowKit
def swH (h : Hp) (v u : Int) : Hp := putO (putO h (atV v).toNat (obAt h u)) (atV u).toNat (obAt h v)
theorem swH_len (h : Hp) (v u : Int) : (swH h v u).objs.length = h.objs.length := by unfold swH; rw [putO_len, putO_len]
theorem be_ok {h : Hp} {v u : Int} (hm : mayB h = true) (hv : refB h.objs.length v = true) (hu : refB h.objs.length u = true) : beE h v u = 0 ∧ beR h v u = swH h v u := by
  have n1 : ¬ mayB h = false := by rw [hm]; decide
  have n2 : ¬ (refB h.objs.length v = false ∨ refB h.objs.length u = false) := by rw [hv, hu]; decide
  exact ⟨by unfold beE; rw [if_neg n1, if_neg n2], by unfold beR; rw [if_neg n1, if_neg n2]; rfl⟩
theorem sw_may {h : Hp} {v u : Int} (hm : mayB h = true) (hv : refB h.objs.length v = true) (hu : refB h.objs.length u = true) : mayB (swH h v u) = true := by
  unfold swH
  refine putO_may (putO_may hm (may_all hm _ (ob_mem hu))) ?_
  rw [putO_len]
  exact may_all hm _ (ob_mem hv)
theorem refI_no {n : Nat} {v : Int} (h : refB n v = false) : refI n v = -1 := by unfold refI; rw [if_neg (by rw [h]; decide)]
end Go.Proofs.YtnilempeldlieaaGreat
