/- An object more, put behind all others by a primitive. A new float; a number as a float. -/
import Derived.Test.YtnilempeldlieaaGreatJ04
import Derived.Test.YtnilempeldlieaaGreatJPE13
namespace Go.Proofs.YtnilempeldlieaaGreat
abbrev oPG130 : Oper := ⟨some 17, .indexAddr 22 (.tmp 13) (.tmp 15), 0, "prim.go:241", #[⟨4, .data⟩, ⟨6, .data⟩, ⟨0, .phase⟩, ⟨1, .phase⟩, ⟨2, .phase⟩, ⟨3, .phase⟩, ⟨4, .phase⟩, ⟨5, .phase⟩, ⟨6, .phase⟩, ⟨7, .phase⟩], none⟩
abbrev oPG131 : Oper := ⟨some 18, .fieldAddr 41 (.tmp 17) 4, 0, "prim.go:241", #[⟨8, .data⟩, ⟨0, .phase⟩, ⟨1, .phase⟩, ⟨2, .phase⟩, ⟨3, .phase⟩, ⟨4, .phase⟩, ⟨5, .phase⟩, ⟨6, .phase⟩, ⟨7, .phase⟩], none⟩
abbrev oPG132 : Oper := ⟨none, .store 3 (.tmp 18) (.tmp 16), 0, "prim.go:241", #[⟨9, .data⟩, ⟨7, .data⟩, ⟨6, .chain⟩, ⟨0, .phase⟩, ⟨1, .phase⟩, ⟨2, .phase⟩, ⟨3, .phase⟩, ⟨4, .phase⟩, ⟨5, .phase⟩, ⟨6, .phase⟩, ⟨7, .phase⟩], none⟩
open Go.RowKit Flt
set_option maxRecDepth 100000
theorem Pr13.lower {w : World} {b base B : Nat} {s : Int} {n : Nat} {SA : Option Addr} {da : Nat} {r : Rs} {e : Ending} {w' : World} (p : Pr13 w b base s n SA da r e w') (hB : B ≤ base) : Pr13 w b B s n SA da r e w' := by
  obtain ⟨h1, h2, h3⟩ := p
  refine ⟨h1, h2, fun h => ?_⟩
  obtain ⟨e1, A, c, k1, k2⟩ := h3 h
  exact ⟨e1, A, c, k1, k2.lower hB⟩
theorem al_ok13 {h : Hp} {cl kind size : Int} (e : roE h cl kind size = 0) : al13 h cl kind size = (alR h cl kind size, alV h cl kind size, 0) := if_pos e
theorem al_no13 {h : Hp} {cl kind size : Int} (e : roE h cl kind size ≠ 0) : al13 h cl kind size = (h, 0, go13 (roE h cl kind size)) := by
  unfold al13 go13
  rw [if_neg e, if_neg e]
  split <;> rfl
theorem go_ne13 {en : Int} (h : en ≠ 0) : go13 en ≠ 0 := by
  unfold go13
  rw [if_neg h]
  split <;> decide
set_option maxHeartbeats 1000000 in
theorem palloc_any13 (b base : Nat) (h : Hp) (A : Option Addr) (c : Nat) (s : Int) (args : List Int) (SA : Option Addr) (da : Nat) (w : World) (I : In13 w b base h A c s args SA da) (cl kind size : Int) :
    Calls Tryz.prog 187 #[.pointer (some ⟨b, 0, none⟩), .int .i64 cl, .int .i64 kind, .int .i64 size] w (Pr13 w b w.heap.size s args.length SA da (al13 h cl kind size)) := by
  obtain ⟨x0, x1, x2, x3, x4⟩ := I.box.c5
  have HI := hid I
  obtain ⟨g, hg⟩ : ∃ g, g = alR h cl kind size := ⟨_, rfl⟩
  obtain ⟨v, hv⟩ : ∃ g, g = alV h cl kind size := ⟨_, rfl⟩
  obtain ⟨en, he⟩ : ∃ g, g = roE h cl kind size := ⟨_, rfl⟩
  have HG := hid hg
  have HV := hid hv
  have HE := hid he
  clear I hg hv he
  go_enter Tryz.func187, Tryz.ntmps187
  go_wp2_with fail
  refine (alloc_any h cl kind size A c _ HI.out.own.obs HI.out.fit).mono ?_
  rintro e w1 ⟨A1, c1, l1, rfl, hm1, ho1, hb⟩
  rw [← HG.out] at hm1
  rw [← HG.out, ← HV.out, ← HE.out]
  have HB1 := hid hb
  have HO1 : Hid (Fr13 w1 w.heap.size A1 c1 g.objs) := hid ⟨l1, ho1, hm1⟩
  have HX1 : Hid (CL13 w1 b h A c s args.length SA da) := hid (HI.out.box.later hb)
  clear hm1 ho1 hb x0 x1 x2 x3 x4
  go_upto_region 2 with fail
  obtain ⟨w2, hw⟩ : ∃ x, x = w1.alloc (.cells #[Value.slice A1 g.objs.length c1, Value.int .i64 g.cap, Value.int .i64 g.last] 24) := ⟨_, rfl⟩
  obtain ⟨bg, hbx⟩ : ∃ x, x = w1.heap.size := ⟨_, rfl⟩
  have G2 : Hid (Lies w2 bg 24 #[Value.slice A1 g.objs.length c1, Value.int .i64 g.cap, Value.int .i64 g.last]) := by show Lies _ _ _ _; rw [hw, hbx]; exact Lies.new _ _ _
  have hb : Below w1.heap.size w1 w2 := by rw [hw]; exact below_alloc _ _
  rw [← hw, ← hbx]
  clear hw hbx
  have HB2 := hid (then_w HB1.out hb)
  have HO2 := hid (HO1.out.later hb)
  have HX2 : Hid (CL13 w2 b h A c s args.length SA da) := hid (HX1.out.later hb)
  clear hb HB1 HO1 HX1
  obtain ⟨g0, g1, g2⟩ := G2.out.c3
  by_cases h0 : en = 0
  next =>
   subst h0
   go_wp2_with fail
   refine (change_ok13 b w.heap.size g A1 c1 _ HX2.out HO2.out).mono ?_
   rintro e w3 ⟨rfl, k1, k2, k3⟩
   have K1 := hid k1
   have K2 := hid k2
   have K3 := hid ((onl_below13 (g := b) HB2.out).trans k3)
   clear k1 k2 k3 g0 g1 g2
   go_wp2_with fail
   go_ret
   rw [al_ok13 HE.out.symm, ← HG.out, ← HV.out]
   exact ⟨K3.out, fun h => absurd rfl h, fun _ => ⟨rfl, A1, c1, K1.out, K2.out⟩⟩
  next =>
   go_wp2_with fail
   refine (change_no13 b g A1 c1 h0 _).mono ?_
   rintro e w3 ⟨rfl, hb⟩
   exact ⟨rfl, pr_stopA13 (then_w HB2.out hb) (by rw [al_no13 (by rw [← HE.out]; exact h0), ← HE.out]) (go_ne13 h0)⟩
theorem rowOf_bits (ls : List LO) (k : Nat) (l : LO) (x : Int) (hk : ls[k]? = some l) : rowOf (ls.set k ⟨{ l.o with bits := x }, l.S, l.c⟩) = (rowOf ls).set (k * 6 + 4) (.int .i64 x) := by
  have hkl : k < ls.length := (List.getElem?_eq_some_iff.1 hk).1
  apply List.ext_getElem?
  intro j
  rw [rowOf_upd ls k _ hkl, List.getElem?_set, rowOf_length]
  by_cases e : j / 6 = k
  next =>
   rw [if_pos e]
   have h0 := rowOf_get ls k (j % 6) l hk (by omega)
   rw [show k * 6 + j % 6 = j by omega] at h0
   by_cases h3 : k * 6 + 4 = j
   next =>
    rw [if_pos h3, if_pos (by omega), show j % 6 = 4 by omega]; rfl
   next =>
    rw [if_neg h3, h0]
    have hr : j % 6 = 0 ∨ j % 6 = 1 ∨ j % 6 = 2 ∨ j % 6 = 3 ∨ j % 6 = 5 := by omega
    rcases hr with r | r | r | r | r <;> rw [r] <;> rfl
  next =>
   rw [if_neg e, if_neg (by omega)]
theorem OwnH.bits {w : World} {base g c : Nat} {ls : List LO} (h : OwnH w base (some ⟨g, 0, none⟩) c ls) {i : Nat} {x : Int} {l : LO} (hl : ls[i]? = some l) :
    OwnH (w.setCell ⟨g, i * 6 + 4, none⟩ (.int .i64 x)) base (some ⟨g, 0, none⟩) c (ls.set i ⟨{ l.o with bits := x }, l.S, l.c⟩) := by
  obtain ⟨cur, hB, _, _, _⟩ := own_blk h.row
  refine ⟨?_, fun k m hm => ?_, fun k k' lk lk' a b hk hk' hlt ha hb => ?_⟩
  next =>
   rw [rowOf_bits ls i l x hl, List.length_set]
   exact (h.row.stored _ _).1
  next =>
   rcases set_get hm with ⟨rfl, rfl⟩ | ⟨hne, hm⟩
   next =>
    exact ownsRow_setCell_other (h.ints _ l hl) (own_blk_ne (h.ints _ l hl) hB (by decide)) _
   next =>
    exact ownsRow_setCell_other (h.ints k m hm) (own_blk_ne (h.ints k m hm) hB (by decide)) _
  next =>
   rcases set_get hk with ⟨rfl, rfl⟩ | ⟨hne, hk⟩ <;> rcases set_get hk' with ⟨rfl, rfl⟩ | ⟨hne', hk'⟩
   next =>
    omega
   next =>
    exact h.apart _ _ l lk' a b hl hk' hlt ha hb
   next =>
    exact h.apart _ _ lk l a b hk hl hlt ha hb
   next =>
    exact h.apart _ _ lk lk' a b hk hk' hlt ha hb
end Go.Proofs.YtnilempeldlieaaGreat
namespace Go.Proofs.YtnilempeldlieaaGreat
open Go.RowKit Flt
set_option maxRecDepth 100000
theorem at_new13 {n : Nat} (h : n < 256) : atB (2 * (n : Int)) = true ∧ atV (2 * (n : Int)) = n := by
  have a : atB (2 * (n : Int)) = true := by
    unfold atB odB nuB
    have e : (2 * (n : Int)) / 2 = n := by omega
    rw [e]
    simp
    omega
  exact ⟨a, by unfold atV; rw [if_pos a]; omega⟩
theorem nf_no13 {h : Hp} {bits : Int} (e : roE h 8 2 0 ≠ 0) : nf13 h bits = (h, 0, go13 (roE h 8 2 0)) := by
  unfold nf13 go13
  rw [if_neg e, if_neg e]
  split <;> rfl
set_option maxHeartbeats 1000000 in
theorem newfloat_any13 (b base : Nat) (h : Hp) (A : Option Addr) (c : Nat) (s : Int) (args : List Int) (SA : Option Addr) (da : Nat) (w : World) (I : In13 w b base h A c s args SA da) (bits : Int) :
    Calls Tryz.prog 193 #[.pointer (some ⟨b, 0, none⟩), .int .i64 bits] w (Pr13 w b w.heap.size s args.length SA da (nf13 h bits)) := by
  have HI := hid I
  have e8 : reV 4 = 8 := by decide
  have HR := hid (ref_any13 4)
  rw [e8] at HR
  have HL : Hid (h.objs.length ≤ 256) := hid (may_len I.may)
  clear I e8
  go_enter Tryz.func193, Tryz.ntmps193
  go_wp2_with (go_at_call 210; refine (HR.out _).mono ?_; rintro e w' ⟨rfl, rfl⟩)
  refine (palloc_any13 b base h A c s args SA da _ HI.out 8 2 0).mono ?_
  rintro e w1 ⟨k1, k2, k3⟩
  by_cases h0 : roE h 8 2 0 = 0
  next =>
   rw [al_ok13 h0] at k2 k3
   obtain ⟨rfl, A1, c1, hcl, ls, ho, hm⟩ := k3 rfl
   have eg : alR h 8 2 0 = alH h 8 2 0 := if_pos h0
   have ev : alV h 8 2 0 = 2 * (h.objs.length : Int) := if_pos h0
   have hcap : (h.objs.length : Int) < h.cap := (ro_ok h0).2.2.2.2.2.2
   have hc256 : h.objs.length < 256 := by
     have hmm := HI.out.may
     unfold mayB at hmm
     simp only [Bool.and_eq_true, decide_eq_true_eq] at hmm
     omega
   rw [eg] at hcl hm
   dsimp only
   rw [ev]
   obtain ⟨a1, a2⟩ := at_new13 hc256
   have hlen : ls.length = h.objs.length + 1 := by have := congrArg List.length hm; simpa [alH] using this
   obtain ⟨g, cg, hvv, hg0, hg1⟩ := ho.row.form (by omega)
   simp only [Value.slice.injEq, true_and] at hvv
   obtain ⟨rfl, rfl⟩ := hvv
   have hin : h.objs.length < ls.length := by omega
   obtain ⟨l0, hli⟩ : ∃ l, ls[h.objs.length]? = some l := ⟨_, List.getElem?_eq_getElem hin⟩
   have hlo : l0.o = newO h 8 2 0 := by
     have := congrArg (fun t => t[h.objs.length]?) hm
     simp only [List.getElem?_map, hli, Option.map_some] at this
     rw [show (alH h 8 2 0).objs[h.objs.length]? = some (newO h 8 2 0) by simp [alH]] at this
     exact Option.some.inj this
   have q4 := (ho.row.cellAt (h.objs.length * 6 + 4) (by omega)).trans (rowOf_get ls h.objs.length 4 _ hli (by omega))
   simp only [LO.cells, List.getElem?_cons_zero, List.getElem?_cons_succ] at q4
   have f4 := ho.row.frozenAt (h.objs.length * 6 + 4)
   obtain ⟨cur, hB, -, -, -⟩ := own_blk ho.row
   have hne : b ≠ g := lies_ne hcl hB (by decide)
   have hgl : (alH h 8 2 0).objs.length = h.objs.length + 1 := by simp [alH]
   have HO := hid (ho.bits (x := bits) hli)
   have HMM : Hid ((ls.set h.objs.length ⟨{ l0.o with bits := bits }, l0.S, l0.c⟩).map (·.o) = (nfH13 h bits).objs) := by
     show _ = _
     rw [List.map_set, hm, hlo]
     show (alH h 8 2 0).objs.set h.objs.length _ = _
     unfold alH nfH13
     simp only
     rw [List.set_append, if_neg (Nat.lt_irrefl _), Nat.sub_self]
     rfl
   have HLS := hid hlen
   have HN := hid hne
   have HA2 := hid a2
   have HG := hid hg1
   have HGL := hid hgl
   have HCL : Hid (CL13 w1 b (alH h 8 2 0) (some ⟨g, 0, none⟩) c1 s args.length SA da) := hid hcl
   have HK1 := hid k1
   have H0 := hid h0
   have HC256 := hid hc256
   have HGW : Hid (w.heap.size ≤ g) := hid hg0
   have hiI : (h.objs.length : Int) < (h.objs.length : Int) + 1 := by omega
   clear k1 k2 k3 hm ho hB eg ev hcap hc256 hlo hli hlen hin hgl hne a2 hg1 h0 hg0
   go_upto_region 2 with fail
   refine wp_region_held_drew (S := (fun _ => True)) (by kernel_rfl) ?_ (fun hH0 => ?_)
   next =>
    exact trivial
   refine tkJ 0 ⟨some 9, .move (.tmp 0), 86, "prim.go:241", #[], none⟩ ?_
   refine tkJ 1 ⟨some 10, .nilCheck (.tmp 9), 0, "prim.go:241", #[⟨0, .data⟩], none⟩ ?_
   refine tkJ 2 ⟨some 11, .fieldAddr 62 (.tmp 10) 0, 0, "prim.go:241", #[⟨1, .data⟩], none⟩ ?_
   refine tkJ 3 ⟨some 12, .fieldAddr 24 (.tmp 11) 0, 0, "prim.go:241", #[⟨2, .data⟩], none⟩ ?_
   refine tkJ 5 ⟨some 14, .move (.tmp 5), 3, "prim.go:241", #[], none⟩ ?_
   refine tkJ 7 ⟨some 16, .move (.tmp 1), 3, "prim.go:241", #[], none⟩ ?_
   refine wpAnyH_ready (rs := [4, 6]) (by kernel_rfl) (by simp) ?_
   refine AllReadyH.cons (i := 4) (o := ⟨some 13, .load 22 (.tmp 12), 22, "prim.go:241", #[⟨3, .data⟩], none⟩) rfl (fun K hK => ?_) (AllReadyH.cons (i := 6) (o := ⟨some 15, .call { callee := .value (.func 190), args := #[.tmp 14], argTypes := #[3] }, 3, "prim.go:241", #[⟨5, .data⟩], none⟩) rfl (fun K hK => ?_) AllReadyH.nil)
   next =>
    obtain ⟨x0, x1, x2, x3, x4⟩ := HCL.out.c5
    have z0 := dcJ x0
    rw [HGL.out] at z0
    go_simp
    rw [← HGL.out] at z0
    refine hK.out _ _ ?_ (fun hH1 => ?_)
    next =>
     trivial
    clear hK K
    try simp only [apt12]
    clear z0 x0 x1 x2 x3 x4
    refine rdJ 6 ⟨some 15, .call { callee := .value (.func 190), args := #[.tmp 14], argTypes := #[3] }, 3, "prim.go:241", #[⟨5, .data⟩], none⟩ fun K hK => ?_
    go_simp
    go_at_call 190
    refine (at_ok13 a1 _).mono ?_
    rintro e u1 ⟨rfl, rfl⟩
    rw [HA2.out]
    refine hK.out _ _ ?_ (fun hH2 => ?_)
    next =>
     trivial
    clear hK K
    try simp only [apt12]
    refine tkJ 8 oPG130 ?_
    refine tkJ 9 oPG131 ?_
    refine rdJ 10 oPG132 fun K hK => ?_
    have q5 := q4
    have f5 := f4
    go_simp
    refine hK.out _ _ ?_ (fun hH3 => ?_)
    next =>
     trivial
    clear hK K
    try simp only [apt12]
    clear q5 f5
    refine wpAnyH_done (by kernel_rfl) ?_ _
    obtain ⟨V, hV⟩ : ∃ V, V = w1.setCell ⟨g, h.objs.length * 6 + 4, none⟩ (.int .i64 bits) := ⟨_, rfl⟩
    rw [← hV]
    have KO := HO.out
    rw [← hV] at KO
    have KC : CL13 V b (alH h 8 2 0) (some ⟨g, 0, none⟩) c1 s args.length SA da := by rw [hV]; exact HCL.out.far HN.out _
    have KN : Onl13 b w V := by rw [hV]; exact HK1.out.andThen (row' := some g) (onl_set13 w1 g _ _) (fun j hj => by injection hj with hj; exact .inl (by rw [← hj]; exact HGW.out))
    have K1 := hid KO
    have K2 := hid KC
    have K3 := hid KN
    clear KO KC KN hV q4 f4
    go_wp2_with fail
    go_ret
    refine ⟨K3.out.trans (onl_below13 (Below.refl _ _).drew), fun hh => ?_, fun _ => ?_⟩
    next =>
     exact absurd (by unfold nf13; rw [if_pos H0.out]) hh
    next =>
     unfold nf13
     rw [if_pos H0.out]
     refine ⟨rfl, some ⟨g, 0, none⟩, c1, ?_, ⟨_, K1.out.later (Below.refl _ _).drew, HMM.out⟩⟩
     have K4 := K2.out.later (Below.refl _ _).drew
     have e : (nfH13 h bits).objs.length = (alH h 8 2 0).objs.length := by simp [nfH13, alH]
     show Lies _ _ _ _
     rw [e]
     exact K4
   next =>
    go_simp
    go_at_call 190
    refine (at_ok13 a1 _).mono ?_
    rintro e u1 ⟨rfl, rfl⟩
    rw [HA2.out]
    refine hK.out _ _ ?_ (fun hH1 => ?_)
    next =>
     trivial
    clear hK K
    try simp only [apt12]
    refine rdJ 4 ⟨some 13, .load 22 (.tmp 12), 22, "prim.go:241", #[⟨3, .data⟩], none⟩ fun K hK => ?_
    obtain ⟨x0, x1, x2, x3, x4⟩ := HCL.out.c5
    have z0 := dcJ x0
    rw [HGL.out] at z0
    go_simp
    rw [← HGL.out] at z0
    refine hK.out _ _ ?_ (fun hH2 => ?_)
    next =>
     trivial
    clear hK K
    try simp only [apt12]
    clear z0 x0 x1 x2 x3 x4
    refine tkJ 8 oPG130 ?_
    refine tkJ 9 oPG131 ?_
    refine rdJ 10 oPG132 fun K hK => ?_
    have q5 := q4
    have f5 := f4
    go_simp
    refine hK.out _ _ ?_ (fun hH3 => ?_)
    next =>
     trivial
    clear hK K
    try simp only [apt12]
    clear q5 f5
    refine wpAnyH_done (by kernel_rfl) ?_ _
    obtain ⟨V, hV⟩ : ∃ V, V = w1.setCell ⟨g, h.objs.length * 6 + 4, none⟩ (.int .i64 bits) := ⟨_, rfl⟩
    rw [← hV]
    have KO := HO.out
    rw [← hV] at KO
    have KC : CL13 V b (alH h 8 2 0) (some ⟨g, 0, none⟩) c1 s args.length SA da := by rw [hV]; exact HCL.out.far HN.out _
    have KN : Onl13 b w V := by rw [hV]; exact HK1.out.andThen (row' := some g) (onl_set13 w1 g _ _) (fun j hj => by injection hj with hj; exact .inl (by rw [← hj]; exact HGW.out))
    have K1 := hid KO
    have K2 := hid KC
    have K3 := hid KN
    clear KO KC KN hV q4 f4
    go_wp2_with fail
    go_ret
    refine ⟨K3.out.trans (onl_below13 (Below.refl _ _).drew), fun hh => ?_, fun _ => ?_⟩
    next =>
     exact absurd (by unfold nf13; rw [if_pos H0.out]) hh
    next =>
     unfold nf13
     rw [if_pos H0.out]
     refine ⟨rfl, some ⟨g, 0, none⟩, c1, ?_, ⟨_, K1.out.later (Below.refl _ _).drew, HMM.out⟩⟩
     have K4 := K2.out.later (Below.refl _ _).drew
     have e : (nfH13 h bits).objs.length = (alH h 8 2 0).objs.length := by simp [nfH13, alH]
     show Lies _ _ _ _
     rw [e]
     exact K4
  next =>
   rw [al_no13 h0] at k2
   obtain rfl := k2 (go_ne13 h0)
   refine ⟨rfl, k1, fun _ => by rw [nf_no13 h0], fun hh => ?_⟩
   rw [nf_no13 h0] at hh
   exact absurd hh (go_ne13 h0)
theorem fl_num13 {h : Hp} {v : Int} (e : nB v = true) : fl13 h v = some (fOf (nV v)) := if_pos e
theorem fl_ref13 {h : Hp} {v : Int} (e : nB v = false) : fl13 h v = if (obAt h v).kind = 2 then some (obAt h v).bits else none := if_neg (by rw [e]; decide)
theorem has_ref13 {n : Nat} {v : Int} (h : hasB n v = true) (e : nB v = false) : refB n v = true := by
  unfold hasB at h
  rw [e, Bool.false_or] at h
  exact h
set_option maxHeartbeats 1000000 in
theorem fltd_any13 (b base : Nat) (h : Hp) (A : Option Addr) (c : Nat) (s : Int) (args : List Int) (SA : Option Addr) (da : Nat) (w : World) (I : In13 w b base h A c s args SA da) {v : Int} (hv : hasB h.objs.length v = true) :
    Calls Tryz.prog 195 #[.pointer (some ⟨b, 0, none⟩), .int .i64 v] w fun e w' =>
      Below w.heap.size w w' ∧ (fl13 h v = none → e = .panicked (stop13 130)) ∧ ∀ x, fl13 h v = some x → e = .returned (.int .i64 x) := by
  have HI := hid I
  have HV := hid hv
  clear I hv
  cases hn : nB v
  next =>
   have HR := hid (has_ref13 HV.out hn)
   have HF := hid (fl_ref13 (h := h) hn)
   have HO := hid (object_ok13 b base h A c s args SA da w HI.out HR.out)
   obtain ⟨ob, hob⟩ : ∃ o, o = obAt h v := ⟨_, rfl⟩
   rw [← hob] at HF HO
   clear hob
   go_enter Tryz.func195, Tryz.ntmps195
   go_wp2_with (go_at_call 164; refine (n_any _ _).mono ?_; rintro e w' ⟨rfl, rfl⟩)
   refine HO.out.mono ?_
   rintro e w1 ⟨⟨S, d, rfl⟩, hb⟩
   go_upto_region 5 with fail
   obtain ⟨w2, hw⟩ : ∃ x, x = w1.alloc (.cells #[.int .i64 ob.cls, .int .i64 ob.kind, .slice S ob.slots.length d, .string ob.text, .int .i64 ob.bits, .int .i64 ob.hash] 41) := ⟨_, rfl⟩
   obtain ⟨bg, hbx⟩ : ∃ x, x = w1.heap.size := ⟨_, rfl⟩
   have G2 : Hid (Lies w2 bg 41 #[.int .i64 ob.cls, .int .i64 ob.kind, .slice S ob.slots.length d, .string ob.text, .int .i64 ob.bits, .int .i64 ob.hash]) := by show Lies _ _ _ _; rw [hw, hbx]; exact Lies.new _ _ _
   have hb2 : Below w1.heap.size w1 w2 := by rw [hw]; exact below_alloc _ _
   rw [← hw, ← hbx]
   have HB := hid (then_w hb hb2)
   clear hw hbx hb hb2
   obtain ⟨g0, g1, g2, g3, g4, g5⟩ := G2.out.c6
   by_cases hk : ob.kind = 2
   next =>
    have HF2 : Hid (fl13 h v = some ob.bits) := by show _ = _; rw [HF.out, if_pos hk]
    go_wp2_with fail
    go_ret
    refine And.intro HB.out (And.intro (fun hh => ?_) (fun x hx => ?_))
    next =>
     rw [HF2.out] at hh; cases hh
    rw [HF2.out] at hx
    injection hx with hx
    rw [← hx]
    rfl
   next =>
    have HF2 : Hid (fl13 h v = none) := by show _ = _; rw [HF.out, if_neg hk]
    go_wp2_with (go_at_call 74; refine (fail_any13 _).mono ?_; rintro e w9 ⟨rfl, rfl⟩)
    refine ⟨rfl, And.intro HB.out (And.intro (fun _ => rfl) (fun x hx => ?_))⟩
    rw [HF2.out] at hx; cases hx
  next =>
   have HF := hid (fl_num13 (h := h) hn)
   go_enter Tryz.func195, Tryz.ntmps195
   go_wp2_with (first | (go_at_call 164; refine (n_any _ _).mono ?_; rintro e w' ⟨rfl, rfl⟩) | (go_at_call 219; refine (fof_any _ _).mono ?_; rintro e w' ⟨rfl, rfl⟩))
   go_ret
   refine And.intro (Below.refl _ _) (And.intro (fun hh => ?_) (fun x hx => ?_))
   next =>
    rw [HF.out] at hh; cases hh
   rw [HF.out] at hx
   injection hx with hx
   rw [← hx]
   rfl
end Go.Proofs.YtnilempeldlieaaGreat
