/- Two heaps that are the same but for what does not count of a context. -/
import Derived.Test.YtalfbdigjaibkaaGreatUX12
import Derived.Test.YtalfbdigjaibkaaGreatRSO12
import Derived.Test.YtalfbdigjaibkaaGreatS
namespace Go.Proofs.YtalfbdigjaibkaaGreat
open Go.RowKit
set_option maxRecDepth 100000
/-- rows of the call's own, or older ones -/
def Fr12 (w wr : World) (A : Option Addr) (c : Nat) (os : List Ob) : Prop := (ObsR w A os ∧ Below w.heap.size w wr) ∨ ∃ b ls, OwnH wr b A c ls ∧ ls.map (·.o) = os
theorem Fr12.obs {w wr : World} {A : Option Addr} {c : Nat} {os : List Ob} (f : Fr12 w wr A c os) : ObsR wr A os := by
  rcases f with ⟨h, hb⟩ | ⟨b, ls, h, e⟩
  · exact h.below hb
  · exact own_obs h e
theorem Fr12.later {w wr w' : World} {A : Option Addr} {c : Nat} {os : List Ob} (f : Fr12 w wr A c os) (hb : Below wr.heap.size wr w') : Fr12 w w' A c os := by
  rcases f with ⟨h, h2⟩ | ⟨b, ls, h, e⟩
  · exact .inl ⟨h, then_w h2 hb⟩
  · exact .inr ⟨b, ls, h.later hb, e⟩
theorem Fr12.s3 {w wr : World} {A : Option Addr} {c : Nat} {os : List Ob} (f : Fr12 w wr A c os) {g : Nat} {a0 b0 c0 : Value} (hg : w.heap.size ≤ g) (L : Lies wr g 24 #[a0, b0, c0]) (x y z : Value) :
    Fr12 w (((wr.setCell ⟨g, 0, none⟩ x).setCell ⟨g, 1, none⟩ y).setCell ⟨g, 2, none⟩ z) A c os := by
  rcases f with ⟨h, h2⟩ | ⟨b, ls, h, e⟩
  · exact .inl ⟨h, below_s3 h2 hg x y z⟩
  · exact .inr ⟨b, ls, ((h.off L 0 x).off (L.set_ 0 x) 1 y).off ((L.set_ 0 x).set_ 1 y) 2 z, e⟩
set_option maxHeartbeats 4000000 in
theorem clean_any12 (h : Hp) (cx : Int) (L0 : List Int) (k0 : Nat) (A2 : Option Addr) (c2 : Nat) (A : Option Addr) (c : Nat) (w : World) (hm : may12 h cx = true) (hcl : Cl12 h cx k0 L0) (hk : (k0 : Int) = 6 + sp12 h cx) (hs2 : ObsR w A2 (pt12 h cx L0).objs) (hs : ObsR w A h.objs) :
    Calls Tryz.prog 32 #[.agg #[.slice A2 (pt12 h cx L0).objs.length c2, .int .i64 (pt12 h cx L0).cap, .int .i64 (pt12 h cx L0).last], .agg #[.slice A h.objs.length c, .int .i64 h.cap, .int .i64 h.last], .int .i64 cx] w fun e w' => e = .returned (.bool true) ∧ Below w.heap.size w w' := by
  have HK := hid hk
  have HC := hid hcl
  have HM := hid hm
  have HSP := hid (temps_sp12 hm)
  obtain ⟨q1, q2⟩ := cl_may12 hm hcl (by have := temps_sp12 hm; omega)
  have Q1 := hid q1
  have Q2 := hid q2
  have H22 := hid (ctx_len12 hm)
  obtain ⟨g0, hg0⟩ : ∃ g, g = pt12 h cx L0 := ⟨_, rfl⟩
  rw [← hg0] at hs2 q1 Q1 Q2 ⊢
  have HG0 := hid hg0
  have HS2 := hid hs2
  clear hg0 hk hcl hm q1 q2 hs2
  obtain ⟨w0, hw0⟩ : ∃ w0, w0 = (w.alloc (.cells #[.slice A2 g0.objs.length c2, .int .i64 g0.cap, .int .i64 g0.last] 24)).alloc (.cells #[Value.slice A h.objs.length c, Value.int .i64 h.cap, Value.int .i64 h.last] 24) := ⟨_, rfl⟩
  have HB0 : Hid (Below w.heap.size w w0) := by show Below _ _ _; rw [hw0]; exact below_alloc2 w _ _
  have HY0 : Hid (Lies w0 w.heap.size 24 #[.slice A2 g0.objs.length c2, .int .i64 g0.cap, .int .i64 g0.last]) := by show Lies _ _ _ _; rw [hw0]; exact ((Lies.new w _ _).alloc _)
  have HX0 : Hid (Lies w0 (w.heap.size + 1) 24 #[Value.slice A h.objs.length c, Value.int .i64 h.cap, Value.int .i64 h.last]) := by
    show Lies _ _ _ _
    have := Lies.new (w.alloc (.cells #[.slice A2 g0.objs.length c2, .int .i64 g0.cap, .int .i64 g0.last] 24)) 24 #[Value.slice A h.objs.length c, Value.int .i64 h.cap, Value.int .i64 h.last]
    rw [hw0]
    simpa [Hid] using this
  have HS := hid hs
  clear hs
  go_enter Tryz.func32, Tryz.ntmps32
  go_upto_region 1 with fail
  rw [← hw0]
  clear hw0
  obtain ⟨y0, y1, y2⟩ := HY0.out.c3
  obtain ⟨x0, x1, x2⟩ := HX0.out.c3
  go_cut [7, 8] from 11 to 17 (fun p q wx => ∃ Sa da Sb db, p = .slice Sa 22 da ∧ q = .slice Sb 22 db ∧ Hid (IntsR wx Sb (sls12 h cx)) ∧ Hid (Below w0.heap.size w0 wx))
  case first =>
    refine wp_region_held_drew (S := (fun w' => w'.cell? ⟨w.heap.size, 0, none⟩ = some (.slice A2 g0.objs.length c2) ∧ w'.cell? ⟨w.heap.size, 1, none⟩ = some (.int .i64 g0.cap) ∧ w'.cell? ⟨w.heap.size, 2, none⟩ = some (.int .i64 g0.last) ∧ w'.cell? ⟨(w.heap.size + 1), 0, none⟩ = some (.slice A h.objs.length c) ∧ w'.cell? ⟨(w.heap.size + 1), 1, none⟩ = some (.int .i64 h.cap) ∧ w'.cell? ⟨(w.heap.size + 1), 2, none⟩ = some (.int .i64 h.last) ∧ Below w0.heap.size w0 w')) (by kernel_rfl) ?_ (fun hH0 => ?_)
    · exact ⟨cell_later (Below.refl w0.heap.size w0).drew y0, cell_later (Below.refl w0.heap.size w0).drew y1, cell_later (Below.refl w0.heap.size w0).drew y2, cell_later (Below.refl w0.heap.size w0).drew x0, cell_later (Below.refl w0.heap.size w0).drew x1, cell_later (Below.refl w0.heap.size w0).drew x2, (Below.refl _ _).drew⟩
    refine tkI 0 ⟨some 11, .load 24 (.tmp 3), 24, "law.go:127", #[], none⟩ ?v1 rfl (by kernel_rfl) (by rfl) ?y1 ?_
    case y1 => intro w hSw; (try dsimp only at hSw); go_simp; all_goals with_reducible rfl
    try simp only [apt12]
    refine tkI 1 ⟨some 12, .move (.tmp 2), 3, "law.go:127", #[], none⟩ ?v2 rfl (by kernel_rfl) (by rfl) ?y2 ?_
    case y2 => intro w hSw; (try dsimp only at hSw); go_simp; all_goals with_reducible rfl
    try simp only [apt12]
    refine tkI 3 ⟨some 14, .load 24 (.tmp 4), 24, "law.go:127", #[], none⟩ ?v3 rfl (by kernel_rfl) (by rfl) ?y3 ?_
    case y3 => intro w hSw; (try dsimp only at hSw); go_simp; all_goals with_reducible rfl
    try simp only [apt12]
    refine tkI 4 ⟨some 15, .move (.tmp 2), 3, "law.go:127", #[], none⟩ ?v4 rfl (by kernel_rfl) (by rfl) ?y4 ?_
    case y4 => intro w hSw; (try dsimp only at hSw); go_simp; all_goals with_reducible rfl
    try simp only [apt12]
    refine wpAnyH_ready (rs := [2]) (by kernel_rfl) (by simp) ?_
    refine AllReadyH.cons (i := 2) (o := ⟨some 13, .call { callee := .value (.func 31), args := #[.tmp 11, .tmp 12], argTypes := #[24, 3] }, 30, "law.go:127", #[⟨0, .data⟩, ⟨1, .data⟩], none⟩) rfl (fun K hK => ?_) AllReadyH.nil
    go_simp
    go_at_call 31
    have BB1 : Hid (Below w0.heap.size w0 _) := (Below.refl _ _).drew
    refine (rslots_any12 g0 cx A2 c2 _ (HS2.out.below (then_w HB0.out BB1.out))).mono ?_
    rintro e u1 ⟨Sa, da, rfl, hina, -, hb⟩
    have BD1 : Hid (Below w0.heap.size w0 u1) := hid (then_w BB1.out hb)
    rw [Q2.out]
    have HL0 := hid HC.out.len
    rw [HL0.out]
    refine hK.out _ _ ?_ (fun hH1 => ?_)
    · exact ⟨cell_later hb hH0.1, cell_later hb hH0.2.1, cell_later hb hH0.2.2.1, cell_later hb hH0.2.2.2.1, cell_later hb hH0.2.2.2.2.1, cell_later hb hH0.2.2.2.2.2.1, then_w hH0.2.2.2.2.2.2 hb⟩
    clear hK K
    try simp only [apt12]
    clear hb hina
    refine wpAnyH_ready (rs := [5]) (by kernel_rfl) (by simp) ?_
    refine AllReadyH.cons (i := 5) (o := ⟨some 16, .call { callee := .value (.func 31), args := #[.tmp 14, .tmp 15], argTypes := #[24, 3] }, 30, "law.go:127", #[⟨3, .data⟩, ⟨4, .data⟩, ⟨2, .chain⟩], none⟩) rfl (fun K hK => ?_) AllReadyH.nil
    go_simp
    go_at_call 31
    have BB2 : Hid (Below w0.heap.size w0 _) := hH1.2.2.2.2.2.2
    refine (rslots_any12 h cx A c _ (HS.out.below (then_w HB0.out BB2.out))).mono ?_
    rintro e u2 ⟨Sb, db, rfl, hinb, -, hb⟩
    have BD2 : Hid (Below w0.heap.size w0 u2) := hid (then_w BB2.out hb)
    have IN2 := hid hinb
    rw [H22.out]
    refine hK.out _ _ ?_ (fun hH2 => ?_)
    · exact ⟨cell_later hb hH1.1, cell_later hb hH1.2.1, cell_later hb hH1.2.2.1, cell_later hb hH1.2.2.2.1, cell_later hb hH1.2.2.2.2.1, cell_later hb hH1.2.2.2.2.2.1, then_w hH1.2.2.2.2.2.2 hb⟩
    clear hK K
    try simp only [apt12]
    clear hb hinb
    refine tkI 6 ⟨some 7, .assign (.tmp 13), 30, "law.go:127", #[⟨2, .data⟩, ⟨5, .chain⟩, ⟨0, .phase⟩, ⟨1, .phase⟩, ⟨2, .phase⟩, ⟨3, .textOnly .lateStores⟩, ⟨4, .textOnly .lateStores⟩, ⟨5, .textOnly .lateStoresUnsure⟩], none⟩ ?v5 rfl (by kernel_rfl) (by rfl) ?y5 ?_
    case y5 => intro w hSw; (try dsimp only at hSw); go_simp; all_goals with_reducible rfl
    try simp only [apt12]
    refine tkI 7 ⟨some 8, .assign (.tmp 16), 30, "law.go:127", #[⟨5, .data⟩, ⟨6, .chain⟩, ⟨0, .phase⟩, ⟨1, .phase⟩, ⟨2, .phase⟩, ⟨3, .phase⟩, ⟨4, .phase⟩, ⟨5, .phase⟩, ⟨6, .phase⟩], none⟩ ?v6 rfl (by kernel_rfl) (by rfl) ?y6 ?_
    case y6 => intro w hSw; (try dsimp only at hSw); go_simp; all_goals with_reducible rfl
    try simp only [apt12]
    refine wpAnyH_done (by kernel_rfl) ?_ _
    go_wp2_with fail
    go_meet
    exact ⟨Sa, da, Sb, db, rfl, rfl, IN2, BD2⟩
  case rest =>
    rename World => w1
    obtain ⟨Sa, da, Sb, db, rfl, rfl, IN, BF⟩ := hcut
    have hb := BF.out
    clear y0 y1 y2 x0 x1 x2
    have HB1 := hid (then_w HB0.out hb)
    have HY1 := hid (HY0.out.later hb)
    have HX1 := hid (HX0.out.later hb)
    have I1 := IN
    have BL1 : Hid (Below w1.heap.size w1 w1) := hid (Below.refl _ _)
    clear hb BF IN
    clear HB0 HY0 HX0
    obtain ⟨y0, y1, y2⟩ := HY1.out.c3
    go_wp2_with fail
    refine (copy_h g0 A2 c2 _ (HS2.out.below HB1.out) (may_parts12 Q1.out).1).mono ?_
    rintro e w2 ⟨A3, c3, l3, rfl, hm3, ho3, hb⟩
    clear y0 y1 y2
    have QM3 := hid hm3
    clear hm3
    have HB2 := hid (then_w HB1.out hb)
    have BL2 := hid (then_w BL1.out hb)
    have HY2 := hid (HY1.out.later hb)
    have HX2 := hid (HX1.out.later hb)
    clear hb
    clear HB1 BL1 HY1 HX1
    have FO2 : Hid (Fr12 w w2 A3 c3 g0.objs) := hid (.inr ⟨_, _, ho3, QM3.out⟩)
    clear ho3 QM3
    go_upto_region 5 with fail
    obtain ⟨w3, hw⟩ : ∃ x, x = w2.alloc (.cells #[.slice A3 g0.objs.length c3, .int .i64 g0.cap, .int .i64 g0.last] 24) := ⟨_, rfl⟩
    obtain ⟨bg, hbx⟩ : ∃ x, x = w2.heap.size := ⟨_, rfl⟩
    have G3 : Hid (Lies w3 bg 24 #[.slice A3 g0.objs.length c3, .int .i64 g0.cap, .int .i64 g0.last]) := by show Lies _ _ _ _; rw [hw, hbx]; exact Lies.new _ _ _
    have hb : Below w2.heap.size w2 w3 := by rw [hw]; exact below_alloc _ _
    rw [← hw, ← hbx]
    have ne_HY_G : Hid (w.heap.size ≠ bg) := by show _ ≠ _; rw [hbx]; exact Nat.ne_of_lt HY2.out.lt
    have ne_HX_G : Hid ((w.heap.size + 1) ≠ bg) := by show _ ≠ _; rw [hbx]; exact Nat.ne_of_lt HX2.out.lt
    have le_HB_G : Hid (w.heap.size ≤ bg) := by show _ ≤ _; rw [hbx]; exact HB2.out.size
    have le_BL_G : Hid (w1.heap.size ≤ bg) := by show _ ≤ _; rw [hbx]; exact BL2.out.size
    clear hbx hw
    have HB3 := hid (then_w HB2.out hb)
    have BL3 := hid (then_w BL2.out hb)
    have HY3 := hid (HY2.out.later hb)
    have HX3 := hid (HX2.out.later hb)
    have FO3 := hid (FO2.out.later hb)
    clear hb
    clear HB2 BL2 HY2 HX2 FO2
    obtain ⟨bs, os, hsb, hbs, hcs⟩ := I1.out (by have := H22.out; omega)
    subst hsb
    have HBS : Hid (bs < w1.heap.size) := hid hbs
    have HCS : Hid (∀ i : Nat, i < 22 → w1.cell? ⟨bs, os + i, none⟩ = some (.int .i64 (sl12 h cx i))) := by
      show ∀ i : Nat, _
      intro i hi
      refine hcs i (sl12 h cx i) ?_
      unfold sl12
      rw [List.getD_eq_getElem?_getD, List.getElem?_eq_getElem (by have := H22.out; omega)]; rfl
    have z2c := BL3.out.cell (p := ⟨bs, os + 2, none⟩) HBS.out
    rw [HCS.out 2 (by decide)] at z2c
    clear hcs hbs I1
    go_wp2_with fail
    refine (rsmall_any12 (sl12 h cx 2) 16 _).mono ?_
    rintro e wv ⟨rfl, hwv⟩
    subst hwv
    clear z2c
    obtain ⟨s0, hs0⟩ : ∃ s, s = sm12 (sl12 h cx 2) 16 := ⟨_, rfl⟩
    rw [← hs0]
    have hs1 : 0 ≤ s0 ∧ s0 ≤ 16 := by have := HSP.out; rw [hs0]; exact ⟨Int.le_trans this.2.2 this.1, this.2.1⟩
    have hs2 : (k0 : Int) = 6 + s0 := by rw [hs0]; exact HK.out
    clear hs0
    have hw6 : IntKind.i64.wrap (6 + s0) = (k0 : Int) := by rw [← hs2]; exact IntWalk.i64_in _ (by omega)
    go_upto_region 6 with fail
    have HS1 := hid hs1
    have HS3 := hid hs2
    clear hs1 hs2 hw6
    go_loopw [10] (fun i wr => ∃ (k : Nat) (L : List Int) (A3 : Option Addr) (c3 : Nat), k0 ≤ k ∧ k ≤ 22 ∧ i = .int .i64 k ∧ Hid (Cl12 h cx k L) ∧ Hid (Lies wr bg 24 #[.slice A3 (pt12 h cx L).objs.length c3, .int .i64 (pt12 h cx L).cap, .int .i64 (pt12 h cx L).last]) ∧ Hid (Fr12 w wr A3 c3 (pt12 h cx L).objs) ∧ Hid (Lies wr (w.heap.size + 1) 24 #[Value.slice A h.objs.length c, Value.int .i64 h.cap, Value.int .i64 h.last]) ∧ Hid (Below w1.heap.size w1 wr) ∧ Hid (Below w.heap.size w wr)) (fun i _ => 22 - (intOf i).toNat)
    case atStart => exact ⟨k0, L0, A3, c3, Nat.le_refl _, by have := HS1.out; have := HS3.out; omega, by rw [HS3.out], HC, by rw [← HG0.out]; exact G3, by rw [← HG0.out]; exact FO3, HX3, BL3, HB3⟩
    case round =>
      obtain ⟨k, L, A4, c4, hk0, hk22, rfl, HCL, G4, FO4, HX4, BL4, HB4⟩ := hrel
      rename World => w4
      obtain ⟨g, hg⟩ : ∃ g, g = pt12 h cx L := ⟨_, rfl⟩
      rw [← hg] at G4 FO4
      have HG := hid hg
      clear hg
      have hk6 : 6 ≤ k := by have := HS1.out; have := HS3.out; omega
      by_cases hlt : k < 22
      case pos =>
        obtain ⟨r1, r2, r3⟩ := cl_step12 HM.out HCL.out hk6 hlt
        rw [← HG.out] at r1 r2
        have qm := (cl_may12 HM.out HCL.out hk6).1
        rw [← HG.out] at qm
        have hfit := hid (may_fit (may_parts12 qm).1)
        obtain ⟨xk, hxk⟩ : ∃ x, x = sl12 h cx k := ⟨_, rfl⟩
        rw [← hxk] at r1 r2 r3
        obtain ⟨g2, hg2⟩ : ∃ g, g = pt12 h cx (L.set k xk) := ⟨_, rfl⟩
        rw [← hg2] at r2
        have R1 := hid r1
        have R2 := hid r2
        have R3 := hid r3
        have HG2 := hid hg2
        have q0 : w4.cell? ⟨bs, os + k, none⟩ = some (.int .i64 xk) := by rw [hxk, ← HCS.out k hlt]; exact BL4.out.cell (p := ⟨bs, os + k, none⟩) HBS.out
        have hk22 : (k : Int) < 22 := by omega
        clear r1 r2 r3 qm hg2 hxk
        go_upto_region 8 with fail
        refine wp_region_held_drew (S := (fun w' => w'.cell? ⟨bs, os + k, none⟩ = some (.int .i64 xk) ∧ Below w1.heap.size w1 w' ∧ Below w.heap.size w w')) (by kernel_rfl) ?_ (fun hH0 => ?_)
        · exact ⟨cell_later (Below.refl w4.heap.size w4).drew q0, BL4.out.drew, HB4.out.drew⟩
        refine tkI 1 ⟨some 38, .move (.tmp 2), 3, "law.go:133", #[], none⟩ ?v7 rfl (by kernel_rfl) (by rfl) ?y7 ?_
        case y7 => intro w hSw; (try dsimp only at hSw); go_simp; all_goals with_reducible rfl
        try simp only [apt12]
        refine tkI 2 ⟨some 39, .move (.tmp 10), 3, "law.go:133", #[], none⟩ ?v8 rfl (by kernel_rfl) (by rfl) ?y8 ?_
        case y8 => intro w hSw; (try dsimp only at hSw); go_simp; all_goals with_reducible rfl
        try simp only [apt12]
        refine tkI 3 ⟨some 40, .move (.tmp 8), 30, "law.go:133", #[], none⟩ ?v9 rfl (by kernel_rfl) (by rfl) ?y9 ?_
        case y9 => intro w hSw; (try dsimp only at hSw); go_simp; all_goals with_reducible rfl
        try simp only [apt12]
        refine tkI 4 ⟨some 41, .move (.tmp 10), 3, "law.go:133", #[], none⟩ ?v10 rfl (by kernel_rfl) (by rfl) ?y10 ?_
        case y10 => intro w hSw; (try dsimp only at hSw); go_simp; all_goals with_reducible rfl
        try simp only [apt12]
        refine tkI 5 ⟨some 42, .indexAddr 30 (.tmp 40) (.tmp 41), 0, "law.go:133", #[⟨3, .data⟩, ⟨4, .data⟩], none⟩ ?v11 rfl (by kernel_rfl) (by rfl) ?y11 ?_
        case y11 => intro w hSw; (try dsimp only at hSw); go_simp; all_goals with_reducible rfl
        try simp only [apt12]
        refine tkI 6 ⟨some 43, .load 3 (.tmp 42), 3, "law.go:133", #[⟨5, .data⟩], none⟩ ?v12 rfl (by kernel_rfl) (by rfl) ?y12 ?_
        case y12 => intro w hSw; (try dsimp only at hSw); go_simp; all_goals with_reducible rfl
        try simp only [apt12]
        refine wpAnyH_ready (rs := [0]) (by kernel_rfl) (by simp) ?_
        refine AllReadyH.cons (i := 0) (o := ⟨some 37, .load 24 (.tmp 9), 24, "law.go:133", #[], none⟩) rfl (fun K hK => ?_) AllReadyH.nil
        obtain ⟨t0, t1, t2⟩ := G4.out.c3
        have y0 := cell_later (Below.refl w4.heap.size w4).drew t0
        have y1 := cell_later (Below.refl w4.heap.size w4).drew t1
        have y2 := cell_later (Below.refl w4.heap.size w4).drew t2
        clear t0 t1 t2
        go_simp
        refine hK.out _ _ ?_ (fun hH1 => ?_)
        · exact hH0
        clear hK K
        try simp only [apt12]
        clear y0 y1 y2
        refine wpAnyH_ready (rs := [7]) (by kernel_rfl) (by simp) ?_
        refine AllReadyH.cons (i := 7) (o := ⟨some 44, .call { callee := .value (.func 53), args := #[.tmp 37, .tmp 38, .tmp 39, .tmp 43], argTypes := #[24, 3, 3, 3] }, 45, "law.go:133", #[⟨0, .data⟩, ⟨1, .data⟩, ⟨2, .data⟩, ⟨6, .data⟩], none⟩) rfl (fun K hK => ?_) AllReadyH.nil
        go_simp
        go_at_call 53
        have BB2 : Hid (Below w4.heap.size w4 _) := (Below.refl _ _).drew
        refine (rset_own12 g cx k xk A4 c4 _ (FO4.out.obs.below BB2.out) hfit.out R1.out).mono ?_
        rintro e u2 ⟨A5, c5, l5, rfl, hm5, ho5, hb⟩
        rw [R2.out] at hm5
        rw [R2.out]
        have BD : Hid (Below w4.heap.size w4 u2) := hid (then_w BB2.out hb)
        have FP : Hid (Fr12 w u2 A5 c5 g2.objs) := hid (.inr ⟨_, _, ho5, hm5⟩)
        have GG : Hid (Lies u2 bg 24 #[.slice A4 g.objs.length c4, .int .i64 g.cap, .int .i64 g.last]) := hid (G4.out.later BD.out)
        refine hK.out _ _ ?_ (fun hH2 => ?_)
        · exact ⟨cell_later hb hH1.1, then_w hH1.2.1 hb, then_w hH1.2.2 hb⟩
        clear hK K
        try simp only [apt12]
        clear hb ho5 hm5
        refine tkI 8 ⟨some 36, .move (.tmp 44), 45, "law.go:133", #[⟨7, .data⟩], none⟩ ?v13 rfl (by kernel_rfl) (by rfl) ?y13 ?_
        case y13 => intro w hSw; (try dsimp only at hSw); go_simp; all_goals with_reducible rfl
        try simp only [apt12]
        refine tkI 9 ⟨some 45, .extract (.tmp 36) 0, 24, "law.go:133", #[⟨8, .data⟩], none⟩ ?v14 rfl (by kernel_rfl) (by rfl) ?y14 ?_
        case y14 => intro w hSw; (try dsimp only at hSw); go_simp; all_goals with_reducible rfl
        try simp only [apt12]
        refine tkI 10 ⟨some 46, .extract (.tmp 36) 1, 33, "law.go:133", #[⟨8, .data⟩, ⟨11, .gcOnly .lateStores⟩], none⟩ ?v15 rfl (by kernel_rfl) (by rfl) ?y15 ?_
        case y15 => intro w hSw; (try dsimp only at hSw); go_simp; all_goals with_reducible rfl
        try simp only [apt12]
        refine wpAnyH_ready (rs := [11]) (by kernel_rfl) (by simp) ?_
        refine AllReadyH.cons (i := 11) (o := ⟨none, .store 24 (.tmp 9) (.tmp 45), 0, "law.go:133", #[⟨9, .data⟩, ⟨7, .chain⟩, ⟨0, .phase⟩, ⟨1, .phase⟩, ⟨2, .phase⟩, ⟨3, .phase⟩, ⟨4, .phase⟩, ⟨5, .phase⟩, ⟨6, .phase⟩, ⟨7, .phase⟩, ⟨8, .phase⟩, ⟨9, .phase⟩, ⟨10, .textOnly .lateStores⟩], none⟩) rfl (fun K hK => ?_) AllReadyH.nil
        obtain ⟨y0, y1, y2⟩ := (show Lies u2 bg _ _ from GG.out).c3
        obtain ⟨f0, f1, f2⟩ := (show Lies u2 bg _ _ from GG.out).f3
        go_simp
        refine hK.out _ _ ?_ (fun hH3 => ?_)
        · exact ⟨(cell_far (Nat.ne_of_lt (Nat.lt_of_lt_of_le HBS.out le_BL_G.out)) (cell_far (Nat.ne_of_lt (Nat.lt_of_lt_of_le HBS.out le_BL_G.out)) (cell_far (Nat.ne_of_lt (Nat.lt_of_lt_of_le HBS.out le_BL_G.out)) hH2.1))), below_s3 hH2.2.1 le_BL_G.out (.slice A5 g2.objs.length c5) (.int .i64 g2.cap) (.int .i64 g2.last), below_s3 hH2.2.2 le_HB_G.out (.slice A5 g2.objs.length c5) (.int .i64 g2.cap) (.int .i64 g2.last)⟩
        clear hK K
        try simp only [apt12]
        clear y0 y1 y2 f0 f1 f2
        refine wpAnyH_done (by kernel_rfl) ?_ _
        obtain ⟨V, hV⟩ : ∃ V, V = (((u2.setCell ⟨bg, 0, none⟩ (.slice A5 g2.objs.length c5)).setCell ⟨bg, 1, none⟩ (.int .i64 g2.cap)).setCell ⟨bg, 2, none⟩ (.int .i64 g2.last)) := ⟨_, rfl⟩
        have GV : Hid (Lies V bg 24 #[.slice A5 g2.objs.length c5, .int .i64 g2.cap, .int .i64 g2.last]) := by show Lies _ _ _ _; rw [hV]; exact (((GG.out.set_ 0 (.slice A5 g2.objs.length c5)).set_ 1 (.int .i64 g2.cap)).set_ 2 (.int .i64 g2.last))
        have FV : Hid (Fr12 w V A5 c5 g2.objs) := by show Fr12 _ _ _ _ _; rw [hV]; exact FP.out.s3 le_HB_G.out GG.out (.slice A5 g2.objs.length c5) (.int .i64 g2.cap) (.int .i64 g2.last)
        have HXV : Hid (Lies V (w.heap.size + 1) 24 #[Value.slice A h.objs.length c, Value.int .i64 h.cap, Value.int .i64 h.last]) := by show Lies _ _ _ _; rw [hV]; exact ((((HX4.out.later BD.out).far (p := ⟨bg, 0, none⟩) (ne_HX_G.out) (.slice A5 g2.objs.length c5)).far (p := ⟨bg, 1, none⟩) (ne_HX_G.out) (.int .i64 g2.cap)).far (p := ⟨bg, 2, none⟩) (ne_HX_G.out) (.int .i64 g2.last))
        have BLV := hH3.2.1
        have HBV := hH3.2.2
        rw [← hV] at BLV HBV
        rw [← hV]
        have BLW := hid BLV
        have HBW := hid HBV
        clear hV hH3 BLV HBV q0
        go_wp2_with fail
        go_roundw
        case rel => exact ⟨k + 1, L.set k xk, A5, c5, by omega, by omega, by go_num, R3, by rw [← HG2.out]; exact GV, by rw [← HG2.out]; exact FV, HXV, BLW, HBW⟩
        case measure => simp [intOf]; omega
      case neg =>
        have e22 : k = 22 := by omega
        subst e22
        have eh : g = h := by rw [HG.out]; exact cl_end12 HM.out HCL.out
        subst eh
        obtain ⟨x0, x1, x2⟩ := HX4.out.c3
        obtain ⟨z0, z1, z2⟩ := G4.out.c3
        go_wp2_with fail
        refine (same_any g A4 A c4 c _ FO4.out.obs (HS.out.below HB4.out) (may_fit (may_parts12 HM.out).1)).mono ?_
        rintro e wz ⟨rfl, hb⟩
        go_wp2_with fail
        go_ret
        exact ⟨rfl, then_w HB4.out hb⟩
end Go.Proofs.YtalfbdigjaibkaaGreat
