/- MoveWays walked: whatever heap, roots and way, it answers true. -/
import Derived.Test.YtelljlmjhnjpiaaVG
import Derived.Test.YtelljlmjhnjpiaaVH
import Derived.Test.YtelljlmjhnjpiaaNL
import Derived.Test.YtelljlmjhnjpiaaR
import Derived.Test.YtelljlmjhnjpiaaN
import Derived.Test.YtelljlmjhnjpiaaMB
namespace Go.Proofs.Ytelljlmjhnjpiaa
open Go.RowKit
set_option maxRecDepth 100000
structure ObX (w : World) (b off : Nat) (cls kind : Int) (S : Option Addr) (n c : Nat) (text : ByteArray) (bits hash : Int) : Prop where
  c0 : w.cell? ⟨b, off, none⟩ = some (.int .i64 cls)
  c1 : w.cell? ⟨b, off + 1, none⟩ = some (.int .i64 kind)
  c2 : w.cell? ⟨b, off + 2, none⟩ = some (.slice S n c)
  c3 : w.cell? ⟨b, off + 3, none⟩ = some (.string text)
  c4 : w.cell? ⟨b, off + 4, none⟩ = some (.int .i64 bits)
  c5 : w.cell? ⟨b, off + 5, none⟩ = some (.int .i64 hash)
theorem ObX.below {w w' : World} {b off : Nat} {cls kind : Int} {S : Option Addr} {n c : Nat} {text : ByteArray} {bits hash : Int} (h : ObX w b off cls kind S n c text bits hash) (hlt : b < w.heap.size) (hb : Below w.heap.size w w') : ObX w' b off cls kind S n c text bits hash :=
  ⟨(hb.cell (p := ⟨b, off, none⟩) hlt).trans h.c0, (hb.cell (p := ⟨b, off + 1, none⟩) hlt).trans h.c1, (hb.cell (p := ⟨b, off + 2, none⟩) hlt).trans h.c2, (hb.cell (p := ⟨b, off + 3, none⟩) hlt).trans h.c3, (hb.cell (p := ⟨b, off + 4, none⟩) hlt).trans h.c4, (hb.cell (p := ⟨b, off + 5, none⟩) hlt).trans h.c5⟩
theorem far6 {w : World} {g b o : Nat} {v v0 v1 v2 v3 v4 v5 : Value} (hne : b ≠ g) (h : w.cell? ⟨b, o, none⟩ = some v) :
    ((((((w.setCell ⟨g, 0, none⟩ v0).setCell ⟨g, 1, none⟩ v1).setCell ⟨g, 2, none⟩ v2).setCell ⟨g, 3, none⟩ v3).setCell ⟨g, 4, none⟩ v4).setCell ⟨g, 5, none⟩ v5).cell? ⟨b, o, none⟩ = some v :=
  obc_ne hne (obc_ne hne (obc_ne hne (obc_ne hne (obc_ne hne (obc_ne hne h)))))
theorem ways_get {h : Hp} {rs : List Int} (e : liE h rs = 0) (way : List Int) {j : Nat} (hj : j < rs.length) :
    (endV h rs[j] way = none ∧ endV (coH h rs) (vaV (tabL h rs) rs[j]) way = none) ∨ ∃ u, endV h rs[j] way = some u ∧ endV (coH h rs) (vaV (tabL h rs) rs[j]) way = some (vaV (tabL h rs) u) ∧ LiveV h rs u := by
  obtain ⟨h1, h2⟩ := end_live e way _ (live_root e (List.getElem_mem hj))
  cases hu : endV h rs[j] way with
  | none => exact .inl ⟨rfl, by rw [h1, hu]; rfl⟩
  | some u => exact .inr ⟨u, rfl, by rw [h1, hu]; rfl, h2 u hu⟩
theorem ways_obj {h : Hp} {rs : List Int} (e : liE h rs = 0) {u : Int} (hu : LiveV h rs u) (hn : nB u = false) :
    ∃ (q p : Nat) (o : Ob), refI h.objs.length u = (q : Int) ∧ refI (coH h rs).objs.length (vaV (tabL h rs) u) = (p : Int) ∧ h.objs[q]? = some o ∧ (coH h rs).objs[p]? = some (moO (tabL h rs) o) := by
  have hr : refB h.objs.length u = true := by
    cases hr : refB h.objs.length u
    · have := has_not hu.1 hr; rw [this] at hn; cases hn
    · rfl
  have hrr := (va_live e hu).2.2
  rw [hr] at hrr
  obtain ⟨i, _, hvi, hoi⟩ := obAt_get hr
  obtain ⟨p, _, hvp, hop⟩ := obAt_get hrr
  rw [co_at e hr (hu.2 hr)] at hop
  exact ⟨i, p, _, by rw [refI_nonneg hr, hvi], by rw [refI_nonneg hrr, hvp], hoi, hop⟩
theorem endI_none {h : Hp} {v : Int} {l : List Int} (e : endV h v l = none) : endI h v l = 0 ∧ endB h v l = false := by unfold endI endB; rw [e]; exact ⟨rfl, rfl⟩
theorem endI_some {h : Hp} {v u : Int} {l : List Int} (e : endV h v l = some u) : endI h v l = u ∧ endB h v l = true := by unfold endI endB; rw [e]; exact ⟨rfl, rfl⟩
theorem n_zero : nV 0 = 0 ∧ nB 0 = false := by decide
set_option maxHeartbeats 1500000 in
theorem ways_any (h : Hp) (rs : List Int) (way : List Int) (A : Option Addr) (c : Nat) (R : Option Addr) (d : Nat) (B : Option Addr) (db : Nat) (w : World) (hs : ObsR w A h.objs) (fit : h.Fit) (hr : IntsR w R rs) (hl : rs.length ≤ 9223372036854775807) (hwy : IntsR w B way) (hwl : way.length ≤ 9223372036854775807) :
    Calls Try.prog 11 #[.agg #[.slice A h.objs.length c, .int .i64 h.cap, .int .i64 h.last], .slice R rs.length d, .slice B way.length db] w fun e w' => e = .returned (.bool true) ∧ Below w.heap.size w w' := by
  have HB0 := hid (below_alloc w (.cells #[Value.slice A h.objs.length c, Value.int .i64 h.cap, Value.int .i64 h.last] 24))
  have X0 := hid (Lies.new w 24 #[Value.slice A h.objs.length c, Value.int .i64 h.cap, Value.int .i64 h.last])
  have O0 := hid (hs.below HB0.out)
  have R0 := hid (hr.below HB0.out)
  have HF := hid fit
  have hfl := fit.1
  have V0 := hid (hwy.below HB0.out)
  clear hs fit hr hwy
  go_enter Try.func11, Try.ntmps11
  go_wp2_with fail
  refine (fixed5_any _).mono ?_
  rintro e w1 ⟨rfl, hb⟩
  have HB1 := hid (HB0.out.trans (hb.mono HB0.out.size))
  have X1 := hid (X0.out.later hb)
  have O1 := hid (O0.out.below hb)
  have R1 := hid (R0.out.below hb)
  have V1 := hid (V0.out.below hb)
  clear hb
  have x0 := X1.out.cell 0
  have x1 := X1.out.cell 1
  have x2 := X1.out.cell 2
  simp only [List.getElem?_toArray, List.getElem?_cons_zero, List.getElem?_cons_succ] at x0 x1 x2
  go_wp2_with fail
  refine (small_ok h A c _ O1.out HF.out).mono ?_
  rintro e w2 ⟨sm, rfl, hb⟩
  have HB2 := hid (HB1.out.trans (hb.mono HB1.out.size))
  have X2 := hid (X1.out.later hb)
  have O2 := hid (O1.out.below hb)
  have R2 := hid (R1.out.below hb)
  have V2 := hid (V1.out.below hb)
  clear x0 x1 x2
  clear hb
  have x0 := X2.out.cell 0
  have x1 := X2.out.cell 1
  have x2 := X2.out.cell 2
  simp only [List.getElem?_toArray, List.getElem?_cons_zero, List.getElem?_cons_succ] at x0 x1 x2
  cases sm
  · go_wp2_with fail
    refine (fixed5_any _).mono ?_
    rintro e w3 ⟨rfl, hb⟩
    have HB3 := hid (HB2.out.trans (hb.mono HB2.out.size))
    have X3 := hid (X2.out.later hb)
    have O3 := hid (O2.out.below hb)
    have R3 := hid (R2.out.below hb)
    have V3 := hid (V2.out.below hb)
    clear x0 x1 x2
    clear hb
    have x0 := X3.out.cell 0
    have x1 := X3.out.cell 1
    have x2 := X3.out.cell 2
    simp only [List.getElem?_toArray, List.getElem?_cons_zero, List.getElem?_cons_succ] at x0 x1 x2
    go_wp2_with fail
    go_ret
    exact ⟨rfl, HB3.out⟩
  · go_wp2_with fail
    refine (rmay_any h A c _ O2.out HF.out).mono ?_
    rintro e w3 ⟨rfl, hb⟩
    have HB3 := hid (HB2.out.trans (hb.mono HB2.out.size))
    have X3 := hid (X2.out.later hb)
    have O3 := hid (O2.out.below hb)
    have R3 := hid (R2.out.below hb)
    have V3 := hid (V2.out.below hb)
    clear x0 x1 x2
    clear hb
    have x0 := X3.out.cell 0
    have x1 := X3.out.cell 1
    have x2 := X3.out.cell 2
    simp only [List.getElem?_toArray, List.getElem?_cons_zero, List.getElem?_cons_succ] at x0 x1 x2
    cases hm : mayB h
    · go_wp2_with fail
      refine (fixed5_any _).mono ?_
      rintro e w4 ⟨rfl, hb⟩
      have HB4 := hid (HB3.out.trans (hb.mono HB3.out.size))
      have X4 := hid (X3.out.later hb)
      have O4 := hid (O3.out.below hb)
      have R4 := hid (R3.out.below hb)
      have V4 := hid (V3.out.below hb)
      clear x0 x1 x2
      clear hb
      have x0 := X4.out.cell 0
      have x1 := X4.out.cell 1
      have x2 := X4.out.cell 2
      simp only [List.getElem?_toArray, List.getElem?_cons_zero, List.getElem?_cons_succ] at x0 x1 x2
      go_wp2_with fail
      go_ret
      exact ⟨rfl, HB4.out⟩
    · have HM := hid hm
      clear hm
      by_cases c1 : 40 < h.objs.length
      · go_wp2_with fail
        refine (fixed5_any _).mono ?_
        rintro e w4 ⟨rfl, hb⟩
        have HB4 := hid (HB3.out.trans (hb.mono HB3.out.size))
        have X4 := hid (X3.out.later hb)
        have O4 := hid (O3.out.below hb)
        have R4 := hid (R3.out.below hb)
        have V4 := hid (V3.out.below hb)
        clear x0 x1 x2
        clear hb
        have x0 := X4.out.cell 0
        have x1 := X4.out.cell 1
        have x2 := X4.out.cell 2
        simp only [List.getElem?_toArray, List.getElem?_cons_zero, List.getElem?_cons_succ] at x0 x1 x2
        go_wp2_with fail
        go_ret
        exact ⟨rfl, HB4.out⟩
      · by_cases c2 : 100 < rs.length
        · go_wp2_with fail
          refine (fixed5_any _).mono ?_
          rintro e w4 ⟨rfl, hb⟩
          have HB4 := hid (HB3.out.trans (hb.mono HB3.out.size))
          have X4 := hid (X3.out.later hb)
          have O4 := hid (O3.out.below hb)
          have R4 := hid (R3.out.below hb)
          have V4 := hid (V3.out.below hb)
          clear x0 x1 x2
          clear hb
          have x0 := X4.out.cell 0
          have x1 := X4.out.cell 1
          have x2 := X4.out.cell 2
          simp only [List.getElem?_toArray, List.getElem?_cons_zero, List.getElem?_cons_succ] at x0 x1 x2
          go_wp2_with fail
          go_ret
          exact ⟨rfl, HB4.out⟩
        · by_cases c3 : 50 < way.length
          · go_wp2_with fail
            refine (fixed5_any _).mono ?_
            rintro e w4 ⟨rfl, hb⟩
            have HB4 := hid (HB3.out.trans (hb.mono HB3.out.size))
            have X4 := hid (X3.out.later hb)
            have O4 := hid (O3.out.below hb)
            have R4 := hid (R3.out.below hb)
            have V4 := hid (V3.out.below hb)
            clear x0 x1 x2
            clear hb
            have x0 := X4.out.cell 0
            have x1 := X4.out.cell 1
            have x2 := X4.out.cell 2
            simp only [List.getElem?_toArray, List.getElem?_cons_zero, List.getElem?_cons_succ] at x0 x1 x2
            go_wp2_with fail
            go_ret
            exact ⟨rfl, HB4.out⟩
          · by_cases he : liE h rs = 0
            · have HWG : Hid (∀ j (hj : j < rs.length), (endV h rs[j] way = none ∧ endV (coH h rs) (vaV (tabL h rs) rs[j]) way = none) ∨ ∃ u, endV h rs[j] way = some u ∧ endV (coH h rs) (vaV (tabL h rs) rs[j]) way = some (vaV (tabL h rs) u) ∧ LiveV h rs u) := fun j hj => ways_get he way hj
              have HWO : Hid (∀ u, LiveV h rs u → nB u = false → ∃ (q p : Nat) (o : Ob), refI h.objs.length u = (q : Int) ∧ refI (coH h rs).objs.length (vaV (tabL h rs) u) = (p : Int) ∧ h.objs[q]? = some o ∧ (coH h rs).objs[p]? = some (moO (tabL h rs) o)) := fun u hu hn => ways_obj he hu hn
              have KM := hid (co_may he)
              have HCL := hid (coL_yes he)
              obtain ⟨k, hk⟩ : ∃ k, k = coH h rs := ⟨_, rfl⟩
              obtain ⟨t, ht⟩ : ∃ t, t = tabL h rs := ⟨_, rfl⟩
              rw [← hk, ← ht] at HWG HWO
              rw [← hk] at KM
              rw [← ht] at HCL
              have HK := hid hk
              have hkl := may_len KM.out
              clear hk ht
              go_wp2_with fail
              refine (compact_any h rs A R c d _ O3.out HF.out R3.out (by omega)).mono ?_
              rintro e w4 ⟨A4, c4, P4, d4, rfl, ho, hi, hb⟩
              rw [he, ← HK.out, HCL.out]
              rw [← HK.out] at ho
              rw [List.length_map]
              rw [HCL.out] at hi
              have HAL := hid (below_alloc w4 (.cells #[Value.slice A4 k.objs.length c4, Value.int .i64 k.cap, Value.int .i64 k.last] 24))
              have HB4 := hid ((HB3.out.trans (hb.mono HB3.out.size)).trans (HAL.out.mono (Nat.le_trans HB3.out.size hb.size)))
              have X4 := hid ((X3.out.later hb).later HAL.out)
              have O4 := hid ((O3.out.below hb).below HAL.out)
              have R4 := hid ((R3.out.below hb).below HAL.out)
              have V4 := hid ((V3.out.below hb).below HAL.out)
              have G4 := hid (Lies.new w4 24 #[Value.slice A4 k.objs.length c4, Value.int .i64 k.cap, Value.int .i64 k.last])
              have OK4 := hid (ho.below HAL.out)
              have LL4 := hid (hi.below HAL.out)
              clear x0 x1 x2
              clear hb
              clear ho hi HAL he
              have x0 := X4.out.cell 0
              have x1 := X4.out.cell 1
              have x2 := X4.out.cell 2
              have g0 := G4.out.cell 0
              have g1 := G4.out.cell 1
              have g2 := G4.out.cell 2
              simp only [List.getElem?_toArray, List.getElem?_cons_zero, List.getElem?_cons_succ] at x0 x1 x2 g0 g1 g2
              go_wp2_with fail
              go_loopw [10] (fun i wr => ∃ j : Nat, j ≤ rs.length ∧ i = .int .i64 j ∧ Lies wr w.heap.size 24 #[Value.slice A h.objs.length c, Value.int .i64 h.cap, Value.int .i64 h.last] ∧ Lies wr w4.heap.size 24 #[Value.slice A4 k.objs.length c4, Value.int .i64 k.cap, Value.int .i64 k.last] ∧ Below (w4.alloc (.cells #[Value.slice A4 k.objs.length c4, Value.int .i64 k.cap, Value.int .i64 k.last] 24)).heap.size (w4.alloc (.cells #[Value.slice A4 k.objs.length c4, Value.int .i64 k.cap, Value.int .i64 k.last] 24)) wr) (fun i _ => rs.length - (intOf i).toNat)
              case atStart => exact ⟨0, Nat.zero_le _, rfl, X4.out, G4.out, Below.refl _ _⟩
              case round =>
                clear x0 x1 x2 g0 g1 g2
                obtain ⟨j, hj, rfl, hx, hg, hbw⟩ := hrel
                rename World => wo
                have HX := hid hx
                have HG := hid hg
                have HW := hid hbw
                have x0 := hx.cell 0
                have x1 := hx.cell 1
                have x2 := hx.cell 2
                have g0 := hg.cell 0
                have g1 := hg.cell 1
                have g2 := hg.cell 2
                simp only [List.getElem?_toArray, List.getElem?_cons_zero, List.getElem?_cons_succ] at x0 x1 x2 g0 g1 g2
                clear hx hg hbw
                by_cases hlt : j < rs.length
                · obtain ⟨br, or_, rfl, hbr, hcr⟩ := R4.out (by omega)
                  obtain ⟨bl, ol, rfl, hbl, hcl⟩ := LL4.out (by rw [List.length_map]; omega)
                  have rc := (HW.out.cell (p := ⟨br, or_ + j, none⟩) hbr).trans (hcr j _ (List.getElem?_eq_getElem hlt))
                  have lc := (HW.out.cell (p := ⟨bl, ol + j, none⟩) hbl).trans (hcl j (vaV t rs[j]) (by rw [List.getElem?_map, List.getElem?_eq_getElem hlt]; rfl))
                  have HEV := hid (HWG.out j hlt)
                  obtain ⟨r, hr⟩ : ∃ r, r = rs[j] := ⟨_, rfl⟩
                  rw [← hr] at rc lc HEV
                  clear hcr hcl hr
                  go_wp2_with fail
                  obtain ⟨z, hz⟩ : ∃ z, z = vaV t r := ⟨_, rfl⟩
                  rw [← hz] at lc HEV
                  clear hz
                  rcases HEV.out with ⟨h1, h2⟩ | ⟨u, h1, h2, hlv⟩
                  · have E1 := hid (endI_none h1)
                    have E2 := hid (endI_none h2)
                    clear h1 h2
                    refine wp_region_held_drew (S := (fun w' => w'.cell? ⟨w.heap.size, 0, none⟩ = some (.slice A h.objs.length c) ∧ w'.cell? ⟨w.heap.size, 1, none⟩ = some (.int .i64 h.cap) ∧ w'.cell? ⟨w.heap.size, 2, none⟩ = some (.int .i64 h.last) ∧ w'.cell? ⟨br, or_ + j, none⟩ = some (.int .i64 r) ∧ Below wo.heap.size wo w')) (by kernel_rfl) ?_ (fun hHeld => ?_)
                    · exact ⟨x0, x1, x2, rc, (Below.refl _ _).drew⟩
                    refine wpAnyH_take (i := 0) (oi := { dst := some 69, op := Go.Op.load 24 (Go.Operand.tmp 3), type := 24, pos := "law.go:96", after := #[], guard := none }) (v := ?vv1) rfl (by kernel_rfl) (by kernel_rfl) (by kernel_rfl) (fun _ _ _ h => h) (Or.inl ⟨by rfl, ?hy1⟩) (by assumption) ?rr1
                    case hy1 => intro w hSw; (try dsimp only at hSw); go_simp; all_goals with_reducible rfl
                    try simp only [Act.put, List.setIfInBounds_toArray, List.set_cons_zero, List.set_cons_succ]
                    refine wpAnyH_take (i := 1) (oi := { dst := some 70, op := Go.Op.move (Go.Operand.tmp 1), type := 44, pos := "law.go:96", after := #[], guard := none }) (v := ?vv2) rfl (by kernel_rfl) (by kernel_rfl) (by kernel_rfl) (fun _ _ _ h => h) (Or.inl ⟨by rfl, ?hy2⟩) (by assumption) ?rr2
                    case hy2 => intro w hSw; (try dsimp only at hSw); go_simp; all_goals with_reducible rfl
                    try simp only [Act.put, List.setIfInBounds_toArray, List.set_cons_zero, List.set_cons_succ]
                    refine wpAnyH_take (i := 2) (oi := { dst := some 71, op := Go.Op.move (Go.Operand.tmp 10), type := 3, pos := "law.go:96", after := #[], guard := none }) (v := ?vv3) rfl (by kernel_rfl) (by kernel_rfl) (by kernel_rfl) (fun _ _ _ h => h) (Or.inl ⟨by rfl, ?hy3⟩) (by assumption) ?rr3
                    case hy3 => intro w hSw; (try dsimp only at hSw); go_simp; all_goals with_reducible rfl
                    try simp only [Act.put, List.setIfInBounds_toArray, List.set_cons_zero, List.set_cons_succ]
                    refine wpAnyH_take (i := 3) (oi := { dst := some 72, op := Go.Op.indexAddr 44 (Go.Operand.tmp 70) (Go.Operand.tmp 71), type := 0, pos := "law.go:96", after := #[{ on := 1, ground := Go.Ground.data }, { on := 2, ground := Go.Ground.data }], guard := none }) (v := ?vv4) rfl (by kernel_rfl) (by kernel_rfl) (by kernel_rfl) (fun _ _ _ h => h) (Or.inl ⟨by rfl, ?hy4⟩) (by assumption) ?rr4
                    case hy4 => intro w hSw; (try dsimp only at hSw); go_simp; all_goals with_reducible rfl
                    try simp only [Act.put, List.setIfInBounds_toArray, List.set_cons_zero, List.set_cons_succ]
                    refine wpAnyH_take (i := 4) (oi := { dst := some 73, op := Go.Op.load 3 (Go.Operand.tmp 72), type := 3, pos := "law.go:96", after := #[{ on := 3, ground := Go.Ground.data }], guard := none }) (v := ?vv5) rfl (by kernel_rfl) (by kernel_rfl) (by kernel_rfl) (fun _ _ _ h => h) (Or.inl ⟨by rfl, ?hy5⟩) (by assumption) ?rr5
                    case hy5 => intro w hSw; (try dsimp only at hSw); go_simp; all_goals with_reducible rfl
                    try simp only [Act.put, List.setIfInBounds_toArray, List.set_cons_zero, List.set_cons_succ]
                    refine wpAnyH_take (i := 5) (oi := { dst := some 74, op := Go.Op.move (Go.Operand.tmp 2), type := 44, pos := "law.go:96", after := #[], guard := none }) (v := ?vv6) rfl (by kernel_rfl) (by kernel_rfl) (by kernel_rfl) (fun _ _ _ h => h) (Or.inl ⟨by rfl, ?hy6⟩) (by assumption) ?rr6
                    case hy6 => intro w hSw; (try dsimp only at hSw); go_simp; all_goals with_reducible rfl
                    try simp only [Act.put, List.setIfInBounds_toArray, List.set_cons_zero, List.set_cons_succ]
                    refine wpAnyH_ready (rs := [6]) (by kernel_rfl) (by simp) ?_
                    refine AllReadyH.cons (i := 6) (o := { dst := some 75, op := Go.Op.call { callee := Go.Callee.value (Go.Operand.func 45), args := #[Go.Operand.tmp 69, Go.Operand.tmp 73, Go.Operand.tmp 74], argTypes := #[24, 3, 44] }, type := 54, pos := "law.go:96", after := #[{ on := 0, ground := Go.Ground.data }, { on := 4, ground := Go.Ground.data }, { on := 5, ground := Go.Ground.data }], guard := none }) rfl (fun K hK => ?_) AllReadyH.nil
                    go_simp
                    go_at_call 45
                    refine (end_any h r way A B c db _ (O4.out.below (then_b HW.out (((Below.refl _ _).drew)))) HM.out (V4.out.below (then_b HW.out (((Below.refl _ _).drew)))) hwl).mono ?_
                    rintro e w' ⟨rfl, hb⟩
                    rw [E1.out.1, E1.out.2]
                    refine hK.out _ _ ?_ (fun hHeld => ?_)
                    · exact ⟨cell_later hb x0, cell_later hb x1, cell_later hb x2, cell_later hb rc, then_b (Below.refl _ _).drew hb⟩
                    clear hK K
                    try simp only [Act.put, List.setIfInBounds_toArray, List.set_cons_zero, List.set_cons_succ]
                    have hH1 := hHeld
                    clear hHeld hb
                    have hHeld := hH1
                    refine wpAnyH_take (i := 7) (oi := { dst := some 68, op := Go.Op.move (Go.Operand.tmp 75), type := 54, pos := "law.go:96", after := #[{ on := 6, ground := Go.Ground.data }], guard := none }) (v := ?vv7) rfl (by kernel_rfl) (by kernel_rfl) (by kernel_rfl) (fun _ _ _ h => h) (Or.inl ⟨by rfl, ?hy7⟩) (by assumption) ?rr7
                    case hy7 => intro w hSw; (try dsimp only at hSw); go_simp; all_goals with_reducible rfl
                    try simp only [Act.put, List.setIfInBounds_toArray, List.set_cons_zero, List.set_cons_succ]
                    refine wpAnyH_take (i := 8) (oi := { dst := some 76, op := Go.Op.extract (Go.Operand.tmp 68) 0, type := 3, pos := "law.go:96", after := #[{ on := 7, ground := Go.Ground.data }], guard := none }) (v := ?vv8) rfl (by kernel_rfl) (by kernel_rfl) (by kernel_rfl) (fun _ _ _ h => h) (Or.inl ⟨by rfl, ?hy8⟩) (by assumption) ?rr8
                    case hy8 => intro w hSw; (try dsimp only at hSw); go_simp; all_goals with_reducible rfl
                    try simp only [Act.put, List.setIfInBounds_toArray, List.set_cons_zero, List.set_cons_succ]
                    refine wpAnyH_take (i := 9) (oi := { dst := some 77, op := Go.Op.extract (Go.Operand.tmp 68) 1, type := 4, pos := "law.go:96", after := #[{ on := 7, ground := Go.Ground.data }, { on := 10, ground := Go.Ground.gcOnly Go.Departure.lateStores }], guard := none }) (v := ?vv9) rfl (by kernel_rfl) (by kernel_rfl) (by kernel_rfl) (fun _ _ _ h => h) (Or.inl ⟨by rfl, ?hy9⟩) (by assumption) ?rr9
                    case hy9 => intro w hSw; (try dsimp only at hSw); go_simp; all_goals with_reducible rfl
                    try simp only [Act.put, List.setIfInBounds_toArray, List.set_cons_zero, List.set_cons_succ]
                    refine wpAnyH_take (i := 10) (oi := { dst := some 11, op := Go.Op.assign (Go.Operand.tmp 76), type := 3, pos := "law.go:96", after := #[{ on := 8, ground := Go.Ground.data }, { on := 6, ground := Go.Ground.chain }, { on := 0, ground := Go.Ground.phase }, { on := 1, ground := Go.Ground.phase }, { on := 2, ground := Go.Ground.phase }, { on := 3, ground := Go.Ground.phase }, { on := 4, ground := Go.Ground.phase }, { on := 5, ground := Go.Ground.phase }, { on := 6, ground := Go.Ground.phase }, { on := 7, ground := Go.Ground.phase }, { on := 8, ground := Go.Ground.phase }, { on := 9, ground := Go.Ground.textOnly Go.Departure.lateStores }], guard := none }) (v := ?vv10) rfl (by kernel_rfl) (by kernel_rfl) (by kernel_rfl) (fun _ _ _ h => h) (Or.inl ⟨by rfl, ?hy10⟩) (by assumption) ?rr10
                    case hy10 => intro w hSw; (try dsimp only at hSw); go_simp; all_goals with_reducible rfl
                    try simp only [Act.put, List.setIfInBounds_toArray, List.set_cons_zero, List.set_cons_succ]
                    refine wpAnyH_take (i := 11) (oi := { dst := some 12, op := Go.Op.assign (Go.Operand.tmp 77), type := 4, pos := "law.go:96", after := #[{ on := 9, ground := Go.Ground.data }, { on := 10, ground := Go.Ground.chain }, { on := 0, ground := Go.Ground.phase }, { on := 1, ground := Go.Ground.phase }, { on := 2, ground := Go.Ground.phase }, { on := 3, ground := Go.Ground.phase }, { on := 4, ground := Go.Ground.phase }, { on := 5, ground := Go.Ground.phase }, { on := 6, ground := Go.Ground.phase }, { on := 7, ground := Go.Ground.phase }, { on := 8, ground := Go.Ground.phase }, { on := 9, ground := Go.Ground.phase }, { on := 10, ground := Go.Ground.phase }], guard := none }) (v := ?vv11) rfl (by kernel_rfl) (by kernel_rfl) (by kernel_rfl) (fun _ _ _ h => h) (Or.inl ⟨by rfl, ?hy11⟩) (by assumption) ?rr11
                    case hy11 => intro w hSw; (try dsimp only at hSw); go_simp; all_goals with_reducible rfl
                    try simp only [Act.put, List.setIfInBounds_toArray, List.set_cons_zero, List.set_cons_succ]
                    refine wpAnyH_done (by kernel_rfl) ?_ _
                    have hHeldB := hHeld.2.2.2.2
                    rename World => w5_
                    have HW5 := hid (HW.out.trans (hHeldB.mono HW.out.size))
                    have XX5 := hid (HX.out.later hHeldB)
                    have GG5 := hid (HG.out.later hHeldB)
                    have lc5 := cell_later hHeldB lc
                    clear hHeld hHeldB hH1 x0 x1 x2 g0 g1 g2 rc lc
                    have g0 := GG5.out.cell 0
                    have g1 := GG5.out.cell 1
                    have g2 := GG5.out.cell 2
                    simp only [List.getElem?_toArray, List.getElem?_cons_zero, List.getElem?_cons_succ] at g0 g1 g2
                    go_wp2_with fail
                    refine wp_region_held_drew (S := (fun w' => w'.cell? ⟨w4.heap.size, 0, none⟩ = some (.slice A4 k.objs.length c4) ∧ w'.cell? ⟨w4.heap.size, 1, none⟩ = some (.int .i64 k.cap) ∧ w'.cell? ⟨w4.heap.size, 2, none⟩ = some (.int .i64 k.last) ∧ w'.cell? ⟨bl, ol + j, none⟩ = some (.int .i64 z) ∧ Below w5_.heap.size w5_ w')) (by kernel_rfl) ?_ (fun hHeld => ?_)
                    · exact ⟨g0, g1, g2, lc5, (Below.refl _ _).drew⟩
                    refine wpAnyH_take (i := 0) (oi := { dst := some 79, op := Go.Op.load 24 (Go.Operand.tmp 7), type := 24, pos := "law.go:97", after := #[], guard := none }) (v := ?vv12) rfl (by kernel_rfl) (by kernel_rfl) (by kernel_rfl) (fun _ _ _ h => h) (Or.inl ⟨by rfl, ?hy12⟩) (by assumption) ?rr12
                    case hy12 => intro w hSw; (try dsimp only at hSw); go_simp; all_goals with_reducible rfl
                    try simp only [Act.put, List.setIfInBounds_toArray, List.set_cons_zero, List.set_cons_succ]
                    refine wpAnyH_take (i := 1) (oi := { dst := some 80, op := Go.Op.move (Go.Operand.tmp 8), type := 44, pos := "law.go:97", after := #[], guard := none }) (v := ?vv13) rfl (by kernel_rfl) (by kernel_rfl) (by kernel_rfl) (fun _ _ _ h => h) (Or.inl ⟨by rfl, ?hy13⟩) (by assumption) ?rr13
                    case hy13 => intro w hSw; (try dsimp only at hSw); go_simp; all_goals with_reducible rfl
                    try simp only [Act.put, List.setIfInBounds_toArray, List.set_cons_zero, List.set_cons_succ]
                    refine wpAnyH_take (i := 2) (oi := { dst := some 81, op := Go.Op.move (Go.Operand.tmp 10), type := 3, pos := "law.go:97", after := #[], guard := none }) (v := ?vv14) rfl (by kernel_rfl) (by kernel_rfl) (by kernel_rfl) (fun _ _ _ h => h) (Or.inl ⟨by rfl, ?hy14⟩) (by assumption) ?rr14
                    case hy14 => intro w hSw; (try dsimp only at hSw); go_simp; all_goals with_reducible rfl
                    try simp only [Act.put, List.setIfInBounds_toArray, List.set_cons_zero, List.set_cons_succ]
                    refine wpAnyH_take (i := 3) (oi := { dst := some 82, op := Go.Op.indexAddr 44 (Go.Operand.tmp 80) (Go.Operand.tmp 81), type := 0, pos := "law.go:97", after := #[{ on := 1, ground := Go.Ground.data }, { on := 2, ground := Go.Ground.data }], guard := none }) (v := ?vv15) rfl (by kernel_rfl) (by kernel_rfl) (by kernel_rfl) (fun _ _ _ h => h) (Or.inl ⟨by rfl, ?hy15⟩) (by assumption) ?rr15
                    case hy15 => intro w hSw; (try dsimp only at hSw); go_simp; all_goals with_reducible rfl
                    try simp only [Act.put, List.setIfInBounds_toArray, List.set_cons_zero, List.set_cons_succ]
                    refine wpAnyH_take (i := 4) (oi := { dst := some 83, op := Go.Op.load 3 (Go.Operand.tmp 82), type := 3, pos := "law.go:97", after := #[{ on := 3, ground := Go.Ground.data }], guard := none }) (v := ?vv16) rfl (by kernel_rfl) (by kernel_rfl) (by kernel_rfl) (fun _ _ _ h => h) (Or.inl ⟨by rfl, ?hy16⟩) (by assumption) ?rr16
                    case hy16 => intro w hSw; (try dsimp only at hSw); go_simp; all_goals with_reducible rfl
                    try simp only [Act.put, List.setIfInBounds_toArray, List.set_cons_zero, List.set_cons_succ]
                    refine wpAnyH_take (i := 5) (oi := { dst := some 84, op := Go.Op.move (Go.Operand.tmp 2), type := 44, pos := "law.go:97", after := #[], guard := none }) (v := ?vv17) rfl (by kernel_rfl) (by kernel_rfl) (by kernel_rfl) (fun _ _ _ h => h) (Or.inl ⟨by rfl, ?hy17⟩) (by assumption) ?rr17
                    case hy17 => intro w hSw; (try dsimp only at hSw); go_simp; all_goals with_reducible rfl
                    try simp only [Act.put, List.setIfInBounds_toArray, List.set_cons_zero, List.set_cons_succ]
                    refine wpAnyH_ready (rs := [6]) (by kernel_rfl) (by simp) ?_
                    refine AllReadyH.cons (i := 6) (o := { dst := some 85, op := Go.Op.call { callee := Go.Callee.value (Go.Operand.func 45), args := #[Go.Operand.tmp 79, Go.Operand.tmp 83, Go.Operand.tmp 84], argTypes := #[24, 3, 44] }, type := 54, pos := "law.go:97", after := #[{ on := 0, ground := Go.Ground.data }, { on := 4, ground := Go.Ground.data }, { on := 5, ground := Go.Ground.data }], guard := none }) rfl (fun K hK => ?_) AllReadyH.nil
                    go_simp
                    go_at_call 45
                    refine (end_any k z way A4 B c4 db _ (OK4.out.below (then_b HW5.out (((Below.refl _ _).drew)))) KM.out (V4.out.below (then_b HW5.out (((Below.refl _ _).drew)))) hwl).mono ?_
                    rintro e w' ⟨rfl, hb⟩
                    rw [E2.out.1, E2.out.2]
                    refine hK.out _ _ ?_ (fun hHeld => ?_)
                    · exact ⟨cell_later hb g0, cell_later hb g1, cell_later hb g2, cell_later hb lc5, then_b (Below.refl _ _).drew hb⟩
                    clear hK K
                    try simp only [Act.put, List.setIfInBounds_toArray, List.set_cons_zero, List.set_cons_succ]
                    have hH1 := hHeld
                    clear hHeld hb
                    have hHeld := hH1
                    refine wpAnyH_take (i := 7) (oi := { dst := some 78, op := Go.Op.move (Go.Operand.tmp 85), type := 54, pos := "law.go:97", after := #[{ on := 6, ground := Go.Ground.data }], guard := none }) (v := ?vv18) rfl (by kernel_rfl) (by kernel_rfl) (by kernel_rfl) (fun _ _ _ h => h) (Or.inl ⟨by rfl, ?hy18⟩) (by assumption) ?rr18
                    case hy18 => intro w hSw; (try dsimp only at hSw); go_simp; all_goals with_reducible rfl
                    try simp only [Act.put, List.setIfInBounds_toArray, List.set_cons_zero, List.set_cons_succ]
                    refine wpAnyH_take (i := 8) (oi := { dst := some 86, op := Go.Op.extract (Go.Operand.tmp 78) 0, type := 3, pos := "law.go:97", after := #[{ on := 7, ground := Go.Ground.data }], guard := none }) (v := ?vv19) rfl (by kernel_rfl) (by kernel_rfl) (by kernel_rfl) (fun _ _ _ h => h) (Or.inl ⟨by rfl, ?hy19⟩) (by assumption) ?rr19
                    case hy19 => intro w hSw; (try dsimp only at hSw); go_simp; all_goals with_reducible rfl
                    try simp only [Act.put, List.setIfInBounds_toArray, List.set_cons_zero, List.set_cons_succ]
                    refine wpAnyH_take (i := 9) (oi := { dst := some 87, op := Go.Op.extract (Go.Operand.tmp 78) 1, type := 4, pos := "law.go:97", after := #[{ on := 7, ground := Go.Ground.data }, { on := 10, ground := Go.Ground.gcOnly Go.Departure.lateStores }], guard := none }) (v := ?vv20) rfl (by kernel_rfl) (by kernel_rfl) (by kernel_rfl) (fun _ _ _ h => h) (Or.inl ⟨by rfl, ?hy20⟩) (by assumption) ?rr20
                    case hy20 => intro w hSw; (try dsimp only at hSw); go_simp; all_goals with_reducible rfl
                    try simp only [Act.put, List.setIfInBounds_toArray, List.set_cons_zero, List.set_cons_succ]
                    refine wpAnyH_take (i := 10) (oi := { dst := some 13, op := Go.Op.assign (Go.Operand.tmp 86), type := 3, pos := "law.go:97", after := #[{ on := 8, ground := Go.Ground.data }, { on := 6, ground := Go.Ground.chain }, { on := 0, ground := Go.Ground.phase }, { on := 1, ground := Go.Ground.phase }, { on := 2, ground := Go.Ground.phase }, { on := 3, ground := Go.Ground.phase }, { on := 4, ground := Go.Ground.phase }, { on := 5, ground := Go.Ground.phase }, { on := 6, ground := Go.Ground.phase }, { on := 7, ground := Go.Ground.phase }, { on := 8, ground := Go.Ground.phase }, { on := 9, ground := Go.Ground.textOnly Go.Departure.lateStores }], guard := none }) (v := ?vv21) rfl (by kernel_rfl) (by kernel_rfl) (by kernel_rfl) (fun _ _ _ h => h) (Or.inl ⟨by rfl, ?hy21⟩) (by assumption) ?rr21
                    case hy21 => intro w hSw; (try dsimp only at hSw); go_simp; all_goals with_reducible rfl
                    try simp only [Act.put, List.setIfInBounds_toArray, List.set_cons_zero, List.set_cons_succ]
                    refine wpAnyH_take (i := 11) (oi := { dst := some 14, op := Go.Op.assign (Go.Operand.tmp 87), type := 4, pos := "law.go:97", after := #[{ on := 9, ground := Go.Ground.data }, { on := 10, ground := Go.Ground.chain }, { on := 0, ground := Go.Ground.phase }, { on := 1, ground := Go.Ground.phase }, { on := 2, ground := Go.Ground.phase }, { on := 3, ground := Go.Ground.phase }, { on := 4, ground := Go.Ground.phase }, { on := 5, ground := Go.Ground.phase }, { on := 6, ground := Go.Ground.phase }, { on := 7, ground := Go.Ground.phase }, { on := 8, ground := Go.Ground.phase }, { on := 9, ground := Go.Ground.phase }, { on := 10, ground := Go.Ground.phase }], guard := none }) (v := ?vv22) rfl (by kernel_rfl) (by kernel_rfl) (by kernel_rfl) (fun _ _ _ h => h) (Or.inl ⟨by rfl, ?hy22⟩) (by assumption) ?rr22
                    case hy22 => intro w hSw; (try dsimp only at hSw); go_simp; all_goals with_reducible rfl
                    try simp only [Act.put, List.setIfInBounds_toArray, List.set_cons_zero, List.set_cons_succ]
                    refine wpAnyH_done (by kernel_rfl) ?_ _
                    have hHeldB := hHeld.2.2.2.2
                    rename World => w6_
                    have HW6 := hid (HW5.out.trans (hHeldB.mono HW5.out.size))
                    have XX6 := hid (XX5.out.later hHeldB)
                    have GG6 := hid (GG5.out.later hHeldB)
                    clear hHeld hHeldB hH1 g0 g1 g2 lc5
                    go_wp2_with fail
                    refine (rn_any _ _).mono ?_
                    rintro e w9 ⟨rfl, hw⟩
                    rw [← hw]
                    clear hw
                    rw [n_zero.1, n_zero.2]
                    go_wp2_with fail
                    go_roundw
                    case rel => exact ⟨j + 1, by omega, by go_num, XX6.out, GG6.out, HW6.out⟩
                    case measure => simp [intOf]; omega
                  · obtain ⟨z2, hz2⟩ : ∃ z2, z2 = vaV t u := ⟨_, rfl⟩
                    rw [← hz2] at h2
                    have E1 := hid (endI_some h1)
                    have E2 := hid (endI_some h2)
                    have HZ2 := hid hz2
                    have HLV := hid hlv
                    clear h1 h2 hz2 hlv
                    refine wp_region_held_drew (S := (fun w' => w'.cell? ⟨w.heap.size, 0, none⟩ = some (.slice A h.objs.length c) ∧ w'.cell? ⟨w.heap.size, 1, none⟩ = some (.int .i64 h.cap) ∧ w'.cell? ⟨w.heap.size, 2, none⟩ = some (.int .i64 h.last) ∧ w'.cell? ⟨br, or_ + j, none⟩ = some (.int .i64 r) ∧ Below wo.heap.size wo w')) (by kernel_rfl) ?_ (fun hHeld => ?_)
                    · exact ⟨x0, x1, x2, rc, (Below.refl _ _).drew⟩
                    refine wpAnyH_take (i := 0) (oi := { dst := some 69, op := Go.Op.load 24 (Go.Operand.tmp 3), type := 24, pos := "law.go:96", after := #[], guard := none }) (v := ?vv23) rfl (by kernel_rfl) (by kernel_rfl) (by kernel_rfl) (fun _ _ _ h => h) (Or.inl ⟨by rfl, ?hy23⟩) (by assumption) ?rr23
                    case hy23 => intro w hSw; (try dsimp only at hSw); go_simp; all_goals with_reducible rfl
                    try simp only [Act.put, List.setIfInBounds_toArray, List.set_cons_zero, List.set_cons_succ]
                    refine wpAnyH_take (i := 1) (oi := { dst := some 70, op := Go.Op.move (Go.Operand.tmp 1), type := 44, pos := "law.go:96", after := #[], guard := none }) (v := ?vv24) rfl (by kernel_rfl) (by kernel_rfl) (by kernel_rfl) (fun _ _ _ h => h) (Or.inl ⟨by rfl, ?hy24⟩) (by assumption) ?rr24
                    case hy24 => intro w hSw; (try dsimp only at hSw); go_simp; all_goals with_reducible rfl
                    try simp only [Act.put, List.setIfInBounds_toArray, List.set_cons_zero, List.set_cons_succ]
                    refine wpAnyH_take (i := 2) (oi := { dst := some 71, op := Go.Op.move (Go.Operand.tmp 10), type := 3, pos := "law.go:96", after := #[], guard := none }) (v := ?vv25) rfl (by kernel_rfl) (by kernel_rfl) (by kernel_rfl) (fun _ _ _ h => h) (Or.inl ⟨by rfl, ?hy25⟩) (by assumption) ?rr25
                    case hy25 => intro w hSw; (try dsimp only at hSw); go_simp; all_goals with_reducible rfl
                    try simp only [Act.put, List.setIfInBounds_toArray, List.set_cons_zero, List.set_cons_succ]
                    refine wpAnyH_take (i := 3) (oi := { dst := some 72, op := Go.Op.indexAddr 44 (Go.Operand.tmp 70) (Go.Operand.tmp 71), type := 0, pos := "law.go:96", after := #[{ on := 1, ground := Go.Ground.data }, { on := 2, ground := Go.Ground.data }], guard := none }) (v := ?vv26) rfl (by kernel_rfl) (by kernel_rfl) (by kernel_rfl) (fun _ _ _ h => h) (Or.inl ⟨by rfl, ?hy26⟩) (by assumption) ?rr26
                    case hy26 => intro w hSw; (try dsimp only at hSw); go_simp; all_goals with_reducible rfl
                    try simp only [Act.put, List.setIfInBounds_toArray, List.set_cons_zero, List.set_cons_succ]
                    refine wpAnyH_take (i := 4) (oi := { dst := some 73, op := Go.Op.load 3 (Go.Operand.tmp 72), type := 3, pos := "law.go:96", after := #[{ on := 3, ground := Go.Ground.data }], guard := none }) (v := ?vv27) rfl (by kernel_rfl) (by kernel_rfl) (by kernel_rfl) (fun _ _ _ h => h) (Or.inl ⟨by rfl, ?hy27⟩) (by assumption) ?rr27
                    case hy27 => intro w hSw; (try dsimp only at hSw); go_simp; all_goals with_reducible rfl
                    try simp only [Act.put, List.setIfInBounds_toArray, List.set_cons_zero, List.set_cons_succ]
                    refine wpAnyH_take (i := 5) (oi := { dst := some 74, op := Go.Op.move (Go.Operand.tmp 2), type := 44, pos := "law.go:96", after := #[], guard := none }) (v := ?vv28) rfl (by kernel_rfl) (by kernel_rfl) (by kernel_rfl) (fun _ _ _ h => h) (Or.inl ⟨by rfl, ?hy28⟩) (by assumption) ?rr28
                    case hy28 => intro w hSw; (try dsimp only at hSw); go_simp; all_goals with_reducible rfl
                    try simp only [Act.put, List.setIfInBounds_toArray, List.set_cons_zero, List.set_cons_succ]
                    refine wpAnyH_ready (rs := [6]) (by kernel_rfl) (by simp) ?_
                    refine AllReadyH.cons (i := 6) (o := { dst := some 75, op := Go.Op.call { callee := Go.Callee.value (Go.Operand.func 45), args := #[Go.Operand.tmp 69, Go.Operand.tmp 73, Go.Operand.tmp 74], argTypes := #[24, 3, 44] }, type := 54, pos := "law.go:96", after := #[{ on := 0, ground := Go.Ground.data }, { on := 4, ground := Go.Ground.data }, { on := 5, ground := Go.Ground.data }], guard := none }) rfl (fun K hK => ?_) AllReadyH.nil
                    go_simp
                    go_at_call 45
                    refine (end_any h r way A B c db _ (O4.out.below (then_b HW.out (((Below.refl _ _).drew)))) HM.out (V4.out.below (then_b HW.out (((Below.refl _ _).drew)))) hwl).mono ?_
                    rintro e w' ⟨rfl, hb⟩
                    rw [E1.out.1, E1.out.2]
                    refine hK.out _ _ ?_ (fun hHeld => ?_)
                    · exact ⟨cell_later hb x0, cell_later hb x1, cell_later hb x2, cell_later hb rc, then_b (Below.refl _ _).drew hb⟩
                    clear hK K
                    try simp only [Act.put, List.setIfInBounds_toArray, List.set_cons_zero, List.set_cons_succ]
                    have hH1 := hHeld
                    clear hHeld hb
                    have hHeld := hH1
                    refine wpAnyH_take (i := 7) (oi := { dst := some 68, op := Go.Op.move (Go.Operand.tmp 75), type := 54, pos := "law.go:96", after := #[{ on := 6, ground := Go.Ground.data }], guard := none }) (v := ?vv29) rfl (by kernel_rfl) (by kernel_rfl) (by kernel_rfl) (fun _ _ _ h => h) (Or.inl ⟨by rfl, ?hy29⟩) (by assumption) ?rr29
                    case hy29 => intro w hSw; (try dsimp only at hSw); go_simp; all_goals with_reducible rfl
                    try simp only [Act.put, List.setIfInBounds_toArray, List.set_cons_zero, List.set_cons_succ]
                    refine wpAnyH_take (i := 8) (oi := { dst := some 76, op := Go.Op.extract (Go.Operand.tmp 68) 0, type := 3, pos := "law.go:96", after := #[{ on := 7, ground := Go.Ground.data }], guard := none }) (v := ?vv30) rfl (by kernel_rfl) (by kernel_rfl) (by kernel_rfl) (fun _ _ _ h => h) (Or.inl ⟨by rfl, ?hy30⟩) (by assumption) ?rr30
                    case hy30 => intro w hSw; (try dsimp only at hSw); go_simp; all_goals with_reducible rfl
                    try simp only [Act.put, List.setIfInBounds_toArray, List.set_cons_zero, List.set_cons_succ]
                    refine wpAnyH_take (i := 9) (oi := { dst := some 77, op := Go.Op.extract (Go.Operand.tmp 68) 1, type := 4, pos := "law.go:96", after := #[{ on := 7, ground := Go.Ground.data }, { on := 10, ground := Go.Ground.gcOnly Go.Departure.lateStores }], guard := none }) (v := ?vv31) rfl (by kernel_rfl) (by kernel_rfl) (by kernel_rfl) (fun _ _ _ h => h) (Or.inl ⟨by rfl, ?hy31⟩) (by assumption) ?rr31
                    case hy31 => intro w hSw; (try dsimp only at hSw); go_simp; all_goals with_reducible rfl
                    try simp only [Act.put, List.setIfInBounds_toArray, List.set_cons_zero, List.set_cons_succ]
                    refine wpAnyH_take (i := 10) (oi := { dst := some 11, op := Go.Op.assign (Go.Operand.tmp 76), type := 3, pos := "law.go:96", after := #[{ on := 8, ground := Go.Ground.data }, { on := 6, ground := Go.Ground.chain }, { on := 0, ground := Go.Ground.phase }, { on := 1, ground := Go.Ground.phase }, { on := 2, ground := Go.Ground.phase }, { on := 3, ground := Go.Ground.phase }, { on := 4, ground := Go.Ground.phase }, { on := 5, ground := Go.Ground.phase }, { on := 6, ground := Go.Ground.phase }, { on := 7, ground := Go.Ground.phase }, { on := 8, ground := Go.Ground.phase }, { on := 9, ground := Go.Ground.textOnly Go.Departure.lateStores }], guard := none }) (v := ?vv32) rfl (by kernel_rfl) (by kernel_rfl) (by kernel_rfl) (fun _ _ _ h => h) (Or.inl ⟨by rfl, ?hy32⟩) (by assumption) ?rr32
                    case hy32 => intro w hSw; (try dsimp only at hSw); go_simp; all_goals with_reducible rfl
                    try simp only [Act.put, List.setIfInBounds_toArray, List.set_cons_zero, List.set_cons_succ]
                    refine wpAnyH_take (i := 11) (oi := { dst := some 12, op := Go.Op.assign (Go.Operand.tmp 77), type := 4, pos := "law.go:96", after := #[{ on := 9, ground := Go.Ground.data }, { on := 10, ground := Go.Ground.chain }, { on := 0, ground := Go.Ground.phase }, { on := 1, ground := Go.Ground.phase }, { on := 2, ground := Go.Ground.phase }, { on := 3, ground := Go.Ground.phase }, { on := 4, ground := Go.Ground.phase }, { on := 5, ground := Go.Ground.phase }, { on := 6, ground := Go.Ground.phase }, { on := 7, ground := Go.Ground.phase }, { on := 8, ground := Go.Ground.phase }, { on := 9, ground := Go.Ground.phase }, { on := 10, ground := Go.Ground.phase }], guard := none }) (v := ?vv33) rfl (by kernel_rfl) (by kernel_rfl) (by kernel_rfl) (fun _ _ _ h => h) (Or.inl ⟨by rfl, ?hy33⟩) (by assumption) ?rr33
                    case hy33 => intro w hSw; (try dsimp only at hSw); go_simp; all_goals with_reducible rfl
                    try simp only [Act.put, List.setIfInBounds_toArray, List.set_cons_zero, List.set_cons_succ]
                    refine wpAnyH_done (by kernel_rfl) ?_ _
                    have hHeldB := hHeld.2.2.2.2
                    rename World => w5_
                    have HW5 := hid (HW.out.trans (hHeldB.mono HW.out.size))
                    have XX5 := hid (HX.out.later hHeldB)
                    have GG5 := hid (HG.out.later hHeldB)
                    have lc5 := cell_later hHeldB lc
                    clear hHeld hHeldB hH1 x0 x1 x2 g0 g1 g2 rc lc
                    have g0 := GG5.out.cell 0
                    have g1 := GG5.out.cell 1
                    have g2 := GG5.out.cell 2
                    simp only [List.getElem?_toArray, List.getElem?_cons_zero, List.getElem?_cons_succ] at g0 g1 g2
                    go_wp2_with fail
                    refine wp_region_held_drew (S := (fun w' => w'.cell? ⟨w4.heap.size, 0, none⟩ = some (.slice A4 k.objs.length c4) ∧ w'.cell? ⟨w4.heap.size, 1, none⟩ = some (.int .i64 k.cap) ∧ w'.cell? ⟨w4.heap.size, 2, none⟩ = some (.int .i64 k.last) ∧ w'.cell? ⟨bl, ol + j, none⟩ = some (.int .i64 z) ∧ Below w5_.heap.size w5_ w')) (by kernel_rfl) ?_ (fun hHeld => ?_)
                    · exact ⟨g0, g1, g2, lc5, (Below.refl _ _).drew⟩
                    refine wpAnyH_take (i := 0) (oi := { dst := some 79, op := Go.Op.load 24 (Go.Operand.tmp 7), type := 24, pos := "law.go:97", after := #[], guard := none }) (v := ?vv34) rfl (by kernel_rfl) (by kernel_rfl) (by kernel_rfl) (fun _ _ _ h => h) (Or.inl ⟨by rfl, ?hy34⟩) (by assumption) ?rr34
                    case hy34 => intro w hSw; (try dsimp only at hSw); go_simp; all_goals with_reducible rfl
                    try simp only [Act.put, List.setIfInBounds_toArray, List.set_cons_zero, List.set_cons_succ]
                    refine wpAnyH_take (i := 1) (oi := { dst := some 80, op := Go.Op.move (Go.Operand.tmp 8), type := 44, pos := "law.go:97", after := #[], guard := none }) (v := ?vv35) rfl (by kernel_rfl) (by kernel_rfl) (by kernel_rfl) (fun _ _ _ h => h) (Or.inl ⟨by rfl, ?hy35⟩) (by assumption) ?rr35
                    case hy35 => intro w hSw; (try dsimp only at hSw); go_simp; all_goals with_reducible rfl
                    try simp only [Act.put, List.setIfInBounds_toArray, List.set_cons_zero, List.set_cons_succ]
                    refine wpAnyH_take (i := 2) (oi := { dst := some 81, op := Go.Op.move (Go.Operand.tmp 10), type := 3, pos := "law.go:97", after := #[], guard := none }) (v := ?vv36) rfl (by kernel_rfl) (by kernel_rfl) (by kernel_rfl) (fun _ _ _ h => h) (Or.inl ⟨by rfl, ?hy36⟩) (by assumption) ?rr36
                    case hy36 => intro w hSw; (try dsimp only at hSw); go_simp; all_goals with_reducible rfl
                    try simp only [Act.put, List.setIfInBounds_toArray, List.set_cons_zero, List.set_cons_succ]
                    refine wpAnyH_take (i := 3) (oi := { dst := some 82, op := Go.Op.indexAddr 44 (Go.Operand.tmp 80) (Go.Operand.tmp 81), type := 0, pos := "law.go:97", after := #[{ on := 1, ground := Go.Ground.data }, { on := 2, ground := Go.Ground.data }], guard := none }) (v := ?vv37) rfl (by kernel_rfl) (by kernel_rfl) (by kernel_rfl) (fun _ _ _ h => h) (Or.inl ⟨by rfl, ?hy37⟩) (by assumption) ?rr37
                    case hy37 => intro w hSw; (try dsimp only at hSw); go_simp; all_goals with_reducible rfl
                    try simp only [Act.put, List.setIfInBounds_toArray, List.set_cons_zero, List.set_cons_succ]
                    refine wpAnyH_take (i := 4) (oi := { dst := some 83, op := Go.Op.load 3 (Go.Operand.tmp 82), type := 3, pos := "law.go:97", after := #[{ on := 3, ground := Go.Ground.data }], guard := none }) (v := ?vv38) rfl (by kernel_rfl) (by kernel_rfl) (by kernel_rfl) (fun _ _ _ h => h) (Or.inl ⟨by rfl, ?hy38⟩) (by assumption) ?rr38
                    case hy38 => intro w hSw; (try dsimp only at hSw); go_simp; all_goals with_reducible rfl
                    try simp only [Act.put, List.setIfInBounds_toArray, List.set_cons_zero, List.set_cons_succ]
                    refine wpAnyH_take (i := 5) (oi := { dst := some 84, op := Go.Op.move (Go.Operand.tmp 2), type := 44, pos := "law.go:97", after := #[], guard := none }) (v := ?vv39) rfl (by kernel_rfl) (by kernel_rfl) (by kernel_rfl) (fun _ _ _ h => h) (Or.inl ⟨by rfl, ?hy39⟩) (by assumption) ?rr39
                    case hy39 => intro w hSw; (try dsimp only at hSw); go_simp; all_goals with_reducible rfl
                    try simp only [Act.put, List.setIfInBounds_toArray, List.set_cons_zero, List.set_cons_succ]
                    refine wpAnyH_ready (rs := [6]) (by kernel_rfl) (by simp) ?_
                    refine AllReadyH.cons (i := 6) (o := { dst := some 85, op := Go.Op.call { callee := Go.Callee.value (Go.Operand.func 45), args := #[Go.Operand.tmp 79, Go.Operand.tmp 83, Go.Operand.tmp 84], argTypes := #[24, 3, 44] }, type := 54, pos := "law.go:97", after := #[{ on := 0, ground := Go.Ground.data }, { on := 4, ground := Go.Ground.data }, { on := 5, ground := Go.Ground.data }], guard := none }) rfl (fun K hK => ?_) AllReadyH.nil
                    go_simp
                    go_at_call 45
                    refine (end_any k z way A4 B c4 db _ (OK4.out.below (then_b HW5.out (((Below.refl _ _).drew)))) KM.out (V4.out.below (then_b HW5.out (((Below.refl _ _).drew)))) hwl).mono ?_
                    rintro e w' ⟨rfl, hb⟩
                    rw [E2.out.1, E2.out.2]
                    refine hK.out _ _ ?_ (fun hHeld => ?_)
                    · exact ⟨cell_later hb g0, cell_later hb g1, cell_later hb g2, cell_later hb lc5, then_b (Below.refl _ _).drew hb⟩
                    clear hK K
                    try simp only [Act.put, List.setIfInBounds_toArray, List.set_cons_zero, List.set_cons_succ]
                    have hH1 := hHeld
                    clear hHeld hb
                    have hHeld := hH1
                    refine wpAnyH_take (i := 7) (oi := { dst := some 78, op := Go.Op.move (Go.Operand.tmp 85), type := 54, pos := "law.go:97", after := #[{ on := 6, ground := Go.Ground.data }], guard := none }) (v := ?vv40) rfl (by kernel_rfl) (by kernel_rfl) (by kernel_rfl) (fun _ _ _ h => h) (Or.inl ⟨by rfl, ?hy40⟩) (by assumption) ?rr40
                    case hy40 => intro w hSw; (try dsimp only at hSw); go_simp; all_goals with_reducible rfl
                    try simp only [Act.put, List.setIfInBounds_toArray, List.set_cons_zero, List.set_cons_succ]
                    refine wpAnyH_take (i := 8) (oi := { dst := some 86, op := Go.Op.extract (Go.Operand.tmp 78) 0, type := 3, pos := "law.go:97", after := #[{ on := 7, ground := Go.Ground.data }], guard := none }) (v := ?vv41) rfl (by kernel_rfl) (by kernel_rfl) (by kernel_rfl) (fun _ _ _ h => h) (Or.inl ⟨by rfl, ?hy41⟩) (by assumption) ?rr41
                    case hy41 => intro w hSw; (try dsimp only at hSw); go_simp; all_goals with_reducible rfl
                    try simp only [Act.put, List.setIfInBounds_toArray, List.set_cons_zero, List.set_cons_succ]
                    refine wpAnyH_take (i := 9) (oi := { dst := some 87, op := Go.Op.extract (Go.Operand.tmp 78) 1, type := 4, pos := "law.go:97", after := #[{ on := 7, ground := Go.Ground.data }, { on := 10, ground := Go.Ground.gcOnly Go.Departure.lateStores }], guard := none }) (v := ?vv42) rfl (by kernel_rfl) (by kernel_rfl) (by kernel_rfl) (fun _ _ _ h => h) (Or.inl ⟨by rfl, ?hy42⟩) (by assumption) ?rr42
                    case hy42 => intro w hSw; (try dsimp only at hSw); go_simp; all_goals with_reducible rfl
                    try simp only [Act.put, List.setIfInBounds_toArray, List.set_cons_zero, List.set_cons_succ]
                    refine wpAnyH_take (i := 10) (oi := { dst := some 13, op := Go.Op.assign (Go.Operand.tmp 86), type := 3, pos := "law.go:97", after := #[{ on := 8, ground := Go.Ground.data }, { on := 6, ground := Go.Ground.chain }, { on := 0, ground := Go.Ground.phase }, { on := 1, ground := Go.Ground.phase }, { on := 2, ground := Go.Ground.phase }, { on := 3, ground := Go.Ground.phase }, { on := 4, ground := Go.Ground.phase }, { on := 5, ground := Go.Ground.phase }, { on := 6, ground := Go.Ground.phase }, { on := 7, ground := Go.Ground.phase }, { on := 8, ground := Go.Ground.phase }, { on := 9, ground := Go.Ground.textOnly Go.Departure.lateStores }], guard := none }) (v := ?vv43) rfl (by kernel_rfl) (by kernel_rfl) (by kernel_rfl) (fun _ _ _ h => h) (Or.inl ⟨by rfl, ?hy43⟩) (by assumption) ?rr43
                    case hy43 => intro w hSw; (try dsimp only at hSw); go_simp; all_goals with_reducible rfl
                    try simp only [Act.put, List.setIfInBounds_toArray, List.set_cons_zero, List.set_cons_succ]
                    refine wpAnyH_take (i := 11) (oi := { dst := some 14, op := Go.Op.assign (Go.Operand.tmp 87), type := 4, pos := "law.go:97", after := #[{ on := 9, ground := Go.Ground.data }, { on := 10, ground := Go.Ground.chain }, { on := 0, ground := Go.Ground.phase }, { on := 1, ground := Go.Ground.phase }, { on := 2, ground := Go.Ground.phase }, { on := 3, ground := Go.Ground.phase }, { on := 4, ground := Go.Ground.phase }, { on := 5, ground := Go.Ground.phase }, { on := 6, ground := Go.Ground.phase }, { on := 7, ground := Go.Ground.phase }, { on := 8, ground := Go.Ground.phase }, { on := 9, ground := Go.Ground.phase }, { on := 10, ground := Go.Ground.phase }], guard := none }) (v := ?vv44) rfl (by kernel_rfl) (by kernel_rfl) (by kernel_rfl) (fun _ _ _ h => h) (Or.inl ⟨by rfl, ?hy44⟩) (by assumption) ?rr44
                    case hy44 => intro w hSw; (try dsimp only at hSw); go_simp; all_goals with_reducible rfl
                    try simp only [Act.put, List.setIfInBounds_toArray, List.set_cons_zero, List.set_cons_succ]
                    refine wpAnyH_done (by kernel_rfl) ?_ _
                    have hHeldB := hHeld.2.2.2.2
                    rename World => w6_
                    have HW6 := hid (HW5.out.trans (hHeldB.mono HW5.out.size))
                    have XX6 := hid (XX5.out.later hHeldB)
                    have GG6 := hid (GG5.out.later hHeldB)
                    clear hHeld hHeldB hH1 g0 g1 g2 lc5
                    go_wp2_with fail
                    refine (rn_any _ _).mono ?_
                    rintro e w9 ⟨rfl, hw⟩
                    rw [← hw]
                    clear hw
                    cases hn : nB u
                    · obtain ⟨q, p, o, hq, hp, hoq, hkp⟩ := HWO.out u HLV.out hn
                      rw [← HZ2.out] at hp
                      obtain ⟨b, off, rfl, hb, hc⟩ := O4.out (by have := (List.getElem?_eq_some_iff.1 hoq).1; omega)
                      obtain ⟨S, ds, hob, -, -, -⟩ := hc q _ hoq
                      obtain ⟨b2, off2, rfl, hb2, hc2⟩ := OK4.out (by have := (List.getElem?_eq_some_iff.1 hkp).1; omega)
                      obtain ⟨S2, ds2, hob2, -, -, -⟩ := hc2 p _ hkp
                      have hqn : q < h.objs.length := (List.getElem?_eq_some_iff.1 hoq).1
                      have hpn : p < k.objs.length := (List.getElem?_eq_some_iff.1 hkp).1
                      have hms : (moO t o).slots.length = o.slots.length := by simp [moO]
                      obtain ⟨zc, hzc⟩ : ∃ zc, zc = vaV t o.cls := ⟨_, rfl⟩
                      obtain ⟨o2, ho2⟩ : ∃ o2 : Ob, o2 = moO t o := ⟨_, rfl⟩
                      have f1 : o2.cls = zc := by rw [ho2, hzc]; rfl
                      have f2 : o2.kind = o.kind := by rw [ho2]; rfl
                      have f3 : o2.slots.length = o.slots.length := by rw [ho2, hms]
                      have f4 : o2.text = o.text := by rw [ho2]; rfl
                      have f5 : o2.bits = o.bits := by rw [ho2]; rfl
                      have f6 : o2.hash = o.hash := by rw [ho2]; rfl
                      have hob3 : ObX (w4.alloc (.cells #[Value.slice (some ⟨b2, off2, none⟩) k.objs.length c4, Value.int .i64 k.cap, Value.int .i64 k.last] 24)) b2 (off2 + p * 6) zc o.kind S2 o.slots.length ds2 o.text o.bits o.hash := by
                        rw [← ho2] at hob2
                        rw [← f1, ← f2, ← f3, ← f4, ← f5, ← f6]
                        exact ⟨hob2.c0, hob2.c1, hob2.c2, hob2.c3, hob2.c4, hob2.c5⟩
                      have HOB2 := hid hob3
                      have hri : refI h.objs.length u = (q : Int) := hq
                      have hrk : refI k.objs.length z2 = (p : Int) := hp
                      obtain ⟨a0, a1, a2, a3, a4, a5⟩ := hob.below hb HW6.out
                      have hnb : b ≠ w6_.heap.size := Nat.ne_of_lt (Nat.lt_of_lt_of_le hb HW6.out.size)
                      have hnx : w.heap.size ≠ w6_.heap.size := Nat.ne_of_lt XX6.out.lt
                      clear hc hc2 hob hob2 hob3 hoq hkp hms hzc ho2 f1 f2 f3 f4 f5 f6 hq hp
                      have x0 := XX6.out.cell 0
                      have x1 := XX6.out.cell 1
                      have x2 := XX6.out.cell 2
                      simp only [List.getElem?_toArray, List.getElem?_cons_zero, List.getElem?_cons_succ] at x0 x1 x2
                      go_wp2_with fail
                      refine wp_region_held_drew (S := (fun w' => w'.cell? ⟨w.heap.size, 0, none⟩ = some (.slice (some ⟨b, off, none⟩) h.objs.length c) ∧ w'.cell? ⟨w.heap.size, 1, none⟩ = some (.int .i64 h.cap) ∧ w'.cell? ⟨w.heap.size, 2, none⟩ = some (.int .i64 h.last) ∧ w'.cell? ⟨b, off + q * 6, none⟩ = some (.int .i64 o.cls) ∧ w'.cell? ⟨b, off + q * 6 + 1, none⟩ = some (.int .i64 o.kind) ∧ w'.cell? ⟨b, off + q * 6 + 2, none⟩ = some (.slice S o.slots.length ds) ∧ w'.cell? ⟨b, off + q * 6 + 3, none⟩ = some (.string o.text) ∧ w'.cell? ⟨b, off + q * 6 + 4, none⟩ = some (.int .i64 o.bits) ∧ w'.cell? ⟨b, off + q * 6 + 5, none⟩ = some (.int .i64 o.hash))) (by kernel_rfl) ?_ (fun hH0 => ?_)
                      · exact ⟨x0, x1, x2, a0, a1, a2, a3, a4, a5⟩
                      refine wpAnyH_take (i := 0) (oi := { dst := some 104, op := Go.Op.fieldAddr 24 (Go.Operand.tmp 3) 0, type := 0, pos := "law.go:108", after := #[], guard := none }) (v := ?vv45) rfl (by kernel_rfl) (by kernel_rfl) (by kernel_rfl) (fun _ _ _ h => h) (Or.inl ⟨by rfl, ?hy45⟩) (by assumption) ?rr45
                      case hy45 => intro w hSw; (try dsimp only at hSw); go_simp; all_goals with_reducible rfl
                      try simp only [Act.put, List.setIfInBounds_toArray, List.set_cons_zero, List.set_cons_succ]
                      refine wpAnyH_take (i := 1) (oi := { dst := some 105, op := Go.Op.load 22 (Go.Operand.tmp 104), type := 22, pos := "law.go:108", after := #[{ on := 0, ground := Go.Ground.data }], guard := none }) (v := ?vv46) rfl (by kernel_rfl) (by kernel_rfl) (by kernel_rfl) (fun _ _ _ h => h) (Or.inl ⟨by rfl, ?hy46⟩) (by assumption) ?rr46
                      case hy46 => intro w hSw; (try dsimp only at hSw); go_simp; all_goals with_reducible rfl
                      try simp only [Act.put, List.setIfInBounds_toArray, List.set_cons_zero, List.set_cons_succ]
                      refine wpAnyH_take (i := 2) (oi := { dst := some 106, op := Go.Op.load 24 (Go.Operand.tmp 3), type := 24, pos := "law.go:108", after := #[], guard := none }) (v := ?vv47) rfl (by kernel_rfl) (by kernel_rfl) (by kernel_rfl) (fun _ _ _ h => h) (Or.inl ⟨by rfl, ?hy47⟩) (by assumption) ?rr47
                      case hy47 => intro w hSw; (try dsimp only at hSw); go_simp; all_goals with_reducible rfl
                      try simp only [Act.put, List.setIfInBounds_toArray, List.set_cons_zero, List.set_cons_succ]
                      refine wpAnyH_take (i := 3) (oi := { dst := some 107, op := Go.Op.move (Go.Operand.tmp 11), type := 3, pos := "law.go:108", after := #[], guard := none }) (v := ?vv48) rfl (by kernel_rfl) (by kernel_rfl) (by kernel_rfl) (fun _ _ _ h => h) (Or.inl ⟨by rfl, ?hy48⟩) (by assumption) ?rr48
                      case hy48 => intro w hSw; (try dsimp only at hSw); go_simp; all_goals with_reducible rfl
                      try simp only [Act.put, List.setIfInBounds_toArray, List.set_cons_zero, List.set_cons_succ]
                      refine wpAnyH_ready (rs := [4, 7]) (by kernel_rfl) (by simp) ?_
                      refine AllReadyH.cons (i := 4) (o := { dst := some 108, op := Go.Op.call { callee := Go.Callee.value (Go.Operand.func 34), args := #[Go.Operand.tmp 106, Go.Operand.tmp 107], argTypes := #[24, 3] }, type := 3, pos := "law.go:108", after := #[{ on := 2, ground := Go.Ground.data }, { on := 3, ground := Go.Ground.data }], guard := none }) rfl (fun K hK => ?_) (AllReadyH.cons (i := 7) (o := { dst := some 17, op := Go.Op.alloc 46, type := 0, pos := "law.go:108", after := #[], guard := none }) rfl (fun K hK => ?_) AllReadyH.nil)
                      · go_simp
                        go_at_call 34
                        refine (rref_any h u (some ⟨b, off, none⟩) c _).mono ?_
                        rintro e w' ⟨rfl, hb⟩
                        rw [hri]
                        have hB0_ : Below w6_.heap.size w6_ w' := then_b (Below.refl _ _).drew hb
                        refine hK.out _ _ ?_ (fun hH1 => ?_)
                        · exact ⟨cell_later hb hH0.1, cell_later hb hH0.2.1, cell_later hb hH0.2.2.1, cell_later hb hH0.2.2.2.1, cell_later hb hH0.2.2.2.2.1, cell_later hb hH0.2.2.2.2.2.1, cell_later hb hH0.2.2.2.2.2.2.1, cell_later hb hH0.2.2.2.2.2.2.2.1, cell_later hb hH0.2.2.2.2.2.2.2.2⟩
                        clear hK K
                        try simp only [Act.put, List.setIfInBounds_toArray, List.set_cons_zero, List.set_cons_succ]
                        clear hb
                        refine wpAnyH_take (i := 5) (oi := { dst := some 109, op := Go.Op.indexAddr 22 (Go.Operand.tmp 105) (Go.Operand.tmp 108), type := 0, pos := "law.go:108", after := #[{ on := 1, ground := Go.Ground.data }, { on := 4, ground := Go.Ground.data }], guard := none }) (v := ?vv49) rfl (by kernel_rfl) (by kernel_rfl) (by kernel_rfl) (fun _ _ _ h => h) (Or.inl ⟨by rfl, ?hy49⟩) (by assumption) ?rr49
                        case hy49 => intro w hSw; (try dsimp only at hSw); go_simp; all_goals with_reducible rfl
                        try simp only [Act.put, List.setIfInBounds_toArray, List.set_cons_zero, List.set_cons_succ]
                        refine wpAnyH_take (i := 6) (oi := { dst := some 110, op := Go.Op.load 46 (Go.Operand.tmp 109), type := 46, pos := "law.go:108", after := #[{ on := 5, ground := Go.Ground.data }], guard := none }) (v := ?vv50) rfl (by kernel_rfl) (by kernel_rfl) (by kernel_rfl) (fun _ _ _ h => h) (Or.inl ⟨by rfl, ?hy50⟩) (by assumption) ?rr50
                        case hy50 => intro w hSw; (try dsimp only at hSw); go_simp; all_goals with_reducible rfl
                        try simp only [Act.put, List.setIfInBounds_toArray, List.set_cons_zero, List.set_cons_succ]
                        refine wpAnyH_ready (rs := [7]) (by kernel_rfl) (by simp) ?_
                        refine AllReadyH.cons (i := 7) (o := { dst := some 17, op := Go.Op.alloc 46, type := 0, pos := "law.go:108", after := #[], guard := none }) rfl (fun K hK => ?_) AllReadyH.nil
                        go_simp
                        refine hK.out _ _ ?_ (fun hH2 => ?_)
                        · exact ⟨cell_old hH1.1, cell_old hH1.2.1, cell_old hH1.2.2.1, cell_old hH1.2.2.2.1, cell_old hH1.2.2.2.2.1, cell_old hH1.2.2.2.2.2.1, cell_old hH1.2.2.2.2.2.2.1, cell_old hH1.2.2.2.2.2.2.2.1, cell_old hH1.2.2.2.2.2.2.2.2⟩
                        clear hK K
                        try simp only [Act.put, List.setIfInBounds_toArray, List.set_cons_zero, List.set_cons_succ]
                        refine wpAnyH_ready (rs := [8]) (by kernel_rfl) (by simp) ?_
                        refine AllReadyH.cons (i := 8) (o := { dst := none, op := Go.Op.store 46 (Go.Operand.tmp 17) (Go.Operand.tmp 110), type := 0, pos := "law.go:108", after := #[{ on := 7, ground := Go.Ground.data }, { on := 6, ground := Go.Ground.data }, { on := 4, ground := Go.Ground.chain }, { on := 0, ground := Go.Ground.phase }, { on := 1, ground := Go.Ground.phase }, { on := 2, ground := Go.Ground.phase }, { on := 3, ground := Go.Ground.phase }, { on := 4, ground := Go.Ground.phase }, { on := 5, ground := Go.Ground.phase }, { on := 6, ground := Go.Ground.phase }, { on := 7, ground := Go.Ground.phase }], guard := none }) rfl (fun K hK => ?_) AllReadyH.nil
                        go_simp
                        refine hK.out _ _ ?_ (fun hH3 => ?_)
                        · exact ⟨cell_old hH1.1, cell_old hH1.2.1, cell_old hH1.2.2.1, cell_old hH1.2.2.2.1, cell_old hH1.2.2.2.2.1, cell_old hH1.2.2.2.2.2.1, cell_old hH1.2.2.2.2.2.2.1, cell_old hH1.2.2.2.2.2.2.2.1, cell_old hH1.2.2.2.2.2.2.2.2⟩
                        clear hK K
                        try simp only [Act.put, List.setIfInBounds_toArray, List.set_cons_zero, List.set_cons_succ]
                        refine wpAnyH_done (by kernel_rfl) ?_ _
                        obtain ⟨nbV19, hN⟩ : ∃ n, n = w'.heap.size := ⟨_, rfl⟩
                        rw [← hN]
                        obtain ⟨V19, hV⟩ : ∃ V, V = w'.alloc (.cells #[.int .i64 o.cls, .int .i64 o.kind, .slice S o.slots.length ds, .string o.text, .int .i64 o.bits, .int .i64 o.hash] 46) := ⟨_, rfl⟩
                        have hLV : Lies V19 nbV19 46 #[.int .i64 o.cls, .int .i64 o.kind, .slice S o.slots.length ds, .string o.text, .int .i64 o.bits, .int .i64 o.hash] := by rw [hV, hN]; exact Lies.new _ _ _
                        have hBV : Below w6_.heap.size w6_ V19 := by rw [hV]; exact then_b hB0_ (below_alloc _ _)
                        rw [← hV]
                        clear hV hN
                        have L17 := hid hLV
                        clear hLV hB0_
                        have X8_ := hid (XX6.out.later hBV)
                        have G8_ := hid (GG6.out.later hBV)
                        have HW8 := hid (HW6.out.trans (hBV.mono HW6.out.size))
                        clear hBV x0 x1 x2 a0 a1 a2 a3 a4 a5
                        have g0 := G8_.out.cell 0
                        have g1 := G8_.out.cell 1
                        have g2 := G8_.out.cell 2
                        simp only [List.getElem?_toArray, List.getElem?_cons_zero, List.getElem?_cons_succ] at g0 g1 g2
                        go_wp2_with fail
                        refine (rref_any k z2 (some ⟨b2, off2, none⟩) c4 _).mono ?_
                        rintro e w8 ⟨rfl, hb⟩
                        rw [hrk]
                        have X9_ := hid (X8_.out.later hb)
                        have G9_ := hid (G8_.out.later hb)
                        have HW9 := hid (HW8.out.trans (hb.mono HW8.out.size))
                        have L17b := hid (L17.out.later hb)
                        clear hb g0 g1 g2
                        have g0 := G9_.out.cell 0
                        have g1 := G9_.out.cell 1
                        have g2 := G9_.out.cell 2
                        simp only [List.getElem?_toArray, List.getElem?_cons_zero, List.getElem?_cons_succ] at g0 g1 g2
                        obtain ⟨b0, b1, b2', b3, b4, b5⟩ := HOB2.out.below hb2 HW9.out
                        have hnb2 : b2 ≠ w8.heap.size := Nat.ne_of_lt (Nat.lt_of_lt_of_le hb2 HW9.out.size)
                        have hng2 : w4.heap.size ≠ w8.heap.size := Nat.ne_of_lt G9_.out.lt
                        go_wp2_with fail
                        refine wp_region_held_drew (S := (fun w' => w'.cell? ⟨w4.heap.size, 0, none⟩ = some (.slice (some ⟨b2, off2, none⟩) k.objs.length c4) ∧ w'.cell? ⟨w4.heap.size, 1, none⟩ = some (.int .i64 k.cap) ∧ w'.cell? ⟨w4.heap.size, 2, none⟩ = some (.int .i64 k.last) ∧ w'.cell? ⟨b2, off2 + p * 6, none⟩ = some (.int .i64 zc) ∧ w'.cell? ⟨b2, off2 + p * 6 + 1, none⟩ = some (.int .i64 o.kind) ∧ w'.cell? ⟨b2, off2 + p * 6 + 2, none⟩ = some (.slice S2 o.slots.length ds2) ∧ w'.cell? ⟨b2, off2 + p * 6 + 3, none⟩ = some (.string o.text) ∧ w'.cell? ⟨b2, off2 + p * 6 + 4, none⟩ = some (.int .i64 o.bits) ∧ w'.cell? ⟨b2, off2 + p * 6 + 5, none⟩ = some (.int .i64 o.hash))) (by kernel_rfl) ?_ (fun hH0 => ?_)
                        · exact ⟨g0, g1, g2, b0, b1, b2', b3, b4, b5⟩
                        refine wpAnyH_take (i := 0) (oi := { dst := some 115, op := Go.Op.fieldAddr 24 (Go.Operand.tmp 7) 0, type := 0, pos := "law.go:112", after := #[], guard := none }) (v := ?vv51) rfl (by kernel_rfl) (by kernel_rfl) (by kernel_rfl) (fun _ _ _ h => h) (Or.inl ⟨by rfl, ?hy51⟩) (by assumption) ?rr51
                        case hy51 => intro w hSw; (try dsimp only at hSw); go_simp; all_goals with_reducible rfl
                        try simp only [Act.put, List.setIfInBounds_toArray, List.set_cons_zero, List.set_cons_succ]
                        refine wpAnyH_take (i := 1) (oi := { dst := some 116, op := Go.Op.load 22 (Go.Operand.tmp 115), type := 22, pos := "law.go:112", after := #[{ on := 0, ground := Go.Ground.data }], guard := none }) (v := ?vv52) rfl (by kernel_rfl) (by kernel_rfl) (by kernel_rfl) (fun _ _ _ h => h) (Or.inl ⟨by rfl, ?hy52⟩) (by assumption) ?rr52
                        case hy52 => intro w hSw; (try dsimp only at hSw); go_simp; all_goals with_reducible rfl
                        try simp only [Act.put, List.setIfInBounds_toArray, List.set_cons_zero, List.set_cons_succ]
                        refine wpAnyH_take (i := 2) (oi := { dst := some 117, op := Go.Op.load 24 (Go.Operand.tmp 7), type := 24, pos := "law.go:112", after := #[], guard := none }) (v := ?vv53) rfl (by kernel_rfl) (by kernel_rfl) (by kernel_rfl) (fun _ _ _ h => h) (Or.inl ⟨by rfl, ?hy53⟩) (by assumption) ?rr53
                        case hy53 => intro w hSw; (try dsimp only at hSw); go_simp; all_goals with_reducible rfl
                        try simp only [Act.put, List.setIfInBounds_toArray, List.set_cons_zero, List.set_cons_succ]
                        refine wpAnyH_take (i := 3) (oi := { dst := some 118, op := Go.Op.move (Go.Operand.tmp 13), type := 3, pos := "law.go:112", after := #[], guard := none }) (v := ?vv54) rfl (by kernel_rfl) (by kernel_rfl) (by kernel_rfl) (fun _ _ _ h => h) (Or.inl ⟨by rfl, ?hy54⟩) (by assumption) ?rr54
                        case hy54 => intro w hSw; (try dsimp only at hSw); go_simp; all_goals with_reducible rfl
                        try simp only [Act.put, List.setIfInBounds_toArray, List.set_cons_zero, List.set_cons_succ]
                        refine wpAnyH_ready (rs := [4, 7]) (by kernel_rfl) (by simp) ?_
                        refine AllReadyH.cons (i := 4) (o := { dst := some 119, op := Go.Op.call { callee := Go.Callee.value (Go.Operand.func 34), args := #[Go.Operand.tmp 117, Go.Operand.tmp 118], argTypes := #[24, 3] }, type := 3, pos := "law.go:112", after := #[{ on := 2, ground := Go.Ground.data }, { on := 3, ground := Go.Ground.data }], guard := none }) rfl (fun K hK => ?_) (AllReadyH.cons (i := 7) (o := { dst := some 18, op := Go.Op.alloc 46, type := 0, pos := "law.go:112", after := #[], guard := none }) rfl (fun K hK => ?_) AllReadyH.nil)
                        · go_simp
                          go_at_call 34
                          refine (rref_any k z2 (some ⟨b2, off2, none⟩) c4 _).mono ?_
                          rintro e w' ⟨rfl, hb⟩
                          rw [hrk]
                          have hB0_ : Below w8.heap.size w8 w' := then_b (Below.refl _ _).drew hb
                          refine hK.out _ _ ?_ (fun hH1 => ?_)
                          · exact ⟨cell_later hb hH0.1, cell_later hb hH0.2.1, cell_later hb hH0.2.2.1, cell_later hb hH0.2.2.2.1, cell_later hb hH0.2.2.2.2.1, cell_later hb hH0.2.2.2.2.2.1, cell_later hb hH0.2.2.2.2.2.2.1, cell_later hb hH0.2.2.2.2.2.2.2.1, cell_later hb hH0.2.2.2.2.2.2.2.2⟩
                          clear hK K
                          try simp only [Act.put, List.setIfInBounds_toArray, List.set_cons_zero, List.set_cons_succ]
                          clear hb
                          refine wpAnyH_take (i := 5) (oi := { dst := some 120, op := Go.Op.indexAddr 22 (Go.Operand.tmp 116) (Go.Operand.tmp 119), type := 0, pos := "law.go:112", after := #[{ on := 1, ground := Go.Ground.data }, { on := 4, ground := Go.Ground.data }], guard := none }) (v := ?vv55) rfl (by kernel_rfl) (by kernel_rfl) (by kernel_rfl) (fun _ _ _ h => h) (Or.inl ⟨by rfl, ?hy55⟩) (by assumption) ?rr55
                          case hy55 => intro w hSw; (try dsimp only at hSw); go_simp; all_goals with_reducible rfl
                          try simp only [Act.put, List.setIfInBounds_toArray, List.set_cons_zero, List.set_cons_succ]
                          refine wpAnyH_take (i := 6) (oi := { dst := some 121, op := Go.Op.load 46 (Go.Operand.tmp 120), type := 46, pos := "law.go:112", after := #[{ on := 5, ground := Go.Ground.data }], guard := none }) (v := ?vv56) rfl (by kernel_rfl) (by kernel_rfl) (by kernel_rfl) (fun _ _ _ h => h) (Or.inl ⟨by rfl, ?hy56⟩) (by assumption) ?rr56
                          case hy56 => intro w hSw; (try dsimp only at hSw); go_simp; all_goals with_reducible rfl
                          try simp only [Act.put, List.setIfInBounds_toArray, List.set_cons_zero, List.set_cons_succ]
                          refine wpAnyH_ready (rs := [7]) (by kernel_rfl) (by simp) ?_
                          refine AllReadyH.cons (i := 7) (o := { dst := some 18, op := Go.Op.alloc 46, type := 0, pos := "law.go:112", after := #[], guard := none }) rfl (fun K hK => ?_) AllReadyH.nil
                          go_simp
                          refine hK.out _ _ ?_ (fun hH2 => ?_)
                          · exact ⟨cell_old hH1.1, cell_old hH1.2.1, cell_old hH1.2.2.1, cell_old hH1.2.2.2.1, cell_old hH1.2.2.2.2.1, cell_old hH1.2.2.2.2.2.1, cell_old hH1.2.2.2.2.2.2.1, cell_old hH1.2.2.2.2.2.2.2.1, cell_old hH1.2.2.2.2.2.2.2.2⟩
                          clear hK K
                          try simp only [Act.put, List.setIfInBounds_toArray, List.set_cons_zero, List.set_cons_succ]
                          refine wpAnyH_ready (rs := [8]) (by kernel_rfl) (by simp) ?_
                          refine AllReadyH.cons (i := 8) (o := { dst := none, op := Go.Op.store 46 (Go.Operand.tmp 18) (Go.Operand.tmp 121), type := 0, pos := "law.go:112", after := #[{ on := 7, ground := Go.Ground.data }, { on := 6, ground := Go.Ground.data }, { on := 4, ground := Go.Ground.chain }, { on := 0, ground := Go.Ground.phase }, { on := 1, ground := Go.Ground.phase }, { on := 2, ground := Go.Ground.phase }, { on := 3, ground := Go.Ground.phase }, { on := 4, ground := Go.Ground.phase }, { on := 5, ground := Go.Ground.phase }, { on := 6, ground := Go.Ground.phase }, { on := 7, ground := Go.Ground.phase }], guard := none }) rfl (fun K hK => ?_) AllReadyH.nil
                          go_simp
                          refine hK.out _ _ ?_ (fun hH3 => ?_)
                          · exact ⟨cell_old hH1.1, cell_old hH1.2.1, cell_old hH1.2.2.1, cell_old hH1.2.2.2.1, cell_old hH1.2.2.2.2.1, cell_old hH1.2.2.2.2.2.1, cell_old hH1.2.2.2.2.2.2.1, cell_old hH1.2.2.2.2.2.2.2.1, cell_old hH1.2.2.2.2.2.2.2.2⟩
                          clear hK K
                          try simp only [Act.put, List.setIfInBounds_toArray, List.set_cons_zero, List.set_cons_succ]
                          refine wpAnyH_done (by kernel_rfl) ?_ _
                          obtain ⟨nbV22, hN⟩ : ∃ n, n = w'.heap.size := ⟨_, rfl⟩
                          rw [← hN]
                          obtain ⟨V22, hV⟩ : ∃ V, V = w'.alloc (.cells #[.int .i64 zc, .int .i64 o.kind, .slice S2 o.slots.length ds2, .string o.text, .int .i64 o.bits, .int .i64 o.hash] 46) := ⟨_, rfl⟩
                          have hLV : Lies V22 nbV22 46 #[.int .i64 zc, .int .i64 o.kind, .slice S2 o.slots.length ds2, .string o.text, .int .i64 o.bits, .int .i64 o.hash] := by rw [hV, hN]; exact Lies.new _ _ _
                          have hBV : Below w8.heap.size w8 V22 := by rw [hV]; exact then_b hB0_ (below_alloc _ _)
                          rw [← hV]
                          clear hV hN
                          have L18 := hid hLV
                          clear hLV hB0_
                          have X10 := hid (X9_.out.later hBV)
                          have G10 := hid (G9_.out.later hBV)
                          have HW10 := hid (HW9.out.trans (hBV.mono HW9.out.size))
                          have M17 := hid (L17b.out.later hBV)
                          clear hBV g0 g1 g2 b0 b1 b2' b3 b4 b5
                          have e0 := M17.out.cell 0
                          have f0 := L18.out.cell 0
                          have e1 := M17.out.cell 1
                          have f1 := L18.out.cell 1
                          have e2 := M17.out.cell 2
                          have f2 := L18.out.cell 2
                          have e3 := M17.out.cell 3
                          have f3 := L18.out.cell 3
                          have e4 := M17.out.cell 4
                          have f4 := L18.out.cell 4
                          have e5 := M17.out.cell 5
                          have f5 := L18.out.cell 5
                          simp only [List.getElem?_toArray, List.getElem?_cons_zero, List.getElem?_cons_succ] at e0 e1 e2 e3 e4 e5 f0 f1 f2 f3 f4 f5
                          go_wp2_with fail
                          go_roundw
                          case rel => exact ⟨j + 1, by omega, by go_num, X10.out, G10.out, HW10.out⟩
                          case measure => simp [intOf]; omega
                        · go_simp
                          refine hK.out _ _ ?_ (fun hH1 => ?_)
                          · exact ⟨cell_old hH0.1, cell_old hH0.2.1, cell_old hH0.2.2.1, cell_old hH0.2.2.2.1, cell_old hH0.2.2.2.2.1, cell_old hH0.2.2.2.2.2.1, cell_old hH0.2.2.2.2.2.2.1, cell_old hH0.2.2.2.2.2.2.2.1, cell_old hH0.2.2.2.2.2.2.2.2⟩
                          clear hK K
                          try simp only [Act.put, List.setIfInBounds_toArray, List.set_cons_zero, List.set_cons_succ]
                          refine wpAnyH_ready (rs := [4]) (by kernel_rfl) (by simp) ?_
                          refine AllReadyH.cons (i := 4) (o := { dst := some 119, op := Go.Op.call { callee := Go.Callee.value (Go.Operand.func 34), args := #[Go.Operand.tmp 117, Go.Operand.tmp 118], argTypes := #[24, 3] }, type := 3, pos := "law.go:112", after := #[{ on := 2, ground := Go.Ground.data }, { on := 3, ground := Go.Ground.data }], guard := none }) rfl (fun K hK => ?_) AllReadyH.nil
                          go_simp
                          go_at_call 34
                          refine (rref_any k z2 (some ⟨b2, off2, none⟩) c4 _).mono ?_
                          rintro e w' ⟨rfl, hb⟩
                          rw [hrk]
                          have hL0 := ((Lies.new w8 46 #[.int .i64 0, .int .i64 0, .slice none 0 0, .string ⟨#[]⟩, .int .i64 0, .int .i64 0]).drew).later hb
                          have hB0_ : Below w8.heap.size w8 w' := then_b (below_alloc w8 (.cells #[.int .i64 0, .int .i64 0, .slice none 0 0, .string ⟨#[]⟩, .int .i64 0, .int .i64 0] 46)).drew hb
                          have k0 := hL0.cell 0
                          have kf0 := hL0.frozen 0
                          have k1 := hL0.cell 1
                          have kf1 := hL0.frozen 1
                          have k2 := hL0.cell 2
                          have kf2 := hL0.frozen 2
                          have k3 := hL0.cell 3
                          have kf3 := hL0.frozen 3
                          have k4 := hL0.cell 4
                          have kf4 := hL0.frozen 4
                          have k5 := hL0.cell 5
                          have kf5 := hL0.frozen 5
                          simp only [List.getElem?_toArray, List.getElem?_cons_zero, List.getElem?_cons_succ] at k0 k1 k2 k3 k4 k5
                          refine hK.out _ _ ?_ (fun hH2 => ?_)
                          · exact ⟨cell_later hb hH1.1, cell_later hb hH1.2.1, cell_later hb hH1.2.2.1, cell_later hb hH1.2.2.2.1, cell_later hb hH1.2.2.2.2.1, cell_later hb hH1.2.2.2.2.2.1, cell_later hb hH1.2.2.2.2.2.2.1, cell_later hb hH1.2.2.2.2.2.2.2.1, cell_later hb hH1.2.2.2.2.2.2.2.2⟩
                          clear hK K
                          try simp only [Act.put, List.setIfInBounds_toArray, List.set_cons_zero, List.set_cons_succ]
                          clear hb
                          refine wpAnyH_take (i := 5) (oi := { dst := some 120, op := Go.Op.indexAddr 22 (Go.Operand.tmp 116) (Go.Operand.tmp 119), type := 0, pos := "law.go:112", after := #[{ on := 1, ground := Go.Ground.data }, { on := 4, ground := Go.Ground.data }], guard := none }) (v := ?vv57) rfl (by kernel_rfl) (by kernel_rfl) (by kernel_rfl) (fun _ _ _ h => h) (Or.inl ⟨by rfl, ?hy57⟩) (by assumption) ?rr57
                          case hy57 => intro w hSw; (try dsimp only at hSw); go_simp; all_goals with_reducible rfl
                          try simp only [Act.put, List.setIfInBounds_toArray, List.set_cons_zero, List.set_cons_succ]
                          refine wpAnyH_take (i := 6) (oi := { dst := some 121, op := Go.Op.load 46 (Go.Operand.tmp 120), type := 46, pos := "law.go:112", after := #[{ on := 5, ground := Go.Ground.data }], guard := none }) (v := ?vv58) rfl (by kernel_rfl) (by kernel_rfl) (by kernel_rfl) (fun _ _ _ h => h) (Or.inl ⟨by rfl, ?hy58⟩) (by assumption) ?rr58
                          case hy58 => intro w hSw; (try dsimp only at hSw); go_simp; all_goals with_reducible rfl
                          try simp only [Act.put, List.setIfInBounds_toArray, List.set_cons_zero, List.set_cons_succ]
                          refine wpAnyH_ready (rs := [8]) (by kernel_rfl) (by simp) ?_
                          refine AllReadyH.cons (i := 8) (o := { dst := none, op := Go.Op.store 46 (Go.Operand.tmp 18) (Go.Operand.tmp 121), type := 0, pos := "law.go:112", after := #[{ on := 7, ground := Go.Ground.data }, { on := 6, ground := Go.Ground.data }, { on := 4, ground := Go.Ground.chain }, { on := 0, ground := Go.Ground.phase }, { on := 1, ground := Go.Ground.phase }, { on := 2, ground := Go.Ground.phase }, { on := 3, ground := Go.Ground.phase }, { on := 4, ground := Go.Ground.phase }, { on := 5, ground := Go.Ground.phase }, { on := 6, ground := Go.Ground.phase }, { on := 7, ground := Go.Ground.phase }], guard := none }) rfl (fun K hK => ?_) AllReadyH.nil
                          go_simp
                          refine hK.out _ _ ?_ (fun hH3 => ?_)
                          · exact ⟨far6 hng2 hH2.1, far6 hng2 hH2.2.1, far6 hng2 hH2.2.2.1, far6 hnb2 hH2.2.2.2.1, far6 hnb2 hH2.2.2.2.2.1, far6 hnb2 hH2.2.2.2.2.2.1, far6 hnb2 hH2.2.2.2.2.2.2.1, far6 hnb2 hH2.2.2.2.2.2.2.2.1, far6 hnb2 hH2.2.2.2.2.2.2.2.2⟩
                          clear hK K
                          try simp only [Act.put, List.setIfInBounds_toArray, List.set_cons_zero, List.set_cons_succ]
                          refine wpAnyH_done (by kernel_rfl) ?_ _
                          obtain ⟨V22, hV⟩ : ∃ V, V = ((((((w'.setCell ⟨w8.heap.size, 0, none⟩ (.int .i64 zc)).setCell ⟨w8.heap.size, 1, none⟩ (.int .i64 o.kind)).setCell ⟨w8.heap.size, 2, none⟩ (.slice S2 o.slots.length ds2)).setCell ⟨w8.heap.size, 3, none⟩ (.string o.text)).setCell ⟨w8.heap.size, 4, none⟩ (.int .i64 o.bits)).setCell ⟨w8.heap.size, 5, none⟩ (.int .i64 o.hash)) := ⟨_, rfl⟩
                          have hLV : Lies V22 w8.heap.size 46 #[.int .i64 zc, .int .i64 o.kind, .slice S2 o.slots.length ds2, .string o.text, .int .i64 o.bits, .int .i64 o.hash] := by
                            rw [hV]
                            have := ((((((hL0.set_ 0 (.int .i64 zc)).set_ 1 (.int .i64 o.kind)).set_ 2 (.slice S2 o.slots.length ds2)).set_ 3 (.string o.text)).set_ 4 (.int .i64 o.bits)).set_ 5 (.int .i64 o.hash))
                            simpa using this
                          have hBV : Below w8.heap.size w8 V22 := by rw [hV]; exact ((((((hB0_.setCell (p := ⟨w8.heap.size, 0, none⟩) (Nat.le_refl _) (.int .i64 zc)).setCell (p := ⟨w8.heap.size, 1, none⟩) (Nat.le_refl _) (.int .i64 o.kind)).setCell (p := ⟨w8.heap.size, 2, none⟩) (Nat.le_refl _) (.slice S2 o.slots.length ds2)).setCell (p := ⟨w8.heap.size, 3, none⟩) (Nat.le_refl _) (.string o.text)).setCell (p := ⟨w8.heap.size, 4, none⟩) (Nat.le_refl _) (.int .i64 o.bits)).setCell (p := ⟨w8.heap.size, 5, none⟩) (Nat.le_refl _) (.int .i64 o.hash))
                          rw [← hV]
                          clear hV hL0 k0 k1 k2 k3 k4 k5 kf0 kf1 kf2 kf3 kf4 kf5
                          have L18 := hid hLV
                          clear hLV hB0_
                          have X10 := hid (X9_.out.later hBV)
                          have G10 := hid (G9_.out.later hBV)
                          have HW10 := hid (HW9.out.trans (hBV.mono HW9.out.size))
                          have M17 := hid (L17b.out.later hBV)
                          clear hBV g0 g1 g2 b0 b1 b2' b3 b4 b5
                          have e0 := M17.out.cell 0
                          have f0 := L18.out.cell 0
                          have e1 := M17.out.cell 1
                          have f1 := L18.out.cell 1
                          have e2 := M17.out.cell 2
                          have f2 := L18.out.cell 2
                          have e3 := M17.out.cell 3
                          have f3 := L18.out.cell 3
                          have e4 := M17.out.cell 4
                          have f4 := L18.out.cell 4
                          have e5 := M17.out.cell 5
                          have f5 := L18.out.cell 5
                          simp only [List.getElem?_toArray, List.getElem?_cons_zero, List.getElem?_cons_succ] at e0 e1 e2 e3 e4 e5 f0 f1 f2 f3 f4 f5
                          go_wp2_with fail
                          go_roundw
                          case rel => exact ⟨j + 1, by omega, by go_num, X10.out, G10.out, HW10.out⟩
                          case measure => simp [intOf]; omega
                      · go_simp
                        refine hK.out _ _ ?_ (fun hH1 => ?_)
                        · exact ⟨cell_old hH0.1, cell_old hH0.2.1, cell_old hH0.2.2.1, cell_old hH0.2.2.2.1, cell_old hH0.2.2.2.2.1, cell_old hH0.2.2.2.2.2.1, cell_old hH0.2.2.2.2.2.2.1, cell_old hH0.2.2.2.2.2.2.2.1, cell_old hH0.2.2.2.2.2.2.2.2⟩
                        clear hK K
                        try simp only [Act.put, List.setIfInBounds_toArray, List.set_cons_zero, List.set_cons_succ]
                        refine wpAnyH_ready (rs := [4]) (by kernel_rfl) (by simp) ?_
                        refine AllReadyH.cons (i := 4) (o := { dst := some 108, op := Go.Op.call { callee := Go.Callee.value (Go.Operand.func 34), args := #[Go.Operand.tmp 106, Go.Operand.tmp 107], argTypes := #[24, 3] }, type := 3, pos := "law.go:108", after := #[{ on := 2, ground := Go.Ground.data }, { on := 3, ground := Go.Ground.data }], guard := none }) rfl (fun K hK => ?_) AllReadyH.nil
                        go_simp
                        go_at_call 34
                        refine (rref_any h u (some ⟨b, off, none⟩) c _).mono ?_
                        rintro e w' ⟨rfl, hb⟩
                        rw [hri]
                        have hL0 := ((Lies.new w6_ 46 #[.int .i64 0, .int .i64 0, .slice none 0 0, .string ⟨#[]⟩, .int .i64 0, .int .i64 0]).drew).later hb
                        have hB0_ : Below w6_.heap.size w6_ w' := then_b (below_alloc w6_ (.cells #[.int .i64 0, .int .i64 0, .slice none 0 0, .string ⟨#[]⟩, .int .i64 0, .int .i64 0] 46)).drew hb
                        have k0 := hL0.cell 0
                        have kf0 := hL0.frozen 0
                        have k1 := hL0.cell 1
                        have kf1 := hL0.frozen 1
                        have k2 := hL0.cell 2
                        have kf2 := hL0.frozen 2
                        have k3 := hL0.cell 3
                        have kf3 := hL0.frozen 3
                        have k4 := hL0.cell 4
                        have kf4 := hL0.frozen 4
                        have k5 := hL0.cell 5
                        have kf5 := hL0.frozen 5
                        simp only [List.getElem?_toArray, List.getElem?_cons_zero, List.getElem?_cons_succ] at k0 k1 k2 k3 k4 k5
                        refine hK.out _ _ ?_ (fun hH2 => ?_)
                        · exact ⟨cell_later hb hH1.1, cell_later hb hH1.2.1, cell_later hb hH1.2.2.1, cell_later hb hH1.2.2.2.1, cell_later hb hH1.2.2.2.2.1, cell_later hb hH1.2.2.2.2.2.1, cell_later hb hH1.2.2.2.2.2.2.1, cell_later hb hH1.2.2.2.2.2.2.2.1, cell_later hb hH1.2.2.2.2.2.2.2.2⟩
                        clear hK K
                        try simp only [Act.put, List.setIfInBounds_toArray, List.set_cons_zero, List.set_cons_succ]
                        clear hb
                        refine wpAnyH_take (i := 5) (oi := { dst := some 109, op := Go.Op.indexAddr 22 (Go.Operand.tmp 105) (Go.Operand.tmp 108), type := 0, pos := "law.go:108", after := #[{ on := 1, ground := Go.Ground.data }, { on := 4, ground := Go.Ground.data }], guard := none }) (v := ?vv59) rfl (by kernel_rfl) (by kernel_rfl) (by kernel_rfl) (fun _ _ _ h => h) (Or.inl ⟨by rfl, ?hy59⟩) (by assumption) ?rr59
                        case hy59 => intro w hSw; (try dsimp only at hSw); go_simp; all_goals with_reducible rfl
                        try simp only [Act.put, List.setIfInBounds_toArray, List.set_cons_zero, List.set_cons_succ]
                        refine wpAnyH_take (i := 6) (oi := { dst := some 110, op := Go.Op.load 46 (Go.Operand.tmp 109), type := 46, pos := "law.go:108", after := #[{ on := 5, ground := Go.Ground.data }], guard := none }) (v := ?vv60) rfl (by kernel_rfl) (by kernel_rfl) (by kernel_rfl) (fun _ _ _ h => h) (Or.inl ⟨by rfl, ?hy60⟩) (by assumption) ?rr60
                        case hy60 => intro w hSw; (try dsimp only at hSw); go_simp; all_goals with_reducible rfl
                        try simp only [Act.put, List.setIfInBounds_toArray, List.set_cons_zero, List.set_cons_succ]
                        refine wpAnyH_ready (rs := [8]) (by kernel_rfl) (by simp) ?_
                        refine AllReadyH.cons (i := 8) (o := { dst := none, op := Go.Op.store 46 (Go.Operand.tmp 17) (Go.Operand.tmp 110), type := 0, pos := "law.go:108", after := #[{ on := 7, ground := Go.Ground.data }, { on := 6, ground := Go.Ground.data }, { on := 4, ground := Go.Ground.chain }, { on := 0, ground := Go.Ground.phase }, { on := 1, ground := Go.Ground.phase }, { on := 2, ground := Go.Ground.phase }, { on := 3, ground := Go.Ground.phase }, { on := 4, ground := Go.Ground.phase }, { on := 5, ground := Go.Ground.phase }, { on := 6, ground := Go.Ground.phase }, { on := 7, ground := Go.Ground.phase }], guard := none }) rfl (fun K hK => ?_) AllReadyH.nil
                        go_simp
                        refine hK.out _ _ ?_ (fun hH3 => ?_)
                        · exact ⟨far6 hnx hH2.1, far6 hnx hH2.2.1, far6 hnx hH2.2.2.1, far6 hnb hH2.2.2.2.1, far6 hnb hH2.2.2.2.2.1, far6 hnb hH2.2.2.2.2.2.1, far6 hnb hH2.2.2.2.2.2.2.1, far6 hnb hH2.2.2.2.2.2.2.2.1, far6 hnb hH2.2.2.2.2.2.2.2.2⟩
                        clear hK K
                        try simp only [Act.put, List.setIfInBounds_toArray, List.set_cons_zero, List.set_cons_succ]
                        refine wpAnyH_done (by kernel_rfl) ?_ _
                        obtain ⟨V19, hV⟩ : ∃ V, V = ((((((w'.setCell ⟨w6_.heap.size, 0, none⟩ (.int .i64 o.cls)).setCell ⟨w6_.heap.size, 1, none⟩ (.int .i64 o.kind)).setCell ⟨w6_.heap.size, 2, none⟩ (.slice S o.slots.length ds)).setCell ⟨w6_.heap.size, 3, none⟩ (.string o.text)).setCell ⟨w6_.heap.size, 4, none⟩ (.int .i64 o.bits)).setCell ⟨w6_.heap.size, 5, none⟩ (.int .i64 o.hash)) := ⟨_, rfl⟩
                        have hLV : Lies V19 w6_.heap.size 46 #[.int .i64 o.cls, .int .i64 o.kind, .slice S o.slots.length ds, .string o.text, .int .i64 o.bits, .int .i64 o.hash] := by
                          rw [hV]
                          have := ((((((hL0.set_ 0 (.int .i64 o.cls)).set_ 1 (.int .i64 o.kind)).set_ 2 (.slice S o.slots.length ds)).set_ 3 (.string o.text)).set_ 4 (.int .i64 o.bits)).set_ 5 (.int .i64 o.hash))
                          simpa using this
                        have hBV : Below w6_.heap.size w6_ V19 := by rw [hV]; exact ((((((hB0_.setCell (p := ⟨w6_.heap.size, 0, none⟩) (Nat.le_refl _) (.int .i64 o.cls)).setCell (p := ⟨w6_.heap.size, 1, none⟩) (Nat.le_refl _) (.int .i64 o.kind)).setCell (p := ⟨w6_.heap.size, 2, none⟩) (Nat.le_refl _) (.slice S o.slots.length ds)).setCell (p := ⟨w6_.heap.size, 3, none⟩) (Nat.le_refl _) (.string o.text)).setCell (p := ⟨w6_.heap.size, 4, none⟩) (Nat.le_refl _) (.int .i64 o.bits)).setCell (p := ⟨w6_.heap.size, 5, none⟩) (Nat.le_refl _) (.int .i64 o.hash))
                        rw [← hV]
                        clear hV hL0 k0 k1 k2 k3 k4 k5 kf0 kf1 kf2 kf3 kf4 kf5
                        have L17 := hid hLV
                        clear hLV hB0_
                        have X8_ := hid (XX6.out.later hBV)
                        have G8_ := hid (GG6.out.later hBV)
                        have HW8 := hid (HW6.out.trans (hBV.mono HW6.out.size))
                        clear hBV x0 x1 x2 a0 a1 a2 a3 a4 a5
                        have g0 := G8_.out.cell 0
                        have g1 := G8_.out.cell 1
                        have g2 := G8_.out.cell 2
                        simp only [List.getElem?_toArray, List.getElem?_cons_zero, List.getElem?_cons_succ] at g0 g1 g2
                        go_wp2_with fail
                        refine (rref_any k z2 (some ⟨b2, off2, none⟩) c4 _).mono ?_
                        rintro e w8 ⟨rfl, hb⟩
                        rw [hrk]
                        have X9_ := hid (X8_.out.later hb)
                        have G9_ := hid (G8_.out.later hb)
                        have HW9 := hid (HW8.out.trans (hb.mono HW8.out.size))
                        have L17b := hid (L17.out.later hb)
                        clear hb g0 g1 g2
                        have g0 := G9_.out.cell 0
                        have g1 := G9_.out.cell 1
                        have g2 := G9_.out.cell 2
                        simp only [List.getElem?_toArray, List.getElem?_cons_zero, List.getElem?_cons_succ] at g0 g1 g2
                        obtain ⟨b0, b1, b2', b3, b4, b5⟩ := HOB2.out.below hb2 HW9.out
                        have hnb2 : b2 ≠ w8.heap.size := Nat.ne_of_lt (Nat.lt_of_lt_of_le hb2 HW9.out.size)
                        have hng2 : w4.heap.size ≠ w8.heap.size := Nat.ne_of_lt G9_.out.lt
                        go_wp2_with fail
                        refine wp_region_held_drew (S := (fun w' => w'.cell? ⟨w4.heap.size, 0, none⟩ = some (.slice (some ⟨b2, off2, none⟩) k.objs.length c4) ∧ w'.cell? ⟨w4.heap.size, 1, none⟩ = some (.int .i64 k.cap) ∧ w'.cell? ⟨w4.heap.size, 2, none⟩ = some (.int .i64 k.last) ∧ w'.cell? ⟨b2, off2 + p * 6, none⟩ = some (.int .i64 zc) ∧ w'.cell? ⟨b2, off2 + p * 6 + 1, none⟩ = some (.int .i64 o.kind) ∧ w'.cell? ⟨b2, off2 + p * 6 + 2, none⟩ = some (.slice S2 o.slots.length ds2) ∧ w'.cell? ⟨b2, off2 + p * 6 + 3, none⟩ = some (.string o.text) ∧ w'.cell? ⟨b2, off2 + p * 6 + 4, none⟩ = some (.int .i64 o.bits) ∧ w'.cell? ⟨b2, off2 + p * 6 + 5, none⟩ = some (.int .i64 o.hash))) (by kernel_rfl) ?_ (fun hH0 => ?_)
                        · exact ⟨g0, g1, g2, b0, b1, b2', b3, b4, b5⟩
                        refine wpAnyH_take (i := 0) (oi := { dst := some 115, op := Go.Op.fieldAddr 24 (Go.Operand.tmp 7) 0, type := 0, pos := "law.go:112", after := #[], guard := none }) (v := ?vv61) rfl (by kernel_rfl) (by kernel_rfl) (by kernel_rfl) (fun _ _ _ h => h) (Or.inl ⟨by rfl, ?hy61⟩) (by assumption) ?rr61
                        case hy61 => intro w hSw; (try dsimp only at hSw); go_simp; all_goals with_reducible rfl
                        try simp only [Act.put, List.setIfInBounds_toArray, List.set_cons_zero, List.set_cons_succ]
                        refine wpAnyH_take (i := 1) (oi := { dst := some 116, op := Go.Op.load 22 (Go.Operand.tmp 115), type := 22, pos := "law.go:112", after := #[{ on := 0, ground := Go.Ground.data }], guard := none }) (v := ?vv62) rfl (by kernel_rfl) (by kernel_rfl) (by kernel_rfl) (fun _ _ _ h => h) (Or.inl ⟨by rfl, ?hy62⟩) (by assumption) ?rr62
                        case hy62 => intro w hSw; (try dsimp only at hSw); go_simp; all_goals with_reducible rfl
                        try simp only [Act.put, List.setIfInBounds_toArray, List.set_cons_zero, List.set_cons_succ]
                        refine wpAnyH_take (i := 2) (oi := { dst := some 117, op := Go.Op.load 24 (Go.Operand.tmp 7), type := 24, pos := "law.go:112", after := #[], guard := none }) (v := ?vv63) rfl (by kernel_rfl) (by kernel_rfl) (by kernel_rfl) (fun _ _ _ h => h) (Or.inl ⟨by rfl, ?hy63⟩) (by assumption) ?rr63
                        case hy63 => intro w hSw; (try dsimp only at hSw); go_simp; all_goals with_reducible rfl
                        try simp only [Act.put, List.setIfInBounds_toArray, List.set_cons_zero, List.set_cons_succ]
                        refine wpAnyH_take (i := 3) (oi := { dst := some 118, op := Go.Op.move (Go.Operand.tmp 13), type := 3, pos := "law.go:112", after := #[], guard := none }) (v := ?vv64) rfl (by kernel_rfl) (by kernel_rfl) (by kernel_rfl) (fun _ _ _ h => h) (Or.inl ⟨by rfl, ?hy64⟩) (by assumption) ?rr64
                        case hy64 => intro w hSw; (try dsimp only at hSw); go_simp; all_goals with_reducible rfl
                        try simp only [Act.put, List.setIfInBounds_toArray, List.set_cons_zero, List.set_cons_succ]
                        refine wpAnyH_ready (rs := [4, 7]) (by kernel_rfl) (by simp) ?_
                        refine AllReadyH.cons (i := 4) (o := { dst := some 119, op := Go.Op.call { callee := Go.Callee.value (Go.Operand.func 34), args := #[Go.Operand.tmp 117, Go.Operand.tmp 118], argTypes := #[24, 3] }, type := 3, pos := "law.go:112", after := #[{ on := 2, ground := Go.Ground.data }, { on := 3, ground := Go.Ground.data }], guard := none }) rfl (fun K hK => ?_) (AllReadyH.cons (i := 7) (o := { dst := some 18, op := Go.Op.alloc 46, type := 0, pos := "law.go:112", after := #[], guard := none }) rfl (fun K hK => ?_) AllReadyH.nil)
                        · go_simp
                          go_at_call 34
                          refine (rref_any k z2 (some ⟨b2, off2, none⟩) c4 _).mono ?_
                          rintro e w' ⟨rfl, hb⟩
                          rw [hrk]
                          have hB0_ : Below w8.heap.size w8 w' := then_b (Below.refl _ _).drew hb
                          refine hK.out _ _ ?_ (fun hH1 => ?_)
                          · exact ⟨cell_later hb hH0.1, cell_later hb hH0.2.1, cell_later hb hH0.2.2.1, cell_later hb hH0.2.2.2.1, cell_later hb hH0.2.2.2.2.1, cell_later hb hH0.2.2.2.2.2.1, cell_later hb hH0.2.2.2.2.2.2.1, cell_later hb hH0.2.2.2.2.2.2.2.1, cell_later hb hH0.2.2.2.2.2.2.2.2⟩
                          clear hK K
                          try simp only [Act.put, List.setIfInBounds_toArray, List.set_cons_zero, List.set_cons_succ]
                          clear hb
                          refine wpAnyH_take (i := 5) (oi := { dst := some 120, op := Go.Op.indexAddr 22 (Go.Operand.tmp 116) (Go.Operand.tmp 119), type := 0, pos := "law.go:112", after := #[{ on := 1, ground := Go.Ground.data }, { on := 4, ground := Go.Ground.data }], guard := none }) (v := ?vv65) rfl (by kernel_rfl) (by kernel_rfl) (by kernel_rfl) (fun _ _ _ h => h) (Or.inl ⟨by rfl, ?hy65⟩) (by assumption) ?rr65
                          case hy65 => intro w hSw; (try dsimp only at hSw); go_simp; all_goals with_reducible rfl
                          try simp only [Act.put, List.setIfInBounds_toArray, List.set_cons_zero, List.set_cons_succ]
                          refine wpAnyH_take (i := 6) (oi := { dst := some 121, op := Go.Op.load 46 (Go.Operand.tmp 120), type := 46, pos := "law.go:112", after := #[{ on := 5, ground := Go.Ground.data }], guard := none }) (v := ?vv66) rfl (by kernel_rfl) (by kernel_rfl) (by kernel_rfl) (fun _ _ _ h => h) (Or.inl ⟨by rfl, ?hy66⟩) (by assumption) ?rr66
                          case hy66 => intro w hSw; (try dsimp only at hSw); go_simp; all_goals with_reducible rfl
                          try simp only [Act.put, List.setIfInBounds_toArray, List.set_cons_zero, List.set_cons_succ]
                          refine wpAnyH_ready (rs := [7]) (by kernel_rfl) (by simp) ?_
                          refine AllReadyH.cons (i := 7) (o := { dst := some 18, op := Go.Op.alloc 46, type := 0, pos := "law.go:112", after := #[], guard := none }) rfl (fun K hK => ?_) AllReadyH.nil
                          go_simp
                          refine hK.out _ _ ?_ (fun hH2 => ?_)
                          · exact ⟨cell_old hH1.1, cell_old hH1.2.1, cell_old hH1.2.2.1, cell_old hH1.2.2.2.1, cell_old hH1.2.2.2.2.1, cell_old hH1.2.2.2.2.2.1, cell_old hH1.2.2.2.2.2.2.1, cell_old hH1.2.2.2.2.2.2.2.1, cell_old hH1.2.2.2.2.2.2.2.2⟩
                          clear hK K
                          try simp only [Act.put, List.setIfInBounds_toArray, List.set_cons_zero, List.set_cons_succ]
                          refine wpAnyH_ready (rs := [8]) (by kernel_rfl) (by simp) ?_
                          refine AllReadyH.cons (i := 8) (o := { dst := none, op := Go.Op.store 46 (Go.Operand.tmp 18) (Go.Operand.tmp 121), type := 0, pos := "law.go:112", after := #[{ on := 7, ground := Go.Ground.data }, { on := 6, ground := Go.Ground.data }, { on := 4, ground := Go.Ground.chain }, { on := 0, ground := Go.Ground.phase }, { on := 1, ground := Go.Ground.phase }, { on := 2, ground := Go.Ground.phase }, { on := 3, ground := Go.Ground.phase }, { on := 4, ground := Go.Ground.phase }, { on := 5, ground := Go.Ground.phase }, { on := 6, ground := Go.Ground.phase }, { on := 7, ground := Go.Ground.phase }], guard := none }) rfl (fun K hK => ?_) AllReadyH.nil
                          go_simp
                          refine hK.out _ _ ?_ (fun hH3 => ?_)
                          · exact ⟨cell_old hH1.1, cell_old hH1.2.1, cell_old hH1.2.2.1, cell_old hH1.2.2.2.1, cell_old hH1.2.2.2.2.1, cell_old hH1.2.2.2.2.2.1, cell_old hH1.2.2.2.2.2.2.1, cell_old hH1.2.2.2.2.2.2.2.1, cell_old hH1.2.2.2.2.2.2.2.2⟩
                          clear hK K
                          try simp only [Act.put, List.setIfInBounds_toArray, List.set_cons_zero, List.set_cons_succ]
                          refine wpAnyH_done (by kernel_rfl) ?_ _
                          obtain ⟨nbV22, hN⟩ : ∃ n, n = w'.heap.size := ⟨_, rfl⟩
                          rw [← hN]
                          obtain ⟨V22, hV⟩ : ∃ V, V = w'.alloc (.cells #[.int .i64 zc, .int .i64 o.kind, .slice S2 o.slots.length ds2, .string o.text, .int .i64 o.bits, .int .i64 o.hash] 46) := ⟨_, rfl⟩
                          have hLV : Lies V22 nbV22 46 #[.int .i64 zc, .int .i64 o.kind, .slice S2 o.slots.length ds2, .string o.text, .int .i64 o.bits, .int .i64 o.hash] := by rw [hV, hN]; exact Lies.new _ _ _
                          have hBV : Below w8.heap.size w8 V22 := by rw [hV]; exact then_b hB0_ (below_alloc _ _)
                          rw [← hV]
                          clear hV hN
                          have L18 := hid hLV
                          clear hLV hB0_
                          have X10 := hid (X9_.out.later hBV)
                          have G10 := hid (G9_.out.later hBV)
                          have HW10 := hid (HW9.out.trans (hBV.mono HW9.out.size))
                          have M17 := hid (L17b.out.later hBV)
                          clear hBV g0 g1 g2 b0 b1 b2' b3 b4 b5
                          have e0 := M17.out.cell 0
                          have f0 := L18.out.cell 0
                          have e1 := M17.out.cell 1
                          have f1 := L18.out.cell 1
                          have e2 := M17.out.cell 2
                          have f2 := L18.out.cell 2
                          have e3 := M17.out.cell 3
                          have f3 := L18.out.cell 3
                          have e4 := M17.out.cell 4
                          have f4 := L18.out.cell 4
                          have e5 := M17.out.cell 5
                          have f5 := L18.out.cell 5
                          simp only [List.getElem?_toArray, List.getElem?_cons_zero, List.getElem?_cons_succ] at e0 e1 e2 e3 e4 e5 f0 f1 f2 f3 f4 f5
                          go_wp2_with fail
                          go_roundw
                          case rel => exact ⟨j + 1, by omega, by go_num, X10.out, G10.out, HW10.out⟩
                          case measure => simp [intOf]; omega
                        · go_simp
                          refine hK.out _ _ ?_ (fun hH1 => ?_)
                          · exact ⟨cell_old hH0.1, cell_old hH0.2.1, cell_old hH0.2.2.1, cell_old hH0.2.2.2.1, cell_old hH0.2.2.2.2.1, cell_old hH0.2.2.2.2.2.1, cell_old hH0.2.2.2.2.2.2.1, cell_old hH0.2.2.2.2.2.2.2.1, cell_old hH0.2.2.2.2.2.2.2.2⟩
                          clear hK K
                          try simp only [Act.put, List.setIfInBounds_toArray, List.set_cons_zero, List.set_cons_succ]
                          refine wpAnyH_ready (rs := [4]) (by kernel_rfl) (by simp) ?_
                          refine AllReadyH.cons (i := 4) (o := { dst := some 119, op := Go.Op.call { callee := Go.Callee.value (Go.Operand.func 34), args := #[Go.Operand.tmp 117, Go.Operand.tmp 118], argTypes := #[24, 3] }, type := 3, pos := "law.go:112", after := #[{ on := 2, ground := Go.Ground.data }, { on := 3, ground := Go.Ground.data }], guard := none }) rfl (fun K hK => ?_) AllReadyH.nil
                          go_simp
                          go_at_call 34
                          refine (rref_any k z2 (some ⟨b2, off2, none⟩) c4 _).mono ?_
                          rintro e w' ⟨rfl, hb⟩
                          rw [hrk]
                          have hL0 := ((Lies.new w8 46 #[.int .i64 0, .int .i64 0, .slice none 0 0, .string ⟨#[]⟩, .int .i64 0, .int .i64 0]).drew).later hb
                          have hB0_ : Below w8.heap.size w8 w' := then_b (below_alloc w8 (.cells #[.int .i64 0, .int .i64 0, .slice none 0 0, .string ⟨#[]⟩, .int .i64 0, .int .i64 0] 46)).drew hb
                          have k0 := hL0.cell 0
                          have kf0 := hL0.frozen 0
                          have k1 := hL0.cell 1
                          have kf1 := hL0.frozen 1
                          have k2 := hL0.cell 2
                          have kf2 := hL0.frozen 2
                          have k3 := hL0.cell 3
                          have kf3 := hL0.frozen 3
                          have k4 := hL0.cell 4
                          have kf4 := hL0.frozen 4
                          have k5 := hL0.cell 5
                          have kf5 := hL0.frozen 5
                          simp only [List.getElem?_toArray, List.getElem?_cons_zero, List.getElem?_cons_succ] at k0 k1 k2 k3 k4 k5
                          refine hK.out _ _ ?_ (fun hH2 => ?_)
                          · exact ⟨cell_later hb hH1.1, cell_later hb hH1.2.1, cell_later hb hH1.2.2.1, cell_later hb hH1.2.2.2.1, cell_later hb hH1.2.2.2.2.1, cell_later hb hH1.2.2.2.2.2.1, cell_later hb hH1.2.2.2.2.2.2.1, cell_later hb hH1.2.2.2.2.2.2.2.1, cell_later hb hH1.2.2.2.2.2.2.2.2⟩
                          clear hK K
                          try simp only [Act.put, List.setIfInBounds_toArray, List.set_cons_zero, List.set_cons_succ]
                          clear hb
                          refine wpAnyH_take (i := 5) (oi := { dst := some 120, op := Go.Op.indexAddr 22 (Go.Operand.tmp 116) (Go.Operand.tmp 119), type := 0, pos := "law.go:112", after := #[{ on := 1, ground := Go.Ground.data }, { on := 4, ground := Go.Ground.data }], guard := none }) (v := ?vv67) rfl (by kernel_rfl) (by kernel_rfl) (by kernel_rfl) (fun _ _ _ h => h) (Or.inl ⟨by rfl, ?hy67⟩) (by assumption) ?rr67
                          case hy67 => intro w hSw; (try dsimp only at hSw); go_simp; all_goals with_reducible rfl
                          try simp only [Act.put, List.setIfInBounds_toArray, List.set_cons_zero, List.set_cons_succ]
                          refine wpAnyH_take (i := 6) (oi := { dst := some 121, op := Go.Op.load 46 (Go.Operand.tmp 120), type := 46, pos := "law.go:112", after := #[{ on := 5, ground := Go.Ground.data }], guard := none }) (v := ?vv68) rfl (by kernel_rfl) (by kernel_rfl) (by kernel_rfl) (fun _ _ _ h => h) (Or.inl ⟨by rfl, ?hy68⟩) (by assumption) ?rr68
                          case hy68 => intro w hSw; (try dsimp only at hSw); go_simp; all_goals with_reducible rfl
                          try simp only [Act.put, List.setIfInBounds_toArray, List.set_cons_zero, List.set_cons_succ]
                          refine wpAnyH_ready (rs := [8]) (by kernel_rfl) (by simp) ?_
                          refine AllReadyH.cons (i := 8) (o := { dst := none, op := Go.Op.store 46 (Go.Operand.tmp 18) (Go.Operand.tmp 121), type := 0, pos := "law.go:112", after := #[{ on := 7, ground := Go.Ground.data }, { on := 6, ground := Go.Ground.data }, { on := 4, ground := Go.Ground.chain }, { on := 0, ground := Go.Ground.phase }, { on := 1, ground := Go.Ground.phase }, { on := 2, ground := Go.Ground.phase }, { on := 3, ground := Go.Ground.phase }, { on := 4, ground := Go.Ground.phase }, { on := 5, ground := Go.Ground.phase }, { on := 6, ground := Go.Ground.phase }, { on := 7, ground := Go.Ground.phase }], guard := none }) rfl (fun K hK => ?_) AllReadyH.nil
                          go_simp
                          refine hK.out _ _ ?_ (fun hH3 => ?_)
                          · exact ⟨far6 hng2 hH2.1, far6 hng2 hH2.2.1, far6 hng2 hH2.2.2.1, far6 hnb2 hH2.2.2.2.1, far6 hnb2 hH2.2.2.2.2.1, far6 hnb2 hH2.2.2.2.2.2.1, far6 hnb2 hH2.2.2.2.2.2.2.1, far6 hnb2 hH2.2.2.2.2.2.2.2.1, far6 hnb2 hH2.2.2.2.2.2.2.2.2⟩
                          clear hK K
                          try simp only [Act.put, List.setIfInBounds_toArray, List.set_cons_zero, List.set_cons_succ]
                          refine wpAnyH_done (by kernel_rfl) ?_ _
                          obtain ⟨V22, hV⟩ : ∃ V, V = ((((((w'.setCell ⟨w8.heap.size, 0, none⟩ (.int .i64 zc)).setCell ⟨w8.heap.size, 1, none⟩ (.int .i64 o.kind)).setCell ⟨w8.heap.size, 2, none⟩ (.slice S2 o.slots.length ds2)).setCell ⟨w8.heap.size, 3, none⟩ (.string o.text)).setCell ⟨w8.heap.size, 4, none⟩ (.int .i64 o.bits)).setCell ⟨w8.heap.size, 5, none⟩ (.int .i64 o.hash)) := ⟨_, rfl⟩
                          have hLV : Lies V22 w8.heap.size 46 #[.int .i64 zc, .int .i64 o.kind, .slice S2 o.slots.length ds2, .string o.text, .int .i64 o.bits, .int .i64 o.hash] := by
                            rw [hV]
                            have := ((((((hL0.set_ 0 (.int .i64 zc)).set_ 1 (.int .i64 o.kind)).set_ 2 (.slice S2 o.slots.length ds2)).set_ 3 (.string o.text)).set_ 4 (.int .i64 o.bits)).set_ 5 (.int .i64 o.hash))
                            simpa using this
                          have hBV : Below w8.heap.size w8 V22 := by rw [hV]; exact ((((((hB0_.setCell (p := ⟨w8.heap.size, 0, none⟩) (Nat.le_refl _) (.int .i64 zc)).setCell (p := ⟨w8.heap.size, 1, none⟩) (Nat.le_refl _) (.int .i64 o.kind)).setCell (p := ⟨w8.heap.size, 2, none⟩) (Nat.le_refl _) (.slice S2 o.slots.length ds2)).setCell (p := ⟨w8.heap.size, 3, none⟩) (Nat.le_refl _) (.string o.text)).setCell (p := ⟨w8.heap.size, 4, none⟩) (Nat.le_refl _) (.int .i64 o.bits)).setCell (p := ⟨w8.heap.size, 5, none⟩) (Nat.le_refl _) (.int .i64 o.hash))
                          rw [← hV]
                          clear hV hL0 k0 k1 k2 k3 k4 k5 kf0 kf1 kf2 kf3 kf4 kf5
                          have L18 := hid hLV
                          clear hLV hB0_
                          have X10 := hid (X9_.out.later hBV)
                          have G10 := hid (G9_.out.later hBV)
                          have HW10 := hid (HW9.out.trans (hBV.mono HW9.out.size))
                          have M17 := hid (L17b.out.later hBV)
                          clear hBV g0 g1 g2 b0 b1 b2' b3 b4 b5
                          have e0 := M17.out.cell 0
                          have f0 := L18.out.cell 0
                          have e1 := M17.out.cell 1
                          have f1 := L18.out.cell 1
                          have e2 := M17.out.cell 2
                          have f2 := L18.out.cell 2
                          have e3 := M17.out.cell 3
                          have f3 := L18.out.cell 3
                          have e4 := M17.out.cell 4
                          have f4 := L18.out.cell 4
                          have e5 := M17.out.cell 5
                          have f5 := L18.out.cell 5
                          simp only [List.getElem?_toArray, List.getElem?_cons_zero, List.getElem?_cons_succ] at e0 e1 e2 e3 e4 e5 f0 f1 f2 f3 f4 f5
                          go_wp2_with fail
                          go_roundw
                          case rel => exact ⟨j + 1, by omega, by go_num, X10.out, G10.out, HW10.out⟩
                          case measure => simp [intOf]; omega
                    · have hz : z2 = u := by rw [HZ2.out]; exact (va_small hn).1
                      rw [hz]
                      go_wp2_with fail
                      go_roundw
                      case rel => exact ⟨j + 1, by omega, by go_num, XX6.out, GG6.out, HW6.out⟩
                      case measure => simp [intOf]; omega
                · obtain rfl : j = rs.length := by omega
                  go_wp2_with fail
                  go_ret
                  exact ⟨rfl, then_b HB4.out HW.out⟩
            · obtain ⟨en, hen⟩ : ∃ en, en = liE h rs := ⟨_, rfl⟩
              have hne : (en != 0) = true := by rw [hen]; simpa using he
              have HE := hid hen
              clear he hen
              go_wp2_with fail
              refine (compact_any h rs A R c d _ O3.out HF.out R3.out (by omega)).mono ?_
              rintro e w4 ⟨A4, c4, P4, d4, rfl, -, -, hb⟩
              rw [← HE.out]
              have HAL := hid (below_alloc w4 (.cells #[Value.slice A4 (coH h rs).objs.length c4, Value.int .i64 (coH h rs).cap, Value.int .i64 (coH h rs).last] 24))
              have HB4 := hid ((HB3.out.trans (hb.mono HB3.out.size)).trans (HAL.out.mono (Nat.le_trans HB3.out.size hb.size)))
              have X4 := hid ((X3.out.later hb).later HAL.out)
              have O4 := hid ((O3.out.below hb).below HAL.out)
              have R4 := hid ((R3.out.below hb).below HAL.out)
              have V4 := hid ((V3.out.below hb).below HAL.out)
              clear x0 x1 x2
              clear hb
              clear HAL
              have x0 := X4.out.cell 0
              have x1 := X4.out.cell 1
              have x2 := X4.out.cell 2
              simp only [List.getElem?_toArray, List.getElem?_cons_zero, List.getElem?_cons_succ] at x0 x1 x2
              go_wp2_with fail
              go_ret
              exact ⟨rfl, HB4.out⟩
end Go.Proofs.Ytelljlmjhnjpiaa
