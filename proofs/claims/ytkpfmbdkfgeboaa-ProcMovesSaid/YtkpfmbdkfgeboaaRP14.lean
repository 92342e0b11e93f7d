/- A process joined to a list: the program's word. -/
import Derived.Test.YtkpfmbdkfgeboaaRN14
namespace Go.Proofs.Ytkpfmbdkfgeboaa
open Go.RowKit
set_option maxRecDepth 100000
/-- a heap of the call's own is told, a value, an error -/
def HO14 (w : World) (r : Hp × Int × Int) (e : Ending) (w' : World) : Prop := ∃ A c ls, e = .returned (.tuple #[.agg #[.slice A r.1.objs.length c, .int .i64 r.1.cap, .int .i64 r.1.last], .int .i64 r.2.1, .int .i64 r.2.2]) ∧ ls.map (·.o) = r.1.objs ∧ OwnH w' w.heap.size A c ls ∧ Below w.heap.size w w'
theorem own_on14 {Wr : Nat → Prop} {X Y : World} {base : Nat} {e : TypeId} {size n cp : Nat} {S : Option Addr} {xs : List Value} (h : X.ownsRow base e size (.slice S n cp) n xs) (hb : On14 Wr X Y) (hS : ∀ a, S = some a → ¬ Wr a.block) : Y.ownsRow base e size (.slice S n cp) n xs := by
  refine ⟨h.1, ?_⟩
  rcases h.2 with hn | ⟨g, cap, cur, hv, hg, hr, h3⟩
  · exact .inl hn
  · have hv2 := hv
    simp only [Value.slice.injEq] at hv2
    exact .inr ⟨g, cap, cur, hv, hg, (hb.block g (Array.getElem?_eq_some_iff.1 hr).1 (hS _ hv2.1)).trans hr, h3⟩
theorem OwnH.on14 {Wr : Nat → Prop} {X Y : World} {base : Nat} {A : Option Addr} {c : Nat} {ls : List LO} (h : OwnH X base A c ls) (hb : On14 Wr X Y) (hW : ∀ g, Wr g → g < base) : OwnH Y base A c ls :=
  ⟨own_on14 h.row hb fun a e g => by
      have := (h.row.lt a.block (by rw [e]; rfl)).1
      have := hW _ g; omega,
    fun i l hl => own_on14 (h.ints i l hl) hb fun a e g => by
      have := ((h.ints i l hl).lt a.block (by rw [e]; rfl)).1
      have := hW _ g; omega, h.apart⟩
theorem lk_same14 (H : Hp) (l : List Int) : (lk14 H l).objs.length = H.objs.length ∧ (lk14 H l).cap = H.cap ∧ (lk14 H l).last = H.last := by
  rw [← lf_lk14]; exact lf_same14 _ _
/-- three cells of a box of the call's own are written: rows of objects stay -/
theorem set3_14 {w X : World} {bR base c B : Nat} {A : Option Addr} {ls : List LO} {a0 a1 a2 : Value} (hK : Lies X bR 24 #[a0, a1, a2]) (ho : OwnH X base A c ls) (hb : Below B w X) (hbr : B ≤ bR) (v0 v1 v2 : Value) :
    Lies (((X.setCell ⟨bR, 0, none⟩ v0).setCell ⟨bR, 1, none⟩ v1).setCell ⟨bR, 2, none⟩ v2) bR 24 #[v0, v1, v2] ∧ OwnH (((X.setCell ⟨bR, 0, none⟩ v0).setCell ⟨bR, 1, none⟩ v1).setCell ⟨bR, 2, none⟩ v2) base A c ls ∧ Below B w (((X.setCell ⟨bR, 0, none⟩ v0).setCell ⟨bR, 1, none⟩ v1).setCell ⟨bR, 2, none⟩ v2) := by
  have k1 := hK.set_ 0 v0
  have k2 := k1.set_ 1 v1
  have k3 := k2.set_ 2 v2
  exact ⟨k3, ((ho.off hK 0 v0).off k1 1 v1).off k2 2 v2, ((hb.setCell (p := ⟨bR, 0, none⟩) hbr v0).setCell (p := ⟨bR, 1, none⟩) hbr v1).setCell (p := ⟨bR, 2, none⟩) hbr v2⟩
theorem jo_arg14 {h : Hp} {f p : Int} {b : Int → Bool} (hm : mayB h = false) : jo14 h f p b = (zeroH, 0, 1) := by unfold jo14; rw [if_pos hm]
theorem jo_none14 {h : Hp} {f p : Int} {b : Int → Bool} (hm : mayB h = true) (e : ls14 h f = none) : jo14 h f p b = (h, 0, 141) := by unfold jo14; rw [if_neg (by rw [hm]; decide), e]
theorem jo_bad14 {h : Hp} {f p : Int} {b : Int → Bool} {l : List Int} (hm : mayB h = true) (e : ls14 h f = some l) (hb : fr14 h p = false ∨ p ∈ l) : jo14 h f p b = (h, 0, 140) := by unfold jo14; rw [if_neg (by rw [hm]; decide), e]; simp only; rw [if_pos hb]
theorem jo_good14 {h : Hp} {f p : Int} {b : Int → Bool} {l : List Int} (hm : mayB h = true) (e : ls14 h f = some l) (hf : fr14 h p = true) (hn : p ∉ l) : jo14 h f p b = (lk14 h (jl14 l p (l.findIdx b)), (jl14 l p (l.findIdx b)).headD 0, 0) := by unfold jo14; rw [if_neg (by rw [hm]; decide), e]; simp only; rw [if_neg (by rw [hf]; simp [hn])]
set_option maxHeartbeats 4000000 in
theorem pjoined_any14 (h : Hp) (f p : Int) (A : Option Addr) (c : Nat) (FV : Value) (b : Int → Bool) (w : World) (hs : ObsR w A h.objs) (fit : h.Fit)
    (HI : Hid (∀ (W : World) (l : List Int) (S : Option Addr) (d : Nat), Below w.heap.size w W → IntsR W S l → l.length ≤ 300 → (∀ q ∈ l, pc14 h q = true) → pc14 h p = true → Calls Try.prog 49 #[.slice S l.length d, FV] W fun e w' => e = .returned (.int .i64 (fx14 b l)) ∧ Below W.heap.size W w')) :
    Calls Try.prog 29 #[.agg #[.slice A h.objs.length c, .int .i64 h.cap, .int .i64 h.last], .int .i64 f, .int .i64 p, FV] w (HO14 w (jo14 h f p b)) := by
  obtain ⟨w0, hw0⟩ : ∃ u, u = (w.alloc (.cells #[Value.slice A h.objs.length c, Value.int .i64 h.cap, Value.int .i64 h.last] 24)).alloc (.cells #[.slice none 0 0, .int .i64 0, .int .i64 0] 24) := ⟨_, rfl⟩
  obtain ⟨bR, hbR⟩ : ∃ x, x = w.heap.size + 1 := ⟨_, rfl⟩
  have HB0 : Hid (Below w.heap.size w w0) := by show Below _ _ _; rw [hw0]; exact below_alloc2 w _ _
  have HX0 : Hid (Lies w0 w.heap.size 24 #[Value.slice A h.objs.length c, Value.int .i64 h.cap, Value.int .i64 h.last]) := by
    show Lies _ _ _ _
    rw [hw0]; exact (Lies.new _ _ _).alloc _
  have HR0 : Hid (Lies w0 bR 24 #[.slice none 0 0, .int .i64 0, .int .i64 0]) := by
    show Lies _ _ _ _
    have := Lies.new (w.alloc (.cells #[Value.slice A h.objs.length c, Value.int .i64 h.cap, Value.int .i64 h.last] 24)) 24 #[.slice none 0 0, .int .i64 0, .int .i64 0]
    rw [hw0, hbR]; simpa using this
  have HRW : Hid (w.heap.size ≤ bR) := by show _ ≤ _; omega
  have HRL : Hid (bR < w0.heap.size) := HR0.out.lt
  have HS := hid hs
  have HF := hid fit
  obtain ⟨rr, hrr⟩ : ∃ r, r = jo14 h f p b := ⟨_, rfl⟩
  rw [← hrr]
  have HRR := hid hrr
  clear hs fit hrr
  go_enter Try.func29, Try.ntmps29
  go_upto_region 1 with fail
  rw [← hw0, ← hbR]
  clear hw0 hbR
  obtain ⟨x0, x1, x2⟩ := HX0.out.c3
  go_wp2_with fail
  refine (plist_any14 h f A c w0 (HS.out.below HB0.out) HF.out).mono ?_
  rintro e w1 ⟨S, cl, rfl, hol, hb⟩
  have HW1 : Hid (w0.heap.size ≤ w1.heap.size) := hb.size
  have HB1 := hid (then_w HB0.out hb)
  have HX1 := hid (HX0.out.later hb)
  have HR1 := hid (HR0.out.later hb)
  clear hb x0 x1 x2
  cases hm : mayB h
  · have HR2 : Hid (rr = (zeroH, 0, 1)) := by show _ = _; rw [HRR.out]; exact jo_arg14 hm
    rw [lr_arg14 hm]
    clear hm hol
    obtain ⟨x0, x1, x2⟩ := HX1.out.c3
    go_wp2_with fail
    refine (punchanged_any14 h 1 A c w1 (HS.out.below HB1.out) (fun e => absurd rfl e)).mono ?_
    rintro e wu ⟨Au, cu, lu, rfl, hlu, hou, hbu⟩
    have HKu := hid (HR1.out.later hbu)
    have HBu := hid (then_w HB1.out hbu)
    have HOu := hid hou
    have HLu := hid hlu
    have HBW := hid (HB1.out.size)
    clear hou hbu hlu x0 x1 x2
    rw [show unH h 1 = zeroH from rfl] at HLu ⊢
    obtain ⟨k0, k1, k2⟩ := HKu.out.c3
    obtain ⟨f0, f1, f2⟩ := HKu.out.f3
    go_wp2_with fail
    obtain ⟨s1, s2, s3⟩ := set3_14 HKu.out HOu.out HBu.out HRW.out (.slice Au (zeroH).objs.length cu) (.int .i64 (zeroH).cap) (.int .i64 (zeroH).last)
    obtain ⟨r0, r1, r2⟩ := s1.c3
    refine bodyPost_ret (v := .tuple #[.agg #[.slice Au (zeroH).objs.length cu, .int .i64 (zeroH).cap, .int .i64 (zeroH).last], .int .i64 0, .int .i64 1]) (by simp [results, Try.results29, go_sem, r0, r1, r2]) rfl ?_
    rw [HR2.out]
    exact ⟨Au, cu, lu, rfl, HLu.out, s2.lower HBW.out, s3⟩
  · have HM := hid hm
    cases hl : ls14 h f with
    | none =>
      have HR2 : Hid (rr = (h, 0, 141)) := by show _ = _; rw [HRR.out]; exact jo_none14 hm hl
      rw [lr_none14 hm hl]
      clear hm hl hol
      obtain ⟨x0, x1, x2⟩ := HX1.out.c3
      go_wp2_with fail
      refine (punchanged_any14 h 141 A c w1 (HS.out.below HB1.out) (fun _ => HM.out)).mono ?_
      rintro e wu ⟨Au, cu, lu, rfl, hlu, hou, hbu⟩
      have HKu := hid (HR1.out.later hbu)
      have HBu := hid (then_w HB1.out hbu)
      have HOu := hid hou
      have HLu := hid hlu
      have HBW := hid (HB1.out.size)
      clear hou hbu hlu x0 x1 x2
      rw [show unH h 141 = h from rfl] at HLu ⊢
      obtain ⟨k0, k1, k2⟩ := HKu.out.c3
      obtain ⟨f0, f1, f2⟩ := HKu.out.f3
      go_wp2_with fail
      obtain ⟨s1, s2, s3⟩ := set3_14 HKu.out HOu.out HBu.out HRW.out (.slice Au (h).objs.length cu) (.int .i64 (h).cap) (.int .i64 (h).last)
      obtain ⟨r0, r1, r2⟩ := s1.c3
      refine bodyPost_ret (v := .tuple #[.agg #[.slice Au (h).objs.length cu, .int .i64 (h).cap, .int .i64 (h).last], .int .i64 0, .int .i64 141]) (by simp [results, Try.results29, go_sem, r0, r1, r2]) rfl ?_
      rw [HR2.out]
      exact ⟨Au, cu, lu, rfl, HLu.out, s2.lower HBW.out, s3⟩
    | some l =>
      obtain ⟨hnd, hpc, hhd, hlen⟩ := ls_some14 hl
      have HPC := hid hpc
      have h300 : l.length ≤ 300 := by have := may_len hm; omega
      have HLL := hid h300
      have HL2 : Hid (l.length ≤ 256) := by show _ ≤ _; have := may_len hm; omega
      have HLS := hid hl
      rw [lr_some14 hm hl] at hol ⊢
      have HOL := hid hol
      clear hm hl hol hnd hpc hhd hlen
      obtain ⟨x0, x1, x2⟩ := HX1.out.c3
      go_wp2_with fail
      refine (pfree_any14 h p A c w w1 HS.out HB1.out).mono ?_
      rintro e w2 ⟨rfl, hb⟩
      have HW2 : Hid (w0.heap.size ≤ w2.heap.size) := Nat.le_trans HW1.out hb.size
      have HB2 := hid (then_w HB1.out hb)
      have HX2 := hid (HX1.out.later hb)
      have HRc2 := hid (HR1.out.later hb)
      have HOL2 := hid (own_later HOL.out hb)
      clear hb x0 x1 x2
      cases hfr : fr14 h p
      · have HRe : Hid (rr = (h, 0, 140)) := by show _ = _; rw [HRR.out]; exact jo_bad14 HM.out HLS.out (.inl hfr)
        clear hfr
        obtain ⟨x0, x1, x2⟩ := HX2.out.c3
        go_wp2_with fail
        refine (punchanged_any14 h 140 A c w2 (HS.out.below HB2.out) (fun _ => HM.out)).mono ?_
        rintro e wu ⟨Au, cu, lu, rfl, hlu, hou, hbu⟩
        have HKu := hid (HRc2.out.later hbu)
        have HBu := hid (then_w HB2.out hbu)
        have HOu := hid hou
        have HLu := hid hlu
        have HBW := hid (HB2.out.size)
        clear hou hbu hlu x0 x1 x2
        rw [show unH h 140 = h from rfl] at HLu ⊢
        obtain ⟨k0, k1, k2⟩ := HKu.out.c3
        obtain ⟨f0, f1, f2⟩ := HKu.out.f3
        go_wp2_with fail
        obtain ⟨s1, s2, s3⟩ := set3_14 HKu.out HOu.out HBu.out HRW.out (.slice Au (h).objs.length cu) (.int .i64 (h).cap) (.int .i64 (h).last)
        obtain ⟨r0, r1, r2⟩ := s1.c3
        refine bodyPost_ret (v := .tuple #[.agg #[.slice Au (h).objs.length cu, .int .i64 (h).cap, .int .i64 (h).last], .int .i64 0, .int .i64 140]) (by simp [results, Try.results29, go_sem, r0, r1, r2]) rfl ?_
        rw [HRe.out]
        exact ⟨Au, cu, lu, rfl, HLu.out, s2.lower HBW.out, s3⟩
      · have HFR := hid hfr
        have hpp : pc14 h p = true := by
          unfold fr14 at hfr
          simp only [Bool.and_eq_true] at hfr
          exact hfr.1
        have HPP := hid hpp
        have HIS := hid (own_ints HOL2.out)
        have hl64 : l.length ≤ 9223372036854775807 := by omega
        clear hfr hpp
        go_wp2_with fail
        refine (contains_any14 l S cl p w2 HIS.out hl64).mono ?_
        rintro e w3 ⟨rfl, rfl⟩
        by_cases hin : p ∈ l
        · have HRe : Hid (rr = (h, 0, 140)) := by show _ = _; rw [HRR.out]; exact jo_bad14 HM.out HLS.out (.inr hin)
          rw [decide_eq_true hin]
          clear hin hl64
          obtain ⟨x0, x1, x2⟩ := HX2.out.c3
          go_wp2_with fail
          refine (punchanged_any14 h 140 A c w3 (HS.out.below HB2.out) (fun _ => HM.out)).mono ?_
          rintro e wu ⟨Au, cu, lu, rfl, hlu, hou, hbu⟩
          have HKu := hid (HRc2.out.later hbu)
          have HBu := hid (then_w HB2.out hbu)
          have HOu := hid hou
          have HLu := hid hlu
          have HBW := hid (HB2.out.size)
          clear hou hbu hlu x0 x1 x2
          rw [show unH h 140 = h from rfl] at HLu ⊢
          obtain ⟨k0, k1, k2⟩ := HKu.out.c3
          obtain ⟨f0, f1, f2⟩ := HKu.out.f3
          go_wp2_with fail
          obtain ⟨s1, s2, s3⟩ := set3_14 HKu.out HOu.out HBu.out HRW.out (.slice Au (h).objs.length cu) (.int .i64 (h).cap) (.int .i64 (h).last)
          obtain ⟨r0, r1, r2⟩ := s1.c3
          refine bodyPost_ret (v := .tuple #[.agg #[.slice Au (h).objs.length cu, .int .i64 (h).cap, .int .i64 (h).last], .int .i64 0, .int .i64 140]) (by simp [results, Try.results29, go_sem, r0, r1, r2]) rfl ?_
          rw [HRe.out]
          exact ⟨Au, cu, lu, rfl, HLu.out, s2.lower HBW.out, s3⟩
        · have HIN := hid hin
          rw [decide_eq_false hin]
          have HRe := hid (jo_good14 (b := b) HM.out HLS.out HFR.out hin)
          clear hin hl64
          go_wp2_with fail
          refine (HI.out w3 l S cl HB2.out HIS.out h300 HPC.out HPP.out).mono ?_
          rintro e w4 ⟨rfl, hb⟩
          have HW04 : Hid (w0.heap.size ≤ w4.heap.size) := Nat.le_trans HW2.out hb.size
          have HB4 := hid (then_w HB2.out hb)
          have HX4 := hid (HX2.out.later hb)
          have HR4 := hid (HRc2.out.later hb)
          have HOL4 := hid (own_later HOL2.out hb)
          clear hb
          obtain ⟨k, hk⟩ : ∃ k, k = l.findIdx b := ⟨_, rfl⟩
          have hkl : k ≤ l.length := by rw [hk]; exact List.findIdx_le_length
          rw [← hk] at HRe
          have HKB : Hid (fx14 b l = if k < l.length then (k : Int) else -1) := by show _ = _; unfold fx14; rw [hk]
          rw [HKB.out]
          clear hk
          have HKL := hid hkl
          by_cases hlt : k < l.length
          · have HLT := hid hlt
            obtain ⟨x0, x1, x2⟩ := HX4.out.c3
            go_wp2_with fail
            refine (pclone_h14 h A c w4 (HS.out.below HB4.out) HM.out).mono ?_
            rintro e w5 ⟨A2, c2, ls, rfl, hm5, ho5, hb⟩
            have HSB : Hid (∀ g, Own1_14 S g → g < w4.heap.size ∧ w0.heap.size ≤ g) := fun g ⟨a, e, eg⟩ => by
              have := HOL4.out.lt a.block (by rw [e]; rfl)
              rw [← eg]
              exact ⟨this.2, this.1⟩
            have HM5 := hid hm5
            have HO5 := hid ho5
            have HW45 := hid (hb.size)
            have HB5 := hid (then_w HB4.out hb)
            have HR5 := hid (HR4.out.later hb)
            have HOL5 := hid (own_later HOL4.out hb)
            clear hm5 ho5 hb x0 x1 x2
            go_upto_region 10 with fail
            obtain ⟨w6, hw6⟩ : ∃ x, x = w5.alloc (.cells #[Value.slice A2 h.objs.length c2, Value.int .i64 h.cap, Value.int .i64 h.last] 24) := ⟨_, rfl⟩
            obtain ⟨bG, hbG⟩ : ∃ x, x = w5.heap.size := ⟨_, rfl⟩
            have HG6 : Hid (Lies w6 bG 24 #[Value.slice A2 h.objs.length c2, Value.int .i64 h.cap, Value.int .i64 h.last]) := by show Lies _ _ _ _; rw [hw6, hbG]; exact Lies.new _ _ _
            have hb : Below w5.heap.size w5 w6 := by rw [hw6]; exact below_alloc _ _
            have HB6 := hid (then_w HB5.out hb)
            have HW56 := hid (hb.size)
            have HW46 : Hid (w4.heap.size ≤ w6.heap.size) := Nat.le_trans HW45.out hb.size
            have HGE : Hid (w5.heap.size ≤ bG) := by show _ ≤ _; omega
            have HGL : Hid (w4.heap.size ≤ bG) := Nat.le_trans HW45.out HGE.out
            have HGR : Hid (bG ≠ bR) := by show _ ≠ _; have := HGL.out; have := HRL.out; have := HW04.out; omega
            have HR6 := hid (HR5.out.later hb)
            have HOL6 := hid (own_later HOL5.out hb)
            have HO6 := hid (HO5.out.later hb)
            rw [← hw6, ← hbG]
            clear hw6 hbG hb
            obtain ⟨g0, g1, g2⟩ := HG6.out.c3
            refine wp_region_held_drew (S := (fun w' => w'.cell? ⟨bG, 0, none⟩ = some (.slice A2 h.objs.length c2) ∧ w'.cell? ⟨bG, 1, none⟩ = some (.int .i64 h.cap) ∧ w'.cell? ⟨bG, 2, none⟩ = some (.int .i64 h.last))) (by kernel_rfl) ?_ (fun hH0 => ?_)
            · exact ⟨cell_later (Below.refl w6.heap.size w6).drew g0, cell_later (Below.refl w6.heap.size w6).drew g1, cell_later (Below.refl w6.heap.size w6).drew g2⟩
            refine wpAnyH_take (i := 0) (oi := { dst := some 49, op := Go.Op.load 24 (Go.Operand.tmp 14), type := 24, pos := "proc.go:94", after := #[], guard := none }) (v := ?vv1) rfl (by kernel_rfl) (by kernel_rfl) (by kernel_rfl) (fun _ _ _ h => h) (Or.inl ⟨by rfl, ?hy1⟩) (by assumption) ?rr1
            case hy1 => intro w hSw; (try dsimp only at hSw); go_simp; all_goals with_reducible rfl
            try simp only [Act.put, List.setIfInBounds_toArray, List.set_cons_zero, List.set_cons_succ]
            refine wpAnyH_take (i := 1) (oi := { dst := some 50, op := Go.Op.load 24 (Go.Operand.tmp 14), type := 24, pos := "proc.go:94", after := #[], guard := none }) (v := ?vv2) rfl (by kernel_rfl) (by kernel_rfl) (by kernel_rfl) (fun _ _ _ h => h) (Or.inl ⟨by rfl, ?hy2⟩) (by assumption) ?rr2
            case hy2 => intro w hSw; (try dsimp only at hSw); go_simp; all_goals with_reducible rfl
            try simp only [Act.put, List.setIfInBounds_toArray, List.set_cons_zero, List.set_cons_succ]
            refine wpAnyH_take (i := 2) (oi := { dst := some 51, op := Go.Op.move (Go.Operand.tmp 11), type := 27, pos := "proc.go:94", after := #[], guard := none }) (v := ?vv3) rfl (by kernel_rfl) (by kernel_rfl) (by kernel_rfl) (fun _ _ _ h => h) (Or.inl ⟨by rfl, ?hy3⟩) (by assumption) ?rr3
            case hy3 => intro w hSw; (try dsimp only at hSw); go_simp; all_goals with_reducible rfl
            try simp only [Act.put, List.setIfInBounds_toArray, List.set_cons_zero, List.set_cons_succ]
            refine wpAnyH_take (i := 3) (oi := { dst := some 52, op := Go.Op.move (Go.Operand.tmp 13), type := 3, pos := "proc.go:94", after := #[], guard := none }) (v := ?vv4) rfl (by kernel_rfl) (by kernel_rfl) (by kernel_rfl) (fun _ _ _ h => h) (Or.inl ⟨by rfl, ?hy4⟩) (by assumption) ?rr4
            case hy4 => intro w hSw; (try dsimp only at hSw); go_simp; all_goals with_reducible rfl
            try simp only [Act.put, List.setIfInBounds_toArray, List.set_cons_zero, List.set_cons_succ]
            refine wpAnyH_take (i := 4) (oi := { dst := some 53, op := Go.Op.move (Go.Operand.tmp 2), type := 3, pos := "proc.go:94", after := #[], guard := none }) (v := ?vv5) rfl (by kernel_rfl) (by kernel_rfl) (by kernel_rfl) (fun _ _ _ h => h) (Or.inl ⟨by rfl, ?hy5⟩) (by assumption) ?rr5
            case hy5 => intro w hSw; (try dsimp only at hSw); go_simp; all_goals with_reducible rfl
            try simp only [Act.put, List.setIfInBounds_toArray, List.set_cons_zero, List.set_cons_succ]
            refine wpAnyH_ready (rs := [5]) (by kernel_rfl) (by simp) ?_
            refine AllReadyH.cons (i := 5) (o := { dst := some 54, op := Go.Op.buildSlice 27 1 #[(0, Go.Operand.tmp 53)], type := 27, pos := "proc.go:94", after := #[{ on := 4, ground := Go.Ground.data }], guard := none }) rfl (fun K hK => ?_) AllReadyH.nil
            go_simp
            obtain ⟨w7, hw7⟩ : ∃ x, x = (w6.alloc (.cells #[.int .i64 p] 3)).drew := ⟨_, rfl⟩
            obtain ⟨vb, hvb⟩ : ∃ x, x = w6.heap.size := ⟨_, rfl⟩
            rw [← hw7, ← hvb]
            have hb : Below w6.heap.size w6 w7 := by rw [hw7]; exact (below_alloc _ _).drew
            have HV7 : Hid (Lies w7 vb 3 #[.int .i64 p]) := by
              show Lies _ _ _ _
              rw [hw7, hvb]; exact (Lies.new _ _ _).later (Below.refl _ _).drew
            have HVN : Hid (∀ a, S = some a → a.block ≠ vb) := fun a e => by
              have h1 := (HSB.out a.block ⟨a, e, rfl⟩).1
              have := HW46.out
              rw [hvb]; omega
            have HB7 := hid (then_w HB6.out hb)
            have HR7 := hid (HR6.out.later hb)
            have HG7 := hid (HG6.out.later hb)
            have HOL7 := hid (own_later HOL6.out hb)
            have HO7 := hid (HO6.out.later hb)
            have HW47 : Hid (w4.heap.size ≤ w7.heap.size) := Nat.le_trans HW46.out hb.size
            have HW57 : Hid (w5.heap.size ≤ w7.heap.size) := Nat.le_trans HW56.out hb.size
            clear hw7 hvb hb g0 g1 g2
            obtain ⟨g0, g1, g2⟩ := HG7.out.c3
            refine hK.out _ _ ?_ (fun hH1 => ?_)
            · exact ⟨g0, g1, g2⟩
            clear hK K
            try simp only [Act.put, List.setIfInBounds_toArray, List.set_cons_zero, List.set_cons_succ]
            clear g0 g1 g2
            refine wpAnyH_ready (rs := [6]) (by kernel_rfl) (by simp) ?_
            refine AllReadyH.cons (i := 6) (o := { dst := some 55, op := Go.Op.call { callee := Go.Callee.value (Go.Operand.func 52), args := #[Go.Operand.tmp 51, Go.Operand.tmp 52, Go.Operand.tmp 54], argTypes := #[27, 3, 27] }, type := 27, pos := "proc.go:94", after := #[{ on := 2, ground := Go.Ground.data }, { on := 3, ground := Go.Ground.data }, { on := 5, ground := Go.Ground.data }], guard := none }) rfl (fun K hK => ?_) AllReadyH.nil
            go_simp
            refine (insert_any14 l S cl _ k p vb w7 HOL7.out HV7.out HVN.out (Nat.le_of_lt HLT.out) HLL.out).mono ?_
            rintro e w8 ⟨S2, cJ, rfl, hint, hon, hblk⟩
            obtain ⟨J, hJ⟩ : ∃ J, J = jl14 l p k := ⟨_, rfl⟩
            have hJl : J.length = l.length + 1 := by rw [hJ]; exact jl_len14 l p (Nat.le_of_lt HLT.out)
            rw [← hJ] at hint
            rw [← hJl]
            have HJ8 := hid hint
            have HJP : Hid (∀ q ∈ J, pc14 h q = true) := fun q hq => by
              rw [hJ] at hq
              unfold jl14 at hq
              simp only [List.mem_append, List.mem_cons] at hq
              rcases hq with hq | rfl | hq
              · exact HPC.out q (List.mem_of_mem_take hq)
              · exact HPP.out
              · exact HPC.out q (List.mem_of_mem_drop hq)
            have HJ3 : Hid (J.length ≤ 300) := by show _ ≤ _; have := HL2.out; omega
            have HRJ : Hid (rr = (lk14 h J, J.headD 0, 0)) := by show _ = _; rw [HRR.out, HRe.out, hJ]
            have HB8 := hid (HB7.out.trans (hon.below HB7.out.size fun g hg => Nat.le_trans HB0.out.size (HSB.out g hg).2))
            have HR8 : Hid (Lies w8 bR 24 #[.slice none 0 0, .int .i64 0, .int .i64 0]) := (hon.block bR HR7.out.lt fun g => by have := (HSB.out _ g).2; have := HRL.out; omega).trans HR7.out
            have HG8 : Hid (Lies w8 bG 24 #[Value.slice A2 h.objs.length c2, Value.int .i64 h.cap, Value.int .i64 h.last]) := (hon.block bG HG7.out.lt fun g => by have := (HSB.out _ g).1; have := HGL.out; omega).trans HG7.out
            have HO8 := hid (HO7.out.on14 hon fun g hg => (HSB.out g hg).1)
            have HW48 : Hid (w4.heap.size ≤ w8.heap.size) := Nat.le_trans HW47.out hon.size
            have HNS8 : Hid (∀ a, S2 = some a → ¬ Wr14 ls a.block ∧ a.block < w8.heap.size) := fun a e => by
              rcases hblk a e with g | ⟨g, g2⟩
              · have h1 := (HSB.out _ g).1
                exact ⟨fun k => by have := (wr_lt14 HO5.out _ k).2; omega, Nat.lt_of_lt_of_le h1 HW48.out⟩
              · exact ⟨fun k => by have := (wr_lt14 HO5.out _ k).1; have := HW57.out; omega, g2⟩
            clear hint hon hblk hJ hJl
            obtain ⟨g0, g1, g2⟩ := HG8.out.c3
            refine hK.out _ _ ?_ (fun hH2 => ?_)
            · exact ⟨g0, g1, g2⟩
            clear hK K
            try simp only [Act.put, List.setIfInBounds_toArray, List.set_cons_zero, List.set_cons_succ]
            clear g0 g1 g2
            refine wpAnyH_ready (rs := [7]) (by kernel_rfl) (by simp) ?_
            refine AllReadyH.cons (i := 7) (o := { dst := some 56, op := Go.Op.call { callee := Go.Callee.value (Go.Operand.func 51), args := #[Go.Operand.tmp 50, Go.Operand.tmp 55], argTypes := #[24, 27] }, type := 3, pos := "proc.go:94", after := #[{ on := 1, ground := Go.Ground.data }, { on := 6, ground := Go.Ground.data }, { on := 6, ground := Go.Ground.chain }], guard := none }) rfl (fun K hK => ?_) AllReadyH.nil
            go_simp
            refine (plink_any14 h J A2 c2 S2 cJ w4.heap.size ls w8 HO8.out HM5.out HJP.out HJ3.out HJ8.out HNS8.out HW48.out).mono ?_
            rintro e w9 ⟨rfl, ls9, hm9, ho9, -, hon⟩
            have HM9 := hid hm9
            have HO9 := hid ho9
            have HB9 := hid (HB8.out.trans (hon.below HB8.out.size fun g hg => Nat.le_trans (Nat.le_trans HB0.out.size HW04.out) (wr_lt14 HO5.out g hg).2))
            have HR9 : Hid (Lies w9 bR 24 #[.slice none 0 0, .int .i64 0, .int .i64 0]) := (hon.block bR HR8.out.lt fun g => by have := (wr_lt14 HO5.out _ g).2; have := HRL.out; have := HW04.out; omega).trans HR8.out
            have HG9 : Hid (Lies w9 bG 24 #[Value.slice A2 h.objs.length c2, Value.int .i64 h.cap, Value.int .i64 h.last]) := (hon.block bG HG8.out.lt fun g => by have := (wr_lt14 HO5.out _ g).1; have := HGE.out; omega).trans HG8.out
            clear hm9 ho9 hon
            obtain ⟨g0, g1, g2⟩ := HG9.out.c3
            refine hK.out _ _ ?_ (fun hH3 => ?_)
            · exact ⟨g0, g1, g2⟩
            clear hK K
            try simp only [Act.put, List.setIfInBounds_toArray, List.set_cons_zero, List.set_cons_succ]
            clear g0 g1 g2
            refine wpAnyH_ready (rs := [8]) (by kernel_rfl) (by simp) ?_
            refine AllReadyH.cons (i := 8) (o := { dst := none, op := Go.Op.store 24 (Go.Operand.tmp 8) (Go.Operand.tmp 49), type := 0, pos := "proc.go:94", after := #[{ on := 0, ground := Go.Ground.data }, { on := 7, ground := Go.Ground.chain }, { on := 0, ground := Go.Ground.phase }, { on := 1, ground := Go.Ground.textOnly Go.Departure.lateStores }, { on := 2, ground := Go.Ground.textOnly Go.Departure.lateStores }, { on := 3, ground := Go.Ground.textOnly Go.Departure.lateStores }, { on := 4, ground := Go.Ground.textOnly Go.Departure.lateStores }, { on := 5, ground := Go.Ground.textOnly Go.Departure.lateStores }, { on := 6, ground := Go.Ground.textOnly Go.Departure.lateStoresUnsure }, { on := 7, ground := Go.Ground.textOnly Go.Departure.lateStoresUnsure }], guard := none }) rfl (fun K hK => ?_) AllReadyH.nil
            obtain ⟨k0, k1, k2⟩ := HR9.out.c3
            obtain ⟨f0, f1, f2⟩ := HR9.out.f3
            go_simp
            clear k0 k1 k2 f0 f1 f2
            obtain ⟨s1, s2, s3⟩ := set3_14 HR9.out HO9.out HB9.out HRW.out (.slice A2 h.objs.length c2) (.int .i64 h.cap) (.int .i64 h.last)
            have s4 := ((HG9.out.far (p := ⟨bR, 0, none⟩) HGR.out (.slice A2 h.objs.length c2)).far (p := ⟨bR, 1, none⟩) HGR.out (.int .i64 h.cap)).far (p := ⟨bR, 2, none⟩) HGR.out (.int .i64 h.last)
            obtain ⟨V, hV⟩ : ∃ V, V = ((w9.setCell ⟨bR, 0, none⟩ (.slice A2 h.objs.length c2)).setCell ⟨bR, 1, none⟩ (.int .i64 h.cap)).setCell ⟨bR, 2, none⟩ (.int .i64 h.last) := ⟨_, rfl⟩
            rw [← hV] at s1 s2 s3 s4
            rw [← hV]
            have HRV := hid s1
            have HOV := hid s2
            have HBV := hid s3
            have HGV := hid s4
            clear hV s1 s2 s3 s4
            obtain ⟨g0, g1, g2⟩ := HGV.out.c3
            refine hK.out _ _ ?_ (fun hH4 => ?_)
            · exact ⟨g0, g1, g2⟩
            clear hK K
            try simp only [Act.put, List.setIfInBounds_toArray, List.set_cons_zero, List.set_cons_succ]
            clear g0 g1 g2
            refine wpAnyH_take (i := 9) (oi := { dst := some 9, op := Go.Op.assign (Go.Operand.tmp 56), type := 3, pos := "proc.go:94", after := #[{ on := 7, ground := Go.Ground.data }, { on := 8, ground := Go.Ground.chain }, { on := 0, ground := Go.Ground.phase }, { on := 1, ground := Go.Ground.phase }, { on := 2, ground := Go.Ground.phase }, { on := 3, ground := Go.Ground.phase }, { on := 4, ground := Go.Ground.phase }, { on := 5, ground := Go.Ground.phase }, { on := 6, ground := Go.Ground.phase }, { on := 7, ground := Go.Ground.phase }, { on := 8, ground := Go.Ground.phase }], guard := none }) (v := ?vv6) rfl (by kernel_rfl) (by kernel_rfl) (by kernel_rfl) (fun _ _ _ h => h) (Or.inl ⟨by rfl, ?hy6⟩) (by assumption) ?rr6
            case hy6 => intro w hSw; (try dsimp only at hSw); go_simp; all_goals with_reducible rfl
            try simp only [Act.put, List.setIfInBounds_toArray, List.set_cons_zero, List.set_cons_succ]
            refine wpAnyH_take (i := 10) (oi := { dst := some 10, op := Go.Op.assign (Go.Operand.const (Go.Value.int Go.IntKind.i64 0)), type := 28, pos := "proc.go:94", after := #[{ on := 9, ground := Go.Ground.chain }, { on := 0, ground := Go.Ground.phase }, { on := 1, ground := Go.Ground.phase }, { on := 2, ground := Go.Ground.phase }, { on := 3, ground := Go.Ground.phase }, { on := 4, ground := Go.Ground.phase }, { on := 5, ground := Go.Ground.phase }, { on := 6, ground := Go.Ground.phase }, { on := 7, ground := Go.Ground.phase }, { on := 8, ground := Go.Ground.phase }, { on := 9, ground := Go.Ground.phase }], guard := none }) (v := ?vv7) rfl (by kernel_rfl) (by kernel_rfl) (by kernel_rfl) (fun _ _ _ h => h) (Or.inl ⟨by rfl, ?hy7⟩) (by assumption) ?rr7
            case hy7 => intro w hSw; (try dsimp only at hSw); go_simp; all_goals with_reducible rfl
            try simp only [Act.put, List.setIfInBounds_toArray, List.set_cons_zero, List.set_cons_succ]
            refine wpAnyH_done (by kernel_rfl) ?_ _
            obtain ⟨r0, r1, r2⟩ := HRV.out.c3
            obtain ⟨q1, q2, q3⟩ := lk_same14 h J
            go_wp2_with fail
            refine bodyPost_ret (v := .tuple #[.agg #[.slice A2 h.objs.length c2, .int .i64 h.cap, .int .i64 h.last], .int .i64 (J.headD 0), .int .i64 0]) (by simp [results, Try.results29, go_sem, r0, r1, r2]) rfl ?_
            rw [HRJ.out]
            refine ⟨A2, c2, ls9, ?_, HM9.out, HOV.out.lower (Nat.le_trans HB0.out.size HW04.out), HBV.out⟩
            rw [q1, q2, q3]
          · obtain rfl : k = l.length := by omega
            obtain ⟨x0, x1, x2⟩ := HX4.out.c3
            go_wp2_with fail
            refine (pclone_h14 h A c w4 (HS.out.below HB4.out) HM.out).mono ?_
            rintro e w5 ⟨A2, c2, ls, rfl, hm5, ho5, hb⟩
            have HSB : Hid (∀ g, Own1_14 S g → g < w4.heap.size ∧ w0.heap.size ≤ g) := fun g ⟨a, e, eg⟩ => by
              have := HOL4.out.lt a.block (by rw [e]; rfl)
              rw [← eg]
              exact ⟨this.2, this.1⟩
            have HM5 := hid hm5
            have HO5 := hid ho5
            have HW45 := hid (hb.size)
            have HB5 := hid (then_w HB4.out hb)
            have HR5 := hid (HR4.out.later hb)
            have HOL5 := hid (own_later HOL4.out hb)
            clear hm5 ho5 hb x0 x1 x2
            go_upto_region 10 with fail
            obtain ⟨w6, hw6⟩ : ∃ x, x = w5.alloc (.cells #[Value.slice A2 h.objs.length c2, Value.int .i64 h.cap, Value.int .i64 h.last] 24) := ⟨_, rfl⟩
            obtain ⟨bG, hbG⟩ : ∃ x, x = w5.heap.size := ⟨_, rfl⟩
            have HG6 : Hid (Lies w6 bG 24 #[Value.slice A2 h.objs.length c2, Value.int .i64 h.cap, Value.int .i64 h.last]) := by show Lies _ _ _ _; rw [hw6, hbG]; exact Lies.new _ _ _
            have hb : Below w5.heap.size w5 w6 := by rw [hw6]; exact below_alloc _ _
            have HB6 := hid (then_w HB5.out hb)
            have HW56 := hid (hb.size)
            have HW46 : Hid (w4.heap.size ≤ w6.heap.size) := Nat.le_trans HW45.out hb.size
            have HGE : Hid (w5.heap.size ≤ bG) := by show _ ≤ _; omega
            have HGL : Hid (w4.heap.size ≤ bG) := Nat.le_trans HW45.out HGE.out
            have HGR : Hid (bG ≠ bR) := by show _ ≠ _; have := HGL.out; have := HRL.out; have := HW04.out; omega
            have HR6 := hid (HR5.out.later hb)
            have HOL6 := hid (own_later HOL5.out hb)
            have HO6 := hid (HO5.out.later hb)
            rw [← hw6, ← hbG]
            clear hw6 hbG hb
            obtain ⟨g0, g1, g2⟩ := HG6.out.c3
            refine wp_region_held_drew (S := (fun w' => w'.cell? ⟨bG, 0, none⟩ = some (.slice A2 h.objs.length c2) ∧ w'.cell? ⟨bG, 1, none⟩ = some (.int .i64 h.cap) ∧ w'.cell? ⟨bG, 2, none⟩ = some (.int .i64 h.last))) (by kernel_rfl) ?_ (fun hH0 => ?_)
            · exact ⟨cell_later (Below.refl w6.heap.size w6).drew g0, cell_later (Below.refl w6.heap.size w6).drew g1, cell_later (Below.refl w6.heap.size w6).drew g2⟩
            refine wpAnyH_take (i := 0) (oi := { dst := some 49, op := Go.Op.load 24 (Go.Operand.tmp 14), type := 24, pos := "proc.go:94", after := #[], guard := none }) (v := ?vv8) rfl (by kernel_rfl) (by kernel_rfl) (by kernel_rfl) (fun _ _ _ h => h) (Or.inl ⟨by rfl, ?hy8⟩) (by assumption) ?rr8
            case hy8 => intro w hSw; (try dsimp only at hSw); go_simp; all_goals with_reducible rfl
            try simp only [Act.put, List.setIfInBounds_toArray, List.set_cons_zero, List.set_cons_succ]
            refine wpAnyH_take (i := 1) (oi := { dst := some 50, op := Go.Op.load 24 (Go.Operand.tmp 14), type := 24, pos := "proc.go:94", after := #[], guard := none }) (v := ?vv9) rfl (by kernel_rfl) (by kernel_rfl) (by kernel_rfl) (fun _ _ _ h => h) (Or.inl ⟨by rfl, ?hy9⟩) (by assumption) ?rr9
            case hy9 => intro w hSw; (try dsimp only at hSw); go_simp; all_goals with_reducible rfl
            try simp only [Act.put, List.setIfInBounds_toArray, List.set_cons_zero, List.set_cons_succ]
            refine wpAnyH_take (i := 2) (oi := { dst := some 51, op := Go.Op.move (Go.Operand.tmp 11), type := 27, pos := "proc.go:94", after := #[], guard := none }) (v := ?vv10) rfl (by kernel_rfl) (by kernel_rfl) (by kernel_rfl) (fun _ _ _ h => h) (Or.inl ⟨by rfl, ?hy10⟩) (by assumption) ?rr10
            case hy10 => intro w hSw; (try dsimp only at hSw); go_simp; all_goals with_reducible rfl
            try simp only [Act.put, List.setIfInBounds_toArray, List.set_cons_zero, List.set_cons_succ]
            refine wpAnyH_take (i := 3) (oi := { dst := some 52, op := Go.Op.move (Go.Operand.tmp 13), type := 3, pos := "proc.go:94", after := #[], guard := none }) (v := ?vv11) rfl (by kernel_rfl) (by kernel_rfl) (by kernel_rfl) (fun _ _ _ h => h) (Or.inl ⟨by rfl, ?hy11⟩) (by assumption) ?rr11
            case hy11 => intro w hSw; (try dsimp only at hSw); go_simp; all_goals with_reducible rfl
            try simp only [Act.put, List.setIfInBounds_toArray, List.set_cons_zero, List.set_cons_succ]
            refine wpAnyH_take (i := 4) (oi := { dst := some 53, op := Go.Op.move (Go.Operand.tmp 2), type := 3, pos := "proc.go:94", after := #[], guard := none }) (v := ?vv12) rfl (by kernel_rfl) (by kernel_rfl) (by kernel_rfl) (fun _ _ _ h => h) (Or.inl ⟨by rfl, ?hy12⟩) (by assumption) ?rr12
            case hy12 => intro w hSw; (try dsimp only at hSw); go_simp; all_goals with_reducible rfl
            try simp only [Act.put, List.setIfInBounds_toArray, List.set_cons_zero, List.set_cons_succ]
            refine wpAnyH_ready (rs := [5]) (by kernel_rfl) (by simp) ?_
            refine AllReadyH.cons (i := 5) (o := { dst := some 54, op := Go.Op.buildSlice 27 1 #[(0, Go.Operand.tmp 53)], type := 27, pos := "proc.go:94", after := #[{ on := 4, ground := Go.Ground.data }], guard := none }) rfl (fun K hK => ?_) AllReadyH.nil
            go_simp
            obtain ⟨w7, hw7⟩ : ∃ x, x = (w6.alloc (.cells #[.int .i64 p] 3)).drew := ⟨_, rfl⟩
            obtain ⟨vb, hvb⟩ : ∃ x, x = w6.heap.size := ⟨_, rfl⟩
            rw [← hw7, ← hvb]
            have hb : Below w6.heap.size w6 w7 := by rw [hw7]; exact (below_alloc _ _).drew
            have HV7 : Hid (Lies w7 vb 3 #[.int .i64 p]) := by
              show Lies _ _ _ _
              rw [hw7, hvb]; exact (Lies.new _ _ _).later (Below.refl _ _).drew
            have HVN : Hid (∀ a, S = some a → a.block ≠ vb) := fun a e => by
              have h1 := (HSB.out a.block ⟨a, e, rfl⟩).1
              have := HW46.out
              rw [hvb]; omega
            have HB7 := hid (then_w HB6.out hb)
            have HR7 := hid (HR6.out.later hb)
            have HG7 := hid (HG6.out.later hb)
            have HOL7 := hid (own_later HOL6.out hb)
            have HO7 := hid (HO6.out.later hb)
            have HW47 : Hid (w4.heap.size ≤ w7.heap.size) := Nat.le_trans HW46.out hb.size
            have HW57 : Hid (w5.heap.size ≤ w7.heap.size) := Nat.le_trans HW56.out hb.size
            clear hw7 hvb hb g0 g1 g2
            obtain ⟨g0, g1, g2⟩ := HG7.out.c3
            refine hK.out _ _ ?_ (fun hH1 => ?_)
            · exact ⟨g0, g1, g2⟩
            clear hK K
            try simp only [Act.put, List.setIfInBounds_toArray, List.set_cons_zero, List.set_cons_succ]
            clear g0 g1 g2
            refine wpAnyH_ready (rs := [6]) (by kernel_rfl) (by simp) ?_
            refine AllReadyH.cons (i := 6) (o := { dst := some 55, op := Go.Op.call { callee := Go.Callee.value (Go.Operand.func 52), args := #[Go.Operand.tmp 51, Go.Operand.tmp 52, Go.Operand.tmp 54], argTypes := #[27, 3, 27] }, type := 27, pos := "proc.go:94", after := #[{ on := 2, ground := Go.Ground.data }, { on := 3, ground := Go.Ground.data }, { on := 5, ground := Go.Ground.data }], guard := none }) rfl (fun K hK => ?_) AllReadyH.nil
            go_simp
            refine (insert_any14 l S cl _ l.length p vb w7 HOL7.out HV7.out HVN.out (Nat.le_refl _) HLL.out).mono ?_
            rintro e w8 ⟨S2, cJ, rfl, hint, hon, hblk⟩
            obtain ⟨J, hJ⟩ : ∃ J, J = jl14 l p l.length := ⟨_, rfl⟩
            have hJl : J.length = l.length + 1 := by rw [hJ]; exact jl_len14 l p (Nat.le_refl _)
            rw [← hJ] at hint
            rw [← hJl]
            have HJ8 := hid hint
            have HJP : Hid (∀ q ∈ J, pc14 h q = true) := fun q hq => by
              rw [hJ] at hq
              unfold jl14 at hq
              simp only [List.mem_append, List.mem_cons] at hq
              rcases hq with hq | rfl | hq
              · exact HPC.out q (List.mem_of_mem_take hq)
              · exact HPP.out
              · exact HPC.out q (List.mem_of_mem_drop hq)
            have HJ3 : Hid (J.length ≤ 300) := by show _ ≤ _; have := HL2.out; omega
            have HRJ : Hid (rr = (lk14 h J, J.headD 0, 0)) := by show _ = _; rw [HRR.out, HRe.out, hJ]
            have HB8 := hid (HB7.out.trans (hon.below HB7.out.size fun g hg => Nat.le_trans HB0.out.size (HSB.out g hg).2))
            have HR8 : Hid (Lies w8 bR 24 #[.slice none 0 0, .int .i64 0, .int .i64 0]) := (hon.block bR HR7.out.lt fun g => by have := (HSB.out _ g).2; have := HRL.out; omega).trans HR7.out
            have HG8 : Hid (Lies w8 bG 24 #[Value.slice A2 h.objs.length c2, Value.int .i64 h.cap, Value.int .i64 h.last]) := (hon.block bG HG7.out.lt fun g => by have := (HSB.out _ g).1; have := HGL.out; omega).trans HG7.out
            have HO8 := hid (HO7.out.on14 hon fun g hg => (HSB.out g hg).1)
            have HW48 : Hid (w4.heap.size ≤ w8.heap.size) := Nat.le_trans HW47.out hon.size
            have HNS8 : Hid (∀ a, S2 = some a → ¬ Wr14 ls a.block ∧ a.block < w8.heap.size) := fun a e => by
              rcases hblk a e with g | ⟨g, g2⟩
              · have h1 := (HSB.out _ g).1
                exact ⟨fun k => by have := (wr_lt14 HO5.out _ k).2; omega, Nat.lt_of_lt_of_le h1 HW48.out⟩
              · exact ⟨fun k => by have := (wr_lt14 HO5.out _ k).1; have := HW57.out; omega, g2⟩
            clear hint hon hblk hJ hJl
            obtain ⟨g0, g1, g2⟩ := HG8.out.c3
            refine hK.out _ _ ?_ (fun hH2 => ?_)
            · exact ⟨g0, g1, g2⟩
            clear hK K
            try simp only [Act.put, List.setIfInBounds_toArray, List.set_cons_zero, List.set_cons_succ]
            clear g0 g1 g2
            refine wpAnyH_ready (rs := [7]) (by kernel_rfl) (by simp) ?_
            refine AllReadyH.cons (i := 7) (o := { dst := some 56, op := Go.Op.call { callee := Go.Callee.value (Go.Operand.func 51), args := #[Go.Operand.tmp 50, Go.Operand.tmp 55], argTypes := #[24, 27] }, type := 3, pos := "proc.go:94", after := #[{ on := 1, ground := Go.Ground.data }, { on := 6, ground := Go.Ground.data }, { on := 6, ground := Go.Ground.chain }], guard := none }) rfl (fun K hK => ?_) AllReadyH.nil
            go_simp
            refine (plink_any14 h J A2 c2 S2 cJ w4.heap.size ls w8 HO8.out HM5.out HJP.out HJ3.out HJ8.out HNS8.out HW48.out).mono ?_
            rintro e w9 ⟨rfl, ls9, hm9, ho9, -, hon⟩
            have HM9 := hid hm9
            have HO9 := hid ho9
            have HB9 := hid (HB8.out.trans (hon.below HB8.out.size fun g hg => Nat.le_trans (Nat.le_trans HB0.out.size HW04.out) (wr_lt14 HO5.out g hg).2))
            have HR9 : Hid (Lies w9 bR 24 #[.slice none 0 0, .int .i64 0, .int .i64 0]) := (hon.block bR HR8.out.lt fun g => by have := (wr_lt14 HO5.out _ g).2; have := HRL.out; have := HW04.out; omega).trans HR8.out
            have HG9 : Hid (Lies w9 bG 24 #[Value.slice A2 h.objs.length c2, Value.int .i64 h.cap, Value.int .i64 h.last]) := (hon.block bG HG8.out.lt fun g => by have := (wr_lt14 HO5.out _ g).1; have := HGE.out; omega).trans HG8.out
            clear hm9 ho9 hon
            obtain ⟨g0, g1, g2⟩ := HG9.out.c3
            refine hK.out _ _ ?_ (fun hH3 => ?_)
            · exact ⟨g0, g1, g2⟩
            clear hK K
            try simp only [Act.put, List.setIfInBounds_toArray, List.set_cons_zero, List.set_cons_succ]
            clear g0 g1 g2
            refine wpAnyH_ready (rs := [8]) (by kernel_rfl) (by simp) ?_
            refine AllReadyH.cons (i := 8) (o := { dst := none, op := Go.Op.store 24 (Go.Operand.tmp 8) (Go.Operand.tmp 49), type := 0, pos := "proc.go:94", after := #[{ on := 0, ground := Go.Ground.data }, { on := 7, ground := Go.Ground.chain }, { on := 0, ground := Go.Ground.phase }, { on := 1, ground := Go.Ground.textOnly Go.Departure.lateStores }, { on := 2, ground := Go.Ground.textOnly Go.Departure.lateStores }, { on := 3, ground := Go.Ground.textOnly Go.Departure.lateStores }, { on := 4, ground := Go.Ground.textOnly Go.Departure.lateStores }, { on := 5, ground := Go.Ground.textOnly Go.Departure.lateStores }, { on := 6, ground := Go.Ground.textOnly Go.Departure.lateStoresUnsure }, { on := 7, ground := Go.Ground.textOnly Go.Departure.lateStoresUnsure }], guard := none }) rfl (fun K hK => ?_) AllReadyH.nil
            obtain ⟨k0, k1, k2⟩ := HR9.out.c3
            obtain ⟨f0, f1, f2⟩ := HR9.out.f3
            go_simp
            clear k0 k1 k2 f0 f1 f2
            obtain ⟨s1, s2, s3⟩ := set3_14 HR9.out HO9.out HB9.out HRW.out (.slice A2 h.objs.length c2) (.int .i64 h.cap) (.int .i64 h.last)
            have s4 := ((HG9.out.far (p := ⟨bR, 0, none⟩) HGR.out (.slice A2 h.objs.length c2)).far (p := ⟨bR, 1, none⟩) HGR.out (.int .i64 h.cap)).far (p := ⟨bR, 2, none⟩) HGR.out (.int .i64 h.last)
            obtain ⟨V, hV⟩ : ∃ V, V = ((w9.setCell ⟨bR, 0, none⟩ (.slice A2 h.objs.length c2)).setCell ⟨bR, 1, none⟩ (.int .i64 h.cap)).setCell ⟨bR, 2, none⟩ (.int .i64 h.last) := ⟨_, rfl⟩
            rw [← hV] at s1 s2 s3 s4
            rw [← hV]
            have HRV := hid s1
            have HOV := hid s2
            have HBV := hid s3
            have HGV := hid s4
            clear hV s1 s2 s3 s4
            obtain ⟨g0, g1, g2⟩ := HGV.out.c3
            refine hK.out _ _ ?_ (fun hH4 => ?_)
            · exact ⟨g0, g1, g2⟩
            clear hK K
            try simp only [Act.put, List.setIfInBounds_toArray, List.set_cons_zero, List.set_cons_succ]
            clear g0 g1 g2
            refine wpAnyH_take (i := 9) (oi := { dst := some 9, op := Go.Op.assign (Go.Operand.tmp 56), type := 3, pos := "proc.go:94", after := #[{ on := 7, ground := Go.Ground.data }, { on := 8, ground := Go.Ground.chain }, { on := 0, ground := Go.Ground.phase }, { on := 1, ground := Go.Ground.phase }, { on := 2, ground := Go.Ground.phase }, { on := 3, ground := Go.Ground.phase }, { on := 4, ground := Go.Ground.phase }, { on := 5, ground := Go.Ground.phase }, { on := 6, ground := Go.Ground.phase }, { on := 7, ground := Go.Ground.phase }, { on := 8, ground := Go.Ground.phase }], guard := none }) (v := ?vv13) rfl (by kernel_rfl) (by kernel_rfl) (by kernel_rfl) (fun _ _ _ h => h) (Or.inl ⟨by rfl, ?hy13⟩) (by assumption) ?rr13
            case hy13 => intro w hSw; (try dsimp only at hSw); go_simp; all_goals with_reducible rfl
            try simp only [Act.put, List.setIfInBounds_toArray, List.set_cons_zero, List.set_cons_succ]
            refine wpAnyH_take (i := 10) (oi := { dst := some 10, op := Go.Op.assign (Go.Operand.const (Go.Value.int Go.IntKind.i64 0)), type := 28, pos := "proc.go:94", after := #[{ on := 9, ground := Go.Ground.chain }, { on := 0, ground := Go.Ground.phase }, { on := 1, ground := Go.Ground.phase }, { on := 2, ground := Go.Ground.phase }, { on := 3, ground := Go.Ground.phase }, { on := 4, ground := Go.Ground.phase }, { on := 5, ground := Go.Ground.phase }, { on := 6, ground := Go.Ground.phase }, { on := 7, ground := Go.Ground.phase }, { on := 8, ground := Go.Ground.phase }, { on := 9, ground := Go.Ground.phase }], guard := none }) (v := ?vv14) rfl (by kernel_rfl) (by kernel_rfl) (by kernel_rfl) (fun _ _ _ h => h) (Or.inl ⟨by rfl, ?hy14⟩) (by assumption) ?rr14
            case hy14 => intro w hSw; (try dsimp only at hSw); go_simp; all_goals with_reducible rfl
            try simp only [Act.put, List.setIfInBounds_toArray, List.set_cons_zero, List.set_cons_succ]
            refine wpAnyH_done (by kernel_rfl) ?_ _
            obtain ⟨r0, r1, r2⟩ := HRV.out.c3
            obtain ⟨q1, q2, q3⟩ := lk_same14 h J
            go_wp2_with fail
            refine bodyPost_ret (v := .tuple #[.agg #[.slice A2 h.objs.length c2, .int .i64 h.cap, .int .i64 h.last], .int .i64 (J.headD 0), .int .i64 0]) (by simp [results, Try.results29, go_sem, r0, r1, r2]) rfl ?_
            rw [HRJ.out]
            refine ⟨A2, c2, ls9, ?_, HM9.out, HOV.out.lower (Nat.le_trans HB0.out.size HW04.out), HBV.out⟩
            rw [q1, q2, q3]
end Go.Proofs.Ytkpfmbdkfgeboaa
