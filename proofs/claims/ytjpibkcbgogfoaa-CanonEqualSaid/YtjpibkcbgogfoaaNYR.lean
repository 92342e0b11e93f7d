/- (*numbering).renumbered walked: an object by new numbers. -/
import Derived.Test.YtjpibkcbgogfoaaNX
namespace Go.Proofs.Ytjpibkcbgogfoaa
open Go.RowKit
set_option maxRecDepth 100000
/-- what an object leads to -/
def edgesO (o : Ob) : List Int := o.cls :: o.slots
/-- what renumbered gives back -/
def ObjNum (w : World) (nb mb : Nat) (A : Option Addr) (M : List Nat) (o : Ob) (e : Ending) (w' : World) : Prop :=
  ∃ A' c' S d, e = .returned (.agg #[.int .i64 o.cls, .int .i64 o.kind, .slice S o.slots.length d, .string o.text, .int .i64 o.bits, .int .i64 o.hash]) ∧ NumS w' nb mb A' c' M ∧ Turns w w' nb mb A A' ∧ w'.ownsRow w.heap.size 3 1 (.slice S o.slots.length d) o.slots.length (o.slots.map (Value.int .i64)) ∧ Off S A'
theorem set6 (w : World) (g : Nat) (v0 v1 v2 v3 v4 v5 : Value) : w.grownBy ((((((w.setCell ⟨g, 0, none⟩ v0).setCell ⟨g, 1, none⟩ v1).setCell ⟨g, 2, none⟩ v2).setCell ⟨g, 3, none⟩ v3).setCell ⟨g, 4, none⟩ v4).setCell ⟨g, 5, none⟩ v5) (some g) :=
  (((((grown_set w ⟨g, 0, none⟩ v0).trans (grown_set _ ⟨g, 1, none⟩ v1)).trans (grown_set _ ⟨g, 2, none⟩ v2)).trans (grown_set _ ⟨g, 3, none⟩ v3)).trans (grown_set _ ⟨g, 4, none⟩ v4)).trans (grown_set _ ⟨g, 5, none⟩ v5)
theorem grown_high {w w1 w2 : World} {g : Nat} (h : w1.grownBy w2 (some g)) (hz : w.heap.size ≤ w1.heap.size) (hg : w.heap.size ≤ g) : Below w.heap.size w1 w2 := by
  have _ := hz
  exact ⟨h.os, h.tape, h.output, h.size, fun k hk => h.block k (by omega) (by simp; omega)⟩
theorem NumS.lt {w : World} {nb mb c : Nat} {A : Option Addr} {M : List Nat} (h : NumS w nb mb A c M) : nb < w.heap.size ∧ mb < w.heap.size ∧ ∀ a, A = some a → a.block < w.heap.size := by
  obtain ⟨D, hD, -⟩ := h.map
  exact ⟨h.box.lt, hD.lt, fun a ha => by obtain ⟨cur, hl⟩ := h.rowBlock ha; exact hl.lt⟩
theorem row_blk_ne {w : World} {base n g : Nat} {S : Option Addr} {c : Nat} {xs cs : _} {t : TypeId} (h : w.ownsRow base 3 1 (.slice S n c) n xs) (l : Lies w g t cs) (ht : t ≠ 3) : (Value.slice S n c).ownBlock = none ∨ (Value.slice S n c).ownBlock ≠ some g := .inr (own_blk_ne h l (fun e => ht e.symm))
set_option maxHeartbeats 2000000 in
theorem renumbered_any (h : Hp) (M : List Nat) (o : Ob) (nb mb : Nat) (A S : Option Addr) (c d : Nat) (w0 w : World) (s : NumS w nb mb A c M) (hb0 : Below w0.heap.size w0 w) (hI : IntsR w0 S o.slots) (hnb : w0.heap.size ≤ nb) (hmb : w0.heap.size ≤ mb) (hA : ∀ a, A = some a → w0.heap.size ≤ a.block)
    (hv : ∀ v ∈ o.cls :: o.slots, hasB h.objs.length v = true) (hn : h.objs.length ≤ 256) (ok : Okay h M) (hol : o.slots.length ≤ 64) :
    Calls Try.prog 70 #[.pointer (some ⟨nb, 0, none⟩), .agg #[.int .i64 o.cls, .int .i64 o.kind, .slice S o.slots.length d, .string o.text, .int .i64 o.bits, .int .i64 o.hash]] w (ObjNum w nb mb A (meets h M (edgesO o)) (cnO h (meets h M (edgesO o)) o)) := by
  have HB0 := hid (below_alloc2 w (.cells #[.int .i64 o.cls, .int .i64 o.kind, .slice S o.slots.length d, .string o.text, .int .i64 o.bits, .int .i64 o.hash] 46) (.cells #[.int .i64 0, .int .i64 0, .slice none 0 0, .string ⟨#[]⟩, .int .i64 0, .int .i64 0] 46))
  have HK := hid ((Lies.new w 46 #[.int .i64 o.cls, .int .i64 o.kind, .slice S o.slots.length d, .string o.text, .int .i64 o.bits, .int .i64 o.hash]).alloc (.cells #[.int .i64 0, .int .i64 0, .slice none 0 0, .string ⟨#[]⟩, .int .i64 0, .int .i64 0] 46))
  have HL : Hid (Lies ((w.alloc (.cells #[.int .i64 o.cls, .int .i64 o.kind, .slice S o.slots.length d, .string o.text, .int .i64 o.bits, .int .i64 o.hash] 46)).alloc (.cells #[.int .i64 0, .int .i64 0, .slice none 0 0, .string ⟨#[]⟩, .int .i64 0, .int .i64 0] 46)) (w.heap.size + 1) 46 #[.int .i64 0, .int .i64 0, .slice none 0 0, .string ⟨#[]⟩, .int .i64 0, .int .i64 0]) := by
    have := Lies.new (w.alloc (.cells #[.int .i64 o.cls, .int .i64 o.kind, .slice S o.slots.length d, .string o.text, .int .i64 o.bits, .int .i64 o.hash] 46)) 46 #[.int .i64 0, .int .i64 0, .slice none 0 0, .string ⟨#[]⟩, .int .i64 0, .int .i64 0]
    simpa [Hid] using this
  obtain ⟨l1, l2, l3⟩ := s.lt
  have HL3 := hid l3
  have HS0 := hid (s.later HB0.out)
  have HW0 := hid hb0
  have HI := hid hI
  have HA := hid hA
  have HOK := hid ok
  have hvc := hv o.cls (by simp)
  have HVS : Hid (∀ v ∈ o.slots, hasB h.objs.length v = true) := fun v g => hv v (List.mem_cons_of_mem _ g)
  obtain ⟨M1, hM1⟩ : ∃ M1, M1 = meetL h M o.cls := ⟨_, rfl⟩
  obtain ⟨M2, hM2⟩ : ∃ M2, M2 = meets h M (edgesO o) := ⟨_, rfl⟩
  have hM12 : meets h M1 o.slots = M2 := by rw [hM1, hM2]; rfl
  obtain ⟨t, ht⟩ := meets_pre h o.slots M1
  obtain ⟨xs, hxs⟩ : ∃ xs, xs = o.slots.map (cnV h M2) := ⟨_, rfl⟩
  obtain ⟨x, hx⟩ : ∃ x, x = cnV h M1 o.cls := ⟨_, rfl⟩
  have hx2 : cnV h M2 o.cls = x := by rw [← hM12, ht, cnV_pre (by rw [hM1]; exact meetL_self), hx]
  have hm : cnO h M2 o = ⟨x, o.kind, xs, o.text, o.bits, o.hash⟩ := by unfold cnO; rw [hx2, hxs]
  rw [← hM2, hm]
  have HM1 := hid hM1
  have HM12 := hid hM12
  have HXS := hid hxs
  have HX := hid hx
  have hMl := ok.len
  clear hxs hx hm hx2 ht hM12 hM1 hM2 l3 s hb0 hI hA ok hv
  go_enter Try.func70, Try.ntmps70
  go_wp2_with fail
  refine (number6_any h M o.cls nb mb A c _ HS0.out hvc hn (by omega)).mono ?_
  rintro e w1 ⟨A1, c1, rfl, hs1, ht1⟩
  rw [← HM1.out] at hs1 ⊢
  rw [← HX.out]
  have HS1 := hid hs1
  have HT1 := hid ((Turns.of_below HB0.out nb mb A).trans ht1)
  have HK1 := hid (ht1.lies HK.out (by omega) (by omega) (fun a ha => by have := HL3.out a ha; omega))
  have HL1 := hid (ht1.lies HL.out (by omega) (by omega) (fun a ha => by have := HL3.out a ha; omega))
  clear hs1 ht1
  have k0 := HK1.out.cell 0
  have k2 := HK1.out.cell 2
  have f0 := HK1.out.frozen 0
  simp only [List.getElem?_toArray, List.getElem?_cons_zero, List.getElem?_cons_succ] at k0 k2
  go_wp2_with fail
  have hgs := grown_set w1 ⟨w.heap.size, 0, none⟩ (.int .i64 x)
  have HNB : Hid (∀ {n : Nat}, n < w.heap.size → some n ≠ some w.heap.size) := fun hh e => by cases e; omega
  have HR1 : Hid (∀ a, A1 = some a → a.block ≠ w.heap.size ∧ a.block ≠ w.heap.size + 1) := fun a ha => by
    rcases HT1.out.new a ha with ⟨b, hb, e⟩ | e
    · have := HL3.out b hb; omega
    · obtain ⟨cur, hl⟩ := HS1.out.rowBlock ha
      refine ⟨fun e2 => ?_, fun e2 => ?_⟩
      · rw [e2] at hl
        have : some (Obj.cells cur 3 (0, 0)) = some (Obj.cells _ 46 (0, 0)) := hl.symm.trans HK1.out
        injection this with this
        injection this with _ this
        exact absurd this (by decide)
      · rw [e2] at hl
        have : some (Obj.cells cur 3 (0, 0)) = some (Obj.cells _ 46 (0, 0)) := hl.symm.trans HL1.out
        injection this with this
        injection this with _ this
        exact absurd this (by decide)
  have HS2 := hid (HS1.out.grown hgs (HNB.out l1) (HNB.out l2) (fun a ha e => (HR1.out a ha).1 (by simpa using e)))
  have hbw0 : w0.heap.size ≤ w.heap.size := HW0.out.size
  have HBB := hid ((HW0.out.trans (HT1.out.below hbw0 hnb hmb HA.out)).setCell (p := ⟨w.heap.size, 0, none⟩) hbw0 (.int .i64 x))
  have HA1 : Hid (∀ a, A1 = some a → w0.heap.size ≤ a.block) := fun a ha => by
    rcases HT1.out.new a ha with ⟨b, hb, e⟩ | e
    · have := HA.out b hb; omega
    · omega
  have hok1 : Okay h M1 := by rw [HM1.out]; exact HOK.out.meet _
  have HT2 := hid (HT1.out.later (grown_high hgs HT1.out.size (Nat.le_refl _)))
  refine (values6_any h M1 o.slots nb mb A1 S c1 d w0 _ HS2.out HBB.out HI.out hnb hmb HA1.out HVS.out hn hok1 (by omega)).mono ?_
  rintro e w2 ⟨A2, c2, S2, d2, rfl, hs2, ht2, hown, hoff⟩
  rw [HM12.out] at hs2 hown ⊢
  rw [← HXS.out] at hown ⊢
  have hz1 : w.heap.size + 1 < (w1.setCell ⟨w.heap.size, 0, none⟩ (.int .i64 x)).heap.size := by have := HL1.out.lt; simpa using this
  have HK2 := hid (ht2.lies (HK1.out.set_ 0 (.int .i64 x)) (by omega) (by omega) (fun a ha e => (HR1.out a ha).1 e.symm))
  have HL2 := hid (ht2.lies (HL1.out.far (p := ⟨w.heap.size, 0, none⟩) (by simp) (.int .i64 x)) (by omega) (by omega) (fun a ha e => (HR1.out a ha).2 e.symm))
  have HT3 := hid (HT2.out.trans ht2)
  have HO2 := hid (own_lower (base' := w.heap.size) hown (by omega))
  have HF2 := hid hoff
  have HS3 := hid hs2
  clear hs2 ht2 hown hoff hgs k0 k2 f0
  have k0 := HK2.out.cell 0
  have k1 := HK2.out.cell 1
  have k2 := HK2.out.cell 2
  have k3 := HK2.out.cell 3
  have k4 := HK2.out.cell 4
  have k5 := HK2.out.cell 5
  have f2 := HK2.out.frozen 2
  have l0 := HL2.out.cell 0
  have l1' := HL2.out.cell 1
  have l2' := HL2.out.cell 2
  have l3 := HL2.out.cell 3
  have l4 := HL2.out.cell 4
  have l5 := HL2.out.cell 5
  have lf0 := HL2.out.frozen 0
  have lf1 := HL2.out.frozen 1
  have lf2 := HL2.out.frozen 2
  have lf3 := HL2.out.frozen 3
  have lf4 := HL2.out.frozen 4
  have lf5 := HL2.out.frozen 5
  simp only [List.setIfInBounds_toArray, List.set_cons_zero, List.getElem?_toArray, List.getElem?_cons_zero, List.getElem?_cons_succ] at k0 k1 k2 k3 k4 k5 l0 l1' l2' l3 l4 l5
  go_wp2_with fail
  have X0 : Lies (w2.setCell ⟨w.heap.size, 2, none⟩ (.slice S2 xs.length d2)) (w.heap.size + 1) 46 #[.int .i64 0, .int .i64 0, .slice none 0 0, .string ⟨#[]⟩, .int .i64 0, .int .i64 0] := HL2.out.far (by simp) _
  have X1 := (((((X0.set_ 0 (.int .i64 x)).set_ 1 (.int .i64 o.kind)).set_ 2 (.slice S2 xs.length d2)).set_ 3 (.string o.text)).set_ 4 (.int .i64 o.bits)).set_ 5 (.int .i64 o.hash)
  have r0 := X1.cell 0
  have r1 := X1.cell 1
  have r2 := X1.cell 2
  have r3 := X1.cell 3
  have r4 := X1.cell 4
  have r5 := X1.cell 5
  simp only [List.setIfInBounds_toArray, List.set_cons_zero, List.set_cons_succ, List.getElem?_toArray, List.getElem?_cons_zero, List.getElem?_cons_succ] at r0 r1 r2 r3 r4 r5
  refine bodyPost_ret (v := .agg #[.int .i64 x, .int .i64 o.kind, .slice S2 xs.length d2, .string o.text, .int .i64 o.bits, .int .i64 o.hash]) (by simp [results, Try.results70, go_sem, r0, r1, r2, r3, r4, r5]) rfl ?_
  have g1 := grown_set w2 ⟨w.heap.size, 2, none⟩ (.slice S2 xs.length d2)
  have g2 := set6 (w2.setCell ⟨w.heap.size, 2, none⟩ (.slice S2 xs.length d2)) (w.heap.size + 1) (.int .i64 x) (.int .i64 o.kind) (.slice S2 xs.length d2) (.string o.text) (.int .i64 o.bits) (.int .i64 o.hash)
  have HR2 : ∀ a, A2 = some a → a.block ≠ w.heap.size ∧ a.block ≠ w.heap.size + 1 := fun a ha => by
    obtain ⟨cur, hl⟩ := HS3.out.rowBlock ha
    refine ⟨fun e2 => ?_, fun e2 => ?_⟩
    · rw [e2] at hl
      have : some (Obj.cells cur 3 (0, 0)) = some (Obj.cells _ 46 (0, 0)) := hl.symm.trans HK2.out
      injection this with this
      injection this with _ this
      exact absurd this (by decide)
    · rw [e2] at hl
      have : some (Obj.cells cur 3 (0, 0)) = some (Obj.cells _ 46 (0, 0)) := hl.symm.trans HL2.out
      injection this with this
      injection this with _ this
      exact absurd this (by decide)
  have hO1 := HO2.out.kept g1 (row_blk_ne HO2.out HK2.out (by decide))
  refine ⟨A2, c2, S2, d2, rfl, ?_, ?_, hO1.kept g2 (row_blk_ne hO1 X0 (by decide)), HF2.out⟩
  · exact (HS3.out.grown g1 (HNB.out l1) (HNB.out l2) (fun a ha e => (HR2 a ha).1 (by simpa using e))).grown g2 (fun e => by cases e; omega) (fun e => by cases e; omega) (fun a ha e => (HR2 a ha).2 (by simpa using e))
  · exact (HT3.out.later (grown_high g1 HT3.out.size (Nat.le_refl _))).later (grown_high g2 (Nat.le_trans HT3.out.size g1.size) (by omega))
end Go.Proofs.Ytjpibkcbgogfoaa
