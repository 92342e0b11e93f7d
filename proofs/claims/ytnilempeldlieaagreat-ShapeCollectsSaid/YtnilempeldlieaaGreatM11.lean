/- (*numbering).renumbered walked: an object by new numbers. value.May walked. canon's fault walked: isValue, the closure, ContainsFunc over roots. A heap, a list of ints and an error, told. Of, step by step: what holds of the plain lists, and of memory, while those met are looked through. Texts and objects that are the same field by field. -/
import Derived.Test.YtnilempeldlieaaGreatM10
import Derived.Test.YtnilempeldlieaaGreatM03
import Derived.Test.YtnilempeldlieaaGreatM04
import Derived.Laws.EntriesVeiled
import Derived.Test.YtnilempeldlieaaGreatM05
import Derived.Deep.DeepCutAuto
namespace Go.Proofs.YtnilempeldlieaaGreat
open Go.RowKit
set_option maxRecDepth 100000
/-- what an object leads to -/
def edgesO (o : Ob) : List Int := o.cls :: o.slots
/-- what renumbered gives back -/
def ObjNum (w : World) (nb mb : Nat) (A : Option Addr) (M : List Nat) (o : Ob) (e : Ending) (w' : World) : Prop :=
  ∃ A' c' S d, e = .returned (.agg #[.int .i64 o.cls, .int .i64 o.kind, .slice S o.slots.length d, .string o.text, .int .i64 o.bits, .int .i64 o.hash]) ∧ NumS w' nb mb A' c' M ∧ Turns w w' nb mb A A' ∧ w'.ownsRow w.heap.size 3 1 (.slice S o.slots.length d) o.slots.length (o.slots.map (Value.int .i64)) ∧ Off S A'
theorem set6 (w : World) (g : Nat) (v0 v1 v2 v3 v4 v5 : Value) : w.grownBy ((((((w.setCell ⟨g, 0, none⟩ v0).setCell ⟨g, 1, none⟩ v1).setCell ⟨g, 2, none⟩ v2).setCell ⟨g, 3, none⟩ v3).setCell ⟨g, 4, none⟩ v4).setCell ⟨g, 5, none⟩ v5) (some g) :=
  (((((grown_set w ⟨g, 0, none⟩ v0).trans (grown_set _ ⟨g, 1, none⟩ v1)).trans (grown_set _ ⟨g, 2, none⟩ v2)).trans (grown_set _ ⟨g, 3, none⟩ v3)).trans (grown_set _ ⟨g, 4, none⟩ v4)).trans (grown_set _ ⟨g, 5, none⟩ v5)
theorem grown_high {w w1 w2 : World} {g : Nat} (h : w1.grownBy w2 (some g)) (hz : w.heap.size ≤ w1.heap.size) (hg : w.heap.size ≤ g) : Below w.heap.size w1 w2 := by
  have _ := hz
  exact ⟨h.os, h.tape, h.output, h.size, fun k hk => h.block k (by omega) (by simp; omega)⟩
theorem NumS.lt {w : World} {nb mb c : Nat} {A : Option Addr} {M : List Nat} (h : NumS w nb mb A c M) : nb < w.heap.size ∧ mb < w.heap.size ∧ ∀ a, A = some a → a.block < w.heap.size := by
  obtain ⟨D, hD, -⟩ := h.map
  exact ⟨h.box.lt, hD.lt, fun a ha => by obtain ⟨cur, hl⟩ := h.rowBlock ha; exact hl.lt⟩
theorem row_blk_ne {w : World} {base n g : Nat} {S : Option Addr} {c : Nat} {xs cs : _} {t : TypeId} (h : w.ownsRow base 3 1 (.slice S n c) n xs) (l : Lies w g t cs) (ht : t ≠ 3) : (Value.slice S n c).ownBlock = none ∨ (Value.slice S n c).ownBlock ≠ some g := .inr (own_blk_ne h l (fun e => ht e.symm))
set_option maxHeartbeats 2000000 in
theorem renumbered_any (h : Hp) (M : List Nat) (o : Ob) (nb mb : Nat) (A S : Option Addr) (c d : Nat) (w0 w : World) (s : NumS w nb mb A c M) (hb0 : Below w0.heap.size w0 w) (hI : IntsR w0 S o.slots) (hnb : w0.heap.size ≤ nb) (hmb : w0.heap.size ≤ mb) (hA : ∀ a, A = some a → w0.heap.size ≤ a.block)
    (hv : ∀ v ∈ o.cls :: o.slots, hasB h.objs.length v = true) (hn : h.objs.length ≤ 256) (ok : Okay h M) (hol : o.slots.length ≤ 64) :
    Calls Tryz.prog 114 #[.pointer (some ⟨nb, 0, none⟩), .agg #[.int .i64 o.cls, .int .i64 o.kind, .slice S o.slots.length d, .string o.text, .int .i64 o.bits, .int .i64 o.hash]] w (ObjNum w nb mb A (meets h M (edgesO o)) (cnO h (meets h M (edgesO o)) o)) := by
  have HB0 := hid (below_alloc2 w (.cells #[.int .i64 o.cls, .int .i64 o.kind, .slice S o.slots.length d, .string o.text, .int .i64 o.bits, .int .i64 o.hash] 41) (.cells #[.int .i64 0, .int .i64 0, .slice none 0 0, .string ⟨#[]⟩, .int .i64 0, .int .i64 0] 41))
  have HK := hid ((Lies.new w 41 #[.int .i64 o.cls, .int .i64 o.kind, .slice S o.slots.length d, .string o.text, .int .i64 o.bits, .int .i64 o.hash]).alloc (.cells #[.int .i64 0, .int .i64 0, .slice none 0 0, .string ⟨#[]⟩, .int .i64 0, .int .i64 0] 41))
  have HL : Hid (Lies ((w.alloc (.cells #[.int .i64 o.cls, .int .i64 o.kind, .slice S o.slots.length d, .string o.text, .int .i64 o.bits, .int .i64 o.hash] 41)).alloc (.cells #[.int .i64 0, .int .i64 0, .slice none 0 0, .string ⟨#[]⟩, .int .i64 0, .int .i64 0] 41)) (w.heap.size + 1) 41 #[.int .i64 0, .int .i64 0, .slice none 0 0, .string ⟨#[]⟩, .int .i64 0, .int .i64 0]) := by
    have := Lies.new (w.alloc (.cells #[.int .i64 o.cls, .int .i64 o.kind, .slice S o.slots.length d, .string o.text, .int .i64 o.bits, .int .i64 o.hash] 41)) 41 #[.int .i64 0, .int .i64 0, .slice none 0 0, .string ⟨#[]⟩, .int .i64 0, .int .i64 0]
    simpa [Hid] using this
  obtain ⟨l1, l2, l3⟩ := s.lt
  have HL3 := hid l3
  have HS0 := hid (s.later HB0.out)
  have HW0 := hid hb0
  have HI := hid hI
  have HA := hid hA
  have HOK := hid ok
  have hvc := hv o.cls (by simp)
  have HVS : Hid (∀ v ∈ o.slots, hasB h.objs.length v = true) := fun v g => hv v (List.mem_cons_of_mem _ g)
  obtain ⟨M1, hM1⟩ : ∃ M1, M1 = meetL h M o.cls := ⟨_, rfl⟩
  obtain ⟨M2, hM2⟩ : ∃ M2, M2 = meets h M (edgesO o) := ⟨_, rfl⟩
  have hM12 : meets h M1 o.slots = M2 := by rw [hM1, hM2]; rfl
  obtain ⟨t, ht⟩ := meets_pre h o.slots M1
  obtain ⟨xs, hxs⟩ : ∃ xs, xs = o.slots.map (cnV h M2) := ⟨_, rfl⟩
  obtain ⟨x, hx⟩ : ∃ x, x = cnV h M1 o.cls := ⟨_, rfl⟩
  have hx2 : cnV h M2 o.cls = x := by rw [← hM12, ht, cnV_pre (by rw [hM1]; exact meetL_self), hx]
  have hm : cnO h M2 o = ⟨x, o.kind, xs, o.text, o.bits, o.hash⟩ := by unfold cnO; rw [hx2, hxs]
  rw [← hM2, hm]
  have HM1 := hid hM1
  have HM12 := hid hM12
  have HXS := hid hxs
  have HX := hid hx
  have hMl := ok.len
  clear hxs hx hm hx2 ht hM12 hM1 hM2 l3 s hb0 hI hA ok hv
  go_enter Tryz.func114, Tryz.ntmps114
  go_wp2_with fail
  refine (number6_any h M o.cls nb mb A c _ HS0.out hvc hn (by omega)).mono ?_
  rintro e w1 ⟨A1, c1, rfl, hs1, ht1⟩
  rw [← HM1.out] at hs1 ⊢
  rw [← HX.out]
  have HS1 := hid hs1
  have HT1 := hid ((Turns.of_below HB0.out nb mb A).trans ht1)
  have HK1 := hid (ht1.lies HK.out (by omega) (by omega) (fun a ha => by have := HL3.out a ha; omega))
  have HL1 := hid (ht1.lies HL.out (by omega) (by omega) (fun a ha => by have := HL3.out a ha; omega))
  clear hs1 ht1
  have k0 := HK1.out.cell 0
  have k2 := HK1.out.cell 2
  have f0 := HK1.out.frozen 0
  simp only [List.getElem?_toArray, List.getElem?_cons_zero, List.getElem?_cons_succ] at k0 k2
  go_wp2_with fail
  have hgs := grown_set w1 ⟨w.heap.size, 0, none⟩ (.int .i64 x)
  have HNB : Hid (∀ {n : Nat}, n < w.heap.size → some n ≠ some w.heap.size) := fun hh e => by cases e; omega
  have HR1 : Hid (∀ a, A1 = some a → a.block ≠ w.heap.size ∧ a.block ≠ w.heap.size + 1) := fun a ha => by
    rcases HT1.out.new a ha with ⟨b, hb, e⟩ | e
    · have := HL3.out b hb; omega
    · obtain ⟨cur, hl⟩ := HS1.out.rowBlock ha
      refine ⟨fun e2 => ?_, fun e2 => ?_⟩
      · rw [e2] at hl
        have : some (Obj.cells cur 3 (0, 0)) = some (Obj.cells _ 41 (0, 0)) := hl.symm.trans HK1.out
        injection this with this
        injection this with _ this
        exact absurd this (by decide)
      · rw [e2] at hl
        have : some (Obj.cells cur 3 (0, 0)) = some (Obj.cells _ 41 (0, 0)) := hl.symm.trans HL1.out
        injection this with this
        injection this with _ this
        exact absurd this (by decide)
  have HS2 := hid (HS1.out.grown hgs (HNB.out l1) (HNB.out l2) (fun a ha e => (HR1.out a ha).1 (by simpa using e)))
  have hbw0 : w0.heap.size ≤ w.heap.size := HW0.out.size
  have HBB := hid ((HW0.out.trans (HT1.out.below hbw0 hnb hmb HA.out)).setCell (p := ⟨w.heap.size, 0, none⟩) hbw0 (.int .i64 x))
  have HA1 : Hid (∀ a, A1 = some a → w0.heap.size ≤ a.block) := fun a ha => by
    rcases HT1.out.new a ha with ⟨b, hb, e⟩ | e
    · have := HA.out b hb; omega
    · omega
  have hok1 : Okay h M1 := by rw [HM1.out]; exact HOK.out.meet _
  have HT2 := hid (HT1.out.later (grown_high hgs HT1.out.size (Nat.le_refl _)))
  refine (values6_any h M1 o.slots nb mb A1 S c1 d w0 _ HS2.out HBB.out HI.out hnb hmb HA1.out HVS.out hn hok1 (by omega)).mono ?_
  rintro e w2 ⟨A2, c2, S2, d2, rfl, hs2, ht2, hown, hoff⟩
  rw [HM12.out] at hs2 hown ⊢
  rw [← HXS.out] at hown ⊢
  have hz1 : w.heap.size + 1 < (w1.setCell ⟨w.heap.size, 0, none⟩ (.int .i64 x)).heap.size := by have := HL1.out.lt; simpa using this
  have HK2 := hid (ht2.lies (HK1.out.set_ 0 (.int .i64 x)) (by omega) (by omega) (fun a ha e => (HR1.out a ha).1 e.symm))
  have HL2 := hid (ht2.lies (HL1.out.far (p := ⟨w.heap.size, 0, none⟩) (by simp) (.int .i64 x)) (by omega) (by omega) (fun a ha e => (HR1.out a ha).2 e.symm))
  have HT3 := hid (HT2.out.trans ht2)
  have HO2 := hid (own_lower (base' := w.heap.size) hown (by omega))
  have HF2 := hid hoff
  have HS3 := hid hs2
  clear hs2 ht2 hown hoff hgs k0 k2 f0
  have k0 := HK2.out.cell 0
  have k1 := HK2.out.cell 1
  have k2 := HK2.out.cell 2
  have k3 := HK2.out.cell 3
  have k4 := HK2.out.cell 4
  have k5 := HK2.out.cell 5
  have f2 := HK2.out.frozen 2
  have l0 := HL2.out.cell 0
  have l1' := HL2.out.cell 1
  have l2' := HL2.out.cell 2
  have l3 := HL2.out.cell 3
  have l4 := HL2.out.cell 4
  have l5 := HL2.out.cell 5
  have lf0 := HL2.out.frozen 0
  have lf1 := HL2.out.frozen 1
  have lf2 := HL2.out.frozen 2
  have lf3 := HL2.out.frozen 3
  have lf4 := HL2.out.frozen 4
  have lf5 := HL2.out.frozen 5
  simp only [List.setIfInBounds_toArray, List.set_cons_zero, List.getElem?_toArray, List.getElem?_cons_zero, List.getElem?_cons_succ] at k0 k1 k2 k3 k4 k5 l0 l1' l2' l3 l4 l5
  go_wp2_with fail
  have X0 : Lies (w2.setCell ⟨w.heap.size, 2, none⟩ (.slice S2 xs.length d2)) (w.heap.size + 1) 41 #[.int .i64 0, .int .i64 0, .slice none 0 0, .string ⟨#[]⟩, .int .i64 0, .int .i64 0] := HL2.out.far (by simp) _
  have X1 := (((((X0.set_ 0 (.int .i64 x)).set_ 1 (.int .i64 o.kind)).set_ 2 (.slice S2 xs.length d2)).set_ 3 (.string o.text)).set_ 4 (.int .i64 o.bits)).set_ 5 (.int .i64 o.hash)
  have r0 := X1.cell 0
  have r1 := X1.cell 1
  have r2 := X1.cell 2
  have r3 := X1.cell 3
  have r4 := X1.cell 4
  have r5 := X1.cell 5
  simp only [List.setIfInBounds_toArray, List.set_cons_zero, List.set_cons_succ, List.getElem?_toArray, List.getElem?_cons_zero, List.getElem?_cons_succ] at r0 r1 r2 r3 r4 r5
  refine bodyPost_ret (v := .agg #[.int .i64 x, .int .i64 o.kind, .slice S2 xs.length d2, .string o.text, .int .i64 o.bits, .int .i64 o.hash]) (by simp [results, Tryz.results114, go_sem, r0, r1, r2, r3, r4, r5]) rfl ?_
  have g1 := grown_set w2 ⟨w.heap.size, 2, none⟩ (.slice S2 xs.length d2)
  have g2 := set6 (w2.setCell ⟨w.heap.size, 2, none⟩ (.slice S2 xs.length d2)) (w.heap.size + 1) (.int .i64 x) (.int .i64 o.kind) (.slice S2 xs.length d2) (.string o.text) (.int .i64 o.bits) (.int .i64 o.hash)
  have HR2 : ∀ a, A2 = some a → a.block ≠ w.heap.size ∧ a.block ≠ w.heap.size + 1 := fun a ha => by
    obtain ⟨cur, hl⟩ := HS3.out.rowBlock ha
    refine ⟨fun e2 => ?_, fun e2 => ?_⟩
    · rw [e2] at hl
      have : some (Obj.cells cur 3 (0, 0)) = some (Obj.cells _ 41 (0, 0)) := hl.symm.trans HK2.out
      injection this with this
      injection this with _ this
      exact absurd this (by decide)
    · rw [e2] at hl
      have : some (Obj.cells cur 3 (0, 0)) = some (Obj.cells _ 41 (0, 0)) := hl.symm.trans HL2.out
      injection this with this
      injection this with _ this
      exact absurd this (by decide)
  have hO1 := HO2.out.kept g1 (row_blk_ne HO2.out HK2.out (by decide))
  refine ⟨A2, c2, S2, d2, rfl, ?_, ?_, hO1.kept g2 (row_blk_ne hO1 X0 (by decide)), HF2.out⟩
  · exact (HS3.out.grown g1 (HNB.out l1) (HNB.out l2) (fun a ha e => (HR2 a ha).1 (by simpa using e))).grown g2 (fun e => by cases e; omega) (fun e => by cases e; omega) (fun a ha e => (HR2 a ha).2 (by simpa using e))
  · exact (HT3.out.later (grown_high g1 HT3.out.size (Nat.le_refl _))).later (grown_high g2 (Nat.le_trans HT3.out.size g1.size) (by omega))
end Go.Proofs.YtnilempeldlieaaGreat
namespace Go.Proofs.YtnilempeldlieaaGreat
open Go.RowKit
set_option maxRecDepth 100000
theorem vmay_any (v : Int) (w : World) : Calls Tryz.prog 115 #[.int .i64 v] w fun e w' => e = .returned (.bool (nB v || atB v)) ∧ w = w' := by
  cases hn : nB v
  · go_enter Tryz.func115, Tryz.ntmps115
    go_wp2_with (first | (go_at_call 164; refine (n_any _ _).mono ?_; rintro e w' ⟨rfl, rfl⟩) | (go_at_call 110; refine (at_any _ _).mono ?_; rintro e w' ⟨rfl, rfl⟩))
    go_ret
    exact ⟨rfl, rfl⟩
  · go_enter Tryz.func115, Tryz.ntmps115
    go_wp2_with (first | (go_at_call 164; refine (n_any _ _).mono ?_; rintro e w' ⟨rfl, rfl⟩) | (go_at_call 110; refine (at_any _ _).mono ?_; rintro e w' ⟨rfl, rfl⟩))
    go_ret
    exact ⟨rfl, rfl⟩
end Go.Proofs.YtnilempeldlieaaGreat
namespace Go.Proofs.YtnilempeldlieaaGreat
open Go.RowKit
set_option maxRecDepth 100000
theorem cisval_any (h : Hp) (v : Int) (A : Option Addr) (c : Nat) (w : World) :
    Calls Tryz.prog 170 #[.agg #[.slice A h.objs.length c, .int .i64 h.cap, .int .i64 h.last], .int .i64 v] w fun e w' => e = .returned (.bool (hasB h.objs.length v)) ∧ Below w.heap.size w w' := by
  have HB := hid (below_alloc w (.cells #[Value.slice A h.objs.length c, Value.int .i64 h.cap, Value.int .i64 h.last] 24))
  cases ha : atB v
  · have e2 : hasB h.objs.length v = nB v := by simp [hasB, refB, ha]
    rw [e2]; clear e2
    go_enter Tryz.func170, Tryz.ntmps170
    go_wp2_with (first | (go_at_call 110; refine (at_any _ _).mono ?_; rintro e w' ⟨rfl, rfl⟩) | (go_at_call 115; refine (vmay_any _ _).mono ?_; rintro e w' ⟨rfl, rfl⟩))
    go_ret
    refine ⟨?_, HB.out⟩
    refine congrArg (fun x => Ending.returned (Value.bool x)) ?_
    simp
  · have hn : nB v = false := by
      cases hn : nB v
      · rfl
      · have := nB_iff.1 hn; have := atB_iff.1 ha; omega
    have e2 : hasB h.objs.length v = decide (atV v < (h.objs.length : Int)) := by simp [hasB, refB, ha, hn]
    rw [e2]; clear e2
    go_enter Tryz.func170, Tryz.ntmps170
    go_wp2_with (first | (go_at_call 110; refine (at_any _ _).mono ?_; rintro e w' ⟨rfl, rfl⟩) | (go_at_call 115; refine (vmay_any _ _).mono ?_; rintro e w' ⟨rfl, rfl⟩))
    go_ret
    exact ⟨rfl, HB.out⟩
theorem cfault1_any (h : Hp) (x : Int) (A : Option Addr) (c b : Nat) (w : World) (hb : BoxH w b h A c) :
    Calls Tryz.prog 169 #[.int .i64 x, .pointer (some ⟨b, 0, none⟩)] w fun e w' => e = .returned (.bool (!hasB h.objs.length x)) ∧ Below w.heap.size w w' := by
  obtain ⟨h0, h1, h2⟩ := hb
  go_enter Tryz.func169, Tryz.ntmps169
  go_wp2_with (first | (go_at_call 170; refine (cisval_any h _ A c _).mono ?_; rintro e w' ⟨rfl, hb⟩))
  go_ret
  exact ⟨rfl, hb⟩
theorem idxc_any (h : Hp) (A : Option Addr) (c b : Nat) (S : Option Addr) (xs : List Int) (d : Nat) (w : World) (hb : BoxH w b h A c) (hlt : b < w.heap.size) (hs : IntsR w S xs) (hl : xs.length ≤ 9223372036854775807) :
    Calls Tryz.prog 116 #[.slice S xs.length d, .func (.func 169) #[] #[.pointer (some ⟨b, 0, none⟩)]] w fun e w' => ∃ n : Int, e = .returned (.int .i64 n) ∧ (n < 0 ↔ xs.all (hasB h.objs.length) = true) ∧ Below w.heap.size w w' := by
  go_enter Tryz.func116, Tryz.ntmps116
  go_wp2
  go_loopw [8] (fun i wr => ∃ k : Nat, k ≤ xs.length ∧ i = .int .i64 k ∧ (xs.take k).all (hasB h.objs.length) = true ∧ Below w.heap.size w wr) (fun i _ => xs.length - (intOf i).toNat)
  case atStart => exact ⟨0, Nat.zero_le _, rfl, rfl, Below.refl _ _⟩
  case round =>
    obtain ⟨k, hk, rfl, hall, hbw⟩ := hrel
    by_cases hlt2 : k < xs.length
    · obtain ⟨bs, os, rfl, hbs, hcs⟩ := hs (by omega)
      have hcell : wr.cell? ⟨bs, os + k, none⟩ = some (.int .i64 xs[k]) := (hbw.cell (p := ⟨bs, os + k, none⟩) hbs).trans (hcs k _ (List.getElem?_eq_getElem hlt2))
      have hbr := hid (hb.below hlt hbw)
      have htk : (xs.take (k + 1)).all (hasB h.objs.length) = ((xs.take k).all (hasB h.objs.length) && hasB h.objs.length xs[k]) := by
        rw [List.take_succ_eq_append_getElem hlt2, List.all_append]; simp
      have HT := hid htk
      have HA := hid hall
      have HW := hid hbw
      have HS := hid hs
      clear htk hall hbw hcs hb hs
      cases hv : hasB h.objs.length xs[k]
      · go_wp2_with (first | (go_at_call 169; refine (cfault1_any h _ A c b _ hbr.out).mono ?_; rintro e w' ⟨rfl, hb⟩))
        go_ret
        refine ⟨k, rfl, ?_, HW.out.trans (hb.mono HW.out.size)⟩
        constructor
        · intro hh; omega
        · intro hh
          have := List.all_eq_true.1 hh xs[k] (List.getElem_mem hlt2)
          rw [hv] at this; cases this
      · go_wp2_with (first | (go_at_call 169; refine (cfault1_any h _ A c b _ hbr.out).mono ?_; rintro e w' ⟨rfl, hb⟩))
        go_roundw
        case rel => exact ⟨k + 1, by omega, by go_num, by rw [HT.out, HA.out, hv]; rfl, HW.out.trans (hb.mono HW.out.size)⟩
        case measure => simp [intOf]; omega
    · have e : k = xs.length := by omega
      subst e
      have HA := hid hall
      have HW := hid hbw
      clear hall hbw
      go_wp2
      go_ret
      refine ⟨-1, rfl, ⟨fun _ => ?_, fun _ => by omega⟩, HW.out⟩
      have := HA.out
      rwa [List.take_length] at this
theorem conc_any (h : Hp) (A : Option Addr) (c b : Nat) (S : Option Addr) (xs : List Int) (d : Nat) (w : World) (hb : BoxH w b h A c) (hlt : b < w.heap.size) (hs : IntsR w S xs) (hl : xs.length ≤ 9223372036854775807) :
    Calls Tryz.prog 70 #[.slice S xs.length d, .func (.func 169) #[] #[.pointer (some ⟨b, 0, none⟩)]] w fun e w' => e = .returned (.bool (!xs.all (hasB h.objs.length))) ∧ Below w.heap.size w w' := by
  have K := hid (idxc_any h A c b S xs d w hb hlt hs hl)
  clear hs hl hlt hb
  go_enter Tryz.func70, Tryz.ntmps70
  go_wp2_with fail
  refine K.out.mono ?_
  rintro e w' ⟨n, rfl, hn, hb⟩
  have e2 : (!xs.all (hasB h.objs.length)) = decide (0 ≤ n) := by
    cases hx : xs.all (hasB h.objs.length) <;> rw [hx] at hn <;> simp at hn ⊢ <;> omega
  have E2 := hid e2
  clear hn e2 K
  go_wp2
  go_ret
  exact ⟨by rw [E2.out]; rfl, hb⟩

set_option maxHeartbeats 2000000 in
theorem fault_any (h : Hp) (rs : List Int) (A R : Option Addr) (c d : Nat) (w : World) (hs : ObsR w A h.objs) (fit : h.Fit) (hr : IntsR w R rs) (hl : rs.length ≤ 9223372036854775807) :
    Calls Tryz.prog 112 #[.agg #[.slice A h.objs.length c, .int .i64 h.cap, .int .i64 h.last], .slice R rs.length d] w fun e w' => e = .returned (.int .i64 (liE h rs)) ∧ Below w.heap.size w w' := by
  have hmf : ∀ (fn : Fn) (first cap : Array Value) (w : World), (Instr.makeFunc fn first cap).run Tryz.prog w = .ok (.func fn first cap) w := fun _ _ _ _ => rfl
  have HB0 := hid (below_alloc w (.cells #[Value.slice A h.objs.length c, Value.int .i64 h.cap, Value.int .i64 h.last] 24))
  have X0 := hid (BoxH.new w h A c)
  have L0 := hid (Lies.new w 24 #[Value.slice A h.objs.length c, Value.int .i64 h.cap, Value.int .i64 h.last])
  have HS := hid hs
  have HF := hid fit
  have HR := hid hr
  clear hs fit hr
  cases hm : mayB h
  · have e1 : liE h rs = 1 := by unfold liE; rw [if_neg (by rw [hm]; decide)]
    rw [e1]
    go_enter Tryz.func112, Tryz.ntmps112
    go_wp2_with fail
    refine (may_any h A c _ (HS.out.below HB0.out) HF.out).mono ?_
    rintro e w1 ⟨rfl, hb1⟩
    rw [hm]
    have HB1 := hid (HB0.out.trans (hb1.mono (by simp)))
    clear hb1
    go_wp2_with fail
    go_ret
    exact ⟨rfl, HB1.out⟩
  · have HE : Hid (liE h rs = if rs.all (hasB h.objs.length) = true then 0 else 31) := by show _ = _; unfold liE; rw [if_pos hm]
    cases hx : rs.all (hasB h.objs.length)
    · have e1 : liE h rs = 31 := by rw [HE.out, hx]; rfl
      rw [e1]
      clear e1 HE
      go_enter Tryz.func112, Tryz.ntmps112
      go_wp2_with fail
      refine (may_any h A c _ (HS.out.below HB0.out) HF.out).mono ?_
      rintro e w1 ⟨rfl, hb1⟩
      rw [hm]
      have HB1 := hid (HB0.out.trans (hb1.mono (by simp)))
      have L1 := hid (L0.out.later hb1)
      have X1 := hid (X0.out.below (by simp) hb1)
      clear hb1
      go_wp2_with fail
      refine (conc_any h A c w.heap.size R rs d _ X1.out L1.out.lt (HR.out.below HB1.out) hl).mono ?_
      rintro e w2 ⟨rfl, hb2⟩
      rw [hx]
      have HB2 := hid (HB1.out.trans (hb2.mono HB1.out.size))
      clear hb2
      go_wp2_with fail
      go_ret
      exact ⟨rfl, HB2.out⟩
    · have e1 : liE h rs = 0 := by rw [HE.out, hx]; rfl
      rw [e1]
      clear e1 HE
      go_enter Tryz.func112, Tryz.ntmps112
      go_wp2_with fail
      refine (may_any h A c _ (HS.out.below HB0.out) HF.out).mono ?_
      rintro e w1 ⟨rfl, hb1⟩
      rw [hm]
      have HB1 := hid (HB0.out.trans (hb1.mono (by simp)))
      have L1 := hid (L0.out.later hb1)
      have X1 := hid (X0.out.below (by simp) hb1)
      clear hb1
      go_wp2_with fail
      refine (conc_any h A c w.heap.size R rs d _ X1.out L1.out.lt (HR.out.below HB1.out) hl).mono ?_
      rintro e w2 ⟨rfl, hb2⟩
      rw [hx]
      have HB2 := hid (HB1.out.trans (hb2.mono HB1.out.size))
      clear hb2
      go_wp2_with fail
      go_ret
      exact ⟨rfl, HB2.out⟩
end Go.Proofs.YtnilempeldlieaaGreat
namespace Go.Proofs.YtnilempeldlieaaGreat
open Go.RowKit
/-- a heap, a list of ints and an error are returned -/
def HeapInts (w : World) (h' : Hp) (L : List Int) (en : Int) (e : Ending) (w' : World) : Prop :=
  ∃ A c R d, e = .returned (.tuple #[.agg #[.slice A h'.objs.length c, .int .i64 h'.cap, .int .i64 h'.last], .slice R L.length d, .int .i64 en]) ∧ ObsR w' A h'.objs ∧ IntsR w' R L ∧ Below w.heap.size w w'
/-- a heap and ints of the call's own, and a word, are returned -/
def HeapIntsOwn (w : World) (h' : Hp) (L : List Int) (en : Int) (e : Ending) (w' : World) : Prop :=
  ∃ A c R d ls, e = .returned (.tuple #[.agg #[.slice A h'.objs.length c, .int .i64 h'.cap, .int .i64 h'.last], .slice R L.length d, .int .i64 en]) ∧ ls.map (·.o) = h'.objs ∧ OwnH w' w.heap.size A c ls ∧ w'.ownsRow w.heap.size 3 1 (.slice R L.length d) L.length (L.map (Value.int .i64)) ∧ Below w.heap.size w w'
theorem far_cell5 {w : World} {g j g' o : Nat} {u v : Value} (hne : g' ≠ g) (h : w.cell? ⟨g', o, none⟩ = some v) : (w.setCell ⟨g, j, none⟩ u).cell? ⟨g', o, none⟩ = some v :=
  (World.cell?_setCell_other _ _ _ _ (by intro e; injection e with e1; exact hne e1.symm)).trans h
end Go.Proofs.YtnilempeldlieaaGreat
namespace Go.Proofs.YtnilempeldlieaaGreat
open Go.RowKit
theorem edges_at {h : Hp} {q : Nat} {o : Ob} (ho : h.objs[q]? = some o) : edges h q = edgesO o := by unfold edges; rw [ho]; rfl
theorem Done.more {h : Hp} {M : List Nat} {k : Nat} (d : Done h M k) (hk : k < M.length) {o : Ob} (ho : h.objs[M[k]]? = some o) : Done h (meets h M (edgesO o)) (k + 1) := by
  intro j q p hj hjq hoq v hv
  by_cases hji : j < k
  · exact meets_done _ d (by omega) j q p hji hjq hoq v hv
  · obtain rfl : j = k := by omega
    rw [meets_get (List.getElem?_eq_getElem hk)] at hjq
    obtain rfl : M[j] = q := Option.some.inj hjq
    rw [ho] at hoq
    obtain rfl := Option.some.inj hoq
    exact meets_all _ v hv
theorem cnK_step {h : Hp} {M : List Nat} {k : Nat} (d : Done h M k) (hk : k < M.length) (hlt : ∀ i ∈ M, i < h.objs.length) {o : Ob} (ho : h.objs[M[k]]? = some o) :
    cnK h (meets h M (edgesO o)) (k + 1) = cnK h M k ++ [cnO h (meets h M (edgesO o)) o] := by
  obtain ⟨t, ht⟩ := meets_pre h (edgesO o) M
  rw [ht]
  have hk2 : k < (M ++ t).length := by rw [List.length_append]; omega
  rw [cnK_succ hk2]
  have e1 : (M ++ t)[k] = M[k] := List.getElem_append_left hk
  rw [e1, List.getD_eq_getElem?_getD, ho]
  congr 1
  unfold cnK
  rw [List.take_append_of_le_length (by omega)]
  refine List.map_congr_left fun q hq => ?_
  obtain ⟨j, hj, e⟩ := List.getElem_of_mem hq
  rw [List.length_take] at hj
  rw [List.getElem_take] at e
  have hql : q < h.objs.length := hlt q (by rw [← e]; exact List.getElem_mem _)
  have hoq := List.getElem?_eq_getElem hql
  rw [List.getD_eq_getElem?_getD, hoq]
  exact cnO_pre (fun v hv => d j q h.objs[q] (by omega) (by rw [← e]; exact List.getElem?_eq_getElem _) hoq v hv) t
theorem cnL_eq {h : Hp} {rs : List Int} (e : liE h rs = 0) : rs.map (cnV h (meets h [] rs)) = cnL h rs := by
  rw [cnL_yes e]
  obtain ⟨t, ht⟩ := bfs_pre h h.objs.length (meets h [] rs) 0
  have : ordN h rs = meets h [] rs ++ t := ht
  rw [this]
  exact List.map_congr_left fun v hv => (cnV_pre (meets_all rs v hv) t).symm
theorem Met.okay {h : Hp} {rs : List Int} {M : List Nat} (m : Met h rs M) : Okay h M := ⟨m.nodup, fun _ => m.lt⟩
/-- memory while those met are looked through -/
structure CanW (w2 wr : World) (nb mb : Nat) (A2 : Option Addr) (cap last : Int) (M : List Nat) (A6 : Option Addr) (c6 : Nat) (A5 : Option Addr) (c5 : Nat) (ls : List LO) : Prop where
  num : NumS wr nb mb A6 c6 M
  turns : Turns w2 wr nb mb A2 A6
  own : OwnH wr (w2.heap.size + 1) A5 c5 ls
  off : ∀ l ∈ ls, Off l.S A6
  box : Lies wr w2.heap.size 24 #[.slice A5 ls.length c5, .int .i64 cap, .int .i64 last]
  nb : nb < w2.heap.size
  mb : mb < w2.heap.size
section
variable {w2 wr w' : World} {nb mb : Nat} {A2 A6 A7 A5 : Option Addr} {cap last : Int} {M M2 : List Nat} {c6 c7 c5 : Nat} {ls : List LO}
theorem CanW.boxOff (c : CanW w2 wr nb mb A2 cap last M A6 c6 A5 c5 ls) {a : Addr} (ha : A6 = some a) : w2.heap.size ≠ a.block := by
  obtain ⟨cur, hl⟩ := c.num.rowBlock ha
  exact lies_ne c.box hl (by decide)
theorem CanW.rowOff (c : CanW w2 wr nb mb A2 cap last M A6 c6 A5 c5 ls) {a : Addr} (ha : A6 = some a) : (Value.slice A5 ls.length c5).ownBlock ≠ some a.block := by
  obtain ⟨cur, hl⟩ := c.num.rowBlock ha
  exact own_blk_ne c.own.row hl (by decide)
/-- behind a call that only turns the numbering -/
theorem CanW.turn (c : CanW w2 wr nb mb A2 cap last M A6 c6 A5 c5 ls) (t : Turns wr w' nb mb A6 A7) (n : NumS w' nb mb A7 c7 M2) : CanW w2 w' nb mb A2 cap last M2 A7 c7 A5 c5 ls := by
  have ar := c.num.apart c.own.row (by decide)
  have ai := fun i l hl => c.num.apart (c.own.ints i l hl) (by decide)
  refine ⟨n, c.turns.trans t, ⟨t.row c.own.row ar.1 ar.2 (fun a ha => c.rowOff ha), fun i l hl => t.row (c.own.ints i l hl) (ai i l hl).1 (ai i l hl).2 (off_blk (c.off l (List.mem_of_getElem? hl))), c.own.apart⟩, fun l hl => ?_, t.lies c.box (by have := c.nb; omega) (by have := c.mb; omega) (fun a ha => c.boxOff ha), c.nb, c.mb⟩
  obtain ⟨i, hi, rfl⟩ := List.getElem_of_mem hl
  exact off_turn (c.off _ (List.getElem_mem hi)) t (c.own.ints i _ (List.getElem?_eq_getElem hi))
theorem CanW.later (c : CanW w2 wr nb mb A2 cap last M A6 c6 A5 c5 ls) (hb : Below wr.heap.size wr w') : CanW w2 w' nb mb A2 cap last M A6 c6 A5 c5 ls :=
  ⟨c.num.later hb, c.turns.later (hb.mono c.turns.size), c.own.later hb, c.off, c.box.later hb, c.nb, c.mb⟩
/-- an object is appended, and the list stored -/
theorem CanW.push (c : CanW w2 wr nb mb A2 cap last M A6 c6 A5 c5 ls) {w6 : World} {A8 : Option Addr} {c8 : Nat} {l : LO} (hO : OwnH w6 (w2.heap.size + 1) A8 c8 (ls ++ [l])) (hl : Off l.S A6) (g : wr.grownBy w6 (Value.slice A5 ls.length c5).ownBlock) :
    CanW w2 (w6.setCell ⟨w2.heap.size, 0, none⟩ (.slice A8 (ls.length + 1) c8)) nb mb A2 cap last M A6 c6 A8 c8 (ls ++ [l]) ∧ Lies w6 w2.heap.size 24 #[.slice A5 ls.length c5, .int .i64 cap, .int .i64 last] := by
  have ar := c.num.apart c.own.row (by decide)
  have hb6 : Lies w6 w2.heap.size 24 #[.slice A5 ls.length c5, .int .i64 cap, .int .i64 last] := c.box.grown g (fun e => own_blk_ne c.own.row c.box (by decide) e.symm)
  have n6 := c.num.grown g (fun e => ar.1 e.symm) (fun e => ar.2 e.symm) (fun a ha e => c.rowOff ha e.symm)
  have hgs := grown_set w6 ⟨w2.heap.size, 0, none⟩ (.slice A8 (ls.length + 1) c8)
  have hbw : Below w2.heap.size wr w6 := ⟨g.os, g.tape, g.output, g.size, fun k hk => g.block k (Nat.lt_of_lt_of_le hk c.turns.size) (fun e => by have := (c.own.row.lt k e.symm).1; omega)⟩
  refine ⟨⟨?_, (c.turns.later hbw).later ⟨hgs.os, hgs.tape, hgs.output, hgs.size, fun k hk => hgs.block k (Nat.lt_of_lt_of_le hk (Nat.le_trans c.turns.size g.size)) (by simp; omega)⟩, hO.off hb6 0 _, ?_, ?_, c.nb, c.mb⟩, hb6⟩
  · exact n6.grown hgs (by have := c.nb; simp; omega) (by have := c.mb; simp; omega) (fun a ha e => by
      obtain ⟨cur, hl⟩ := n6.rowBlock ha
      exact lies_ne hb6 hl (by decide) (by simpa using e.symm))
  · intro m hm
    rcases List.mem_append.1 hm with h | h
    · exact c.off m h
    · obtain rfl : m = l := by simpa using h
      exact hl
  · have := hb6.set_ 0 (.slice A8 (ls.length + 1) c8)
    rw [List.length_append]
    simpa using this
end
end Go.Proofs.YtnilempeldlieaaGreat
namespace Go.Proofs.YtnilempeldlieaaGreat
open Go.RowKit
set_option maxRecDepth 100000
theorem two_old {w : World} {p : Addr} {v : Value} {o1 o2 : Obj} (h : w.cell? p = some v) : ((w.alloc o1).alloc o2).drew.cell? p = some v := cell_later (Below.refl _ _).drew (cell_old (cell_old h))
theorem text_inj {s t : ByteArray} (h : s.toList = t.toList) : s = t := by
  rw [ByteArray.toList_eq, ByteArray.toList_eq] at h
  have := Array.toList_inj.1 h
  cases s; cases t; simp_all
theorem ob_eq {o p : Ob} (h0 : o.cls = p.cls) (h1 : o.kind = p.kind) (h2 : o.slots = p.slots) (h3 : o.text = p.text) (h4 : o.bits = p.bits) (h5 : o.hash = p.hash) : o = p := by
  cases o; cases p; simp_all
end Go.Proofs.YtnilempeldlieaaGreat
