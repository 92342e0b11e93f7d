/- strings.Clone: a text is as it is. The program's reader of bytes: an object. -/
import Derived.Test.YthggafdfglojaaaKB8
import Derived.Test.YthggafdfglojaaaZC
import Derived.Test.YthggafdfglojaaaKD8
namespace Go.Proofs.Ythggafdfglojaaa
open Go.RowKit
theorem clone_any8 (s : ByteArray) (hs : s.size ≤ 100000) (w : World) : Calls Try.prog 120 #[.string s] w fun e w' => e = .returned (.string s) ∧ Below w.heap.size w w' := by
  go_enter Try.func120, Try.ntmps120
  go_wp2_with fail
  refine (Try.stringslite_Clone s _ (by omega)).mono ?_
  rintro e w1 ⟨rfl, hb⟩
  have HB := hid hb
  clear hb
  go_wp2_with fail
  go_ret
  exact ⟨rfl, HB.out⟩
end Go.Proofs.Ythggafdfglojaaa
namespace Go.Proofs.Ythggafdfglojaaa
open Go.RowKit
set_option maxRecDepth 100000
/-- an object, its slots of the call's own -/
def ObjG8 (w : World) (o : Ob) (e : Ending) (w' : World) : Prop :=
  ∃ S c, e = .returned (.agg #[.int .i64 o.cls, .int .i64 o.kind, .slice S o.slots.length c, .string o.text, .int .i64 o.bits, .int .i64 o.hash]) ∧ w'.ownsRow w.heap.size 3 1 (.slice S o.slots.length c) o.slots.length (o.slots.map (Value.int .i64))
theorem only_in8 {g b i : Nat} {w w1 : World} (h : Only g w w1) (hb : w.heap.size ≤ b) (v : Value) : Only g w (w1.setCell ⟨b, i, none⟩ v) :=
  h.grown (row := some b) (only_set w1 b i v) (fun j hj => by injection hj with hj; omega)
set_option maxHeartbeats 4000000 in
theorem pobject_any8 (s : List UInt8) (g : Nat) (w : World) (hr : RL8 w g s) (hl : s.length ≤ 100000) :
    Calls Try.prog 101 #[.pointer (some ⟨g, 0, none⟩)] w (Got8 g w (ob8 s) (ObjG8 w)) := by
  have hgw : g < w.heap.size := hr.lt
  have ng2 : w.heap.size ≠ g := by omega
  have HR0 := hid (hr.alloc (.cells #[.int .i64 0, .int .i64 0, .slice none 0 0, .string ⟨#[]⟩, .int .i64 0, .int .i64 0] 46))
  have HY0 := hid (only_below (g := g) (below_alloc w (.cells #[.int .i64 0, .int .i64 0, .slice none 0 0, .string ⟨#[]⟩, .int .i64 0, .int .i64 0] 46)))
  have HK0 := hid (Lies.new w 46 #[.int .i64 0, .int .i64 0, .slice none 0 0, .string ⟨#[]⟩, .int .i64 0, .int .i64 0])
  have e0 : ob8 s = (wd8 s).bind fun c => (wd8 c.2).bind fun k => (wd8 k.2).bind fun h => ot8 c.1 k.1 h.1 h.2 := rfl
  have E0 := hid e0
  clear hr e0
  go_enter Try.func101, Try.ntmps101
  go_wp2_with fail
  have L0 := hid (show s.length ≤ 100000 from by assumption)
  rcases hp : wd8 s with _ | ⟨n0, s1⟩
  · have HP := hid hp
    have HQ : Hid (ob8 s = none) := by show _ = _; rw [E0.out, hp]; rfl
    clear hp
    refine (pword_any8 s g _ HR0.out L0.out).mono ?_
    rintro e w1 ⟨h1, h2, -⟩
    obtain rfl := h2 HP.out
    have H1 := hid (HY0.out.then_ h1)
    clear h1 h2
    go_wp2_with fail
    exact ⟨rfl, got_stop H1.out HQ.out⟩
  have HP0 := hid hp
  have hl0 := wd8_len hp
  have E1 : Hid (ob8 s = (wd8 s1).bind fun k => (wd8 k.2).bind fun h => ot8 n0 k.1 h.1 h.2) := by show _ = _; rw [E0.out, hp]; rfl
  have hlen0 : s1.length ≤ 100000 := Nat.le_trans hl0 L0.out
  clear hp hl0
  refine (pword_any8 s g _ HR0.out L0.out).mono ?_
  rintro e w1 ⟨h1, -, h2⟩
  obtain ⟨rfl, h3⟩ := h2 n0 s1 HP0.out
  have HR1 := hid h3
  have HK1 := hid (h1.lies HK0.out ng2)
  have HY1 := hid (HY0.out.then_ h1)
  clear h1 h2 h3
  go_wp2_with fail
  have L1 := hid (show s1.length ≤ 100000 from by assumption)
  rcases hp : wd8 s1 with _ | ⟨n1, s2⟩
  · have HP := hid hp
    have HQ : Hid (ob8 s = none) := by show _ = _; rw [E1.out, hp]; rfl
    clear hp
    refine (pword_any8 s1 g _ HR1.out L1.out).mono ?_
    rintro e w1 ⟨h1, h2, -⟩
    obtain rfl := h2 HP.out
    have H1 := hid (HY1.out.then_ h1)
    clear h1 h2
    go_wp2_with fail
    exact ⟨rfl, got_stop H1.out HQ.out⟩
  have HP1 := hid hp
  have hl1 := wd8_len hp
  have E2 : Hid (ob8 s = (wd8 s2).bind fun h => ot8 n0 n1 h.1 h.2) := by show _ = _; rw [E1.out, hp]; rfl
  have hlen1 : s2.length ≤ 100000 := Nat.le_trans hl1 L1.out
  clear hp hl1
  refine (pword_any8 s1 g _ HR1.out L1.out).mono ?_
  rintro e w2 ⟨h1, -, h2⟩
  obtain ⟨rfl, h3⟩ := h2 n1 s2 HP1.out
  have HR2 := hid h3
  have HK2 := hid (h1.lies HK1.out ng2)
  have HY2 := hid (HY1.out.then_ h1)
  clear h1 h2 h3
  go_wp2_with fail
  have L2 := hid (show s2.length ≤ 100000 from by assumption)
  rcases hp : wd8 s2 with _ | ⟨n2, s3⟩
  · have HP := hid hp
    have HQ : Hid (ob8 s = none) := by show _ = _; rw [E2.out, hp]; rfl
    clear hp
    refine (pword_any8 s2 g _ HR2.out L2.out).mono ?_
    rintro e w1 ⟨h1, h2, -⟩
    obtain rfl := h2 HP.out
    have H1 := hid (HY2.out.then_ h1)
    clear h1 h2
    go_wp2_with fail
    exact ⟨rfl, got_stop H1.out HQ.out⟩
  have HP2 := hid hp
  have hl2 := wd8_len hp
  have E3 : Hid (ob8 s = ot8 n0 n1 n2 s3) := by show _ = _; rw [E2.out, hp]; rfl
  have hlen2 : s3.length ≤ 100000 := Nat.le_trans hl2 L2.out
  clear hp hl2
  refine (pword_any8 s2 g _ HR2.out L2.out).mono ?_
  rintro e w3 ⟨h1, -, h2⟩
  obtain ⟨rfl, h3⟩ := h2 n2 s3 HP2.out
  have HR3 := hid h3
  have HK3 := hid (h1.lies HK2.out ng2)
  have HY3 := hid (HY2.out.then_ h1)
  clear h1 h2 h3
  obtain ⟨b, hb⟩ : ∃ b, b = w3.heap.size := ⟨_, rfl⟩
  obtain ⟨w4, hw4⟩ : ∃ u, u = w3.alloc (.cells #[.int .i64 n0, .int .i64 n1, .slice none 0 0, .string ⟨#[]⟩, .int .i64 0, .int .i64 n2] 46) := ⟨_, rfl⟩
  have HR4 : Hid (RL8 w4 g s3) := by show Lies _ _ _ _; rw [hw4]; exact HR3.out.alloc _
  have HK4 : Hid (Lies w4 w.heap.size 46 #[.int .i64 0, .int .i64 0, .slice none 0 0, .string ⟨#[]⟩, .int .i64 0, .int .i64 0]) := by show Lies _ _ _ _; rw [hw4]; exact HK3.out.alloc _
  have HL4 : Hid (Lies w4 b 46 #[.int .i64 n0, .int .i64 n1, .slice none 0 0, .string ⟨#[]⟩, .int .i64 0, .int .i64 n2]) := by show Lies _ _ _ _; rw [hw4, hb]; exact Lies.new w3 46 _
  have HY4 : Hid (Only g w w4) := by show Only _ _ _; rw [hw4]; exact HY3.out.then_ (only_below (below_alloc w3 _))
  have hbg : b ≠ g := by have := HR3.out.lt; omega
  have hgb : g ≠ b := fun e => hbg e.symm
  have hb2 : w.heap.size ≠ b := by have := HK3.out.lt; omega
  have HBL : Hid (w.heap.size ≤ b) := by show _ ≤ _; have := HK3.out.lt; omega
  go_upto_region 2 with fail
  rw [← hw4, ← hb]
  clear hw4 hb
  have c1 := HL4.out.cell 1
  simp only [List.getElem?_toArray, List.getElem?_cons_zero, List.getElem?_cons_succ] at c1
  by_cases k0 : n1 = 0
  · subst k0
    have HLEN := hid hlen2
    have ET : Hid (ob8 s = (ls8 64 s3).bind fun q => some (⟨n0, 0, q.1, ⟨#[]⟩, 0, n2⟩, q.2)) := by show _ = _; rw [E3.out]; rfl
    rcases hp : ls8 64 s3 with _ | ⟨l, s4⟩
    · have HP := hid hp
      have HQ : Hid (ob8 s = none) := by show _ = _; rw [ET.out, hp]; rfl
      clear hp
      go_wp2_with fail
      refine (plist_any8 s3 64 (by omega) (by omega) g _ HR4.out HLEN.out).mono ?_
      rintro e w9 ⟨h1, h2, -⟩
      obtain rfl := h2 HP.out
      have H1 := hid (HY4.out.then_ h1)
      clear h1 h2
      go_wp2_with fail
      exact ⟨rfl, got_stop H1.out HQ.out⟩
    · have HP := hid hp
      have HQ : Hid (ob8 s = some (⟨n0, 0, l, ⟨#[]⟩, 0, n2⟩, s4)) := by show _ = _; rw [ET.out, hp]; rfl
      clear hp
      go_wp2_with fail
      refine (plist_any8 s3 64 (by omega) (by omega) g _ HR4.out HLEN.out).mono ?_
      rintro e w5 ⟨h1, -, h2⟩
      obtain ⟨⟨A, c, rfl, ho⟩, h3⟩ := h2 l s4 HP.out
      have HR5 := hid h3
      have HK5 := hid (h1.lies HK4.out ng2)
      have HL5 := hid (h1.lies HL4.out hbg)
      have HY5 := hid (HY4.out.then_ h1)
      have HO5 := hid ho
      have hz4 : b + 1 ≤ w4.heap.size := Nat.succ_le_of_lt HL4.out.lt
      have hz5 : b + 1 ≤ w5.heap.size := Nat.succ_le_of_lt HL5.out.lt
      clear h1 h2 h3 ho
      have l2 := HL5.out.cell 2
      have lf2 := HL5.out.frozen 2
      simp only [List.getElem?_toArray, List.getElem?_cons_zero, List.getElem?_cons_succ] at l2
      have HR6 := hid (HR5.out.far (p := ⟨b, 2, none⟩) hgb (.slice A l.length c))
      have HK6 := hid (HK5.out.far (p := ⟨b, 2, none⟩) hb2 (.slice A l.length c))
      have HL6 := hid (HL5.out.set_ 2 (.slice A l.length c))
      have HY6 := hid (only_in8 (b := b) (i := 2) HY5.out HBL.out (.slice A l.length c))
      simp only [List.setIfInBounds_toArray, List.set_cons_zero, List.set_cons_succ] at HL6
      have q0 := HL6.out.cell 0
      have q1 := HL6.out.cell 1
      have q2 := HL6.out.cell 2
      have q3 := HL6.out.cell 3
      have q4 := HL6.out.cell 4
      have q5 := HL6.out.cell 5
      have p0 := HK6.out.cell 0
      have p1 := HK6.out.cell 1
      have p2 := HK6.out.cell 2
      have p3 := HK6.out.cell 3
      have p4 := HK6.out.cell 4
      have p5 := HK6.out.cell 5
      have pf0 := HK6.out.frozen 0
      have pf1 := HK6.out.frozen 1
      have pf2 := HK6.out.frozen 2
      have pf3 := HK6.out.frozen 3
      have pf4 := HK6.out.frozen 4
      have pf5 := HK6.out.frozen 5
      simp only [List.getElem?_toArray, List.getElem?_cons_zero, List.getElem?_cons_succ] at q0 q1 q2 q3 q4 q5 p0 p1 p2 p3 p4 p5
      go_wp2_with fail
      have X1 := (((((HK6.out.set_ 0 (.int .i64 n0)).set_ 1 (.int .i64 0)).set_ 2 (.slice A l.length c)).set_ 3 (.string ⟨#[]⟩)).set_ 4 (.int .i64 0)).set_ 5 (.int .i64 n2)
      have r0 := X1.cell 0
      have r1 := X1.cell 1
      have r2 := X1.cell 2
      have r3 := X1.cell 3
      have r4 := X1.cell 4
      have r5 := X1.cell 5
      simp only [List.setIfInBounds_toArray, List.set_cons_zero, List.set_cons_succ, List.getElem?_toArray, List.getElem?_cons_zero, List.getElem?_cons_succ] at r0 r1 r2 r3 r4 r5
      refine bodyPost_ret (v := .agg #[.int .i64 n0, .int .i64 0, .slice A l.length c, .string ⟨#[]⟩, .int .i64 0, .int .i64 n2]) (by simp [results, Try.results101, go_sem, r0, r1, r2, r3, r4, r5]) rfl ?_
      have HYF := (((((only_in8 (b := w.heap.size) (i := 0) HY6.out (Nat.le_refl _) (.int .i64 n0)) |> fun z => only_in8 (b := w.heap.size) (i := 1) z (Nat.le_refl _) (.int .i64 0)) |> fun z => only_in8 (b := w.heap.size) (i := 2) z (Nat.le_refl _) (.slice A l.length c)) |> fun z => only_in8 (b := w.heap.size) (i := 3) z (Nat.le_refl _) (.string ⟨#[]⟩)) |> fun z => only_in8 (b := w.heap.size) (i := 4) z (Nat.le_refl _) (.int .i64 0)) |> fun z => only_in8 (b := w.heap.size) (i := 5) z (Nat.le_refl _) (.int .i64 n2)
      have HRF := (((((HR6.out.far (p := ⟨w.heap.size, 0, none⟩) ng2.symm (.int .i64 n0)).far (p := ⟨w.heap.size, 1, none⟩) ng2.symm (.int .i64 0)).far (p := ⟨w.heap.size, 2, none⟩) ng2.symm (.slice A l.length c)).far (p := ⟨w.heap.size, 3, none⟩) ng2.symm (.string ⟨#[]⟩)).far (p := ⟨w.heap.size, 4, none⟩) ng2.symm (.int .i64 0)).far (p := ⟨w.heap.size, 5, none⟩) ng2.symm (.int .i64 n2)
      have hbl := HBL.out
      have HO8 : w5.ownsRow (b + 1) 3 1 (.slice A l.length c) l.length (l.map (Value.int .i64)) := own_lower HO5.out hz4
      refine got_some HYF HQ.out ⟨A, c, rfl, ?_⟩ HRF
      refine own_lower (base := b + 1) ?_ (by omega)
      exact ownsRow_setCell_below (ownsRow_setCell_below (ownsRow_setCell_below (ownsRow_setCell_below (ownsRow_setCell_below (ownsRow_setCell_below (ownsRow_setCell_below HO8 (by simp) _) (by simp; omega) _) (by simp; omega) _) (by simp; omega) _) (by simp; omega) _) (by simp; omega) _) (by simp; omega) _
  have m0 : (n1 == 0) = false := by simpa using k0
  by_cases k1 : n1 = 1
  · subst k1
    have HLEN := hid hlen2
    have ET : Hid (ob8 s = ((ct8 64 s3).bind fun p => pk8 p.1.toNat p.2).bind fun q => some (⟨n0, 1, [], ⟨q.1.toArray⟩, 0, n2⟩, q.2)) := by show _ = _; rw [E3.out]; rfl
    rcases hp : ct8 64 s3 with _ | ⟨m, s4⟩
    · have HP := hid hp
      have HQ : Hid (ob8 s = none) := by show _ = _; rw [ET.out, hp]; rfl
      clear hp
      go_wp2_with fail
      refine (pcount_any8 s3 64 (by omega) (by omega) g _ HR4.out HLEN.out).mono ?_
      rintro e w9 ⟨h1, h2, -⟩
      obtain rfl := h2 HP.out
      have H1 := hid (HY4.out.then_ h1)
      clear h1 h2
      go_wp2_with fail
      exact ⟨rfl, got_stop H1.out HQ.out⟩
    · have HP := hid hp
      obtain ⟨hs4, hm0, hm1⟩ := ct8_len hp
      simp only at hs4 hm0 hm1
      obtain ⟨z, rfl⟩ : ∃ z : Nat, m = z := ⟨m.toNat, by omega⟩
      have EU : Hid (ob8 s = (pk8 z s4).bind fun q => some (⟨n0, 1, [], ⟨q.1.toArray⟩, 0, n2⟩, q.2)) := by show _ = _; rw [ET.out, hp]; rfl
      have hlq : s4.length ≤ 100000 := Nat.le_trans hs4 HLEN.out
      clear hp
      go_wp2_with fail
      refine (pcount_any8 s3 64 (by omega) (by omega) g _ HR4.out HLEN.out).mono ?_
      rintro e w5 ⟨h1, -, h2⟩
      obtain ⟨rfl, h3⟩ := h2 z s4 HP.out
      have HR5 := hid h3
      have HK5 := hid (h1.lies HK4.out ng2)
      have HL5 := hid (h1.lies HL4.out hbg)
      have HY5 := hid (HY4.out.then_ h1)
      clear h1 h2 h3
      rcases hq : pk8 z s4 with _ | ⟨t, s5⟩
      · have HP := hid hq
        have HQ : Hid (ob8 s = none) := by show _ = _; rw [EU.out, hq]; rfl
        clear hq
        go_wp2_with fail
        refine (pbytes_any8 s4 z (by omega) g _ HR5.out hlq).mono ?_
        rintro e w9 ⟨h1, h2, -⟩
        obtain rfl := h2 HP.out
        have H1 := hid (HY5.out.then_ h1)
        clear h1 h2
        go_wp2_with fail
        exact ⟨rfl, got_stop H1.out HQ.out⟩
      · have HP2 := hid hq
        have htl : t.length = z := (pk8_len hq).1
        have HQ : Hid (ob8 s = some (⟨n0, 1, [], str t, 0, n2⟩, s5)) := by show _ = _; rw [EU.out, hq]; rfl
        clear hq
        go_wp2_with fail
        refine (pbytes_any8 s4 z (by omega) g _ HR5.out hlq).mono ?_
        rintro e w6 ⟨h1, -, h2⟩
        obtain ⟨rfl, h3⟩ := h2 t s5 HP2.out
        have HR6 := hid h3
        have HK6 := hid (h1.lies HK5.out ng2)
        have HL6 := hid (h1.lies HL5.out hbg)
        have HY6 := hid (HY5.out.then_ h1)
        clear h1 h2 h3
        go_wp2_with fail
        refine (clone_any8 (str t) (by rw [str_size]; omega) _).mono ?_
        rintro e w7 ⟨rfl, h1⟩
        have HR7 := hid (HR6.out.later h1)
        have HK7 := hid (HK6.out.later h1)
        have HL7 := hid (HL6.out.later h1)
        have HY7 := hid (HY6.out.then_ (only_below h1))
        clear h1
        have l3 := HL7.out.cell 3
        have lf3 := HL7.out.frozen 3
        simp only [List.getElem?_toArray, List.getElem?_cons_zero, List.getElem?_cons_succ] at l3
        have HR8 := hid (HR7.out.far (p := ⟨b, 3, none⟩) hgb (.string (str t)))
        have HK8 := hid (HK7.out.far (p := ⟨b, 3, none⟩) hb2 (.string (str t)))
        have HL8 := hid (HL7.out.set_ 3 (.string (str t)))
        have HY8 := hid (only_in8 (b := b) (i := 3) HY7.out HBL.out (.string (str t)))
        simp only [List.setIfInBounds_toArray, List.set_cons_zero, List.set_cons_succ] at HL8
        have q0 := HL8.out.cell 0
        have q1 := HL8.out.cell 1
        have q2 := HL8.out.cell 2
        have q3 := HL8.out.cell 3
        have q4 := HL8.out.cell 4
        have q5 := HL8.out.cell 5
        have p0 := HK8.out.cell 0
        have p1 := HK8.out.cell 1
        have p2 := HK8.out.cell 2
        have p3 := HK8.out.cell 3
        have p4 := HK8.out.cell 4
        have p5 := HK8.out.cell 5
        have pf0 := HK8.out.frozen 0
        have pf1 := HK8.out.frozen 1
        have pf2 := HK8.out.frozen 2
        have pf3 := HK8.out.frozen 3
        have pf4 := HK8.out.frozen 4
        have pf5 := HK8.out.frozen 5
        simp only [List.getElem?_toArray, List.getElem?_cons_zero, List.getElem?_cons_succ] at q0 q1 q2 q3 q4 q5 p0 p1 p2 p3 p4 p5
        go_wp2_with fail
        have X1 := (((((HK8.out.set_ 0 (.int .i64 n0)).set_ 1 (.int .i64 1)).set_ 2 (.slice none 0 0)).set_ 3 (.string (str t))).set_ 4 (.int .i64 0)).set_ 5 (.int .i64 n2)
        have r0 := X1.cell 0
        have r1 := X1.cell 1
        have r2 := X1.cell 2
        have r3 := X1.cell 3
        have r4 := X1.cell 4
        have r5 := X1.cell 5
        simp only [List.setIfInBounds_toArray, List.set_cons_zero, List.set_cons_succ, List.getElem?_toArray, List.getElem?_cons_zero, List.getElem?_cons_succ] at r0 r1 r2 r3 r4 r5
        refine bodyPost_ret (v := .agg #[.int .i64 n0, .int .i64 1, .slice none 0 0, .string (str t), .int .i64 0, .int .i64 n2]) (by simp [results, Try.results101, go_sem, r0, r1, r2, r3, r4, r5]) rfl ?_
        have HYF := (((((only_in8 (b := w.heap.size) (i := 0) HY8.out (Nat.le_refl _) (.int .i64 n0)) |> fun z => only_in8 (b := w.heap.size) (i := 1) z (Nat.le_refl _) (.int .i64 1)) |> fun z => only_in8 (b := w.heap.size) (i := 2) z (Nat.le_refl _) (.slice none 0 0)) |> fun z => only_in8 (b := w.heap.size) (i := 3) z (Nat.le_refl _) (.string (str t))) |> fun z => only_in8 (b := w.heap.size) (i := 4) z (Nat.le_refl _) (.int .i64 0)) |> fun z => only_in8 (b := w.heap.size) (i := 5) z (Nat.le_refl _) (.int .i64 n2)
        have HRF := (((((HR8.out.far (p := ⟨w.heap.size, 0, none⟩) ng2.symm (.int .i64 n0)).far (p := ⟨w.heap.size, 1, none⟩) ng2.symm (.int .i64 1)).far (p := ⟨w.heap.size, 2, none⟩) ng2.symm (.slice none 0 0)).far (p := ⟨w.heap.size, 3, none⟩) ng2.symm (.string (str t))).far (p := ⟨w.heap.size, 4, none⟩) ng2.symm (.int .i64 0)).far (p := ⟨w.heap.size, 5, none⟩) ng2.symm (.int .i64 n2)
        refine got_some HYF HQ.out ⟨none, 0, rfl, World.ownsRow_nil _ _ _ _⟩ HRF
  have m1 : (n1 == 1) = false := by simpa using k1
  by_cases k2 : n1 = 2
  · subst k2
    have HLEN := hid hlen2
    have ET : Hid (ob8 s = (pk8 8 s3).bind fun q => some (⟨n0, 2, [], ⟨#[]⟩, plN8 q.1, n2⟩, q.2)) := by show _ = _; rw [E3.out]; rfl
    rcases hp : (pk8 8 s3).bind (fun p => some (plN8 p.1, p.2)) with _ | ⟨x, s4⟩
    · have HP := hid hp
      have HQ : Hid (ob8 s = none) := by
        show _ = _
        rw [ET.out]
        cases hz : pk8 8 s3 with
        | none => rfl
        | some q => rw [hz] at hp; cases hp
      clear hp
      go_wp2_with fail
      refine (pnum_any8 s3 8 (by omega) g _ HR4.out HLEN.out).mono ?_
      rintro e w9 ⟨h1, h2, -⟩
      obtain rfl := h2 HP.out
      have H1 := hid (HY4.out.then_ h1)
      clear h1 h2
      go_wp2_with fail
      exact ⟨rfl, got_stop H1.out HQ.out⟩
    · have HP := hid hp
      have HQ : Hid (ob8 s = some (⟨n0, 2, [], ⟨#[]⟩, x, n2⟩, s4)) := by
        show _ = _
        rw [ET.out]
        cases hz : pk8 8 s3 with
        | none => rw [hz] at hp; cases hp
        | some q => rw [hz] at hp; cases hp; rfl
      clear hp
      go_wp2_with fail
      refine (pnum_any8 s3 8 (by omega) g _ HR4.out HLEN.out).mono ?_
      rintro e w5 ⟨h1, -, h2⟩
      obtain ⟨rfl, h3⟩ := h2 x s4 HP.out
      have HR5 := hid h3
      have HK5 := hid (h1.lies HK4.out ng2)
      have HL5 := hid (h1.lies HL4.out hbg)
      have HY5 := hid (HY4.out.then_ h1)
      clear h1 h2 h3
      have l4 := HL5.out.cell 4
      have lf4 := HL5.out.frozen 4
      simp only [List.getElem?_toArray, List.getElem?_cons_zero, List.getElem?_cons_succ] at l4
      have HR6 := hid (HR5.out.far (p := ⟨b, 4, none⟩) hgb (.int .i64 x))
      have HK6 := hid (HK5.out.far (p := ⟨b, 4, none⟩) hb2 (.int .i64 x))
      have HL6 := hid (HL5.out.set_ 4 (.int .i64 x))
      have HY6 := hid (only_in8 (b := b) (i := 4) HY5.out HBL.out (.int .i64 x))
      simp only [List.setIfInBounds_toArray, List.set_cons_zero, List.set_cons_succ] at HL6
      have q0 := HL6.out.cell 0
      have q1 := HL6.out.cell 1
      have q2 := HL6.out.cell 2
      have q3 := HL6.out.cell 3
      have q4 := HL6.out.cell 4
      have q5 := HL6.out.cell 5
      have p0 := HK6.out.cell 0
      have p1 := HK6.out.cell 1
      have p2 := HK6.out.cell 2
      have p3 := HK6.out.cell 3
      have p4 := HK6.out.cell 4
      have p5 := HK6.out.cell 5
      have pf0 := HK6.out.frozen 0
      have pf1 := HK6.out.frozen 1
      have pf2 := HK6.out.frozen 2
      have pf3 := HK6.out.frozen 3
      have pf4 := HK6.out.frozen 4
      have pf5 := HK6.out.frozen 5
      simp only [List.getElem?_toArray, List.getElem?_cons_zero, List.getElem?_cons_succ] at q0 q1 q2 q3 q4 q5 p0 p1 p2 p3 p4 p5
      go_wp2_with fail
      have X1 := (((((HK6.out.set_ 0 (.int .i64 n0)).set_ 1 (.int .i64 2)).set_ 2 (.slice none 0 0)).set_ 3 (.string ⟨#[]⟩)).set_ 4 (.int .i64 x)).set_ 5 (.int .i64 n2)
      have r0 := X1.cell 0
      have r1 := X1.cell 1
      have r2 := X1.cell 2
      have r3 := X1.cell 3
      have r4 := X1.cell 4
      have r5 := X1.cell 5
      simp only [List.setIfInBounds_toArray, List.set_cons_zero, List.set_cons_succ, List.getElem?_toArray, List.getElem?_cons_zero, List.getElem?_cons_succ] at r0 r1 r2 r3 r4 r5
      refine bodyPost_ret (v := .agg #[.int .i64 n0, .int .i64 2, .slice none 0 0, .string ⟨#[]⟩, .int .i64 x, .int .i64 n2]) (by simp [results, Try.results101, go_sem, r0, r1, r2, r3, r4, r5]) rfl ?_
      have HYF := (((((only_in8 (b := w.heap.size) (i := 0) HY6.out (Nat.le_refl _) (.int .i64 n0)) |> fun z => only_in8 (b := w.heap.size) (i := 1) z (Nat.le_refl _) (.int .i64 2)) |> fun z => only_in8 (b := w.heap.size) (i := 2) z (Nat.le_refl _) (.slice none 0 0)) |> fun z => only_in8 (b := w.heap.size) (i := 3) z (Nat.le_refl _) (.string ⟨#[]⟩)) |> fun z => only_in8 (b := w.heap.size) (i := 4) z (Nat.le_refl _) (.int .i64 x)) |> fun z => only_in8 (b := w.heap.size) (i := 5) z (Nat.le_refl _) (.int .i64 n2)
      have HRF := (((((HR6.out.far (p := ⟨w.heap.size, 0, none⟩) ng2.symm (.int .i64 n0)).far (p := ⟨w.heap.size, 1, none⟩) ng2.symm (.int .i64 2)).far (p := ⟨w.heap.size, 2, none⟩) ng2.symm (.slice none 0 0)).far (p := ⟨w.heap.size, 3, none⟩) ng2.symm (.string ⟨#[]⟩)).far (p := ⟨w.heap.size, 4, none⟩) ng2.symm (.int .i64 x)).far (p := ⟨w.heap.size, 5, none⟩) ng2.symm (.int .i64 n2)
      refine got_some HYF HQ.out ⟨none, 0, rfl, World.ownsRow_nil _ _ _ _⟩ HRF
  have m2 : (n1 == 2) = false := by simpa using k2
  have HQ : Hid (ob8 s = some (⟨n0, n1, [], ⟨#[]⟩, 0, n2⟩, s3)) := by show _ = _; rw [E3.out]; unfold ot8; rw [if_neg k0, if_neg k1, if_neg k2]
  clear k0 k1 k2
  have q0 := HL4.out.cell 0
  have q1 := HL4.out.cell 1
  have q2 := HL4.out.cell 2
  have q3 := HL4.out.cell 3
  have q4 := HL4.out.cell 4
  have q5 := HL4.out.cell 5
  have p0 := HK4.out.cell 0
  have p1 := HK4.out.cell 1
  have p2 := HK4.out.cell 2
  have p3 := HK4.out.cell 3
  have p4 := HK4.out.cell 4
  have p5 := HK4.out.cell 5
  have pf0 := HK4.out.frozen 0
  have pf1 := HK4.out.frozen 1
  have pf2 := HK4.out.frozen 2
  have pf3 := HK4.out.frozen 3
  have pf4 := HK4.out.frozen 4
  have pf5 := HK4.out.frozen 5
  simp only [List.getElem?_toArray, List.getElem?_cons_zero, List.getElem?_cons_succ] at q0 q1 q2 q3 q4 q5 p0 p1 p2 p3 p4 p5
  go_wp2_with fail
  have X1 := (((((HK4.out.set_ 0 (.int .i64 n0)).set_ 1 (.int .i64 n1)).set_ 2 (.slice none 0 0)).set_ 3 (.string ⟨#[]⟩)).set_ 4 (.int .i64 0)).set_ 5 (.int .i64 n2)
  have r0 := X1.cell 0
  have r1 := X1.cell 1
  have r2 := X1.cell 2
  have r3 := X1.cell 3
  have r4 := X1.cell 4
  have r5 := X1.cell 5
  simp only [List.setIfInBounds_toArray, List.set_cons_zero, List.set_cons_succ, List.getElem?_toArray, List.getElem?_cons_zero, List.getElem?_cons_succ] at r0 r1 r2 r3 r4 r5
  refine bodyPost_ret (v := .agg #[.int .i64 n0, .int .i64 n1, .slice none 0 0, .string ⟨#[]⟩, .int .i64 0, .int .i64 n2]) (by simp [results, Try.results101, go_sem, r0, r1, r2, r3, r4, r5]) rfl ?_
  have HYF := (((((only_in8 (b := w.heap.size) (i := 0) HY4.out (Nat.le_refl _) (.int .i64 n0)) |> fun z => only_in8 (b := w.heap.size) (i := 1) z (Nat.le_refl _) (.int .i64 n1)) |> fun z => only_in8 (b := w.heap.size) (i := 2) z (Nat.le_refl _) (.slice none 0 0)) |> fun z => only_in8 (b := w.heap.size) (i := 3) z (Nat.le_refl _) (.string ⟨#[]⟩)) |> fun z => only_in8 (b := w.heap.size) (i := 4) z (Nat.le_refl _) (.int .i64 0)) |> fun z => only_in8 (b := w.heap.size) (i := 5) z (Nat.le_refl _) (.int .i64 n2)
  have HRF := (((((HR4.out.far (p := ⟨w.heap.size, 0, none⟩) ng2.symm (.int .i64 n0)).far (p := ⟨w.heap.size, 1, none⟩) ng2.symm (.int .i64 n1)).far (p := ⟨w.heap.size, 2, none⟩) ng2.symm (.slice none 0 0)).far (p := ⟨w.heap.size, 3, none⟩) ng2.symm (.string ⟨#[]⟩)).far (p := ⟨w.heap.size, 4, none⟩) ng2.symm (.int .i64 0)).far (p := ⟨w.heap.size, 5, none⟩) ng2.symm (.int .i64 n2)
  refine got_some HYF HQ.out ⟨none, 0, rfl, World.ownsRow_nil _ _ _ _⟩ HRF
end Go.Proofs.Ythggafdfglojaaa
