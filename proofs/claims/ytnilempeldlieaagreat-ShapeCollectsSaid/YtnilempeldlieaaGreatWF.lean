/- Alloc: one object more. -/
import Derived.Test.YtnilempeldlieaaGreatM05
import Derived.Test.YtnilempeldlieaaGreatM17
import Derived.BigRegion
namespace Go.Proofs.YtnilempeldlieaaGreat
open Go.RowKit
def newO (h : Hp) (cl kind size : Int) : Ob := { blankO kind size.toNat with cls := cl, hash := nxI h.last }
def alH (h : Hp) (cl kind size : Int) : Hp := { objs := h.objs ++ [newO h cl kind size], cap := h.cap, last := nxI h.last }
def alR (h : Hp) (cl kind size : Int) : Hp := if roE h cl kind size = 0 then alH h cl kind size else unH h (roE h cl kind size)
def alV (h : Hp) (cl kind size : Int) : Int := if roE h cl kind size = 0 then 2 * (h.objs.length : Int) else 0
def HeapOwn3 (w : World) (h' : Hp) (v en : Int) (e : Ending) (w' : World) : Prop := ∃ A c ls, e = .returned (.tuple #[.agg #[.slice A h'.objs.length c, .int .i64 h'.cap, .int .i64 h'.last], .int .i64 v, .int .i64 en]) ∧ ls.map (·.o) = h'.objs ∧ OwnH w' w.heap.size A c ls ∧ Below w.heap.size w w'
theorem ro_ok {h : Hp} {cl kind size : Int} (e : roE h cl kind size = 0) : mayB h = true ∧ refB h.objs.length cl = true ∧ 0 ≤ kind ∧ kind < 3 ∧ 0 ≤ size ∧ size ≤ mostI kind ∧ (h.objs.length : Int) < h.cap := by
  unfold roE at e
  split at e
  · cases e
  · rename_i h1
    split at e
    · cases e
    · rename_i h2
      split at e
      · cases e
      · rename_i h3
        split at e
        · cases e
        · rename_i h4
          split at e
          · cases e
          · exact ⟨by simpa using h1, by simpa using h2, by omega, by omega, by omega, by omega, by omega⟩
theorem ro_may {h : Hp} {cl kind size : Int} (e : roE h cl kind size ≠ 1) : mayB h = true := by
  cases hm : mayB h
  · exact absurd (by unfold roE; rw [if_pos hm]) e
  · rfl
theorem blank_any (kind : Int) (n : Nat) (h0 : 0 ≤ kind) (h3 : kind < 3) (hn : (n : Int) ≤ mostI kind) (w : World) : Calls Tryz.prog 235 #[.int .i64 kind, .int .i64 n] w (ObjOwn w (blankO kind n)) := by
  rcases (show kind = 0 ∨ kind = 1 ∨ kind = 2 by omega) with rfl | rfl | rfl
  · exact blank_zero n (by have : mostI 0 = 64 := rfl; omega) w
  · exact blank_one n (by have : mostI 1 = 64 := rfl; omega) w
  · have : mostI 2 = 0 := rfl
    obtain rfl : n = 0 := by omega
    exact blank_two w
set_option maxRecDepth 100000 in
set_option maxHeartbeats 1000000 in
theorem alloc_any (h : Hp) (cl kind size : Int) (A : Option Addr) (c : Nat) (w : World) (hs : ObsR w A h.objs) (fit : h.Fit) :
    Calls Tryz.prog 216 #[.agg #[.slice A h.objs.length c, .int .i64 h.cap, .int .i64 h.last], .int .i64 cl, .int .i64 kind, .int .i64 size] w (HeapOwn3 w (alR h cl kind size) (alV h cl kind size) (roE h cl kind size)) := by
  have HB0 := hid (below_alloc2 w (.cells #[Value.slice A h.objs.length c, Value.int .i64 h.cap, Value.int .i64 h.last] 24) (.cells #[.slice none 0 0, .int .i64 0, .int .i64 0] 24))
  have HX := hid ((BoxH.new w h A c).later (below_alloc _ (.cells #[.slice none 0 0, .int .i64 0, .int .i64 0] 24)))
  have K1 : Hid (Lies ((w.alloc (.cells #[Value.slice A h.objs.length c, Value.int .i64 h.cap, Value.int .i64 h.last] 24)).alloc (.cells #[.slice none 0 0, .int .i64 0, .int .i64 0] 24)) (w.heap.size + 1) 24 #[.slice none 0 0, .int .i64 0, .int .i64 0]) := by
    have := Lies.new (w.alloc (.cells #[Value.slice A h.objs.length c, Value.int .i64 h.cap, Value.int .i64 h.last] 24)) 24 #[.slice none 0 0, .int .i64 0, .int .i64 0]
    simpa [Hid] using this
  have HS := hid hs
  have HF := hid fit
  clear hs fit
  have HX0 := HX
  have HK0 := K1
  by_cases e0 : roE h cl kind size = 0
  · obtain ⟨hm, hr, hk0, hk1, hs0, hs1, hcap⟩ := ro_ok e0
    obtain ⟨n, rfl⟩ : ∃ n : Nat, size = n := ⟨size.toNat, by omega⟩
    have ER : Hid (alR h cl kind n = alH h cl kind n) := by show _ = _; unfold alR; rw [if_pos e0]
    have EV : Hid (alV h cl kind n = 2 * (h.objs.length : Int)) := by show _ = _; unfold alV; rw [if_pos e0]
    have E0 := hid e0
    have HM := hid hm
    have hlen := may_len hm
    have hnu : nuB (h.objs.length : Int) = true := nuB_iff.2 (by omega)
    have hre : reV (h.objs.length : Int) = 2 * (h.objs.length : Int) := by unfold reV; rw [if_pos hnu]
    have HH := hid (And.intro hs0 (And.intro hs1 hcap))
    have HNU := hid hnu
    have HRE := hid hre
    clear e0 hm hr hs0 hs1 hcap hnu hre
    go_enter Tryz.func216, Tryz.ntmps216
    go_wp2_with fail
    refine (room_any h cl kind n A c _ (HS.out.below HB0.out) HF.out).mono ?_
    rintro e w1 ⟨rfl, hb⟩
    rw [E0.out]
    have HB1 := hid (HB0.out.trans (hb.mono HB0.out.size))
    have HX1 := hid (HX0.out.later hb)
    have HK1 := hid (HK0.out.later hb)
    clear hb
    obtain ⟨x0, x1, x2⟩ := HX1.out
    have hlt1 : w.heap.size + 1 < w1.heap.size := HK1.out.lt
    go_wp2_with fail
    refine (ref_any _ _).mono ?_
    rintro e w' ⟨rfl, rfl⟩
    rw [HNU.out, HRE.out]
    go_wp2_with fail
    refine (clone_h h A c _ (HS.out.below HB1.out) HM.out).mono ?_
    rintro e w2 ⟨A2, c2, ls, rfl, hls, hown, hb2⟩
    have HB2 := hid (HB1.out.trans (hb2.mono HB1.out.size))
    have HA := hid (below_alloc w2 (.cells #[Value.slice A2 h.objs.length c2, Value.int .i64 h.cap, Value.int .i64 h.last] 24))
    have HX2 := hid ((HX1.out.later hb2).later HA.out)
    have HKw2 := hid (HK1.out.later hb2)
    have HOW := hid hown
    have HLS := hid hls
    have hw2 : w.heap.size + 1 < w2.heap.size := HKw2.out.lt
    have HW12 := hid hb2.size
    clear hb2 hown hls x0 x1 x2 hlt1
    obtain ⟨x0, x1, x2⟩ := HX2.out
    go_wp2_with fail
    trace "x"
    refine (next_any _ _).mono ?_
    rintro e w' ⟨rfl, rfl⟩
    go_wp2_with fail
    have HG := hid (Lies.new w2 24 #[.slice A2 h.objs.length c2, .int .i64 h.cap, .int .i64 (nxI h.last)])
    have hmI : (n : Int) ≤ mostI kind := HH.out.2.1
    refine (blank_any kind n hk0 hk1 hmI _).mono ?_
    rintro e w3 ⟨S3, c3, rfl, hints, hb3⟩
    have HB3 := hid ((HB2.out.trans ((below_alloc w2 (.cells #[.slice A2 h.objs.length c2, .int .i64 h.cap, .int .i64 (nxI h.last)] 24)).mono HB2.out.size)).trans (hb3.mono (by have := HB2.out.size; simp; omega)))
    have HG3 := hid (HG.out.later hb3)
    have HO3 := hid ((HOW.out.later (below_alloc w2 (.cells #[.slice A2 h.objs.length c2, .int .i64 h.cap, .int .i64 (nxI h.last)] 24))).later hb3)
    have HK3 := hid ((HKw2.out.alloc (.cells #[.slice A2 h.objs.length c2, .int .i64 h.cap, .int .i64 (nxI h.last)] 24)).later hb3)
    have HI3 := hid hints
    have hw3 : w2.heap.size < w3.heap.size := HG3.out.lt
    have HGW : Hid (w2.heap.size + 1 ≤ w3.heap.size) := hw3
    obtain ⟨o, hoo⟩ : ∃ o, o = blankO kind n := ⟨_, rfl⟩
    have HOO := hid hoo
    rw [← hoo] at HI3 ⊢
    have g0 := HG3.out.cell 0
    have g1 := HG3.out.cell 1
    have g2 := HG3.out.cell 2
    have gf0 := HG3.out.frozen 0
    simp only [List.getElem?_toArray, List.getElem?_cons_zero, List.getElem?_cons_succ] at g0 g1 g2
    clear hb3 hints hoo x0 x1 x2
    go_wp2_with fail
    go_region
    obtain ⟨j0, hj, hy0, hy1, hy2⟩ := info_parts obj_info
    have hll : ls.length = h.objs.length := by have := congrArg List.length HLS.out; simpa using this
    have hB35 : Below w3.heap.size w3 (((w3.alloc (.cells #[.int .i64 cl, .int .i64 o.kind, .slice S3 o.slots.length c3, .string o.text, .int .i64 o.bits, .int .i64 (nxI h.last)] 41)).alloc (.cells #[.int .i64 cl, .int .i64 o.kind, .slice S3 o.slots.length c3, .string o.text, .int .i64 o.bits, .int .i64 (nxI h.last)] 41)).drew) := (((Below.refl _ _).alloc (Nat.le_refl _) _).alloc (by simp) _).drew
    have HB35 := hid hB35
    have HO5 := hid (HO3.out.later hB35)
    have HI5 := hid (own_later HI3.out hB35)
    have hR5 := HO5.out.row
    rw [hll] at hR5
    have HR5 := hid hR5
    have HN5 : Hid (∀ j u, (LO.mk { o with cls := cl, hash := nxI h.last } S3 c3).cells[j]? = some u → (((w3.alloc (.cells #[.int .i64 cl, .int .i64 o.kind, .slice S3 o.slots.length c3, .string o.text, .int .i64 o.bits, .int .i64 (nxI h.last)] 41)).alloc (.cells #[.int .i64 cl, .int .i64 o.kind, .slice S3 o.slots.length c3, .string o.text, .int .i64 o.bits, .int .i64 (nxI h.last)] 41)).drew).cell? ((⟨w3.heap.size + 1, 0, none⟩ : Addr).add j) = some u) := by
      intro j u hu
      have := (Lies.new (w3.alloc (.cells #[.int .i64 cl, .int .i64 o.kind, .slice S3 o.slots.length c3, .string o.text, .int .i64 o.bits, .int .i64 (nxI h.last)] 41)) 41 #[.int .i64 cl, .int .i64 o.kind, .slice S3 o.slots.length c3, .string o.text, .int .i64 o.bits, .int .i64 (nxI h.last)]).cell j
      rw [show (w3.alloc (.cells #[.int .i64 cl, .int .i64 o.kind, .slice S3 o.slots.length c3, .string o.text, .int .i64 o.bits, .int .i64 (nxI h.last)] 41)).heap.size = w3.heap.size + 1 by simp] at this
      rw [Addr.add_lit, Nat.zero_add]
      refine Eq.trans this ?_
      simpa [LO.cells] using hu
    have HN53 : Hid (∀ u ∈ (LO.mk { o with cls := cl, hash := nxI h.last } S3 c3).cells, u.oneCell' = true) := by
      intro u hu
      simp [LO.cells] at hu
      rcases hu with rfl | rfl | rfl | rfl | rfl | rfl <;> rfl
    have HL6 : Hid ((LO.mk { o with cls := cl, hash := nxI h.last } S3 c3).cells.length = 1 * 6) := rfl
    have HBS : Hid (w1.heap.size ≤ (((w3.alloc (.cells #[.int .i64 cl, .int .i64 o.kind, .slice S3 o.slots.length c3, .string o.text, .int .i64 o.bits, .int .i64 (nxI h.last)] 41)).alloc (.cells #[.int .i64 cl, .int .i64 o.kind, .slice S3 o.slots.length c3, .string o.text, .int .i64 o.bits, .int .i64 (nxI h.last)] 41)).drew).heap.size) := by
      have := HW12.out
      show _ ≤ _
      simp; omega
    have hk256 : (h.objs.length + 1) * 72 ≤ 140737488355328 := by omega
    have HGB := hid (HG3.out.later hB35)
    have HK5 := hid (HK3.out.later hB35)
    have HB5 := hid (HB3.out.trans (hB35.mono HB3.out.size))
    clear hB35 hR5 hll
    go_wp2_with (at_builtin; refine wpList_append_own _ rfl (.tmp 49) (.tmp 51) 22 rfl w1.heap.size 41 j0 (.agg #[.int .i64 0, .int .i64 0, .slice none 0 0, .string ⟨#[]⟩, .int .i64 0, .int .i64 0]) 6 72 Tryz.underlying22 hj hy0 hy1 hy2 rfl (by decide) _ _ _ rfl HR5.out ⟨w3.heap.size + 1, 0, none⟩ 1 1 (LO.mk { o with cls := cl, hash := nxI h.last } S3 c3).cells rfl HL6.out HN5.out HN53.out (by unfold maxLen; omega) hk256 HBS.out ?_)
    intro v4 w4 hown4 hgrow4 _
    obtain ⟨A4, c4, rfl⟩ := own_form hown4
    have hll : ls.length = h.objs.length := by have := congrArg List.length HLS.out; simpa using this
    have hG4 := HGB.out.grown hgrow4 (fun e => own_blk_ne HR5.out HGB.out (by decide) e.symm)
    have hK4 := HK5.out.grown hgrow4 (fun e => own_blk_ne HR5.out HK5.out (by decide) e.symm)
    have hP4 : OwnH w4 w1.heap.size A4 c4 (ls ++ [⟨{ o with cls := cl, hash := nxI h.last }, S3, c3⟩]) :=
      HO5.out.push (b := w2.heap.size + 1) (A2 := A4) (c2 := c4) (by simpa using HI5.out) (by have := HW12.out; omega) (fun i li a hi' ha => by have := HOW.out.blk_lt hi' ha; omega) (by rw [hll]; exact hown4) (by rw [hll]; exact hgrow4)
    have hB4 : Below w.heap.size w w4 := HB5.out.grown hgrow4 HB5.out.size (fun g hg => by have := (HR5.out.lt g hg).1; have := HB1.out.size; omega)
    have HP4 := hid (hP4.off hG4 0 (.slice A4 (h.objs.length + 1) c4))
    have HG4 := hid (hG4.set_ 0 (.slice A4 (h.objs.length + 1) c4))
    have HK4 := hid (hK4.far (p := ⟨w2.heap.size, 0, none⟩) (by show w.heap.size + 1 ≠ w2.heap.size; omega) (.slice A4 (h.objs.length + 1) c4))
    have HB4 := hid (hB4.setCell (p := ⟨w2.heap.size, 0, none⟩) (by show w.heap.size ≤ w2.heap.size; omega) (.slice A4 (h.objs.length + 1) c4))
    have p0 := hG4.cell 0
    have p1 := hG4.cell 1
    have p2 := hG4.cell 2
    have pf0 := hG4.frozen 0
    have s0 := hK4.cell 0
    have s1 := hK4.cell 1
    have s2 := hK4.cell 2
    have sf0 := hK4.frozen 0
    have sf1 := hK4.frozen 1
    have sf2 := hK4.frozen 2
    simp only [List.getElem?_toArray, List.getElem?_cons_zero, List.getElem?_cons_succ] at p0 p1 p2 s0 s1 s2
    have hne : w2.heap.size ≠ w.heap.size + 1 := by omega
    clear hown4 hgrow4 hG4 hK4 hP4 hB4 g0 g1 g2 gf0 hy0 hj
    go_wp2_with fail
    have K0 := (((HK4.out.set_ 0 (.slice A4 (h.objs.length + 1) c4)).set_ 1 (.int .i64 h.cap)).set_ 2 (.int .i64 (nxI h.last)))
    have r0 := K0.cell 0
    have r1 := K0.cell 1
    have r2 := K0.cell 2
    simp only [List.setIfInBounds_toArray, List.set_cons_zero, List.set_cons_succ, List.getElem?_toArray, List.getElem?_cons_zero, List.getElem?_cons_succ] at r0 r1 r2
    refine bodyPost_ret (v := .tuple #[.agg #[.slice A4 (h.objs.length + 1) c4, .int .i64 h.cap, .int .i64 (nxI h.last)], .int .i64 (2 * (h.objs.length : Int)), .int .i64 0]) (by simp [results, Tryz.results216, go_sem, r0, r1, r2]) rfl ?_
    rw [ER.out, EV.out, E0.out]
    have hbw1 : w.heap.size + 1 < w1.heap.size := HK1.out.lt
    refine ⟨A4, c4, ls ++ [⟨{ o with cls := cl, hash := nxI h.last }, S3, c3⟩], by simp [alH], ?_, ((((HP4.out).low (p := ⟨w.heap.size + 1, 0, none⟩) (by simp; omega) _).low (p := ⟨w.heap.size + 1, 1, none⟩) (by simp; omega) _).low (p := ⟨w.heap.size + 1, 2, none⟩) (by simp; omega) _).lower (by have := HB1.out.size; omega), (((HB4.out).setCell (p := ⟨w.heap.size + 1, 0, none⟩) (by simp) _).setCell (p := ⟨w.heap.size + 1, 1, none⟩) (by simp) _).setCell (p := ⟨w.heap.size + 1, 2, none⟩) (by simp) _⟩
    rw [List.map_append, HLS.out]
    simp [alH, newO, HOO.out]
  · have ER : Hid (alR h cl kind size = unH h (roE h cl kind size)) := by show _ = _; unfold alR; rw [if_neg e0]
    have EV : Hid (alV h cl kind size = 0) := by show _ = _; unfold alV; rw [if_neg e0]
    have e1 : (roE h cl kind size != 0) = true := by simpa using e0
    clear e0
    go_enter Tryz.func216, Tryz.ntmps216
    go_wp2_with fail
    refine (room_any h cl kind size A c _ (HS.out.below HB0.out) HF.out).mono ?_
    rintro e w1 ⟨rfl, hb⟩
    have HB1 := hid (HB0.out.trans (hb.mono HB0.out.size))
    have HX1 := hid (HX0.out.later hb)
    have HK1 := hid (HK0.out.later hb)
    clear hb
    obtain ⟨x0, x1, x2⟩ := HX1.out
    go_wp2_with fail
    refine (unchanged_any h (roE h cl kind size) A c _ (HS.out.below HB1.out) ro_may).mono ?_
    rintro e wu ⟨Au, cu, lu, rfl, hlu, hou, hbu⟩
    have HKu := hid (HK1.out.later hbu)
    have HBu := hid (HB1.out.trans (hbu.mono HB1.out.size))
    have HOu := hid hou
    have HLu := hid hlu
    have hltu := HK1.out.lt
    obtain ⟨u0, u1, u2⟩ := HKu.out.c3
    obtain ⟨uf0, uf1, uf2⟩ := HKu.out.f3
    clear hou hbu hlu
    go_wp2_with fail
    have K0 := (((HKu.out.set_ 0 (.slice Au (unH h (roE h cl kind size)).objs.length cu)).set_ 1 (.int .i64 (unH h (roE h cl kind size)).cap)).set_ 2 (.int .i64 (unH h (roE h cl kind size)).last))
    have r0 := K0.cell 0
    have r1 := K0.cell 1
    have r2 := K0.cell 2
    simp only [List.setIfInBounds_toArray, List.set_cons_zero, List.set_cons_succ, List.getElem?_toArray, List.getElem?_cons_zero, List.getElem?_cons_succ] at r0 r1 r2
    refine bodyPost_ret (v := .tuple #[.agg #[.slice Au (unH h (roE h cl kind size)).objs.length cu, .int .i64 (unH h (roE h cl kind size)).cap, .int .i64 (unH h (roE h cl kind size)).last], .int .i64 0, .int .i64 (roE h cl kind size)]) (by simp [results, Tryz.results216, go_sem, r0, r1, r2]) rfl ?_
    rw [ER.out, EV.out]
    refine ⟨Au, cu, lu, rfl, HLu.out, ((((HOu.out).low (p := ⟨w.heap.size + 1, 0, none⟩) (by simp; omega) _).low (p := ⟨w.heap.size + 1, 1, none⟩) (by simp; omega) _).low (p := ⟨w.heap.size + 1, 2, none⟩) (by simp; omega) _).lower HB1.out.size, (((HBu.out).setCell (p := ⟨w.heap.size + 1, 0, none⟩) (by simp) _).setCell (p := ⟨w.heap.size + 1, 1, none⟩) (by simp) _).setCell (p := ⟨w.heap.size + 1, 2, none⟩) (by simp) _⟩
end Go.Proofs.YtnilempeldlieaaGreat
