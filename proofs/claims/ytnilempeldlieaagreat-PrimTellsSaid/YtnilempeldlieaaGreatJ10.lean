/- Alloc: one object more. Numbered primitives, in plain mathematics: what each comes to, of a heap, a receiver and arguments. Three stores into a box. The document on primitives: fail, integer, truth. Appending one number to a list of the call's own. What is told of a heap: without an error it is of the call's own. -/
import Derived.Test.YtnilempeldlieaaGreatJ06
import Derived.Test.YtnilempeldlieaaGreatJ09
import Derived.BigRegion
import Derived.Test.YtnilempeldlieaaGreatJFLU
import Derived.Test.YtnilempeldlieaaGreatJ08
import Derived.Test.YtnilempeldlieaaGreatJ01
import Derived.Test.YtnilempeldlieaaGreatJ04
namespace Go.Proofs.YtnilempeldlieaaGreat
open Go.RowKit
def newO (h : Hp) (cl kind size : Int) : Ob := { blankO kind size.toNat with cls := cl, hash := nxI h.last }
def alH (h : Hp) (cl kind size : Int) : Hp := { objs := h.objs ++ [newO h cl kind size], cap := h.cap, last := nxI h.last }
def alR (h : Hp) (cl kind size : Int) : Hp := if roE h cl kind size = 0 then alH h cl kind size else unH h (roE h cl kind size)
def alV (h : Hp) (cl kind size : Int) : Int := if roE h cl kind size = 0 then 2 * (h.objs.length : Int) else 0
def HeapOwn3 (w : World) (h' : Hp) (v en : Int) (e : Ending) (w' : World) : Prop := ∃ A c ls, e = .returned (.tuple #[.agg #[.slice A h'.objs.length c, .int .i64 h'.cap, .int .i64 h'.last], .int .i64 v, .int .i64 en]) ∧ ls.map (·.o) = h'.objs ∧ OwnH w' w.heap.size A c ls ∧ Below w.heap.size w w'
theorem ro_ok {h : Hp} {cl kind size : Int} (e : roE h cl kind size = 0) : mayB h = true ∧ refB h.objs.length cl = true ∧ 0 ≤ kind ∧ kind < 3 ∧ 0 ≤ size ∧ size ≤ mostI kind ∧ (h.objs.length : Int) < h.cap := by
  unfold roE at e
  split at e
  next =>
   cases e
  next =>
   rename_i h1
   split at e
   next =>
    cases e
   next =>
    rename_i h2
    split at e
    next =>
     cases e
    next =>
     rename_i h3
     split at e
     next =>
      cases e
     next =>
      rename_i h4
      split at e
      next =>
       cases e
      next =>
       exact ⟨by simpa using h1, by simpa using h2, by omega, by omega, by omega, by omega, by omega⟩
theorem ro_may {h : Hp} {cl kind size : Int} (e : roE h cl kind size ≠ 1) : mayB h = true := by
  cases hm : mayB h
  next =>
   exact absurd (by unfold roE; rw [if_pos hm]) e
  next =>
   rfl
theorem blank_any (kind : Int) (n : Nat) (h0 : 0 ≤ kind) (h3 : kind < 3) (hn : (n : Int) ≤ mostI kind) (w : World) : Calls Tryz.prog 235 #[.int .i64 kind, .int .i64 n] w (ObjOwn w (blankO kind n)) := by
  rcases (show kind = 0 ∨ kind = 1 ∨ kind = 2 by omega) with rfl | rfl | rfl
  next =>
   exact blank_zero n (by have : mostI 0 = 64 := rfl; omega) w
  next =>
   exact blank_one n (by have : mostI 1 = 64 := rfl; omega) w
  next =>
   have : mostI 2 = 0 := rfl
   obtain rfl : n = 0 := by omega
   exact blank_two w
set_option maxRecDepth 100000 in
set_option maxHeartbeats 1000000 in
theorem alloc_any (h : Hp) (cl kind size : Int) (A : Option Addr) (c : Nat) (w : World) (hs : ObsR w A h.objs) (fit : h.Fit) :
    Calls Tryz.prog 216 #[.agg #[.slice A h.objs.length c, .int .i64 h.cap, .int .i64 h.last], .int .i64 cl, .int .i64 kind, .int .i64 size] w (HeapOwn3 w (alR h cl kind size) (alV h cl kind size) (roE h cl kind size)) := by
  have HB0 := hid (below_alloc2 w (.cells #[Value.slice A h.objs.length c, Value.int .i64 h.cap, Value.int .i64 h.last] 24) (.cells #[.slice none 0 0, .int .i64 0, .int .i64 0] 24))
  have HX := hid ((BoxH.new w h A c).later (below_alloc _ (.cells #[.slice none 0 0, .int .i64 0, .int .i64 0] 24)))
  have K1 : Hid (Lies ((w.alloc (.cells #[Value.slice A h.objs.length c, Value.int .i64 h.cap, Value.int .i64 h.last] 24)).alloc (.cells #[.slice none 0 0, .int .i64 0, .int .i64 0] 24)) (w.heap.size + 1) 24 #[.slice none 0 0, .int .i64 0, .int .i64 0]) := by
    have := Lies.new (w.alloc (.cells #[Value.slice A h.objs.length c, Value.int .i64 h.cap, Value.int .i64 h.last] 24)) 24 #[.slice none 0 0, .int .i64 0, .int .i64 0]
    simpa [Hid] using this
  have HS := hid hs
  have HF := hid fit
  clear hs fit
  have HX0 := HX
  have HK0 := K1
  by_cases e0 : roE h cl kind size = 0
  next =>
   obtain ⟨hm, hr, hk0, hk1, hs0, hs1, hcap⟩ := ro_ok e0
   obtain ⟨n, rfl⟩ : ∃ n : Nat, size = n := ⟨size.toNat, by omega⟩
   have ER : Hid (alR h cl kind n = alH h cl kind n) := by show _ = _; unfold alR; rw [if_pos e0]
   have EV : Hid (alV h cl kind n = 2 * (h.objs.length : Int)) := by show _ = _; unfold alV; rw [if_pos e0]
   have E0 := hid e0
   have HM := hid hm
   have hlen := may_len hm
   have hnu : nuB (h.objs.length : Int) = true := nuB_iff.2 (by omega)
   have hre : reV (h.objs.length : Int) = 2 * (h.objs.length : Int) := by unfold reV; rw [if_pos hnu]
   have HH := hid (And.intro hs0 (And.intro hs1 hcap))
   have HNU := hid hnu
   have HRE := hid hre
   clear e0 hm hr hs0 hs1 hcap hnu hre
   go_enter Tryz.func216, Tryz.ntmps216
   go_wp2_with fail
   refine (room_any h cl kind n A c _ (HS.out.below HB0.out) HF.out).mono ?_
   rintro e w1 ⟨rfl, hb⟩
   rw [E0.out]
   have HB1 := hid (HB0.out.trans (hb.mono HB0.out.size))
   have HX1 := hid (HX0.out.later hb)
   have HK1 := hid (HK0.out.later hb)
   clear hb
   obtain ⟨x0, x1, x2⟩ := HX1.out
   have hlt1 : w.heap.size + 1 < w1.heap.size := HK1.out.lt
   go_wp2_with fail
   refine (ref_any _ _).mono ?_
   rintro e w' ⟨rfl, rfl⟩
   rw [HNU.out, HRE.out]
   go_wp2_with fail
   refine (clone_h h A c _ (HS.out.below HB1.out) HM.out).mono ?_
   rintro e w2 ⟨A2, c2, ls, rfl, hls, hown, hb2⟩
   have HB2 := hid (HB1.out.trans (hb2.mono HB1.out.size))
   have HA := hid (below_alloc w2 (.cells #[Value.slice A2 h.objs.length c2, Value.int .i64 h.cap, Value.int .i64 h.last] 24))
   have HX2 := hid ((HX1.out.later hb2).later HA.out)
   have HKw2 := hid (HK1.out.later hb2)
   have HOW := hid hown
   have HLS := hid hls
   have hw2 : w.heap.size + 1 < w2.heap.size := HKw2.out.lt
   have HW12 := hid hb2.size
   clear hb2 hown hls x0 x1 x2 hlt1
   obtain ⟨x0, x1, x2⟩ := HX2.out
   go_wp2_with fail
   trace "x"
   refine (next_any _ _).mono ?_
   rintro e w' ⟨rfl, rfl⟩
   go_wp2_with fail
   have HG := hid (Lies.new w2 24 #[.slice A2 h.objs.length c2, .int .i64 h.cap, .int .i64 (nxI h.last)])
   have hmI : (n : Int) ≤ mostI kind := HH.out.2.1
   refine (blank_any kind n hk0 hk1 hmI _).mono ?_
   rintro e w3 ⟨S3, c3, rfl, hints, hb3⟩
   have HB3 := hid ((HB2.out.trans ((below_alloc w2 (.cells #[.slice A2 h.objs.length c2, .int .i64 h.cap, .int .i64 (nxI h.last)] 24)).mono HB2.out.size)).trans (hb3.mono (by have := HB2.out.size; simp; omega)))
   have HG3 := hid (HG.out.later hb3)
   have HO3 := hid ((HOW.out.later (below_alloc w2 (.cells #[.slice A2 h.objs.length c2, .int .i64 h.cap, .int .i64 (nxI h.last)] 24))).later hb3)
   have HK3 := hid ((HKw2.out.alloc (.cells #[.slice A2 h.objs.length c2, .int .i64 h.cap, .int .i64 (nxI h.last)] 24)).later hb3)
   have HI3 := hid hints
   have hw3 : w2.heap.size < w3.heap.size := HG3.out.lt
   have HGW : Hid (w2.heap.size + 1 ≤ w3.heap.size) := hw3
   obtain ⟨o, hoo⟩ : ∃ o, o = blankO kind n := ⟨_, rfl⟩
   have HOO := hid hoo
   rw [← hoo] at HI3 ⊢
   have g0 := HG3.out.cell 0
   have g1 := HG3.out.cell 1
   have g2 := HG3.out.cell 2
   have gf0 := HG3.out.frozen 0
   simp only [List.getElem?_toArray, List.getElem?_cons_zero, List.getElem?_cons_succ] at g0 g1 g2
   clear hb3 hints hoo x0 x1 x2
   go_wp2_with fail
   go_region
   obtain ⟨j0, hj, hy0, hy1, hy2⟩ := info_parts obj_info
   have hll : ls.length = h.objs.length := by have := congrArg List.length HLS.out; simpa using this
   have hB35 : Below w3.heap.size w3 (((w3.alloc (.cells #[.int .i64 cl, .int .i64 o.kind, .slice S3 o.slots.length c3, .string o.text, .int .i64 o.bits, .int .i64 (nxI h.last)] 41)).alloc (.cells #[.int .i64 cl, .int .i64 o.kind, .slice S3 o.slots.length c3, .string o.text, .int .i64 o.bits, .int .i64 (nxI h.last)] 41)).drew) := (((Below.refl _ _).alloc (Nat.le_refl _) _).alloc (by simp) _).drew
   have HB35 := hid hB35
   have HO5 := hid (HO3.out.later hB35)
   have HI5 := hid (own_later HI3.out hB35)
   have hR5 := HO5.out.row
   rw [hll] at hR5
   have HR5 := hid hR5
   have HN5 : Hid (∀ j u, (LO.mk { o with cls := cl, hash := nxI h.last } S3 c3).cells[j]? = some u → (((w3.alloc (.cells #[.int .i64 cl, .int .i64 o.kind, .slice S3 o.slots.length c3, .string o.text, .int .i64 o.bits, .int .i64 (nxI h.last)] 41)).alloc (.cells #[.int .i64 cl, .int .i64 o.kind, .slice S3 o.slots.length c3, .string o.text, .int .i64 o.bits, .int .i64 (nxI h.last)] 41)).drew).cell? ((⟨w3.heap.size + 1, 0, none⟩ : Addr).add j) = some u) := by
     intro j u hu
     have := (Lies.new (w3.alloc (.cells #[.int .i64 cl, .int .i64 o.kind, .slice S3 o.slots.length c3, .string o.text, .int .i64 o.bits, .int .i64 (nxI h.last)] 41)) 41 #[.int .i64 cl, .int .i64 o.kind, .slice S3 o.slots.length c3, .string o.text, .int .i64 o.bits, .int .i64 (nxI h.last)]).cell j
     rw [show (w3.alloc (.cells #[.int .i64 cl, .int .i64 o.kind, .slice S3 o.slots.length c3, .string o.text, .int .i64 o.bits, .int .i64 (nxI h.last)] 41)).heap.size = w3.heap.size + 1 by simp] at this
     rw [Addr.add_lit, Nat.zero_add]
     refine Eq.trans this ?_
     simpa [LO.cells] using hu
   have HN53 : Hid (∀ u ∈ (LO.mk { o with cls := cl, hash := nxI h.last } S3 c3).cells, u.oneCell' = true) := by
     intro u hu
     simp [LO.cells] at hu
     rcases hu with rfl | rfl | rfl | rfl | rfl | rfl <;> rfl
   have HL6 : Hid ((LO.mk { o with cls := cl, hash := nxI h.last } S3 c3).cells.length = 1 * 6) := rfl
   have HBS : Hid (w1.heap.size ≤ (((w3.alloc (.cells #[.int .i64 cl, .int .i64 o.kind, .slice S3 o.slots.length c3, .string o.text, .int .i64 o.bits, .int .i64 (nxI h.last)] 41)).alloc (.cells #[.int .i64 cl, .int .i64 o.kind, .slice S3 o.slots.length c3, .string o.text, .int .i64 o.bits, .int .i64 (nxI h.last)] 41)).drew).heap.size) := by
     have := HW12.out
     show _ ≤ _
     simp; omega
   have hk256 : (h.objs.length + 1) * 72 ≤ 140737488355328 := by omega
   have HGB := hid (HG3.out.later hB35)
   have HK5 := hid (HK3.out.later hB35)
   have HB5 := hid (HB3.out.trans (hB35.mono HB3.out.size))
   clear hB35 hR5 hll
   go_wp2_with (at_builtin; refine wpList_append_own _ rfl (.tmp 49) (.tmp 51) 22 rfl w1.heap.size 41 j0 (.agg #[.int .i64 0, .int .i64 0, .slice none 0 0, .string ⟨#[]⟩, .int .i64 0, .int .i64 0]) 6 72 Tryz.underlying22 hj hy0 hy1 hy2 rfl (by decide) _ _ _ rfl HR5.out ⟨w3.heap.size + 1, 0, none⟩ 1 1 (LO.mk { o with cls := cl, hash := nxI h.last } S3 c3).cells rfl HL6.out HN5.out HN53.out (by unfold maxLen; omega) hk256 HBS.out ?_)
   intro v4 w4 hown4 hgrow4 _
   obtain ⟨A4, c4, rfl⟩ := own_form hown4
   have hll : ls.length = h.objs.length := by have := congrArg List.length HLS.out; simpa using this
   have hG4 := HGB.out.grown hgrow4 (fun e => own_blk_ne HR5.out HGB.out (by decide) e.symm)
   have hK4 := HK5.out.grown hgrow4 (fun e => own_blk_ne HR5.out HK5.out (by decide) e.symm)
   have hP4 : OwnH w4 w1.heap.size A4 c4 (ls ++ [⟨{ o with cls := cl, hash := nxI h.last }, S3, c3⟩]) :=
     HO5.out.push (b := w2.heap.size + 1) (A2 := A4) (c2 := c4) (by simpa using HI5.out) (by have := HW12.out; omega) (fun i li a hi' ha => by have := HOW.out.blk_lt hi' ha; omega) (by rw [hll]; exact hown4) (by rw [hll]; exact hgrow4)
   have hB4 : Below w.heap.size w w4 := HB5.out.grown hgrow4 HB5.out.size (fun g hg => by have := (HR5.out.lt g hg).1; have := HB1.out.size; omega)
   have HP4 := hid (hP4.off hG4 0 (.slice A4 (h.objs.length + 1) c4))
   have HG4 := hid (hG4.set_ 0 (.slice A4 (h.objs.length + 1) c4))
   have HK4 := hid (hK4.far (p := ⟨w2.heap.size, 0, none⟩) (by show w.heap.size + 1 ≠ w2.heap.size; omega) (.slice A4 (h.objs.length + 1) c4))
   have HB4 := hid (hB4.setCell (p := ⟨w2.heap.size, 0, none⟩) (by show w.heap.size ≤ w2.heap.size; omega) (.slice A4 (h.objs.length + 1) c4))
   have p0 := hG4.cell 0
   have p1 := hG4.cell 1
   have p2 := hG4.cell 2
   have pf0 := hG4.frozen 0
   have s0 := hK4.cell 0
   have s1 := hK4.cell 1
   have s2 := hK4.cell 2
   have sf0 := hK4.frozen 0
   have sf1 := hK4.frozen 1
   have sf2 := hK4.frozen 2
   simp only [List.getElem?_toArray, List.getElem?_cons_zero, List.getElem?_cons_succ] at p0 p1 p2 s0 s1 s2
   have hne : w2.heap.size ≠ w.heap.size + 1 := by omega
   clear hown4 hgrow4 hG4 hK4 hP4 hB4 g0 g1 g2 gf0 hy0 hj
   go_wp2_with fail
   have K0 := (((HK4.out.set_ 0 (.slice A4 (h.objs.length + 1) c4)).set_ 1 (.int .i64 h.cap)).set_ 2 (.int .i64 (nxI h.last)))
   have r0 := K0.cell 0
   have r1 := K0.cell 1
   have r2 := K0.cell 2
   simp only [List.setIfInBounds_toArray, List.set_cons_zero, List.set_cons_succ, List.getElem?_toArray, List.getElem?_cons_zero, List.getElem?_cons_succ] at r0 r1 r2
   refine bodyPost_ret (v := .tuple #[.agg #[.slice A4 (h.objs.length + 1) c4, .int .i64 h.cap, .int .i64 (nxI h.last)], .int .i64 (2 * (h.objs.length : Int)), .int .i64 0]) (by simp [results, Tryz.results216, go_sem, r0, r1, r2]) rfl ?_
   rw [ER.out, EV.out, E0.out]
   have hbw1 : w.heap.size + 1 < w1.heap.size := HK1.out.lt
   refine ⟨A4, c4, ls ++ [⟨{ o with cls := cl, hash := nxI h.last }, S3, c3⟩], by simp [alH], ?_, ((((HP4.out).low (p := ⟨w.heap.size + 1, 0, none⟩) (by simp; omega) _).low (p := ⟨w.heap.size + 1, 1, none⟩) (by simp; omega) _).low (p := ⟨w.heap.size + 1, 2, none⟩) (by simp; omega) _).lower (by have := HB1.out.size; omega), (((HB4.out).setCell (p := ⟨w.heap.size + 1, 0, none⟩) (by simp) _).setCell (p := ⟨w.heap.size + 1, 1, none⟩) (by simp) _).setCell (p := ⟨w.heap.size + 1, 2, none⟩) (by simp) _⟩
   rw [List.map_append, HLS.out]
   simp [alH, newO, HOO.out]
  next =>
   have ER : Hid (alR h cl kind size = unH h (roE h cl kind size)) := by show _ = _; unfold alR; rw [if_neg e0]
   have EV : Hid (alV h cl kind size = 0) := by show _ = _; unfold alV; rw [if_neg e0]
   have e1 : (roE h cl kind size != 0) = true := by simpa using e0
   clear e0
   go_enter Tryz.func216, Tryz.ntmps216
   go_wp2_with fail
   refine (room_any h cl kind size A c _ (HS.out.below HB0.out) HF.out).mono ?_
   rintro e w1 ⟨rfl, hb⟩
   have HB1 := hid (HB0.out.trans (hb.mono HB0.out.size))
   have HX1 := hid (HX0.out.later hb)
   have HK1 := hid (HK0.out.later hb)
   clear hb
   obtain ⟨x0, x1, x2⟩ := HX1.out
   go_wp2_with fail
   refine (unchanged_any h (roE h cl kind size) A c _ (HS.out.below HB1.out) ro_may).mono ?_
   rintro e wu ⟨Au, cu, lu, rfl, hlu, hou, hbu⟩
   have HKu := hid (HK1.out.later hbu)
   have HBu := hid (HB1.out.trans (hbu.mono HB1.out.size))
   have HOu := hid hou
   have HLu := hid hlu
   have hltu := HK1.out.lt
   obtain ⟨u0, u1, u2⟩ := HKu.out.c3
   obtain ⟨uf0, uf1, uf2⟩ := HKu.out.f3
   clear hou hbu hlu
   go_wp2_with fail
   have K0 := (((HKu.out.set_ 0 (.slice Au (unH h (roE h cl kind size)).objs.length cu)).set_ 1 (.int .i64 (unH h (roE h cl kind size)).cap)).set_ 2 (.int .i64 (unH h (roE h cl kind size)).last))
   have r0 := K0.cell 0
   have r1 := K0.cell 1
   have r2 := K0.cell 2
   simp only [List.setIfInBounds_toArray, List.set_cons_zero, List.set_cons_succ, List.getElem?_toArray, List.getElem?_cons_zero, List.getElem?_cons_succ] at r0 r1 r2
   refine bodyPost_ret (v := .tuple #[.agg #[.slice Au (unH h (roE h cl kind size)).objs.length cu, .int .i64 (unH h (roE h cl kind size)).cap, .int .i64 (unH h (roE h cl kind size)).last], .int .i64 0, .int .i64 (roE h cl kind size)]) (by simp [results, Tryz.results216, go_sem, r0, r1, r2]) rfl ?_
   rw [ER.out, EV.out]
   refine ⟨Au, cu, lu, rfl, HLu.out, ((((HOu.out).low (p := ⟨w.heap.size + 1, 0, none⟩) (by simp; omega) _).low (p := ⟨w.heap.size + 1, 1, none⟩) (by simp; omega) _).low (p := ⟨w.heap.size + 1, 2, none⟩) (by simp; omega) _).lower HB1.out.size, (((HBu.out).setCell (p := ⟨w.heap.size + 1, 0, none⟩) (by simp) _).setCell (p := ⟨w.heap.size + 1, 1, none⟩) (by simp) _).setCell (p := ⟨w.heap.size + 1, 2, none⟩) (by simp) _⟩
end Go.Proofs.YtnilempeldlieaaGreat
namespace Go.Proofs.YtnilempeldlieaaGreat
open Go.RowKit Flt
abbrev Rs := Hp × Int × Int
def fa13 (h : Hp) : Rs := (h, 0, 130)
def in13 (h : Hp) (n : Int) : Rs := if smB n then (h, 2 * n + 1, 0) else fa13 h

def tv13 (b : Bool) : Int := if b then 2 else 4
def tr13 (h : Hp) (b : Bool) : Rs := (h, tv13 b, 0)
def wh13 (h : Hp) (num s a : Int) : Rs :=
  if nB s = false ∨ nB a = false then fa13 h
  else if num = 1 then in13 h (nV s + nV a)
  else if num = 2 then in13 h (nV s - nV a)
  else if num = 3 then in13 h (nV s * nV a)
  else if num = 4 then (if nV a = 0 then fa13 h else in13 h ((nV s).fdiv (nV a)))
  else if num = 5 then (if nV a = 0 then fa13 h else in13 h (nV s - nV a * (nV s).fdiv (nV a)))
  else if num = 6 then tr13 h (decide (nV s < nV a))
  else tr13 h (decide (nV s = nV a))
def pa13 (h : Hp) (num s a b : Int) : Rs :=
  if num = 10 then (if refB h.objs.length s = false ∨ (obAt h s).kind = 2 then fa13 h else in13 h ((obAt h s).slots.length + (obAt h s).text.size))
  else if nB a = false then fa13 h
  else if num = 8 then (if plE h s 0 (nV a - 1) ≠ 0 then fa13 h else (h, geV h s (nV a - 1), 0))
  else if num = 9 then (if setE h s (nV a - 1) b ≠ 0 then fa13 h else (setR h s (nV a - 1) b, b, 0))
  else if num = 25 then (if plE h s 1 (nV a - 1) ≠ 0 then fa13 h else in13 h (byV h s (nV a - 1)))
  else if nB b = false ∨ sbE h s (nV a - 1) (nV b) ≠ 0 then fa13 h
  else (sbR h s (nV a - 1) (nV b), b, 0)
def al13 (h : Hp) (cl kind size : Int) : Rs :=
  if roE h cl kind size = 0 then (alR h cl kind size, alV h cl kind size, 0) else if roE h cl kind size = 30 then (h, 0, 30) else fa13 h
def fr13 (h : Hp) (num s a : Int) : Rs :=
  if clB9 h s = false then fa13 h
  else if num = 11 then al13 h s 0 (nV (sl9 h s 2))
  else if nB a = false then fa13 h
  else al13 h s (if num = 27 then 1 else 0) (nV a)
def fl13 (h : Hp) (v : Int) : Option Int := if nB v then some (fOf (nV v)) else if (obAt h v).kind = 2 then some (obAt h v).bits else none
def nfH13 (h : Hp) (bits : Int) : Hp := { objs := h.objs ++ [{ newO h 8 2 0 with bits := bits }], cap := h.cap, last := nxI h.last }
def nf13 (h : Hp) (bits : Int) : Rs :=
  if roE h 8 2 0 = 0 then (nfH13 h bits, 2 * (h.objs.length : Int), 0) else if roE h 8 2 0 = 30 then (h, 0, 30) else fa13 h
def ff13 (h : Hp) (num s a : Int) : Rs :=
  match fl13 h s with
  | none => fa13 h
  | some x =>
    if num = 23 then (if tb x then in13 h (fTr x) else fa13 h)
    else if num = 24 then nf13 h x
    else match fl13 h a with
      | none => fa13 h
      | some y => if num = 21 then tr13 h (fLess x y) else if num = 22 then tr13 h (fEqual x y) else nf13 h (fOp (num - 17) x y)
def id13 (h : Hp) (num s a : Int) : Rs :=
  if num = 13 then (h, (lf9 h s).1, 0)
  else if num = 14 then tr13 h (decide (s = a))
  else if num = 15 then (if nB s then (h, s, 0) else in13 h (obAt h s).hash)
  else if atB s = false ∨ atV s < 12 ∨ atB a = false ∨ atV a < 12 then fa13 h
  else (beR h s a, s, 0)
def ar13 (num : Int) : Option Nat :=
  if num < 1 ∨ 27 < num then none else if num = 9 ∨ num = 26 then some 2 else if num = 10 ∨ num = 11 ∨ num = 13 ∨ num = 15 ∨ num = 23 ∨ num = 24 then some 0 else some 1
def pr13 (h : Hp) (num s a b : Int) : Rs :=
  if num ≤ 7 then wh13 h num s a
  else if num ≤ 10 ∨ num = 25 ∨ num = 26 then pa13 h num s a b
  else if num ≤ 12 ∨ num = 27 then fr13 h num s a
  else if num ≤ 16 then id13 h num s a
  else ff13 h num s a
def do13 (h : Hp) (num s : Int) (args : List Int) : Rs :=
  if mayB h = false ∨ h.objs.length < 12 ∨ hasB h.objs.length s = false ∨ args.all (hasB h.objs.length) = false then (⟨[], 0, 0⟩, 0, 1)
  else if ar13 num ≠ some args.length then fa13 h
  else pr13 h num s (args.getD 0 0) (args.getD 1 0)
end Go.Proofs.YtnilempeldlieaaGreat
namespace Go.Proofs.YtnilempeldlieaaGreat
open Go.RowKit
theorem Lies.s3 {w : World} {g : Nat} {t : TypeId} {a0 b0 c0 : Value} (h : Lies w g t #[a0, b0, c0]) (x y z : Value) :
    (((w.setCell ⟨g, 0, none⟩ x).setCell ⟨g, 1, none⟩ y).setCell ⟨g, 2, none⟩ z).cell? ⟨g, 0, none⟩ = some x ∧ (((w.setCell ⟨g, 0, none⟩ x).setCell ⟨g, 1, none⟩ y).setCell ⟨g, 2, none⟩ z).cell? ⟨g, 1, none⟩ = some y ∧ (((w.setCell ⟨g, 0, none⟩ x).setCell ⟨g, 1, none⟩ y).setCell ⟨g, 2, none⟩ z).cell? ⟨g, 2, none⟩ = some z := by
  have K0 := ((h.set_ 0 x).set_ 1 y).set_ 2 z
  exact ⟨K0.cell 0, K0.cell 1, K0.cell 2⟩
theorem below_s3 {n g : Nat} {w w' : World} (h : Below n w w') (hg : n ≤ g) (x y z : Value) : Below n w (((w'.setCell ⟨g, 0, none⟩ x).setCell ⟨g, 1, none⟩ y).setCell ⟨g, 2, none⟩ z) :=
  ((h.setCell (p := ⟨g, 0, none⟩) hg x).setCell (p := ⟨g, 1, none⟩) hg y).setCell (p := ⟨g, 2, none⟩) hg z
end Go.Proofs.YtnilempeldlieaaGreat
namespace Go.Proofs.YtnilempeldlieaaGreat
open Go.RowKit Flt
set_option maxRecDepth 100000
theorem smB_no {n : Int} : smB n = false ↔ n < -1073741824 ∨ 1073741823 < n := by simp [smB]; omega
def inY13 (n : Int) : Int := if smB n then 2 * n + 1 else 0
theorem rintY_any13 (n : Int) (w : World) : Calls Tryz.prog 117 #[.int .i64 n] w fun e w' => e = .returned (.tuple #[.int .i64 (inY13 n), .bool (smB n)]) ∧ w = w' := by
  have F : smB n = true ∧ inY13 n = 2 * n + 1 ∧ -1073741824 ≤ n ∧ n ≤ 1073741823 ∨ smB n = false ∧ inY13 n = 0 ∧ n < -1073741824 ∨ smB n = false ∧ inY13 n = 0 ∧ -1073741824 ≤ n ∧ 1073741823 < n := by
    cases h : smB n
    · have := smB_no.1 h; simp [inY13, h]; omega
    · have := smB_iff.1 h; simp [inY13, h]; omega
  rcases F with ⟨h, e, b1, b2⟩ | ⟨h, e, b1⟩ | ⟨h, e, b1, b2⟩
  all_goals
    rw [h, e]; clear h e
    go_enter Tryz.func117, Tryz.ntmps117
    go_wp2
    go_ret2; exact ⟨rfl, rfl⟩
def RsH13 (w : World) (h : Hp) (A : Option Addr) (c : Nat) (r : Rs) (e : Ending) (w' : World) : Prop := e = .returned (.tuple #[.agg #[.slice A h.objs.length c, .int .i64 h.cap, .int .i64 h.last], .int .i64 r.2.1, .int .i64 r.2.2]) ∧ Below w.heap.size w w'
theorem rfail_any13 (h : Hp) (A : Option Addr) (c : Nat) (w : World) : Calls Tryz.prog 41 #[.agg #[.slice A h.objs.length c, .int .i64 h.cap, .int .i64 h.last]] w (RsH13 w h A c (fa13 h)) := by
  obtain ⟨w0, hw0⟩ : ∃ u, u = (w.alloc (.cells #[Value.slice A h.objs.length c, Value.int .i64 h.cap, Value.int .i64 h.last] 24)).alloc (.cells #[.slice none 0 0, .int .i64 0, .int .i64 0] 24) := ⟨_, rfl⟩
  obtain ⟨bR, hbR⟩ : ∃ x, x = w.heap.size + 1 := ⟨_, rfl⟩
  have HB0 : Hid (Below w.heap.size w w0) := by show Below _ _ _; rw [hw0]; exact below_alloc2 w _ _
  have HX0 : Hid (Lies w0 w.heap.size 24 #[Value.slice A h.objs.length c, Value.int .i64 h.cap, Value.int .i64 h.last]) := by
    show Lies _ _ _ _
    rw [hw0]; exact (Lies.new _ _ _).alloc _
  have HR0 : Hid (Lies w0 bR 24 #[.slice none 0 0, .int .i64 0, .int .i64 0]) := by
    show Lies _ _ _ _
    have := Lies.new (w.alloc (.cells #[Value.slice A h.objs.length c, Value.int .i64 h.cap, Value.int .i64 h.last] 24)) 24 #[.slice none 0 0, .int .i64 0, .int .i64 0]
    rw [hw0, hbR]; simpa using this
  have HRW : Hid (w.heap.size ≤ bR) := by show _ ≤ _; omega
  go_enter Tryz.func41, Tryz.ntmps41
  go_upto_region 1 with fail
  rw [← hw0, ← hbR]
  clear hw0 hbR
  obtain ⟨x0, x1, x2⟩ := HX0.out.c3
  obtain ⟨k0, k1, k2⟩ := HR0.out.c3
  obtain ⟨f0, f1, f2⟩ := HR0.out.f3
  go_wp2_with fail
  have HK := HR0.out.s3 (.slice A h.objs.length c) (.int .i64 h.cap) (.int .i64 h.last)
  obtain ⟨r0, r1, r2⟩ := HK
  have HBE := below_s3 HB0.out HRW.out (.slice A h.objs.length c) (.int .i64 h.cap) (.int .i64 h.last)
  refine bodyPost_ret (v := .tuple #[.agg #[.slice A h.objs.length c, .int .i64 h.cap, .int .i64 h.last], .int .i64 0, .int .i64 130]) (by simp [results, Tryz.results41, go_sem, r0, r1, r2]) rfl ?_
  exact ⟨rfl, HBE⟩
theorem rinteger_any13 (h : Hp) (n : Int) (A : Option Addr) (c : Nat) (w : World) : Calls Tryz.prog 75 #[.agg #[.slice A h.objs.length c, .int .i64 h.cap, .int .i64 h.last], .int .i64 n] w (RsH13 w h A c (in13 h n)) := by
  obtain ⟨r, hr⟩ : ∃ r, r = in13 h n := ⟨_, rfl⟩
  rw [← hr]
  have HRR := hid hr
  clear hr
  obtain ⟨w0, hw0⟩ : ∃ u, u = (w.alloc (.cells #[Value.slice A h.objs.length c, Value.int .i64 h.cap, Value.int .i64 h.last] 24)).alloc (.cells #[.slice none 0 0, .int .i64 0, .int .i64 0] 24) := ⟨_, rfl⟩
  obtain ⟨bR, hbR⟩ : ∃ x, x = w.heap.size + 1 := ⟨_, rfl⟩
  have HB0 : Hid (Below w.heap.size w w0) := by show Below _ _ _; rw [hw0]; exact below_alloc2 w _ _
  have HX0 : Hid (Lies w0 w.heap.size 24 #[Value.slice A h.objs.length c, Value.int .i64 h.cap, Value.int .i64 h.last]) := by
    show Lies _ _ _ _
    rw [hw0]; exact (Lies.new _ _ _).alloc _
  have HR0 : Hid (Lies w0 bR 24 #[.slice none 0 0, .int .i64 0, .int .i64 0]) := by
    show Lies _ _ _ _
    have := Lies.new (w.alloc (.cells #[Value.slice A h.objs.length c, Value.int .i64 h.cap, Value.int .i64 h.last] 24)) 24 #[.slice none 0 0, .int .i64 0, .int .i64 0]
    rw [hw0, hbR]; simpa using this
  have HRW : Hid (w.heap.size ≤ bR) := by show _ ≤ _; omega
  go_enter Tryz.func75, Tryz.ntmps75
  go_upto_region 1 with fail
  rw [← hw0, ← hbR]
  clear hw0 hbR
  go_wp2_with fail
  refine (rintY_any13 n w0).mono ?_
  rintro e w1 ⟨rfl, hw⟩
  rw [← hw]
  clear hw
  cases hs : smB n
  · have HE : Hid (r = fa13 h) := by show _ = _; rw [HRR.out]; unfold in13; rw [hs]; rfl
    clear hs
    obtain ⟨x0, x1, x2⟩ := HX0.out.c3
    go_wp2_with fail
    refine (rfail_any13 h A c w0).mono ?_
    rintro e w1 ⟨rfl, hb⟩
    have HB1 := hid (then_w HB0.out hb)
    have HX1 := hid (HX0.out.later hb)
    have HR1 := hid (HR0.out.later hb)
    clear hb x0 x1 x2
    obtain ⟨x0, x1, x2⟩ := HX1.out.c3
    obtain ⟨k0, k1, k2⟩ := HR1.out.c3
    obtain ⟨f0, f1, f2⟩ := HR1.out.f3
    go_wp2_with fail
    have HK := HR1.out.s3 (.slice A h.objs.length c) (.int .i64 h.cap) (.int .i64 h.last)
    obtain ⟨r0, r1, r2⟩ := HK
    have HBE := below_s3 HB1.out HRW.out (.slice A h.objs.length c) (.int .i64 h.cap) (.int .i64 h.last)
    refine bodyPost_ret (v := .tuple #[.agg #[.slice A h.objs.length c, .int .i64 h.cap, .int .i64 h.last], .int .i64 (fa13 h).2.1, .int .i64 (fa13 h).2.2]) (by simp [results, Tryz.results75, go_sem, r0, r1, r2]) rfl ?_
    exact ⟨by rw [HE.out], HBE⟩
  · have HE : Hid (r = (h, 2 * n + 1, 0)) := by show _ = _; rw [HRR.out]; unfold in13; rw [hs]; rfl
    have HV : Hid (inY13 n = 2 * n + 1) := by show _ = _; unfold inY13; rw [hs]; rfl
    rw [HV.out]
    clear hs
    obtain ⟨x0, x1, x2⟩ := HX0.out.c3
    obtain ⟨k0, k1, k2⟩ := HR0.out.c3
    obtain ⟨f0, f1, f2⟩ := HR0.out.f3
    go_wp2_with fail
    have HK := HR0.out.s3 (.slice A h.objs.length c) (.int .i64 h.cap) (.int .i64 h.last)
    obtain ⟨r0, r1, r2⟩ := HK
    have HBE := below_s3 HB0.out HRW.out (.slice A h.objs.length c) (.int .i64 h.cap) (.int .i64 h.last)
    refine bodyPost_ret (v := .tuple #[.agg #[.slice A h.objs.length c, .int .i64 h.cap, .int .i64 h.last], .int .i64 (2 * n + 1), .int .i64 0]) (by simp [results, Tryz.results75, go_sem, r0, r1, r2]) rfl ?_
    exact ⟨by rw [HE.out], HBE⟩
theorem rtruth_any13 (h : Hp) (b : Bool) (A : Option Addr) (c : Nat) (w : World) : Calls Tryz.prog 77 #[.agg #[.slice A h.objs.length c, .int .i64 h.cap, .int .i64 h.last], .bool b] w (RsH13 w h A c (tr13 h b)) := by
  obtain ⟨w0, hw0⟩ : ∃ u, u = (w.alloc (.cells #[Value.slice A h.objs.length c, Value.int .i64 h.cap, Value.int .i64 h.last] 24)).alloc (.cells #[.slice none 0 0, .int .i64 0, .int .i64 0] 24) := ⟨_, rfl⟩
  obtain ⟨bR, hbR⟩ : ∃ x, x = w.heap.size + 1 := ⟨_, rfl⟩
  have HB0 : Hid (Below w.heap.size w w0) := by show Below _ _ _; rw [hw0]; exact below_alloc2 w _ _
  have HX0 : Hid (Lies w0 w.heap.size 24 #[Value.slice A h.objs.length c, Value.int .i64 h.cap, Value.int .i64 h.last]) := by
    show Lies _ _ _ _
    rw [hw0]; exact (Lies.new _ _ _).alloc _
  have HR0 : Hid (Lies w0 bR 24 #[.slice none 0 0, .int .i64 0, .int .i64 0]) := by
    show Lies _ _ _ _
    have := Lies.new (w.alloc (.cells #[Value.slice A h.objs.length c, Value.int .i64 h.cap, Value.int .i64 h.last] 24)) 24 #[.slice none 0 0, .int .i64 0, .int .i64 0]
    rw [hw0, hbR]; simpa using this
  have HRW : Hid (w.heap.size ≤ bR) := by show _ ≤ _; omega
  go_enter Tryz.func77, Tryz.ntmps77
  go_upto_region 1 with fail
  rw [← hw0, ← hbR]
  clear hw0 hbR
  cases b
  · obtain ⟨x0, x1, x2⟩ := HX0.out.c3
    obtain ⟨k0, k1, k2⟩ := HR0.out.c3
    obtain ⟨f0, f1, f2⟩ := HR0.out.f3
    go_wp2_with fail
    have HK := HR0.out.s3 (.slice A h.objs.length c) (.int .i64 h.cap) (.int .i64 h.last)
    obtain ⟨r0, r1, r2⟩ := HK
    have HBE := below_s3 HB0.out HRW.out (.slice A h.objs.length c) (.int .i64 h.cap) (.int .i64 h.last)
    refine bodyPost_ret (v := .tuple #[.agg #[.slice A h.objs.length c, .int .i64 h.cap, .int .i64 h.last], .int .i64 4, .int .i64 0]) (by simp [results, Tryz.results77, go_sem, r0, r1, r2]) rfl ?_
    exact ⟨rfl, HBE⟩
  · obtain ⟨x0, x1, x2⟩ := HX0.out.c3
    obtain ⟨k0, k1, k2⟩ := HR0.out.c3
    obtain ⟨f0, f1, f2⟩ := HR0.out.f3
    go_wp2_with fail
    have HK := HR0.out.s3 (.slice A h.objs.length c) (.int .i64 h.cap) (.int .i64 h.last)
    obtain ⟨r0, r1, r2⟩ := HK
    have HBE := below_s3 HB0.out HRW.out (.slice A h.objs.length c) (.int .i64 h.cap) (.int .i64 h.last)
    refine bodyPost_ret (v := .tuple #[.agg #[.slice A h.objs.length c, .int .i64 h.cap, .int .i64 h.last], .int .i64 2, .int .i64 0]) (by simp [results, Tryz.results77, go_sem, r0, r1, r2]) rfl ?_
    exact ⟨rfl, HBE⟩
end Go.Proofs.YtnilempeldlieaaGreat
namespace Go.Proofs.YtnilempeldlieaaGreat
open Go.RowKit
theorem wpList_append_one {w : World} {ops : Array Oper} {rest : List Oper} {o : Oper} {a : Act} {Q : Exit → Act → World → Prop} (hgd : o.guard = none) (s x : Operand)
    (ho : o.op = .call { callee := .builtin .append, args := #[s, x], argTypes := #[34, 34] }) (base : Nat)
    (v : Value) (n : Nat) (xs : List Int) (hs : a.eval s = v) (hown : w.ownsRow base 3 1 v n (xs.map (Value.int .i64))) (y : Int) (g : Nat) (hx : a.eval x = .slice (some ⟨g, 0, none⟩) 1 1) (hg : Lies w g 3 #[.int .i64 y])
    (hn : n ≤ 1000000) (hbase : base ≤ w.heap.size)
    (h : ∀ v' w', w'.ownsRow base 3 1 v' (n + 1) ((xs ++ [y]).map (Value.int .i64)) → w.grownBy w' v.ownBlock → wpList Tryz.prog ops Q rest (a.put o.dst v') w') : wpList Tryz.prog ops Q (o :: rest) a w := by
  obtain ⟨i0, hi0, hz0, hz1, hz2⟩ := info_parts int_info
  refine wpList_append_own _ hgd s x 34 ho base 3 i0 (.int .i64 0) 1 8 Tryz.underlying34 hi0 hz0 hz1 hz2 rfl (by decide) _ _ _ hs hown ⟨g, 0, none⟩ 1 1 [.int .i64 y] hx rfl ?_ ?_ (by unfold maxLen; omega) (by omega) hbase ?_
  · intro j u hu
    have := hg.cell j
    rw [Addr.add_lit, Nat.zero_add, this]
    simpa using hu
  · intro u hu
    obtain rfl : u = .int .i64 y := by simpa using hu
    rfl
  · intro v' w' h1 h2 _
    exact h v' w' (by simpa using h1) h2
end Go.Proofs.YtnilempeldlieaaGreat
namespace Go.Proofs.YtnilempeldlieaaGreat
open Go.RowKit
def HeapOw13 (w : World) (h' : Hp) (en : Int) (e : Ending) (w' : World) : Prop := ∃ A c, e = .returned (.tuple #[.agg #[.slice A h'.objs.length c, .int .i64 h'.cap, .int .i64 h'.last], .int .i64 en]) ∧ ObsR w' A h'.objs ∧ Below w.heap.size w w' ∧ (en = 0 → ∃ ls, ls.map (·.o) = h'.objs ∧ OwnH w' w.heap.size A c ls)
theorem of_own13 {w w' : World} {h' : Hp} {en : Int} {e : Ending} {A : Option Addr} {c base : Nat} {ls : List LO} (he : e = .returned (.tuple #[.agg #[.slice A h'.objs.length c, .int .i64 h'.cap, .int .i64 h'.last], .int .i64 en])) (ho : OwnH w' base A c ls) (hm : ls.map (·.o) = h'.objs) (hb : Below w.heap.size w w') (hB : w.heap.size ≤ base) : HeapOw13 w h' en e w' :=
  ⟨A, c, he, own_obs ho hm, hb, fun _ => ⟨ls, hm, ho.lower hB⟩⟩
def HeapOv13 (w : World) (h' : Hp) (v en : Int) (e : Ending) (w' : World) : Prop := ∃ A c, e = .returned (.tuple #[.agg #[.slice A h'.objs.length c, .int .i64 h'.cap, .int .i64 h'.last], .int .i64 v, .int .i64 en]) ∧ ObsR w' A h'.objs ∧ Below w.heap.size w w' ∧ (en = 0 → ∃ ls, ls.map (·.o) = h'.objs ∧ OwnH w' w.heap.size A c ls)
end Go.Proofs.YtnilempeldlieaaGreat
