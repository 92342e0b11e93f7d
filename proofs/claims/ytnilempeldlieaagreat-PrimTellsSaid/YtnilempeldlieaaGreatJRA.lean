/- The document's Alloc: its errors. -/
import Derived.Test.YtnilempeldlieaaGreatJ10
import Derived.Test.YtnilempeldlieaaGreatJ06
namespace Go.Proofs.YtnilempeldlieaaGreat
open Go.RowKit
set_option maxRecDepth 100000
theorem mostI_le (kind : Int) : mostI kind ≤ 64 := by
  unfold mostI
  split
  next =>
   omega
  next =>
   split <;> omega
theorem may_capR {h : Hp} (hm : mayB h = true) : (h.objs.length : Int) ≤ h.cap := by
  unfold mayB at hm
  simp only [Bool.and_eq_true, decide_eq_true_eq] at hm
  exact hm.1.1.2.2
theorem blank_nil (kind : Int) : (blankO kind 0).slots = [] ∧ (blankO kind 0).text = ⟨#[]⟩ := by
  unfold blankO
  constructor
  next =>
   show (if kind = 0 then List.replicate 0 (0 : Int) else []) = []
   split <;> rfl
  next =>
   show (if kind = 1 then zeroT 0 else ⟨#[]⟩) = ⟨#[]⟩
   split
   next =>
    exact repeat_zero
   next =>
    rfl
theorem blank_slots (k : Nat) : (blankO 0 (k + 1)).slots = (blankO 0 k).slots ++ [0] := by
  show List.replicate (k + 1) (0 : Int) = List.replicate k 0 ++ [0]
  rw [List.replicate_succ']
theorem blank_text0 (k : Nat) : (blankO 0 (k + 1)).text = (blankO 0 k).text := rfl
theorem rep_succ : ∀ k : Nat, Lib.repeatL [(0 : UInt8)] (k + 1) = Lib.repeatL [0] k ++ [0]
  | 0 => rfl
  | k + 1 => by
    show 0 :: Lib.repeatL [0] (k + 1) = (0 :: Lib.repeatL [0] k) ++ [0]
    rw [rep_succ k]; rfl
theorem blank_text (k : Nat) : (blankO 1 (k + 1)).text = (blankO 1 k).text ++ ⟨#[0]⟩ := by
  show zeroT (k + 1) = zeroT k ++ ⟨#[0]⟩
  unfold zeroT
  rw [rep_succ, ByteArray.mk_append_mk]
  try simp
theorem blank_slots1 (k : Nat) : (blankO 1 (k + 1)).slots = (blankO 1 k).slots := rfl
theorem ra_no {h : Hp} {cl kind size : Int} (e : roE h cl kind size ≠ 0) (hm : mayB h = true) : alR h cl kind size = h ∧ alV h cl kind size = 0 := by
  refine ⟨?_, by unfold alV; rw [if_neg e]⟩
  unfold alR
  rw [if_neg e]
  unfold unH
  rw [if_neg]
  intro g
  unfold roE at g
  rw [if_neg (by rw [hm]; decide)] at g
  repeat' split at g
  all_goals cases g
set_option maxHeartbeats 4000000 in
theorem ralloc_own13 (h : Hp) (cl kind size : Int) (A : Option Addr) (c : Nat) (w : World) (hs : ObsR w A h.objs) (fit : h.Fit) :
    Calls Tryz.prog 122 #[.agg #[.slice A h.objs.length c, .int .i64 h.cap, .int .i64 h.last], .int .i64 cl, .int .i64 kind, .int .i64 size] w (HeapOv13 w (alR h cl kind size) (alV h cl kind size) (roE h cl kind size)) := by
  have HB0 := hid (below_alloc2 w (.cells #[Value.slice A h.objs.length c, Value.int .i64 h.cap, Value.int .i64 h.last] 24) (.cells #[.slice none 0 0, .int .i64 0, .int .i64 0] 24))
  have HX0 := hid ((Lies.new w 24 #[Value.slice A h.objs.length c, Value.int .i64 h.cap, Value.int .i64 h.last]).alloc (.cells #[.slice none 0 0, .int .i64 0, .int .i64 0] 24))
  have HK0 : Hid (Lies ((w.alloc (.cells #[Value.slice A h.objs.length c, Value.int .i64 h.cap, Value.int .i64 h.last] 24)).alloc (.cells #[.slice none 0 0, .int .i64 0, .int .i64 0] 24)) (w.heap.size + 1) 24 #[.slice none 0 0, .int .i64 0, .int .i64 0]) := by
    have := Lies.new (w.alloc (.cells #[Value.slice A h.objs.length c, Value.int .i64 h.cap, Value.int .i64 h.last] 24)) 24 #[.slice none 0 0, .int .i64 0, .int .i64 0]
    simpa [Hid] using this
  have HS := hid hs
  have HF := hid fit
  clear hs fit
  cases hm : mayB h
  next =>
   have e1 : roE h cl kind size = 1 := by unfold roE; rw [if_pos hm]
   have e2 : alR h cl kind size = zeroH := by unfold alR; rw [e1]; rfl
   have e3 : alV h cl kind size = 0 := by unfold alV; rw [e1]; rfl
   rw [e1, e2, e3]; clear e1 e2 e3
   go_enter Tryz.func122, Tryz.ntmps122
   go_wp2_with fail
   refine (rmay_any h A c _ (HS.out.below HB0.out) HF.out).mono ?_
   rintro e w1 ⟨rfl, hb1⟩
   rw [hm]
   have HB1 := hid (HB0.out.trans (hb1.mono HB0.out.size))
   have HK1 := hid (HK0.out.later hb1)
   clear hb1
   obtain ⟨u0, u1, u2⟩ := HK1.out.c3
   obtain ⟨uf0, uf1, uf2⟩ := HK1.out.f3
   go_wp2_with fail
   obtain ⟨r0, r1, r2⟩ := HK1.out.s3 (.slice none 0 0) (.int .i64 0) (.int .i64 0)
   refine bodyPost_ret (v := .tuple #[.agg #[.slice none 0 0, .int .i64 0, .int .i64 0], .int .i64 0, .int .i64 1]) (by simp [results, Tryz.results122, go_sem, r0, r1, r2]) rfl ?_
   exact ⟨none, 0, rfl, ObsR.nil _, (((HB1.out.setCell (p := ⟨w.heap.size + 1, 0, none⟩) (by simp) _).setCell (p := ⟨w.heap.size + 1, 1, none⟩) (by simp) _).setCell (p := ⟨w.heap.size + 1, 2, none⟩) (by simp) _), fun e => absurd e (by decide)⟩
  next =>
   have HM := hid hm
   by_cases e0 : roE h cl kind size = 0
   next =>
    obtain ⟨-, hr, hk0, hk1, hs0, hs1, hcap⟩ := ro_ok e0
    rcases (show kind = 0 ∨ kind = 1 ∨ kind = 2 by omega) with rfl | rfl | rfl
    next =>
     obtain ⟨n, rfl⟩ : ∃ n : Nat, size = n := ⟨size.toNat, by omega⟩
     have ER : Hid (alR h cl 0 n = alH h cl 0 n) := by show _ = _; unfold alR; rw [if_pos e0]
     have EV : Hid (alV h cl 0 n = 2 * (h.objs.length : Int)) := by show _ = _; unfold alV; rw [if_pos e0]
     have E0 := hid e0
     have hlen := may_len hm
     have hn64 : n ≤ 64 := by have := mostI_le 0; omega
     have hk2n : 0 = 2 → n = 0 := fun g => by have h2 : mostI 2 = 0 := rfl; first | omega | (exfalso; omega)
     obtain ⟨q, hq⟩ : ∃ q : Nat, atV cl = q := ⟨(atV cl).toNat, by have := refB_no hr; omega⟩
     have rv : refI h.objs.length cl = q := by rw [refI_nonneg hr, hq]
     have hcapb : ((h.objs.length : Int) == h.cap) = false := by simp; omega
     obtain ⟨j0, hj, hy0, hy1, hy2⟩ := info_parts obj_info
     have HR := hid hr
     clear hm e0 hr hq hs0 hs1 hcap hk2n hk0 hk1
     go_enter Tryz.func122, Tryz.ntmps122
     go_wp2_with fail
     refine (rmay_any h A c _ (HS.out.below HB0.out) HF.out).mono ?_
     rintro e w1 ⟨rfl, hb1⟩
     rw [HM.out]
     have HB1 := hid (HB0.out.trans (hb1.mono HB0.out.size))
     have HK1 := hid (HK0.out.later hb1)
     have HX1 := hid (HX0.out.later hb1)
     clear hb1
     obtain ⟨x0, x1, x2⟩ := HX1.out.c3
     go_wp2_with fail
     refine (rref_any h cl A c _).mono ?_
     rintro e w2 ⟨rfl, hb2⟩
     rw [rv]
     have HB2 := hid (HB1.out.trans (hb2.mono HB1.out.size))
     have HK2' := hid (HK1.out.later hb2)
     have HX2 := hid (HX1.out.later hb2)
     clear hb2 x0 x1 x2
     obtain ⟨x0, x1, x2⟩ := HX2.out.c3
     go_wp2_with fail
     refine (copy_h h A c _ (HS.out.below HB2.out) HM.out).mono ?_
     rintro e w3 ⟨A3, c3, ls, rfl, hls, hown, hb3⟩
     have HB3 := hid (HB2.out.trans (hb3.mono HB2.out.size))
     have HK3 := hid (HK2'.out.later hb3)
     have HX3 := hid (HX2.out.later hb3)
     have HOW := hid hown
     have HLS := hid hls
     have HW23 := hid hb3.size
     have HAL := hid (below_alloc w3 (.cells #[Value.slice A3 h.objs.length c3, Value.int .i64 h.cap, Value.int .i64 h.last] 24))
     have HX4 := hid (HX3.out.later HAL.out)
     clear hls hown hb3 x0 x1 x2
     obtain ⟨x0, x1, x2⟩ := HX4.out.c3
     go_wp2_with fail
     refine (rnext_any _ _).mono ?_
     rintro e w' ⟨rfl, rfl⟩
     have hlt3 : w.heap.size + 1 < w3.heap.size := HK3.out.lt
     go_wp2_with fail
     obtain ⟨W4, hW4⟩ : ∃ W4, W4 = (w3.alloc (.cells #[.slice A3 h.objs.length c3, .int .i64 h.cap, .int .i64 (nxI h.last)] 24)).alloc (.cells #[.int .i64 cl, .int .i64 0, .slice none 0 0, .string ⟨#[]⟩, .int .i64 0, .int .i64 (nxI h.last)] 41) := ⟨_, rfl⟩
     have hB4 : Below w3.heap.size w3 W4 := by rw [hW4]; exact (below_alloc w3 _).alloc (by simp) _
     have hG4 : Lies W4 w3.heap.size 24 #[.slice A3 h.objs.length c3, .int .i64 h.cap, .int .i64 (nxI h.last)] := by rw [hW4]; exact (Lies.new w3 24 _).alloc _
     have hO4 : Lies W4 (w3.heap.size + 1) 41 #[.int .i64 cl, .int .i64 0, .slice none 0 0, .string ⟨#[]⟩, .int .i64 0, .int .i64 (nxI h.last)] := by
       rw [hW4]
       have := Lies.new (w3.alloc (.cells #[.slice A3 h.objs.length c3, .int .i64 h.cap, .int .i64 (nxI h.last)] 24)) 41 #[.int .i64 cl, .int .i64 0, .slice none 0 0, .string ⟨#[]⟩, .int .i64 0, .int .i64 (nxI h.last)]
       rwa [World.size_alloc] at this
     have hz4 : W4.heap.size = w3.heap.size + 1 + 1 := by rw [hW4]; simp
     rw [← hW4]
     have HB4 := hid hB4
     have HG4 := hid hG4
     have HO4 := hid hO4
     clear hB4 hG4 hO4 hW4 x0 x1 x2
     go_loopw [13] (fun i wr => ∃ (k : Nat) (A5 : Option Addr) (c5 : Nat), k ≤ n ∧ i = .int .i64 k ∧ Lies wr (w3.heap.size + 1) 41 #[.int .i64 cl, .int .i64 0, .slice A5 (blankO 0 k).slots.length c5, .string (blankO 0 k).text, .int .i64 0, .int .i64 (nxI h.last)] ∧ wr.ownsRow (w3.heap.size + 1 + 1) 3 1 (.slice A5 (blankO 0 k).slots.length c5) (blankO 0 k).slots.length ((blankO 0 k).slots.map (Value.int .i64)) ∧ Lies wr w3.heap.size 24 #[.slice A3 h.objs.length c3, .int .i64 h.cap, .int .i64 (nxI h.last)] ∧ Below w3.heap.size w3 wr ∧ w3.heap.size + 1 + 1 ≤ wr.heap.size) (fun i _ => n - (intOf i).toNat)
     case atStart =>
       have b0 := blank_nil 0
       refine ⟨0, none, 0, Nat.zero_le _, rfl, by rw [b0.1, b0.2]; exact HO4.out, by rw [b0.1]; exact World.ownsRow_nil _ _ _ _, HG4.out, HB4.out, by omega⟩
     case round =>
       clear HO4 HG4 HB4
       obtain ⟨k, A5, c5, hk, rfl, hO, hrow, hG, hbw, hsz⟩ := hrel
       rename World => wo
       have HO := hid hO
       have HRW := hid hrow
       have HG := hid hG
       have HW := hid hbw
       have o2 := hO.cell 2
       have o3 := hO.cell 3
       simp only [List.getElem?_toArray, List.getElem?_cons_zero, List.getElem?_cons_succ] at o2 o3
       have of2 := hO.frozen 2
       have of3 := hO.frozen 3
       clear hrow hbw
       by_cases hlt : k < n
       next =>
        have hbs := blank_slots k
        have hbt := blank_text0 k
        have hll : (blankO 0 k).slots.length = k := by simp [blankO]
        have HAL2 := hid (below_alloc wo (.cells #[.int .i64 0] 3))
        have HR2 := hid (own_later HRW.out HAL2.out)
        have HN := hid (Lies.new wo 3 #[.int .i64 0])
        have HO2 := hid (HO.out.later HAL2.out)
        have hz2 : w3.heap.size + 1 + 1 ≤ (wo.alloc (.cells #[.int .i64 0] 3)).heap.size := by simp; omega
        have HBS := hid hbs
        have HBT := hid hbt
        have HLL := hid hll
        clear hbs hbt hll hO hG
        go_wp2_with (at_builtin; refine wpList_append_one rfl (.tmp 71) (.tmp 72) rfl (w3.heap.size + 1 + 1) _ _ _ rfl HR2.out _ _ rfl HN.out (by have := HLL.out; omega) hz2 ?_)
        intro v' w' h1 h2
        obtain ⟨A6, c6, rfl⟩ := own_form h1
        have hO6 := HO2.out.grown h2 (fun e => own_blk_ne HR2.out HO2.out (by decide) e.symm)
        have p2 := hO6.cell 2
        have pf2 := hO6.frozen 2
        simp only [List.getElem?_toArray, List.getElem?_cons_zero, List.getElem?_cons_succ] at p2
        have H1 := hid h1
        have H2 := hid h2
        have HO6 := hid hO6
        clear h1 h2 hO6
        go_wp2_with fail
        go_roundw
        case rel =>
          have hl2 : (blankO 0 (k + 1)).slots.length = (blankO 0 k).slots.length + 1 := by rw [HBS.out]; simp
          have hne : (w3.heap.size + 1) ≠ w3.heap.size := by omega
          refine ⟨k + 1, A6, c6, by omega, by go_num, ?_, ?_, ?_, ?_, ?_⟩
          next =>
           rw [hl2, HBT.out]
           simpa using HO6.out.set_ 2 (.slice A6 ((blankO 0 k).slots.length + 1) c6)
          next =>
           rw [hl2, HBS.out]
           refine ownsRow_setCell_other (a := ⟨w3.heap.size + 1, 2, none⟩) ?_ (own_blk_ne H1.out HO6.out (by decide)) _
           simpa using H1.out
          next =>
           exact ((HG.out.later HAL2.out).grown H2.out (fun e => own_blk_ne HR2.out (HG.out.later HAL2.out) (by decide) e.symm)).far (by exact fun e => hne e.symm) _
          next =>
           exact ((HW.out.trans (HAL2.out.mono (by omega))).grown H2.out (by simp; omega) (fun g hg => by have := (HR2.out.lt g hg).1; omega)).setCell (p := ⟨w3.heap.size + 1, 2, none⟩) (by simp) _
          next =>
           have := H2.out.size
           simp at this ⊢; omega
        case measure => simp [intOf]; omega
       next =>
        obtain rfl : k = n := by omega
        have hll : ls.length = h.objs.length := by have := congrArg List.length HLS.out; simpa using this
        have HX6 := hid (HX3.out.later HW.out)
        have HK6 := hid (HK3.out.later HW.out)
        have HP6 := hid (HOW.out.later HW.out)
        have HB6 := hid (HB3.out.trans (HW.out.mono HB3.out.size))
        have hw23 := HW23.out
        have hwk : w.heap.size + 1 < w3.heap.size := HK3.out.lt
        have HAL6 := hid (below_alloc wo (.cells #[.int .i64 cl, .int .i64 0, .slice A5 (blankO 0 k).slots.length c5, .string (blankO 0 k).text, .int .i64 0, .int .i64 (nxI h.last)] 41))
        have hR6 := (HP6.out.later HAL6.out).row
        rw [hll] at hR6
        have HR6 := hid hR6
        have HN6 : Hid (∀ j u, (LO.mk { blankO 0 k with cls := cl, hash := nxI h.last } A5 c5).cells[j]? = some u → (wo.alloc (.cells #[.int .i64 cl, .int .i64 0, .slice A5 (blankO 0 k).slots.length c5, .string (blankO 0 k).text, .int .i64 0, .int .i64 (nxI h.last)] 41)).cell? ((⟨wo.heap.size, 0, none⟩ : Addr).add j) = some u) := by
          intro j u hu
          have := (Lies.new wo 41 #[.int .i64 cl, .int .i64 0, .slice A5 (blankO 0 k).slots.length c5, .string (blankO 0 k).text, .int .i64 0, .int .i64 (nxI h.last)]).cell j
          rw [Addr.add_lit, Nat.zero_add, this]
          simpa [LO.cells, blankO] using hu
        have HN61 : Hid (∀ u ∈ (LO.mk { blankO 0 k with cls := cl, hash := nxI h.last } A5 c5).cells, u.oneCell' = true) := by
          intro u hu
          simp [LO.cells] at hu
          rcases hu with rfl | rfl | rfl | rfl | rfl | rfl <;> rfl
        have HL6 : Hid ((LO.mk { blankO 0 k with cls := cl, hash := nxI h.last } A5 c5).cells.length = 1 * 6) := rfl
        have HBS6 : Hid (w2.heap.size ≤ (wo.alloc (.cells #[.int .i64 cl, .int .i64 0, .slice A5 (blankO 0 k).slots.length c5, .string (blankO 0 k).text, .int .i64 0, .int .i64 (nxI h.last)] 41)).heap.size) := by
          show _ ≤ _
          simp; omega
        have hk256 : (h.objs.length + 1) * 72 ≤ 140737488355328 := by omega
        have HG6 := hid (HG.out.later HAL6.out)
        have g0 := hG.cell 0
        have o0 := hO.cell 0
        have o1 := hO.cell 1
        have o4 := hO.cell 4
        have o5 := hO.cell 5
        simp only [List.getElem?_toArray, List.getElem?_cons_zero, List.getElem?_cons_succ] at g0 o0 o1 o4 o5
        clear hR6 hO hG hll
        go_wp2_with (at_builtin; refine wpList_append_own _ rfl (.tmp 80) (.tmp 82) 22 rfl w2.heap.size 41 j0 (.agg #[.int .i64 0, .int .i64 0, .slice none 0 0, .string ⟨#[]⟩, .int .i64 0, .int .i64 0]) 6 72 Tryz.underlying22 hj hy0 hy1 hy2 rfl (by decide) _ _ _ rfl HR6.out ⟨wo.heap.size, 0, none⟩ 1 1 (LO.mk { blankO 0 k with cls := cl, hash := nxI h.last } A5 c5).cells rfl HL6.out HN6.out HN61.out (by unfold maxLen; omega) hk256 HBS6.out ?_)
        intro v4 w4 hown4 hgrow4 _
        obtain ⟨A7, c7, rfl⟩ := own_form hown4
        have hll : ls.length = h.objs.length := by have := congrArg List.length HLS.out; simpa using this
        have hG7 := HG6.out.grown hgrow4 (fun e => own_blk_ne HR6.out HG6.out (by decide) e.symm)
        have hX7 := (HX6.out.later HAL6.out).grown hgrow4 (fun e => own_blk_ne HR6.out (HX6.out.later HAL6.out) (by decide) e.symm)
        have hK7 := (HK6.out.later HAL6.out).grown hgrow4 (fun e => own_blk_ne HR6.out (HK6.out.later HAL6.out) (by decide) e.symm)
        have hP7 : OwnH w4 w2.heap.size A7 c7 (ls ++ [⟨{ blankO 0 k with cls := cl, hash := nxI h.last }, A5, c5⟩]) :=
          (HP6.out.later HAL6.out).push (b := w3.heap.size + 1 + 1) (A2 := A7) (c2 := c7) (own_later HRW.out HAL6.out) (by omega) (fun i li a hi' ha => by have := HOW.out.blk_lt hi' ha; omega) (by rw [hll]; exact hown4) (by rw [hll]; exact hgrow4)
        have hB7 : Below w.heap.size w w4 := (HB6.out.trans (HAL6.out.mono HB6.out.size)).grown hgrow4 (Nat.le_trans HB6.out.size HAL6.out.size) (fun g hg => by have := (HR6.out.lt g hg).1; have := HB2.out.size; omega)
        have pf0 := hG7.frozen 0
        have pp0 := hG7.cell 0
        simp only [List.getElem?_toArray, List.getElem?_cons_zero] at pp0
        have HP8 := hid (hP7.off hG7 0 (.slice A7 (h.objs.length + 1) c7))
        have HG8 := hid (hG7.set_ 0 (.slice A7 (h.objs.length + 1) c7))
        have HX8 := hid (hX7.far (p := ⟨w3.heap.size, 0, none⟩) (by show w.heap.size ≠ w3.heap.size; omega) (.slice A7 (h.objs.length + 1) c7))
        have HK8 := hid (hK7.far (p := ⟨w3.heap.size, 0, none⟩) (by show w.heap.size + 1 ≠ w3.heap.size; omega) (.slice A7 (h.objs.length + 1) c7))
        have HB8 := hid (hB7.setCell (p := ⟨w3.heap.size, 0, none⟩) (by show w.heap.size ≤ w3.heap.size; omega) (.slice A7 (h.objs.length + 1) c7))
        clear hown4 hgrow4 hG7 hX7 hK7 hP7 hB7 g0 o0 o1 o2 o3 o4 o5 of2 of3 hy0 hj
        go_wp2_with fail
        obtain ⟨W8, hW8⟩ : ∃ W8, W8 = w4.setCell ⟨w3.heap.size, 0, none⟩ (.slice A7 (h.objs.length + 1) c7) := ⟨_, rfl⟩
        rw [← hW8] at HP8 HG8 HX8 HK8 HB8 ⊢
        clear hW8 pf0 pp0
        have p0 := HG8.out.cell 0
        have p1 := HG8.out.cell 1
        have p2 := HG8.out.cell 2
        have x0 := HX8.out.cell 0
        have s0 := HK8.out.cell 0
        have s1 := HK8.out.cell 1
        have s2 := HK8.out.cell 2
        have sf0 := HK8.out.frozen 0
        have sf1 := HK8.out.frozen 1
        have sf2 := HK8.out.frozen 2
        simp only [List.setIfInBounds_toArray, List.set_cons_zero, List.getElem?_toArray, List.getElem?_cons_zero, List.getElem?_cons_succ] at p0 p1 p2 x0 s0 s1 s2
        have hwl : IntKind.i64.wrap (2 * (h.objs.length : Int)) = 2 * (h.objs.length : Int) := IntWalk.i64_in _ (by omega)
        have hne8 : w.heap.size + 1 ≠ w.heap.size := by omega
        have hne9 : w.heap.size + 1 ≠ w3.heap.size := by omega
        go_region
        go_wp2_with fail
        obtain ⟨r0, r1, r2⟩ := HK8.out.s3 (.slice A7 (h.objs.length + 1) c7) (.int .i64 h.cap) (.int .i64 (nxI h.last))
        refine bodyPost_ret (v := .tuple #[.agg #[.slice A7 (h.objs.length + 1) c7, .int .i64 h.cap, .int .i64 (nxI h.last)], .int .i64 (2 * (h.objs.length : Int)), .int .i64 0]) (by simp [results, Tryz.results122, go_sem, r0, r1, r2]) rfl ?_
        rw [ER.out, EV.out, E0.out]
        have hw2k : w.heap.size + 1 < w2.heap.size := HK2'.out.lt
        have hmap : (ls ++ [LO.mk { blankO 0 k with cls := cl, hash := nxI h.last } A5 c5]).map (·.o) = (alH h cl 0 ((k : Nat) : Int)).objs := by
          rw [List.map_append, HLS.out]
          simp [alH, newO]
        have hlen2 : (alH h cl 0 ((k : Nat) : Int)).objs.length = h.objs.length + 1 := by simp [alH]
        have hO9 := (((HP8.out.low (p := ⟨w.heap.size + 1, 0, none⟩) (by simp; omega) (.slice A7 (h.objs.length + 1) c7)).low (p := ⟨w.heap.size + 1, 1, none⟩) (by simp; omega) (.int .i64 h.cap)).low (p := ⟨w.heap.size + 1, 2, none⟩) (by simp; omega) (.int .i64 (nxI h.last)))
        have hB9 := (((HB8.out.setCell (p := ⟨w.heap.size + 1, 0, none⟩) (by simp) (.slice A7 (h.objs.length + 1) c7)).setCell (p := ⟨w.heap.size + 1, 1, none⟩) (by simp) (.int .i64 h.cap)).setCell (p := ⟨w.heap.size + 1, 2, none⟩) (by simp) (.int .i64 (nxI h.last)))
        exact ⟨A7, c7, by rw [hlen2]; rfl, (own_obs hO9 hmap).below (Below.refl _ _).drew, hB9.drew, fun _ => ⟨_, hmap, (hO9.later (Below.refl _ _).drew).lower (by omega)⟩⟩
    next =>
     obtain ⟨n, rfl⟩ : ∃ n : Nat, size = n := ⟨size.toNat, by omega⟩
     have ER : Hid (alR h cl 1 n = alH h cl 1 n) := by show _ = _; unfold alR; rw [if_pos e0]
     have EV : Hid (alV h cl 1 n = 2 * (h.objs.length : Int)) := by show _ = _; unfold alV; rw [if_pos e0]
     have E0 := hid e0
     have hlen := may_len hm
     have hn64 : n ≤ 64 := by have := mostI_le 1; omega
     have hk2n : 1 = 2 → n = 0 := fun g => by have h2 : mostI 2 = 0 := rfl; first | omega | (exfalso; omega)
     obtain ⟨q, hq⟩ : ∃ q : Nat, atV cl = q := ⟨(atV cl).toNat, by have := refB_no hr; omega⟩
     have rv : refI h.objs.length cl = q := by rw [refI_nonneg hr, hq]
     have hcapb : ((h.objs.length : Int) == h.cap) = false := by simp; omega
     obtain ⟨j0, hj, hy0, hy1, hy2⟩ := info_parts obj_info
     have HR := hid hr
     clear hm e0 hr hq hs0 hs1 hcap hk2n hk0 hk1
     go_enter Tryz.func122, Tryz.ntmps122
     go_wp2_with fail
     refine (rmay_any h A c _ (HS.out.below HB0.out) HF.out).mono ?_
     rintro e w1 ⟨rfl, hb1⟩
     rw [HM.out]
     have HB1 := hid (HB0.out.trans (hb1.mono HB0.out.size))
     have HK1 := hid (HK0.out.later hb1)
     have HX1 := hid (HX0.out.later hb1)
     clear hb1
     obtain ⟨x0, x1, x2⟩ := HX1.out.c3
     go_wp2_with fail
     refine (rref_any h cl A c _).mono ?_
     rintro e w2 ⟨rfl, hb2⟩
     rw [rv]
     have HB2 := hid (HB1.out.trans (hb2.mono HB1.out.size))
     have HK2' := hid (HK1.out.later hb2)
     have HX2 := hid (HX1.out.later hb2)
     clear hb2 x0 x1 x2
     obtain ⟨x0, x1, x2⟩ := HX2.out.c3
     go_wp2_with fail
     refine (copy_h h A c _ (HS.out.below HB2.out) HM.out).mono ?_
     rintro e w3 ⟨A3, c3, ls, rfl, hls, hown, hb3⟩
     have HB3 := hid (HB2.out.trans (hb3.mono HB2.out.size))
     have HK3 := hid (HK2'.out.later hb3)
     have HX3 := hid (HX2.out.later hb3)
     have HOW := hid hown
     have HLS := hid hls
     have HW23 := hid hb3.size
     have HAL := hid (below_alloc w3 (.cells #[Value.slice A3 h.objs.length c3, Value.int .i64 h.cap, Value.int .i64 h.last] 24))
     have HX4 := hid (HX3.out.later HAL.out)
     clear hls hown hb3 x0 x1 x2
     obtain ⟨x0, x1, x2⟩ := HX4.out.c3
     go_wp2_with fail
     refine (rnext_any _ _).mono ?_
     rintro e w' ⟨rfl, rfl⟩
     have hlt3 : w.heap.size + 1 < w3.heap.size := HK3.out.lt
     go_wp2_with fail
     obtain ⟨W4, hW4⟩ : ∃ W4, W4 = (w3.alloc (.cells #[.slice A3 h.objs.length c3, .int .i64 h.cap, .int .i64 (nxI h.last)] 24)).alloc (.cells #[.int .i64 cl, .int .i64 1, .slice none 0 0, .string ⟨#[]⟩, .int .i64 0, .int .i64 (nxI h.last)] 41) := ⟨_, rfl⟩
     have hB4 : Below w3.heap.size w3 W4 := by rw [hW4]; exact (below_alloc w3 _).alloc (by simp) _
     have hG4 : Lies W4 w3.heap.size 24 #[.slice A3 h.objs.length c3, .int .i64 h.cap, .int .i64 (nxI h.last)] := by rw [hW4]; exact (Lies.new w3 24 _).alloc _
     have hO4 : Lies W4 (w3.heap.size + 1) 41 #[.int .i64 cl, .int .i64 1, .slice none 0 0, .string ⟨#[]⟩, .int .i64 0, .int .i64 (nxI h.last)] := by
       rw [hW4]
       have := Lies.new (w3.alloc (.cells #[.slice A3 h.objs.length c3, .int .i64 h.cap, .int .i64 (nxI h.last)] 24)) 41 #[.int .i64 cl, .int .i64 1, .slice none 0 0, .string ⟨#[]⟩, .int .i64 0, .int .i64 (nxI h.last)]
       rwa [World.size_alloc] at this
     have hz4 : W4.heap.size = w3.heap.size + 1 + 1 := by rw [hW4]; simp
     rw [← hW4]
     have HB4 := hid hB4
     have HG4 := hid hG4
     have HO4 := hid hO4
     clear hB4 hG4 hO4 hW4 x0 x1 x2
     go_loopw [13] (fun i wr => ∃ (k : Nat) (A5 : Option Addr) (c5 : Nat), k ≤ n ∧ i = .int .i64 k ∧ Lies wr (w3.heap.size + 1) 41 #[.int .i64 cl, .int .i64 1, .slice A5 (blankO 1 k).slots.length c5, .string (blankO 1 k).text, .int .i64 0, .int .i64 (nxI h.last)] ∧ wr.ownsRow (w3.heap.size + 1 + 1) 3 1 (.slice A5 (blankO 1 k).slots.length c5) (blankO 1 k).slots.length ((blankO 1 k).slots.map (Value.int .i64)) ∧ Lies wr w3.heap.size 24 #[.slice A3 h.objs.length c3, .int .i64 h.cap, .int .i64 (nxI h.last)] ∧ Below w3.heap.size w3 wr ∧ w3.heap.size + 1 + 1 ≤ wr.heap.size) (fun i _ => n - (intOf i).toNat)
     case atStart =>
       have b0 := blank_nil 1
       refine ⟨0, none, 0, Nat.zero_le _, rfl, by rw [b0.1, b0.2]; exact HO4.out, by rw [b0.1]; exact World.ownsRow_nil _ _ _ _, HG4.out, HB4.out, by omega⟩
     case round =>
       clear HO4 HG4 HB4
       obtain ⟨k, A5, c5, hk, rfl, hO, hrow, hG, hbw, hsz⟩ := hrel
       rename World => wo
       have HO := hid hO
       have HRW := hid hrow
       have HG := hid hG
       have HW := hid hbw
       have o2 := hO.cell 2
       have o3 := hO.cell 3
       simp only [List.getElem?_toArray, List.getElem?_cons_zero, List.getElem?_cons_succ] at o2 o3
       have of2 := hO.frozen 2
       have of3 := hO.frozen 3
       clear hrow hbw
       by_cases hlt : k < n
       next =>
        have hts := zeroT_size k
        have htx : (blankO 1 k).text = zeroT k := rfl
        have hbt := blank_text k
        have hbs := blank_slots1 k
        have hadd : ¬ ((blankO 1 k).text.size + (⟨#[0]⟩ : ByteArray).size > 9223372036854775807) := by
          rw [htx, hts]
          show ¬ (k + 1 > 9223372036854775807)
          omega
        have HBT := hid hbt
        have HBS := hid hbs
        clear hbt hbs hts htx hO hG
        go_wp2_with fail
        go_roundw
        case rel =>
          refine ⟨k + 1, A5, c5, by omega, by go_num, ?_, ?_, ?_, ?_, ?_⟩
          next =>
           rw [HBT.out, HBS.out]
           simpa using HO.out.set_ 3 (.string ((blankO 1 k).text ++ ⟨#[0]⟩))
          next =>
           rw [HBS.out]
           exact ownsRow_setCell_other HRW.out (own_blk_ne HRW.out HO.out (by decide)) _
          next =>
           exact HG.out.far (by show w3.heap.size ≠ w3.heap.size + 1; omega) _
          next =>
           exact HW.out.setCell (p := ⟨w3.heap.size + 1, 3, none⟩) (by simp) _
          next =>
           simpa using hsz
        case measure => simp [intOf]; omega
       next =>
        obtain rfl : k = n := by omega
        have hll : ls.length = h.objs.length := by have := congrArg List.length HLS.out; simpa using this
        have HX6 := hid (HX3.out.later HW.out)
        have HK6 := hid (HK3.out.later HW.out)
        have HP6 := hid (HOW.out.later HW.out)
        have HB6 := hid (HB3.out.trans (HW.out.mono HB3.out.size))
        have hw23 := HW23.out
        have hwk : w.heap.size + 1 < w3.heap.size := HK3.out.lt
        have HAL6 := hid (below_alloc wo (.cells #[.int .i64 cl, .int .i64 1, .slice A5 (blankO 1 k).slots.length c5, .string (blankO 1 k).text, .int .i64 0, .int .i64 (nxI h.last)] 41))
        have hR6 := (HP6.out.later HAL6.out).row
        rw [hll] at hR6
        have HR6 := hid hR6
        have HN6 : Hid (∀ j u, (LO.mk { blankO 1 k with cls := cl, hash := nxI h.last } A5 c5).cells[j]? = some u → (wo.alloc (.cells #[.int .i64 cl, .int .i64 1, .slice A5 (blankO 1 k).slots.length c5, .string (blankO 1 k).text, .int .i64 0, .int .i64 (nxI h.last)] 41)).cell? ((⟨wo.heap.size, 0, none⟩ : Addr).add j) = some u) := by
          intro j u hu
          have := (Lies.new wo 41 #[.int .i64 cl, .int .i64 1, .slice A5 (blankO 1 k).slots.length c5, .string (blankO 1 k).text, .int .i64 0, .int .i64 (nxI h.last)]).cell j
          rw [Addr.add_lit, Nat.zero_add, this]
          simpa [LO.cells, blankO] using hu
        have HN61 : Hid (∀ u ∈ (LO.mk { blankO 1 k with cls := cl, hash := nxI h.last } A5 c5).cells, u.oneCell' = true) := by
          intro u hu
          simp [LO.cells] at hu
          rcases hu with rfl | rfl | rfl | rfl | rfl | rfl <;> rfl
        have HL6 : Hid ((LO.mk { blankO 1 k with cls := cl, hash := nxI h.last } A5 c5).cells.length = 1 * 6) := rfl
        have HBS6 : Hid (w2.heap.size ≤ (wo.alloc (.cells #[.int .i64 cl, .int .i64 1, .slice A5 (blankO 1 k).slots.length c5, .string (blankO 1 k).text, .int .i64 0, .int .i64 (nxI h.last)] 41)).heap.size) := by
          show _ ≤ _
          simp; omega
        have hk256 : (h.objs.length + 1) * 72 ≤ 140737488355328 := by omega
        have HG6 := hid (HG.out.later HAL6.out)
        have g0 := hG.cell 0
        have o0 := hO.cell 0
        have o1 := hO.cell 1
        have o4 := hO.cell 4
        have o5 := hO.cell 5
        simp only [List.getElem?_toArray, List.getElem?_cons_zero, List.getElem?_cons_succ] at g0 o0 o1 o4 o5
        clear hR6 hO hG hll
        go_wp2_with (at_builtin; refine wpList_append_own _ rfl (.tmp 80) (.tmp 82) 22 rfl w2.heap.size 41 j0 (.agg #[.int .i64 0, .int .i64 0, .slice none 0 0, .string ⟨#[]⟩, .int .i64 0, .int .i64 0]) 6 72 Tryz.underlying22 hj hy0 hy1 hy2 rfl (by decide) _ _ _ rfl HR6.out ⟨wo.heap.size, 0, none⟩ 1 1 (LO.mk { blankO 1 k with cls := cl, hash := nxI h.last } A5 c5).cells rfl HL6.out HN6.out HN61.out (by unfold maxLen; omega) hk256 HBS6.out ?_)
        intro v4 w4 hown4 hgrow4 _
        obtain ⟨A7, c7, rfl⟩ := own_form hown4
        have hll : ls.length = h.objs.length := by have := congrArg List.length HLS.out; simpa using this
        have hG7 := HG6.out.grown hgrow4 (fun e => own_blk_ne HR6.out HG6.out (by decide) e.symm)
        have hX7 := (HX6.out.later HAL6.out).grown hgrow4 (fun e => own_blk_ne HR6.out (HX6.out.later HAL6.out) (by decide) e.symm)
        have hK7 := (HK6.out.later HAL6.out).grown hgrow4 (fun e => own_blk_ne HR6.out (HK6.out.later HAL6.out) (by decide) e.symm)
        have hP7 : OwnH w4 w2.heap.size A7 c7 (ls ++ [⟨{ blankO 1 k with cls := cl, hash := nxI h.last }, A5, c5⟩]) :=
          (HP6.out.later HAL6.out).push (b := w3.heap.size + 1 + 1) (A2 := A7) (c2 := c7) (own_later HRW.out HAL6.out) (by omega) (fun i li a hi' ha => by have := HOW.out.blk_lt hi' ha; omega) (by rw [hll]; exact hown4) (by rw [hll]; exact hgrow4)
        have hB7 : Below w.heap.size w w4 := (HB6.out.trans (HAL6.out.mono HB6.out.size)).grown hgrow4 (Nat.le_trans HB6.out.size HAL6.out.size) (fun g hg => by have := (HR6.out.lt g hg).1; have := HB2.out.size; omega)
        have pf0 := hG7.frozen 0
        have pp0 := hG7.cell 0
        simp only [List.getElem?_toArray, List.getElem?_cons_zero] at pp0
        have HP8 := hid (hP7.off hG7 0 (.slice A7 (h.objs.length + 1) c7))
        have HG8 := hid (hG7.set_ 0 (.slice A7 (h.objs.length + 1) c7))
        have HX8 := hid (hX7.far (p := ⟨w3.heap.size, 0, none⟩) (by show w.heap.size ≠ w3.heap.size; omega) (.slice A7 (h.objs.length + 1) c7))
        have HK8 := hid (hK7.far (p := ⟨w3.heap.size, 0, none⟩) (by show w.heap.size + 1 ≠ w3.heap.size; omega) (.slice A7 (h.objs.length + 1) c7))
        have HB8 := hid (hB7.setCell (p := ⟨w3.heap.size, 0, none⟩) (by show w.heap.size ≤ w3.heap.size; omega) (.slice A7 (h.objs.length + 1) c7))
        clear hown4 hgrow4 hG7 hX7 hK7 hP7 hB7 g0 o0 o1 o2 o3 o4 o5 of2 of3 hy0 hj
        go_wp2_with fail
        obtain ⟨W8, hW8⟩ : ∃ W8, W8 = w4.setCell ⟨w3.heap.size, 0, none⟩ (.slice A7 (h.objs.length + 1) c7) := ⟨_, rfl⟩
        rw [← hW8] at HP8 HG8 HX8 HK8 HB8 ⊢
        clear hW8 pf0 pp0
        have p0 := HG8.out.cell 0
        have p1 := HG8.out.cell 1
        have p2 := HG8.out.cell 2
        have x0 := HX8.out.cell 0
        have s0 := HK8.out.cell 0
        have s1 := HK8.out.cell 1
        have s2 := HK8.out.cell 2
        have sf0 := HK8.out.frozen 0
        have sf1 := HK8.out.frozen 1
        have sf2 := HK8.out.frozen 2
        simp only [List.setIfInBounds_toArray, List.set_cons_zero, List.getElem?_toArray, List.getElem?_cons_zero, List.getElem?_cons_succ] at p0 p1 p2 x0 s0 s1 s2
        have hwl : IntKind.i64.wrap (2 * (h.objs.length : Int)) = 2 * (h.objs.length : Int) := IntWalk.i64_in _ (by omega)
        have hne8 : w.heap.size + 1 ≠ w.heap.size := by omega
        have hne9 : w.heap.size + 1 ≠ w3.heap.size := by omega
        go_region
        go_wp2_with fail
        obtain ⟨r0, r1, r2⟩ := HK8.out.s3 (.slice A7 (h.objs.length + 1) c7) (.int .i64 h.cap) (.int .i64 (nxI h.last))
        refine bodyPost_ret (v := .tuple #[.agg #[.slice A7 (h.objs.length + 1) c7, .int .i64 h.cap, .int .i64 (nxI h.last)], .int .i64 (2 * (h.objs.length : Int)), .int .i64 0]) (by simp [results, Tryz.results122, go_sem, r0, r1, r2]) rfl ?_
        rw [ER.out, EV.out, E0.out]
        have hw2k : w.heap.size + 1 < w2.heap.size := HK2'.out.lt
        have hmap : (ls ++ [LO.mk { blankO 1 k with cls := cl, hash := nxI h.last } A5 c5]).map (·.o) = (alH h cl 1 ((k : Nat) : Int)).objs := by
          rw [List.map_append, HLS.out]
          simp [alH, newO]
        have hlen2 : (alH h cl 1 ((k : Nat) : Int)).objs.length = h.objs.length + 1 := by simp [alH]
        have hO9 := (((HP8.out.low (p := ⟨w.heap.size + 1, 0, none⟩) (by simp; omega) (.slice A7 (h.objs.length + 1) c7)).low (p := ⟨w.heap.size + 1, 1, none⟩) (by simp; omega) (.int .i64 h.cap)).low (p := ⟨w.heap.size + 1, 2, none⟩) (by simp; omega) (.int .i64 (nxI h.last)))
        have hB9 := (((HB8.out.setCell (p := ⟨w.heap.size + 1, 0, none⟩) (by simp) (.slice A7 (h.objs.length + 1) c7)).setCell (p := ⟨w.heap.size + 1, 1, none⟩) (by simp) (.int .i64 h.cap)).setCell (p := ⟨w.heap.size + 1, 2, none⟩) (by simp) (.int .i64 (nxI h.last)))
        exact ⟨A7, c7, by rw [hlen2]; rfl, (own_obs hO9 hmap).below (Below.refl _ _).drew, hB9.drew, fun _ => ⟨_, hmap, (hO9.later (Below.refl _ _).drew).lower (by omega)⟩⟩
    next =>
     obtain ⟨n, rfl⟩ : ∃ n : Nat, size = n := ⟨size.toNat, by omega⟩
     have ER : Hid (alR h cl 2 n = alH h cl 2 n) := by show _ = _; unfold alR; rw [if_pos e0]
     have EV : Hid (alV h cl 2 n = 2 * (h.objs.length : Int)) := by show _ = _; unfold alV; rw [if_pos e0]
     have E0 := hid e0
     have hlen := may_len hm
     have hn64 : n ≤ 64 := by have := mostI_le 2; omega
     have hk2n : 2 = 2 → n = 0 := fun g => by have h2 : mostI 2 = 0 := rfl; first | omega | (exfalso; omega)
     obtain ⟨q, hq⟩ : ∃ q : Nat, atV cl = q := ⟨(atV cl).toNat, by have := refB_no hr; omega⟩
     have rv : refI h.objs.length cl = q := by rw [refI_nonneg hr, hq]
     have hcapb : ((h.objs.length : Int) == h.cap) = false := by simp; omega
     obtain ⟨j0, hj, hy0, hy1, hy2⟩ := info_parts obj_info
     have HR := hid hr
     have hn0 : n = 0 := hk2n rfl
     subst hn0
     clear hm e0 hr hq hs0 hs1 hcap hk2n hk0 hk1
     go_enter Tryz.func122, Tryz.ntmps122
     go_wp2_with fail
     refine (rmay_any h A c _ (HS.out.below HB0.out) HF.out).mono ?_
     rintro e w1 ⟨rfl, hb1⟩
     rw [HM.out]
     have HB1 := hid (HB0.out.trans (hb1.mono HB0.out.size))
     have HK1 := hid (HK0.out.later hb1)
     have HX1 := hid (HX0.out.later hb1)
     clear hb1
     obtain ⟨x0, x1, x2⟩ := HX1.out.c3
     go_wp2_with fail
     refine (rref_any h cl A c _).mono ?_
     rintro e w2 ⟨rfl, hb2⟩
     rw [rv]
     have HB2 := hid (HB1.out.trans (hb2.mono HB1.out.size))
     have HK2' := hid (HK1.out.later hb2)
     have HX2 := hid (HX1.out.later hb2)
     clear hb2 x0 x1 x2
     obtain ⟨x0, x1, x2⟩ := HX2.out.c3
     go_wp2_with fail
     refine (copy_h h A c _ (HS.out.below HB2.out) HM.out).mono ?_
     rintro e w3 ⟨A3, c3, ls, rfl, hls, hown, hb3⟩
     have HB3 := hid (HB2.out.trans (hb3.mono HB2.out.size))
     have HK3 := hid (HK2'.out.later hb3)
     have HX3 := hid (HX2.out.later hb3)
     have HOW := hid hown
     have HLS := hid hls
     have HW23 := hid hb3.size
     have HAL := hid (below_alloc w3 (.cells #[Value.slice A3 h.objs.length c3, Value.int .i64 h.cap, Value.int .i64 h.last] 24))
     have HX4 := hid (HX3.out.later HAL.out)
     clear hls hown hb3 x0 x1 x2
     obtain ⟨x0, x1, x2⟩ := HX4.out.c3
     go_wp2_with fail
     refine (rnext_any _ _).mono ?_
     rintro e w' ⟨rfl, rfl⟩
     have hlt3 : w.heap.size + 1 < w3.heap.size := HK3.out.lt
     go_wp2_with fail
     obtain ⟨W4, hW4⟩ : ∃ W4, W4 = (w3.alloc (.cells #[.slice A3 h.objs.length c3, .int .i64 h.cap, .int .i64 (nxI h.last)] 24)).alloc (.cells #[.int .i64 cl, .int .i64 2, .slice none 0 0, .string ⟨#[]⟩, .int .i64 0, .int .i64 (nxI h.last)] 41) := ⟨_, rfl⟩
     have hB4 : Below w3.heap.size w3 W4 := by rw [hW4]; exact (below_alloc w3 _).alloc (by simp) _
     have hG4 : Lies W4 w3.heap.size 24 #[.slice A3 h.objs.length c3, .int .i64 h.cap, .int .i64 (nxI h.last)] := by rw [hW4]; exact (Lies.new w3 24 _).alloc _
     have hO4 : Lies W4 (w3.heap.size + 1) 41 #[.int .i64 cl, .int .i64 2, .slice none 0 0, .string ⟨#[]⟩, .int .i64 0, .int .i64 (nxI h.last)] := by
       rw [hW4]
       have := Lies.new (w3.alloc (.cells #[.slice A3 h.objs.length c3, .int .i64 h.cap, .int .i64 (nxI h.last)] 24)) 41 #[.int .i64 cl, .int .i64 2, .slice none 0 0, .string ⟨#[]⟩, .int .i64 0, .int .i64 (nxI h.last)]
       rwa [World.size_alloc] at this
     have hz4 : W4.heap.size = w3.heap.size + 1 + 1 := by rw [hW4]; simp
     rw [← hW4]
     have HB4 := hid hB4
     have HG4 := hid hG4
     have HO4 := hid hO4
     clear hB4 hG4 hO4 hW4 x0 x1 x2
     go_loopw [13] (fun i wr => ∃ (k : Nat) (A5 : Option Addr) (c5 : Nat), k ≤ 0 ∧ i = .int .i64 k ∧ Lies wr (w3.heap.size + 1) 41 #[.int .i64 cl, .int .i64 2, .slice A5 (blankO 2 k).slots.length c5, .string (blankO 2 k).text, .int .i64 0, .int .i64 (nxI h.last)] ∧ wr.ownsRow (w3.heap.size + 1 + 1) 3 1 (.slice A5 (blankO 2 k).slots.length c5) (blankO 2 k).slots.length ((blankO 2 k).slots.map (Value.int .i64)) ∧ Lies wr w3.heap.size 24 #[.slice A3 h.objs.length c3, .int .i64 h.cap, .int .i64 (nxI h.last)] ∧ Below w3.heap.size w3 wr ∧ w3.heap.size + 1 + 1 ≤ wr.heap.size) (fun i _ => 0 - (intOf i).toNat)
     case atStart =>
       have b0 := blank_nil 2
       refine ⟨0, none, 0, Nat.zero_le _, rfl, by rw [b0.1, b0.2]; exact HO4.out, by rw [b0.1]; exact World.ownsRow_nil _ _ _ _, HG4.out, HB4.out, by omega⟩
     case round =>
       clear HO4 HG4 HB4
       obtain ⟨k, A5, c5, hk, rfl, hO, hrow, hG, hbw, hsz⟩ := hrel
       rename World => wo
       have HO := hid hO
       have HRW := hid hrow
       have HG := hid hG
       have HW := hid hbw
       have o2 := hO.cell 2
       have o3 := hO.cell 3
       simp only [List.getElem?_toArray, List.getElem?_cons_zero, List.getElem?_cons_succ] at o2 o3
       have of2 := hO.frozen 2
       have of3 := hO.frozen 3
       clear hrow hbw
       by_cases hlt : k < 0
       next =>
        omega
       next =>
        obtain rfl : k = 0 := by omega
        have hll : ls.length = h.objs.length := by have := congrArg List.length HLS.out; simpa using this
        have HX6 := hid (HX3.out.later HW.out)
        have HK6 := hid (HK3.out.later HW.out)
        have HP6 := hid (HOW.out.later HW.out)
        have HB6 := hid (HB3.out.trans (HW.out.mono HB3.out.size))
        have hw23 := HW23.out
        have hwk : w.heap.size + 1 < w3.heap.size := HK3.out.lt
        have HAL6 := hid (below_alloc wo (.cells #[.int .i64 cl, .int .i64 2, .slice A5 (blankO 2 0).slots.length c5, .string (blankO 2 0).text, .int .i64 0, .int .i64 (nxI h.last)] 41))
        have hR6 := (HP6.out.later HAL6.out).row
        rw [hll] at hR6
        have HR6 := hid hR6
        have HN6 : Hid (∀ j u, (LO.mk { blankO 2 0 with cls := cl, hash := nxI h.last } A5 c5).cells[j]? = some u → (wo.alloc (.cells #[.int .i64 cl, .int .i64 2, .slice A5 (blankO 2 0).slots.length c5, .string (blankO 2 0).text, .int .i64 0, .int .i64 (nxI h.last)] 41)).cell? ((⟨wo.heap.size, 0, none⟩ : Addr).add j) = some u) := by
          intro j u hu
          have := (Lies.new wo 41 #[.int .i64 cl, .int .i64 2, .slice A5 (blankO 2 0).slots.length c5, .string (blankO 2 0).text, .int .i64 0, .int .i64 (nxI h.last)]).cell j
          rw [Addr.add_lit, Nat.zero_add, this]
          simpa [LO.cells, blankO] using hu
        have HN61 : Hid (∀ u ∈ (LO.mk { blankO 2 0 with cls := cl, hash := nxI h.last } A5 c5).cells, u.oneCell' = true) := by
          intro u hu
          simp [LO.cells] at hu
          rcases hu with rfl | rfl | rfl | rfl | rfl | rfl <;> rfl
        have HL6 : Hid ((LO.mk { blankO 2 0 with cls := cl, hash := nxI h.last } A5 c5).cells.length = 1 * 6) := rfl
        have HBS6 : Hid (w2.heap.size ≤ (wo.alloc (.cells #[.int .i64 cl, .int .i64 2, .slice A5 (blankO 2 0).slots.length c5, .string (blankO 2 0).text, .int .i64 0, .int .i64 (nxI h.last)] 41)).heap.size) := by
          show _ ≤ _
          simp; omega
        have hk256 : (h.objs.length + 1) * 72 ≤ 140737488355328 := by omega
        have HG6 := hid (HG.out.later HAL6.out)
        have g0 := hG.cell 0
        have o0 := hO.cell 0
        have o1 := hO.cell 1
        have o4 := hO.cell 4
        have o5 := hO.cell 5
        simp only [List.getElem?_toArray, List.getElem?_cons_zero, List.getElem?_cons_succ] at g0 o0 o1 o4 o5
        clear hR6 hO hG hll
        go_wp2_with (at_builtin; refine wpList_append_own _ rfl (.tmp 80) (.tmp 82) 22 rfl w2.heap.size 41 j0 (.agg #[.int .i64 0, .int .i64 0, .slice none 0 0, .string ⟨#[]⟩, .int .i64 0, .int .i64 0]) 6 72 Tryz.underlying22 hj hy0 hy1 hy2 rfl (by decide) _ _ _ rfl HR6.out ⟨wo.heap.size, 0, none⟩ 1 1 (LO.mk { blankO 2 0 with cls := cl, hash := nxI h.last } A5 c5).cells rfl HL6.out HN6.out HN61.out (by unfold maxLen; omega) hk256 HBS6.out ?_)
        intro v4 w4 hown4 hgrow4 _
        obtain ⟨A7, c7, rfl⟩ := own_form hown4
        have hll : ls.length = h.objs.length := by have := congrArg List.length HLS.out; simpa using this
        have hG7 := HG6.out.grown hgrow4 (fun e => own_blk_ne HR6.out HG6.out (by decide) e.symm)
        have hX7 := (HX6.out.later HAL6.out).grown hgrow4 (fun e => own_blk_ne HR6.out (HX6.out.later HAL6.out) (by decide) e.symm)
        have hK7 := (HK6.out.later HAL6.out).grown hgrow4 (fun e => own_blk_ne HR6.out (HK6.out.later HAL6.out) (by decide) e.symm)
        have hP7 : OwnH w4 w2.heap.size A7 c7 (ls ++ [⟨{ blankO 2 0 with cls := cl, hash := nxI h.last }, A5, c5⟩]) :=
          (HP6.out.later HAL6.out).push (b := w3.heap.size + 1 + 1) (A2 := A7) (c2 := c7) (own_later HRW.out HAL6.out) (by omega) (fun i li a hi' ha => by have := HOW.out.blk_lt hi' ha; omega) (by rw [hll]; exact hown4) (by rw [hll]; exact hgrow4)
        have hB7 : Below w.heap.size w w4 := (HB6.out.trans (HAL6.out.mono HB6.out.size)).grown hgrow4 (Nat.le_trans HB6.out.size HAL6.out.size) (fun g hg => by have := (HR6.out.lt g hg).1; have := HB2.out.size; omega)
        have pf0 := hG7.frozen 0
        have pp0 := hG7.cell 0
        simp only [List.getElem?_toArray, List.getElem?_cons_zero] at pp0
        have HP8 := hid (hP7.off hG7 0 (.slice A7 (h.objs.length + 1) c7))
        have HG8 := hid (hG7.set_ 0 (.slice A7 (h.objs.length + 1) c7))
        have HX8 := hid (hX7.far (p := ⟨w3.heap.size, 0, none⟩) (by show w.heap.size ≠ w3.heap.size; omega) (.slice A7 (h.objs.length + 1) c7))
        have HK8 := hid (hK7.far (p := ⟨w3.heap.size, 0, none⟩) (by show w.heap.size + 1 ≠ w3.heap.size; omega) (.slice A7 (h.objs.length + 1) c7))
        have HB8 := hid (hB7.setCell (p := ⟨w3.heap.size, 0, none⟩) (by show w.heap.size ≤ w3.heap.size; omega) (.slice A7 (h.objs.length + 1) c7))
        clear hown4 hgrow4 hG7 hX7 hK7 hP7 hB7 g0 o0 o1 o2 o3 o4 o5 of2 of3 hy0 hj
        go_wp2_with fail
        obtain ⟨W8, hW8⟩ : ∃ W8, W8 = w4.setCell ⟨w3.heap.size, 0, none⟩ (.slice A7 (h.objs.length + 1) c7) := ⟨_, rfl⟩
        rw [← hW8] at HP8 HG8 HX8 HK8 HB8 ⊢
        clear hW8 pf0 pp0
        have p0 := HG8.out.cell 0
        have p1 := HG8.out.cell 1
        have p2 := HG8.out.cell 2
        have x0 := HX8.out.cell 0
        have s0 := HK8.out.cell 0
        have s1 := HK8.out.cell 1
        have s2 := HK8.out.cell 2
        have sf0 := HK8.out.frozen 0
        have sf1 := HK8.out.frozen 1
        have sf2 := HK8.out.frozen 2
        simp only [List.setIfInBounds_toArray, List.set_cons_zero, List.getElem?_toArray, List.getElem?_cons_zero, List.getElem?_cons_succ] at p0 p1 p2 x0 s0 s1 s2
        have hwl : IntKind.i64.wrap (2 * (h.objs.length : Int)) = 2 * (h.objs.length : Int) := IntWalk.i64_in _ (by omega)
        have hne8 : w.heap.size + 1 ≠ w.heap.size := by omega
        have hne9 : w.heap.size + 1 ≠ w3.heap.size := by omega
        go_region
        go_wp2_with fail
        obtain ⟨r0, r1, r2⟩ := HK8.out.s3 (.slice A7 (h.objs.length + 1) c7) (.int .i64 h.cap) (.int .i64 (nxI h.last))
        refine bodyPost_ret (v := .tuple #[.agg #[.slice A7 (h.objs.length + 1) c7, .int .i64 h.cap, .int .i64 (nxI h.last)], .int .i64 (2 * (h.objs.length : Int)), .int .i64 0]) (by simp [results, Tryz.results122, go_sem, r0, r1, r2]) rfl ?_
        rw [ER.out, EV.out, E0.out]
        have hw2k : w.heap.size + 1 < w2.heap.size := HK2'.out.lt
        have hmap : (ls ++ [LO.mk { blankO 2 0 with cls := cl, hash := nxI h.last } A5 c5]).map (·.o) = (alH h cl 2 ((0 : Nat) : Int)).objs := by
          rw [List.map_append, HLS.out]
          simp [alH, newO]
        have hlen2 : (alH h cl 2 ((0 : Nat) : Int)).objs.length = h.objs.length + 1 := by simp [alH]
        have hO9 := (((HP8.out.low (p := ⟨w.heap.size + 1, 0, none⟩) (by simp; omega) (.slice A7 (h.objs.length + 1) c7)).low (p := ⟨w.heap.size + 1, 1, none⟩) (by simp; omega) (.int .i64 h.cap)).low (p := ⟨w.heap.size + 1, 2, none⟩) (by simp; omega) (.int .i64 (nxI h.last)))
        have hB9 := (((HB8.out.setCell (p := ⟨w.heap.size + 1, 0, none⟩) (by simp) (.slice A7 (h.objs.length + 1) c7)).setCell (p := ⟨w.heap.size + 1, 1, none⟩) (by simp) (.int .i64 h.cap)).setCell (p := ⟨w.heap.size + 1, 2, none⟩) (by simp) (.int .i64 (nxI h.last)))
        exact ⟨A7, c7, by rw [hlen2]; rfl, (own_obs hO9 hmap).below (Below.refl _ _).drew, hB9.drew, fun _ => ⟨_, hmap, (hO9.later (Below.refl _ _).drew).lower (by omega)⟩⟩
   next =>
    obtain ⟨e2, e3⟩ := ra_no e0 hm
    rw [e2, e3]
    have E0 := hid e0
    have fin : ∀ (W : World) (en : Int), Lies W (w.heap.size + 1) 24 #[.slice none 0 0, .int .i64 0, .int .i64 0] → Below w.heap.size w W → en ≠ 0 → HeapOv13 w h 0 en (.returned (.tuple #[.agg #[.slice A h.objs.length c, .int .i64 h.cap, .int .i64 h.last], .int .i64 0, .int .i64 en])) (((W.setCell ⟨w.heap.size + 1, 0, none⟩ (.slice A h.objs.length c)).setCell ⟨w.heap.size + 1, 1, none⟩ (.int .i64 h.cap)).setCell ⟨w.heap.size + 1, 2, none⟩ (.int .i64 h.last)) := fun W en _ hb hz => by
      have hB := (((hb.setCell (p := ⟨w.heap.size + 1, 0, none⟩) (by simp) (.slice A h.objs.length c)).setCell (p := ⟨w.heap.size + 1, 1, none⟩) (by simp) (.int .i64 h.cap)).setCell (p := ⟨w.heap.size + 1, 2, none⟩) (by simp) (.int .i64 h.last))
      exact ⟨A, c, rfl, HS.out.below hB, hB, fun e => absurd e hz⟩
    have FIN := hid fin
    clear e2 e3 e0 fin
    cases hr : refB h.objs.length cl
    next =>
     have e1 : roE h cl kind size = 31 := by
       unfold roE
       rw [if_neg (by rw [HM.out]; decide), if_pos hr]
     rw [e1]; clear e1
     have rv : refI h.objs.length cl = -1 := by unfold refI; rw [if_neg (by rw [hr]; decide)]
     clear hr
     go_enter Tryz.func122, Tryz.ntmps122
     go_wp2_with fail
     refine (rmay_any h A c _ (HS.out.below HB0.out) HF.out).mono ?_
     rintro e w1 ⟨rfl, hb1⟩
     rw [HM.out]
     have HB1 := hid (HB0.out.trans (hb1.mono HB0.out.size))
     have HK1 := hid (HK0.out.later hb1)
     have HX1 := hid (HX0.out.later hb1)
     clear hb1
     obtain ⟨x0, x1, x2⟩ := HX1.out.c3
     go_wp2_with fail
     refine (rref_any h cl A c _).mono ?_
     rintro e w2 ⟨rfl, hb2⟩
     rw [rv]
     have HB2 := hid (HB1.out.trans (hb2.mono HB1.out.size))
     have HK2 := hid (HK1.out.later hb2)
     have HX2 := hid (HX1.out.later hb2)
     have hlt2 := HK2.out.lt
     clear hb2 x0 x1 x2
     have x0 := HX2.out.cell 0
     have x1 := HX2.out.cell 1
     have x2 := HX2.out.cell 2
     have u0 := HK2.out.cell 0
     have u1 := HK2.out.cell 1
     have u2 := HK2.out.cell 2
     have uf0 := HK2.out.frozen 0
     have uf1 := HK2.out.frozen 1
     have uf2 := HK2.out.frozen 2
     simp only [List.getElem?_toArray, List.getElem?_cons_zero, List.getElem?_cons_succ] at x0 x1 x2 u0 u1 u2
     go_wp2_with fail
     obtain ⟨r0, r1, r2⟩ := HK2.out.s3 (.slice A h.objs.length c) (.int .i64 h.cap) (.int .i64 h.last)
     refine bodyPost_ret (v := .tuple #[.agg #[.slice A h.objs.length c, .int .i64 h.cap, .int .i64 h.last], .int .i64 0, .int .i64 31]) (by simp [results, Tryz.results122, go_sem, r0, r1, r2]) rfl ?_
     exact FIN.out _ 31 HK2.out HB2.out (by decide)
    next =>
     rcases (show kind < 0 ∨ (0 ≤ kind ∧ 2 < kind) ∨ (0 ≤ kind ∧ kind ≤ 2) by omega) with hk | ⟨hk, hk2⟩ | ⟨hk, hk2⟩
     next =>
      have e1 : roE h cl kind size = 33 := by
        unfold roE
        rw [if_neg (by rw [HM.out]; decide), if_neg (by rw [hr]; decide), if_pos (by omega)]
      rw [e1]; clear e1
      obtain ⟨q, hq⟩ : ∃ q : Nat, atV cl = q := ⟨(atV cl).toNat, by have := refB_no hr; omega⟩
      have rv : refI h.objs.length cl = q := by rw [refI_nonneg hr, hq]
      clear hr
      go_enter Tryz.func122, Tryz.ntmps122
      go_wp2_with fail
      refine (rmay_any h A c _ (HS.out.below HB0.out) HF.out).mono ?_
      rintro e w1 ⟨rfl, hb1⟩
      rw [HM.out]
      have HB1 := hid (HB0.out.trans (hb1.mono HB0.out.size))
      have HK1 := hid (HK0.out.later hb1)
      have HX1 := hid (HX0.out.later hb1)
      clear hb1
      obtain ⟨x0, x1, x2⟩ := HX1.out.c3
      go_wp2_with fail
      refine (rref_any h cl A c _).mono ?_
      rintro e w2 ⟨rfl, hb2⟩
      rw [rv]
      have HB2 := hid (HB1.out.trans (hb2.mono HB1.out.size))
      have HK2 := hid (HK1.out.later hb2)
      have HX2 := hid (HX1.out.later hb2)
      have hlt2 := HK2.out.lt
      clear hb2 x0 x1 x2
      have x0 := HX2.out.cell 0
      have x1 := HX2.out.cell 1
      have x2 := HX2.out.cell 2
      have u0 := HK2.out.cell 0
      have u1 := HK2.out.cell 1
      have u2 := HK2.out.cell 2
      have uf0 := HK2.out.frozen 0
      have uf1 := HK2.out.frozen 1
      have uf2 := HK2.out.frozen 2
      simp only [List.getElem?_toArray, List.getElem?_cons_zero, List.getElem?_cons_succ] at x0 x1 x2 u0 u1 u2
      go_wp2_with fail
      obtain ⟨r0, r1, r2⟩ := HK2.out.s3 (.slice A h.objs.length c) (.int .i64 h.cap) (.int .i64 h.last)
      refine bodyPost_ret (v := .tuple #[.agg #[.slice A h.objs.length c, .int .i64 h.cap, .int .i64 h.last], .int .i64 0, .int .i64 33]) (by simp [results, Tryz.results122, go_sem, r0, r1, r2]) rfl ?_
      exact FIN.out _ 33 HK2.out HB2.out (by decide)
     next =>
      have e1 : roE h cl kind size = 33 := by
        unfold roE
        rw [if_neg (by rw [HM.out]; decide), if_neg (by rw [hr]; decide), if_pos (by omega)]
      rw [e1]; clear e1
      obtain ⟨q, hq⟩ : ∃ q : Nat, atV cl = q := ⟨(atV cl).toNat, by have := refB_no hr; omega⟩
      have rv : refI h.objs.length cl = q := by rw [refI_nonneg hr, hq]
      clear hr
      go_enter Tryz.func122, Tryz.ntmps122
      go_wp2_with fail
      refine (rmay_any h A c _ (HS.out.below HB0.out) HF.out).mono ?_
      rintro e w1 ⟨rfl, hb1⟩
      rw [HM.out]
      have HB1 := hid (HB0.out.trans (hb1.mono HB0.out.size))
      have HK1 := hid (HK0.out.later hb1)
      have HX1 := hid (HX0.out.later hb1)
      clear hb1
      obtain ⟨x0, x1, x2⟩ := HX1.out.c3
      go_wp2_with fail
      refine (rref_any h cl A c _).mono ?_
      rintro e w2 ⟨rfl, hb2⟩
      rw [rv]
      have HB2 := hid (HB1.out.trans (hb2.mono HB1.out.size))
      have HK2 := hid (HK1.out.later hb2)
      have HX2 := hid (HX1.out.later hb2)
      have hlt2 := HK2.out.lt
      clear hb2 x0 x1 x2
      have x0 := HX2.out.cell 0
      have x1 := HX2.out.cell 1
      have x2 := HX2.out.cell 2
      have u0 := HK2.out.cell 0
      have u1 := HK2.out.cell 1
      have u2 := HK2.out.cell 2
      have uf0 := HK2.out.frozen 0
      have uf1 := HK2.out.frozen 1
      have uf2 := HK2.out.frozen 2
      simp only [List.getElem?_toArray, List.getElem?_cons_zero, List.getElem?_cons_succ] at x0 x1 x2 u0 u1 u2
      go_wp2_with fail
      obtain ⟨r0, r1, r2⟩ := HK2.out.s3 (.slice A h.objs.length c) (.int .i64 h.cap) (.int .i64 h.last)
      refine bodyPost_ret (v := .tuple #[.agg #[.slice A h.objs.length c, .int .i64 h.cap, .int .i64 h.last], .int .i64 0, .int .i64 33]) (by simp [results, Tryz.results122, go_sem, r0, r1, r2]) rfl ?_
      exact FIN.out _ 33 HK2.out HB2.out (by decide)
     next =>
      rcases (show size < 0 ∨ (0 ≤ size ∧ 64 < size) ∨ (0 ≤ size ∧ size ≤ 64) by omega) with hz | ⟨hz, hz2⟩ | ⟨hz, hz2⟩
      next =>
       have e1 : roE h cl kind size = 32 := by
         unfold roE
         rw [if_neg (by rw [HM.out]; decide), if_neg (by rw [hr]; decide), if_neg (by omega), if_pos (by omega)]
       rw [e1]; clear e1
       obtain ⟨q, hq⟩ : ∃ q : Nat, atV cl = q := ⟨(atV cl).toNat, by have := refB_no hr; omega⟩
       have rv : refI h.objs.length cl = q := by rw [refI_nonneg hr, hq]
       clear hr
       go_enter Tryz.func122, Tryz.ntmps122
       go_wp2_with fail
       refine (rmay_any h A c _ (HS.out.below HB0.out) HF.out).mono ?_
       rintro e w1 ⟨rfl, hb1⟩
       rw [HM.out]
       have HB1 := hid (HB0.out.trans (hb1.mono HB0.out.size))
       have HK1 := hid (HK0.out.later hb1)
       have HX1 := hid (HX0.out.later hb1)
       clear hb1
       obtain ⟨x0, x1, x2⟩ := HX1.out.c3
       go_wp2_with fail
       refine (rref_any h cl A c _).mono ?_
       rintro e w2 ⟨rfl, hb2⟩
       rw [rv]
       have HB2 := hid (HB1.out.trans (hb2.mono HB1.out.size))
       have HK2 := hid (HK1.out.later hb2)
       have HX2 := hid (HX1.out.later hb2)
       have hlt2 := HK2.out.lt
       clear hb2 x0 x1 x2
       have x0 := HX2.out.cell 0
       have x1 := HX2.out.cell 1
       have x2 := HX2.out.cell 2
       have u0 := HK2.out.cell 0
       have u1 := HK2.out.cell 1
       have u2 := HK2.out.cell 2
       have uf0 := HK2.out.frozen 0
       have uf1 := HK2.out.frozen 1
       have uf2 := HK2.out.frozen 2
       simp only [List.getElem?_toArray, List.getElem?_cons_zero, List.getElem?_cons_succ] at x0 x1 x2 u0 u1 u2
       go_wp2_with fail
       obtain ⟨r0, r1, r2⟩ := HK2.out.s3 (.slice A h.objs.length c) (.int .i64 h.cap) (.int .i64 h.last)
       refine bodyPost_ret (v := .tuple #[.agg #[.slice A h.objs.length c, .int .i64 h.cap, .int .i64 h.last], .int .i64 0, .int .i64 32]) (by simp [results, Tryz.results122, go_sem, r0, r1, r2]) rfl ?_
       exact FIN.out _ 32 HK2.out HB2.out (by decide)
      next =>
       have e1 : roE h cl kind size = 32 := by
         unfold roE
         rw [if_neg (by rw [HM.out]; decide), if_neg (by rw [hr]; decide), if_neg (by omega), if_pos (by have := mostI_le kind; omega)]
       rw [e1]; clear e1
       obtain ⟨q, hq⟩ : ∃ q : Nat, atV cl = q := ⟨(atV cl).toNat, by have := refB_no hr; omega⟩
       have rv : refI h.objs.length cl = q := by rw [refI_nonneg hr, hq]
       clear hr
       go_enter Tryz.func122, Tryz.ntmps122
       go_wp2_with fail
       refine (rmay_any h A c _ (HS.out.below HB0.out) HF.out).mono ?_
       rintro e w1 ⟨rfl, hb1⟩
       rw [HM.out]
       have HB1 := hid (HB0.out.trans (hb1.mono HB0.out.size))
       have HK1 := hid (HK0.out.later hb1)
       have HX1 := hid (HX0.out.later hb1)
       clear hb1
       obtain ⟨x0, x1, x2⟩ := HX1.out.c3
       go_wp2_with fail
       refine (rref_any h cl A c _).mono ?_
       rintro e w2 ⟨rfl, hb2⟩
       rw [rv]
       have HB2 := hid (HB1.out.trans (hb2.mono HB1.out.size))
       have HK2 := hid (HK1.out.later hb2)
       have HX2 := hid (HX1.out.later hb2)
       have hlt2 := HK2.out.lt
       clear hb2 x0 x1 x2
       have x0 := HX2.out.cell 0
       have x1 := HX2.out.cell 1
       have x2 := HX2.out.cell 2
       have u0 := HK2.out.cell 0
       have u1 := HK2.out.cell 1
       have u2 := HK2.out.cell 2
       have uf0 := HK2.out.frozen 0
       have uf1 := HK2.out.frozen 1
       have uf2 := HK2.out.frozen 2
       simp only [List.getElem?_toArray, List.getElem?_cons_zero, List.getElem?_cons_succ] at x0 x1 x2 u0 u1 u2
       go_wp2_with fail
       obtain ⟨r0, r1, r2⟩ := HK2.out.s3 (.slice A h.objs.length c) (.int .i64 h.cap) (.int .i64 h.last)
       refine bodyPost_ret (v := .tuple #[.agg #[.slice A h.objs.length c, .int .i64 h.cap, .int .i64 h.last], .int .i64 0, .int .i64 32]) (by simp [results, Tryz.results122, go_sem, r0, r1, r2]) rfl ?_
       exact FIN.out _ 32 HK2.out HB2.out (by decide)
      next =>
       by_cases hk3 : kind = 2 ∧ size ≠ 0
       next =>
        obtain ⟨rfl, hz3⟩ := hk3
        have hz4 : (size != 0) = true := by simpa using hz3
        have e1 : roE h cl 2 size = 32 := by
          unfold roE
          rw [if_neg (by rw [HM.out]; decide), if_neg (by rw [hr]; decide), if_neg (by omega), if_pos (by right; show (0 : Int) < size; omega)]
        rw [e1]; clear e1
        obtain ⟨q, hq⟩ : ∃ q : Nat, atV cl = q := ⟨(atV cl).toNat, by have := refB_no hr; omega⟩
        have rv : refI h.objs.length cl = q := by rw [refI_nonneg hr, hq]
        clear hr
        go_enter Tryz.func122, Tryz.ntmps122
        go_wp2_with fail
        refine (rmay_any h A c _ (HS.out.below HB0.out) HF.out).mono ?_
        rintro e w1 ⟨rfl, hb1⟩
        rw [HM.out]
        have HB1 := hid (HB0.out.trans (hb1.mono HB0.out.size))
        have HK1 := hid (HK0.out.later hb1)
        have HX1 := hid (HX0.out.later hb1)
        clear hb1
        obtain ⟨x0, x1, x2⟩ := HX1.out.c3
        go_wp2_with fail
        refine (rref_any h cl A c _).mono ?_
        rintro e w2 ⟨rfl, hb2⟩
        rw [rv]
        have HB2 := hid (HB1.out.trans (hb2.mono HB1.out.size))
        have HK2 := hid (HK1.out.later hb2)
        have HX2 := hid (HX1.out.later hb2)
        have hlt2 := HK2.out.lt
        clear hb2 x0 x1 x2
        have x0 := HX2.out.cell 0
        have x1 := HX2.out.cell 1
        have x2 := HX2.out.cell 2
        have u0 := HK2.out.cell 0
        have u1 := HK2.out.cell 1
        have u2 := HK2.out.cell 2
        have uf0 := HK2.out.frozen 0
        have uf1 := HK2.out.frozen 1
        have uf2 := HK2.out.frozen 2
        simp only [List.getElem?_toArray, List.getElem?_cons_zero, List.getElem?_cons_succ] at x0 x1 x2 u0 u1 u2
        go_wp2_with fail
        obtain ⟨r0, r1, r2⟩ := HK2.out.s3 (.slice A h.objs.length c) (.int .i64 h.cap) (.int .i64 h.last)
        refine bodyPost_ret (v := .tuple #[.agg #[.slice A h.objs.length c, .int .i64 h.cap, .int .i64 h.last], .int .i64 0, .int .i64 32]) (by simp [results, Tryz.results122, go_sem, r0, r1, r2]) rfl ?_
        exact FIN.out _ 32 HK2.out HB2.out (by decide)
       next =>
        have hms : size ≤ mostI kind := by
          unfold mostI
          split
          next =>
           omega
          next =>
           split
           next =>
            omega
           next =>
            have : size = 0 := by
              rcases Classical.em (size = 0) with g | g
              next =>
               exact g
              next =>
               exact absurd ⟨by omega, g⟩ hk3
            omega
        have hfull : h.cap ≤ (h.objs.length : Int) := by
          rcases Classical.em (h.cap ≤ (h.objs.length : Int)) with g | g
          next =>
           exact g
          next =>
           exact absurd (by unfold roE; rw [if_neg (by rw [HM.out]; decide), if_neg (by rw [hr]; decide), if_neg (by omega), if_neg (by omega), if_neg g]) E0.out
        have hcap := may_capR HM.out
        have hfe : (h.objs.length : Int) = h.cap := by omega
        have hfb : ((h.objs.length : Int) == h.cap) = true := by simpa using hfe
        clear hfull
        by_cases hk4 : kind = 2
        next =>
         have hz5 : size = 0 := by
           rcases Classical.em (size = 0) with g | g
           next =>
            exact g
           next =>
            exact absurd ⟨hk4, g⟩ hk3
         subst hz5 hk4
         have e1 : roE h cl 2 0 = 30 := by
           unfold roE
           rw [if_neg (by rw [HM.out]; decide), if_neg (by rw [hr]; decide), if_neg (by omega), if_neg (by omega), if_pos (by omega)]
         rw [e1]; clear e1
         obtain ⟨q, hq⟩ : ∃ q : Nat, atV cl = q := ⟨(atV cl).toNat, by have := refB_no hr; omega⟩
         have rv : refI h.objs.length cl = q := by rw [refI_nonneg hr, hq]
         clear hr
         go_enter Tryz.func122, Tryz.ntmps122
         go_wp2_with fail
         refine (rmay_any h A c _ (HS.out.below HB0.out) HF.out).mono ?_
         rintro e w1 ⟨rfl, hb1⟩
         rw [HM.out]
         have HB1 := hid (HB0.out.trans (hb1.mono HB0.out.size))
         have HK1 := hid (HK0.out.later hb1)
         have HX1 := hid (HX0.out.later hb1)
         clear hb1
         obtain ⟨x0, x1, x2⟩ := HX1.out.c3
         go_wp2_with fail
         refine (rref_any h cl A c _).mono ?_
         rintro e w2 ⟨rfl, hb2⟩
         rw [rv]
         have HB2 := hid (HB1.out.trans (hb2.mono HB1.out.size))
         have HK2 := hid (HK1.out.later hb2)
         have HX2 := hid (HX1.out.later hb2)
         have hlt2 := HK2.out.lt
         clear hb2 x0 x1 x2
         have x0 := HX2.out.cell 0
         have x1 := HX2.out.cell 1
         have x2 := HX2.out.cell 2
         have u0 := HK2.out.cell 0
         have u1 := HK2.out.cell 1
         have u2 := HK2.out.cell 2
         have uf0 := HK2.out.frozen 0
         have uf1 := HK2.out.frozen 1
         have uf2 := HK2.out.frozen 2
         simp only [List.getElem?_toArray, List.getElem?_cons_zero, List.getElem?_cons_succ] at x0 x1 x2 u0 u1 u2
         go_wp2_with fail
         obtain ⟨r0, r1, r2⟩ := HK2.out.s3 (.slice A h.objs.length c) (.int .i64 h.cap) (.int .i64 h.last)
         refine bodyPost_ret (v := .tuple #[.agg #[.slice A h.objs.length c, .int .i64 h.cap, .int .i64 h.last], .int .i64 0, .int .i64 30]) (by simp [results, Tryz.results122, go_sem, r0, r1, r2]) rfl ?_
         exact FIN.out _ 30 HK2.out HB2.out (by decide)
        next =>
         have e1 : roE h cl kind size = 30 := by
           unfold roE
           rw [if_neg (by rw [HM.out]; decide), if_neg (by rw [hr]; decide), if_neg (by omega), if_neg (by omega), if_pos (by omega)]
         rw [e1]; clear e1
         obtain ⟨q, hq⟩ : ∃ q : Nat, atV cl = q := ⟨(atV cl).toNat, by have := refB_no hr; omega⟩
         have rv : refI h.objs.length cl = q := by rw [refI_nonneg hr, hq]
         clear hr
         go_enter Tryz.func122, Tryz.ntmps122
         go_wp2_with fail
         refine (rmay_any h A c _ (HS.out.below HB0.out) HF.out).mono ?_
         rintro e w1 ⟨rfl, hb1⟩
         rw [HM.out]
         have HB1 := hid (HB0.out.trans (hb1.mono HB0.out.size))
         have HK1 := hid (HK0.out.later hb1)
         have HX1 := hid (HX0.out.later hb1)
         clear hb1
         obtain ⟨x0, x1, x2⟩ := HX1.out.c3
         go_wp2_with fail
         refine (rref_any h cl A c _).mono ?_
         rintro e w2 ⟨rfl, hb2⟩
         rw [rv]
         have HB2 := hid (HB1.out.trans (hb2.mono HB1.out.size))
         have HK2 := hid (HK1.out.later hb2)
         have HX2 := hid (HX1.out.later hb2)
         have hlt2 := HK2.out.lt
         clear hb2 x0 x1 x2
         have x0 := HX2.out.cell 0
         have x1 := HX2.out.cell 1
         have x2 := HX2.out.cell 2
         have u0 := HK2.out.cell 0
         have u1 := HK2.out.cell 1
         have u2 := HK2.out.cell 2
         have uf0 := HK2.out.frozen 0
         have uf1 := HK2.out.frozen 1
         have uf2 := HK2.out.frozen 2
         simp only [List.getElem?_toArray, List.getElem?_cons_zero, List.getElem?_cons_succ] at x0 x1 x2 u0 u1 u2
         go_wp2_with fail
         obtain ⟨r0, r1, r2⟩ := HK2.out.s3 (.slice A h.objs.length c) (.int .i64 h.cap) (.int .i64 h.last)
         refine bodyPost_ret (v := .tuple #[.agg #[.slice A h.objs.length c, .int .i64 h.cap, .int .i64 h.last], .int .i64 0, .int .i64 30]) (by simp [results, Tryz.results122, go_sem, r0, r1, r2]) rfl ?_
         exact FIN.out _ 30 HK2.out HB2.out (by decide)
end Go.Proofs.YtnilempeldlieaaGreat
