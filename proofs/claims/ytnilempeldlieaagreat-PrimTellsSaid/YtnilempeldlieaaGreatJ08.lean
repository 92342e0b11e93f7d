/- SetByte, the program's. A heap of the call's own in which two objects have changed places. -/
import Derived.Test.YtnilempeldlieaaGreatJ07
import Derived.Laws.IdiomStrings
namespace Go.Proofs.YtnilempeldlieaaGreat
open Go.RowKit
set_option maxRecDepth 100000
def setT (t : ByteArray) (j : Nat) (b : Int) : ByteArray := ⟨(t.data.toList.set j (UInt8.ofNat b.toNat)).toArray⟩
def sbH (h : Hp) (v k x : Int) : Hp := { h with objs := h.objs.set (atV v).toNat { obAt h v with text := setT (obAt h v).text k.toNat x } }
def sbE (h : Hp) (v k x : Int) : Int := if plE h v 1 k = 0 then (if 0 ≤ x ∧ x ≤ 255 then 0 else 32) else plE h v 1 k
def sbR (h : Hp) (v k x : Int) : Hp := if sbE h v k x = 0 then sbH h v k x else unH h (sbE h v k x)
theorem bytes_size (t : ByteArray) (cp : Nat) : (bytesRow t cp).size = t.size + (cp - t.size) := by
  unfold bytesRow
  simp
theorem bytes_at (t : ByteArray) (cp j : Nat) (hj : j < t.size) : (bytesRow t cp)[j]? = some (.int .u8 ((t.data.getD j 0).toNat : Int)) := by
  have hj' : j < t.data.size := hj
  unfold bytesRow
  rw [Array.getElem?_append_left (by simpa using hj')]
  rw [Array.getElem?_map, Array.getElem?_eq_getElem hj']
  have e : t.data.getD j 0 = t.data[j] := by rw [Array.getD_eq_getD_getElem?, Array.getElem?_eq_getElem hj']; rfl
  rw [e]; rfl
set_option maxHeartbeats 4000000 in
theorem setbyte_any (h : Hp) (v k x : Int) (A : Option Addr) (c : Nat) (w : World) (hs : ObsR w A h.objs) (fit : h.Fit) :
    Calls Tryz.prog 200 #[.agg #[.slice A h.objs.length c, .int .i64 h.cap, .int .i64 h.last], .int .i64 v, .int .i64 k, .int .i64 x] w (HeapOwn2 w (sbR h v k x) (sbE h v k x)) := by
  have HB0 := hid (below_alloc2 w (.cells #[Value.slice A h.objs.length c, Value.int .i64 h.cap, Value.int .i64 h.last] 24) (.cells #[.slice none 0 0, .int .i64 0, .int .i64 0] 24))
  have HX := hid ((BoxH.new w h A c).later (below_alloc _ (.cells #[.slice none 0 0, .int .i64 0, .int .i64 0] 24)))
  have K1 : Hid (Lies ((w.alloc (.cells #[Value.slice A h.objs.length c, Value.int .i64 h.cap, Value.int .i64 h.last] 24)).alloc (.cells #[.slice none 0 0, .int .i64 0, .int .i64 0] 24)) (w.heap.size + 1) 24 #[.slice none 0 0, .int .i64 0, .int .i64 0]) := by
    have := Lies.new (w.alloc (.cells #[Value.slice A h.objs.length c, Value.int .i64 h.cap, Value.int .i64 h.last] 24)) 24 #[.slice none 0 0, .int .i64 0, .int .i64 0]
    simpa [Hid] using this
  have HS := hid hs
  have HF := hid fit
  clear hs fit
  by_cases e0 : plE h v 1 k = 0
  next =>
   by_cases hx : 0 ≤ x ∧ x ≤ 255
   next =>
    obtain ⟨hm, hr, hk, h0, h1⟩ := pl_ok e0
    have hv := pl_v e0
    obtain ⟨i, hi, hvi, ho⟩ := obAt_get hr
    obtain ⟨j, rfl⟩ : ∃ j : Nat, k = j := ⟨k.toNat, by omega⟩
    have hjn : j < (obAt h v).text.size := by unfold szO at h1; rw [if_pos rfl] at h1; omega
    obtain ⟨-, hl2, -⟩ := kind_len (ob_kind (may_all hm _ (List.mem_of_getElem? ho)))
    have hv' : plV h v 1 j = (i : Int) := by rw [hv, hvi]
    have EE : Hid (sbE h v j x = 0) := by show _ = _; unfold sbE; rw [if_pos e0, if_pos hx]
    have ER : Hid (sbR h v j x = { h with objs := h.objs.set i { obAt h v with text := setT (obAt h v).text j x } }) := by
      show _ = _
      unfold sbR; rw [if_pos EE.out]; unfold sbH; rw [hvi]; rfl
    obtain ⟨b0, off, rfl, hb0, hc0⟩ := HS.out (by omega)
    obtain ⟨S0, d0, hob0, -, -, -⟩ := hc0 i _ ho
    have HC3 := hid hob0.c3
    have HO := hid ho
    have E0 := hid e0
    have HM := hid hm
    obtain ⟨o, hoo⟩ : ∃ o, o = obAt h v := ⟨_, rfl⟩
    have HOO := hid hoo
    rw [← hoo] at hjn hl2 HC3
    have hconv : ∀ W : World, (convert 9 117 (.string o.text)).run Tryz.prog W = .ok (.slice (some ⟨W.heap.size, 0, none⟩) o.text.size (grownCap W o.text.size 0 5)) (W.drew.alloc (.cells (bytesRow o.text (grownCap W o.text.size 0 5)) 5 ((bytesRow o.text (grownCap W o.text.size 0 5)).size, (bytesRow o.text (grownCap W o.text.size 0 5)).size + 1))) := fun W => run_bytes_of_string W 9 117 5 o.text Tryz.underlying9 Tryz.underlying117 Tryz.underlying5
    obtain ⟨hx0, hx1⟩ := hx
    have hwx : IntKind.u8.wrap x = x := IntWalk.u8_in _ ⟨hx0, hx1⟩
    clear hm hr hk h0 h1 hv hvi ho e0 hoo hc0 hob0
    go_enter Tryz.func200, Tryz.ntmps200
    go_wp2_with fail
    refine (place_any h v 1 j (.inr rfl) (some ⟨b0, off, none⟩) c _ (HS.out.below HB0.out) HF.out).mono ?_
    rintro e w1 ⟨rfl, hb1⟩
    rw [E0.out]
    have HB1 := hid (HB0.out.trans (hb1.mono HB0.out.size))
    have HX1 := hid (HX.out.later hb1)
    have HK1 := hid (K1.out.later hb1)
    clear hb1
    obtain ⟨x0, x1, x2⟩ := HX1.out
    go_wp2_with fail
    refine (clone_h h (some ⟨b0, off, none⟩) c _ (HS.out.below HB1.out) HM.out).mono ?_
    rintro e w3 ⟨A3, c3, ls, rfl, hls, hown, hb3⟩
    have HB3 := hid (HB1.out.trans (hb3.mono HB1.out.size))
    have HK3 := hid (HK1.out.later hb3)
    have HX3 := hid (HX1.out.later hb3)
    have hw1 : w.heap.size + 2 ≤ w1.heap.size := by have := HK1.out.lt; omega
    have hin : i < ls.length := by have := congrArg List.length hls; simp at this; omega
    have hlo : ls[i].o = o := by
      have := congrArg (fun t => t[i]?) hls
      simp only [List.getElem?_map, List.getElem?_eq_getElem hin, Option.map_some] at this
      rw [HO.out, ← HOO.out] at this
      exact Option.some.inj this
    obtain ⟨g, cg, hvv, hg0, hg1⟩ := hown.row.form (by omega)
    simp only [Value.slice.injEq, true_and] at hvv
    obtain ⟨rfl, rfl⟩ := hvv
    have hli : ls[i]? = some ls[i] := List.getElem?_eq_getElem hin
    have q3 := (hown.row.cellAt (i * 6 + 3) (by omega)).trans (rowOf_get ls i 3 _ hli (by omega))
    simp only [LO.cells, List.getElem?_cons_zero, List.getElem?_cons_succ] at q3
    rw [hlo] at q3
    have f3 := hown.row.frozenAt (i * 6 + 3)
    have HOW := hid hown
    have HLS := hid hls
    have HLI := hid hli
    have HLO := hid hlo
    have Q3 := hid q3
    have F3 := hid f3
    have HAL := hid (below_alloc w3 (.cells #[Value.slice (some ⟨g, 0, none⟩) h.objs.length c3, Value.int .i64 h.cap, Value.int .i64 h.last] 24))
    obtain ⟨x0, x1, x2⟩ := HX3.out.later HAL.out
    have tc := (HAL.out.mono HB3.out.size).cell (p := ⟨b0, off + i * 6 + 3, none⟩) hb0 |>.trans ((HB3.out.cell (p := ⟨b0, off + i * 6 + 3, none⟩) hb0).trans HC3.out)
    clear hown hls hli hlo q3 f3 hb3
    go_upto_region 8 with fail
    obtain ⟨cp, hcp⟩ : ∃ cp, cp = grownCap (w3.alloc (.cells #[Value.slice (some ⟨g, 0, none⟩) h.objs.length c3, Value.int .i64 h.cap, Value.int .i64 h.last] 24)) o.text.size 0 5 := ⟨_, rfl⟩
    have hge : o.text.size ≤ cp := by rw [hcp]; exact grownCap_ge _ _ _ _
    rw [← hcp]
    obtain ⟨W5, hW5⟩ : ∃ W5, W5 = ((w3.alloc (.cells #[Value.slice (some ⟨g, 0, none⟩) h.objs.length c3, Value.int .i64 h.cap, Value.int .i64 h.last] 24)).alloc (.cells (bytesRow o.text cp) 5 ((bytesRow o.text cp).size, (bytesRow o.text cp).size + 1))).drew := ⟨_, rfl⟩
    have hrow : W5.heap[w3.heap.size + 1]? = some (.cells (bytesRow o.text cp) 5 ((bytesRow o.text cp).size, (bytesRow o.text cp).size + 1)) := by
      have := heap_alloc_new (w3.alloc (.cells #[Value.slice (some ⟨g, 0, none⟩) h.objs.length c3, Value.int .i64 h.cap, Value.int .i64 h.last] 24)) (.cells (bytesRow o.text cp) 5 ((bytesRow o.text cp).size, (bytesRow o.text cp).size + 1))
      rw [World.size_alloc] at this
      rw [hW5]; exact this
    rw [← hW5]
    have hB5 : Below w3.heap.size w3 W5 := by rw [hW5]; exact (HAL.out.alloc (by simp) _).drew
    have hT5 : Lies W5 w3.heap.size 24 #[Value.slice (some ⟨g, 0, none⟩) h.objs.length c3, Value.int .i64 h.cap, Value.int .i64 h.last] := by
      rw [hW5]; exact ((Lies.new w3 24 #[Value.slice (some ⟨g, 0, none⟩) h.objs.length c3, Value.int .i64 h.cap, Value.int .i64 h.last]).alloc _).drew
    have hsz5 : W5.heap.size = w3.heap.size + 1 + 1 := by rw [hW5]; simp [World.drew]
    have HROW := hid hrow
    have bsz := bytes_size o.text cp
    have c8 : W5.cell? ⟨w3.heap.size + 1, j, none⟩ = some (.int .u8 ((o.text.data.getD j 0).toNat : Int)) := by
      simp only [World.cell?, hrow]
      simp [bytes_at o.text cp j hjn]
    have f8 : W5.frozen? ⟨w3.heap.size + 1, j, none⟩ = false := by
      simp only [World.frozen?, hrow]
      simp
      omega
    have HB5 := hid hB5
    have HT5 := hid hT5
    clear hW5 hcp hrow hB5 hT5 x0 x1 x2 tc hconv
    go_upto_region 9 with fail
    have hne0 : w3.heap.size + 1 ≠ w3.heap.size := by omega
    have hne1 : w3.heap.size + 1 ≠ g := by omega
    have hne2 : w3.heap.size + 1 ≠ w.heap.size + 1 := by have := HK3.out.lt; omega
    have hT6 : Lies (W5.setCell ⟨w3.heap.size + 1, j, none⟩ (.int .u8 x)) w3.heap.size 24 #[Value.slice (some ⟨g, 0, none⟩) h.objs.length c3, Value.int .i64 h.cap, Value.int .i64 h.last] := HT5.out.far (by exact fun e => hne0 e.symm) _
    have hq6 : (W5.setCell ⟨w3.heap.size + 1, j, none⟩ (.int .u8 x)).cell? ⟨g, i * 6 + 3, none⟩ = some (.string o.text) := cell_far (by exact fun e => hne1 e.symm) (cell_later HB5.out Q3.out)
    have hf6 : (W5.setCell ⟨w3.heap.size + 1, j, none⟩ (.int .u8 x)).frozen? ⟨g, i * 6 + 3, none⟩ = false := by
      rw [World.frozen?_setCell]
      exact (HB5.out.frozen (p := ⟨g, i * 6 + 3, none⟩) hg1).trans F3.out
    have hcell6 : ∀ q (hq : q < (o.text.data.toList.set j (UInt8.ofNat x.toNat)).length), (W5.setCell ⟨w3.heap.size + 1, j, none⟩ (.int .u8 x)).cell? ((⟨w3.heap.size + 1, 0, none⟩ : Addr).add q) = some (.int .u8 ((o.text.data.toList.set j (UInt8.ofNat x.toNat))[q].toNat : Int)) := by
      intro q hq
      have hqt : q < o.text.size := by rw [List.length_set, Array.length_toList] at hq; exact hq
      rw [Addr.add_lit, Nat.zero_add]
      by_cases e : q = j
      next =>
       subst e
       rw [World.cell?_setCell_same (h := c8)]
       have hxx : (UInt8.ofNat x.toNat).toNat = x.toNat := by rw [UInt8.toNat_ofNat']; omega
       simp [hxx]
       omega
      next =>
       rw [World.cell?_setCell_other _ _ _ _ (by intro h; injection h with _ h2; exact e h2.symm)]
       simp only [World.cell?, HROW.out]
       simp [bytes_at o.text cp q hqt]
       rw [List.getElem_set_ne (by omega)]
       rw [Array.getElem?_eq_getElem (show q < o.text.data.size from hqt)]
       simp
    have hback := run_convert_bytes_back (P := Tryz.prog) (W5.setCell ⟨w3.heap.size + 1, j, none⟩ (.int .u8 x)) 117 9 5 ⟨w3.heap.size + 1, 0, none⟩ cp (o.text.data.toList.set j (UInt8.ofNat x.toNat)) Tryz.underlying117 Tryz.underlying5 Tryz.underlying9 hcell6
    rw [List.length_set, Array.length_toList, show o.text.data.size = o.text.size from rfl] at hback
    have hT : setT o.text j x = ⟨(o.text.data.toList.set j (UInt8.ofNat x.toNat)).toArray⟩ := rfl
    rw [← hT] at hback
    obtain ⟨W6, hW6⟩ : ∃ W6, W6 = W5.setCell ⟨w3.heap.size + 1, j, none⟩ (.int .u8 x) := ⟨_, rfl⟩
    have hB6 : Below w3.heap.size w3 W6 := by rw [hW6]; exact HB5.out.setCell (p := ⟨w3.heap.size + 1, j, none⟩) (by simp) _
    have hO6 : OwnH W6 w1.heap.size (some ⟨g, 0, none⟩) c3 ls := HOW.out.later hB6
    rw [← hW6] at hT6 hq6 hf6 hback ⊢
    have HT6 := hid hT6
    have HB6 := hid hB6
    have HO6 := hid hO6
    have z0 := hT6.cell 0
    simp only [List.getElem?_toArray, List.getElem?_cons_zero] at z0
    clear hT6 hB6 hO6 hcell6 hT hW6 c8 f8
    go_upto_region 10 with fail
    have hne3 : w3.heap.size ≠ g := by omega
    have hne4 : w.heap.size + 1 ≠ g := by omega
    have hlt3 : w.heap.size + 1 < w3.heap.size := HK3.out.lt
    have HT7 := hid (HT6.out.far (p := ⟨g, i * 6 + 3, none⟩) (by exact hne3) (.string (setT o.text j x)))
    have HK7 := hid ((HK3.out.later HB6.out).far (p := ⟨g, i * 6 + 3, none⟩) (by exact hne4) (.string (setT o.text j x)))
    have HO7 := hid (HO6.out.text (s := setT o.text j x) HLI.out)
    have HB7 := hid ((HB3.out.trans (HB6.out.mono HB3.out.size)).setCell (p := ⟨g, i * 6 + 3, none⟩) (by show w.heap.size ≤ g; omega) (.string (setT o.text j x)))
    obtain ⟨W7, hW7⟩ : ∃ W7, W7 = W6.setCell ⟨g, i * 6 + 3, none⟩ (.string (setT o.text j x)) := ⟨_, rfl⟩
    rw [← hW7] at HT7 HK7 HO7 HB7 ⊢
    have y0 := HK7.out.cell 0
    have y1 := HK7.out.cell 1
    have y2 := HK7.out.cell 2
    have yf0 := HK7.out.frozen 0
    have yf1 := HK7.out.frozen 1
    have yf2 := HK7.out.frozen 2
    have t0 := HT7.out.cell 0
    have t1 := HT7.out.cell 1
    have t2 := HT7.out.cell 2
    simp only [List.getElem?_toArray, List.getElem?_cons_zero, List.getElem?_cons_succ] at y0 y1 y2 t0 t1 t2
    clear hW7 z0 hq6 hf6 hback
    go_wp2_with fail
    have K0 := (((HK7.out.set_ 0 (.slice (some ⟨g, 0, none⟩) h.objs.length c3)).set_ 1 (.int .i64 h.cap)).set_ 2 (.int .i64 h.last))
    have r0 := K0.cell 0
    have r1 := K0.cell 1
    have r2 := K0.cell 2
    simp only [List.setIfInBounds_toArray, List.set_cons_zero, List.set_cons_succ, List.getElem?_toArray, List.getElem?_cons_zero, List.getElem?_cons_succ] at r0 r1 r2
    refine bodyPost_ret (v := .tuple #[.agg #[.slice (some ⟨g, 0, none⟩) h.objs.length c3, .int .i64 h.cap, .int .i64 h.last], .int .i64 0]) (by simp [results, Tryz.results200, go_sem, r0, r1, r2]) rfl ?_
    rw [EE.out, ER.out]
    refine ⟨some ⟨g, 0, none⟩, c3, ls.set i ⟨{ ls[i].o with text := setT o.text j x }, ls[i].S, ls[i].c⟩, by simp, ?_, ?_, ?_⟩
    next =>
     show List.map _ _ = h.objs.set i _
     rw [List.map_set, HLS.out, HLO.out, ← HOO.out]
    next =>
     exact (((HO7.out.low (p := ⟨w.heap.size + 1, 0, none⟩) (by simp; omega) _).low (p := ⟨w.heap.size + 1, 1, none⟩) (by simp; omega) _).low (p := ⟨w.heap.size + 1, 2, none⟩) (by simp; omega) _).lower HB1.out.size
    next =>
     exact (((HB7.out.setCell (p := ⟨w.heap.size + 1, 0, none⟩) (by simp) _).setCell (p := ⟨w.heap.size + 1, 1, none⟩) (by simp) _).setCell (p := ⟨w.heap.size + 1, 2, none⟩) (by simp) _)
   next =>
    rcases (show x < 0 ∨ (0 ≤ x ∧ 255 < x) by omega) with hx1 | hx1
    next =>
     obtain ⟨hm, hr, hk, h0, h1⟩ := pl_ok e0
     have EE : Hid (sbE h v k x = 32) := by show _ = _; unfold sbE; rw [if_pos e0, if_neg (by omega)]
     have ER : Hid (sbR h v k x = unH h 32) := by show _ = _; unfold sbR; rw [EE.out, if_neg (by decide)]
     have E0 := hid e0
     have HM := hid hm
     clear hm hr hk h0 h1 e0
     go_enter Tryz.func200, Tryz.ntmps200
     go_wp2_with fail
     refine (place_any h v 1 k (.inr rfl) A c _ (HS.out.below HB0.out) HF.out).mono ?_
     rintro e w1 ⟨rfl, hb1⟩
     rw [E0.out]
     have HB1 := hid (HB0.out.trans (hb1.mono HB0.out.size))
     have HX1 := hid (HX.out.later hb1)
     have HK1 := hid (K1.out.later hb1)
     clear hb1
     obtain ⟨x0, x1, x2⟩ := HX1.out
     go_wp2_with fail
     refine (unchanged_any h 32 A c _ (HS.out.below HB1.out) (fun _ => HM.out)).mono ?_
     rintro e wu ⟨Au, cu, lu, rfl, hlu, hou, hbu⟩
     have HKu := hid (HK1.out.later hbu)
     have HBu := hid (HB1.out.trans (hbu.mono HB1.out.size))
     have HOu := hid hou
     have HLu := hid hlu
     have hltu := HK1.out.lt
     obtain ⟨u0, u1, u2⟩ := HKu.out.c3
     obtain ⟨uf0, uf1, uf2⟩ := HKu.out.f3
     clear hou hbu hlu
     go_wp2_with fail
     have K0 := (((HKu.out.set_ 0 (.slice Au (unH h 32).objs.length cu)).set_ 1 (.int .i64 (unH h 32).cap)).set_ 2 (.int .i64 (unH h 32).last))
     have r0 := K0.cell 0
     have r1 := K0.cell 1
     have r2 := K0.cell 2
     simp only [List.setIfInBounds_toArray, List.set_cons_zero, List.set_cons_succ, List.getElem?_toArray, List.getElem?_cons_zero, List.getElem?_cons_succ] at r0 r1 r2
     refine bodyPost_ret (v := .tuple #[.agg #[.slice Au (unH h 32).objs.length cu, .int .i64 (unH h 32).cap, .int .i64 (unH h 32).last], .int .i64 32]) (by simp [results, Tryz.results200, go_sem, r0, r1, r2]) rfl ?_
     rw [EE.out, ER.out]
     refine ⟨Au, cu, lu, rfl, HLu.out, ((((HOu.out).low (p := ⟨w.heap.size + 1, 0, none⟩) (by simp; omega) _).low (p := ⟨w.heap.size + 1, 1, none⟩) (by simp; omega) _).low (p := ⟨w.heap.size + 1, 2, none⟩) (by simp; omega) _).lower HB1.out.size, (((HBu.out).setCell (p := ⟨w.heap.size + 1, 0, none⟩) (by simp) _).setCell (p := ⟨w.heap.size + 1, 1, none⟩) (by simp) _).setCell (p := ⟨w.heap.size + 1, 2, none⟩) (by simp) _⟩
    next =>
     obtain ⟨hm, hr, hk, h0, h1⟩ := pl_ok e0
     have EE : Hid (sbE h v k x = 32) := by show _ = _; unfold sbE; rw [if_pos e0, if_neg (by omega)]
     have ER : Hid (sbR h v k x = unH h 32) := by show _ = _; unfold sbR; rw [EE.out, if_neg (by decide)]
     have E0 := hid e0
     have HM := hid hm
     clear hm hr hk h0 h1 e0
     have hx2 := hx1.1
     have hx3 := hx1.2
     clear hx1
     go_enter Tryz.func200, Tryz.ntmps200
     go_wp2_with fail
     refine (place_any h v 1 k (.inr rfl) A c _ (HS.out.below HB0.out) HF.out).mono ?_
     rintro e w1 ⟨rfl, hb1⟩
     rw [E0.out]
     have HB1 := hid (HB0.out.trans (hb1.mono HB0.out.size))
     have HX1 := hid (HX.out.later hb1)
     have HK1 := hid (K1.out.later hb1)
     clear hb1
     obtain ⟨x0, x1, x2⟩ := HX1.out
     go_wp2_with fail
     refine (unchanged_any h 32 A c _ (HS.out.below HB1.out) (fun _ => HM.out)).mono ?_
     rintro e wu ⟨Au, cu, lu, rfl, hlu, hou, hbu⟩
     have HKu := hid (HK1.out.later hbu)
     have HBu := hid (HB1.out.trans (hbu.mono HB1.out.size))
     have HOu := hid hou
     have HLu := hid hlu
     have hltu := HK1.out.lt
     obtain ⟨u0, u1, u2⟩ := HKu.out.c3
     obtain ⟨uf0, uf1, uf2⟩ := HKu.out.f3
     clear hou hbu hlu
     go_wp2_with fail
     have K0 := (((HKu.out.set_ 0 (.slice Au (unH h 32).objs.length cu)).set_ 1 (.int .i64 (unH h 32).cap)).set_ 2 (.int .i64 (unH h 32).last))
     have r0 := K0.cell 0
     have r1 := K0.cell 1
     have r2 := K0.cell 2
     simp only [List.setIfInBounds_toArray, List.set_cons_zero, List.set_cons_succ, List.getElem?_toArray, List.getElem?_cons_zero, List.getElem?_cons_succ] at r0 r1 r2
     refine bodyPost_ret (v := .tuple #[.agg #[.slice Au (unH h 32).objs.length cu, .int .i64 (unH h 32).cap, .int .i64 (unH h 32).last], .int .i64 32]) (by simp [results, Tryz.results200, go_sem, r0, r1, r2]) rfl ?_
     rw [EE.out, ER.out]
     refine ⟨Au, cu, lu, rfl, HLu.out, ((((HOu.out).low (p := ⟨w.heap.size + 1, 0, none⟩) (by simp; omega) _).low (p := ⟨w.heap.size + 1, 1, none⟩) (by simp; omega) _).low (p := ⟨w.heap.size + 1, 2, none⟩) (by simp; omega) _).lower HB1.out.size, (((HBu.out).setCell (p := ⟨w.heap.size + 1, 0, none⟩) (by simp) _).setCell (p := ⟨w.heap.size + 1, 1, none⟩) (by simp) _).setCell (p := ⟨w.heap.size + 1, 2, none⟩) (by simp) _⟩
  next =>
   have EE : Hid (sbE h v k x = plE h v 1 k) := by show _ = _; unfold sbE; rw [if_neg e0]
   have ER : Hid (sbR h v k x = unH h (plE h v 1 k)) := by show _ = _; unfold sbR; rw [EE.out, if_neg e0]
   have e1 : (plE h v 1 k == 0) = false := by simpa using e0
   have e2 : (plE h v 1 k != 0) = true := by simpa using e0
   clear e0
   go_enter Tryz.func200, Tryz.ntmps200
   go_wp2_with fail
   refine (place_any h v 1 k (.inr rfl) A c _ (HS.out.below HB0.out) HF.out).mono ?_
   rintro e w1 ⟨rfl, hb1⟩
   have HB1 := hid (HB0.out.trans (hb1.mono HB0.out.size))
   have HX1 := hid (HX.out.later hb1)
   have HK1 := hid (K1.out.later hb1)
   clear hb1
   obtain ⟨x0, x1, x2⟩ := HX1.out
   go_wp2_with fail
   refine (unchanged_any h (plE h v 1 k) A c _ (HS.out.below HB1.out) plE_may).mono ?_
   rintro e wu ⟨Au, cu, lu, rfl, hlu, hou, hbu⟩
   have HKu := hid (HK1.out.later hbu)
   have HBu := hid (HB1.out.trans (hbu.mono HB1.out.size))
   have HOu := hid hou
   have HLu := hid hlu
   have hltu := HK1.out.lt
   obtain ⟨u0, u1, u2⟩ := HKu.out.c3
   obtain ⟨uf0, uf1, uf2⟩ := HKu.out.f3
   clear hou hbu hlu
   go_wp2_with fail
   have K0 := (((HKu.out.set_ 0 (.slice Au (unH h (plE h v 1 k)).objs.length cu)).set_ 1 (.int .i64 (unH h (plE h v 1 k)).cap)).set_ 2 (.int .i64 (unH h (plE h v 1 k)).last))
   have r0 := K0.cell 0
   have r1 := K0.cell 1
   have r2 := K0.cell 2
   simp only [List.setIfInBounds_toArray, List.set_cons_zero, List.set_cons_succ, List.getElem?_toArray, List.getElem?_cons_zero, List.getElem?_cons_succ] at r0 r1 r2
   refine bodyPost_ret (v := .tuple #[.agg #[.slice Au (unH h (plE h v 1 k)).objs.length cu, .int .i64 (unH h (plE h v 1 k)).cap, .int .i64 (unH h (plE h v 1 k)).last], .int .i64 (plE h v 1 k)]) (by simp [results, Tryz.results200, go_sem, r0, r1, r2]) rfl ?_
   rw [EE.out, ER.out]
   refine ⟨Au, cu, lu, rfl, HLu.out, ((((HOu.out).low (p := ⟨w.heap.size + 1, 0, none⟩) (by simp; omega) _).low (p := ⟨w.heap.size + 1, 1, none⟩) (by simp; omega) _).low (p := ⟨w.heap.size + 1, 2, none⟩) (by simp; omega) _).lower HB1.out.size, (((HBu.out).setCell (p := ⟨w.heap.size + 1, 0, none⟩) (by simp) _).setCell (p := ⟨w.heap.size + 1, 1, none⟩) (by simp) _).setCell (p := ⟨w.heap.size + 1, 2, none⟩) (by simp) _⟩
end Go.Proofs.YtnilempeldlieaaGreat
namespace Go.Proofs.YtnilempeldlieaaGreat
open Go.RowKit
def put6 (xs : List Value) (i : Nat) (l : LO) : List Value :=
  (((((xs.set (i * 6) (.int .i64 l.o.cls)).set (i * 6 + 1) (.int .i64 l.o.kind)).set (i * 6 + 2) (.slice l.S l.o.slots.length l.c)).set (i * 6 + 3) (.string l.o.text)).set (i * 6 + 4) (.int .i64 l.o.bits)).set (i * 6 + 5) (.int .i64 l.o.hash)
def set6 (w : World) (g i : Nat) (l : LO) : World :=
  (((((w.setCell ⟨g, i * 6, none⟩ (.int .i64 l.o.cls)).setCell ⟨g, i * 6 + 1, none⟩ (.int .i64 l.o.kind)).setCell ⟨g, i * 6 + 2, none⟩ (.slice l.S l.o.slots.length l.c)).setCell ⟨g, i * 6 + 3, none⟩ (.string l.o.text)).setCell ⟨g, i * 6 + 4, none⟩ (.int .i64 l.o.bits)).setCell ⟨g, i * 6 + 5, none⟩ (.int .i64 l.o.hash)
theorem rowOf_put (ls : List LO) (i : Nat) (l : LO) (hi : i < ls.length) : rowOf (ls.set i l) = put6 (rowOf ls) i l := by
  apply List.ext_getElem?
  intro j
  rw [rowOf_upd ls i l hi]
  unfold put6
  simp only [List.getElem?_set, List.length_set, rowOf_length]
  by_cases e : j / 6 = i
  · rw [if_pos e]
    have hr : j = i * 6 ∨ j = i * 6 + 1 ∨ j = i * 6 + 2 ∨ j = i * 6 + 3 ∨ j = i * 6 + 4 ∨ j = i * 6 + 5 := by omega
    have h0 : i * 6 < ls.length * 6 := by omega
    have h1 : i * 6 + 1 < ls.length * 6 := by omega
    have h2 : i * 6 + 2 < ls.length * 6 := by omega
    have h3 : i * 6 + 3 < ls.length * 6 := by omega
    have h4 : i * 6 + 4 < ls.length * 6 := by omega
    have h5 : i * 6 + 5 < ls.length * 6 := by omega
    have m0 : i * 6 % 6 = 0 := by omega
    have m1 : (i * 6 + 1) % 6 = 1 := by omega
    have m2 : (i * 6 + 2) % 6 = 2 := by omega
    have m3 : (i * 6 + 3) % 6 = 3 := by omega
    have m4 : (i * 6 + 4) % 6 = 4 := by omega
    have m5 : (i * 6 + 5) % 6 = 5 := by omega
    rcases hr with r | r | r | r | r | r <;> subst r <;> simp [LO.cells, h0, h1, h2, h3, h4, h5, m0, m1, m2, m3, m4, m5]
  · rw [if_neg e, if_neg (by omega), if_neg (by omega), if_neg (by omega), if_neg (by omega), if_neg (by omega), if_neg (by omega)]
theorem own_set6 {w : World} {base g c n i : Nat} {xs : List Value} (h : w.ownsRow base 41 6 (.slice (some ⟨g, 0, none⟩) n c) n xs) (l : LO) : (set6 w g i l).ownsRow base 41 6 (.slice (some ⟨g, 0, none⟩) n c) n (put6 xs i l) :=
  ((((((h.stored _ _).1.stored _ _).1.stored _ _).1.stored _ _).1.stored _ _).1.stored _ _).1
theorem ints_set6 {w : World} {b g n i : Nat} {v : Value} {xs : List Value} (h : w.ownsRow b 3 1 v n xs) (hne : v.ownBlock ≠ some g) (l : LO) : (set6 w g i l).ownsRow b 3 1 v n xs :=
  ownsRow_setCell_other (ownsRow_setCell_other (ownsRow_setCell_other (ownsRow_setCell_other (ownsRow_setCell_other (ownsRow_setCell_other h (by exact hne) _) (by exact hne) _) (by exact hne) _) (by exact hne) _) (by exact hne) _) (by exact hne) _
theorem below_set6 {B : Nat} {w0 w : World} {g i : Nat} (h : Below B w0 w) (hg : B ≤ g) (l : LO) : Below B w0 (set6 w g i l) :=
  (((((h.setCell (p := ⟨g, _, none⟩) hg _).setCell (p := ⟨g, _, none⟩) hg _).setCell (p := ⟨g, _, none⟩) hg _).setCell (p := ⟨g, _, none⟩) hg _).setCell (p := ⟨g, _, none⟩) hg _).setCell (p := ⟨g, _, none⟩) hg _
theorem blk_set6 {w : World} {g i b : Nat} {t : TypeId} {cs : Array Value} (h : Lies w b t cs) (hne : b ≠ g) (l : LO) : Lies (set6 w g i l) b t cs :=
  (((((h.far (p := ⟨g, _, none⟩) hne _).far (p := ⟨g, _, none⟩) hne _).far (p := ⟨g, _, none⟩) hne _).far (p := ⟨g, _, none⟩) hne _).far (p := ⟨g, _, none⟩) hne _).far (p := ⟨g, _, none⟩) hne _
theorem cell_set6 {w : World} {g i b o : Nat} {v : Value} (h : w.cell? ⟨b, o, none⟩ = some v) (hne : b ≠ g) (l : LO) : (set6 w g i l).cell? ⟨b, o, none⟩ = some v :=
  cell_far hne (cell_far hne (cell_far hne (cell_far hne (cell_far hne (cell_far hne h)))))
def swp (i k p : Nat) : Nat := if p = k then i else if p = i then k else p
theorem swap_get {ls : List LO} {i k : Nat} {l m : LO} (hl : ls[i]? = some l) (hm : ls[k]? = some m) (p : Nat) : ((ls.set i m).set k l)[p]? = ls[swp i k p]? := by
  have hil : i < ls.length := (List.getElem?_eq_some_iff.1 hl).1
  have hkl : k < ls.length := (List.getElem?_eq_some_iff.1 hm).1
  unfold swp
  by_cases e : p = k
  · subst e; rw [if_pos rfl, List.getElem?_set, if_pos rfl, List.length_set, if_pos hkl, hl]
  · rw [if_neg e, List.getElem?_set, if_neg (fun g => e g.symm), List.getElem?_set]
    by_cases e2 : p = i
    · subst e2; rw [if_pos rfl, if_pos hil, if_pos rfl, hm]
    · rw [if_neg (fun g => e2 g.symm), if_neg e2]
theorem swp_inj {i k p q : Nat} (h : p ≠ q) : swp i k p ≠ swp i k q := by
  unfold swp
  repeat' split
  all_goals omega
theorem OwnH.swap {w : World} {base g c i k : Nat} {ls : List LO} {l m : LO} (h : OwnH w base (some ⟨g, 0, none⟩) c ls) (hl : ls[i]? = some l) (hm : ls[k]? = some m) :
    OwnH (set6 (set6 w g i m) g k l) base (some ⟨g, 0, none⟩) c ((ls.set i m).set k l) := by
  have hil : i < ls.length := (List.getElem?_eq_some_iff.1 hl).1
  have hkl : k < ls.length := (List.getElem?_eq_some_iff.1 hm).1
  obtain ⟨cur, hB, _, _, _⟩ := own_blk h.row
  refine ⟨?_, fun p n hn => ?_, fun p q lp lq a b hp hq hlt ha hb => ?_⟩
  · rw [rowOf_put _ k l (by simpa using hkl), rowOf_put ls i m hil, List.length_set, List.length_set]
    exact own_set6 (own_set6 h.row m) l
  · rw [swap_get hl hm] at hn
    have h3 := h.ints _ n hn
    exact ints_set6 (ints_set6 h3 (own_blk_ne h3 hB (by decide)) m) (own_blk_ne h3 hB (by decide)) l
  · rw [swap_get hl hm] at hp hq
    have hne := swp_inj (i := i) (k := k) (show p ≠ q by omega)
    rcases Nat.lt_or_gt_of_ne hne with h1 | h1
    · exact h.apart _ _ lp lq a b hp hq h1 ha hb
    · exact fun e => h.apart _ _ lq lp b a hq hp h1 hb ha e.symm
theorem swap_objs {ls : List LO} {os : List Ob} {i k : Nat} {l m : LO} (h : ls.map (·.o) = os) : ((ls.set i m).set k l).map (·.o) = (os.set i m.o).set k l.o := by
  rw [List.map_set, List.map_set, h]
end Go.Proofs.YtnilempeldlieaaGreat
