/- A heap cloned, and what stands for it beside an error: the program's, for processes. -/
import Derived.Test.YtkpfmbdkfgeboaaRJ14
namespace Go.Proofs.Ytkpfmbdkfgeboaa
open Go.RowKit
set_option maxRecDepth 100000
set_option maxHeartbeats 1000000 in
theorem pclone_any14 (cap last : Int) (A : Option Addr) (c : Nat) (ls : List LO) (w : World) (hs : LaidR w A ls) (hl : ls.length ≤ 256) (hl2 : ∀ l ∈ ls, l.o.slots.length ≤ 64) :
    Calls Try.prog 50 #[.agg #[.slice A ls.length c, .int .i64 cap, .int .i64 last]] w fun e w' => ∃ A' c' ls', e = .returned (.agg #[.slice A' ls.length c', .int .i64 cap, .int .i64 last]) ∧ ls'.map (·.o) = ls.map (·.o) ∧ OwnH w' w.heap.size A' c' ls' ∧ Below w.heap.size w w' := by
  have HS := hid hs
  clear hs
  go_enter Try.func50, Try.ntmps50
  go_wp2_with fail
  refine (clone2_any A ls c _ (HS.out.later (below_alloc2 _ _ _)) hl).mono ?_
  rintro e w1 ⟨A1, c1, rfl, hown, hb⟩
  have HO := hid hown
  have HB := hid hb
  have k0 : Lies w1 w.heap.size 24 #[.slice A ls.length c, .int .i64 cap, .int .i64 last] := ((Lies.new _ _ _).alloc _).later hb
  have k1 : Lies w1 (w.heap.size + 1) 24 #[.slice none 0 0, .int .i64 0, .int .i64 0] := by
    have := (Lies.new (w.alloc (.cells #[.slice A ls.length c, .int .i64 cap, .int .i64 last] 24)) 24 #[.slice none 0 0, .int .i64 0, .int .i64 0]).later hb
    simpa using this
  have e0 := k0.cell 0
  have f0 := k0.frozen 0
  have K0 := hid k0
  have K1 := hid k1
  clear hown hb k0 k1
  go_wp2_with fail
  have k0 := K0.out
  have HK0 := hid (k0.set_ 0 (.slice A1 ls.length c1))
  have HK1 := hid ((K1.out).far (p := ⟨w.heap.size, 0, none⟩) (by simp) (.slice A1 ls.length c1))
  have HC := hid ((CloneK.start (base := w.heap.size + 2) (by simpa using HO.out)).low (p := ⟨w.heap.size, 0, none⟩) (by simp) (.slice A1 ls.length c1))
  have HW : Hid (Below w.heap.size w (w1.setCell ⟨w.heap.size, 0, none⟩ (.slice A1 ls.length c1))) := ((below_alloc2 w _ _).trans (HB.out.mono (by simp; omega))).setCell (Nat.le_refl _) _
  have HZ : Hid (w.heap.size + 2 ≤ (w1.setCell ⟨w.heap.size, 0, none⟩ (.slice A1 ls.length c1)).heap.size) := by
    have := HB.out.size
    show _ ≤ _
    simp at this ⊢; omega
  clear k0 e0 f0
  go_loopw [12] (fun i wr => ∃ k cur, k ≤ ls.length ∧ i = .int .i64 (k : Nat) ∧ CloneK wr (w.heap.size + 2) A1 c1 ls k cur ∧ Lies wr w.heap.size 24 #[.slice A1 ls.length c1, .int .i64 cap, .int .i64 last] ∧ Lies wr (w.heap.size + 1) 24 #[.slice none 0 0, .int .i64 0, .int .i64 0] ∧ Below w.heap.size w wr ∧ w.heap.size + 2 ≤ wr.heap.size) (fun i _ => ls.length - (intOf i).toNat)
  case atStart => exact ⟨0, ls, Nat.zero_le _, rfl, HC.out, HK0.out, HK1.out, HW.out, HZ.out⟩
  case round =>
    obtain ⟨k, cur, hk, rfl, hC, b0, b1, hbw, hz⟩ := hrel
    have HC' := hid hC
    have HB0 := hid b0
    have HB1 := hid b1
    have HBW := hid hbw
    have e0 := b0.cell 0
    have e1 := b0.cell 1
    have e2 := b0.cell 2
    have f0 := b0.frozen 0
    simp only [List.getElem?_toArray, List.getElem?_cons_zero, List.getElem?_cons_succ] at e0 e1 e2
    clear hC b0 hbw HC HK0 HK1 HW HZ K0 K1 HB HO
    by_cases hlt : k < ls.length
    · have hlc : k < cur.length := by rw [HC'.out.len]; exact hlt
      have hck : cur[k]? = some cur[k] := List.getElem?_eq_getElem hlc
      have hlk : cur[k] = ls[k] := by
        have := HC'.out.old k (Nat.le_refl _)
        rw [hck, List.getElem?_eq_getElem hlt] at this
        exact Option.some.inj this
      obtain ⟨g, cg, hv, hg0, hg1⟩ := HC'.out.row.form (by omega)
      simp only [Value.slice.injEq, true_and] at hv
      obtain ⟨rfl, rfl⟩ := hv
      have q := fun j (hj : j < 6) => (HC'.out.row.cellAt (k * 6 + j) (by omega)).trans (rowOf_get cur k j _ hck hj)
      have q0 := q 0 (by omega)
      have q1 := q 1 (by omega)
      have q2 := q 2 (by omega)
      have q3 := q 3 (by omega)
      have q4 := q 4 (by omega)
      have q5 := q 5 (by omega)
      simp only [LO.cells, List.getElem?_cons_zero, List.getElem?_cons_succ, Nat.add_zero] at q0 q1 q2 q3 q4 q5
      obtain ⟨l, hl⟩ : ∃ l, l = cur[k] := ⟨_, rfl⟩
      have HLl := hid hl
      rw [← hl] at q0 q1 q2 q3 q4 q5
      have HLK := hid hlk
      have HCK := hid hck
      clear q hck hlk hl b1
      go_wp2_with fail
      have HI : Hid (IntsR wr l.S l.o.slots) := (HS.out.ints l (by rw [HLl.out]; exact HLK.out ▸ List.getElem_mem hlt)).below HBW.out
      have hl64 := hl2 l (by rw [HLl.out]; exact HLK.out ▸ List.getElem_mem hlt)
      have hgB : g ≠ w.heap.size := by omega
      have HA := hid (below_alloc wr (.cells #[.int .i64 l.o.cls, .int .i64 l.o.kind, .slice l.S l.o.slots.length l.c, .string l.o.text, .int .i64 l.o.bits, .int .i64 l.o.hash] 43))
      have e0' := cell_old (ob := .cells #[.int .i64 l.o.cls, .int .i64 l.o.kind, .slice l.S l.o.slots.length l.c, .string l.o.text, .int .i64 l.o.bits, .int .i64 l.o.hash] 43) e0
      have t2 : (wr.alloc (.cells #[.int .i64 l.o.cls, .int .i64 l.o.kind, .slice l.S l.o.slots.length l.c, .string l.o.text, .int .i64 l.o.bits, .int .i64 l.o.hash] 43)).cell? ⟨wr.heap.size, 2, none⟩ = some (.slice l.S l.o.slots.length l.c) := by go_simp
      go_region_held3 (fun w' => w'.cell? ⟨w.heap.size, 0, none⟩ = some (.slice (some ⟨g, 0, none⟩) ls.length c1) ∧ w'.cell? ⟨wr.heap.size, 2, none⟩ = some (.slice l.S l.o.slots.length l.c))
        (first | exact ⟨e0', t2⟩ | exact ⟨cell_later hb2 e0', cell_later hb2 t2⟩ | exact ⟨(World.cell?_setCell_other _ _ _ _ (by intro e; injection e with e1; omega)).trans (cell_later hb2 e0'), (World.cell?_setCell_other _ _ _ _ (by intro e; injection e with e1; omega)).trans (cell_later hb2 t2)⟩)
        (first | (go_at_call 69; refine (clone1_any l.S l.o.slots l.c _ ((HI.out.below HA.out).below (Below.refl _ _).drew) (by omega)).mono ?_; rintro e w2 ⟨A2, c2, rfl, hown2, hb2⟩; have x2 := cell_later hb2 (cell_later (Below.refl _ _).drew (cell_later HA.out q2)); have y2 := ((own_later (own_later (own_later HC'.out.row HA.out) (Below.refl _ _).drew) hb2).frozenAt (k * 6 + 2))))
      go_wp2_with fail
      go_roundw
      case rel =>
        have HX := (HC'.out.later HA.out).later ((Below.refl _ _).drew.trans hb2)
        have HBA : Below wr.heap.size wr w2 := HA.out.trans (((Below.refl _ _).drew.trans hb2).mono (by simp))
        refine ⟨k + 1, cur.set k ⟨l.o, A2, c2⟩, by omega, by go_num, HX.step (HLl.out ▸ HCK.out) hown2 ?_ ?_, ?_, ?_, ?_, ?_⟩
        · simp; omega
        · intro i li a hi hli ha
          have := HC'.out.blk_lt hi hli ha
          simp; omega
        · exact (HB0.out.later HBA).far hgB.symm _
        · exact (HB1.out.later HBA).far (by show w.heap.size + 1 ≠ g; omega) _
        · exact (HBW.out.trans (HBA.mono HBW.out.size)).setCell (by show w.heap.size ≤ g; omega) _
        · have := HBA.size
          simp; omega
      case measure => simp [intOf]; omega
    · have hkn : k = ls.length := by omega
      subst hkn
      obtain ⟨g0, g1, g2⟩ := b1.c3
      obtain ⟨h0, h1, h2⟩ := b1.f3
      clear b1
      go_wp2
      have K0 : Lies (((wr.setCell ⟨w.heap.size + 1, 0, none⟩ (.slice A1 ls.length c1)).setCell ⟨w.heap.size + 1, 1, none⟩ (.int .i64 cap)).setCell ⟨w.heap.size + 1, 2, none⟩ (.int .i64 last)) (w.heap.size + 1) 24 #[.slice A1 ls.length c1, .int .i64 cap, .int .i64 last] := by
        simpa using (((HB1.out.set_ 0 (.slice A1 ls.length c1)).set_ 1 (.int .i64 cap)).set_ 2 (.int .i64 last))
      obtain ⟨r0, r1, r2⟩ := K0.c3
      refine bodyPost_ret (v := .agg #[.slice A1 ls.length c1, .int .i64 cap, .int .i64 last]) (by simp [results, Try.results50, go_sem, r0, r1, r2]) rfl ⟨A1, c1, cur, rfl, HC'.out.same, ?_, ?_⟩
      · exact (((HC'.out.low (p := ⟨w.heap.size + 1, 0, none⟩) (by simp) _).low (p := ⟨w.heap.size + 1, 1, none⟩) (by simp) _).low (p := ⟨w.heap.size + 1, 2, none⟩) (by simp) _).fin (by omega)
      · exact ((HBW.out.setCell (p := ⟨w.heap.size + 1, 0, none⟩) (by simp) _).setCell (p := ⟨w.heap.size + 1, 1, none⟩) (by simp) _).setCell (p := ⟨w.heap.size + 1, 2, none⟩) (by simp) _
theorem pclone_h14 (h : Hp) (A : Option Addr) (c : Nat) (w : World) (hs : ObsR w A h.objs) (hm : mayB h = true) : Calls Try.prog 50 #[.agg #[.slice A h.objs.length c, .int .i64 h.cap, .int .i64 h.last]] w (HeapOwn w h) := by
  obtain ⟨ls, h1, h2⟩ := hs.laid
  obtain ⟨e1, e2, e3⟩ := may_slots hm h1
  rw [← e1]
  refine (pclone_any14 h.cap h.last A c ls w h2 e2 e3).mono ?_
  rintro e w' ⟨A', c', ls', rfl, h3, h4, h5⟩
  exact ⟨A', c', ls', by rw [e1], by rw [h3, h1], h4, h5⟩
set_option maxRecDepth 100000 in
set_option maxHeartbeats 4000000 in
theorem punchanged_any14 (h : Hp) (en : Int) (A : Option Addr) (c : Nat) (w : World) (hs : ObsR w A h.objs) (hm : en ≠ 1 → mayB h = true) :
    Calls Try.prog 34 #[.agg #[.slice A h.objs.length c, .int .i64 h.cap, .int .i64 h.last], .int .i64 en] w (HeapOwn w (unH h en)) := by
  have HB0 := hid (below_alloc2 w (.cells #[Value.slice A h.objs.length c, Value.int .i64 h.cap, Value.int .i64 h.last] 24) (.cells #[.slice none 0 0, .int .i64 0, .int .i64 0] 24))
  have HS := hid hs
  have HM := hid hm
  clear hs hm
  by_cases e1 : en = 1
  · have HU : Hid (unH h en = zeroH) := by show _ = _; unfold unH; rw [if_pos e1]
    subst e1
    go_enter Try.func34, Try.ntmps34
    go_wp2
    refine bodyPost_ret (v := .agg #[.slice none 0 0, .int .i64 0, .int .i64 0]) (by simp [results, Try.results34, go_sem]) rfl ?_
    rw [HU.out]
    exact ⟨none, 0, [], rfl, rfl, OwnH.nil _ _, HB0.out⟩
  · have HU : Hid (unH h en = h) := by show _ = _; unfold unH; rw [if_neg e1]
    have e1' : (en == 1) = false := by simpa using e1
    have hmm := HM.out e1
    have K1 := hid (Lies.new (w.alloc (.cells #[Value.slice A h.objs.length c, Value.int .i64 h.cap, Value.int .i64 h.last] 24)) 24 #[.slice none 0 0, .int .i64 0, .int .i64 0])
    have HMM := hid hmm
    clear e1 hmm
    go_enter Try.func34, Try.ntmps34
    go_wp2_with fail
    refine (pclone_h14 h A c _ (HS.out.below HB0.out) HMM.out).mono ?_
    rintro e w1 ⟨A1, c1, ls, rfl, hls, hown, hb⟩
    have k1 := K1.out.later hb
    rw [show (w.alloc (.cells #[Value.slice A h.objs.length c, Value.int .i64 h.cap, Value.int .i64 h.last] 24)).heap.size = w.heap.size + 1 by simp] at k1
    have HO := hid hown
    have HB := hid (HB0.out.trans (hb.mono (by simp; omega)))
    have HLS := hid hls
    obtain ⟨h0, h1, h2⟩ := k1.c3
    obtain ⟨i0, i1, i2⟩ := k1.f3
    have KK := hid k1
    clear hown hb hls k1
    go_wp2
    have K0 := ((KK.out.set_ 0 (.slice A1 h.objs.length c1)).set_ 1 (.int .i64 h.cap)).set_ 2 (.int .i64 h.last)
    have r0 := K0.cell 0
    have r1 := K0.cell 1
    have r2 := K0.cell 2
    simp only [List.setIfInBounds_toArray, List.set_cons_zero, List.set_cons_succ, List.getElem?_toArray, List.getElem?_cons_zero, List.getElem?_cons_succ] at r0 r1 r2
    refine bodyPost_ret (v := .agg #[.slice A1 h.objs.length c1, .int .i64 h.cap, .int .i64 h.last]) (by simp [results, Try.results34, go_sem, r0, r1, r2]) rfl ?_
    rw [HU.out]
    refine ⟨A1, c1, ls, rfl, HLS.out, (((HO.out.low (p := ⟨w.heap.size + 1, 0, none⟩) (by simp) _).low (p := ⟨w.heap.size + 1, 1, none⟩) (by simp) _).low (p := ⟨w.heap.size + 1, 2, none⟩) (by simp) _).lower (by simp; omega), ?_⟩
    exact ((HB.out.setCell (p := ⟨w.heap.size + 1, 0, none⟩) (by simp) _).setCell (p := ⟨w.heap.size + 1, 1, none⟩) (by simp) _).setCell (p := ⟨w.heap.size + 1, 2, none⟩) (by simp) _
end Go.Proofs.Ytkpfmbdkfgeboaa
