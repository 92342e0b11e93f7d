/- The program's Decode: what it reads, written again. The program's Decode, as the laws call it: bytes that are wrong, bytes that are a heap's; how long a heap's bytes are. The calls whose answers the document fixes: all are as it says. -/
import Derived.Test.YthggafdfglojaaaKH8
import Derived.Test.YthggafdfglojaaaKF8
import Derived.Test.YthggafdfglojaaaN
import Derived.Test.YthggafdfglojaaaS
namespace Go.Proofs.Ythggafdfglojaaa
open Go.RowKit
set_option maxRecDepth 100000
theorem ot8_fit {c k h : Int} {s : List UInt8} {p : Ob × List UInt8} (e : ot8 c k h s = some p) : p.1.slots.length ≤ 64 := by
  unfold ot8 at e
  split at e
  · obtain ⟨q, hq, e⟩ := Option.bind_eq_some_iff.1 e
    have := (ls8_len hq).1
    cases e
    simp only; omega
  · split at e
    · obtain ⟨q, hq, e⟩ := Option.bind_eq_some_iff.1 e
      cases e; simp
    · split at e
      · obtain ⟨q, hq, e⟩ := Option.bind_eq_some_iff.1 e
        cases e; simp
      · cases e; simp
theorem ob8_fit {s : List UInt8} {p : Ob × List UInt8} (e : ob8 s = some p) : p.1.slots.length ≤ 64 := by
  unfold ob8 at e
  obtain ⟨c, -, e⟩ := Option.bind_eq_some_iff.1 e
  obtain ⟨k, -, e⟩ := Option.bind_eq_some_iff.1 e
  obtain ⟨h, -, e⟩ := Option.bind_eq_some_iff.1 e
  exact ot8_fit e
theorem obs8_fit {k : Nat} {s : List UInt8} {p : List Ob × List UInt8} (e : many8 ob8 k s = some p) : ∀ o ∈ p.1, o.slots.length ≤ 64 := by
  induction k generalizing s p with
  | zero => cases e; intro o ho; cases ho
  | succ k ih =>
    obtain ⟨a, ha, e⟩ := Option.bind_eq_some_iff.1 (show (ob8 s).bind _ = _ from e)
    obtain ⟨b, hb, e⟩ := Option.bind_eq_some_iff.1 e
    cases e
    intro o ho
    rcases List.mem_cons.1 ho with rfl | ho
    · exact ob8_fit ha
    · exact ih hb o ho
theorem rd8_fit {t : List UInt8} {h : Hp} {rs : List Int} (e : rd8 t = some (h, rs)) : h.Fit ∧ rs.length ≤ 64 := by
  unfold rd8 at e
  obtain ⟨m, -, e⟩ := Option.bind_eq_some_iff.1 e
  obtain ⟨c, -, e⟩ := Option.bind_eq_some_iff.1 e
  obtain ⟨l, -, e⟩ := Option.bind_eq_some_iff.1 e
  obtain ⟨n, hn, e⟩ := Option.bind_eq_some_iff.1 e
  obtain ⟨os, ho, e⟩ := Option.bind_eq_some_iff.1 e
  obtain ⟨r, hr, e⟩ := Option.bind_eq_some_iff.1 e
  cases e
  have h1 := (ct8_len hn).2
  have h2 := (obs8_wd ho).1
  have h3 := (ls8_len hr).1
  refine ⟨⟨by simp only; omega, fun o hoo => ?_⟩, by omega⟩
  have := obs8_fit ho o hoo
  show o.slots.length ≤ _
  omega
set_option maxHeartbeats 4000000 in
theorem dec_any8 (l : List UInt8) (hl : l.length ≤ 100000) (w : World) : Calls Try.prog 37 #[.string (str l)] w (DecP w l) := by
  obtain ⟨w0, hw0⟩ : ∃ w0, w0 = w.alloc (.cells #[.slice none 0 0, .int .i64 0, .int .i64 0] 24) := ⟨_, rfl⟩
  have HB0 : Hid (Below w.heap.size w w0) := by show Below _ _ _; rw [hw0]; exact below_alloc _ _
  have HK0 : Hid (Lies w0 w.heap.size 24 #[.slice none 0 0, .int .i64 0, .int .i64 0]) := by
    show Lies _ _ _ _
    rw [hw0]; exact Lies.new _ _ _
  have hsz := str_size l
  have ends : ∀ (W : World) (en : Int), deE l = en → en ≠ 0 → Below w.heap.size w W → Lies W w.heap.size 24 #[.slice none 0 0, .int .i64 0, .int .i64 0] →
      DecP w l (.returned (.tuple #[.agg #[.slice none 0 0, .int .i64 0, .int .i64 0], .slice none 0 0, .int .i64 en])) (((W.setCell ⟨w.heap.size, 0, none⟩ (.slice none 0 0)).setCell ⟨w.heap.size, 1, none⟩ (.int .i64 0)).setCell ⟨w.heap.size, 2, none⟩ (.int .i64 0)) := fun W en h1 h2 h3 _ =>
    dec_err h1 h2 (((h3.setCell (p := ⟨w.heap.size, 0, none⟩) (Nat.le_refl _) (.slice none 0 0)).setCell (p := ⟨w.heap.size, 1, none⟩) (Nat.le_refl _) (.int .i64 0)).setCell (p := ⟨w.heap.size, 2, none⟩) (Nat.le_refl _) (.int .i64 0))
  have ENDS := hid ends
  clear ends
  go_enter Try.func37, Try.ntmps37
  go_upto_region 1 with fail
  rw [← hw0]
  clear hw0
  by_cases q0 : (l.length : Int) < 23
  · have E : Hid (deE l = 80) := by show deE l = 80; unfold deE; rw [if_pos (by omega)]
    have k0 := HK0.out.cell 0
    have k1 := HK0.out.cell 1
    have k2 := HK0.out.cell 2
    have kf0 := HK0.out.frozen 0
    have kf1 := HK0.out.frozen 1
    have kf2 := HK0.out.frozen 2
    simp only [List.getElem?_toArray, List.getElem?_cons_zero, List.getElem?_cons_succ] at k0 k1 k2
    go_wp2_with fail
    have X1 := ((HK0.out.set_ 0 (.slice none 0 0)).set_ 1 (.int .i64 0)).set_ 2 (.int .i64 0)
    have r0 := X1.cell 0
    have r1 := X1.cell 1
    have r2 := X1.cell 2
    simp only [List.setIfInBounds_toArray, List.set_cons_zero, List.set_cons_succ, List.getElem?_toArray, List.getElem?_cons_zero, List.getElem?_cons_succ] at r0 r1 r2
    refine bodyPost_ret (v := .tuple #[.agg #[.slice none 0 0, .int .i64 0, .int .i64 0], .slice none 0 0, .int .i64 80]) (by simp [results, Try.results37, go_sem, r0, r1, r2]) rfl ?_
    exact ENDS.out w0 80 E.out (by decide) HB0.out HK0.out
  · obtain ⟨j, hj⟩ : ∃ j, j = l.length - 4 := ⟨_, rfl⟩
    have hjI : (l.length : Int) - 4 = (j : Int) := by omega
    have hw1 : IntKind.i64.wrap ((l.length : Int) - 4) = (j : Int) := by rw [hjI]; exact IntWalk.i64_in _ ⟨by omega, by omega⟩
    have hw2 : wrap64 ((l.length : Int) - 4) = (j : Int) := by rw [hjI]; exact wrap64_fit (by omega) (by omega)
    have hw3 : wrap64 (j : Int) = (j : Int) := wrap64_fit (by omega) (by omega)
    have hw4 : IntKind.i64.wrap (j : Int) = (j : Int) := IntWalk.i64_in _ ⟨by omega, by omega⟩
    have hjle : j ≤ l.length := by omega
    have hjI2 : (j : Int) ≤ (l.length : Int) := by omega
    obtain ⟨t, ht⟩ : ∃ t, t = l.take j := ⟨_, rfl⟩
    obtain ⟨s4, hs4⟩ : ∃ t, t = l.drop j := ⟨_, rfl⟩
    have x1 := str_extract l 0 j
    have x2 := str_extract l j l.length
    rw [List.drop_zero, ← ht] at x1
    rw [List.take_length, ← hs4] at x2
    have HTT : Hid (t = l.take (l.length - 4)) := by show _ = _; rw [ht, hj]
    have HS4 : Hid (s4 = l.drop (l.length - 4)) := by show _ = _; rw [hs4, hj]
    have htl : t.length ≤ 100000 := by rw [ht, List.length_take]; omega
    have HTL := hid htl
    have hst := str_size t
    have HSZ : Hid ((str t).size ≤ 9223372036854775807) := by show _ ≤ _; omega
    have H23 : Hid (23 ≤ l.length) := by show _ ≤ _; omega
    have HM1 := hid (moI_str t)
    have HM2 := hid (boI_su t)
    obtain ⟨m, hm⟩ : ∃ m, m = (su8 t : Int) := ⟨_, rfl⟩
    rw [← hm] at HM1 HM2
    have HMM := hid hm
    obtain ⟨n5, hn5⟩ : ∃ x, x = n4 m := ⟨_, rfl⟩
    have HN5 := hid hn5
    rw [← hn5] at HM2
    clear ht hs4 hm hn5 hj htl hjI
    go_upto_region 3 with fail
    go_quiet (fail)
    go_wp2_with fail
    refine (of_any7 (str t) HSZ.out _).mono ?_
    rintro e v1 ⟨rfl, hb⟩
    rw [HM1.out]
    have HV1 := hid (then_w (below_drewN w0 _) hb)
    clear hb
    go_wp2_with fail
    refine (bytes_any7 m _).mono ?_
    rintro e w1 ⟨rfl, hb⟩
    rw [HM2.out]
    have HV2 := then_w HV1.out hb
    have HB1 := hid (HB0.out.trans (HV2.mono HB0.out.size))
    have HK1 := hid (HK0.out.later HV2)
    clear hb HV2 HV1
    by_cases hq : n5 = s4
    · have HS5 : Hid (n4 (su8 (l.take (l.length - 4))) = l.drop (l.length - 4)) := by
        show _ = _
        rw [← HTT.out, ← HS4.out, ← hq, HN5.out, HMM.out]
      subst hq
      go_wp2_with fail
      refine (read_any8 t HTL.out _).mono ?_
      rintro e w2 ⟨hb, h1, h2⟩
      have HB2 := hid (HB1.out.trans (hb.mono HB1.out.size))
      have HK2 := hid (HK1.out.later hb)
      clear hb
      rcases hp : rd8 t with _ | ⟨h, rs⟩
      · obtain rfl := h1 hp
        have E : Hid (deE l = 82) := rd8_none H23.out HS5.out (by rw [← HTT.out]; exact hp)
        have HB3 := hid (HB2.out.alloc HB2.out.size (.cells #[.slice none 0 0, .int .i64 0, .int .i64 0] 24))
        have HK3 := hid (HK2.out.alloc (.cells #[.slice none 0 0, .int .i64 0, .int .i64 0] 24))
        clear h1 h2 hp
        have k0 := HK3.out.cell 0
        have k1 := HK3.out.cell 1
        have k2 := HK3.out.cell 2
        have kf0 := HK3.out.frozen 0
        have kf1 := HK3.out.frozen 1
        have kf2 := HK3.out.frozen 2
        simp only [List.getElem?_toArray, List.getElem?_cons_zero, List.getElem?_cons_succ] at k0 k1 k2
        go_wp2_with fail
        have X1 := ((HK3.out.set_ 0 (.slice none 0 0)).set_ 1 (.int .i64 0)).set_ 2 (.int .i64 0)
        have r0 := X1.cell 0
        have r1 := X1.cell 1
        have r2 := X1.cell 2
        simp only [List.setIfInBounds_toArray, List.set_cons_zero, List.set_cons_succ, List.getElem?_toArray, List.getElem?_cons_zero, List.getElem?_cons_succ] at r0 r1 r2
        refine bodyPost_ret (v := .tuple #[.agg #[.slice none 0 0, .int .i64 0, .int .i64 0], .slice none 0 0, .int .i64 82]) (by simp [results, Try.results37, go_sem, r0, r1, r2]) rfl ?_
        exact ENDS.out _ 82 E.out (by decide) HB3.out HK3.out
      · obtain ⟨A, c, R, d, ls, rfl, g1, g2, g3⟩ := h2 h rs hp
        obtain ⟨hfit, hrl⟩ := rd8_fit hp
        have HP : Hid (rd8 (l.take (l.length - 4)) = some (h, rs)) := by show _ = _; rw [← HTT.out]; exact hp
        have HF := hid hfit
        have HG1 := hid g1
        obtain ⟨b7, hb7⟩ : ∃ u, u = w2.heap.size := ⟨_, rfl⟩
        obtain ⟨w3, hw3⟩ : ∃ u, u = w2.alloc (.cells #[Value.slice A h.objs.length c, Value.int .i64 h.cap, Value.int .i64 h.last] 24) := ⟨_, rfl⟩
        have hal := below_alloc w2 (.cells #[Value.slice A h.objs.length c, Value.int .i64 h.cap, Value.int .i64 h.last] 24)
        rw [← hw3] at hal
        have HB3 := hid (HB2.out.trans (hal.mono HB2.out.size))
        have HK3 := hid (HK2.out.later hal)
        have HO3 := hid ((g2.later hal).lower HB1.out.size)
        have HI3 := hid (own_lower (own_later g3 hal) HB1.out.size)
        have H73 : Hid (Lies w3 b7 24 #[Value.slice A h.objs.length c, Value.int .i64 h.cap, Value.int .i64 h.last]) := by show Lies _ _ _ _; rw [hw3, hb7]; exact Lies.new _ _ _
        clear h1 h2 hp hfit g1 g2 g3 hal
        go_upto_region 7 with fail
        rw [← hb7, ← hw3]
        clear hb7 hw3
        have y0 := H73.out.cell 0
        have y1 := H73.out.cell 1
        have y2 := H73.out.cell 2
        simp only [List.getElem?_toArray, List.getElem?_cons_zero, List.getElem?_cons_succ] at y0 y1 y2
        go_wp2_with fail
        refine (enc_any8 h rs A R c d _ (own_obs HO3.out HG1.out) HF.out (own_ints HI3.out) (by omega)).mono ?_
        rintro e w4 ⟨rfl, hb⟩
        have HB4 := hid (HB3.out.trans (hb.mono HB3.out.size))
        have HK4 := hid (HK3.out.later hb)
        have H74 := hid (H73.out.later hb)
        have HO4 := hid (HO3.out.later hb)
        have HI4 := hid (own_later HI3.out hb)
        clear hb y0 y1 y2
        by_cases he : encE h rs = l
        · obtain ⟨e1, e2, e3⟩ := rd8_yes H23.out HP.out he
          have HD := hid (And.intro e1 (And.intro e2 e3))
          clear e1 e2 e3
          rw [he]
          have q0 := H74.out.cell 0
          have q1 := H74.out.cell 1
          have q2 := H74.out.cell 2
          have k0 := HK4.out.cell 0
          have k1 := HK4.out.cell 1
          have k2 := HK4.out.cell 2
          have kf0 := HK4.out.frozen 0
          have kf1 := HK4.out.frozen 1
          have kf2 := HK4.out.frozen 2
          simp only [List.getElem?_toArray, List.getElem?_cons_zero, List.getElem?_cons_succ] at k0 k1 k2
          simp only [List.getElem?_toArray, List.getElem?_cons_zero, List.getElem?_cons_succ] at q0 q1 q2
          go_wp2_with fail
          have X1 := ((HK4.out.set_ 0 (.slice A h.objs.length c)).set_ 1 (.int .i64 h.cap)).set_ 2 (.int .i64 h.last)
          have r0 := X1.cell 0
          have r1 := X1.cell 1
          have r2 := X1.cell 2
          simp only [List.setIfInBounds_toArray, List.set_cons_zero, List.set_cons_succ, List.getElem?_toArray, List.getElem?_cons_zero, List.getElem?_cons_succ] at r0 r1 r2
          refine bodyPost_ret (v := .tuple #[.agg #[Value.slice A h.objs.length c, Value.int .i64 h.cap, Value.int .i64 h.last], .slice R rs.length d, .int .i64 0]) (by simp [results, Try.results37, go_sem, r0, r1, r2]) rfl ?_
          obtain ⟨f0, f1, f2⟩ := HD.out
          refine ⟨A, c, R, d, ls, ?_, ?_, ?_, ?_, ?_⟩
          · rw [f0, f1, f2]
          · rw [f1]; exact HG1.out
          · exact ((HO4.out.off HK4.out 0 (.slice A h.objs.length c)).off (HK4.out.set_ 0 (.slice A h.objs.length c)) 1 (.int .i64 h.cap)).off ((HK4.out.set_ 0 (.slice A h.objs.length c)).set_ 1 (.int .i64 h.cap)) 2 (.int .i64 h.last)
          · rw [f2]
            exact ownsRow_setCell_other (ownsRow_setCell_other (ownsRow_setCell_other HI4.out (own_blk_ne HI4.out HK4.out (by decide)) _) (own_blk_ne HI4.out HK4.out (by decide)) _) (own_blk_ne HI4.out HK4.out (by decide)) _
          · exact (((HB4.out.setCell (p := ⟨w.heap.size, 0, none⟩) (Nat.le_refl _) _).setCell (p := ⟨w.heap.size, 1, none⟩) (Nat.le_refl _) _).setCell (p := ⟨w.heap.size, 2, none⟩) (Nat.le_refl _) _)
        · have E : Hid (deE l = 82) := rd8_other H23.out HS5.out HP.out he
          obtain ⟨z, hz⟩ : ∃ z, z = encE h rs := ⟨_, rfl⟩
          rw [← hz] at he ⊢
          have g1 : ¬ (str z).toList = (str l).toList := fun e => he (str_inj e)
          have g2 : ((str z).toList == (str l).toList) = false := beq_eq_false_iff_ne.2 g1
          clear hz
          have k0 := HK4.out.cell 0
          have k1 := HK4.out.cell 1
          have k2 := HK4.out.cell 2
          have kf0 := HK4.out.frozen 0
          have kf1 := HK4.out.frozen 1
          have kf2 := HK4.out.frozen 2
          simp only [List.getElem?_toArray, List.getElem?_cons_zero, List.getElem?_cons_succ] at k0 k1 k2
          go_wp2_with fail
          have X1 := ((HK4.out.set_ 0 (.slice none 0 0)).set_ 1 (.int .i64 0)).set_ 2 (.int .i64 0)
          have r0 := X1.cell 0
          have r1 := X1.cell 1
          have r2 := X1.cell 2
          simp only [List.setIfInBounds_toArray, List.set_cons_zero, List.set_cons_succ, List.getElem?_toArray, List.getElem?_cons_zero, List.getElem?_cons_succ] at r0 r1 r2
          refine bodyPost_ret (v := .tuple #[.agg #[.slice none 0 0, .int .i64 0, .int .i64 0], .slice none 0 0, .int .i64 82]) (by simp [results, Try.results37, go_sem, r0, r1, r2]) rfl ?_
          exact ENDS.out w4 82 E.out (by decide) HB4.out HK4.out
    · have E : Hid (deE l = 81) := by
        show deE l = 81
        unfold deE
        rw [if_neg (by have := H23.out; omega), if_pos]
        rw [← HTT.out, ← HS4.out, ← HMM.out, ← HN5.out]; exact hq
      have g1 : ¬ (str s4).toList = (str n5).toList := fun e => hq (str_inj e.symm)
      have g2 : ((str s4).toList == (str n5).toList) = false := beq_eq_false_iff_ne.2 g1
      have k0 := HK1.out.cell 0
      have k1 := HK1.out.cell 1
      have k2 := HK1.out.cell 2
      have kf0 := HK1.out.frozen 0
      have kf1 := HK1.out.frozen 1
      have kf2 := HK1.out.frozen 2
      simp only [List.getElem?_toArray, List.getElem?_cons_zero, List.getElem?_cons_succ] at k0 k1 k2
      go_wp2_with fail
      have X1 := ((HK1.out.set_ 0 (.slice none 0 0)).set_ 1 (.int .i64 0)).set_ 2 (.int .i64 0)
      have r0 := X1.cell 0
      have r1 := X1.cell 1
      have r2 := X1.cell 2
      simp only [List.setIfInBounds_toArray, List.set_cons_zero, List.set_cons_succ, List.getElem?_toArray, List.getElem?_cons_zero, List.getElem?_cons_succ] at r0 r1 r2
      refine bodyPost_ret (v := .tuple #[.agg #[.slice none 0 0, .int .i64 0, .int .i64 0], .slice none 0 0, .int .i64 81]) (by simp [results, Try.results37, go_sem, r0, r1, r2]) rfl ?_
      exact ENDS.out w1 81 E.out (by decide) HB1.out HK1.out
end Go.Proofs.Ythggafdfglojaaa
namespace Go.Proofs.Ythggafdfglojaaa
open Go.RowKit
theorem obs_none (w : World) (A : Option Addr) : ObsR w A [] := fun hn => by simp at hn
theorem str_full8 {E : List UInt8} (h : E ≠ []) : (str E).toList.isEmpty = false := by
  rw [ByteArray.toList_eq, list_str]
  cases E with
  | nil => exact absurd rfl h
  | cons a E => rfl
theorem zero_fit8 : (⟨[], 0, 0⟩ : Hp).Fit := ⟨by decide, fun o ho => by cases ho⟩
theorem dec_zero8 {l : List UInt8} {en : Int} (h : deE l = en) (hn : en ≠ 0) (hl : l.length ≤ 100000) (w : World) : Calls Try.prog 37 #[.string (str l)] w fun e w' =>
    ∃ A c R d, e = .returned (.tuple #[.agg #[.slice A 0 c, .int .i64 0, .int .i64 0], .slice R 0 d, .int .i64 en]) ∧ Below w.heap.size w w' := by
  obtain ⟨h2, h3⟩ := de_no (l := l) (by rw [h]; exact hn)
  refine (dec_any8 l hl w).mono fun e w' ⟨A, c, R, d, ls, g1, g2, g3, g4, g5⟩ => ?_
  rw [h, h2, h3] at g1
  exact ⟨A, c, R, d, g1, g5⟩
theorem dec_full8 {l : List UInt8} {k : Hp} {L : List Int} (h0 : deE l = 0) (h1 : deH l = k) (h2 : deL l = L) (hl : l.length ≤ 100000) (w : World) : Calls Try.prog 37 #[.string (str l)] w fun e w' =>
    ∃ A c R d, e = .returned (.tuple #[.agg #[.slice A k.objs.length c, .int .i64 k.cap, .int .i64 k.last], .slice R L.length d, .int .i64 0]) ∧ ObsR w' A k.objs ∧ IntsR w' R L ∧ Below w.heap.size w w' := by
  refine (dec_any8 l hl w).mono fun e w' ⟨A, c, R, d, ls, g1, g2, g3, g4, g5⟩ => ?_
  rw [h0, h1, h2] at g1
  rw [h1] at g2
  rw [h2] at g4
  exact ⟨A, c, R, d, g1, own_obs g3 g2, own_ints g4, g5⟩
theorem may_fit8 {h : Hp} {rs : List Int} (hm : mayR h rs = true) : h.Fit ∧ rs.length ≤ 64 := by
  obtain ⟨-, -, hn, ho, -, hr⟩ := may_parts hm
  refine ⟨⟨by omega, fun o hoo => ?_⟩, hr⟩
  obtain ⟨-, -, hk, -⟩ := ob_parts (ho o hoo)
  show o.slots.length ≤ _
  rcases kind_parts hk with ⟨-, h1, -, -⟩ | ⟨-, h1, -, -⟩ | ⟨-, h1, -⟩
  · omega
  · rw [h1]; simp
  · rw [h1]; simp
theorem enc_len8 (h : Hp) (rs : List Int) : (encE h rs).length ≤ 100000 := by
  by_cases hm : mayR h rs = true
  · obtain ⟨-, -, hn, ho, -, hr⟩ := may_parts hm
    have hb : ∀ os : List Ob, (∀ o ∈ os, obB h.objs.length o = true) → szS os ≤ 340 * os.length := by
      intro os hos
      induction os with
      | nil => simp [szS]
      | cons o os ih =>
        have e : szS (o :: os) = szE o + szS os := by simp [szS]
        have h1 := ih fun p hp => hos p (by simp [hp])
        obtain ⟨-, -, hk, -⟩ := ob_parts (hos o (by simp))
        have h2 : szE o ≤ 340 := by
          have hz : (⟨#[]⟩ : ByteArray).size = 0 := rfl
          unfold szE
          rcases kind_parts hk with ⟨e1, a, b, -⟩ | ⟨e1, a, b, -⟩ | ⟨e1, a, b⟩
          · rw [b, hz, if_neg (by omega)]; omega
          · rw [a, if_neg (by omega)]; simp only [List.length_nil]; omega
          · rw [a, b, hz, if_pos e1]; simp only [List.length_nil]; omega
        rw [e, List.length_cons]; omega
    have := hb h.objs ho
    rw [enc_size hm]; omega
  · rw [enc_no hm]; simp
end Go.Proofs.Ythggafdfglojaaa
namespace Go.Proofs.Ythggafdfglojaaa
open Go.RowKit
set_option maxRecDepth 100000
def O8 : Ob := ⟨0, 0, [], ⟨#[]⟩, 0, 1⟩
def M8 : Hp := ⟨[O8], 3, 0⟩
def E8 : List UInt8 := encE M8 []
theorem e8_is : encE M8 [] = E8 := rfl
theorem m8_fit : M8.Fit := by
  refine ⟨by decide, fun o ho => ?_⟩
  obtain rfl : o = O8 := by simpa [M8] using ho
  show O8.slots.length ≤ _
  decide
theorem z8_fit : (⟨[], 0, 0⟩ : Hp).Fit := ⟨by decide, fun o ho => by cases ho⟩
theorem nil_ints (w : World) : IntsR w none [] := fun hn => by simp at hn
theorem nil_obs (w : World) : ObsR w none [] := fun hn => by simp at hn
theorem two_ints {w : World} {g : Nat} (h : Lies w g 3 #[.int .i64 2]) : IntsR w (some ⟨g, 0, none⟩) [2] := fun _ => by
  refine ⟨g, 0, rfl, h.lt, fun j x hx => ?_⟩
  have hj : j < 1 := (List.getElem?_eq_some_iff.1 hx).1
  obtain rfl : j = 0 := by omega
  obtain rfl : x = 2 := by simpa using hx.symm
  exact h.cell 0
theorem m8_may : mayR M8 [] = true := by kernel_rfl
theorem m8_wd : M8.Wd := fun o ho => by
  obtain rfl : o = O8 := by simpa [M8] using ho
  exact ⟨by decide, by decide⟩
theorem e8_len : E8.length = 39 := by kernel_rfl
theorem e8_dec : deE E8 = 0 ∧ deH E8 = M8 ∧ deL E8 = [] := enc_dec m8_may m8_wd
theorem e8_seven : E8.take 7 = [65, 78, 49, 3, 0, 0, 0] := by kernel_rfl
theorem e8_cut : deE (E8.take 22) = 80 := by kernel_rfl
theorem e8_sum : deE (E8 ++ [0]) = 81 := by kernel_rfl
def T8 : List UInt8 := [65, 78, 49] ++ (E8.take 35).drop 3 ++ [0]
theorem t8_form : deE (T8 ++ n4 (su8 T8)) = 82 := by kernel_rfl
theorem e8_two : encE M8 [2] = [] := by kernel_rfl
theorem e8_none : encE ⟨[], 0, 0⟩ [] = [] := by kernel_rfl
theorem m8_obs {W : World} {s : Nat} (k : Lies W s 46 #[.int .i64 0, .int .i64 0, .slice none 0 0, .string ⟨#[]⟩, .int .i64 0, .int .i64 1]) : ObsR W (some ⟨s, 0, none⟩) M8.objs := fun _ => by
  refine ⟨s, 0, rfl, k.lt, fun i o ho => ?_⟩
  have hi : i < 1 := (List.getElem?_eq_some_iff.1 ho).1
  obtain rfl : i = 0 := by omega
  obtain rfl : o = O8 := by simpa [M8] using ho.symm
  exact ⟨none, 0, ⟨k.cell 0, k.cell 1, k.cell 2, k.cell 3, k.cell 4, k.cell 5⟩, fun hn => by simp [O8] at hn, Nat.le_refl _, fun _ => rfl⟩
theorem enc_lit {h : Hp} {rs : List Int} {E : List UInt8} (e : encE h rs = E) (A R : Option Addr) (c d : Nat) (w : World) (hs : ObsR w A h.objs) (fit : h.Fit) (hr : IntsR w R rs) (hl : rs.length ≤ 100) :
    Calls Try.prog 39 #[.agg #[.slice A h.objs.length c, .int .i64 h.cap, .int .i64 h.last], .slice R rs.length d] w fun e w' => e = .returned (.string (str E)) ∧ Below w.heap.size w w' := by
  rw [← e]; exact enc_any8 h rs A R c d w hs fit hr (by omega)
theorem dec_good (w : World) : Calls Try.prog 37 #[.string (str E8)] w fun e w' => ∃ A c R d, e = .returned (.tuple #[.agg #[.slice A M8.objs.length c, .int .i64 M8.cap, .int .i64 M8.last], .slice R 0 d, .int .i64 0]) ∧ ObsR w' A M8.objs ∧ Below w.heap.size w w' := by
  obtain ⟨h1, h2, h3⟩ := e8_dec
  refine (dec_any8 E8 (by rw [e8_len]; decide) w).mono fun e w' ⟨A, c, R, d, ls, g1, g2, g3, g4, g5⟩ => ?_
  rw [h1, h2, h3] at g1
  rw [h2] at g2
  exact ⟨A, c, R, d, g1, own_obs g3 g2, g5⟩
theorem dec_bad {l : List UInt8} {en : Int} (h : deE l = en) (hn : en ≠ 0) (hl : l.length ≤ 1000) (w : World) : Calls Try.prog 37 #[.string (str l)] w fun e w' => ∃ A c R d, e = .returned (.tuple #[.agg #[.slice A 0 c, .int .i64 0, .int .i64 0], .slice R 0 d, .int .i64 en]) ∧ Below w.heap.size w w' := by
  obtain ⟨h2, h3⟩ := de_no (l := l) (by rw [h]; exact hn)
  refine (dec_any8 l (by omega) w).mono fun e w' ⟨A, c, R, d, ls, g1, g2, g3, g4, g5⟩ => ?_
  rw [h, h2, h3] at g1
  exact ⟨A, c, R, d, g1, g5⟩
set_option maxHeartbeats 3000000 in
theorem fixed8_any (w : World) : Calls Try.prog 36 #[] w fun e w' => e = .returned (.bool true) ∧ Below w.heap.size w w' := by
  obtain ⟨w0, hw0⟩ : ∃ w0, w0 = (w.alloc (.cells #[.int .i64 0, .int .i64 0, .slice none 0 0, .string ⟨#[]⟩, .int .i64 0, .int .i64 1] 46)).alloc (.cells #[.slice (some ⟨w.heap.size, 0, none⟩) 1 1, .int .i64 3, .int .i64 0] 24) := ⟨_, rfl⟩
  have HB0 : Hid (Below w.heap.size w w0) := by show Below _ _ _; rw [hw0]; exact below_alloc2 _ _ _
  have K0 : Hid (Lies w0 w.heap.size 46 #[.int .i64 0, .int .i64 0, .slice none 0 0, .string ⟨#[]⟩, .int .i64 0, .int .i64 1]) := by
    show Lies _ _ _ _
    rw [hw0]; exact (Lies.new w 46 _).alloc _
  have X0 : Hid (Lies w0 (w.heap.size + 1) 24 #[.slice (some ⟨w.heap.size, 0, none⟩) 1 1, .int .i64 3, .int .i64 0]) := by
    show Lies _ _ _ _
    rw [hw0]
    have := Lies.new (w.alloc (.cells #[.int .i64 0, .int .i64 0, .slice none 0 0, .string ⟨#[]⟩, .int .i64 0, .int .i64 1] 46)) 24 #[.slice (some ⟨w.heap.size, 0, none⟩) 1 1, .int .i64 3, .int .i64 0]
    simpa using this
  have zz := str_size E8
  rw [e8_len] at zz
  have y1 := str_extract E8 0 7
  have y2 := str_extract E8 0 22
  have y3 := str_extract E8 3 35
  rw [List.drop_zero, e8_seven] at y1
  rw [List.drop_zero] at y2
  have y4 : str E8 ++ ⟨#[0]⟩ = str (E8 ++ [0]) := by rw [← str_append]; rfl
  have y5 : (⟨#[65, 78, 49]⟩ : ByteArray) ++ str ((E8.take 35).drop 3) ++ ⟨#[0]⟩ = str T8 := by unfold T8; rw [← str_append, ← str_append]; rfl
  have y6 : str [65, 78, 49, 3, 0, 0, 0] = ⟨#[65, 78, 49, 3, 0, 0, 0]⟩ := rfl
  rw [y6] at y1
  have hT : T8.length = 36 := by kernel_rfl
  have zt := (str_size T8).trans hT
  have HM1 := hid (moI_str T8)
  have HM2 := hid (boI_su T8)
  obtain ⟨m, hm⟩ : ∃ m, m = (su8 T8 : Int) := ⟨_, rfl⟩
  have HF := hid t8_form
  rw [← hm] at HM1 HM2 HF
  have zn := (str_size (n4 m)).trans (n4_len m)
  have y7 := str_append T8 (n4 m)
  have hTn : (T8 ++ n4 m).length ≤ 1000 := by rw [List.length_append, hT, n4_len]; decide
  have HTN := hid hTn
  have zc : (str ((E8.take 35).drop 3)).size = 32 := (str_size _).trans (by kernel_rfl)
  have y0 : str [] = ⟨#[]⟩ := rfl
  have O0 := hid (m8_obs K0.out)
  clear y6 hm hT hTn
  go_enter Try.func36, Try.ntmps36
  go_upto_region 2 with fail
  rw [← hw0]
  clear hw0
  have x0 := X0.out.cell 0
  have x1 := X0.out.cell 1
  have x2 := X0.out.cell 2
  simp only [List.getElem?_toArray, List.getElem?_cons_zero, List.getElem?_cons_succ] at x0 x1 x2
  go_wp2_with fail
  refine (enc_lit e8_is (some ⟨w.heap.size, 0, none⟩) none 1 0 _ O0.out m8_fit (nil_ints _) (by decide)).mono ?_
  rintro e w1 ⟨rfl, hb⟩
  have HB1 := hid (HB0.out.trans (hb.mono HB0.out.size))
  have X1 := hid (X0.out.later hb)
  have O1 := hid (O0.out.below hb)
  clear x0 x1 x2
  clear hb
  have x0 := X1.out.cell 0
  have x1 := X1.out.cell 1
  have x2 := X1.out.cell 2
  simp only [List.getElem?_toArray, List.getElem?_cons_zero, List.getElem?_cons_succ] at x0 x1 x2
  go_wp2_with fail
  refine (dec_good _).mono ?_
  rintro e w2 ⟨A2, c2, R2, d2, rfl, ho, hb⟩
  have HAL := hid (below_alloc w2 (.cells #[Value.slice A2 M8.objs.length c2, Value.int .i64 M8.cap, Value.int .i64 M8.last] 24))
  have HB2 := hid ((HB1.out.trans (hb.mono HB1.out.size)).trans (HAL.out.mono (Nat.le_trans HB1.out.size hb.size)))
  have X2 := hid ((X1.out.later hb).later HAL.out)
  have O2 := hid ((O1.out.below hb).below HAL.out)
  have G2 := hid (Lies.new w2 24 #[Value.slice A2 M8.objs.length c2, Value.int .i64 M8.cap, Value.int .i64 M8.last])
  have Q2 := hid (ho.below HAL.out)
  clear x0 x1 x2
  clear hb
  clear HAL ho
  have x0 := X2.out.cell 0
  have x1 := X2.out.cell 1
  have x2 := X2.out.cell 2
  have g0 := G2.out.cell 0
  have g1 := G2.out.cell 1
  have g2 := G2.out.cell 2
  simp only [List.getElem?_toArray, List.getElem?_cons_zero, List.getElem?_cons_succ] at x0 x1 x2 g0 g1 g2
  go_wp2_with fail
  refine (same_any M8 A2 (some ⟨w.heap.size, 0, none⟩) c2 1 _ Q2.out O2.out m8_fit).mono ?_
  rintro e w3 ⟨rfl, hb⟩
  have HB3 := hid (HB2.out.trans (hb.mono HB2.out.size))
  have X3 := hid (X2.out.later hb)
  have G3 := hid (G2.out.later hb)
  have O3 := hid (O2.out.below hb)
  have Q3 := hid (Q2.out.below hb)
  clear x0 x1 x2 g0 g1 g2
  clear hb
  have x0 := X3.out.cell 0
  have x1 := X3.out.cell 1
  have x2 := X3.out.cell 2
  have g0 := G3.out.cell 0
  have g1 := G3.out.cell 1
  have g2 := G3.out.cell 2
  simp only [List.getElem?_toArray, List.getElem?_cons_zero, List.getElem?_cons_succ] at x0 x1 x2 g0 g1 g2
  go_wp2_with fail
  refine (dec_bad e8_cut (by decide) (by rw [List.length_take, e8_len]; decide) _).mono ?_
  rintro e w4 ⟨A4, c4, R4, d4, rfl, hb⟩
  have HAL := hid (below_alloc w4 (.cells #[.slice A4 0 c4, .int .i64 0, .int .i64 0] 24))
  have HB4 := hid ((HB3.out.trans (hb.mono HB3.out.size)).trans (HAL.out.mono (Nat.le_trans HB3.out.size hb.size)))
  have X4 := hid ((X3.out.later hb).later HAL.out)
  have O4 := hid ((O3.out.below hb).below HAL.out)
  have Q4 := hid ((Q3.out.below hb).below HAL.out)
  clear x0 x1 x2 g0 g1 g2
  clear hb
  clear HAL
  have x0 := X4.out.cell 0
  have x1 := X4.out.cell 1
  have x2 := X4.out.cell 2
  simp only [List.getElem?_toArray, List.getElem?_cons_zero, List.getElem?_cons_succ] at x0 x1 x2
  go_wp2_with fail
  refine (dec_bad e8_sum (by decide) (by rw [List.length_append, e8_len]; decide) _).mono ?_
  rintro e w5 ⟨A5, c5, R5, d5, rfl, hb⟩
  have HAL := hid (below_alloc w5 (.cells #[.slice A5 0 c5, .int .i64 0, .int .i64 0] 24))
  have HB5 := hid ((HB4.out.trans (hb.mono HB4.out.size)).trans (HAL.out.mono (Nat.le_trans HB4.out.size hb.size)))
  have X5 := hid ((X4.out.later hb).later HAL.out)
  have O5 := hid ((O4.out.below hb).below HAL.out)
  have Q5 := hid ((Q4.out.below hb).below HAL.out)
  clear x0 x1 x2
  clear hb
  clear HAL
  have x0 := X5.out.cell 0
  have x1 := X5.out.cell 1
  have x2 := X5.out.cell 2
  simp only [List.getElem?_toArray, List.getElem?_cons_zero, List.getElem?_cons_succ] at x0 x1 x2
  go_wp2_with fail
  refine (rof_any7 (str T8) (by rw [zt]; decide) _).mono ?_
  rintro e wx ⟨rfl, rfl⟩
  rw [HM1.out]
  go_wp2_with fail
  refine (rbytes_any m _).mono ?_
  rintro e w6 ⟨rfl, hb⟩
  rw [HM2.out]
  have HB6 := hid (HB5.out.trans (hb.mono HB5.out.size))
  have X6 := hid (X5.out.later hb)
  have O6 := hid (O5.out.below hb)
  have Q6 := hid (Q5.out.below hb)
  clear x0 x1 x2
  clear hb
  have x0 := X6.out.cell 0
  have x1 := X6.out.cell 1
  have x2 := X6.out.cell 2
  simp only [List.getElem?_toArray, List.getElem?_cons_zero, List.getElem?_cons_succ] at x0 x1 x2
  go_wp2_with fail
  refine (dec_bad HF.out (by decide) HTN.out _).mono ?_
  rintro e w7 ⟨A7, c7, R7, d7, rfl, hb⟩
  have HAL := hid (below_alloc w7 (.cells #[.slice A7 0 c7, .int .i64 0, .int .i64 0] 24))
  have HB7 := hid ((HB6.out.trans (hb.mono HB6.out.size)).trans (HAL.out.mono (Nat.le_trans HB6.out.size hb.size)))
  have X7 := hid ((X6.out.later hb).later HAL.out)
  have O7 := hid ((O6.out.below hb).below HAL.out)
  have Q7 := hid ((Q6.out.below hb).below HAL.out)
  clear x0 x1 x2
  clear hb
  clear HAL
  have x0 := X7.out.cell 0
  have x1 := X7.out.cell 1
  have x2 := X7.out.cell 2
  simp only [List.getElem?_toArray, List.getElem?_cons_zero, List.getElem?_cons_succ] at x0 x1 x2
  go_upto_region 10 with fail
  obtain ⟨V, hV⟩ : ∃ V, V = w7.alloc (.cells #[.slice A7 0 c7, .int .i64 0, .int .i64 0] 24) := ⟨_, rfl⟩
  rw [← hV] at O7 HB7 X7 x0 x1 x2 ⊢
  clear hV
  have hA := below_alloc V (.cells #[.int .i64 2] 3)
  have HI := hid (two_ints (Lies.new V 3 #[.int .i64 2]))
  have OV2 := hid (O7.out.below hA)
  have HBV := hid (HB7.out.trans (hA.mono HB7.out.size))
  clear hA
  go_wp2_with fail
  refine (enc_lit e8_two (some ⟨w.heap.size, 0, none⟩) (some ⟨V.heap.size, 0, none⟩) 1 1 _ OV2.out m8_fit HI.out (by decide)).mono ?_
  rintro e v1 ⟨rfl, hb⟩
  have HB1' := hid (HBV.out.trans (hb.mono HBV.out.size))
  clear hb
  go_wp2_with fail
  refine (enc_lit e8_none none none 0 0 _ (nil_obs _) z8_fit (nil_ints _) (by decide)).mono ?_
  rintro e v2 ⟨rfl, hb⟩
  have HB2' := hid (HB1'.out.trans (hb.mono HB1'.out.size))
  clear hb
  go_wp2_with fail
  go_ret
  exact ⟨by first | rfl | simp, HB2'.out⟩
end Go.Proofs.Ythggafdfglojaaa
