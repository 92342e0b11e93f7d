/- The little heap of the calls whose answers are fixed. The calls whose answers the document fixes: all are as it says. -/
import Derived.Test.YtalfbdigjaibkaaGreatTS12
namespace Go.Proofs.YtalfbdigjaibkaaGreat
open Go.RowKit
set_option maxRecDepth 100000
def zL12 : LO := ⟨zO12, none, 0⟩
def mO12 : Ob := ⟨0, 0, [1, 3, 5, 16, 18], ⟨#[]⟩, 0, 0⟩
def cO12 : Ob := ⟨0, 1, [], ⟨#[2, 1, 14, 0]⟩, 0, 0⟩
def lO12 : Ob := ⟨0, 0, [7], ⟨#[]⟩, 0, 0⟩
def LT12 : Hp := ⟨List.replicate 7 zO12 ++ [mO12, cO12, lO12], 12, 0⟩
/-- objects appended to a row of the call's own, run -/
theorem run_app_row12 (w : World) (base b : Nat) (A : Option Addr) (c d n m : Nat) (ls new : List LO) (hown : w.ownsRow base 60 6 (.slice A n c) n (rowOf ls)) (hn : n = ls.length) (hm : m = new.length) (hl : n + m ≤ 1000)
    (hnew : Lies w b 60 (rowOf new).toArray) (hbase : base ≤ w.heap.size) :
    ∃ A' c' w', (Builtin.append_ #[22, 22] 22 #[.slice A n c, .slice (some ⟨b, 0, none⟩) m d]).run Tryz.prog w = .ok (.slice A' (n + m) c') w' ∧
      w'.ownsRow base 60 6 (.slice A' (n + m) c') (n + m) (rowOf (ls ++ new)) ∧ w.grownBy w' (Value.slice A n c).ownBlock := by
  obtain ⟨j0, hj, hy0, hy1, hy2⟩ := info_parts obj_info
  obtain ⟨v', w', h1, h2, h3, -⟩ := run_append_own (P := Tryz.prog) w base 22 22 60 j0 (.agg #[.int .i64 0, .int .i64 0, .slice none 0 0, .string ⟨#[]⟩, .int .i64 0, .int .i64 0]) 6 72 Tryz.underlying22 hj hy0 hy1 hy2 rfl (by decide) _ _ _ hown ⟨b, 0, none⟩ m d (rowOf new) (by rw [hm]; exact rowOf_length new) (by
      intro j u hu
      rw [Addr.add_lit, Nat.zero_add, hnew.cell j]
      simpa using hu) (rowOf_one new) (by unfold maxLen; omega) (by omega) hbase
  obtain ⟨A', c', rfl⟩ := own_form h2
  exact ⟨A', c', w', h1, by rw [rowOf_append]; exact h2, h3⟩
theorem grown_lies12 {w w' : World} {g : Nat} {t : TypeId} {cs : Array Value} {base n : Nat} {v : Value} {xs : List Value} (hg : w.grownBy w' v.ownBlock) (h : Lies w g t cs) (ho : w.ownsRow base 60 6 v n xs) (ht : 60 ≠ t) : Lies w' g t cs :=
  h.grown hg (fun e => own_blk_ne ho h ht e.symm)
theorem row_obs12 {w : World} {base : Nat} {A : Option Addr} {c : Nat} {ls : List LO} (h : w.ownsRow base 60 6 (.slice A ls.length c) ls.length (rowOf ls)) (hi : ∀ l ∈ ls, IntsR w l.S l.o.slots) (hn : ∀ l ∈ ls, l.S = none → l.c = 0)
    (hc : ∀ l ∈ ls, l.o.slots.length ≤ l.c) : ObsR w A (ls.map (·.o)) :=
  LaidR.obs ⟨fun hp => by
    obtain ⟨g, cg, hv, hg0, hg1⟩ := h.form hp
    simp only [Value.slice.injEq, true_and] at hv
    obtain ⟨rfl, rfl⟩ := hv
    refine ⟨g, 0, rfl, hg1, fun j u hu => ?_⟩
    have hj : j < ls.length * 6 := by
      have := (List.getElem?_eq_some_iff.1 hu).1
      rwa [rowOf_length] at this
    rw [Nat.zero_add]
    exact (h.cellAt j hj).trans hu, hi, hn⟩ hc
theorem lies_ints12 {w : World} {g : Nat} {l : List Int} {cs : Array Value} (hl : Lies w g 3 cs) (hc : cs.toList = l.map (Value.int .i64)) : IntsR w (some ⟨g, 0, none⟩) l := fun _ => by
  refine ⟨g, 0, rfl, hl.lt, fun j x hx => ?_⟩
  rw [Nat.zero_add, hl.cell, ← Array.getElem?_toList, hc, List.getElem?_map, hx]; rfl
set_option maxHeartbeats 4000000 in
theorem little_any12 (w : World) : Calls Tryz.prog 35 #[] w fun e w' => ∃ A c, e = .returned (.agg #[.slice A LT12.objs.length c, .int .i64 LT12.cap, .int .i64 LT12.last]) ∧ ObsR w' A LT12.objs ∧ Below w.heap.size w w' := by
  obtain ⟨w0, hw0⟩ : ∃ x, x = (w.alloc (.cells #[.slice none 0 0, .int .i64 0, .int .i64 0] 24)).alloc (.cells #[.slice none 0 0, .int .i64 12, .int .i64 0] 24) := ⟨_, rfl⟩
  have HB0 : Hid (Below w.heap.size w w0) := by show Below _ _ _; rw [hw0]; exact below_alloc2 w _ _
  have HK0 : Hid (Lies w0 w.heap.size 24 #[.slice none 0 0, .int .i64 0, .int .i64 0]) := by show Lies _ _ _ _; rw [hw0]; exact (Lies.new w _ _).alloc _
  have HL0 : Hid (Lies w0 (w.heap.size + 1) 24 #[.slice none 0 0, .int .i64 12, .int .i64 0]) := by
    show Lies _ _ _ _
    have := Lies.new (w.alloc (.cells #[.slice none 0 0, .int .i64 0, .int .i64 0] 24)) 24 #[.slice none 0 0, .int .i64 12, .int .i64 0]
    rw [hw0]
    simpa [Hid] using this
  have HO0 : Hid (w0.ownsRow w.heap.size 60 6 (.slice none 0 0) 0 (rowOf (List.replicate 0 zL12))) := World.ownsRow_nil _ _ _ _
  go_enter Tryz.func35, Tryz.ntmps35
  go_wp2_with fail
  rw [← hw0]
  clear hw0
  go_loopw [2] (fun i wr => ∃ (k : Nat) (A : Option Addr) (c : Nat), k ≤ 7 ∧ i = .int .i64 k ∧ Hid (Lies wr w.heap.size 24 #[.slice none 0 0, .int .i64 0, .int .i64 0]) ∧ Hid (Lies wr (w.heap.size + 1) 24 #[.slice A k c, .int .i64 12, .int .i64 0]) ∧ Hid (wr.ownsRow w.heap.size 60 6 (.slice A k c) k (rowOf (List.replicate k zL12))) ∧ Hid (Below w.heap.size w wr)) (fun i _ => 7 - (intOf i).toNat)
  case atStart => exact ⟨0, none, 0, by omega, rfl, HK0, HL0, HO0, HB0⟩
  case round =>
    rename World => w1
    obtain ⟨k, A, c, hk, rfl, HK, HL, HO, HB⟩ := hrel
    clear HK0 HL0 HO0 HB0
    obtain ⟨l0, l1, l2⟩ := HL.out.c3
    obtain ⟨lf0, lf1, lf2⟩ := HL.out.f3
    by_cases hlt : k < 7
    · have hal := below_alloc w1 (.cells #[.int .i64 0, .int .i64 0, .slice none 0 0, .string ⟨#[]⟩, .int .i64 0, .int .i64 0] 60)
      have ho1 := own_later HO.out hal
      obtain ⟨A2, c2, w2, hrun, hO2, hg2⟩ := run_app_row12 (w1.alloc (.cells #[.int .i64 0, .int .i64 0, .slice none 0 0, .string ⟨#[]⟩, .int .i64 0, .int .i64 0] 60)) w.heap.size w1.heap.size A c 1 k 1 (List.replicate k zL12) [zL12] ho1 (by simp) rfl (by omega) (Lies.new w1 60 #[.int .i64 0, .int .i64 0, .slice none 0 0, .string ⟨#[]⟩, .int .i64 0, .int .i64 0]) (Nat.le_trans HB.out.size hal.size)
      rw [← List.replicate_succ'] at hO2
      have HRUN := hid hrun
      have HO2 := hid hO2
      have HK2 := hid (grown_lies12 hg2 (HK.out.later hal) ho1 (by decide))
      have HL2 := hid (grown_lies12 hg2 (HL.out.later hal) ho1 (by decide))
      have HB2 : Hid (Below w.heap.size w w2) := (HB.out.trans (hal.mono HB.out.size)).grown hg2 (Nat.le_trans HB.out.size hal.size) (fun q hq => (ho1.lt q hq).1)
      have hk7 : (k : Int) < 7 := by omega
      clear hal ho1 hrun hO2 hg2
      have p0 := HL2.out.cell 0
      have pf0 := HL2.out.frozen 0
      simp only [List.getElem?_toArray, List.getElem?_cons_zero] at p0
      have HO3 := hid (ownsRow_setCell_other HO2.out (own_blk_ne HO2.out HL2.out (by decide)) (a := ⟨w.heap.size + 1, 0, none⟩) (.slice A2 (k + 1) c2))
      have HK3 := hid (HK2.out.far (p := ⟨w.heap.size + 1, 0, none⟩) (by simp) (.slice A2 (k + 1) c2))
      have HL3 := hid (HL2.out.set_ 0 (.slice A2 (k + 1) c2))
      have HB3 := hid (HB2.out.setCell (p := ⟨w.heap.size + 1, 0, none⟩) (by simp) (.slice A2 (k + 1) c2))
      go_wp2_with (at_builtin; refine wpList_app_run rfl (.tmp 9) (.tmp 11) 22 rfl _ _ HRUN.out ?_)
      go_roundw
      case rel => exact ⟨k + 1, A2, c2, by omega, by go_num, HK3, HL3, HO3, HB3⟩
      case measure => simp [intOf]; omega
    · have e7 : k = 7 := by omega
      subst e7
      have hal : Below w1.heap.size w1 (((w1.alloc (.cells #[.int .i64 1, .int .i64 3, .int .i64 5, .int .i64 16, .int .i64 18] 3)).alloc (.cells #[.int .i64 7] 3)).alloc (.cells #[.int .i64 0, .int .i64 0, .slice (some ⟨w1.heap.size, 0, none⟩) 5 5, .string ⟨#[]⟩, .int .i64 0, .int .i64 0, .int .i64 0, .int .i64 1, .slice none 0 0, .string ⟨#[2, 1, 14, 0]⟩, .int .i64 0, .int .i64 0, .int .i64 0, .int .i64 0, .slice (some ⟨w1.heap.size + 1, 0, none⟩) 1 1, .string ⟨#[]⟩, .int .i64 0, .int .i64 0] 60)) := ((below_alloc w1 _).alloc (by simp) _).alloc (by simp; omega) _
      have ho1 := own_later HO.out hal
      have hb9 : Lies (((w1.alloc (.cells #[.int .i64 1, .int .i64 3, .int .i64 5, .int .i64 16, .int .i64 18] 3)).alloc (.cells #[.int .i64 7] 3)).alloc (.cells #[.int .i64 0, .int .i64 0, .slice (some ⟨w1.heap.size, 0, none⟩) 5 5, .string ⟨#[]⟩, .int .i64 0, .int .i64 0, .int .i64 0, .int .i64 1, .slice none 0 0, .string ⟨#[2, 1, 14, 0]⟩, .int .i64 0, .int .i64 0, .int .i64 0, .int .i64 0, .slice (some ⟨w1.heap.size + 1, 0, none⟩) 1 1, .string ⟨#[]⟩, .int .i64 0, .int .i64 0] 60)) (w1.heap.size + 2) 60 #[.int .i64 0, .int .i64 0, .slice (some ⟨w1.heap.size, 0, none⟩) 5 5, .string ⟨#[]⟩, .int .i64 0, .int .i64 0, .int .i64 0, .int .i64 1, .slice none 0 0, .string ⟨#[2, 1, 14, 0]⟩, .int .i64 0, .int .i64 0, .int .i64 0, .int .i64 0, .slice (some ⟨w1.heap.size + 1, 0, none⟩) 1 1, .string ⟨#[]⟩, .int .i64 0, .int .i64 0] := by
        have := Lies.new ((w1.alloc (.cells #[.int .i64 1, .int .i64 3, .int .i64 5, .int .i64 16, .int .i64 18] 3)).alloc (.cells #[.int .i64 7] 3)) 60 #[.int .i64 0, .int .i64 0, .slice (some ⟨w1.heap.size, 0, none⟩) 5 5, .string ⟨#[]⟩, .int .i64 0, .int .i64 0, .int .i64 0, .int .i64 1, .slice none 0 0, .string ⟨#[2, 1, 14, 0]⟩, .int .i64 0, .int .i64 0, .int .i64 0, .int .i64 0, .slice (some ⟨w1.heap.size + 1, 0, none⟩) 1 1, .string ⟨#[]⟩, .int .i64 0, .int .i64 0]
        simpa using this
      have hi5 : Lies (((w1.alloc (.cells #[.int .i64 1, .int .i64 3, .int .i64 5, .int .i64 16, .int .i64 18] 3)).alloc (.cells #[.int .i64 7] 3)).alloc (.cells #[.int .i64 0, .int .i64 0, .slice (some ⟨w1.heap.size, 0, none⟩) 5 5, .string ⟨#[]⟩, .int .i64 0, .int .i64 0, .int .i64 0, .int .i64 1, .slice none 0 0, .string ⟨#[2, 1, 14, 0]⟩, .int .i64 0, .int .i64 0, .int .i64 0, .int .i64 0, .slice (some ⟨w1.heap.size + 1, 0, none⟩) 1 1, .string ⟨#[]⟩, .int .i64 0, .int .i64 0] 60)) w1.heap.size 3 #[.int .i64 1, .int .i64 3, .int .i64 5, .int .i64 16, .int .i64 18] := ((Lies.new w1 3 #[.int .i64 1, .int .i64 3, .int .i64 5, .int .i64 16, .int .i64 18]).alloc _).alloc _
      have hi1 : Lies (((w1.alloc (.cells #[.int .i64 1, .int .i64 3, .int .i64 5, .int .i64 16, .int .i64 18] 3)).alloc (.cells #[.int .i64 7] 3)).alloc (.cells #[.int .i64 0, .int .i64 0, .slice (some ⟨w1.heap.size, 0, none⟩) 5 5, .string ⟨#[]⟩, .int .i64 0, .int .i64 0, .int .i64 0, .int .i64 1, .slice none 0 0, .string ⟨#[2, 1, 14, 0]⟩, .int .i64 0, .int .i64 0, .int .i64 0, .int .i64 0, .slice (some ⟨w1.heap.size + 1, 0, none⟩) 1 1, .string ⟨#[]⟩, .int .i64 0, .int .i64 0] 60)) (w1.heap.size + 1) 3 #[.int .i64 7] := by
        have := (Lies.new (w1.alloc (.cells #[.int .i64 1, .int .i64 3, .int .i64 5, .int .i64 16, .int .i64 18] 3)) 3 #[.int .i64 7]).alloc (.cells #[.int .i64 0, .int .i64 0, .slice (some ⟨w1.heap.size, 0, none⟩) 5 5, .string ⟨#[]⟩, .int .i64 0, .int .i64 0, .int .i64 0, .int .i64 1, .slice none 0 0, .string ⟨#[2, 1, 14, 0]⟩, .int .i64 0, .int .i64 0, .int .i64 0, .int .i64 0, .slice (some ⟨w1.heap.size + 1, 0, none⟩) 1 1, .string ⟨#[]⟩, .int .i64 0, .int .i64 0] 60)
        simpa using this
      obtain ⟨A2, c2, w2, hrun, hO2, hg2⟩ := run_app_row12 (((w1.alloc (.cells #[.int .i64 1, .int .i64 3, .int .i64 5, .int .i64 16, .int .i64 18] 3)).alloc (.cells #[.int .i64 7] 3)).alloc (.cells #[.int .i64 0, .int .i64 0, .slice (some ⟨w1.heap.size, 0, none⟩) 5 5, .string ⟨#[]⟩, .int .i64 0, .int .i64 0, .int .i64 0, .int .i64 1, .slice none 0 0, .string ⟨#[2, 1, 14, 0]⟩, .int .i64 0, .int .i64 0, .int .i64 0, .int .i64 0, .slice (some ⟨w1.heap.size + 1, 0, none⟩) 1 1, .string ⟨#[]⟩, .int .i64 0, .int .i64 0] 60)) w.heap.size (w1.heap.size + 2) A c 3 7 3 (List.replicate 7 zL12) [(⟨mO12, some ⟨w1.heap.size, 0, none⟩, 5⟩ : LO), ⟨cO12, none, 0⟩, ⟨lO12, some ⟨w1.heap.size + 1, 0, none⟩, 1⟩] ho1 (by simp) rfl (by omega) hb9 (Nat.le_trans HB.out.size hal.size)
      have HRUN := hid hrun
      have HO2 := hid hO2
      have HK2 := hid (grown_lies12 hg2 (HK.out.later hal) ho1 (by decide))
      have HL2 := hid (grown_lies12 hg2 (HL.out.later hal) ho1 (by decide))
      have H5 := hid (grown_lies12 hg2 hi5 ho1 (by decide))
      have H1 := hid (grown_lies12 hg2 hi1 ho1 (by decide))
      have HB2 : Hid (Below w.heap.size w w2) := (HB.out.trans (hal.mono HB.out.size)).grown hg2 (Nat.le_trans HB.out.size hal.size) (fun q hq => (ho1.lt q hq).1)
      have HW1 : Hid (w.heap.size + 1 < w1.heap.size) := HL.out.lt
      clear hal ho1 hb9 hi5 hi1 hrun hO2 hg2
      have p0 := HL2.out.cell 0
      have p1 := HL2.out.cell 1
      have p2 := HL2.out.cell 2
      have pf0 := HL2.out.frozen 0
      simp only [List.getElem?_toArray, List.getElem?_cons_zero, List.getElem?_cons_succ] at p0 p1 p2
      obtain ⟨u0, u1, u2⟩ := HK2.out.c3
      obtain ⟨uf0, uf1, uf2⟩ := HK2.out.f3
      go_wp2_with (at_builtin; refine wpList_app_run rfl (.tmp 15) (.tmp 21) 22 rfl _ _ HRUN.out ?_)
      have HL3 := HL2.out.set_ 0 (.slice A2 10 c2)
      have HK3 := HK2.out.far (p := ⟨w.heap.size + 1, 0, none⟩) (by simp) (.slice A2 10 c2)
      have K1 := HK3.set_ 0 (.slice A2 10 c2)
      have K2 := K1.set_ 1 (.int .i64 12)
      have K3 := K2.set_ 2 (.int .i64 0)
      have r0 := K3.cell 0
      have r1 := K3.cell 1
      have r2 := K3.cell 2
      simp only [List.setIfInBounds_toArray, List.set_cons_zero, List.set_cons_succ, List.getElem?_toArray, List.getElem?_cons_zero, List.getElem?_cons_succ] at r0 r1 r2
      refine bodyPost_ret (v := .agg #[.slice A2 10 c2, .int .i64 12, .int .i64 0]) (by simp [results, Tryz.results35, go_sem, r0, r1, r2]) rfl ?_
      have o1 := ownsRow_setCell_other HO2.out (own_blk_ne HO2.out HL2.out (by decide)) (a := ⟨w.heap.size + 1, 0, none⟩) (.slice A2 10 c2)
      have o2 := ownsRow_setCell_other o1 (own_blk_ne o1 HK3 (by decide)) (a := ⟨w.heap.size, 0, none⟩) (.slice A2 10 c2)
      have o3 := ownsRow_setCell_other o2 (own_blk_ne o2 K1 (by decide)) (a := ⟨w.heap.size, 1, none⟩) (.int .i64 12)
      have o4 := ownsRow_setCell_other o3 (own_blk_ne o3 K2 (by decide)) (a := ⟨w.heap.size, 2, none⟩) (.int .i64 0)
      have n1 : w1.heap.size ≠ w.heap.size + 1 := by have := HW1.out; omega
      have n2 : w1.heap.size ≠ w.heap.size := by have := HW1.out; omega
      have n3 : w1.heap.size + 1 ≠ w.heap.size + 1 := by have := HW1.out; omega
      have n4 : w1.heap.size + 1 ≠ w.heap.size := by have := HW1.out; omega
      have i5 := (((H5.out.far (p := ⟨w.heap.size + 1, 0, none⟩) n1 (.slice A2 10 c2)).far (p := ⟨w.heap.size, 0, none⟩) n2 (.slice A2 10 c2)).far (p := ⟨w.heap.size, 1, none⟩) n2 (.int .i64 12)).far (p := ⟨w.heap.size, 2, none⟩) n2 (.int .i64 0)
      have i1 := (((H1.out.far (p := ⟨w.heap.size + 1, 0, none⟩) n3 (.slice A2 10 c2)).far (p := ⟨w.heap.size, 0, none⟩) n4 (.slice A2 10 c2)).far (p := ⟨w.heap.size, 1, none⟩) n4 (.int .i64 12)).far (p := ⟨w.heap.size, 2, none⟩) n4 (.int .i64 0)
      have HBE := (((HB2.out.setCell (p := ⟨w.heap.size + 1, 0, none⟩) (by simp) (.slice A2 10 c2)).setCell (p := ⟨w.heap.size, 0, none⟩) (by simp) (.slice A2 10 c2)).setCell (p := ⟨w.heap.size, 1, none⟩) (by simp) (.int .i64 12)).setCell (p := ⟨w.heap.size, 2, none⟩) (by simp) (.int .i64 0)
      refine ⟨A2, c2, rfl, ?_, HBE⟩
      refine row_obs12 (ls := List.replicate 7 zL12 ++ [(⟨mO12, some ⟨w1.heap.size, 0, none⟩, 5⟩ : LO), ⟨cO12, none, 0⟩, ⟨lO12, some ⟨w1.heap.size + 1, 0, none⟩, 1⟩]) o4 ?_ ?_ ?_
      · intro l hl
        rcases List.mem_append.1 hl with hl | hl
        · rw [List.eq_of_mem_replicate hl]; exact fun h => absurd h (by decide)
        · simp only [List.mem_cons, List.not_mem_nil, or_false] at hl
          rcases hl with rfl | rfl | rfl
          · exact lies_ints12 i5 rfl
          · exact fun h => absurd h (by decide)
          · exact lies_ints12 i1 rfl
      · intro l hl
        rcases List.mem_append.1 hl with hl | hl
        · rw [List.eq_of_mem_replicate hl]; exact fun _ => rfl
        · simp only [List.mem_cons, List.not_mem_nil, or_false] at hl
          rcases hl with rfl | rfl | rfl
          · intro h; cases h
          · exact fun _ => rfl
          · intro h; cases h
      · intro l hl
        rcases List.mem_append.1 hl with hl | hl
        · rw [List.eq_of_mem_replicate hl]; decide
        · simp only [List.mem_cons, List.not_mem_nil, or_false] at hl
          rcases hl with rfl | rfl | rfl
          · exact Nat.le_refl 5
          · exact Nat.le_refl 0
          · exact Nat.le_refl 1
end Go.Proofs.YtalfbdigjaibkaaGreat
namespace Go.Proofs.YtalfbdigjaibkaaGreat
open Go.RowKit
set_option maxRecDepth 100000
def G1_12 : Hp := (nn12 LT12 0 14 7 0 [9]).1
def G2_12 : Hp := (pu12 G1_12 20 11).1
def G3_12 : Hp := (po12 G2_12 20).1
def G4_12 : Hp := (go12 G3_12 20 1).1
theorem may_lt12 : mayB LT12 = true := by decide +kernel
theorem may_g1_12 : mayB G1_12 = true := by decide +kernel
theorem may_g2_12 : mayB G2_12 = true := by decide +kernel
theorem may_g3_12 : mayB G3_12 = true := by decide +kernel
theorem may_g4_12 : mayB G4_12 = true := by decide +kernel
theorem f1_12 : (mt12 LT12 14).2 = 0 ∧ (mt12 LT12 14).1.args = 1 ∧ (mt12 LT12 14).1.temps = 2 ∧ (mt12 LT12 14).1.code.length = 2 ∧ (mt12 LT12 14).1.lits.length = 1 := by decide +kernel
theorem f2_12 : (nn12 LT12 0 14 7 0 [9]).2.1 = 20 ∧ (nn12 LT12 0 14 7 0 [9]).2.2 = 0 := by decide +kernel
theorem f3_12 : may12 G1_12 20 = true ∧ may12 G1_12 14 = false := by decide +kernel
theorem f4_12 : (pu12 G1_12 20 11).2 = 0 := by decide +kernel
theorem f5_12 : (po12 G2_12 20).2.1 = 11 ∧ (po12 G2_12 20).2.2 = 0 := by decide +kernel
theorem f6_12 : (po12 G3_12 20).2.2 = 121 := by decide +kernel
theorem f7_12 : (te12 G3_12 20 0).1 = 9 ∧ (te12 G3_12 20 0).2 = 0 := by decide +kernel
theorem f8_12 : (go12 G3_12 20 1).2 = 0 := by decide +kernel
theorem f9_12 : (at12 G4_12 20).1 = 1 ∧ (at12 G4_12 20).2.1.op = 14 ∧ (at12 G4_12 20).2.1.a = 0 ∧ (at12 G4_12 20).2.2 = 0 := by decide +kernel
theorem f10_12 : (nn12 LT12 0 14 7 0 []).2.2 = 120 := by decide +kernel
theorem f11_12 : (pu12 G4_12 0 1).2 = 120 := by decide +kernel
theorem ret_true12 {w : World} {b : Bool} {w' : World} (h : b = true) (hb : Below w.heap.size w w') : Ending.returned (.bool b) = .returned (.bool true) ∧ Below w.heap.size w w' := ⟨by rw [h], hb⟩
set_option maxHeartbeats 4000000 in
theorem fixed12_any (w : World) : Calls Tryz.prog 10 #[] w fun e w' => e = .returned (.bool true) ∧ Below w.heap.size w w' := by
  go_enter Tryz.func10, Tryz.ntmps10
  go_wp2_with fail
  refine (little_any12 w).mono ?_
  rintro e w1 ⟨A1, c1, rfl, ob1, hb⟩
  have HB1 := hid hb
  clear hb
  have O1 := hid ob1
  clear ob1
  go_upto_region 2 with fail
  obtain ⟨w2, hw⟩ : ∃ x, x = w1.alloc (.cells #[.slice A1 LT12.objs.length c1, .int .i64 LT12.cap, .int .i64 LT12.last] 24) := ⟨_, rfl⟩
  obtain ⟨bh, hbx⟩ : ∃ x, x = w1.heap.size := ⟨_, rfl⟩
  have H2 : Hid (Lies w2 bh 24 #[.slice A1 LT12.objs.length c1, .int .i64 LT12.cap, .int .i64 LT12.last]) := by show Lies _ _ _ _; rw [hw, hbx]; exact Lies.new _ _ _
  have hb : Below w1.heap.size w1 w2 := by rw [hw]; exact below_alloc _ _
  rw [← hw, ← hbx]
  have at_H : Hid (bh = w1.heap.size) := hbx
  have le_HB_H : Hid (w.heap.size ≤ bh) := by show _ ≤ _; rw [hbx]; exact HB1.out.size
  clear hbx hw
  have HB2 := hid (then_w HB1.out hb)
  have O2 := hid (O1.out.below hb)
  clear hb
  clear HB1 O1
  have S2 := hid (Below.refl w2.heap.size w2)
  have OH := O2
  obtain ⟨M, hM⟩ : ∃ M, M = (mt12 LT12 14).1 := ⟨_, rfl⟩
  obtain ⟨m1, m2, m3, m4, m5⟩ := f1_12
  rw [← hM] at m2 m3 m4 m5
  have MM := hid hM
  have M2 := hid m2
  have M3 := hid m3
  have M4 := hid m4
  have M5 := hid m5
  clear hM m2 m3 m4 m5
  obtain ⟨x0, x1, x2⟩ := H2.out.c3
  go_wp2_with fail
  refine (cmeth_any12 LT12 14 A1 c1 _ O2.out (may_fit may_lt12)).mono ?_
  rintro e w3 ⟨CA, cc, LA, lc, rfl, -, -, hb, -, -⟩
  rw [m1, ← MM.out, M4.out, M5.out]
  clear x0 x1 x2
  have HB3 := hid (then_w HB2.out hb)
  have S3 := hid (then_w S2.out hb)
  have H3 := hid (H2.out.later hb)
  have O3 := hid (O2.out.below hb)
  clear hb
  clear HB2 S2 H2 O2
  go_upto_region 3 with fail
  obtain ⟨w4, hw⟩ : ∃ x, x = w3.alloc (.cells #[.int .i64 M.prim, .int .i64 M.args, .int .i64 M.temps, .slice CA 2 cc, .slice LA 1 lc] 32) := ⟨_, rfl⟩
  obtain ⟨bm, hbx⟩ : ∃ x, x = w3.heap.size := ⟨_, rfl⟩
  have M4 : Hid (Lies w4 bm 32 #[.int .i64 M.prim, .int .i64 M.args, .int .i64 M.temps, .slice CA 2 cc, .slice LA 1 lc]) := by show Lies _ _ _ _; rw [hw, hbx]; exact Lies.new _ _ _
  have hb : Below w3.heap.size w3 w4 := by rw [hw]; exact below_alloc _ _
  rw [← hw, ← hbx]
  have ne_H_M : Hid (bh ≠ bm) := by show _ ≠ _; rw [hbx]; exact Nat.ne_of_lt H3.out.lt
  have at_M : Hid (bm = w3.heap.size) := hbx
  have le_S_M : Hid (w2.heap.size ≤ bm) := by show _ ≤ _; rw [hbx]; exact S3.out.size
  have le_HB_M : Hid (w.heap.size ≤ bm) := by show _ ≤ _; rw [hbx]; exact HB3.out.size
  clear hbx hw
  have HB4 := hid (then_w HB3.out hb)
  have S4 := hid (then_w S3.out hb)
  have H4 := hid (H3.out.later hb)
  have O4 := hid (O3.out.below hb)
  clear hb
  clear HB3 S3 H3 O3
  obtain ⟨x0, x1, x2⟩ := H4.out.c3
  go_wp2_with fail
  obtain ⟨w5, hw⟩ : ∃ x, x = w4.alloc (.cells #[.int .i64 9] 3) := ⟨_, rfl⟩
  obtain ⟨b9, hbx⟩ : ∃ x, x = w4.heap.size := ⟨_, rfl⟩
  have N95 : Hid (Lies w5 b9 3 #[.int .i64 9]) := by show Lies _ _ _ _; rw [hw, hbx]; exact Lies.new _ _ _
  have hb : Below w4.heap.size w4 w5 := by rw [hw]; exact below_alloc _ _
  rw [← hw, ← hbx]
  clear hw hbx
  clear x0 x1 x2
  have HB5 := hid (then_w HB4.out hb)
  have S5 := hid (then_w S4.out hb)
  have H5 := hid (H4.out.later hb)
  have M5 := hid (M4.out.later hb)
  have O5 := hid (O4.out.below hb)
  clear hb
  clear HB4 S4 H4 M4 O4
  refine (cnew_any12 LT12 0 14 7 0 [9] (some ⟨b9, 0, none⟩) 1 A1 c1 _ O5.out (may_fit may_lt12) (may_mod12 may_lt12) (lies_ints12 N95.out rfl) (by decide)).mono ?_
  rintro e w6 ⟨A2, c2, l2, rfl, hm2, ho2, hb⟩
  rw [f2_12.1, f2_12.2, show (nn12 LT12 0 14 7 0 [9]).1 = G1_12 from rfl]
  have QM2 : Hid (l2.map (·.o) = G1_12.objs) := hm2
  clear hm2
  have HB6 := hid (then_w HB5.out hb)
  have S6 := hid (then_w S5.out hb)
  have H6 := hid (H5.out.later hb)
  have M6 := hid (M5.out.later hb)
  have O6 := hid (O5.out.below hb)
  clear hb
  clear HB5 S5 H5 M5 O5
  have Q6 := hid ho2
  clear ho2
  go_upto_region 4 with fail
  obtain ⟨w7, hw⟩ : ∃ x, x = w6.alloc (.cells #[.slice A2 G1_12.objs.length c2, .int .i64 G1_12.cap, .int .i64 G1_12.last] 24) := ⟨_, rfl⟩
  obtain ⟨bg, hbx⟩ : ∃ x, x = w6.heap.size := ⟨_, rfl⟩
  have G7 : Hid (Lies w7 bg 24 #[.slice A2 G1_12.objs.length c2, .int .i64 G1_12.cap, .int .i64 G1_12.last]) := by show Lies _ _ _ _; rw [hw, hbx]; exact Lies.new _ _ _
  have hb : Below w6.heap.size w6 w7 := by rw [hw]; exact below_alloc _ _
  rw [← hw, ← hbx]
  have ne_H_G : Hid (bh ≠ bg) := by show _ ≠ _; rw [hbx]; exact Nat.ne_of_lt H6.out.lt
  have ne_M_G : Hid (bm ≠ bg) := by show _ ≠ _; rw [hbx]; exact Nat.ne_of_lt M6.out.lt
  have at_G : Hid (bg = w6.heap.size) := hbx
  have le_S_G : Hid (w2.heap.size ≤ bg) := by show _ ≤ _; rw [hbx]; exact S6.out.size
  have le_HB_G : Hid (w.heap.size ≤ bg) := by show _ ≤ _; rw [hbx]; exact HB6.out.size
  clear hbx hw
  have HB7 := hid (then_w HB6.out hb)
  have S7 := hid (then_w S6.out hb)
  have H7 := hid (H6.out.later hb)
  have M7 := hid (M6.out.later hb)
  have Q7 := hid (Q6.out.later hb)
  have O7 := hid (O6.out.below hb)
  clear hb
  clear HB6 S6 H6 M6 Q6 O6
  obtain ⟨y0, y1, y2⟩ := G7.out.c3
  obtain ⟨m0, m1, m2, m3, m4⟩ := M7.out.c5
  have mm2 := M2.out
  have mm3 := M3.out
  clear y0 y1 y2 m0 m1 m2 m3 m4
  obtain ⟨y0, y1, y2⟩ := G7.out.c3
  obtain ⟨m0, m1, m2, m3, m4⟩ := M7.out.c5
  go_wp2_with fail
  refine (cmay_any12 G1_12 20 A2 c2 _ (own_obs Q7.out QM2.out) (may_fit may_g1_12)).mono ?_
  rintro e w8 ⟨rfl, hb⟩
  clear y0 y1 y2 m0 m1 m2 m3 m4
  rw [f3_12.1]
  have HB8 := hid (then_w HB7.out hb)
  have S8 := hid (then_w S7.out hb)
  have H8 := hid (H7.out.later hb)
  have M8 := hid (M7.out.later hb)
  have G8 := hid (G7.out.later hb)
  have Q8 := hid (Q7.out.later hb)
  have O8 := hid (O7.out.below hb)
  clear hb
  clear HB7 S7 H7 M7 G7 Q7 O7
  obtain ⟨y0, y1, y2⟩ := G8.out.c3
  go_wp2_with fail
  refine (cmay_any12 G1_12 14 A2 c2 _ (own_obs Q8.out QM2.out) (may_fit may_g1_12)).mono ?_
  rintro e w9 ⟨rfl, hb⟩
  clear y0 y1 y2
  rw [f3_12.2]
  have HB9 := hid (then_w HB8.out hb)
  have S9 := hid (then_w S8.out hb)
  have H9 := hid (H8.out.later hb)
  have M9 := hid (M8.out.later hb)
  have G9 := hid (G8.out.later hb)
  have Q9 := hid (Q8.out.later hb)
  have O9 := hid (O8.out.below hb)
  clear hb
  clear HB8 S8 H8 M8 G8 Q8 O8
  have O9x := OH
  obtain ⟨y0, y1, y2⟩ := G9.out.c3
  go_wp2_with fail
  refine (cpush_any12 G1_12 20 11 A2 c2 _ (own_obs Q9.out QM2.out) (may_fit may_g1_12) (may_mod12 may_g1_12)).mono ?_
  rintro e w10 ⟨A3, c3, l3, rfl, hm3, ho3, hb⟩
  clear y0 y1 y2
  rw [f4_12, show (pu12 G1_12 20 11).1 = G2_12 from rfl]
  have QM3 : Hid (l3.map (·.o) = G2_12.objs) := hm3
  clear hm3
  have HB10 := hid (then_w HB9.out hb)
  have S10 := hid (then_w S9.out hb)
  have H10 := hid (H9.out.later hb)
  have M10 := hid (M9.out.later hb)
  have G10 := hid (G9.out.later hb)
  have Q10 := hid (Q9.out.later hb)
  have O10 := hid (O9.out.below hb)
  clear hb
  clear HB9 S9 H9 M9 G9 Q9 O9
  clear Q10
  have Q10 := hid ho3
  clear ho3
  obtain ⟨y0, y1, y2⟩ := G10.out.c3
  obtain ⟨yf0, yf1, yf2⟩ := G10.out.f3
  go_upto_region 7 with fail
  obtain ⟨w11, hw⟩ : ∃ x, x = (((w10.setCell ⟨bg, 0, none⟩ (.slice A3 G2_12.objs.length c3)).setCell ⟨bg, 1, none⟩ (.int .i64 G2_12.cap)).setCell ⟨bg, 2, none⟩ (.int .i64 G2_12.last)) := ⟨_, rfl⟩
  have HB11 : Hid (Below w.heap.size w w11) := by show Below _ _ _; rw [hw]; exact (((HB10.out.setCell (p := ⟨bg, 0, none⟩) le_HB_G.out (.slice A3 G2_12.objs.length c3)).setCell (p := ⟨bg, 1, none⟩) le_HB_G.out (.int .i64 G2_12.cap)).setCell (p := ⟨bg, 2, none⟩) le_HB_G.out (.int .i64 G2_12.last))
  have S11 : Hid (Below w2.heap.size w2 w11) := by show Below _ _ _; rw [hw]; exact (((S10.out.setCell (p := ⟨bg, 0, none⟩) le_S_G.out (.slice A3 G2_12.objs.length c3)).setCell (p := ⟨bg, 1, none⟩) le_S_G.out (.int .i64 G2_12.cap)).setCell (p := ⟨bg, 2, none⟩) le_S_G.out (.int .i64 G2_12.last))
  have Q11 : Hid (OwnH w11 w9.heap.size A3 c3 l3) := by show OwnH _ _ _ _ _; rw [hw]; exact (((Q10.out.off G10.out 0 (.slice A3 G2_12.objs.length c3)).off (G10.out.set_ 0 (.slice A3 G2_12.objs.length c3)) 1 (.int .i64 G2_12.cap)).off ((G10.out.set_ 0 (.slice A3 G2_12.objs.length c3)).set_ 1 (.int .i64 G2_12.cap)) 2 (.int .i64 G2_12.last))
  have H11 : Hid (Lies w11 bh 24 #[.slice A1 LT12.objs.length c1, .int .i64 LT12.cap, .int .i64 LT12.last]) := by show Lies _ _ _ _; rw [hw]; exact (((H10.out.far (p := ⟨bg, 0, none⟩) (ne_H_G.out) (.slice A3 G2_12.objs.length c3)).far (p := ⟨bg, 1, none⟩) (ne_H_G.out) (.int .i64 G2_12.cap)).far (p := ⟨bg, 2, none⟩) (ne_H_G.out) (.int .i64 G2_12.last))
  have M11 : Hid (Lies w11 bm 32 #[.int .i64 M.prim, .int .i64 M.args, .int .i64 M.temps, .slice CA 2 cc, .slice LA 1 lc]) := by show Lies _ _ _ _; rw [hw]; exact (((M10.out.far (p := ⟨bg, 0, none⟩) (ne_M_G.out) (.slice A3 G2_12.objs.length c3)).far (p := ⟨bg, 1, none⟩) (ne_M_G.out) (.int .i64 G2_12.cap)).far (p := ⟨bg, 2, none⟩) (ne_M_G.out) (.int .i64 G2_12.last))
  have G11 : Hid (Lies w11 bg 24 #[.slice A3 G2_12.objs.length c3, .int .i64 G2_12.cap, .int .i64 G2_12.last]) := by show Lies _ _ _ _; rw [hw]; exact (((G10.out.set_ 0 (.slice A3 G2_12.objs.length c3)).set_ 1 (.int .i64 G2_12.cap)).set_ 2 (.int .i64 G2_12.last))
  rw [← hw]
  clear hw
  clear yf0 yf1 yf2 y0 y1 y2
  clear HB10 S10 H10 M10 G10 Q10 O10
  obtain ⟨y0, y1, y2⟩ := G11.out.c3
  go_wp2_with fail
  refine (cpop_any12 G2_12 20 A3 c3 _ (own_obs Q11.out QM3.out) (may_fit may_g2_12) (may_mod12 may_g2_12)).mono ?_
  rintro e w12 ⟨A4, c4, l4, rfl, hm4, ho4, hb⟩
  clear y0 y1 y2
  rw [f5_12.1, f5_12.2, show (po12 G2_12 20).1 = G3_12 from rfl]
  have QM4 : Hid (l4.map (·.o) = G3_12.objs) := hm4
  clear hm4
  have HB12 := hid (then_w HB11.out hb)
  have S12 := hid (then_w S11.out hb)
  have H12 := hid (H11.out.later hb)
  have M12 := hid (M11.out.later hb)
  have G12 := hid (G11.out.later hb)
  have Q12 := hid (Q11.out.later hb)
  clear hb
  clear HB11 S11 H11 M11 G11 Q11
  clear Q12
  have Q12 := hid ho4
  clear ho4
  obtain ⟨y0, y1, y2⟩ := G12.out.c3
  obtain ⟨yf0, yf1, yf2⟩ := G12.out.f3
  go_upto_region 8 with fail
  obtain ⟨w13, hw⟩ : ∃ x, x = (((w12.setCell ⟨bg, 0, none⟩ (.slice A4 G3_12.objs.length c4)).setCell ⟨bg, 1, none⟩ (.int .i64 G3_12.cap)).setCell ⟨bg, 2, none⟩ (.int .i64 G3_12.last)) := ⟨_, rfl⟩
  have HB13 : Hid (Below w.heap.size w w13) := by show Below _ _ _; rw [hw]; exact (((HB12.out.setCell (p := ⟨bg, 0, none⟩) le_HB_G.out (.slice A4 G3_12.objs.length c4)).setCell (p := ⟨bg, 1, none⟩) le_HB_G.out (.int .i64 G3_12.cap)).setCell (p := ⟨bg, 2, none⟩) le_HB_G.out (.int .i64 G3_12.last))
  have S13 : Hid (Below w2.heap.size w2 w13) := by show Below _ _ _; rw [hw]; exact (((S12.out.setCell (p := ⟨bg, 0, none⟩) le_S_G.out (.slice A4 G3_12.objs.length c4)).setCell (p := ⟨bg, 1, none⟩) le_S_G.out (.int .i64 G3_12.cap)).setCell (p := ⟨bg, 2, none⟩) le_S_G.out (.int .i64 G3_12.last))
  have Q13 : Hid (OwnH w13 w11.heap.size A4 c4 l4) := by show OwnH _ _ _ _ _; rw [hw]; exact (((Q12.out.off G12.out 0 (.slice A4 G3_12.objs.length c4)).off (G12.out.set_ 0 (.slice A4 G3_12.objs.length c4)) 1 (.int .i64 G3_12.cap)).off ((G12.out.set_ 0 (.slice A4 G3_12.objs.length c4)).set_ 1 (.int .i64 G3_12.cap)) 2 (.int .i64 G3_12.last))
  have H13 : Hid (Lies w13 bh 24 #[.slice A1 LT12.objs.length c1, .int .i64 LT12.cap, .int .i64 LT12.last]) := by show Lies _ _ _ _; rw [hw]; exact (((H12.out.far (p := ⟨bg, 0, none⟩) (ne_H_G.out) (.slice A4 G3_12.objs.length c4)).far (p := ⟨bg, 1, none⟩) (ne_H_G.out) (.int .i64 G3_12.cap)).far (p := ⟨bg, 2, none⟩) (ne_H_G.out) (.int .i64 G3_12.last))
  have M13 : Hid (Lies w13 bm 32 #[.int .i64 M.prim, .int .i64 M.args, .int .i64 M.temps, .slice CA 2 cc, .slice LA 1 lc]) := by show Lies _ _ _ _; rw [hw]; exact (((M12.out.far (p := ⟨bg, 0, none⟩) (ne_M_G.out) (.slice A4 G3_12.objs.length c4)).far (p := ⟨bg, 1, none⟩) (ne_M_G.out) (.int .i64 G3_12.cap)).far (p := ⟨bg, 2, none⟩) (ne_M_G.out) (.int .i64 G3_12.last))
  have G13 : Hid (Lies w13 bg 24 #[.slice A4 G3_12.objs.length c4, .int .i64 G3_12.cap, .int .i64 G3_12.last]) := by show Lies _ _ _ _; rw [hw]; exact (((G12.out.set_ 0 (.slice A4 G3_12.objs.length c4)).set_ 1 (.int .i64 G3_12.cap)).set_ 2 (.int .i64 G3_12.last))
  rw [← hw]
  clear hw
  clear yf0 yf1 yf2 y0 y1 y2
  clear HB12 S12 H12 M12 G12 Q12
  obtain ⟨y0, y1, y2⟩ := G13.out.c3
  go_wp2_with fail
  refine (cpop_any12 G3_12 20 A4 c4 _ (own_obs Q13.out QM4.out) (may_fit may_g3_12) (may_mod12 may_g3_12)).mono ?_
  rintro e w14 ⟨A5, c5, l5, rfl, -, -, hb⟩
  clear y0 y1 y2
  rw [f6_12]
  have HB14 := hid (then_w HB13.out hb)
  have S14 := hid (then_w S13.out hb)
  have H14 := hid (H13.out.later hb)
  have M14 := hid (M13.out.later hb)
  have G14 := hid (G13.out.later hb)
  have Q14 := hid (Q13.out.later hb)
  clear hb
  clear HB13 S13 H13 M13 G13 Q13
  go_upto_region 9 with fail
  obtain ⟨w15, hw⟩ : ∃ x, x = w14.alloc (.cells #[.slice A5 (po12 G3_12 20).1.objs.length c5, .int .i64 (po12 G3_12 20).1.cap, .int .i64 (po12 G3_12 20).1.last] 24) := ⟨_, rfl⟩
  obtain ⟨bp, hbx⟩ : ∃ x, x = w14.heap.size := ⟨_, rfl⟩
  have P15 : Hid (Lies w15 bp 24 #[.slice A5 (po12 G3_12 20).1.objs.length c5, .int .i64 (po12 G3_12 20).1.cap, .int .i64 (po12 G3_12 20).1.last]) := by show Lies _ _ _ _; rw [hw, hbx]; exact Lies.new _ _ _
  have hb : Below w14.heap.size w14 w15 := by rw [hw]; exact below_alloc _ _
  rw [← hw, ← hbx]
  have ne_H_P : Hid (bh ≠ bp) := by show _ ≠ _; rw [hbx]; exact Nat.ne_of_lt H14.out.lt
  have ne_M_P : Hid (bm ≠ bp) := by show _ ≠ _; rw [hbx]; exact Nat.ne_of_lt M14.out.lt
  have ne_G_P : Hid (bg ≠ bp) := by show _ ≠ _; rw [hbx]; exact Nat.ne_of_lt G14.out.lt
  have at_P : Hid (bp = w14.heap.size) := hbx
  have le_S_P : Hid (w2.heap.size ≤ bp) := by show _ ≤ _; rw [hbx]; exact S14.out.size
  have le_HB_P : Hid (w.heap.size ≤ bp) := by show _ ≤ _; rw [hbx]; exact HB14.out.size
  clear hbx hw
  have HB15 := hid (then_w HB14.out hb)
  have S15 := hid (then_w S14.out hb)
  have H15 := hid (H14.out.later hb)
  have M15 := hid (M14.out.later hb)
  have G15 := hid (G14.out.later hb)
  have Q15 := hid (Q14.out.later hb)
  clear hb
  clear HB14 S14 H14 M14 G14 Q14
  obtain ⟨y0, y1, y2⟩ := G15.out.c3
  go_wp2_with fail
  refine (ctemp_any12 G3_12 20 0 A4 c4 _ (own_obs Q15.out QM4.out) (may_fit may_g3_12)).mono ?_
  rintro e w16 ⟨rfl, hb⟩
  clear y0 y1 y2
  rw [f7_12.1, f7_12.2]
  have HB16 := hid (then_w HB15.out hb)
  have S16 := hid (then_w S15.out hb)
  have H16 := hid (H15.out.later hb)
  have M16 := hid (M15.out.later hb)
  have G16 := hid (G15.out.later hb)
  have P16 := hid (P15.out.later hb)
  have Q16 := hid (Q15.out.later hb)
  clear hb
  clear HB15 S15 H15 M15 G15 P15 Q15
  obtain ⟨y0, y1, y2⟩ := G16.out.c3
  go_wp2_with fail
  refine (cgo_any12 G3_12 20 1 A4 c4 _ (own_obs Q16.out QM4.out) (may_fit may_g3_12) (may_mod12 may_g3_12)).mono ?_
  rintro e w17 ⟨A6, c6, l6, rfl, hm6, ho6, hb⟩
  clear y0 y1 y2
  rw [f8_12, show (go12 G3_12 20 1).1 = G4_12 from rfl]
  have QM6 : Hid (l6.map (·.o) = G4_12.objs) := hm6
  clear hm6
  have HB17 := hid (then_w HB16.out hb)
  have S17 := hid (then_w S16.out hb)
  have H17 := hid (H16.out.later hb)
  have M17 := hid (M16.out.later hb)
  have G17 := hid (G16.out.later hb)
  have P17 := hid (P16.out.later hb)
  have Q17 := hid (Q16.out.later hb)
  clear hb
  clear HB16 S16 H16 M16 G16 P16 Q16
  clear Q17
  have Q17 := hid ho6
  clear ho6
  obtain ⟨y0, y1, y2⟩ := G17.out.c3
  obtain ⟨yf0, yf1, yf2⟩ := G17.out.f3
  go_upto_region 11 with fail
  obtain ⟨w18, hw⟩ : ∃ x, x = (((w17.setCell ⟨bg, 0, none⟩ (.slice A6 G4_12.objs.length c6)).setCell ⟨bg, 1, none⟩ (.int .i64 G4_12.cap)).setCell ⟨bg, 2, none⟩ (.int .i64 G4_12.last)) := ⟨_, rfl⟩
  have HB18 : Hid (Below w.heap.size w w18) := by show Below _ _ _; rw [hw]; exact (((HB17.out.setCell (p := ⟨bg, 0, none⟩) le_HB_G.out (.slice A6 G4_12.objs.length c6)).setCell (p := ⟨bg, 1, none⟩) le_HB_G.out (.int .i64 G4_12.cap)).setCell (p := ⟨bg, 2, none⟩) le_HB_G.out (.int .i64 G4_12.last))
  have S18 : Hid (Below w2.heap.size w2 w18) := by show Below _ _ _; rw [hw]; exact (((S17.out.setCell (p := ⟨bg, 0, none⟩) le_S_G.out (.slice A6 G4_12.objs.length c6)).setCell (p := ⟨bg, 1, none⟩) le_S_G.out (.int .i64 G4_12.cap)).setCell (p := ⟨bg, 2, none⟩) le_S_G.out (.int .i64 G4_12.last))
  have Q18 : Hid (OwnH w18 w16.heap.size A6 c6 l6) := by show OwnH _ _ _ _ _; rw [hw]; exact (((Q17.out.off G17.out 0 (.slice A6 G4_12.objs.length c6)).off (G17.out.set_ 0 (.slice A6 G4_12.objs.length c6)) 1 (.int .i64 G4_12.cap)).off ((G17.out.set_ 0 (.slice A6 G4_12.objs.length c6)).set_ 1 (.int .i64 G4_12.cap)) 2 (.int .i64 G4_12.last))
  have H18 : Hid (Lies w18 bh 24 #[.slice A1 LT12.objs.length c1, .int .i64 LT12.cap, .int .i64 LT12.last]) := by show Lies _ _ _ _; rw [hw]; exact (((H17.out.far (p := ⟨bg, 0, none⟩) (ne_H_G.out) (.slice A6 G4_12.objs.length c6)).far (p := ⟨bg, 1, none⟩) (ne_H_G.out) (.int .i64 G4_12.cap)).far (p := ⟨bg, 2, none⟩) (ne_H_G.out) (.int .i64 G4_12.last))
  have M18 : Hid (Lies w18 bm 32 #[.int .i64 M.prim, .int .i64 M.args, .int .i64 M.temps, .slice CA 2 cc, .slice LA 1 lc]) := by show Lies _ _ _ _; rw [hw]; exact (((M17.out.far (p := ⟨bg, 0, none⟩) (ne_M_G.out) (.slice A6 G4_12.objs.length c6)).far (p := ⟨bg, 1, none⟩) (ne_M_G.out) (.int .i64 G4_12.cap)).far (p := ⟨bg, 2, none⟩) (ne_M_G.out) (.int .i64 G4_12.last))
  have G18 : Hid (Lies w18 bg 24 #[.slice A6 G4_12.objs.length c6, .int .i64 G4_12.cap, .int .i64 G4_12.last]) := by show Lies _ _ _ _; rw [hw]; exact (((G17.out.set_ 0 (.slice A6 G4_12.objs.length c6)).set_ 1 (.int .i64 G4_12.cap)).set_ 2 (.int .i64 G4_12.last))
  have P18 : Hid (Lies w18 bp 24 #[.slice A5 (po12 G3_12 20).1.objs.length c5, .int .i64 (po12 G3_12 20).1.cap, .int .i64 (po12 G3_12 20).1.last]) := by show Lies _ _ _ _; rw [hw]; exact (((P17.out.far (p := ⟨bg, 0, none⟩) (ne_G_P.out.symm) (.slice A6 G4_12.objs.length c6)).far (p := ⟨bg, 1, none⟩) (ne_G_P.out.symm) (.int .i64 G4_12.cap)).far (p := ⟨bg, 2, none⟩) (ne_G_P.out.symm) (.int .i64 G4_12.last))
  rw [← hw]
  clear hw
  clear yf0 yf1 yf2 y0 y1 y2
  clear HB17 S17 H17 M17 G17 P17 Q17
  obtain ⟨y0, y1, y2⟩ := G18.out.c3
  go_wp2_with fail
  refine (cat_any12 G4_12 20 A6 c6 _ (own_obs Q18.out QM6.out) (may_fit may_g4_12)).mono ?_
  rintro e w19 ⟨rfl, hb⟩
  clear y0 y1 y2
  rw [f9_12.1, f9_12.2.1, f9_12.2.2.1, f9_12.2.2.2]
  have HB19 := hid (then_w HB18.out hb)
  have S19 := hid (then_w S18.out hb)
  have H19 := hid (H18.out.later hb)
  have M19 := hid (M18.out.later hb)
  have G19 := hid (G18.out.later hb)
  have P19 := hid (P18.out.later hb)
  have Q19 := hid (Q18.out.later hb)
  clear hb
  clear HB18 S18 H18 M18 G18 P18 Q18
  go_upto_region 12 with fail
  obtain ⟨w20, hw⟩ : ∃ x, x = w19.alloc (.cells #[.int .i64 14, .int .i64 0] 37) := ⟨_, rfl⟩
  obtain ⟨bi, hbx⟩ : ∃ x, x = w19.heap.size := ⟨_, rfl⟩
  have I20 : Hid (Lies w20 bi 37 #[.int .i64 14, .int .i64 0]) := by show Lies _ _ _ _; rw [hw, hbx]; exact Lies.new _ _ _
  have hb : Below w19.heap.size w19 w20 := by rw [hw]; exact below_alloc _ _
  rw [← hw, ← hbx]
  have ne_H_I : Hid (bh ≠ bi) := by show _ ≠ _; rw [hbx]; exact Nat.ne_of_lt H19.out.lt
  have ne_M_I : Hid (bm ≠ bi) := by show _ ≠ _; rw [hbx]; exact Nat.ne_of_lt M19.out.lt
  have ne_G_I : Hid (bg ≠ bi) := by show _ ≠ _; rw [hbx]; exact Nat.ne_of_lt G19.out.lt
  have ne_P_I : Hid (bp ≠ bi) := by show _ ≠ _; rw [hbx]; exact Nat.ne_of_lt P19.out.lt
  have at_I : Hid (bi = w19.heap.size) := hbx
  have le_S_I : Hid (w2.heap.size ≤ bi) := by show _ ≤ _; rw [hbx]; exact S19.out.size
  have le_HB_I : Hid (w.heap.size ≤ bi) := by show _ ≤ _; rw [hbx]; exact HB19.out.size
  clear hbx hw
  have HB20 := hid (then_w HB19.out hb)
  have S20 := hid (then_w S19.out hb)
  have H20 := hid (H19.out.later hb)
  have M20 := hid (M19.out.later hb)
  have G20 := hid (G19.out.later hb)
  have P20 := hid (P19.out.later hb)
  have Q20 := hid (Q19.out.later hb)
  clear hb
  clear HB19 S19 H19 M19 G19 P19 Q19
  obtain ⟨x0, x1, x2⟩ := H20.out.c3
  go_wp2_with fail
  refine (cnew_any12 LT12 0 14 7 0 [] none 0 A1 c1 _ (OH.out.below S20.out) (may_fit may_lt12) (may_mod12 may_lt12) (fun h => absurd h (by decide)) (by decide)).mono ?_
  rintro e w21 ⟨A7, c7, l7, rfl, -, -, hb⟩
  clear x0 x1 x2
  rw [f10_12]
  have HB21 := hid (then_w HB20.out hb)
  have S21 := hid (then_w S20.out hb)
  have H21 := hid (H20.out.later hb)
  have M21 := hid (M20.out.later hb)
  have G21 := hid (G20.out.later hb)
  have P21 := hid (P20.out.later hb)
  have I21 := hid (I20.out.later hb)
  have Q21 := hid (Q20.out.later hb)
  clear hb
  clear HB20 S20 H20 M20 G20 P20 I20 Q20
  go_upto_region 13 with fail
  obtain ⟨w22, hw⟩ : ∃ x, x = w21.alloc (.cells #[.slice A7 (nn12 LT12 0 14 7 0 []).1.objs.length c7, .int .i64 (nn12 LT12 0 14 7 0 []).1.cap, .int .i64 (nn12 LT12 0 14 7 0 []).1.last] 24) := ⟨_, rfl⟩
  obtain ⟨br, hbx⟩ : ∃ x, x = w21.heap.size := ⟨_, rfl⟩
  have R22 : Hid (Lies w22 br 24 #[.slice A7 (nn12 LT12 0 14 7 0 []).1.objs.length c7, .int .i64 (nn12 LT12 0 14 7 0 []).1.cap, .int .i64 (nn12 LT12 0 14 7 0 []).1.last]) := by show Lies _ _ _ _; rw [hw, hbx]; exact Lies.new _ _ _
  have hb : Below w21.heap.size w21 w22 := by rw [hw]; exact below_alloc _ _
  rw [← hw, ← hbx]
  have ne_H_R : Hid (bh ≠ br) := by show _ ≠ _; rw [hbx]; exact Nat.ne_of_lt H21.out.lt
  have ne_M_R : Hid (bm ≠ br) := by show _ ≠ _; rw [hbx]; exact Nat.ne_of_lt M21.out.lt
  have ne_G_R : Hid (bg ≠ br) := by show _ ≠ _; rw [hbx]; exact Nat.ne_of_lt G21.out.lt
  have ne_P_R : Hid (bp ≠ br) := by show _ ≠ _; rw [hbx]; exact Nat.ne_of_lt P21.out.lt
  have ne_I_R : Hid (bi ≠ br) := by show _ ≠ _; rw [hbx]; exact Nat.ne_of_lt I21.out.lt
  have at_R : Hid (br = w21.heap.size) := hbx
  have le_S_R : Hid (w2.heap.size ≤ br) := by show _ ≤ _; rw [hbx]; exact S21.out.size
  have le_HB_R : Hid (w.heap.size ≤ br) := by show _ ≤ _; rw [hbx]; exact HB21.out.size
  clear hbx hw
  have HB22 := hid (then_w HB21.out hb)
  have S22 := hid (then_w S21.out hb)
  have H22 := hid (H21.out.later hb)
  have M22 := hid (M21.out.later hb)
  have G22 := hid (G21.out.later hb)
  have P22 := hid (P21.out.later hb)
  have I22 := hid (I21.out.later hb)
  have Q22 := hid (Q21.out.later hb)
  clear hb
  clear HB21 S21 H21 M21 G21 P21 I21 Q21
  obtain ⟨y0, y1, y2⟩ := G22.out.c3
  go_wp2_with fail
  refine (cpush_any12 G4_12 0 1 A6 c6 _ (own_obs Q22.out QM6.out) (may_fit may_g4_12) (may_mod12 may_g4_12)).mono ?_
  rintro e w23 ⟨A8, c8, l8, rfl, -, -, hb⟩
  clear y0 y1 y2
  rw [f11_12]
  have HB23 := hid (then_w HB22.out hb)
  have S23 := hid (then_w S22.out hb)
  have H23 := hid (H22.out.later hb)
  have M23 := hid (M22.out.later hb)
  have G23 := hid (G22.out.later hb)
  have P23 := hid (P22.out.later hb)
  have I23 := hid (I22.out.later hb)
  have R23 := hid (R22.out.later hb)
  have Q23 := hid (Q22.out.later hb)
  clear hb
  clear HB22 S22 H22 M22 G22 P22 I22 R22 Q22
  go_upto_region 14 with fail
  obtain ⟨w24, hw⟩ : ∃ x, x = w23.alloc (.cells #[.slice A8 (pu12 G4_12 0 1).1.objs.length c8, .int .i64 (pu12 G4_12 0 1).1.cap, .int .i64 (pu12 G4_12 0 1).1.last] 24) := ⟨_, rfl⟩
  obtain ⟨bt, hbx⟩ : ∃ x, x = w23.heap.size := ⟨_, rfl⟩
  have T24 : Hid (Lies w24 bt 24 #[.slice A8 (pu12 G4_12 0 1).1.objs.length c8, .int .i64 (pu12 G4_12 0 1).1.cap, .int .i64 (pu12 G4_12 0 1).1.last]) := by show Lies _ _ _ _; rw [hw, hbx]; exact Lies.new _ _ _
  have hb : Below w23.heap.size w23 w24 := by rw [hw]; exact below_alloc _ _
  rw [← hw, ← hbx]
  have ne_H_T : Hid (bh ≠ bt) := by show _ ≠ _; rw [hbx]; exact Nat.ne_of_lt H23.out.lt
  have ne_M_T : Hid (bm ≠ bt) := by show _ ≠ _; rw [hbx]; exact Nat.ne_of_lt M23.out.lt
  have ne_G_T : Hid (bg ≠ bt) := by show _ ≠ _; rw [hbx]; exact Nat.ne_of_lt G23.out.lt
  have ne_P_T : Hid (bp ≠ bt) := by show _ ≠ _; rw [hbx]; exact Nat.ne_of_lt P23.out.lt
  have ne_I_T : Hid (bi ≠ bt) := by show _ ≠ _; rw [hbx]; exact Nat.ne_of_lt I23.out.lt
  have ne_R_T : Hid (br ≠ bt) := by show _ ≠ _; rw [hbx]; exact Nat.ne_of_lt R23.out.lt
  have at_T : Hid (bt = w23.heap.size) := hbx
  have le_S_T : Hid (w2.heap.size ≤ bt) := by show _ ≤ _; rw [hbx]; exact S23.out.size
  have le_HB_T : Hid (w.heap.size ≤ bt) := by show _ ≤ _; rw [hbx]; exact HB23.out.size
  clear hbx hw
  have HB24 := hid (then_w HB23.out hb)
  have S24 := hid (then_w S23.out hb)
  have H24 := hid (H23.out.later hb)
  have M24 := hid (M23.out.later hb)
  have G24 := hid (G23.out.later hb)
  have P24 := hid (P23.out.later hb)
  have I24 := hid (I23.out.later hb)
  have R24 := hid (R23.out.later hb)
  have Q24 := hid (Q23.out.later hb)
  clear hb
  clear HB23 S23 H23 M23 G23 P23 I23 R23 Q23
  obtain ⟨i0, i1⟩ := I24.out.c2
  go_wp2_with fail
  go_ret
  exact ⟨rfl, HB24.out⟩
end Go.Proofs.YtalfbdigjaibkaaGreat
