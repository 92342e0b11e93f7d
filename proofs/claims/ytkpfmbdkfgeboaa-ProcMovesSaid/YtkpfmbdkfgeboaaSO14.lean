/- The heap of three processes and a semaphore. -/
import Derived.Test.YtkpfmbdkfgeboaaRT14
namespace Go.Proofs.Ytkpfmbdkfgeboaa
open Go.RowKit
set_option maxRecDepth 100000
def zO14 : Ob := ⟨0, 0, [], ⟨#[]⟩, 0, 0⟩
def zL14 : LO := ⟨zO14, none, 0⟩
def pO14 (k : Int) : Ob := ⟨14, 0, [0, 0, k, 0], ⟨#[]⟩, 0, 0⟩
def sO14 : Ob := ⟨16, 0, [1, 0], ⟨#[]⟩, 0, 0⟩
def T14 : Hp := ⟨List.replicate 9 zO14 ++ [pO14 3, pO14 7, pO14 3, sO14], 13, 0⟩
/-- objects appended to a row of the call's own, run -/
theorem run_app_row14 (w : World) (base b : Nat) (A : Option Addr) (c d n m : Nat) (ls new : List LO) (hown : w.ownsRow base 43 6 (.slice A n c) n (rowOf ls)) (hn : n = ls.length) (hm : m = new.length) (hl : n + m ≤ 1000)
    (hnew : Lies w b 43 (rowOf new).toArray) (hbase : base ≤ w.heap.size) :
    ∃ A' c' w', (Builtin.append_ #[22, 22] 22 #[.slice A n c, .slice (some ⟨b, 0, none⟩) m d]).run Try.prog w = .ok (.slice A' (n + m) c') w' ∧
      w'.ownsRow base 43 6 (.slice A' (n + m) c') (n + m) (rowOf (ls ++ new)) ∧ w.grownBy w' (Value.slice A n c).ownBlock := by
  obtain ⟨j0, hj, hy0, hy1, hy2⟩ := info_parts obj_info
  obtain ⟨v', w', h1, h2, h3, -⟩ := run_append_own (P := Try.prog) w base 22 22 43 j0 (.agg #[.int .i64 0, .int .i64 0, .slice none 0 0, .string ⟨#[]⟩, .int .i64 0, .int .i64 0]) 6 72 Try.underlying22 hj hy0 hy1 hy2 rfl (by decide) _ _ _ hown ⟨b, 0, none⟩ m d (rowOf new) (by rw [hm]; exact rowOf_length new) (by
      intro j u hu
      rw [Addr.add_lit, Nat.zero_add, hnew.cell j]
      simpa using hu) (rowOf_one new) (by unfold maxLen; omega) (by omega) hbase
  obtain ⟨A', c', rfl⟩ := own_form h2
  exact ⟨A', c', w', h1, by rw [rowOf_append]; exact h2, h3⟩
theorem grown_lies14 {w w' : World} {g : Nat} {t : TypeId} {cs : Array Value} {base n : Nat} {v : Value} {xs : List Value} (hg : w.grownBy w' v.ownBlock) (h : Lies w g t cs) (ho : w.ownsRow base 43 6 v n xs) (ht : 43 ≠ t) : Lies w' g t cs :=
  h.grown hg (fun e => own_blk_ne ho h ht e.symm)
theorem row_obs14 {w : World} {base : Nat} {A : Option Addr} {c : Nat} {ls : List LO} (h : w.ownsRow base 43 6 (.slice A ls.length c) ls.length (rowOf ls)) (hi : ∀ l ∈ ls, IntsR w l.S l.o.slots) (hn : ∀ l ∈ ls, l.S = none → l.c = 0)
    (hc : ∀ l ∈ ls, l.o.slots.length ≤ l.c) : ObsR w A (ls.map (·.o)) :=
  LaidR.obs ⟨fun hp => by
    obtain ⟨g, cg, hv, hg0, hg1⟩ := h.form hp
    simp only [Value.slice.injEq, true_and] at hv
    obtain ⟨rfl, rfl⟩ := hv
    refine ⟨g, 0, rfl, hg1, fun j u hu => ?_⟩
    have hj : j < ls.length * 6 := by
      have := (List.getElem?_eq_some_iff.1 hu).1
      rwa [rowOf_length] at this
    rw [Nat.zero_add]
    exact (h.cellAt j hj).trans hu, hi, hn⟩ hc
theorem lies_ints14 {w : World} {g : Nat} {l : List Int} {cs : Array Value} (hl : Lies w g 3 cs) (hc : cs.toList = l.map (Value.int .i64)) : IntsR w (some ⟨g, 0, none⟩) l := fun _ => by
  refine ⟨g, 0, rfl, hl.lt, fun j x hx => ?_⟩
  rw [Nat.zero_add, hl.cell, ← Array.getElem?_toList, hc, List.getElem?_map, hx]; rfl
set_option maxHeartbeats 4000000 in
theorem three_any14 (w : World) : Calls Try.prog 19 #[] w fun e w' => ∃ A c, e = .returned (.agg #[.slice A T14.objs.length c, .int .i64 T14.cap, .int .i64 T14.last]) ∧ ObsR w' A T14.objs ∧ Below w.heap.size w w' := by
  obtain ⟨w0, hw0⟩ : ∃ x, x = (w.alloc (.cells #[.slice none 0 0, .int .i64 0, .int .i64 0] 24)).alloc (.cells #[.slice none 0 0, .int .i64 13, .int .i64 0] 24) := ⟨_, rfl⟩
  have HB0 : Hid (Below w.heap.size w w0) := by show Below _ _ _; rw [hw0]; exact below_alloc2 w _ _
  have HK0 : Hid (Lies w0 w.heap.size 24 #[.slice none 0 0, .int .i64 0, .int .i64 0]) := by show Lies _ _ _ _; rw [hw0]; exact (Lies.new w _ _).alloc _
  have HL0 : Hid (Lies w0 (w.heap.size + 1) 24 #[.slice none 0 0, .int .i64 13, .int .i64 0]) := by
    show Lies _ _ _ _
    have := Lies.new (w.alloc (.cells #[.slice none 0 0, .int .i64 0, .int .i64 0] 24)) 24 #[.slice none 0 0, .int .i64 13, .int .i64 0]
    rw [hw0]
    simpa [Hid] using this
  have HO0 : Hid (w0.ownsRow w.heap.size 43 6 (.slice none 0 0) 0 (rowOf (List.replicate 0 zL14))) := World.ownsRow_nil _ _ _ _
  go_enter Try.func19, Try.ntmps19
  go_wp2_with fail
  rw [← hw0]
  clear hw0
  go_loopw [2] (fun i wr => ∃ (k : Nat) (A : Option Addr) (c : Nat), k ≤ 9 ∧ i = .int .i64 k ∧ Hid (Lies wr w.heap.size 24 #[.slice none 0 0, .int .i64 0, .int .i64 0]) ∧ Hid (Lies wr (w.heap.size + 1) 24 #[.slice A k c, .int .i64 13, .int .i64 0]) ∧ Hid (wr.ownsRow w.heap.size 43 6 (.slice A k c) k (rowOf (List.replicate k zL14))) ∧ Hid (Below w.heap.size w wr)) (fun i _ => 9 - (intOf i).toNat)
  case atStart => exact ⟨0, none, 0, by omega, rfl, HK0, HL0, HO0, HB0⟩
  case round =>
    rename World => w1
    obtain ⟨k, A, c, hk, rfl, HK, HL, HO, HB⟩ := hrel
    clear HK0 HL0 HO0 HB0
    obtain ⟨l0, l1, l2⟩ := HL.out.c3
    obtain ⟨lf0, lf1, lf2⟩ := HL.out.f3
    by_cases hlt : k < 9
    · have hal := below_alloc w1 (.cells #[.int .i64 0, .int .i64 0, .slice none 0 0, .string ⟨#[]⟩, .int .i64 0, .int .i64 0] 43)
      have ho1 := own_later HO.out hal
      obtain ⟨A2, c2, w2, hrun, hO2, hg2⟩ := run_app_row14 (w1.alloc (.cells #[.int .i64 0, .int .i64 0, .slice none 0 0, .string ⟨#[]⟩, .int .i64 0, .int .i64 0] 43)) w.heap.size w1.heap.size A c 1 k 1 (List.replicate k zL14) [zL14] ho1 (by simp) rfl (by omega) (Lies.new w1 43 #[.int .i64 0, .int .i64 0, .slice none 0 0, .string ⟨#[]⟩, .int .i64 0, .int .i64 0]) (Nat.le_trans HB.out.size hal.size)
      rw [← List.replicate_succ'] at hO2
      have HRUN := hid hrun
      have HO2 := hid hO2
      have HK2 := hid (grown_lies14 hg2 (HK.out.later hal) ho1 (by decide))
      have HL2 := hid (grown_lies14 hg2 (HL.out.later hal) ho1 (by decide))
      have HB2 : Hid (Below w.heap.size w w2) := (HB.out.trans (hal.mono HB.out.size)).grown hg2 (Nat.le_trans HB.out.size hal.size) (fun q hq => (ho1.lt q hq).1)
      have hk7 : (k : Int) < 9 := by omega
      clear hal ho1 hrun hO2 hg2
      have p0 := HL2.out.cell 0
      have pf0 := HL2.out.frozen 0
      simp only [List.getElem?_toArray, List.getElem?_cons_zero] at p0
      have HO3 := hid (ownsRow_setCell_other HO2.out (own_blk_ne HO2.out HL2.out (by decide)) (a := ⟨w.heap.size + 1, 0, none⟩) (.slice A2 (k + 1) c2))
      have HK3 := hid (HK2.out.far (p := ⟨w.heap.size + 1, 0, none⟩) (by simp) (.slice A2 (k + 1) c2))
      have HL3 := hid (HL2.out.set_ 0 (.slice A2 (k + 1) c2))
      have HB3 := hid (HB2.out.setCell (p := ⟨w.heap.size + 1, 0, none⟩) (by simp) (.slice A2 (k + 1) c2))
      go_wp2_with (at_builtin; refine wpList_app_run rfl (.tmp 9) (.tmp 11) 22 rfl _ _ HRUN.out ?_)
      go_roundw
      case rel => exact ⟨k + 1, A2, c2, by omega, by go_num, HK3, HL3, HO3, HB3⟩
      case measure => simp [intOf]; omega
    · have e9 : k = 9 := by omega
      subst e9
      have hal : Below w1.heap.size w1 (((((w1.alloc (.cells #[.int .i64 0, .int .i64 0, .int .i64 3, .int .i64 0] 3)).alloc (.cells #[.int .i64 0, .int .i64 0, .int .i64 7, .int .i64 0] 3)).alloc (.cells #[.int .i64 0, .int .i64 0, .int .i64 3, .int .i64 0] 3)).alloc (.cells #[.int .i64 1, .int .i64 0] 3)).alloc (.cells #[.int .i64 14, .int .i64 0, .slice (some ⟨w1.heap.size, 0, none⟩) 4 4, .string ⟨#[]⟩, .int .i64 0, .int .i64 0, .int .i64 14, .int .i64 0, .slice (some ⟨w1.heap.size + 1, 0, none⟩) 4 4, .string ⟨#[]⟩, .int .i64 0, .int .i64 0, .int .i64 14, .int .i64 0, .slice (some ⟨w1.heap.size + 2, 0, none⟩) 4 4, .string ⟨#[]⟩, .int .i64 0, .int .i64 0, .int .i64 16, .int .i64 0, .slice (some ⟨w1.heap.size + 3, 0, none⟩) 2 2, .string ⟨#[]⟩, .int .i64 0, .int .i64 0] 43)) := (((((below_alloc w1 _).alloc (by simp) _).alloc (by simp; omega) _).alloc (by simp; omega) _).alloc (by simp; omega) _)
      have ho1 := own_later HO.out hal
      have hb9 : Lies (((((w1.alloc (.cells #[.int .i64 0, .int .i64 0, .int .i64 3, .int .i64 0] 3)).alloc (.cells #[.int .i64 0, .int .i64 0, .int .i64 7, .int .i64 0] 3)).alloc (.cells #[.int .i64 0, .int .i64 0, .int .i64 3, .int .i64 0] 3)).alloc (.cells #[.int .i64 1, .int .i64 0] 3)).alloc (.cells #[.int .i64 14, .int .i64 0, .slice (some ⟨w1.heap.size, 0, none⟩) 4 4, .string ⟨#[]⟩, .int .i64 0, .int .i64 0, .int .i64 14, .int .i64 0, .slice (some ⟨w1.heap.size + 1, 0, none⟩) 4 4, .string ⟨#[]⟩, .int .i64 0, .int .i64 0, .int .i64 14, .int .i64 0, .slice (some ⟨w1.heap.size + 2, 0, none⟩) 4 4, .string ⟨#[]⟩, .int .i64 0, .int .i64 0, .int .i64 16, .int .i64 0, .slice (some ⟨w1.heap.size + 3, 0, none⟩) 2 2, .string ⟨#[]⟩, .int .i64 0, .int .i64 0] 43)) (w1.heap.size + 4) 43 #[.int .i64 14, .int .i64 0, .slice (some ⟨w1.heap.size, 0, none⟩) 4 4, .string ⟨#[]⟩, .int .i64 0, .int .i64 0, .int .i64 14, .int .i64 0, .slice (some ⟨w1.heap.size + 1, 0, none⟩) 4 4, .string ⟨#[]⟩, .int .i64 0, .int .i64 0, .int .i64 14, .int .i64 0, .slice (some ⟨w1.heap.size + 2, 0, none⟩) 4 4, .string ⟨#[]⟩, .int .i64 0, .int .i64 0, .int .i64 16, .int .i64 0, .slice (some ⟨w1.heap.size + 3, 0, none⟩) 2 2, .string ⟨#[]⟩, .int .i64 0, .int .i64 0] := by
        have := Lies.new ((((w1.alloc (.cells #[.int .i64 0, .int .i64 0, .int .i64 3, .int .i64 0] 3)).alloc (.cells #[.int .i64 0, .int .i64 0, .int .i64 7, .int .i64 0] 3)).alloc (.cells #[.int .i64 0, .int .i64 0, .int .i64 3, .int .i64 0] 3)).alloc (.cells #[.int .i64 1, .int .i64 0] 3)) 43 #[.int .i64 14, .int .i64 0, .slice (some ⟨w1.heap.size, 0, none⟩) 4 4, .string ⟨#[]⟩, .int .i64 0, .int .i64 0, .int .i64 14, .int .i64 0, .slice (some ⟨w1.heap.size + 1, 0, none⟩) 4 4, .string ⟨#[]⟩, .int .i64 0, .int .i64 0, .int .i64 14, .int .i64 0, .slice (some ⟨w1.heap.size + 2, 0, none⟩) 4 4, .string ⟨#[]⟩, .int .i64 0, .int .i64 0, .int .i64 16, .int .i64 0, .slice (some ⟨w1.heap.size + 3, 0, none⟩) 2 2, .string ⟨#[]⟩, .int .i64 0, .int .i64 0]
        simpa using this
      have hi0 : Lies (((((w1.alloc (.cells #[.int .i64 0, .int .i64 0, .int .i64 3, .int .i64 0] 3)).alloc (.cells #[.int .i64 0, .int .i64 0, .int .i64 7, .int .i64 0] 3)).alloc (.cells #[.int .i64 0, .int .i64 0, .int .i64 3, .int .i64 0] 3)).alloc (.cells #[.int .i64 1, .int .i64 0] 3)).alloc (.cells #[.int .i64 14, .int .i64 0, .slice (some ⟨w1.heap.size, 0, none⟩) 4 4, .string ⟨#[]⟩, .int .i64 0, .int .i64 0, .int .i64 14, .int .i64 0, .slice (some ⟨w1.heap.size + 1, 0, none⟩) 4 4, .string ⟨#[]⟩, .int .i64 0, .int .i64 0, .int .i64 14, .int .i64 0, .slice (some ⟨w1.heap.size + 2, 0, none⟩) 4 4, .string ⟨#[]⟩, .int .i64 0, .int .i64 0, .int .i64 16, .int .i64 0, .slice (some ⟨w1.heap.size + 3, 0, none⟩) 2 2, .string ⟨#[]⟩, .int .i64 0, .int .i64 0] 43)) (w1.heap.size) 3 #[.int .i64 0, .int .i64 0, .int .i64 3, .int .i64 0] := by
        have := ((((Lies.new w1 3 #[.int .i64 0, .int .i64 0, .int .i64 3, .int .i64 0]).alloc (.cells #[.int .i64 0, .int .i64 0, .int .i64 7, .int .i64 0] 3)).alloc (.cells #[.int .i64 0, .int .i64 0, .int .i64 3, .int .i64 0] 3)).alloc (.cells #[.int .i64 1, .int .i64 0] 3)).alloc (.cells #[.int .i64 14, .int .i64 0, .slice (some ⟨w1.heap.size, 0, none⟩) 4 4, .string ⟨#[]⟩, .int .i64 0, .int .i64 0, .int .i64 14, .int .i64 0, .slice (some ⟨w1.heap.size + 1, 0, none⟩) 4 4, .string ⟨#[]⟩, .int .i64 0, .int .i64 0, .int .i64 14, .int .i64 0, .slice (some ⟨w1.heap.size + 2, 0, none⟩) 4 4, .string ⟨#[]⟩, .int .i64 0, .int .i64 0, .int .i64 16, .int .i64 0, .slice (some ⟨w1.heap.size + 3, 0, none⟩) 2 2, .string ⟨#[]⟩, .int .i64 0, .int .i64 0] 43)
        simpa using this
      have hi1 : Lies (((((w1.alloc (.cells #[.int .i64 0, .int .i64 0, .int .i64 3, .int .i64 0] 3)).alloc (.cells #[.int .i64 0, .int .i64 0, .int .i64 7, .int .i64 0] 3)).alloc (.cells #[.int .i64 0, .int .i64 0, .int .i64 3, .int .i64 0] 3)).alloc (.cells #[.int .i64 1, .int .i64 0] 3)).alloc (.cells #[.int .i64 14, .int .i64 0, .slice (some ⟨w1.heap.size, 0, none⟩) 4 4, .string ⟨#[]⟩, .int .i64 0, .int .i64 0, .int .i64 14, .int .i64 0, .slice (some ⟨w1.heap.size + 1, 0, none⟩) 4 4, .string ⟨#[]⟩, .int .i64 0, .int .i64 0, .int .i64 14, .int .i64 0, .slice (some ⟨w1.heap.size + 2, 0, none⟩) 4 4, .string ⟨#[]⟩, .int .i64 0, .int .i64 0, .int .i64 16, .int .i64 0, .slice (some ⟨w1.heap.size + 3, 0, none⟩) 2 2, .string ⟨#[]⟩, .int .i64 0, .int .i64 0] 43)) (w1.heap.size + 1) 3 #[.int .i64 0, .int .i64 0, .int .i64 7, .int .i64 0] := by
        have := (((Lies.new (w1.alloc (.cells #[.int .i64 0, .int .i64 0, .int .i64 3, .int .i64 0] 3)) 3 #[.int .i64 0, .int .i64 0, .int .i64 7, .int .i64 0]).alloc (.cells #[.int .i64 0, .int .i64 0, .int .i64 3, .int .i64 0] 3)).alloc (.cells #[.int .i64 1, .int .i64 0] 3)).alloc (.cells #[.int .i64 14, .int .i64 0, .slice (some ⟨w1.heap.size, 0, none⟩) 4 4, .string ⟨#[]⟩, .int .i64 0, .int .i64 0, .int .i64 14, .int .i64 0, .slice (some ⟨w1.heap.size + 1, 0, none⟩) 4 4, .string ⟨#[]⟩, .int .i64 0, .int .i64 0, .int .i64 14, .int .i64 0, .slice (some ⟨w1.heap.size + 2, 0, none⟩) 4 4, .string ⟨#[]⟩, .int .i64 0, .int .i64 0, .int .i64 16, .int .i64 0, .slice (some ⟨w1.heap.size + 3, 0, none⟩) 2 2, .string ⟨#[]⟩, .int .i64 0, .int .i64 0] 43)
        simpa using this
      have hi2 : Lies (((((w1.alloc (.cells #[.int .i64 0, .int .i64 0, .int .i64 3, .int .i64 0] 3)).alloc (.cells #[.int .i64 0, .int .i64 0, .int .i64 7, .int .i64 0] 3)).alloc (.cells #[.int .i64 0, .int .i64 0, .int .i64 3, .int .i64 0] 3)).alloc (.cells #[.int .i64 1, .int .i64 0] 3)).alloc (.cells #[.int .i64 14, .int .i64 0, .slice (some ⟨w1.heap.size, 0, none⟩) 4 4, .string ⟨#[]⟩, .int .i64 0, .int .i64 0, .int .i64 14, .int .i64 0, .slice (some ⟨w1.heap.size + 1, 0, none⟩) 4 4, .string ⟨#[]⟩, .int .i64 0, .int .i64 0, .int .i64 14, .int .i64 0, .slice (some ⟨w1.heap.size + 2, 0, none⟩) 4 4, .string ⟨#[]⟩, .int .i64 0, .int .i64 0, .int .i64 16, .int .i64 0, .slice (some ⟨w1.heap.size + 3, 0, none⟩) 2 2, .string ⟨#[]⟩, .int .i64 0, .int .i64 0] 43)) (w1.heap.size + 2) 3 #[.int .i64 0, .int .i64 0, .int .i64 3, .int .i64 0] := by
        have := ((Lies.new ((w1.alloc (.cells #[.int .i64 0, .int .i64 0, .int .i64 3, .int .i64 0] 3)).alloc (.cells #[.int .i64 0, .int .i64 0, .int .i64 7, .int .i64 0] 3)) 3 #[.int .i64 0, .int .i64 0, .int .i64 3, .int .i64 0]).alloc (.cells #[.int .i64 1, .int .i64 0] 3)).alloc (.cells #[.int .i64 14, .int .i64 0, .slice (some ⟨w1.heap.size, 0, none⟩) 4 4, .string ⟨#[]⟩, .int .i64 0, .int .i64 0, .int .i64 14, .int .i64 0, .slice (some ⟨w1.heap.size + 1, 0, none⟩) 4 4, .string ⟨#[]⟩, .int .i64 0, .int .i64 0, .int .i64 14, .int .i64 0, .slice (some ⟨w1.heap.size + 2, 0, none⟩) 4 4, .string ⟨#[]⟩, .int .i64 0, .int .i64 0, .int .i64 16, .int .i64 0, .slice (some ⟨w1.heap.size + 3, 0, none⟩) 2 2, .string ⟨#[]⟩, .int .i64 0, .int .i64 0] 43)
        simpa using this
      have hi3 : Lies (((((w1.alloc (.cells #[.int .i64 0, .int .i64 0, .int .i64 3, .int .i64 0] 3)).alloc (.cells #[.int .i64 0, .int .i64 0, .int .i64 7, .int .i64 0] 3)).alloc (.cells #[.int .i64 0, .int .i64 0, .int .i64 3, .int .i64 0] 3)).alloc (.cells #[.int .i64 1, .int .i64 0] 3)).alloc (.cells #[.int .i64 14, .int .i64 0, .slice (some ⟨w1.heap.size, 0, none⟩) 4 4, .string ⟨#[]⟩, .int .i64 0, .int .i64 0, .int .i64 14, .int .i64 0, .slice (some ⟨w1.heap.size + 1, 0, none⟩) 4 4, .string ⟨#[]⟩, .int .i64 0, .int .i64 0, .int .i64 14, .int .i64 0, .slice (some ⟨w1.heap.size + 2, 0, none⟩) 4 4, .string ⟨#[]⟩, .int .i64 0, .int .i64 0, .int .i64 16, .int .i64 0, .slice (some ⟨w1.heap.size + 3, 0, none⟩) 2 2, .string ⟨#[]⟩, .int .i64 0, .int .i64 0] 43)) (w1.heap.size + 3) 3 #[.int .i64 1, .int .i64 0] := by
        have := (Lies.new (((w1.alloc (.cells #[.int .i64 0, .int .i64 0, .int .i64 3, .int .i64 0] 3)).alloc (.cells #[.int .i64 0, .int .i64 0, .int .i64 7, .int .i64 0] 3)).alloc (.cells #[.int .i64 0, .int .i64 0, .int .i64 3, .int .i64 0] 3)) 3 #[.int .i64 1, .int .i64 0]).alloc (.cells #[.int .i64 14, .int .i64 0, .slice (some ⟨w1.heap.size, 0, none⟩) 4 4, .string ⟨#[]⟩, .int .i64 0, .int .i64 0, .int .i64 14, .int .i64 0, .slice (some ⟨w1.heap.size + 1, 0, none⟩) 4 4, .string ⟨#[]⟩, .int .i64 0, .int .i64 0, .int .i64 14, .int .i64 0, .slice (some ⟨w1.heap.size + 2, 0, none⟩) 4 4, .string ⟨#[]⟩, .int .i64 0, .int .i64 0, .int .i64 16, .int .i64 0, .slice (some ⟨w1.heap.size + 3, 0, none⟩) 2 2, .string ⟨#[]⟩, .int .i64 0, .int .i64 0] 43)
        simpa using this
      obtain ⟨A2, c2, w2, hrun, hO2, hg2⟩ := run_app_row14 (((((w1.alloc (.cells #[.int .i64 0, .int .i64 0, .int .i64 3, .int .i64 0] 3)).alloc (.cells #[.int .i64 0, .int .i64 0, .int .i64 7, .int .i64 0] 3)).alloc (.cells #[.int .i64 0, .int .i64 0, .int .i64 3, .int .i64 0] 3)).alloc (.cells #[.int .i64 1, .int .i64 0] 3)).alloc (.cells #[.int .i64 14, .int .i64 0, .slice (some ⟨w1.heap.size, 0, none⟩) 4 4, .string ⟨#[]⟩, .int .i64 0, .int .i64 0, .int .i64 14, .int .i64 0, .slice (some ⟨w1.heap.size + 1, 0, none⟩) 4 4, .string ⟨#[]⟩, .int .i64 0, .int .i64 0, .int .i64 14, .int .i64 0, .slice (some ⟨w1.heap.size + 2, 0, none⟩) 4 4, .string ⟨#[]⟩, .int .i64 0, .int .i64 0, .int .i64 16, .int .i64 0, .slice (some ⟨w1.heap.size + 3, 0, none⟩) 2 2, .string ⟨#[]⟩, .int .i64 0, .int .i64 0] 43)) w.heap.size (w1.heap.size + 4) A c 4 9 4 (List.replicate 9 zL14) [(⟨pO14 3, some ⟨w1.heap.size, 0, none⟩, 4⟩ : LO), (⟨pO14 7, some ⟨w1.heap.size + 1, 0, none⟩, 4⟩ : LO), (⟨pO14 3, some ⟨w1.heap.size + 2, 0, none⟩, 4⟩ : LO), (⟨sO14, some ⟨w1.heap.size + 3, 0, none⟩, 2⟩ : LO)] ho1 (by simp) rfl (by omega) hb9 (Nat.le_trans HB.out.size hal.size)
      have HRUN := hid hrun
      have HO2 := hid hO2
      have HK2 := hid (grown_lies14 hg2 (HK.out.later hal) ho1 (by decide))
      have HL2 := hid (grown_lies14 hg2 (HL.out.later hal) ho1 (by decide))
      have H0 := hid (grown_lies14 hg2 hi0 ho1 (by decide))
      have H1 := hid (grown_lies14 hg2 hi1 ho1 (by decide))
      have H2 := hid (grown_lies14 hg2 hi2 ho1 (by decide))
      have H3 := hid (grown_lies14 hg2 hi3 ho1 (by decide))
      have HB2 : Hid (Below w.heap.size w w2) := (HB.out.trans (hal.mono HB.out.size)).grown hg2 (Nat.le_trans HB.out.size hal.size) (fun q hq => (ho1.lt q hq).1)
      have HW1 : Hid (w.heap.size + 1 < w1.heap.size) := HL.out.lt
      clear hal ho1 hb9 hi0 hi1 hi2 hi3 hrun hO2 hg2
      have p0 := HL2.out.cell 0
      have p1 := HL2.out.cell 1
      have p2 := HL2.out.cell 2
      have pf0 := HL2.out.frozen 0
      simp only [List.getElem?_toArray, List.getElem?_cons_zero, List.getElem?_cons_succ] at p0 p1 p2
      obtain ⟨u0, u1, u2⟩ := HK2.out.c3
      obtain ⟨uf0, uf1, uf2⟩ := HK2.out.f3
      go_wp2_with (at_builtin; refine wpList_app_run rfl (.tmp 15) (.tmp 24) 22 rfl _ _ HRUN.out ?_)
      have HL3 := HL2.out.set_ 0 (.slice A2 13 c2)
      have HK3 := HK2.out.far (p := ⟨w.heap.size + 1, 0, none⟩) (by simp) (.slice A2 13 c2)
      have K1 := HK3.set_ 0 (.slice A2 13 c2)
      have K2 := K1.set_ 1 (.int .i64 13)
      have K3 := K2.set_ 2 (.int .i64 0)
      have r0 := K3.cell 0
      have r1 := K3.cell 1
      have r2 := K3.cell 2
      simp only [List.setIfInBounds_toArray, List.set_cons_zero, List.set_cons_succ, List.getElem?_toArray, List.getElem?_cons_zero, List.getElem?_cons_succ] at r0 r1 r2
      refine bodyPost_ret (v := .agg #[.slice A2 13 c2, .int .i64 13, .int .i64 0]) (by simp [results, Try.results19, go_sem, r0, r1, r2]) rfl ?_
      have o1 := ownsRow_setCell_other HO2.out (own_blk_ne HO2.out HL2.out (by decide)) (a := ⟨w.heap.size + 1, 0, none⟩) (.slice A2 13 c2)
      have o2 := ownsRow_setCell_other o1 (own_blk_ne o1 HK3 (by decide)) (a := ⟨w.heap.size, 0, none⟩) (.slice A2 13 c2)
      have o3 := ownsRow_setCell_other o2 (own_blk_ne o2 K1 (by decide)) (a := ⟨w.heap.size, 1, none⟩) (.int .i64 13)
      have o4 := ownsRow_setCell_other o3 (own_blk_ne o3 K2 (by decide)) (a := ⟨w.heap.size, 2, none⟩) (.int .i64 0)
      have n0 : w1.heap.size ≠ w.heap.size + 1 := by have := HW1.out; omega
      have m0 : w1.heap.size ≠ w.heap.size := by have := HW1.out; omega
      have i0 := (((H0.out.far (p := ⟨w.heap.size + 1, 0, none⟩) n0 (.slice A2 13 c2)).far (p := ⟨w.heap.size, 0, none⟩) m0 (.slice A2 13 c2)).far (p := ⟨w.heap.size, 1, none⟩) m0 (.int .i64 13)).far (p := ⟨w.heap.size, 2, none⟩) m0 (.int .i64 0)
      have n1 : w1.heap.size + 1 ≠ w.heap.size + 1 := by have := HW1.out; omega
      have m1 : w1.heap.size + 1 ≠ w.heap.size := by have := HW1.out; omega
      have i1 := (((H1.out.far (p := ⟨w.heap.size + 1, 0, none⟩) n1 (.slice A2 13 c2)).far (p := ⟨w.heap.size, 0, none⟩) m1 (.slice A2 13 c2)).far (p := ⟨w.heap.size, 1, none⟩) m1 (.int .i64 13)).far (p := ⟨w.heap.size, 2, none⟩) m1 (.int .i64 0)
      have n2 : w1.heap.size + 2 ≠ w.heap.size + 1 := by have := HW1.out; omega
      have m2 : w1.heap.size + 2 ≠ w.heap.size := by have := HW1.out; omega
      have i2 := (((H2.out.far (p := ⟨w.heap.size + 1, 0, none⟩) n2 (.slice A2 13 c2)).far (p := ⟨w.heap.size, 0, none⟩) m2 (.slice A2 13 c2)).far (p := ⟨w.heap.size, 1, none⟩) m2 (.int .i64 13)).far (p := ⟨w.heap.size, 2, none⟩) m2 (.int .i64 0)
      have n3 : w1.heap.size + 3 ≠ w.heap.size + 1 := by have := HW1.out; omega
      have m3 : w1.heap.size + 3 ≠ w.heap.size := by have := HW1.out; omega
      have i3 := (((H3.out.far (p := ⟨w.heap.size + 1, 0, none⟩) n3 (.slice A2 13 c2)).far (p := ⟨w.heap.size, 0, none⟩) m3 (.slice A2 13 c2)).far (p := ⟨w.heap.size, 1, none⟩) m3 (.int .i64 13)).far (p := ⟨w.heap.size, 2, none⟩) m3 (.int .i64 0)
      have HBE := (((HB2.out.setCell (p := ⟨w.heap.size + 1, 0, none⟩) (by simp) (.slice A2 13 c2)).setCell (p := ⟨w.heap.size, 0, none⟩) (by simp) (.slice A2 13 c2)).setCell (p := ⟨w.heap.size, 1, none⟩) (by simp) (.int .i64 13)).setCell (p := ⟨w.heap.size, 2, none⟩) (by simp) (.int .i64 0)
      refine ⟨A2, c2, rfl, ?_, HBE⟩
      refine row_obs14 (ls := List.replicate 9 zL14 ++ [(⟨pO14 3, some ⟨w1.heap.size, 0, none⟩, 4⟩ : LO), (⟨pO14 7, some ⟨w1.heap.size + 1, 0, none⟩, 4⟩ : LO), (⟨pO14 3, some ⟨w1.heap.size + 2, 0, none⟩, 4⟩ : LO), (⟨sO14, some ⟨w1.heap.size + 3, 0, none⟩, 2⟩ : LO)]) o4 ?_ ?_ ?_
      · intro l hl
        rcases List.mem_append.1 hl with hl | hl
        · rw [List.eq_of_mem_replicate hl]; exact fun h => absurd h (by decide)
        · simp only [List.mem_cons, List.not_mem_nil, or_false] at hl
          rcases hl with rfl | rfl | rfl | rfl
          · exact lies_ints14 i0 rfl
          · exact lies_ints14 i1 rfl
          · exact lies_ints14 i2 rfl
          · exact lies_ints14 i3 rfl
      · intro l hl
        rcases List.mem_append.1 hl with hl | hl
        · rw [List.eq_of_mem_replicate hl]; exact fun _ => rfl
        · simp only [List.mem_cons, List.not_mem_nil, or_false] at hl
          rcases hl with rfl | rfl | rfl | rfl <;> (intro h; cases h)
      · intro l hl
        rcases List.mem_append.1 hl with hl | hl
        · rw [List.eq_of_mem_replicate hl]; decide
        · simp only [List.mem_cons, List.not_mem_nil, or_false] at hl
          rcases hl with rfl | rfl | rfl | rfl
          · exact Nat.le_refl 4
          · exact Nat.le_refl 4
          · exact Nat.le_refl 4
          · exact Nat.le_refl 2
end Go.Proofs.Ytkpfmbdkfgeboaa
