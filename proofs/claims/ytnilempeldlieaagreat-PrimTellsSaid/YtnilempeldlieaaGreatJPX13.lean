/- How many arguments a primitive takes. The plain heap of the calls whose answers are fixed. The calls whose answers the document fixes: all are as it says. -/
import Derived.Test.YtnilempeldlieaaGreatJPU13
namespace Go.Proofs.YtnilempeldlieaaGreat
open Go.RowKit Flt
set_option maxRecDepth 100000
theorem numbered_any13 (num : Int) (w : World) : ∃ F, (F = .nilFunc ∨ ∃ K cap, F = .func (.func K) #[] cap) ∧ Calls Tryz.prog 47 #[.int .i64 num] w fun e w' => e = .returned (.tuple #[.agg #[.int .i64 (((ar13 num).getD 0 : Nat) : Int), F], .bool (ar13 num).isSome]) ∧ Below w.heap.size w w' := by
  by_cases hn : num < 1 ∨ 27 < num
  · refine ⟨.nilFunc, .inl rfl, ?_⟩
    rw [show ar13 num = none by unfold ar13; rw [if_pos hn]]
    exact numbered_no13 num hn w
  · obtain ⟨k, rfl⟩ : ∃ k : Nat, num = k := ⟨num.toNat, by omega⟩
    obtain ⟨na, K, cap, har, htb0, htb1, -, -⟩ := row13 k (by omega) (by omega) (w.heap.size + 1)
    refine ⟨.func (.func K) #[] cap, .inr ⟨K, cap, rfl⟩, ?_⟩
    rw [har]
    exact (numbered_ok13 k (by omega) (by omega) na K cap w htb0 htb1).mono fun e w' ⟨h1, h2, _⟩ => ⟨h1, h2⟩
set_option maxHeartbeats 1000000 in
theorem cargs_any13 (num : Int) (w : World) : Calls Tryz.prog 22 #[.int .i64 num] w fun e w' => e = .returned (.tuple #[.int .i64 (((ar13 num).getD 0 : Nat) : Int), .bool (ar13 num).isSome]) ∧ Below w.heap.size w w' := by
  obtain ⟨F, hf, hF⟩ := numbered_any13 num w
  obtain ⟨na, hna⟩ : ∃ n, n = (((ar13 num).getD 0 : Nat) : Int) := ⟨_, rfl⟩
  obtain ⟨ok, hok⟩ : ∃ b, b = (ar13 num).isSome := ⟨_, rfl⟩
  rw [← hna, ← hok] at hF ⊢
  clear hna hok
  obtain rfl | ⟨K, cap, rfl⟩ := hf
  · go_enter Tryz.func22, Tryz.ntmps22
    go_wp2_with fail
    refine hF.mono ?_
    rintro e w1 ⟨rfl, hb⟩
    have HB1 := hid hb
    clear hb hF
    go_upto_region 2 with fail
    obtain ⟨w2, hw2⟩ : ∃ x, x = w1.alloc (.cells #[.int .i64 na, .nilFunc] 69) := ⟨_, rfl⟩
    obtain ⟨bp, hbp⟩ : ∃ x, x = w1.heap.size := ⟨_, rfl⟩
    have P2 : Hid (Lies w2 bp 69 #[.int .i64 na, .nilFunc]) := by show Lies _ _ _ _; rw [hw2, hbp]; exact Lies.new _ _ _
    have hb2 : Below w1.heap.size w1 w2 := by rw [hw2]; exact below_alloc _ _
    have HB2 := hid (then_w HB1.out hb2)
    rw [← hw2, ← hbp]
    clear hw2 hbp hb2
    obtain ⟨x0, x1⟩ := P2.out.c2
    go_wp2_with fail
    refine bodyPost_ret (v := .tuple #[.int .i64 na, .bool ok]) (by simp [results, Tryz.results22, go_sem]) rfl ?_
    exact ⟨rfl, HB2.out⟩
  · go_enter Tryz.func22, Tryz.ntmps22
    go_wp2_with fail
    refine hF.mono ?_
    rintro e w1 ⟨rfl, hb⟩
    have HB1 := hid hb
    clear hb hF
    go_upto_region 2 with fail
    obtain ⟨w2, hw2⟩ : ∃ x, x = w1.alloc (.cells #[.int .i64 na, .func (.func K) #[] cap] 69) := ⟨_, rfl⟩
    obtain ⟨bp, hbp⟩ : ∃ x, x = w1.heap.size := ⟨_, rfl⟩
    have P2 : Hid (Lies w2 bp 69 #[.int .i64 na, .func (.func K) #[] cap]) := by show Lies _ _ _ _; rw [hw2, hbp]; exact Lies.new _ _ _
    have hb2 : Below w1.heap.size w1 w2 := by rw [hw2]; exact below_alloc _ _
    have HB2 := hid (then_w HB1.out hb2)
    rw [← hw2, ← hbp]
    clear hw2 hbp hb2
    obtain ⟨x0, x1⟩ := P2.out.c2
    go_wp2_with fail
    refine bodyPost_ret (v := .tuple #[.int .i64 na, .bool ok]) (by simp [results, Tryz.results22, go_sem]) rfl ?_
    exact ⟨rfl, HB2.out⟩
end Go.Proofs.YtnilempeldlieaaGreat
namespace Go.Proofs.YtnilempeldlieaaGreat
open Go.RowKit Flt
set_option maxRecDepth 100000
def zO13 : Ob := ⟨0, 0, [], ⟨#[]⟩, 0, 0⟩
def zL13 : LO := ⟨zO13, none, 0⟩
def cO13 : Ob := ⟨0, 0, [0, 0, 5], ⟨#[]⟩, 0, 0⟩
def tO13 : Ob := ⟨0, 1, [], ⟨#[97, 98]⟩, 0, 0⟩
def P13 : Hp := ⟨List.replicate 12 zO13 ++ [cO13, tO13], 16, 0⟩
theorem run_app_row13 (w : World) (base b : Nat) (A : Option Addr) (c d n m : Nat) (ls new : List LO) (hown : w.ownsRow base 41 6 (.slice A n c) n (rowOf ls)) (hn : n = ls.length) (hm : m = new.length) (hl : n + m ≤ 1000)
    (hnew : Lies w b 41 (rowOf new).toArray) (hbase : base ≤ w.heap.size) :
    ∃ A' c' w', (Builtin.append_ #[22, 22] 22 #[.slice A n c, .slice (some ⟨b, 0, none⟩) m d]).run Tryz.prog w = .ok (.slice A' (n + m) c') w' ∧
      w'.ownsRow base 41 6 (.slice A' (n + m) c') (n + m) (rowOf (ls ++ new)) ∧ w.grownBy w' (Value.slice A n c).ownBlock := by
  obtain ⟨j0, hj, hy0, hy1, hy2⟩ := info_parts obj_info
  obtain ⟨v', w', h1, h2, h3, -⟩ := run_append_own (P := Tryz.prog) w base 22 22 41 j0 (.agg #[.int .i64 0, .int .i64 0, .slice none 0 0, .string ⟨#[]⟩, .int .i64 0, .int .i64 0]) 6 72 Tryz.underlying22 hj hy0 hy1 hy2 rfl (by decide) _ _ _ hown ⟨b, 0, none⟩ m d (rowOf new) (by rw [hm]; exact rowOf_length new) (by
      intro j u hu
      rw [Addr.add_lit, Nat.zero_add, hnew.cell j]
      simpa using hu) (rowOf_one new) (by unfold maxLen; omega) (by omega) hbase
  obtain ⟨A', c', rfl⟩ := own_form h2
  exact ⟨A', c', w', h1, by rw [rowOf_append]; exact h2, h3⟩
theorem grown_lies13 {w w' : World} {g : Nat} {t : TypeId} {cs : Array Value} {base n : Nat} {v : Value} {xs : List Value} (hg : w.grownBy w' v.ownBlock) (h : Lies w g t cs) (ho : w.ownsRow base 41 6 v n xs) (ht : 41 ≠ t) : Lies w' g t cs :=
  h.grown hg (fun e => own_blk_ne ho h ht e.symm)
theorem row_obs13 {w : World} {base : Nat} {A : Option Addr} {c : Nat} {ls : List LO} (h : w.ownsRow base 41 6 (.slice A ls.length c) ls.length (rowOf ls)) (hi : ∀ l ∈ ls, IntsR w l.S l.o.slots) (hn : ∀ l ∈ ls, l.S = none → l.c = 0)
    (hc : ∀ l ∈ ls, l.o.slots.length ≤ l.c) : ObsR w A (ls.map (·.o)) :=
  LaidR.obs ⟨fun hp => by
    obtain ⟨g, cg, hv, hg0, hg1⟩ := h.form hp
    simp only [Value.slice.injEq, true_and] at hv
    obtain ⟨rfl, rfl⟩ := hv
    refine ⟨g, 0, rfl, hg1, fun j u hu => ?_⟩
    have hj : j < ls.length * 6 := by
      have := (List.getElem?_eq_some_iff.1 hu).1
      rwa [rowOf_length] at this
    rw [Nat.zero_add]
    exact (h.cellAt j hj).trans hu, hi, hn⟩ hc
theorem lies_ints13 {w : World} {g : Nat} {l : List Int} {cs : Array Value} (hl : Lies w g 3 cs) (hc : cs.toList = l.map (Value.int .i64)) : IntsR w (some ⟨g, 0, none⟩) l := fun _ => by
  refine ⟨g, 0, rfl, hl.lt, fun j x hx => ?_⟩
  rw [Nat.zero_add, hl.cell, ← Array.getElem?_toList, hc, List.getElem?_map, hx]; rfl
set_option maxHeartbeats 4000000 in
theorem plain_any13 (w : World) : Calls Tryz.prog 37 #[] w fun e w' => ∃ A c, e = .returned (.agg #[.slice A P13.objs.length c, .int .i64 P13.cap, .int .i64 P13.last]) ∧ ObsR w' A P13.objs ∧ Below w.heap.size w w' := by
  obtain ⟨w0, hw0⟩ : ∃ x, x = (w.alloc (.cells #[.slice none 0 0, .int .i64 0, .int .i64 0] 24)).alloc (.cells #[.slice none 0 0, .int .i64 16, .int .i64 0] 24) := ⟨_, rfl⟩
  have HB0 : Hid (Below w.heap.size w w0) := by show Below _ _ _; rw [hw0]; exact below_alloc2 w _ _
  have HK0 : Hid (Lies w0 w.heap.size 24 #[.slice none 0 0, .int .i64 0, .int .i64 0]) := by show Lies _ _ _ _; rw [hw0]; exact (Lies.new w _ _).alloc _
  have HL0 : Hid (Lies w0 (w.heap.size + 1) 24 #[.slice none 0 0, .int .i64 16, .int .i64 0]) := by
    show Lies _ _ _ _
    have := Lies.new (w.alloc (.cells #[.slice none 0 0, .int .i64 0, .int .i64 0] 24)) 24 #[.slice none 0 0, .int .i64 16, .int .i64 0]
    rw [hw0]
    simpa [Hid] using this
  have HO0 : Hid (w0.ownsRow w.heap.size 41 6 (.slice none 0 0) 0 (rowOf (List.replicate 0 zL13))) := World.ownsRow_nil _ _ _ _
  go_enter Tryz.func37, Tryz.ntmps37
  go_wp2_with fail
  rw [← hw0]
  clear hw0
  go_loopw [2] (fun i wr => ∃ (k : Nat) (A : Option Addr) (c : Nat), k ≤ 12 ∧ i = .int .i64 k ∧ Hid (Lies wr w.heap.size 24 #[.slice none 0 0, .int .i64 0, .int .i64 0]) ∧ Hid (Lies wr (w.heap.size + 1) 24 #[.slice A k c, .int .i64 16, .int .i64 0]) ∧ Hid (wr.ownsRow w.heap.size 41 6 (.slice A k c) k (rowOf (List.replicate k zL13))) ∧ Hid (Below w.heap.size w wr)) (fun i _ => 12 - (intOf i).toNat)
  case atStart => exact ⟨0, none, 0, by omega, rfl, HK0, HL0, HO0, HB0⟩
  case round =>
    rename World => w1
    obtain ⟨k, A, c, hk, rfl, HK, HL, HO, HB⟩ := hrel
    clear HK0 HL0 HO0 HB0
    obtain ⟨l0, l1, l2⟩ := HL.out.c3
    obtain ⟨lf0, lf1, lf2⟩ := HL.out.f3
    by_cases hlt : k < 12
    · have hal := below_alloc w1 (.cells #[.int .i64 0, .int .i64 0, .slice none 0 0, .string ⟨#[]⟩, .int .i64 0, .int .i64 0] 41)
      have ho1 := own_later HO.out hal
      obtain ⟨A2, c2, w2, hrun, hO2, hg2⟩ := run_app_row13 (w1.alloc (.cells #[.int .i64 0, .int .i64 0, .slice none 0 0, .string ⟨#[]⟩, .int .i64 0, .int .i64 0] 41)) w.heap.size w1.heap.size A c 1 k 1 (List.replicate k zL13) [zL13] ho1 (by simp) rfl (by omega) (Lies.new w1 41 #[.int .i64 0, .int .i64 0, .slice none 0 0, .string ⟨#[]⟩, .int .i64 0, .int .i64 0]) (Nat.le_trans HB.out.size hal.size)
      rw [← List.replicate_succ'] at hO2
      have HRUN := hid hrun
      have HO2 := hid hO2
      have HK2 := hid (grown_lies13 hg2 (HK.out.later hal) ho1 (by decide))
      have HL2 := hid (grown_lies13 hg2 (HL.out.later hal) ho1 (by decide))
      have HB2 : Hid (Below w.heap.size w w2) := (HB.out.trans (hal.mono HB.out.size)).grown hg2 (Nat.le_trans HB.out.size hal.size) (fun q hq => (ho1.lt q hq).1)
      have hk7 : (k : Int) < 12 := by omega
      clear hal ho1 hrun hO2 hg2
      have p0 := HL2.out.cell 0
      have pf0 := HL2.out.frozen 0
      simp only [List.getElem?_toArray, List.getElem?_cons_zero] at p0
      have HO3 := hid (ownsRow_setCell_other HO2.out (own_blk_ne HO2.out HL2.out (by decide)) (a := ⟨w.heap.size + 1, 0, none⟩) (.slice A2 (k + 1) c2))
      have HK3 := hid (HK2.out.far (p := ⟨w.heap.size + 1, 0, none⟩) (by simp) (.slice A2 (k + 1) c2))
      have HL3 := hid (HL2.out.set_ 0 (.slice A2 (k + 1) c2))
      have HB3 := hid (HB2.out.setCell (p := ⟨w.heap.size + 1, 0, none⟩) (by simp) (.slice A2 (k + 1) c2))
      go_wp2_with (at_builtin; refine wpList_app_run rfl (.tmp 9) (.tmp 11) 22 rfl _ _ HRUN.out ?_)
      go_roundw
      case rel => exact ⟨k + 1, A2, c2, by omega, by go_num, HK3, HL3, HO3, HB3⟩
      case measure => simp [intOf]; omega
    · have e7 : k = 12 := by omega
      subst e7
      have hal : Below w1.heap.size w1 ((w1.alloc (.cells #[.int .i64 0, .int .i64 0, .int .i64 5] 3)).alloc (.cells #[.int .i64 0, .int .i64 0, .slice (some ⟨w1.heap.size, 0, none⟩) 3 3, .string ⟨#[]⟩, .int .i64 0, .int .i64 0, .int .i64 0, .int .i64 1, .slice none 0 0, .string ⟨#[97, 98]⟩, .int .i64 0, .int .i64 0] 41)) := (below_alloc w1 _).alloc (by simp) _
      have ho1 := own_later HO.out hal
      have hb9 : Lies ((w1.alloc (.cells #[.int .i64 0, .int .i64 0, .int .i64 5] 3)).alloc (.cells #[.int .i64 0, .int .i64 0, .slice (some ⟨w1.heap.size, 0, none⟩) 3 3, .string ⟨#[]⟩, .int .i64 0, .int .i64 0, .int .i64 0, .int .i64 1, .slice none 0 0, .string ⟨#[97, 98]⟩, .int .i64 0, .int .i64 0] 41)) (w1.heap.size + 1) 41 #[.int .i64 0, .int .i64 0, .slice (some ⟨w1.heap.size, 0, none⟩) 3 3, .string ⟨#[]⟩, .int .i64 0, .int .i64 0, .int .i64 0, .int .i64 1, .slice none 0 0, .string ⟨#[97, 98]⟩, .int .i64 0, .int .i64 0] := by
        have := Lies.new (w1.alloc (.cells #[.int .i64 0, .int .i64 0, .int .i64 5] 3)) 41 #[.int .i64 0, .int .i64 0, .slice (some ⟨w1.heap.size, 0, none⟩) 3 3, .string ⟨#[]⟩, .int .i64 0, .int .i64 0, .int .i64 0, .int .i64 1, .slice none 0 0, .string ⟨#[97, 98]⟩, .int .i64 0, .int .i64 0]
        simpa using this
      have hi5 : Lies ((w1.alloc (.cells #[.int .i64 0, .int .i64 0, .int .i64 5] 3)).alloc (.cells #[.int .i64 0, .int .i64 0, .slice (some ⟨w1.heap.size, 0, none⟩) 3 3, .string ⟨#[]⟩, .int .i64 0, .int .i64 0, .int .i64 0, .int .i64 1, .slice none 0 0, .string ⟨#[97, 98]⟩, .int .i64 0, .int .i64 0] 41)) w1.heap.size 3 #[.int .i64 0, .int .i64 0, .int .i64 5] := (Lies.new w1 3 #[.int .i64 0, .int .i64 0, .int .i64 5]).alloc _
      obtain ⟨A2, c2, w2, hrun, hO2, hg2⟩ := run_app_row13 ((w1.alloc (.cells #[.int .i64 0, .int .i64 0, .int .i64 5] 3)).alloc (.cells #[.int .i64 0, .int .i64 0, .slice (some ⟨w1.heap.size, 0, none⟩) 3 3, .string ⟨#[]⟩, .int .i64 0, .int .i64 0, .int .i64 0, .int .i64 1, .slice none 0 0, .string ⟨#[97, 98]⟩, .int .i64 0, .int .i64 0] 41)) w.heap.size (w1.heap.size + 1) A c 2 12 2 (List.replicate 12 zL13) [(⟨cO13, some ⟨w1.heap.size, 0, none⟩, 3⟩ : LO), ⟨tO13, none, 0⟩] ho1 (by simp) rfl (by omega) hb9 (Nat.le_trans HB.out.size hal.size)
      have HRUN := hid hrun
      have HO2 := hid hO2
      have HK2 := hid (grown_lies13 hg2 (HK.out.later hal) ho1 (by decide))
      have HL2 := hid (grown_lies13 hg2 (HL.out.later hal) ho1 (by decide))
      have H5 := hid (grown_lies13 hg2 hi5 ho1 (by decide))
      have HB2 : Hid (Below w.heap.size w w2) := (HB.out.trans (hal.mono HB.out.size)).grown hg2 (Nat.le_trans HB.out.size hal.size) (fun q hq => (ho1.lt q hq).1)
      have HW1 : Hid (w.heap.size + 1 < w1.heap.size) := HL.out.lt
      clear hal ho1 hb9 hi5 hrun hO2 hg2
      obtain ⟨p0, p1, p2⟩ := HL2.out.c3
      have pf0 := HL2.out.frozen 0
      have u0 := HK2.out.cell 0
      have u1 := HK2.out.cell 1
      have u2 := HK2.out.cell 2
      have uf0 := HK2.out.frozen 0
      have uf1 := HK2.out.frozen 1
      have uf2 := HK2.out.frozen 2
      simp only [List.getElem?_toArray, List.getElem?_cons_zero, List.getElem?_cons_succ] at u0 u1 u2
      go_wp2_with (at_builtin; refine wpList_app_run rfl (.tmp 15) (.tmp 19) 22 rfl _ _ HRUN.out ?_)
      have HL3 := HL2.out.set_ 0 (.slice A2 14 c2)
      have HK3 := HK2.out.far (p := ⟨w.heap.size + 1, 0, none⟩) (by simp) (.slice A2 14 c2)
      have K1 := HK3.set_ 0 (.slice A2 14 c2)
      have K2 := K1.set_ 1 (.int .i64 16)
      have K3 := K2.set_ 2 (.int .i64 0)
      have r0 := K3.cell 0
      have r1 := K3.cell 1
      have r2 := K3.cell 2
      simp only [List.setIfInBounds_toArray, List.set_cons_zero, List.set_cons_succ, List.getElem?_toArray, List.getElem?_cons_zero, List.getElem?_cons_succ] at r0 r1 r2
      refine bodyPost_ret (v := .agg #[.slice A2 14 c2, .int .i64 16, .int .i64 0]) (by simp [results, Tryz.results37, go_sem, r0, r1, r2]) rfl ?_
      have o1 := ownsRow_setCell_other HO2.out (own_blk_ne HO2.out HL2.out (by decide)) (a := ⟨w.heap.size + 1, 0, none⟩) (.slice A2 14 c2)
      have o2 := ownsRow_setCell_other o1 (own_blk_ne o1 HK3 (by decide)) (a := ⟨w.heap.size, 0, none⟩) (.slice A2 14 c2)
      have o3 := ownsRow_setCell_other o2 (own_blk_ne o2 K1 (by decide)) (a := ⟨w.heap.size, 1, none⟩) (.int .i64 16)
      have o4 := ownsRow_setCell_other o3 (own_blk_ne o3 K2 (by decide)) (a := ⟨w.heap.size, 2, none⟩) (.int .i64 0)
      have n1 : w1.heap.size ≠ w.heap.size + 1 := by have := HW1.out; omega
      have n2 : w1.heap.size ≠ w.heap.size := by have := HW1.out; omega
      have i5 := (((H5.out.far (p := ⟨w.heap.size + 1, 0, none⟩) n1 (.slice A2 14 c2)).far (p := ⟨w.heap.size, 0, none⟩) n2 (.slice A2 14 c2)).far (p := ⟨w.heap.size, 1, none⟩) n2 (.int .i64 16)).far (p := ⟨w.heap.size, 2, none⟩) n2 (.int .i64 0)
      have HBE := (((HB2.out.setCell (p := ⟨w.heap.size + 1, 0, none⟩) (by simp) (.slice A2 14 c2)).setCell (p := ⟨w.heap.size, 0, none⟩) (by simp) (.slice A2 14 c2)).setCell (p := ⟨w.heap.size, 1, none⟩) (by simp) (.int .i64 16)).setCell (p := ⟨w.heap.size, 2, none⟩) (by simp) (.int .i64 0)
      refine ⟨A2, c2, rfl, ?_, HBE⟩
      refine row_obs13 (ls := List.replicate 12 zL13 ++ [(⟨cO13, some ⟨w1.heap.size, 0, none⟩, 3⟩ : LO), ⟨tO13, none, 0⟩]) o4 ?_ ?_ ?_
      · intro l hl
        rcases List.mem_append.1 hl with hl | hl
        · rw [List.eq_of_mem_replicate hl]; exact fun h => absurd h (by decide)
        · simp only [List.mem_cons, List.not_mem_nil, or_false] at hl
          rcases hl with rfl | rfl
          · exact lies_ints13 i5 rfl
          · exact fun h => absurd h (by decide)
      · intro l hl
        rcases List.mem_append.1 hl with hl | hl
        · rw [List.eq_of_mem_replicate hl]; exact fun _ => rfl
        · simp only [List.mem_cons, List.not_mem_nil, or_false] at hl
          rcases hl with rfl | rfl
          · intro h; cases h
          · exact fun _ => rfl
      · intro l hl
        rcases List.mem_append.1 hl with hl | hl
        · rw [List.eq_of_mem_replicate hl]; decide
        · simp only [List.mem_cons, List.not_mem_nil, or_false] at hl
          rcases hl with rfl | rfl
          · exact Nat.le_refl 3
          · exact Nat.le_refl 0
end Go.Proofs.YtnilempeldlieaaGreat
namespace Go.Proofs.YtnilempeldlieaaGreat
open Go.RowKit Flt
set_option maxRecDepth 100000
def K1_13 : Hp := (do13 P13 11 24 []).1
def K2_13 : Hp := (do13 K1_13 20 3 [1]).1
theorem x1_13 : (do13 P13 1 7 [9]).2.1 = 15 ∧ (do13 P13 1 7 [9]).2.2 = 0 := by decide +kernel
theorem x2_13 : (do13 P13 4 (-13) [5]).2.1 = -7 ∧ (do13 P13 4 (-13) [5]).2.2 = 0 := by decide +kernel
theorem x3_13 : (do13 P13 3 2147483647 [5]).2.2 = 130 := by decide +kernel
theorem x4_13 : (do13 P13 11 24 []).2.1 = 28 ∧ (do13 P13 11 24 []).2.2 = 0 := by decide +kernel
theorem x5_13 : (do13 K1_13 20 3 [1]).2.1 = 30 ∧ (do13 K1_13 20 3 [1]).2.2 = 0 := by decide +kernel
theorem x6_13 : (do13 K2_13 25 26 [5]).2.1 = 197 ∧ (do13 K2_13 25 26 [5]).2.2 = 0 := by decide +kernel
theorem x7_13 : (do13 K2_13 16 0 [26]).2.2 = 130 := by decide +kernel
theorem x8_13 : (do13 K2_13 11 24 []).2.2 = 30 := by decide +kernel
theorem x9_13 : (((ar13 9).getD 0 : Nat) : Int) = 2 ∧ (ar13 9).isSome = true := by decide +kernel
theorem x10_13 : (ar13 28).isSome = false := by decide +kernel
theorem k2_len13 : K2_13.objs.length = 16 := by decide +kernel
theorem k2_bits13 : ∃ o, K2_13.objs[15]? = some o ∧ o.bits = 9218868437227405312 := by
  refine ⟨K2_13.objs[15]'(by rw [k2_len13]; decide), List.getElem?_eq_getElem _, ?_⟩
  decide +kernel
theorem fit_p13 : P13.Fit := may_fit (by decide +kernel)
theorem fit_k1_13 : K1_13.Fit := may_fit (by decide +kernel)
theorem fit_k2_13 : K2_13.Fit := may_fit (by decide +kernel)
theorem wd_all13 {os : List Ob} (h : os.all (fun o => decide (-9223372036854775808 ≤ o.bits ∧ o.bits < 9223372036854775808)) = true) : ∀ o ∈ os, In64 o.bits := fun o ho => of_decide_eq_true (p := -9223372036854775808 ≤ o.bits ∧ o.bits < 9223372036854775808) (List.all_eq_true.1 h o ho)
theorem wd_p13 : ∀ o ∈ P13.objs, In64 o.bits := wd_all13 (by decide +kernel)
theorem wd_k1_13 : ∀ o ∈ K1_13.objs, In64 o.bits := wd_all13 (by decide +kernel)
theorem wd_k2_13 : ∀ o ∈ K2_13.objs, In64 o.bits := wd_all13 (by decide +kernel)
set_option maxHeartbeats 4000000 in
theorem fixed13_any (w : World) : Calls Tryz.prog 19 #[] w fun e w' => e = .returned (.bool true) ∧ Below w.heap.size w w' := by
  go_enter Tryz.func19, Tryz.ntmps19
  go_wp2_with fail
  refine (plain_any13 w).mono ?_
  rintro e w1 ⟨A1, c1, rfl, ob1, hb⟩
  have HB1 := hid hb
  clear hb
  have O1 := hid ob1
  clear ob1
  go_upto_region 2 with fail
  obtain ⟨w2, hw⟩ : ∃ x, x = w1.alloc (.cells #[.slice A1 P13.objs.length c1, .int .i64 P13.cap, .int .i64 P13.last] 24) := ⟨_, rfl⟩
  obtain ⟨bh, hbx⟩ : ∃ x, x = w1.heap.size := ⟨_, rfl⟩
  have H2 : Hid (Lies w2 bh 24 #[.slice A1 P13.objs.length c1, .int .i64 P13.cap, .int .i64 P13.last]) := by show Lies _ _ _ _; rw [hw, hbx]; exact Lies.new _ _ _
  have hb : Below w1.heap.size w1 w2 := by rw [hw]; exact below_alloc _ _
  rw [← hw, ← hbx]
  have at_H : Hid (bh = w1.heap.size) := hbx
  have le_HB_H : Hid (w.heap.size ≤ bh) := by show _ ≤ _; rw [hbx]; exact HB1.out.size
  clear hbx hw
  have HB2 := hid (then_w HB1.out hb)
  have O2 := hid (O1.out.below hb)
  clear hb
  clear HB1 O1
  obtain ⟨x0, x1, x2⟩ := H2.out.c3
  go_wp2_with fail
  obtain ⟨w3, hw⟩ : ∃ x, x = w2.alloc (.cells #[.int .i64 9] 3) := ⟨_, rfl⟩
  obtain ⟨b3, hbx⟩ : ∃ x, x = w2.heap.size := ⟨_, rfl⟩
  have hb : Below w2.heap.size w2 w3 := by rw [hw]; exact below_alloc _ _
  have hl : Lies w3 b3 3 #[.int .i64 9] := by rw [hw, hbx]; exact Lies.new _ _ _
  rw [← hw, ← hbx]
  clear hw hbx
  clear x0 x1 x2
  have HB3 := hid (then_w HB2.out hb)
  have H3 := hid (H2.out.later hb)
  have O3 := hid (O2.out.below hb)
  clear hb
  clear HB2 H2 O2
  refine (cdo_any13 P13 1 7 [9] (some ⟨b3, 0, none⟩) 1 A1 c1 _ O3.out fit_p13 (lies_ints13 hl rfl) (by decide) wd_p13).mono ?_
  rintro e w4 ⟨A2, c2, rfl, -, hb⟩
  rw [x1_13.1, x1_13.2]
  clear hl
  have HB4 := hid (then_w HB3.out hb)
  have H4 := hid (H3.out.later hb)
  have O4 := hid (O3.out.below hb)
  clear hb
  clear HB3 H3 O3
  go_upto_region 3 with fail
  obtain ⟨w5, hw⟩ : ∃ x, x = w4.alloc (.cells #[.slice A2 (do13 P13 1 7 [9]).1.objs.length c2, .int .i64 (do13 P13 1 7 [9]).1.cap, .int .i64 (do13 P13 1 7 [9]).1.last] 24) := ⟨_, rfl⟩
  have hb : Below w4.heap.size w4 w5 := by rw [hw]; exact below_alloc _ _
  rw [← hw]
  clear hw
  have HB5 := hid (then_w HB4.out hb)
  have H5 := hid (H4.out.later hb)
  have O5 := hid (O4.out.below hb)
  clear hb
  clear HB4 H4 O4
  obtain ⟨x0, x1, x2⟩ := H5.out.c3
  go_wp2_with fail
  obtain ⟨w6, hw⟩ : ∃ x, x = w5.alloc (.cells #[.int .i64 5] 3) := ⟨_, rfl⟩
  obtain ⟨b6, hbx⟩ : ∃ x, x = w5.heap.size := ⟨_, rfl⟩
  have hb : Below w5.heap.size w5 w6 := by rw [hw]; exact below_alloc _ _
  have hl : Lies w6 b6 3 #[.int .i64 5] := by rw [hw, hbx]; exact Lies.new _ _ _
  rw [← hw, ← hbx]
  clear hw hbx
  clear x0 x1 x2
  have HB6 := hid (then_w HB5.out hb)
  have H6 := hid (H5.out.later hb)
  have O6 := hid (O5.out.below hb)
  clear hb
  clear HB5 H5 O5
  refine (cdo_any13 P13 4 (-13) [5] (some ⟨b6, 0, none⟩) 1 A1 c1 _ O6.out fit_p13 (lies_ints13 hl rfl) (by decide) wd_p13).mono ?_
  rintro e w7 ⟨A3, c3, rfl, -, hb⟩
  rw [x2_13.1, x2_13.2]
  clear hl
  have HB7 := hid (then_w HB6.out hb)
  have H7 := hid (H6.out.later hb)
  have O7 := hid (O6.out.below hb)
  clear hb
  clear HB6 H6 O6
  go_upto_region 4 with fail
  obtain ⟨w8, hw⟩ : ∃ x, x = w7.alloc (.cells #[.slice A3 (do13 P13 4 (-13) [5]).1.objs.length c3, .int .i64 (do13 P13 4 (-13) [5]).1.cap, .int .i64 (do13 P13 4 (-13) [5]).1.last] 24) := ⟨_, rfl⟩
  have hb : Below w7.heap.size w7 w8 := by rw [hw]; exact below_alloc _ _
  rw [← hw]
  clear hw
  have HB8 := hid (then_w HB7.out hb)
  have H8 := hid (H7.out.later hb)
  have O8 := hid (O7.out.below hb)
  clear hb
  clear HB7 H7 O7
  obtain ⟨x0, x1, x2⟩ := H8.out.c3
  go_wp2_with fail
  obtain ⟨w9, hw⟩ : ∃ x, x = w8.alloc (.cells #[.int .i64 5] 3) := ⟨_, rfl⟩
  obtain ⟨b9, hbx⟩ : ∃ x, x = w8.heap.size := ⟨_, rfl⟩
  have hb : Below w8.heap.size w8 w9 := by rw [hw]; exact below_alloc _ _
  have hl : Lies w9 b9 3 #[.int .i64 5] := by rw [hw, hbx]; exact Lies.new _ _ _
  rw [← hw, ← hbx]
  clear hw hbx
  clear x0 x1 x2
  have HB9 := hid (then_w HB8.out hb)
  have H9 := hid (H8.out.later hb)
  have O9 := hid (O8.out.below hb)
  clear hb
  clear HB8 H8 O8
  refine (cdo_any13 P13 3 2147483647 [5] (some ⟨b9, 0, none⟩) 1 A1 c1 _ O9.out fit_p13 (lies_ints13 hl rfl) (by decide) wd_p13).mono ?_
  rintro e w10 ⟨A4, c4, rfl, -, hb⟩
  rw [x3_13]
  clear hl
  have HB10 := hid (then_w HB9.out hb)
  have H10 := hid (H9.out.later hb)
  have O10 := hid (O9.out.below hb)
  clear hb
  clear HB9 H9 O9
  go_upto_region 5 with fail
  obtain ⟨w11, hw⟩ : ∃ x, x = w10.alloc (.cells #[.slice A4 (do13 P13 3 2147483647 [5]).1.objs.length c4, .int .i64 (do13 P13 3 2147483647 [5]).1.cap, .int .i64 (do13 P13 3 2147483647 [5]).1.last] 24) := ⟨_, rfl⟩
  have hb : Below w10.heap.size w10 w11 := by rw [hw]; exact below_alloc _ _
  rw [← hw]
  clear hw
  have HB11 := hid (then_w HB10.out hb)
  have H11 := hid (H10.out.later hb)
  have O11 := hid (O10.out.below hb)
  clear hb
  clear HB10 H10 O10
  obtain ⟨x0, x1, x2⟩ := H11.out.c3
  go_wp2_with fail
  clear x0 x1 x2
  refine (cdo_any13 P13 11 24 [] none 0 A1 c1 _ O11.out fit_p13 (fun h => absurd h (by decide)) (by decide) wd_p13).mono ?_
  rintro e w12 ⟨A5, c5, rfl, ⟨l5, ho5, hm5⟩, hb⟩
  rw [x4_13.1, x4_13.2, show (do13 P13 11 24 []).1 = K1_13 from rfl]
  have QM5 : Hid (l5.map (·.o) = K1_13.objs) := hm5
  clear hm5
  have HB12 := hid (then_w HB11.out hb)
  have H12 := hid (H11.out.later hb)
  have O12 := hid (O11.out.below hb)
  clear hb
  clear HB11 H11 O11
  have Q12 := hid ho5
  clear ho5
  go_upto_region 6 with fail
  obtain ⟨w13, hw⟩ : ∃ x, x = w12.alloc (.cells #[.slice A5 K1_13.objs.length c5, .int .i64 K1_13.cap, .int .i64 K1_13.last] 24) := ⟨_, rfl⟩
  obtain ⟨bk, hbx⟩ : ∃ x, x = w12.heap.size := ⟨_, rfl⟩
  have K13 : Hid (Lies w13 bk 24 #[.slice A5 K1_13.objs.length c5, .int .i64 K1_13.cap, .int .i64 K1_13.last]) := by show Lies _ _ _ _; rw [hw, hbx]; exact Lies.new _ _ _
  have hb : Below w12.heap.size w12 w13 := by rw [hw]; exact below_alloc _ _
  rw [← hw, ← hbx]
  have ne_H_K : Hid (bh ≠ bk) := by show _ ≠ _; rw [hbx]; exact Nat.ne_of_lt H12.out.lt
  have at_K : Hid (bk = w12.heap.size) := hbx
  have le_HB_K : Hid (w.heap.size ≤ bk) := by show _ ≤ _; rw [hbx]; exact HB12.out.size
  clear hbx hw
  have HB13 := hid (then_w HB12.out hb)
  have H13 := hid (H12.out.later hb)
  have Q13 := hid (Q12.out.later hb)
  have O13 := hid (O12.out.below hb)
  clear hb
  clear HB12 H12 Q12 O12
  obtain ⟨y0, y1, y2⟩ := K13.out.c3
  go_wp2_with fail
  obtain ⟨w14, hw⟩ : ∃ x, x = w13.alloc (.cells #[.int .i64 1] 3) := ⟨_, rfl⟩
  obtain ⟨b14, hbx⟩ : ∃ x, x = w13.heap.size := ⟨_, rfl⟩
  have hb : Below w13.heap.size w13 w14 := by rw [hw]; exact below_alloc _ _
  have hl : Lies w14 b14 3 #[.int .i64 1] := by rw [hw, hbx]; exact Lies.new _ _ _
  rw [← hw, ← hbx]
  clear hw hbx
  clear y0 y1 y2
  have HB14 := hid (then_w HB13.out hb)
  have H14 := hid (H13.out.later hb)
  have K14 := hid (K13.out.later hb)
  have Q14 := hid (Q13.out.later hb)
  have O14 := hid (O13.out.below hb)
  clear hb
  clear HB13 H13 K13 Q13 O13
  refine (cdo_any13 K1_13 20 3 [1] (some ⟨b14, 0, none⟩) 1 A5 c5 _ (own_obs Q14.out QM5.out) fit_k1_13 (lies_ints13 hl rfl) (by decide) wd_k1_13).mono ?_
  rintro e w15 ⟨A6, c6, rfl, ⟨l6, ho6, hm6⟩, hb⟩
  rw [x5_13.1, x5_13.2, show (do13 K1_13 20 3 [1]).1 = K2_13 from rfl]
  have QM6 : Hid (l6.map (·.o) = K2_13.objs) := hm6
  clear hm6
  clear hl
  have HB15 := hid (then_w HB14.out hb)
  have H15 := hid (H14.out.later hb)
  have K15 := hid (K14.out.later hb)
  have Q15 := hid (Q14.out.later hb)
  have O15 := hid (O14.out.below hb)
  clear hb
  clear HB14 H14 K14 Q14 O14
  clear Q15
  have Q15 := hid ho6
  clear ho6
  obtain ⟨y0, y1, y2⟩ := K15.out.c3
  obtain ⟨yf0, yf1, yf2⟩ := K15.out.f3
  go_upto_region 7 with fail
  obtain ⟨w16, hw⟩ : ∃ x, x = (((w15.setCell ⟨bk, 0, none⟩ (.slice A6 K2_13.objs.length c6)).setCell ⟨bk, 1, none⟩ (.int .i64 K2_13.cap)).setCell ⟨bk, 2, none⟩ (.int .i64 K2_13.last)) := ⟨_, rfl⟩
  have HB16 : Hid (Below w.heap.size w w16) := by show Below _ _ _; rw [hw]; exact (((HB15.out.setCell (p := ⟨bk, 0, none⟩) le_HB_K.out (.slice A6 K2_13.objs.length c6)).setCell (p := ⟨bk, 1, none⟩) le_HB_K.out (.int .i64 K2_13.cap)).setCell (p := ⟨bk, 2, none⟩) le_HB_K.out (.int .i64 K2_13.last))
  have Q16 : Hid (OwnH w16 w14.heap.size A6 c6 l6) := by show OwnH _ _ _ _ _; rw [hw]; exact (((Q15.out.off K15.out 0 (.slice A6 K2_13.objs.length c6)).off (K15.out.set_ 0 (.slice A6 K2_13.objs.length c6)) 1 (.int .i64 K2_13.cap)).off ((K15.out.set_ 0 (.slice A6 K2_13.objs.length c6)).set_ 1 (.int .i64 K2_13.cap)) 2 (.int .i64 K2_13.last))
  have H16 : Hid (Lies w16 bh 24 #[.slice A1 P13.objs.length c1, .int .i64 P13.cap, .int .i64 P13.last]) := by show Lies _ _ _ _; rw [hw]; exact (((H15.out.far (p := ⟨bk, 0, none⟩) (ne_H_K.out) (.slice A6 K2_13.objs.length c6)).far (p := ⟨bk, 1, none⟩) (ne_H_K.out) (.int .i64 K2_13.cap)).far (p := ⟨bk, 2, none⟩) (ne_H_K.out) (.int .i64 K2_13.last))
  have K16 : Hid (Lies w16 bk 24 #[.slice A6 K2_13.objs.length c6, .int .i64 K2_13.cap, .int .i64 K2_13.last]) := by show Lies _ _ _ _; rw [hw]; exact (((K15.out.set_ 0 (.slice A6 K2_13.objs.length c6)).set_ 1 (.int .i64 K2_13.cap)).set_ 2 (.int .i64 K2_13.last))
  rw [← hw]
  clear hw
  clear yf0 yf1 yf2 y0 y1 y2
  clear HB15 H15 K15 Q15 O15
  obtain ⟨y0, y1, y2⟩ := K16.out.c3
  go_wp2_with fail
  obtain ⟨w17, hw⟩ : ∃ x, x = w16.alloc (.cells #[.int .i64 5] 3) := ⟨_, rfl⟩
  obtain ⟨b17, hbx⟩ : ∃ x, x = w16.heap.size := ⟨_, rfl⟩
  have hb : Below w16.heap.size w16 w17 := by rw [hw]; exact below_alloc _ _
  have hl : Lies w17 b17 3 #[.int .i64 5] := by rw [hw, hbx]; exact Lies.new _ _ _
  rw [← hw, ← hbx]
  clear hw hbx
  clear y0 y1 y2
  have HB17 := hid (then_w HB16.out hb)
  have H17 := hid (H16.out.later hb)
  have K17 := hid (K16.out.later hb)
  have Q17 := hid (Q16.out.later hb)
  clear hb
  clear HB16 H16 K16 Q16
  refine (cdo_any13 K2_13 25 26 [5] (some ⟨b17, 0, none⟩) 1 A6 c6 _ (own_obs Q17.out QM6.out) fit_k2_13 (lies_ints13 hl rfl) (by decide) wd_k2_13).mono ?_
  rintro e w18 ⟨A7, c7, rfl, -, hb⟩
  rw [x6_13.1, x6_13.2]
  clear hl
  have HB18 := hid (then_w HB17.out hb)
  have H18 := hid (H17.out.later hb)
  have K18 := hid (K17.out.later hb)
  have Q18 := hid (Q17.out.later hb)
  clear hb
  clear HB17 H17 K17 Q17
  go_upto_region 8 with fail
  obtain ⟨w19, hw⟩ : ∃ x, x = w18.alloc (.cells #[.slice A7 (do13 K2_13 25 26 [5]).1.objs.length c7, .int .i64 (do13 K2_13 25 26 [5]).1.cap, .int .i64 (do13 K2_13 25 26 [5]).1.last] 24) := ⟨_, rfl⟩
  have hb : Below w18.heap.size w18 w19 := by rw [hw]; exact below_alloc _ _
  rw [← hw]
  clear hw
  have HB19 := hid (then_w HB18.out hb)
  have H19 := hid (H18.out.later hb)
  have K19 := hid (K18.out.later hb)
  have Q19 := hid (Q18.out.later hb)
  clear hb
  clear HB18 H18 K18 Q18
  obtain ⟨y0, y1, y2⟩ := K19.out.c3
  go_wp2_with fail
  obtain ⟨w20, hw⟩ : ∃ x, x = w19.alloc (.cells #[.int .i64 26] 3) := ⟨_, rfl⟩
  obtain ⟨b20, hbx⟩ : ∃ x, x = w19.heap.size := ⟨_, rfl⟩
  have hb : Below w19.heap.size w19 w20 := by rw [hw]; exact below_alloc _ _
  have hl : Lies w20 b20 3 #[.int .i64 26] := by rw [hw, hbx]; exact Lies.new _ _ _
  rw [← hw, ← hbx]
  clear hw hbx
  clear y0 y1 y2
  have HB20 := hid (then_w HB19.out hb)
  have H20 := hid (H19.out.later hb)
  have K20 := hid (K19.out.later hb)
  have Q20 := hid (Q19.out.later hb)
  clear hb
  clear HB19 H19 K19 Q19
  refine (cdo_any13 K2_13 16 0 [26] (some ⟨b20, 0, none⟩) 1 A6 c6 _ (own_obs Q20.out QM6.out) fit_k2_13 (lies_ints13 hl rfl) (by decide) wd_k2_13).mono ?_
  rintro e w21 ⟨A8, c8, rfl, -, hb⟩
  rw [x7_13]
  clear hl
  have HB21 := hid (then_w HB20.out hb)
  have H21 := hid (H20.out.later hb)
  have K21 := hid (K20.out.later hb)
  have Q21 := hid (Q20.out.later hb)
  clear hb
  clear HB20 H20 K20 Q20
  go_upto_region 9 with fail
  obtain ⟨w22, hw⟩ : ∃ x, x = w21.alloc (.cells #[.slice A8 (do13 K2_13 16 0 [26]).1.objs.length c8, .int .i64 (do13 K2_13 16 0 [26]).1.cap, .int .i64 (do13 K2_13 16 0 [26]).1.last] 24) := ⟨_, rfl⟩
  have hb : Below w21.heap.size w21 w22 := by rw [hw]; exact below_alloc _ _
  rw [← hw]
  clear hw
  have HB22 := hid (then_w HB21.out hb)
  have H22 := hid (H21.out.later hb)
  have K22 := hid (K21.out.later hb)
  have Q22 := hid (Q21.out.later hb)
  clear hb
  clear HB21 H21 K21 Q21
  obtain ⟨y0, y1, y2⟩ := K22.out.c3
  go_wp2_with fail
  clear y0 y1 y2
  refine (cdo_any13 K2_13 11 24 [] none 0 A6 c6 _ (own_obs Q22.out QM6.out) fit_k2_13 (fun h => absurd h (by decide)) (by decide) wd_k2_13).mono ?_
  rintro e w23 ⟨A9, c9, rfl, -, hb⟩
  rw [x8_13]
  have HB23 := hid (then_w HB22.out hb)
  have H23 := hid (H22.out.later hb)
  have K23 := hid (K22.out.later hb)
  have Q23 := hid (Q22.out.later hb)
  clear hb
  clear HB22 H22 K22 Q22
  go_upto_region 10 with fail
  obtain ⟨w24, hw⟩ : ∃ x, x = w23.alloc (.cells #[.slice A9 (do13 K2_13 11 24 []).1.objs.length c9, .int .i64 (do13 K2_13 11 24 []).1.cap, .int .i64 (do13 K2_13 11 24 []).1.last] 24) := ⟨_, rfl⟩
  have hb : Below w23.heap.size w23 w24 := by rw [hw]; exact below_alloc _ _
  rw [← hw]
  clear hw
  have HB24 := hid (then_w HB23.out hb)
  have H24 := hid (H23.out.later hb)
  have K24 := hid (K23.out.later hb)
  have Q24 := hid (Q23.out.later hb)
  clear hb
  clear HB23 H23 K23 Q23
  go_wp2_with fail
  refine (cargs_any13 9 _).mono ?_
  rintro e w25 ⟨rfl, hb⟩
  rw [x9_13.1, x9_13.2]
  have HB25 := hid (then_w HB24.out hb)
  have H25 := hid (H24.out.later hb)
  have K25 := hid (K24.out.later hb)
  have Q25 := hid (Q24.out.later hb)
  clear hb
  clear HB24 H24 K24 Q24
  go_wp2_with fail
  refine (cargs_any13 28 _).mono ?_
  rintro e w26 ⟨rfl, hb⟩
  rw [x10_13]
  have HB26 := hid (then_w HB25.out hb)
  have H26 := hid (H25.out.later hb)
  have K26 := hid (K25.out.later hb)
  have Q26 := hid (Q25.out.later hb)
  clear hb
  clear HB25 H25 K25 Q25
  obtain ⟨o, ho, hbits⟩ := k2_bits13
  have hs := own_obs Q26.out QM6.out
  obtain ⟨b, off, rfl, hlt, hc⟩ := hs (by rw [k2_len13]; decide)
  obtain ⟨S, d, h1, -, -, -⟩ := hc 15 o ho
  obtain ⟨-, -, -, -, z4, -⟩ := h1
  rw [hbits] at z4
  clear hs hlt hc ho hbits
  obtain ⟨y0, y1, y2⟩ := K26.out.c3
  rw [k2_len13] at y0
  go_wp2_with fail
  go_ret
  exact ⟨rfl, HB26.out⟩
end Go.Proofs.YtnilempeldlieaaGreat
