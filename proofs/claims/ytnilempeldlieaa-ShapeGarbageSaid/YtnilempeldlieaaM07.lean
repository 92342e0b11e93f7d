/- Stores into a box of a state: what lies beside it. The state of the calls whose answers are fixed. The program on states: whether one may be. Small words: a row of ints of the call's own; one cell. Appending one number to a list of the call's own. -/
import Derived.Test.YtnilempeldlieaaM06
import Derived.Test.YtnilempeldlieaaM04
import Derived.Test.YtnilempeldlieaaM02
import Derived.Test.YtnilempeldlieaaM03
import Derived.Test.YtnilempeldlieaaWY
namespace Go.Proofs.Ytnilempeldlieaa
open Go.RowKit
set_option maxRecDepth 100000
theorem own_off15 {w : World} {base g : Nat} {t e : TypeId} {size n : Nat} {v : Value} {xs : List Value} {cs : Array Value} (h : w.ownsRow base e size v n xs) (hB : Lies w g t cs) (he : e ≠ t) (o : Nat) (u : Value) : (w.setCell ⟨g, o, none⟩ u).ownsRow base e size v n xs := ownsRow_setCell_other h (own_blk_ne h hB he) _
theorem OwnH.off15 {w : World} {base g : Nat} {t : TypeId} {A : Option Addr} {c : Nat} {ls : List LO} {cs : Array Value} (h : OwnH w base A c ls) (hB : Lies w g t cs) (h1 : 39 ≠ t) (h2 : 3 ≠ t) (o : Nat) (u : Value) : OwnH (w.setCell ⟨g, o, none⟩ u) base A c ls :=
  ⟨ownsRow_setCell_other h.row (own_blk_ne h.row hB h1) _, fun i l hl => ownsRow_setCell_other (h.ints i l hl) (own_blk_ne (h.ints i l hl) hB h2) _, h.apart⟩
/-- a world whose block g, a state's, has been stored into, from cell i on -/
def sets15 (w : World) (g : Nat) : Nat → List Value → World
  | _, [] => w
  | i, v :: l => sets15 (w.setCell ⟨g, i, none⟩ v) g (i + 1) l
theorem OwnH.sets15 {base g : Nat} {t : TypeId} {A : Option Addr} {c : Nat} {ls : List LO} (h1 : 39 ≠ t) (h2 : 3 ≠ t) : ∀ (l : List Value) (i : Nat) {w : World} {cs : Array Value}, OwnH w base A c ls → Lies w g t cs → OwnH (sets15 w g i l) base A c ls
  | [], _, _, _, h, _ => h
  | v :: l, i, _, _, h, hB => OwnH.sets15 h1 h2 l (i + 1) (h.off15 hB h1 h2 i v) (hB.set_ i v)
theorem own_sets15 {base g : Nat} {t e : TypeId} {size n : Nat} {v : Value} {xs : List Value} (h1 : e ≠ t) : ∀ (l : List Value) (i : Nat) {w : World} {cs : Array Value}, w.ownsRow base e size v n xs → Lies w g t cs → (sets15 w g i l).ownsRow base e size v n xs
  | [], _, _, _, h, _ => h
  | u :: l, i, _, _, h, hB => own_sets15 h1 l (i + 1) (own_off15 h hB h1 i u) (hB.set_ i u)
theorem Below.sets15 {n g : Nat} (hg : n ≤ g) : ∀ (l : List Value) (i : Nat) {w w' : World}, Below n w w' → Below n w (sets15 w' g i l)
  | [], _, _, _, h => h
  | v :: l, i, _, _, h => Below.sets15 hg l (i + 1) (h.setCell (p := ⟨g, i, none⟩) hg v)
theorem Lies.sets15_far {g k : Nat} {t : TypeId} {cs : Array Value} (hne : k ≠ g) : ∀ (l : List Value) (i : Nat) {w : World}, Lies w k t cs → Lies (sets15 w g i l) k t cs
  | [], _, _, h => h
  | v :: l, i, _, h => Lies.sets15_far hne l (i + 1) (h.far (p := ⟨g, i, none⟩) hne v)
theorem Lies.sets15_at {g : Nat} {t : TypeId} : ∀ (l : List Value) (i : Nat) {w : World} {cs : Array Value}, Lies w g t cs → Lies (sets15 w g i l) g t (((l.zipIdx i).foldl (fun a p => a.setIfInBounds p.2 p.1) cs))
  | [], _, _, _, h => h
  | v :: l, i, _, _, h => Lies.sets15_at l (i + 1) (h.set_ i v)
theorem Lies.s8_15 {w : World} {g : Nat} {t : TypeId} {a0 a1 a2 a3 a4 a5 a6 a7 : Value} (h : Lies w g t #[a0, a1, a2, a3, a4, a5, a6, a7]) (v0 v1 v2 v3 v4 v5 v6 v7 : Value) : Lies (sets15 w g 0 [v0, v1, v2, v3, v4, v5, v6, v7]) g t #[v0, v1, v2, v3, v4, v5, v6, v7] := by
  have := Lies.sets15_at [v0, v1, v2, v3, v4, v5, v6, v7] 0 h
  simpa only [List.zipIdx, List.foldl, List.setIfInBounds_toArray, List.set_cons_zero, List.set_cons_succ, Nat.zero_add, Nat.reduceAdd] using this
theorem Lies.s5_15 {w : World} {g : Nat} {t : TypeId} {a0 a1 a2 a3 a4 a5 a6 a7 : Value} (h : Lies w g t #[a0, a1, a2, a3, a4, a5, a6, a7]) (v0 v1 v2 v3 v4 : Value) : Lies (sets15 w g 0 [v0, v1, v2, v3, v4]) g t #[v0, v1, v2, v3, v4, a5, a6, a7] := by
  have := Lies.sets15_at [v0, v1, v2, v3, v4] 0 h
  simpa only [List.zipIdx, List.foldl, List.setIfInBounds_toArray, List.set_cons_zero, List.set_cons_succ, Nat.zero_add, Nat.reduceAdd] using this
theorem Lies.s3_15 {w : World} {g : Nat} {t : TypeId} {a0 a1 a2 a3 a4 a5 a6 a7 : Value} (h : Lies w g t #[a0, a1, a2, a3, a4, a5, a6, a7]) (v0 v1 v2 : Value) : Lies (sets15 w g 0 [v0, v1, v2]) g t #[v0, v1, v2, a3, a4, a5, a6, a7] := by
  have := Lies.sets15_at [v0, v1, v2] 0 h
  simpa only [List.zipIdx, List.foldl, List.setIfInBounds_toArray, List.set_cons_zero, List.set_cons_succ, Nat.zero_add, Nat.reduceAdd] using this
theorem Lies.s1at3_15 {w : World} {g : Nat} {t : TypeId} {a0 a1 a2 a3 a4 a5 a6 a7 : Value} (h : Lies w g t #[a0, a1, a2, a3, a4, a5, a6, a7]) (v0 : Value) : Lies (sets15 w g 3 [v0]) g t #[a0, a1, a2, v0, a4, a5, a6, a7] := by
  have := Lies.sets15_at [v0] 3 h
  simpa only [List.zipIdx, List.foldl, List.setIfInBounds_toArray, List.set_cons_zero, List.set_cons_succ, Nat.zero_add, Nat.reduceAdd] using this
theorem Lies.s1at4_15 {w : World} {g : Nat} {t : TypeId} {a0 a1 a2 a3 a4 a5 a6 a7 : Value} (h : Lies w g t #[a0, a1, a2, a3, a4, a5, a6, a7]) (v0 : Value) : Lies (sets15 w g 4 [v0]) g t #[a0, a1, a2, a3, v0, a5, a6, a7] := by
  have := Lies.sets15_at [v0] 4 h
  simpa only [List.zipIdx, List.foldl, List.setIfInBounds_toArray, List.set_cons_zero, List.set_cons_succ, Nat.zero_add, Nat.reduceAdd] using this
theorem Lies.s1at6_15 {w : World} {g : Nat} {t : TypeId} {a0 a1 a2 a3 a4 a5 a6 a7 : Value} (h : Lies w g t #[a0, a1, a2, a3, a4, a5, a6, a7]) (v0 : Value) : Lies (sets15 w g 6 [v0]) g t #[a0, a1, a2, a3, a4, a5, v0, a7] := by
  have := Lies.sets15_at [v0] 6 h
  simpa only [List.zipIdx, List.foldl, List.setIfInBounds_toArray, List.set_cons_zero, List.set_cons_succ, Nat.zero_add, Nat.reduceAdd] using this
theorem Lies.s1at7_15 {w : World} {g : Nat} {t : TypeId} {a0 a1 a2 a3 a4 a5 a6 a7 : Value} (h : Lies w g t #[a0, a1, a2, a3, a4, a5, a6, a7]) (v0 : Value) : Lies (sets15 w g 7 [v0]) g t #[a0, a1, a2, a3, a4, a5, a6, v0] := by
  have := Lies.sets15_at [v0] 7 h
  simpa only [List.zipIdx, List.foldl, List.setIfInBounds_toArray, List.set_cons_zero, List.set_cons_succ, Nat.zero_add, Nat.reduceAdd] using this
end Go.Proofs.Ytnilempeldlieaa
namespace Go.Proofs.Ytnilempeldlieaa
open Go.RowKit
set_option maxRecDepth 100000
def hO15 (i : Nat) : Ob := ⟨0, 0, [], ⟨#[]⟩, 0, i⟩
def hL15 (i : Nat) : LO := ⟨hO15 i, none, 0⟩
def tl15 (k : Nat) : List LO := (List.range k).map hL15
theorem tl15_len (k : Nat) : (tl15 k).length = k := by unfold tl15; rw [List.length_map, List.length_range]
theorem tl15_succ (k : Nat) : tl15 (k + 1) = tl15 k ++ [hL15 k] := by unfold tl15; rw [List.range_succ, List.map_append]; rfl
def T15 : St := ⟨⟨(List.range 14).map hO15, 20, 0⟩, 26, 0, 0, 0, 0⟩
theorem tl15_objs : (tl15 14).map (·.o) = T15.hp.objs := rfl
/-- objects appended to a row of the call's own, run -/
theorem run_app_row15 (w : World) (base b : Nat) (A : Option Addr) (c d n m : Nat) (ls new : List LO) (hown : w.ownsRow base 39 6 (.slice A n c) n (rowOf ls)) (hn : n = ls.length) (hm : m = new.length) (hl : n + m ≤ 1000)
    (hnew : Lies w b 39 (rowOf new).toArray) (hbase : base ≤ w.heap.size) :
    ∃ A' c' w', (Builtin.append_ #[22, 22] 22 #[.slice A n c, .slice (some ⟨b, 0, none⟩) m d]).run Try.prog w = .ok (.slice A' (n + m) c') w' ∧
      w'.ownsRow base 39 6 (.slice A' (n + m) c') (n + m) (rowOf (ls ++ new)) ∧ w.grownBy w' (Value.slice A n c).ownBlock := by
  obtain ⟨j0, hj, hy0, hy1, hy2⟩ := info_parts obj_info
  obtain ⟨v', w', h1, h2, h3, -⟩ := run_append_own (P := Try.prog) w base 22 22 39 j0 (.agg #[.int .i64 0, .int .i64 0, .slice none 0 0, .string ⟨#[]⟩, .int .i64 0, .int .i64 0]) 6 72 Try.underlying22 hj hy0 hy1 hy2 rfl (by decide) _ _ _ hown ⟨b, 0, none⟩ m d (rowOf new) (by rw [hm]; exact rowOf_length new) (by
      intro j u hu
      rw [Addr.add_lit, Nat.zero_add, hnew.cell j]
      simpa using hu) (rowOf_one new) (by unfold maxLen; omega) (by omega) hbase
  obtain ⟨A', c', rfl⟩ := own_form h2
  exact ⟨A', c', w', h1, by rw [rowOf_append]; exact h2, h3⟩
theorem grown_lies15 {w w' : World} {g : Nat} {t : TypeId} {cs : Array Value} {base n : Nat} {v : Value} {xs : List Value} (hg : w.grownBy w' v.ownBlock) (h : Lies w g t cs) (ho : w.ownsRow base 39 6 v n xs) (ht : 39 ≠ t) : Lies w' g t cs :=
  h.grown hg (fun e => own_blk_ne ho h ht e.symm)
theorem row_obs15 {w : World} {base : Nat} {A : Option Addr} {c : Nat} {ls : List LO} (h : w.ownsRow base 39 6 (.slice A ls.length c) ls.length (rowOf ls)) (hi : ∀ l ∈ ls, IntsR w l.S l.o.slots) (hn : ∀ l ∈ ls, l.S = none → l.c = 0)
    (hc : ∀ l ∈ ls, l.o.slots.length ≤ l.c) : ObsR w A (ls.map (·.o)) :=
  LaidR.obs ⟨fun hp => by
    obtain ⟨g, cg, hv, hg0, hg1⟩ := h.form hp
    simp only [Value.slice.injEq, true_and] at hv
    obtain ⟨rfl, rfl⟩ := hv
    refine ⟨g, 0, rfl, hg1, fun j u hu => ?_⟩
    have hj : j < ls.length * 6 := by
      have := (List.getElem?_eq_some_iff.1 hu).1
      rwa [rowOf_length] at this
    rw [Nat.zero_add]
    exact (h.cellAt j hj).trans hu, hi, hn⟩ hc
set_option maxHeartbeats 4000000 in
theorem twelve_any15 (w : World) : Calls Try.prog 16 #[] w fun e w' => ∃ A c, e = .returned (.agg #[.slice A T15.hp.objs.length c, .int .i64 T15.hp.cap, .int .i64 T15.hp.last, .int .i64 T15.proc, .int .i64 T15.ready, .int .i64 T15.halt, .int .i64 T15.steps, .int .i64 T15.used]) ∧ ObsR w' A T15.hp.objs ∧ Below w.heap.size w w' := by
  obtain ⟨w0, hw0⟩ : ∃ x, x = (w.alloc (.cells #[.slice none 0 0, .int .i64 0, .int .i64 0, .int .i64 0, .int .i64 0, .int .i64 0, .int .i64 0, .int .i64 0] 27)).alloc (.cells #[.slice none 0 0, .int .i64 20, .int .i64 0, .int .i64 26, .int .i64 0, .int .i64 0, .int .i64 0, .int .i64 0] 27) := ⟨_, rfl⟩
  have HB0 : Hid (Below w.heap.size w w0) := by show Below _ _ _; rw [hw0]; exact below_alloc2 w _ _
  have HK0 : Hid (Lies w0 w.heap.size 27 #[.slice none 0 0, .int .i64 0, .int .i64 0, .int .i64 0, .int .i64 0, .int .i64 0, .int .i64 0, .int .i64 0]) := by show Lies _ _ _ _; rw [hw0]; exact (Lies.new w _ _).alloc _
  have HL0 : Hid (Lies w0 (w.heap.size + 1) 27 #[.slice none 0 0, .int .i64 20, .int .i64 0, .int .i64 26, .int .i64 0, .int .i64 0, .int .i64 0, .int .i64 0]) := by
    show Lies _ _ _ _
    have := Lies.new (w.alloc (.cells #[.slice none 0 0, .int .i64 0, .int .i64 0, .int .i64 0, .int .i64 0, .int .i64 0, .int .i64 0, .int .i64 0] 27)) 27 #[.slice none 0 0, .int .i64 20, .int .i64 0, .int .i64 26, .int .i64 0, .int .i64 0, .int .i64 0, .int .i64 0]
    rw [hw0]
    simpa [Hid] using this
  have HO0 : Hid (w0.ownsRow w.heap.size 39 6 (.slice none 0 0) 0 (rowOf (tl15 0))) := World.ownsRow_nil _ _ _ _
  go_enter Try.func16, Try.ntmps16
  go_wp2_with fail
  rw [← hw0]
  clear hw0
  go_loopw [2] (fun i wr => ∃ (k : Nat) (A : Option Addr) (c : Nat), k ≤ 14 ∧ i = .int .i64 k ∧ Hid (Lies wr w.heap.size 27 #[.slice none 0 0, .int .i64 0, .int .i64 0, .int .i64 0, .int .i64 0, .int .i64 0, .int .i64 0, .int .i64 0]) ∧ Hid (Lies wr (w.heap.size + 1) 27 #[.slice A k c, .int .i64 20, .int .i64 0, .int .i64 26, .int .i64 0, .int .i64 0, .int .i64 0, .int .i64 0]) ∧ Hid (wr.ownsRow w.heap.size 39 6 (.slice A k c) k (rowOf (tl15 k))) ∧ Hid (Below w.heap.size w wr)) (fun i _ => 14 - (intOf i).toNat)
  case atStart => exact ⟨0, none, 0, by omega, rfl, HK0, HL0, HO0, HB0⟩
  case round =>
    rename World => w1
    obtain ⟨k, A, c, hk, rfl, HK, HL, HO, HB⟩ := hrel
    clear HK0 HL0 HO0 HB0
    have l0 := HL.out.cell 0
    have l1 := HL.out.cell 1
    have l2 := HL.out.cell 2
    have l3 := HL.out.cell 3
    have l4 := HL.out.cell 4
    have l5 := HL.out.cell 5
    have l6 := HL.out.cell 6
    have l7 := HL.out.cell 7
    have lf0 := HL.out.frozen 0
    have lf1 := HL.out.frozen 1
    have lf2 := HL.out.frozen 2
    have lf3 := HL.out.frozen 3
    have lf4 := HL.out.frozen 4
    have lf5 := HL.out.frozen 5
    have lf6 := HL.out.frozen 6
    have lf7 := HL.out.frozen 7
    simp only [List.getElem?_toArray, List.getElem?_cons_zero, List.getElem?_cons_succ] at l0 l1 l2 l3 l4 l5 l6 l7
    by_cases hlt : k < 14
    · have hal := below_alloc w1 (.cells #[.int .i64 0, .int .i64 0, .slice none 0 0, .string ⟨#[]⟩, .int .i64 0, .int .i64 k] 39)
      have ho1 := own_later HO.out hal
      obtain ⟨A2, c2, w2, hrun, hO2, hg2⟩ := run_app_row15 (w1.alloc (.cells #[.int .i64 0, .int .i64 0, .slice none 0 0, .string ⟨#[]⟩, .int .i64 0, .int .i64 k] 39)) w.heap.size w1.heap.size A c 1 k 1 (tl15 k) [hL15 k] ho1 (tl15_len k).symm rfl (by omega) (Lies.new w1 39 #[.int .i64 0, .int .i64 0, .slice none 0 0, .string ⟨#[]⟩, .int .i64 0, .int .i64 k]) (Nat.le_trans HB.out.size hal.size)
      rw [← tl15_succ] at hO2
      have HRUN := hid hrun
      have HO2 := hid hO2
      have HK2 := hid (grown_lies15 hg2 (HK.out.later hal) ho1 (by decide))
      have HL2 := hid (grown_lies15 hg2 (HL.out.later hal) ho1 (by decide))
      have HB2 : Hid (Below w.heap.size w w2) := (HB.out.trans (hal.mono HB.out.size)).grown hg2 (Nat.le_trans HB.out.size hal.size) (fun q hq => (ho1.lt q hq).1)
      have hk7 : (k : Int) < 14 := by omega
      clear hal ho1 hrun hO2 hg2
      have p0 := HL2.out.cell 0
      have pf0 := HL2.out.frozen 0
      simp only [List.getElem?_toArray, List.getElem?_cons_zero] at p0
      have HO3 := hid (own_off15 HO2.out HL2.out (by decide) 0 (.slice A2 (k + 1) c2))
      have HK3 := hid (HK2.out.far (p := ⟨w.heap.size + 1, 0, none⟩) (by simp) (.slice A2 (k + 1) c2))
      have HL3 := hid (HL2.out.set_ 0 (.slice A2 (k + 1) c2))
      have HB3 := hid (HB2.out.setCell (p := ⟨w.heap.size + 1, 0, none⟩) (by simp) (.slice A2 (k + 1) c2))
      go_wp2_with (at_builtin; refine wpList_app_run rfl (.tmp 11) (.tmp 14) 22 rfl _ _ HRUN.out ?_)
      go_roundw
      case rel => exact ⟨k + 1, A2, c2, by omega, by go_num, HK3, HL3, HO3, HB3⟩
      case measure => simp [intOf]; omega
    · obtain rfl : k = 14 := by omega
      have u0 := HK.out.cell 0
      have u1 := HK.out.cell 1
      have u2 := HK.out.cell 2
      have u3 := HK.out.cell 3
      have u4 := HK.out.cell 4
      have u5 := HK.out.cell 5
      have u6 := HK.out.cell 6
      have u7 := HK.out.cell 7
      have uf0 := HK.out.frozen 0
      have uf1 := HK.out.frozen 1
      have uf2 := HK.out.frozen 2
      have uf3 := HK.out.frozen 3
      have uf4 := HK.out.frozen 4
      have uf5 := HK.out.frozen 5
      have uf6 := HK.out.frozen 6
      have uf7 := HK.out.frozen 7
      simp only [List.getElem?_toArray, List.getElem?_cons_zero, List.getElem?_cons_succ] at u0 u1 u2 u3 u4 u5 u6 u7
      go_wp2_with fail
      have KF : Lies (sets15 w1 w.heap.size 0 [.slice A 14 c, .int .i64 20, .int .i64 0, .int .i64 26, .int .i64 0, .int .i64 0, .int .i64 0, .int .i64 0]) w.heap.size 27 #[.slice A 14 c, .int .i64 20, .int .i64 0, .int .i64 26, .int .i64 0, .int .i64 0, .int .i64 0, .int .i64 0] := HK.out.s8_15 (.slice A 14 c) (.int .i64 20) (.int .i64 0) (.int .i64 26) (.int .i64 0) (.int .i64 0) (.int .i64 0) (.int .i64 0)
      have r0_ := KF.cell 0
      have r1_ := KF.cell 1
      have r2_ := KF.cell 2
      have r3_ := KF.cell 3
      have r4_ := KF.cell 4
      have r5_ := KF.cell 5
      have r6_ := KF.cell 6
      have r7_ := KF.cell 7
      simp only [sets15, Nat.zero_add, Nat.reduceAdd, List.getElem?_toArray, List.getElem?_cons_zero, List.getElem?_cons_succ] at r0_ r1_ r2_ r3_ r4_ r5_ r6_ r7_
      refine bodyPost_ret (v := .agg #[.slice A 14 c, .int .i64 20, .int .i64 0, .int .i64 26, .int .i64 0, .int .i64 0, .int .i64 0, .int .i64 0]) (by simp [results, Try.results16, go_sem, r0_, r1_, r2_, r3_, r4_, r5_, r6_, r7_]) rfl ?_
      refine ⟨A, c, rfl, ?_, Below.sets15 (Nat.le_refl _) [.slice A 14 c, .int .i64 20, .int .i64 0, .int .i64 26, .int .i64 0, .int .i64 0, .int .i64 0, .int .i64 0] 0 HB.out⟩
      rw [← tl15_objs]
      have hrow : (sets15 w1 w.heap.size 0 [.slice A 14 c, .int .i64 20, .int .i64 0, .int .i64 26, .int .i64 0, .int .i64 0, .int .i64 0, .int .i64 0]).ownsRow w.heap.size 39 6 (.slice A 14 c) 14 (rowOf (tl15 14)) := own_sets15 (by decide) [.slice A 14 c, .int .i64 20, .int .i64 0, .int .i64 26, .int .i64 0, .int .i64 0, .int .i64 0, .int .i64 0] 0 HO.out HK.out
      refine row_obs15 (ls := tl15 14) hrow ?_ ?_ ?_
      · intro l hl
        obtain ⟨i, _, rfl⟩ := List.mem_map.1 hl
        exact fun h => absurd h (Nat.lt_irrefl 0)
      · intro l hl _
        obtain ⟨i, _, rfl⟩ := List.mem_map.1 hl
        rfl
      · intro l hl
        obtain ⟨i, _, rfl⟩ := List.mem_map.1 hl
        exact Nat.le_refl 0
end Go.Proofs.Ytnilempeldlieaa
namespace Go.Proofs.Ytnilempeldlieaa
open Go.RowKit
set_option maxRecDepth 100000
def ckI (s : St) : Int := if ckB s = true then 0 else 150
theorem ckI_yes {s : St} (h : ckB s = true) : ckI s = 0 := by unfold ckI; rw [if_pos h]
theorem ckI_no {s : St} (h : ckB s = false) : ckI s = 150 := by unfold ckI; rw [if_neg (by rw [h]; decide)]
def hoB (s : St) : Bool := mayB s.hp && decide (12 ≤ s.hp.objs.length) && refB s.hp.objs.length s.proc && refB s.hp.objs.length s.ready
def boB (s : St) : Bool := decide (0 ≤ s.halt ∧ s.halt ≤ 255) && decide (0 ≤ s.steps ∧ s.steps ≤ 1099511627776) && decide (0 ≤ s.used ∧ s.used ≤ 1000)
theorem ck_two (s : St) : ckB s = (hoB s && boB s) := by unfold ckB hoB boB; simp only [Bool.and_assoc]
theorem upto_any15 (n m : Int) (w : World) : Calls Try.prog 49 #[.int .i64 n, .int .i64 m] w fun e w' => e = .returned (.bool (decide (0 ≤ n ∧ n ≤ m))) ∧ w = w' := by
  by_cases h0 : 0 ≤ n
  · by_cases h1 : n ≤ m
    · rw [decide_eq_true ⟨h0, h1⟩]
      go_enter Try.func49, Try.ntmps49
      go_wp2_with fail
      go_ret
      exact ⟨rfl, rfl⟩
    · rw [decide_eq_false (fun h => h1 h.2)]
      go_enter Try.func49, Try.ntmps49
      go_wp2_with fail
      go_ret
      exact ⟨rfl, rfl⟩
  · rw [decide_eq_false (fun h => h0 h.1)]
    go_enter Try.func49, Try.ntmps49
    go_wp2_with fail
    go_ret
    exact ⟨rfl, rfl⟩
theorem isobj_any15 (h : Hp) (v : Int) (A : Option Addr) (c : Nat) (w : World) :
    Calls Try.prog 48 #[.agg #[.slice A h.objs.length c, .int .i64 h.cap, .int .i64 h.last], .int .i64 v] w fun e w' => e = .returned (.bool (refB h.objs.length v)) ∧ Below w.heap.size w w' := by
  have HB := hid (below_alloc w (.cells #[Value.slice A h.objs.length c, Value.int .i64 h.cap, Value.int .i64 h.last] 24))
  go_enter Try.func48, Try.ntmps48
  go_wp2_with (go_at_call 70; refine (at_any _ _).mono ?_; rintro e w' ⟨rfl, rfl⟩)
  all_goals go_ret
  all_goals
    refine ⟨?_, HB.out⟩
    refine congrArg (fun x => Ending.returned (Value.bool x)) ?_
    simp_all [refB]
set_option maxHeartbeats 1500000 in
theorem holds_any15 (s : St) (A : Option Addr) (c : Nat) (w : World) (hsX : ObsR w A s.hp.objs) (fitX : s.hp.Fit) :
    Calls Try.prog 29 #[.agg #[.slice A s.hp.objs.length c, .int .i64 s.hp.cap, .int .i64 s.hp.last, .int .i64 s.proc, .int .i64 s.ready, .int .i64 s.halt, .int .i64 s.steps, .int .i64 s.used]] w fun e w' => e = .returned (.bool (hoB s)) ∧ Below w.heap.size w w' := by
  obtain ⟨w0, hw0⟩ : ∃ w0, w0 = (w.alloc (.cells #[.slice A s.hp.objs.length c, .int .i64 s.hp.cap, .int .i64 s.hp.last, .int .i64 s.proc, .int .i64 s.ready, .int .i64 s.halt, .int .i64 s.steps, .int .i64 s.used] 27)) := ⟨_, rfl⟩
  have HB0 : Hid (Below w.heap.size w w0) := by show Below _ _ _; rw [hw0]; exact below_alloc w _
  have X0 : Hid (Lies w0 (w.heap.size) 27 #[.slice A s.hp.objs.length c, .int .i64 s.hp.cap, .int .i64 s.hp.last, .int .i64 s.proc, .int .i64 s.ready, .int .i64 s.halt, .int .i64 s.steps, .int .i64 s.used]) := by
    show Lies _ _ _ _
    rw [hw0]
    have := Lies.new w 27 #[.slice A s.hp.objs.length c, .int .i64 s.hp.cap, .int .i64 s.hp.last, .int .i64 s.proc, .int .i64 s.ready, .int .i64 s.halt, .int .i64 s.steps, .int .i64 s.used]
    simpa [Hid] using this
  have OX0 := hid (hsX.below HB0.out)
  have HFX := hid fitX
  have hflX := fitX.1
  clear hsX fitX
  go_enter Try.func29, Try.ntmps29
  go_upto_region 1 with fail
  rw [← hw0]
  clear hw0
  have x0 := X0.out.cell 0
  have x1 := X0.out.cell 1
  have x2 := X0.out.cell 2
  have x3 := X0.out.cell 3
  have x4 := X0.out.cell 4
  have x5 := X0.out.cell 5
  have x6 := X0.out.cell 6
  have x7 := X0.out.cell 7
  simp only [List.getElem?_toArray, List.getElem?_cons_zero, List.getElem?_cons_succ] at x0 x1 x2 x3 x4 x5 x6 x7
  go_wp2_with fail
  refine (may_any s.hp A c _ OX0.out HFX.out).mono ?_
  rintro e w1 ⟨rfl, hb⟩
  clear x0 x1 x2 x3 x4 x5 x6 x7
  have HB1 := hid (then_w HB0.out hb)
  have X1 := hid (X0.out.later hb)
  have OX1 := hid (OX0.out.below hb)
  clear hb
  clear HB0 X0 OX0
  cases hm : mayB s.hp
  · have e : hoB s = false := by unfold hoB; rw [hm]; rfl
    have E := hid e
    clear e hm
    have x0 := X1.out.cell 0
    have x1 := X1.out.cell 1
    have x2 := X1.out.cell 2
    have x3 := X1.out.cell 3
    have x4 := X1.out.cell 4
    have x5 := X1.out.cell 5
    have x6 := X1.out.cell 6
    have x7 := X1.out.cell 7
    simp only [List.getElem?_toArray, List.getElem?_cons_zero, List.getElem?_cons_succ] at x0 x1 x2 x3 x4 x5 x6 x7
    go_wp2_with fail
    clear x0 x1 x2 x3 x4 x5 x6 x7
    go_ret
    exact ⟨by rw [E.out]; rfl, HB1.out⟩
  · have HM := hid hm
    clear hm
    by_cases hl : s.hp.objs.length < 12
    · have e : hoB s = false := by unfold hoB; rw [decide_eq_false (by omega : ¬ 12 ≤ s.hp.objs.length), Bool.and_false]; rfl
      have E := hid e
      clear e
      have hl' : ¬ (12 : Int) ≤ (s.hp.objs.length : Int) := by omega
      have x0 := X1.out.cell 0
      have x1 := X1.out.cell 1
      have x2 := X1.out.cell 2
      have x3 := X1.out.cell 3
      have x4 := X1.out.cell 4
      have x5 := X1.out.cell 5
      have x6 := X1.out.cell 6
      have x7 := X1.out.cell 7
      simp only [List.getElem?_toArray, List.getElem?_cons_zero, List.getElem?_cons_succ] at x0 x1 x2 x3 x4 x5 x6 x7
      go_wp2_with fail
      clear x0 x1 x2 x3 x4 x5 x6 x7
      go_ret
      exact ⟨by rw [E.out]; rfl, HB1.out⟩
    · have hl' : (12 : Int) ≤ (s.hp.objs.length : Int) := by omega
      have HL : Hid (12 ≤ s.hp.objs.length) := by show _ ≤ _; omega
      clear hl
      have x0 := X1.out.cell 0
      have x1 := X1.out.cell 1
      have x2 := X1.out.cell 2
      have x3 := X1.out.cell 3
      have x4 := X1.out.cell 4
      have x5 := X1.out.cell 5
      have x6 := X1.out.cell 6
      have x7 := X1.out.cell 7
      simp only [List.getElem?_toArray, List.getElem?_cons_zero, List.getElem?_cons_succ] at x0 x1 x2 x3 x4 x5 x6 x7
      go_wp2_with fail
      refine (isobj_any15 s.hp s.proc A c _).mono ?_
      rintro e w2 ⟨rfl, hb⟩
      clear x0 x1 x2 x3 x4 x5 x6 x7
      have HB2 := hid (then_w HB1.out hb)
      have X2 := hid (X1.out.later hb)
      have OX2 := hid (OX1.out.below hb)
      clear hb
      clear HB1 X1 OX1
      cases hp : refB s.hp.objs.length s.proc
      · have e : hoB s = false := by unfold hoB; rw [hp, Bool.and_false]; rfl
        have E := hid e
        clear e hp
        have x0 := X2.out.cell 0
        have x1 := X2.out.cell 1
        have x2 := X2.out.cell 2
        have x3 := X2.out.cell 3
        have x4 := X2.out.cell 4
        have x5 := X2.out.cell 5
        have x6 := X2.out.cell 6
        have x7 := X2.out.cell 7
        simp only [List.getElem?_toArray, List.getElem?_cons_zero, List.getElem?_cons_succ] at x0 x1 x2 x3 x4 x5 x6 x7
        go_wp2_with fail
        clear x0 x1 x2 x3 x4 x5 x6 x7
        go_ret
        exact ⟨by rw [E.out]; rfl, HB2.out⟩
      · have HP := hid hp
        clear hp
        have x0 := X2.out.cell 0
        have x1 := X2.out.cell 1
        have x2 := X2.out.cell 2
        have x3 := X2.out.cell 3
        have x4 := X2.out.cell 4
        have x5 := X2.out.cell 5
        have x6 := X2.out.cell 6
        have x7 := X2.out.cell 7
        simp only [List.getElem?_toArray, List.getElem?_cons_zero, List.getElem?_cons_succ] at x0 x1 x2 x3 x4 x5 x6 x7
        go_wp2_with fail
        refine (isobj_any15 s.hp s.ready A c _).mono ?_
        rintro e w3 ⟨rfl, hb⟩
        clear x0 x1 x2 x3 x4 x5 x6 x7
        have HB3 := hid (then_w HB2.out hb)
        have X3 := hid (X2.out.later hb)
        have OX3 := hid (OX2.out.below hb)
        clear hb
        clear HB2 X2 OX2
        have e : hoB s = refB s.hp.objs.length s.ready := by unfold hoB; rw [HM.out, decide_eq_true HL.out, HP.out]; rfl
        have E := hid e
        clear e
        have x0 := X3.out.cell 0
        have x1 := X3.out.cell 1
        have x2 := X3.out.cell 2
        have x3 := X3.out.cell 3
        have x4 := X3.out.cell 4
        have x5 := X3.out.cell 5
        have x6 := X3.out.cell 6
        have x7 := X3.out.cell 7
        simp only [List.getElem?_toArray, List.getElem?_cons_zero, List.getElem?_cons_succ] at x0 x1 x2 x3 x4 x5 x6 x7
        go_wp2_with fail
        clear x0 x1 x2 x3 x4 x5 x6 x7
        go_ret
        exact ⟨by rw [E.out]; rfl, HB3.out⟩
set_option maxHeartbeats 1500000 in
theorem bounds_any15 (s : St) (A : Option Addr) (c : Nat) (w : World) :
    Calls Try.prog 30 #[.agg #[.slice A s.hp.objs.length c, .int .i64 s.hp.cap, .int .i64 s.hp.last, .int .i64 s.proc, .int .i64 s.ready, .int .i64 s.halt, .int .i64 s.steps, .int .i64 s.used]] w fun e w' => e = .returned (.bool (boB s)) ∧ Below w.heap.size w w' := by
  obtain ⟨w0, hw0⟩ : ∃ w0, w0 = (w.alloc (.cells #[.slice A s.hp.objs.length c, .int .i64 s.hp.cap, .int .i64 s.hp.last, .int .i64 s.proc, .int .i64 s.ready, .int .i64 s.halt, .int .i64 s.steps, .int .i64 s.used] 27)) := ⟨_, rfl⟩
  have HB0 : Hid (Below w.heap.size w w0) := by show Below _ _ _; rw [hw0]; exact below_alloc w _
  have X0 : Hid (Lies w0 (w.heap.size) 27 #[.slice A s.hp.objs.length c, .int .i64 s.hp.cap, .int .i64 s.hp.last, .int .i64 s.proc, .int .i64 s.ready, .int .i64 s.halt, .int .i64 s.steps, .int .i64 s.used]) := by
    show Lies _ _ _ _
    rw [hw0]
    have := Lies.new w 27 #[.slice A s.hp.objs.length c, .int .i64 s.hp.cap, .int .i64 s.hp.last, .int .i64 s.proc, .int .i64 s.ready, .int .i64 s.halt, .int .i64 s.steps, .int .i64 s.used]
    simpa [Hid] using this
  go_enter Try.func30, Try.ntmps30
  go_upto_region 1 with fail
  rw [← hw0]
  clear hw0
  have x0 := X0.out.cell 0
  have x1 := X0.out.cell 1
  have x2 := X0.out.cell 2
  have x3 := X0.out.cell 3
  have x4 := X0.out.cell 4
  have x5 := X0.out.cell 5
  have x6 := X0.out.cell 6
  have x7 := X0.out.cell 7
  simp only [List.getElem?_toArray, List.getElem?_cons_zero, List.getElem?_cons_succ] at x0 x1 x2 x3 x4 x5 x6 x7
  go_wp2_with fail
  refine (upto_any15 s.halt 255 _).mono ?_
  rintro e w1 ⟨rfl, rfl⟩
  cases h1 : decide (0 ≤ s.halt ∧ s.halt ≤ 255)
  · have e : boB s = false := by unfold boB; rw [h1]; rfl
    have E := hid e
    clear e h1
    go_wp2_with fail
    clear x0 x1 x2 x3 x4 x5 x6 x7
    go_ret
    exact ⟨by rw [E.out]; rfl, HB0.out⟩
  · have H1 := hid h1
    clear h1
    go_wp2_with fail
    refine (upto_any15 s.steps 1099511627776 _).mono ?_
    rintro e w1 ⟨rfl, rfl⟩
    cases h2 : decide (0 ≤ s.steps ∧ s.steps ≤ 1099511627776)
    · have e : boB s = false := by unfold boB; rw [h2, Bool.and_false]; rfl
      have E := hid e
      clear e h2
      go_wp2_with fail
      clear x0 x1 x2 x3 x4 x5 x6 x7
      go_ret
      exact ⟨by rw [E.out]; rfl, HB0.out⟩
    · have H2 := hid h2
      clear h2
      go_wp2_with fail
      refine (upto_any15 s.used 1000 _).mono ?_
      rintro e w1 ⟨rfl, rfl⟩
      have e : boB s = (decide (0 ≤ s.used) && decide (s.used ≤ 1000)) := by unfold boB; rw [H1.out, H2.out, Bool.decide_and]; rfl
      have E := hid e
      clear e
      go_wp2_with fail
      clear x0 x1 x2 x3 x4 x5 x6 x7
      go_ret
      exact ⟨by rw [E.out]; rfl, HB0.out⟩
set_option maxHeartbeats 1500000 in
theorem cck_any15 (s : St) (A : Option Addr) (c : Nat) (w : World) (hsX : ObsR w A s.hp.objs) (fitX : s.hp.Fit) :
    Calls Try.prog 17 #[.agg #[.slice A s.hp.objs.length c, .int .i64 s.hp.cap, .int .i64 s.hp.last, .int .i64 s.proc, .int .i64 s.ready, .int .i64 s.halt, .int .i64 s.steps, .int .i64 s.used]] w fun e w' => e = .returned (.int .i64 (ckI s)) ∧ Below w.heap.size w w' := by
  obtain ⟨w0, hw0⟩ : ∃ w0, w0 = (w.alloc (.cells #[.slice A s.hp.objs.length c, .int .i64 s.hp.cap, .int .i64 s.hp.last, .int .i64 s.proc, .int .i64 s.ready, .int .i64 s.halt, .int .i64 s.steps, .int .i64 s.used] 27)) := ⟨_, rfl⟩
  have HB0 : Hid (Below w.heap.size w w0) := by show Below _ _ _; rw [hw0]; exact below_alloc w _
  have X0 : Hid (Lies w0 (w.heap.size) 27 #[.slice A s.hp.objs.length c, .int .i64 s.hp.cap, .int .i64 s.hp.last, .int .i64 s.proc, .int .i64 s.ready, .int .i64 s.halt, .int .i64 s.steps, .int .i64 s.used]) := by
    show Lies _ _ _ _
    rw [hw0]
    have := Lies.new w 27 #[.slice A s.hp.objs.length c, .int .i64 s.hp.cap, .int .i64 s.hp.last, .int .i64 s.proc, .int .i64 s.ready, .int .i64 s.halt, .int .i64 s.steps, .int .i64 s.used]
    simpa [Hid] using this
  have OX0 := hid (hsX.below HB0.out)
  have HFX := hid fitX
  have hflX := fitX.1
  clear hsX fitX
  go_enter Try.func17, Try.ntmps17
  go_upto_region 1 with fail
  rw [← hw0]
  clear hw0
  have x0 := X0.out.cell 0
  have x1 := X0.out.cell 1
  have x2 := X0.out.cell 2
  have x3 := X0.out.cell 3
  have x4 := X0.out.cell 4
  have x5 := X0.out.cell 5
  have x6 := X0.out.cell 6
  have x7 := X0.out.cell 7
  simp only [List.getElem?_toArray, List.getElem?_cons_zero, List.getElem?_cons_succ] at x0 x1 x2 x3 x4 x5 x6 x7
  go_wp2_with fail
  refine (holds_any15 s A c _ OX0.out HFX.out).mono ?_
  rintro e w1 ⟨rfl, hb⟩
  clear x0 x1 x2 x3 x4 x5 x6 x7
  have HB1 := hid (then_w HB0.out hb)
  have X1 := hid (X0.out.later hb)
  have OX1 := hid (OX0.out.below hb)
  clear hb
  clear HB0 X0 OX0
  cases hm : hoB s
  · have e : ckI s = 150 := ckI_no (by rw [ck_two, hm]; rfl)
    have E := hid e
    clear e hm
    have x0 := X1.out.cell 0
    have x1 := X1.out.cell 1
    have x2 := X1.out.cell 2
    have x3 := X1.out.cell 3
    have x4 := X1.out.cell 4
    have x5 := X1.out.cell 5
    have x6 := X1.out.cell 6
    have x7 := X1.out.cell 7
    simp only [List.getElem?_toArray, List.getElem?_cons_zero, List.getElem?_cons_succ] at x0 x1 x2 x3 x4 x5 x6 x7
    go_wp2_with fail
    clear x0 x1 x2 x3 x4 x5 x6 x7
    go_ret
    exact ⟨by rw [E.out]; rfl, HB1.out⟩
  · have HM := hid hm
    clear hm
    have x0 := X1.out.cell 0
    have x1 := X1.out.cell 1
    have x2 := X1.out.cell 2
    have x3 := X1.out.cell 3
    have x4 := X1.out.cell 4
    have x5 := X1.out.cell 5
    have x6 := X1.out.cell 6
    have x7 := X1.out.cell 7
    simp only [List.getElem?_toArray, List.getElem?_cons_zero, List.getElem?_cons_succ] at x0 x1 x2 x3 x4 x5 x6 x7
    go_wp2_with fail
    refine (bounds_any15 s A c _).mono ?_
    rintro e w2 ⟨rfl, hb⟩
    clear x0 x1 x2 x3 x4 x5 x6 x7
    have HB2 := hid (then_w HB1.out hb)
    have X2 := hid (X1.out.later hb)
    have OX2 := hid (OX1.out.below hb)
    clear hb
    clear HB1 X1 OX1
    cases hm : boB s
    · have e : ckI s = 150 := ckI_no (by rw [ck_two, hm, Bool.and_false])
      have E := hid e
      clear e hm
      have x0 := X2.out.cell 0
      have x1 := X2.out.cell 1
      have x2 := X2.out.cell 2
      have x3 := X2.out.cell 3
      have x4 := X2.out.cell 4
      have x5 := X2.out.cell 5
      have x6 := X2.out.cell 6
      have x7 := X2.out.cell 7
      simp only [List.getElem?_toArray, List.getElem?_cons_zero, List.getElem?_cons_succ] at x0 x1 x2 x3 x4 x5 x6 x7
      go_wp2_with fail
      clear x0 x1 x2 x3 x4 x5 x6 x7
      go_ret
      exact ⟨by rw [E.out]; rfl, HB2.out⟩
    · have e : ckI s = 0 := ckI_yes (by rw [ck_two, HM.out, hm]; rfl)
      have E := hid e
      clear e hm
      have x0 := X2.out.cell 0
      have x1 := X2.out.cell 1
      have x2 := X2.out.cell 2
      have x3 := X2.out.cell 3
      have x4 := X2.out.cell 4
      have x5 := X2.out.cell 5
      have x6 := X2.out.cell 6
      have x7 := X2.out.cell 7
      simp only [List.getElem?_toArray, List.getElem?_cons_zero, List.getElem?_cons_succ] at x0 x1 x2 x3 x4 x5 x6 x7
      go_wp2_with fail
      clear x0 x1 x2 x3 x4 x5 x6 x7
      go_ret
      exact ⟨by rw [E.out]; rfl, HB2.out⟩
end Go.Proofs.Ytnilempeldlieaa
namespace Go.Proofs.Ytnilempeldlieaa
open Go.RowKit
theorem at_one (w : World) (x : Int) : IntsR (w.alloc (.cells #[.int .i64 x] 3)) (some ⟨w.heap.size, 0, none⟩) [x] := fun _ => by
  refine ⟨w.heap.size, 0, rfl, by simp, fun j y hy => ?_⟩
  have := (Lies.new w 3 #[.int .i64 x]).cell j
  rw [Nat.zero_add, this]
  cases j with
  | zero => simp at hy ⊢; exact hy
  | succ j => simp at hy
theorem then_b {w v w' : World} (h : Below w.heap.size w v) (hb : Below v.heap.size v w') : Below w.heap.size w w' := h.trans (hb.mono h.size)
/-- a row of ints of the call's own is returned -/
def IntsOwn (w : World) (L : List Int) (e : Ending) (w' : World) : Prop :=
  ∃ A c, e = .returned (.slice A L.length c) ∧ w'.ownsRow w.heap.size 3 1 (.slice A L.length c) L.length (L.map (Value.int .i64)) ∧ Below w.heap.size w w'
theorem map_step (f : Int → Int) (l : List Int) (k : Nat) (hk : k < l.length) : ((l.take k).map f ++ l.drop k).set k (f l[k]) = (l.take (k + 1)).map f ++ l.drop (k + 1) := by
  have hk2 : ((l.take k).map f).length = k := by rw [List.length_map, List.length_take]; omega
  rw [List.set_append_right _ _ (by omega), hk2, Nat.sub_self, List.drop_eq_getElem_cons hk, List.set_cons_zero, List.take_succ_eq_append_getElem hk, List.map_append, List.append_assoc]
  rfl
end Go.Proofs.Ytnilempeldlieaa
namespace Go.Proofs.Ytnilempeldlieaa
open Go.RowKit
theorem wpList_append_one {w : World} {ops : Array Oper} {rest : List Oper} {o : Oper} {a : Act} {Q : Exit → Act → World → Prop} (hgd : o.guard = none) (s x : Operand)
    (ho : o.op = .call { callee := .builtin .append, args := #[s, x], argTypes := #[31, 31] }) (base : Nat)
    (v : Value) (n : Nat) (xs : List Int) (hs : a.eval s = v) (hown : w.ownsRow base 3 1 v n (xs.map (Value.int .i64))) (y : Int) (g : Nat) (hx : a.eval x = .slice (some ⟨g, 0, none⟩) 1 1) (hg : Lies w g 3 #[.int .i64 y])
    (hn : n ≤ 1000000) (hbase : base ≤ w.heap.size)
    (h : ∀ v' w', w'.ownsRow base 3 1 v' (n + 1) ((xs ++ [y]).map (Value.int .i64)) → w.grownBy w' v.ownBlock → wpList Try.prog ops Q rest (a.put o.dst v') w') : wpList Try.prog ops Q (o :: rest) a w := by
  obtain ⟨i0, hi0, hz0, hz1, hz2⟩ := info_parts int_info
  refine wpList_append_own _ hgd s x 31 ho base 3 i0 (.int .i64 0) 1 8 Try.underlying31 hi0 hz0 hz1 hz2 rfl (by decide) _ _ _ hs hown ⟨g, 0, none⟩ 1 1 [.int .i64 y] hx rfl ?_ ?_ (by unfold maxLen; omega) (by omega) hbase ?_
  · intro j u hu
    have := hg.cell j
    rw [Addr.add_lit, Nat.zero_add, this]
    simpa using hu
  · intro u hu
    obtain rfl : u = .int .i64 y := by simpa using hu
    rfl
  · intro v' w' h1 h2 _
    exact h v' w' (by simpa using h1) h2
/-- a list of the call's own, begun empty -/
theorem own_empty (w : World) : (w.alloc (.cells #[] 3)).ownsRow w.heap.size 3 1 (.slice (some ⟨w.heap.size, 0, none⟩) 0 0) 0 (([] : List Int).map (Value.int .i64)) := by
  have := World.ownsRow_made (e := 3) (size := 1) (base := w.heap.size) w #[] 0 (Nat.le_refl _) (Nat.zero_le _) rfl
  simpa using this
end Go.Proofs.Ytnilempeldlieaa
