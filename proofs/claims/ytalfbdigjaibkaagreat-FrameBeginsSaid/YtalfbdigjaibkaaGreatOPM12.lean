/- Small, of a heap that lies in memory: what is small has few slots. A heap opened, and what lies in memory. -/
import Derived.Test.YtalfbdigjaibkaaGreatS
import Derived.Test.YtalfbdigjaibkaaGreatOP0
import Derived.SizedLaws
namespace Go.Proofs.YtalfbdigjaibkaaGreat
open Go.RowKit
/-- slots and texts lie in memory -/
def Hp.Mem (h : Hp) : Prop := ∀ o ∈ h.objs, o.slots.length ≤ 17592186044416 ∧ o.text.size ≤ 140737488351232
def SmallP12 (w : World) (h : Hp) (e : Ending) (w' : World) : Prop := ∃ b, e = .returned (.bool b) ∧ (b = true → ∀ o ∈ h.objs, o.slots.length ≤ 5000) ∧ Below w.heap.size w w'
set_option maxRecDepth 100000 in
set_option maxHeartbeats 4000000 in
theorem small_mod12 (h : Hp) (A : Option Addr) (c : Nat) (w : World) (hs : ObsR w A h.objs) (fit : h.Fit) (mem : h.Mem) :
    Calls Tryz.prog 9 #[.agg #[.slice A h.objs.length c, .int .i64 h.cap, .int .i64 h.last]] w (SmallP12 w h) := by
  have HB0 := hid (below_alloc w (.cells #[Value.slice A h.objs.length c, Value.int .i64 h.cap, Value.int .i64 h.last] 24))
  have HX := hid (BoxH.new w h A c)
  have HS := hid hs
  have HM := hid mem
  have hl : h.objs.length ≤ 9223372036854775807 := fit.1
  clear hs fit mem
  go_enter Tryz.func9, Tryz.ntmps9
  go_wp2
  go_loopw [3, 4] (fun n i wr => ∃ (k : Nat) (z : Int), k ≤ h.objs.length ∧ i = .int .i64 k ∧ n = .int .i64 z ∧ Below w.heap.size w wr ∧ BoxH wr w.heap.size h A c ∧ Hid (0 ≤ z ∧ z ≤ 200000000000000 ∧ ∀ o ∈ h.objs.take k, (o.slots.length : Int) ≤ z)) (fun _ i _ => h.objs.length - (intOf i).toNat)
  case atStart => exact ⟨0, 0, Nat.zero_le _, rfl, rfl, HB0.out, HX.out, by decide, by decide, fun o ho => by simp at ho⟩
  case round =>
    obtain ⟨k, z, hk, rfl, rfl, hbw, hX, HZ⟩ := hrel
    have HW := hid hbw
    have HX' := hid hX
    clear hbw HX
    obtain ⟨e0, -, -⟩ := hX
    by_cases hlt : k < h.objs.length
    · by_cases hz : z < 5000
      · obtain ⟨bs, os, rfl, hbs, hcs⟩ := HS.out (by omega)
        obtain ⟨S, d, hob, hin, _⟩ := hcs k _ (List.getElem?_eq_getElem hlt)
        obtain ⟨o, ho⟩ : ∃ o, o = h.objs[k] := ⟨_, rfl⟩
        rw [← ho] at hob
        obtain ⟨c0, c1, c2, c3, c4, c5⟩ := hob.below hbs HW.out
        have HOM := hid (HM.out o (by rw [ho]; exact List.getElem_mem hlt))
        have HO := hid ho
        obtain ⟨sl, hsl⟩ : ∃ s, s = o.slots.length := ⟨_, rfl⟩
        obtain ⟨tl, htl⟩ : ∃ s, s = o.text.size := ⟨_, rfl⟩
        have HSL := hid hsl
        have b1 : sl ≤ 17592186044416 := by rw [hsl]; exact HOM.out.1
        have b2 : tl ≤ 140737488351232 := by rw [htl]; exact HOM.out.2
        have z0 := HZ.out.1
        have hw1 : IntKind.i64.wrap (1 + (o.slots.length : Int)) = 1 + (sl : Int) := by rw [← hsl]; exact IntWalk.i64_in _ ⟨by omega, by omega⟩
        have hw2 : IntKind.i64.wrap (1 + (sl : Int) + (o.text.size : Int)) = 1 + (sl : Int) + (tl : Int) := by rw [← htl]; exact IntWalk.i64_in _ ⟨by omega, by omega⟩
        have hw3 : IntKind.i64.wrap (z + (1 + (sl : Int) + (tl : Int))) = z + (1 + (sl : Int) + (tl : Int)) := IntWalk.i64_in _ ⟨by omega, by omega⟩
        have HN : Hid (0 ≤ z + (1 + (sl : Int) + (tl : Int)) ∧ z + (1 + (sl : Int) + (tl : Int)) ≤ 200000000000000 ∧ ∀ p ∈ h.objs.take (k + 1), (p.slots.length : Int) ≤ z + (1 + (sl : Int) + (tl : Int))) := by
          refine ⟨by omega, by omega, fun p hp => ?_⟩
          rw [List.take_succ_eq_append_getElem hlt] at hp
          rcases List.mem_append.1 hp with hp | hp
          · have := HZ.out.2.2 p hp; omega
          · rw [List.mem_singleton] at hp
            rw [hp, ← HO.out, ← HSL.out]; omega
        clear hcs hob hin ho hsl htl b1 b2 z0
        go_wp2
        go_quiet (fail)
        go_wp2
        go_roundw
        case rel => exact ⟨k + 1, _, by omega, by go_num, rfl, below_go HW.out HW.out.size (below_drewN _ _), HX'.out.later (below_drewN _ _), HN⟩
        case measure => simp [intOf]; omega
      · go_wp2
        all_goals go_ret
        all_goals exact ⟨_, rfl, fun h => by simp_all, HW.out⟩
    · have e : k = h.objs.length := by omega
      by_cases hz : z < 5000
      · have HE : Hid (∀ o ∈ h.objs, o.slots.length ≤ 5000) := fun o ho => by
          have := HZ.out.2.2 o (by rw [e, List.take_length]; exact ho)
          omega
        clear e
        go_wp2
        all_goals go_ret
        all_goals exact ⟨_, rfl, fun _ => HE.out, HW.out⟩
      · clear e
        go_wp2
        all_goals go_ret
        all_goals exact ⟨_, rfl, fun h => by simp_all, HW.out⟩
end Go.Proofs.YtalfbdigjaibkaaGreat
namespace Go.Proofs.YtalfbdigjaibkaaGreat
open Go.ChangeShapes Go.WideShapes Go.RowKit Go.Deep Go.Joins
set_option maxRecDepth 100000
theorem bytes3 : Tryz.prog.bytesOf 3 = 8 := by kernel_rfl
section
variable {H : Type} {enc : TypeId × Value → H} {w : World} {base : Nat} {spare : Nat → Bool} {held : Bool}
theorem weights_mem_all {P : Program} {e : TypeId} {d : DataW H} {n : Nat} : ∀ {l : List (DataW H)}, d ∈ l → n ∈ d.weights P e → n ∈ DataW.weightsAll P e l
  | [], h, _ => by cases h
  | x :: r, h, hn => by
    rw [DataW.weightsAll.eq_2]
    rcases List.mem_cons.1 h with rfl | h
    · exact List.mem_append_left _ hn
    · exact List.mem_append_right _ (weights_mem_all h hn)
theorem open_ints_m {fuel : Nat} {v : Value} {x : DataW H × List MemPlace} (h : DataW.trod enc Tryz.prog w base spare held fuel 30 [v] = some x) :
    ∃ S c xs, v = .slice S (xs : List Int).length c ∧ IntsR w S xs ∧ xs.length ≤ c ∧ (S = none → c = 0) ∧ xs.length ≤ 9223372036854775807 ∧ ((∀ n ∈ x.1.weights Tryz.prog 30, n ≤ reachBytes) → xs.length ≤ 17592186044416) := by
  rcases open_ints Tryz.underlying30 Tryz.underlying3 cells3 h with ⟨e, _⟩ | ⟨a, len, cap, zs, e, _, hl, hm, hz, hx0, hc, _⟩
  · refine ⟨none, 0, [], by simpa using e, fun hn => by simp at hn, Nat.le_refl _, fun _ => rfl, by simp, fun _ => by simp⟩
  · have hlz : len ≤ zs.length := by rw [hz]; split <;> omega
    have ht : (zs.take len).length = len := by rw [List.length_take]; omega
    refine ⟨some a, cap, zs.take len, by rw [ht]; simpa using e, fun hn => ?_, by omega, (fun g => by cases g), by unfold maxLen at hm; omega, fun hw => ?_⟩
    have h0 := hc 0 (by omega)
    have ha := spot_none (show w.cell? a = _ from by simpa [Addr.add] using h0)
    refine ⟨a.block, a.off, by rw [← ha], ?_, fun j x hx => ?_⟩
    · have := World.block_lt_of_cell? w _ (show w.cell? a = _ from by simpa [Addr.add] using h0)
      exact this
    · have hj : j < len := by have := (List.getElem?_eq_some_iff.1 hx).1; omega
      have := hc j (by omega)
      rw [ha, add_off] at this
      rw [this]
      rw [List.getElem?_take, if_pos hj] at hx
      rw [List.getD_eq_getElem?_getD, hx]; rfl
    · have := hw _ (by rw [hx0, DataW.weights.eq_5, Tryz.underlying30]; exact List.mem_cons_self ..)
      rw [bytes3] at this
      simp only [lits, List.length_map, List.length_take] at this
      rw [ht]; unfold reachBytes at this; omega
theorem open_obj_m {fuel : Nat} {cs : List Value} {x : DataW H × List MemPlace} (h : DataW.trod enc Tryz.prog w base spare held fuel 60 cs = some x) :
    ∃ (o : Ob) (S : Option Addr) (d : Nat), cs = [.int .i64 o.cls, .int .i64 o.kind, .slice S o.slots.length d, .string o.text, .int .i64 o.bits, .int .i64 o.hash] ∧ IntsR w S o.slots ∧ o.slots.length ≤ d ∧ (S = none → d = 0) ∧ o.slots.length ≤ 9223372036854775807 ∧ ((∀ n ∈ x.1.weights Tryz.prog 60, n ≤ reachBytes) → o.slots.length ≤ 17592186044416 ∧ o.text.size ≤ 140737488351232) := by
  obtain ⟨xs, n, _, hx, hl, hxl, hf⟩ := DataW.trod_struct Tryz.underlying60 h
  rw [cells46] at hl
  match cs, hl with
  | [v0, v1, v2, v3, v4, v5], _ =>
    have h0 : DataW.trod enc Tryz.prog w base spare held n 3 (([v0, v1, v2, v3, v4, v5].drop 0).take (Tryz.prog.cellsOf 3)) = xs[0]? := hf 0 _ rfl
    have h1 : DataW.trod enc Tryz.prog w base spare held n 3 (([v0, v1, v2, v3, v4, v5].drop 1).take (Tryz.prog.cellsOf 3)) = xs[1]? := hf 1 _ rfl
    have h2 : DataW.trod enc Tryz.prog w base spare held n 30 (([v0, v1, v2, v3, v4, v5].drop 2).take (Tryz.prog.cellsOf 30)) = xs[2]? := hf 2 _ rfl
    have h3 : DataW.trod enc Tryz.prog w base spare held n 9 (([v0, v1, v2, v3, v4, v5].drop 3).take (Tryz.prog.cellsOf 9)) = xs[3]? := hf 3 _ rfl
    have h4 : DataW.trod enc Tryz.prog w base spare held n 3 (([v0, v1, v2, v3, v4, v5].drop 4).take (Tryz.prog.cellsOf 3)) = xs[4]? := hf 4 _ rfl
    have h5 : DataW.trod enc Tryz.prog w base spare held n 3 (([v0, v1, v2, v3, v4, v5].drop 5).take (Tryz.prog.cellsOf 3)) = xs[5]? := hf 5 _ rfl
    have c44 : Tryz.prog.cellsOf 30 = 1 := by kernel_rfl
    have c9 : Tryz.prog.cellsOf 9 = 1 := by kernel_rfl
    have hi : ∀ i (hi : i < 6), xs[i]? = some (xs[i]'(by rw [hxl]; exact hi)) := fun i hi => List.getElem?_eq_getElem _
    simp only [cells3, c44, c9, List.drop_zero, List.drop_succ_cons, List.take_succ_cons, List.take_zero] at h0 h1 h2 h3 h4 h5
    rw [hi 0 (by omega)] at h0
    rw [hi 1 (by omega)] at h1
    rw [hi 2 (by omega)] at h2
    rw [hi 3 (by omega)] at h3
    rw [hi 4 (by omega)] at h4
    rw [hi 5 (by omega)] at h5
    obtain ⟨a0, e0, _⟩ := DataW.trod_int Tryz.underlying3 h0
    obtain ⟨a1, e1, _⟩ := DataW.trod_int Tryz.underlying3 h1
    obtain ⟨S, d, zs, e2, k1, k2, k3, k4, k5⟩ := open_ints_m h2
    obtain ⟨t, e3, ex3, _⟩ := DataW.trod_string Tryz.underlying9 h3
    obtain ⟨a4, e4, _⟩ := DataW.trod_int Tryz.underlying3 h4
    obtain ⟨a5, e5, _⟩ := DataW.trod_int Tryz.underlying3 h5
    simp only [List.cons.injEq, and_true] at e0 e1 e3 e4 e5
    subst e0 e1 e2 e3 e4 e5
    refine ⟨⟨a0, a1, zs, t, a4, a5⟩, S, d, rfl, k1, k2, k3, k4, fun hw => ?_⟩
    have hw' : ∀ n ∈ DataW.weightsEach Tryz.prog [3, 3, 30, 9, 3, 3] (xs.map (·.1)), n ≤ reachBytes := by
      intro n hn
      refine hw n ?_
      rw [hx, DataW.weights.eq_6, Tryz.underlying60]
      exact hn
    have g : ∀ i (hi : i < 6), (xs.map (·.1))[i]? = some (xs[i]'(by rw [hxl]; exact hi)).1 := fun i hi' => by rw [List.getElem?_map, hi i hi']; rfl
    refine ⟨k5 fun n hn => hw' n (DataW.weights_mem_each (j := 2) rfl (g 2 (by omega)) n hn), ?_⟩
    have := hw' t.data.toList.length (DataW.weights_mem_each (j := 3) (t := 9) rfl (g 3 (by omega)) _ (by rw [ex3, DataW.weights.eq_1]; exact List.mem_singleton.2 rfl))
    unfold reachBytes at this
    simpa using this
theorem open_objs_m {fuel : Nat} {v : Value} {x : DataW H × List MemPlace} (h : DataW.trod enc Tryz.prog w base spare held fuel 22 [v] = some x) :
    ∃ (A : Option Addr) (c : Nat) (os : List Ob), v = .slice A os.length c ∧ ObsR w A os ∧ os.length ≤ 9223372036854775807 ∧ (∀ o ∈ os, o.slots.length ≤ 9223372036854775807) ∧ ((∀ n ∈ x.1.weights Tryz.prog 22, n ≤ reachBytes) → ∀ o ∈ os, o.slots.length ≤ 17592186044416 ∧ o.text.size ≤ 140737488351232) := by
  rcases open_slice Tryz.underlying22 h with ⟨e, _⟩ | ⟨a, len, cap, m, n, D, Pl, e, _, hl, hm, hmm, hx0, hx⟩
  · exact ⟨none, 0, [], by simpa using e, fun hn => by simp at hn, by simp, fun o ho => by simp at ho, fun _ o ho => by simp at ho⟩
  · have hlm : len ≤ m := by rw [hmm]; split <;> omega
    rw [cells46] at hx
    have each : ∀ i, i < len → ∃ q : Ob × Option Addr × Nat, (∀ j u, ([.int .i64 q.1.cls, .int .i64 q.1.kind, .slice q.2.1 q.1.slots.length q.2.2, .string q.1.text, .int .i64 q.1.bits, .int .i64 q.1.hash] : List Value)[j]? = some u → w.cell? ((a.add (i * 6)).add j) = some u) ∧
        IntsR w q.2.1 q.1.slots ∧ q.1.slots.length ≤ q.2.2 ∧ (q.2.1 = none → q.2.2 = 0) ∧ q.1.slots.length ≤ 9223372036854775807 ∧ ((∀ n ∈ (D i).weights Tryz.prog 60, n ≤ reachBytes) → q.1.slots.length ≤ 17592186044416 ∧ q.1.text.size ≤ 140737488351232) := by
      intro i hi
      obtain ⟨cs', h1, h2⟩ := hx i (by omega)
      obtain ⟨o, S, d, rfl, k1, k2, k3, k4, k5⟩ := open_obj_m h2
      obtain ⟨_, _, hcell⟩ := World.cells?_some h1
      refine ⟨(o, S, d), fun j u hu => ?_, k1, k2, k3, k4, k5⟩
      have hj : j < 6 := (List.getElem?_eq_some_iff.1 hu).1
      rw [hcell j hj]; exact hu
    obtain ⟨q, hq⟩ := choose_lt each
    have hll : ((List.range len).map fun i => (q i).1).length = len := by simp
    refine ⟨some a, cap, (List.range len).map fun i => (q i).1, by rw [hll]; simpa using e, fun hn => ?_, by rw [hll]; unfold maxLen at hm; omega, fun o ho => ?_, fun hw o ho => ?_⟩
    · rw [hll] at hn
      have c0 := (hq 0 hn).1 0 _ rfl
      have c0' : w.cell? a = some (.int .i64 (q 0).1.cls) := by simpa [Addr.add] using c0
      have ha := spot_none c0'
      refine ⟨a.block, a.off, by rw [← ha], World.block_lt_of_cell? w _ c0', fun i o ho => ?_⟩
      have hi : i < len := by have := (List.getElem?_eq_some_iff.1 ho).1; simpa using this
      obtain rfl : (q i).1 = o := by
        rw [List.getElem?_map, List.getElem?_range hi] at ho
        exact Option.some.inj ho
      obtain ⟨k0, k1, k2, k3, k4, _⟩ := hq i hi
      rw [ha] at k0
      simp only [add_off] at k0
      exact ⟨(q i).2.1, (q i).2.2, ⟨k0 0 _ rfl, k0 1 _ rfl, k0 2 _ rfl, k0 3 _ rfl, k0 4 _ rfl, k0 5 _ rfl⟩, k1, k2, k3⟩
    · obtain ⟨i, hi, rfl⟩ := List.mem_map.1 ho
      exact (hq i (List.mem_range.1 hi)).2.2.2.2.1
    · obtain ⟨i, hi, rfl⟩ := List.mem_map.1 ho
      refine (hq i (List.mem_range.1 hi)).2.2.2.2.2 fun n hn => hw n ?_
      rw [hx0, DataW.weights.eq_5, Tryz.underlying22]
      exact List.mem_cons_of_mem _ (List.mem_append_left _ (weights_mem_all (List.mem_map_of_mem hi) hn))
theorem open_heap_m {r : Reach} {b0 : Nat} {v : Value} {d : DataW H} {p : List MemPlace} (hv : Value.okWide Tryz.prog w r b0 24 v) (h : DataW.Trod enc Tryz.prog w base spare held 24 v d p) :
    ∃ (hp : Hp) (A : Option Addr) (c : Nat), v = .agg #[.slice A hp.objs.length c, .int .i64 hp.cap, .int .i64 hp.last] ∧ ObsR w A hp.objs ∧ hp.Fit ∧ ((∀ n ∈ d.weights Tryz.prog 24, n ≤ reachBytes) → hp.Mem) := by
  obtain ⟨v0, v1, v2, y0, y1, y2, n, rfl, rfl, _, h0, h1, h2⟩ := open_agg3 Tryz.underlying24 (by kernel_rfl) cells24 hv h
  obtain ⟨A, c, os, rfl, k1, k2, k3, k4⟩ := open_objs_m h0
  obtain ⟨a1, e1, _⟩ := DataW.trod_int Tryz.underlying3 h1
  obtain ⟨a2, e2, _⟩ := DataW.trod_int Tryz.underlying3 h2
  simp only [List.cons.injEq, and_true] at e1 e2
  subst e1 e2
  refine ⟨⟨os, a1, a2⟩, A, c, rfl, k1, ⟨k2, k3⟩, fun hw => k4 fun n hn => hw n ?_⟩
  rw [DataW.weights.eq_6, Tryz.underlying24]
  exact DataW.weights_mem_each (ts := [22, 3, 3]) (j := 0) rfl rfl n hn
end
end Go.Proofs.YtalfbdigjaibkaaGreat
