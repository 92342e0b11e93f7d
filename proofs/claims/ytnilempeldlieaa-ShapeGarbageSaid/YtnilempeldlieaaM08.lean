/- The program on states: its roots. slices.Equal at []int walked. What canon's numbering is in memory: a struct of a map and a list; and what turns while it grows. (*numbering).value walked: the number of what a value is the ref of, given if it has none. -/
import Derived.Test.YtnilempeldlieaaM07
import Derived.Test.YtnilempeldlieaaM03
import Derived.Test.YtnilempeldlieaaM06
import Derived.Test.YtnilempeldlieaaM04
import Derived.Maps.OwnSet
import Derived.Maps.AppendAt
namespace Go.Proofs.Ytnilempeldlieaa
open Go.RowKit
set_option maxRecDepth 100000
theorem lies_ints15 {w : World} {g : Nat} {l : List Int} {cs : Array Value} (hl : Lies w g 3 cs) (hc : cs.toList = l.map (Value.int .i64)) : IntsR w (some ⟨g, 0, none⟩) l := fun _ => by
  refine ⟨g, 0, rfl, hl.lt, fun j x hx => ?_⟩
  rw [Nat.zero_add, hl.cell, ← Array.getElem?_toList, hc, List.getElem?_map, hx]; rfl
theorem sp_take {k : Nat} (hk : k < 12) : sp15.take (k + 1) = sp15.take k ++ [reV (k : Int)] := by
  have : ∀ k, k < 12 → sp15.take (k + 1) = sp15.take k ++ [reV (k : Int)] := by decide
  exact this k hk
set_option maxHeartbeats 1500000 in
theorem roots_any15 (s : St) (A : Option Addr) (c : Nat) (w : World) (hsX : ObsR w A s.hp.objs) (fitX : s.hp.Fit) :
    Calls Try.prog 20 #[.agg #[.slice A s.hp.objs.length c, .int .i64 s.hp.cap, .int .i64 s.hp.last, .int .i64 s.proc, .int .i64 s.ready, .int .i64 s.halt, .int .i64 s.steps, .int .i64 s.used]] w (IntsOwn w (rt15 s)) := by
  obtain ⟨w0, hw0⟩ : ∃ w0, w0 = (w.alloc (.cells #[.slice A s.hp.objs.length c, .int .i64 s.hp.cap, .int .i64 s.hp.last, .int .i64 s.proc, .int .i64 s.ready, .int .i64 s.halt, .int .i64 s.steps, .int .i64 s.used] 27)) := ⟨_, rfl⟩
  have HB0 : Hid (Below w.heap.size w w0) := by show Below _ _ _; rw [hw0]; exact below_alloc w _
  have X0 : Hid (Lies w0 (w.heap.size) 27 #[.slice A s.hp.objs.length c, .int .i64 s.hp.cap, .int .i64 s.hp.last, .int .i64 s.proc, .int .i64 s.ready, .int .i64 s.halt, .int .i64 s.steps, .int .i64 s.used]) := by
    show Lies _ _ _ _
    rw [hw0]
    have := Lies.new w 27 #[.slice A s.hp.objs.length c, .int .i64 s.hp.cap, .int .i64 s.hp.last, .int .i64 s.proc, .int .i64 s.ready, .int .i64 s.halt, .int .i64 s.steps, .int .i64 s.used]
    simpa [Hid] using this
  have OX0 := hid (hsX.below HB0.out)
  have HFX := hid fitX
  have hflX := fitX.1
  clear hsX fitX
  go_enter Try.func20, Try.ntmps20
  go_upto_region 1 with fail
  rw [← hw0]
  clear hw0
  go_wp2_with fail
  go_loopw [7, 3] (fun i l wr => ∃ (k : Nat) (A3 : Option Addr) (c3 : Nat), k ≤ 12 ∧ i = .int .i64 k ∧ l = .slice A3 k c3 ∧ wr.ownsRow w0.heap.size 3 1 (.slice A3 k c3) k ((sp15.take k).map (Value.int .i64)) ∧ Below w0.heap.size w0 wr) (fun i _ _ => 12 - (intOf i).toNat)
  case atStart => exact ⟨0, none, 0, Nat.zero_le _, rfl, rfl, World.ownsRow_nil _ _ _ _, Below.refl _ _⟩
  case round =>
    rename World => w2
    obtain ⟨k, A3, c3, hk, rfl, rfl, hown, hbw⟩ := hrel
    have HW := hid hbw
    have HO := hid hown
    clear hown hbw
    by_cases hlt : k < 12
    · have HTK := hid (sp_take hlt)
      have hlt' : (k : Int) < 12 := by omega
      have hz := HW.out.size
      obtain ⟨y, hy⟩ : ∃ y, y = reV (k : Int) := ⟨_, rfl⟩
      rw [← hy] at HTK
      have HY := hid hy
      clear hy
      have HAL := hid (below_alloc w2 (.cells #[.int .i64 y] 3))
      have HO3 := hid (own_later HO.out HAL.out)
      have HN := hid (Lies.new w2 3 #[.int .i64 y])
      have hz2 : w0.heap.size ≤ (w2.alloc (.cells #[.int .i64 y] 3)).heap.size := by simp; omega
      go_wp2_with (first | (go_at_call 34; refine (ref_any _ _).mono ?_; rintro e w' ⟨rfl, rfl⟩; rw [← HY.out]) | (at_builtin; refine wpList_append_one rfl (.tmp 15) (.tmp 17) rfl w0.heap.size _ _ _ rfl HO3.out _ _ rfl HN.out (by omega) hz2 ?_))
      intro v' w' h1 h2
      obtain ⟨A4, c4, rfl⟩ := own_form h1
      have h1 : w'.ownsRow w0.heap.size 3 1 (.slice A4 (k + 1) c4) (k + 1) ((sp15.take (k + 1)).map (Value.int .i64)) := by rw [HTK.out, List.map_append, List.map_take]; exact h1
      have hb2 := HW.out.trans ((HAL.out.mono hz).grown h2 hz2 (fun q hq => (HO3.out.lt q hq).1))
      have H1 := hid h1
      have HB2 := hid hb2
      clear h1 h2 hb2
      go_wp2_with fail
      go_roundw
      case rel => exact ⟨k + 1, A4, c4, by omega, by go_num, rfl, H1.out, HB2.out⟩
      case measure => simp [intOf]; omega
    · obtain rfl : k = 12 := by omega
      have HAL := hid (below_alloc w2 (.cells #[.int .i64 s.proc, .int .i64 s.ready] 3))
      have HO3 := hid (own_later HO.out HAL.out)
      have HN := hid (Lies.new w2 3 #[.int .i64 s.proc, .int .i64 s.ready])
      have hz := HW.out.size
      have hz2 : w0.heap.size ≤ (w2.alloc (.cells #[.int .i64 s.proc, .int .i64 s.ready] 3)).heap.size := by simp; omega
      have X2 := hid (X0.out.later HW.out)
      have x3 := X2.out.cell 3
      have x4 := X2.out.cell 4
      simp only [List.getElem?_toArray, List.getElem?_cons_zero, List.getElem?_cons_succ] at x3 x4
      obtain ⟨i0, hi0, hz0, hz1, hz3⟩ := info_parts int_info
      have HIN := hid (lies_ints15 (l := [s.proc, s.ready]) HN.out rfl)
      go_wp2_with (at_builtin; refine wpList_append_ints rfl (.tmp 20) (.tmp 25) 31 rfl w0.heap.size i0 Try.underlying31 hi0 hz0 hz1 hz3 _ _ _ rfl HO3.out _ _ [s.proc, s.ready] rfl HIN.out (fun h => by cases h) (by simp) hz2 ?_)
      intro v' w' h1 h2
      obtain ⟨A4, c4, rfl⟩ := own_form h1
      have hb2 := HW.out.trans ((HAL.out.mono hz).grown h2 hz2 (fun q hq => (HO3.out.lt q hq).1))
      have H1 := hid h1
      have HB2 := hid (HB0.out.trans (hb2.mono HB0.out.size))
      clear h1 h2 hb2
      go_wp2_with fail
      go_ret
      exact ⟨A4, c4, rfl, own_lower H1.out HB0.out.size, HB2.out⟩
def rtL (s : St) : List Int := if ckB s = true then rt15 s else []
theorem rtL_yes {s : St} (h : ckB s = true) : rtL s = rt15 s := by unfold rtL; rw [if_pos h]
theorem rtL_no {s : St} (h : ckB s = false) : rtL s = [] := by unfold rtL; rw [if_neg (by rw [h]; decide)]
theorem rtL_le (s : St) : (rtL s).length ≤ 14 := by unfold rtL; split; exact Nat.le_refl 14; exact Nat.zero_le _
def IntsOf15 (w : World) (l : List Int) (e : Ending) (w' : World) : Prop := ∃ A c, e = .returned (.slice A l.length c) ∧ IntsR w' A l ∧ Below w.heap.size w w'
set_option maxHeartbeats 1500000 in
theorem croots_any15 (s : St) (A : Option Addr) (c : Nat) (w : World) (hsX : ObsR w A s.hp.objs) (fitX : s.hp.Fit) :
    Calls Try.prog 18 #[.agg #[.slice A s.hp.objs.length c, .int .i64 s.hp.cap, .int .i64 s.hp.last, .int .i64 s.proc, .int .i64 s.ready, .int .i64 s.halt, .int .i64 s.steps, .int .i64 s.used]] w (IntsOf15 w (rtL s)) := by
  obtain ⟨w0, hw0⟩ : ∃ w0, w0 = (w.alloc (.cells #[.slice A s.hp.objs.length c, .int .i64 s.hp.cap, .int .i64 s.hp.last, .int .i64 s.proc, .int .i64 s.ready, .int .i64 s.halt, .int .i64 s.steps, .int .i64 s.used] 27)) := ⟨_, rfl⟩
  have HB0 : Hid (Below w.heap.size w w0) := by show Below _ _ _; rw [hw0]; exact below_alloc w _
  have X0 : Hid (Lies w0 (w.heap.size) 27 #[.slice A s.hp.objs.length c, .int .i64 s.hp.cap, .int .i64 s.hp.last, .int .i64 s.proc, .int .i64 s.ready, .int .i64 s.halt, .int .i64 s.steps, .int .i64 s.used]) := by
    show Lies _ _ _ _
    rw [hw0]
    have := Lies.new w 27 #[.slice A s.hp.objs.length c, .int .i64 s.hp.cap, .int .i64 s.hp.last, .int .i64 s.proc, .int .i64 s.ready, .int .i64 s.halt, .int .i64 s.steps, .int .i64 s.used]
    simpa [Hid] using this
  have OX0 := hid (hsX.below HB0.out)
  have HFX := hid fitX
  have hflX := fitX.1
  obtain ⟨cI, hcI⟩ : ∃ x, x = ckI s := ⟨_, rfl⟩
  have HCI := hid hcI
  clear hcI
  clear hsX fitX
  go_enter Try.func18, Try.ntmps18
  go_upto_region 1 with fail
  rw [← hw0]
  clear hw0
  have x0 := X0.out.cell 0
  have x1 := X0.out.cell 1
  have x2 := X0.out.cell 2
  have x3 := X0.out.cell 3
  have x4 := X0.out.cell 4
  have x5 := X0.out.cell 5
  have x6 := X0.out.cell 6
  have x7 := X0.out.cell 7
  simp only [List.getElem?_toArray, List.getElem?_cons_zero, List.getElem?_cons_succ] at x0 x1 x2 x3 x4 x5 x6 x7
  go_wp2_with fail
  refine (cck_any15 s A c _ OX0.out HFX.out).mono ?_
  rintro e w1 ⟨rfl, hb⟩
  clear x0 x1 x2 x3 x4 x5 x6 x7
  rw [← HCI.out]
  have HB1 := hid (then_w HB0.out hb)
  have X1 := hid (X0.out.later hb)
  have OX1 := hid (OX0.out.below hb)
  clear hb
  clear HB0 X0 OX0
  cases hm : ckB s
  · obtain rfl : cI = 150 := HCI.out.trans (ckI_no hm)
    have E := hid (rtL_no hm)
    clear hm
    have x0 := X1.out.cell 0
    have x1 := X1.out.cell 1
    have x2 := X1.out.cell 2
    have x3 := X1.out.cell 3
    have x4 := X1.out.cell 4
    have x5 := X1.out.cell 5
    have x6 := X1.out.cell 6
    have x7 := X1.out.cell 7
    simp only [List.getElem?_toArray, List.getElem?_cons_zero, List.getElem?_cons_succ] at x0 x1 x2 x3 x4 x5 x6 x7
    go_wp2_with fail
    clear x0 x1 x2 x3 x4 x5 x6 x7
    go_ret
    exact ⟨none, 0, by rw [E.out]; rfl, by rw [E.out]; exact fun h => absurd h (by decide), HB1.out⟩
  · obtain rfl : cI = 0 := HCI.out.trans (ckI_yes hm)
    have E := hid (rtL_yes hm)
    clear hm
    have x0 := X1.out.cell 0
    have x1 := X1.out.cell 1
    have x2 := X1.out.cell 2
    have x3 := X1.out.cell 3
    have x4 := X1.out.cell 4
    have x5 := X1.out.cell 5
    have x6 := X1.out.cell 6
    have x7 := X1.out.cell 7
    simp only [List.getElem?_toArray, List.getElem?_cons_zero, List.getElem?_cons_succ] at x0 x1 x2 x3 x4 x5 x6 x7
    go_wp2_with fail
    refine (roots_any15 s A c _ OX1.out HFX.out).mono ?_
    rintro e w2 ⟨A2, c2, rfl, ho, hb⟩
    clear x0 x1 x2 x3 x4 x5 x6 x7
    have HO := hid ho
    clear ho
    have HB2 := hid (then_w HB1.out hb)
    have X2 := hid (X1.out.later hb)
    have OX2 := hid (OX1.out.below hb)
    clear hb
    clear HB1 X1 OX1
    go_wp2_with fail
    go_ret
    exact ⟨A2, c2, by rw [E.out]; rfl, by rw [E.out]; exact own_ints HO.out, HB2.out⟩
end Go.Proofs.Ytnilempeldlieaa
namespace Go.Proofs.Ytnilempeldlieaa
open Go.RowKit
set_option maxRecDepth 100000
/-- slices.Equal at []int -/
theorem equal_any (xs ys : List Int) (A B : Option Addr) (c d : Nat) (w : World) (ha : IntsR w A xs) (hb : IntsR w B ys) (hx : xs.length ≤ 9223372036854775807) :
    Calls Try.prog 32 #[.slice A xs.length c, .slice B ys.length d] w fun e w' => e = .returned (.bool (decide (xs = ys))) ∧ Below w.heap.size w w' := by
  have HA := hid ha
  have HB := hid hb
  clear ha hb
  by_cases hlen : xs.length = ys.length
  · go_enter Try.func32, Try.ntmps32
    go_wp2
    go_loopw [13] (fun i wr => ∃ k : Nat, k ≤ xs.length ∧ i = .int .i64 k ∧ xs.take k = ys.take k ∧ Below w.heap.size w wr) (fun i _ => xs.length - (intOf i).toNat)
    case atStart => exact ⟨0, Nat.zero_le _, rfl, rfl, Below.refl _ _⟩
    case round =>
      obtain ⟨k, hk, rfl, heq, hbw⟩ := hrel
      have HW := hid hbw
      have HE := hid heq
      clear hbw heq
      by_cases hlt : k < xs.length
      · obtain ⟨bs, os, rfl, hbs, hcs⟩ := HA.out (by omega)
        obtain ⟨bt, ot, rfl, hbt, hct⟩ := HB.out (by omega)
        have hlt' : k < ys.length := by omega
        have hcell : wr.cell? ⟨bs, os + k, none⟩ = some (.int .i64 xs[k]) := (HW.out.cell (p := ⟨bs, os + k, none⟩) hbs).trans (hcs k _ (List.getElem?_eq_getElem hlt))
        have hcelt : wr.cell? ⟨bt, ot + k, none⟩ = some (.int .i64 ys[k]) := (HW.out.cell (p := ⟨bt, ot + k, none⟩) hbt).trans (hct k _ (List.getElem?_eq_getElem hlt'))
        clear hcs hct
        by_cases he : xs[k] = ys[k]
        · have HXY : Hid (xs.take (k + 1) = ys.take (k + 1)) := by show _ = _; rw [List.take_succ_eq_append_getElem hlt, List.take_succ_eq_append_getElem hlt', HE.out, he]
          rw [he] at hcell
          go_wp2
          go_quiet (fail)
          go_wp2
          go_roundw
          case rel => exact ⟨k + 1, by omega, by go_num, HXY.out, below_go HW.out HW.out.size (below_drewN _ _)⟩
          case measure => simp [intOf]; omega
        · have hne : (xs[k] != ys[k]) = true := by simpa using he
          have HNE := hid he
          go_wp2
          go_quiet (fail)
          go_wp2
          go_ret
          refine ⟨?_, below_go HW.out HW.out.size (below_drewN _ _)⟩
          have : ¬ xs = ys := fun e => HNE.out (by simp [e])
          simp [this]
      · have hkn : k = xs.length := by omega
        go_wp2
        go_ret
        refine ⟨?_, HW.out⟩
        have : xs = ys := by
          have := HE.out
          rwa [hkn, List.take_length, hlen, List.take_length] at this
        simp [this]
  · have hne : (((xs.length : Int)) != (ys.length : Int)) = true := by simp; omega
    have hne2 : ¬ xs = ys := fun e => hlen (by rw [e])
    go_enter Try.func32, Try.ntmps32
    go_wp2
    go_ret
    exact ⟨by simp [hne2], Below.refl _ _⟩
end Go.Proofs.Ytnilempeldlieaa
namespace Go.Proofs.Ytnilempeldlieaa
open Go.RowKit
open Go.Maps (IsMap has_put_same has_put_other atKey_put_same atKey_put_other)
/-- the map from the old numbers to the places in the list -/
def MapIs (D : DataW Unit) (M : List Nat) : Prop := ∀ i : Nat, Maps.has D (.int .i64 i) = decide (i ∈ M) ∧ (i ∈ M → D.atKey (.int .i64 i) (.lit (.int .i64 0)) = .lit (.int .i64 (M.idxOf i)))
theorem mapIs_nil : MapIs (.map []) [] := fun i => ⟨by simp [Maps.has_eq], fun h => by simp at h⟩
theorem mapIs_put {D : DataW Unit} {M : List Nat} (h : MapIs D M) (hD : IsMap D) {i : Nat} (hi : i ∉ M) : MapIs (D.put (.int .i64 i) (.lit (.int .i64 M.length))) (M ++ [i]) := fun j => by
  by_cases e : j = i
  · subst e
    refine ⟨by rw [has_put_same (k := .int .i64 (j : Int)) hD trivial]; simp, fun _ => ?_⟩
    rw [atKey_put_same (k := .int .i64 (j : Int)) hD trivial, List.idxOf_append, if_neg hi, List.idxOf_cons_self]
    simp
  · have hne : (Lit.int .i64 (j : Int)) ≠ .int .i64 (i : Int) := fun g => by
      injection g with _ g; omega
    refine ⟨by rw [has_put_other hne, (h j).1]; simp [e], fun hm => ?_⟩
    have hm' : j ∈ M := by simpa [e] using hm
    rw [atKey_put_other hne, (h j).2 hm', List.idxOf_append, if_pos hm']
/-- a numbering that has met M -/
structure NumS (w : World) (nb mb : Nat) (A : Option Addr) (c : Nat) (M : List Nat) : Prop where
  box : Lies w nb 73 #[.map (some mb), .slice A M.length c]
  map : ∃ D : DataW Unit, w.ownsMap Try.prog 3 (plainElem Try.prog 3) mb M.length D ∧ MapIs D M
  row : w.ownsRow 0 3 1 (.slice A M.length c) M.length ((iL M).map (Value.int .i64))
/-- between the two worlds nothing turned but a numbering -/
structure Turns (w w' : World) (nb mb : Nat) (A A' : Option Addr) : Prop where
  os : w'.os = w.os
  tape : w'.tape = w.tape
  output : w'.output = w.output
  size : w.heap.size ≤ w'.heap.size
  block : ∀ k, k < w.heap.size → k ≠ nb → k ≠ mb → (∀ a, A = some a → k ≠ a.block) → w'.heap[k]? = w.heap[k]?
  new : (∀ a', A' = some a' → (∃ a, A = some a ∧ a'.block = a.block) ∨ w.heap.size ≤ a'.block)
section
variable {w w' u : World} {nb mb : Nat} {A A' B : Option Addr}
theorem Turns.refl (w : World) (nb mb : Nat) (A : Option Addr) : Turns w w nb mb A A := ⟨rfl, rfl, rfl, Nat.le_refl _, fun _ _ _ _ _ => rfl, fun a h => .inl ⟨a, h, rfl⟩⟩
theorem Turns.trans (h : Turns w w' nb mb A A') (g : Turns w' u nb mb A' B) : Turns w u nb mb A B := by
  refine ⟨g.os.trans h.os, g.tape.trans h.tape, g.output.trans h.output, Nat.le_trans h.size g.size, fun k hk h1 h2 h3 => ?_, fun a ha => ?_⟩
  · refine (g.block k (Nat.lt_of_lt_of_le hk h.size) h1 h2 fun a' ha' => ?_).trans (h.block k hk h1 h2 h3)
    rcases h.new a' ha' with ⟨a, ha, e⟩ | e
    · rw [e]; exact h3 a ha
    · omega
  · rcases g.new a ha with ⟨a', ha', e⟩ | e
    · rcases h.new a' ha' with ⟨a0, h0, e0⟩ | e0
      · exact .inl ⟨a0, h0, e.trans e0⟩
      · exact .inr (by omega)
    · exact .inr (Nat.le_trans h.size e)
theorem Turns.of_below (h : Below w.heap.size w w') (nb mb : Nat) (A : Option Addr) : Turns w w' nb mb A A := ⟨h.os, h.tape, h.output, h.size, fun k hk _ _ _ => h.block k hk, fun a h => .inl ⟨a, h, rfl⟩⟩
theorem Turns.below (h : Turns w w' nb mb A A') {b : Nat} (hb : b ≤ w.heap.size) (h1 : b ≤ nb) (h2 : b ≤ mb) (h3 : ∀ a, A = some a → b ≤ a.block) : Below b w w' :=
  ⟨h.os, h.tape, h.output, h.size, fun k hk => h.block k (by omega) (by omega) (by omega) fun a ha => by have := h3 a ha; omega⟩
theorem Turns.lies {g : Nat} {t : TypeId} {cs : Array Value} (h : Turns w w' nb mb A A') (l : Lies w g t cs) (h1 : g ≠ nb) (h2 : g ≠ mb) (h3 : ∀ a, A = some a → g ≠ a.block) : Lies w' g t cs := (h.block g l.lt h1 h2 h3).trans l
theorem map_lies {b n g : Nat} {t : TypeId} {cs : Array Value} {D : DataW Unit} (h : w.ownsMap Try.prog 3 (plainElem Try.prog 3) b n D) (l : Lies w g t cs) : g ≠ b := fun e => by
  subst e
  obtain ⟨es, clock, hb, -⟩ := h
  have : some (Obj.map es clock) = some (Obj.cells cs t (0, 0)) := hb.symm.trans l
  cases this
theorem Turns.row {base : Nat} {e : TypeId} {size n : Nat} {v : Value} {xs : List Value} (h : Turns w w' nb mb A A') (r : w.ownsRow base e size v n xs) (h1 : v.ownBlock ≠ some nb) (h2 : v.ownBlock ≠ some mb) (h3 : ∀ a, A = some a → v.ownBlock ≠ some a.block) : w'.ownsRow base e size v n xs := by
  refine ⟨r.1, ?_⟩
  rcases r.2 with hn | ⟨g, cap, cur, rfl, hb, hgg, rest⟩
  · exact .inl hn
  · refine .inr ⟨g, cap, cur, rfl, hb, ?_, rest⟩
    rw [h.block g (Array.getElem?_eq_some_iff.1 hgg).1 (fun e => h1 (by rw [← e]; rfl)) (fun e => h2 (by rw [← e]; rfl)) (fun a ha e => h3 a ha (by rw [← e]; rfl))]
    exact hgg
end
section
variable {w w' : World} {nb mb : Nat} {A : Option Addr} {c : Nat} {M : List Nat}
theorem NumS.later (s : NumS w nb mb A c M) (hb : Below w.heap.size w w') : NumS w' nb mb A c M :=
  ⟨s.box.later hb, by
    obtain ⟨D, h, hm⟩ := s.map
    exact ⟨D, h.kept (row := none) ⟨hb.os, hb.tape, hb.output, hb.size, fun k hk _ => hb.block k hk⟩ (by simp), hm⟩, own_later s.row hb⟩
theorem NumS.ne (s : NumS w nb mb A c M) : nb ≠ mb := by
  obtain ⟨D, h, -⟩ := s.map
  exact map_lies h s.box
theorem NumS.rowBlock (s : NumS w nb mb A c M) {a : Addr} (ha : A = some a) : ∃ cur, Lies w a.block 3 cur := by
  have h := s.row
  rw [ha] at h
  obtain ⟨cur, hl, -⟩ := own_blk (b := a.block) (o := a.off) (s := a.spot) h
  exact ⟨cur, hl⟩
theorem NumS.ne_row (s : NumS w nb mb A c M) {a : Addr} (ha : A = some a) : a.block ≠ nb ∧ a.block ≠ mb := by
  obtain ⟨cur, hl⟩ := s.rowBlock ha
  refine ⟨fun e => ?_, ?_⟩
  · rw [e] at hl
    have : some (Obj.cells cur 3 (0, 0)) = some (Obj.cells _ _ (0, 0)) := hl.symm.trans s.box
    have h2 : (3 : TypeId) = 73 := by
      injection this with this
      injection this
    exact absurd h2 (by decide)
  · obtain ⟨D, h, -⟩ := s.map
    exact map_lies h hl
/-- a row of another block, of whatever type, is none of the numbering's, but it lies in the list's block -/
theorem NumS.apart (s : NumS w nb mb A c M) {base : Nat} {e : TypeId} {size n : Nat} {v : Value} {xs : List Value} (r : w.ownsRow base e size v n xs) (he : e ≠ 73) : v.ownBlock ≠ some nb ∧ v.ownBlock ≠ some mb := by
  refine ⟨own_blk_ne r s.box he, fun h => ?_⟩
  obtain ⟨D, hD, -⟩ := s.map
  rcases r.2 with ⟨e0, _⟩ | ⟨b, cap, cur, e0, _, hh, _⟩
  · rw [e0] at h; cases h
  · rw [e0] at h
    obtain rfl : b = mb := by simpa [Value.ownBlock] using h
    exact map_lies hD (show Lies w b e cur from hh) rfl
end
/-- more numbers, and those that were given stay -/
theorem cnV_pre {h : Hp} {M : List Nat} {v : Int} (m : MetV h M v) (t : List Nat) : cnV h (M ++ t) v = cnV h M v := by
  unfold cnV
  by_cases hr : refB h.objs.length v = true
  · rw [if_pos hr, if_pos hr, List.idxOf_append, if_pos (m hr)]
  · rw [if_neg hr, if_neg hr]
theorem cnO_pre {h : Hp} {M : List Nat} {o : Ob} (m : ∀ v ∈ o.cls :: o.slots, MetV h M v) (t : List Nat) : cnO h (M ++ t) o = cnO h M o := by
  unfold cnO
  rw [cnV_pre (m _ (by simp)), List.map_congr_left fun v hv => cnV_pre (m v (List.mem_cons_of_mem _ hv)) t]
/-- values turned so far -/
def toK (h : Hp) (M : List Nat) (vs : List Int) (k : Nat) : List Int := (vs.take k).map (cnV h (meets h M (vs.take k)))
theorem toK_len {h : Hp} {M : List Nat} {vs : List Int} {k : Nat} (hk : k ≤ vs.length) : (toK h M vs k).length = k := by unfold toK; rw [List.length_map, List.length_take]; omega
theorem toK_all (h : Hp) (M : List Nat) (vs : List Int) : toK h M vs vs.length = vs.map (cnV h (meets h M vs)) := by unfold toK; rw [List.take_length]
theorem toK_succ {h : Hp} {M : List Nat} {vs : List Int} {k : Nat} (hk : k < vs.length) : toK h M vs (k + 1) = toK h M vs k ++ [cnV h (meetL h (meets h M (vs.take k)) vs[k]) vs[k]] := by
  unfold toK
  rw [meets_take hk, List.take_succ_eq_append_getElem hk, List.map_append]
  congr 1
  obtain ⟨t, ht⟩ := meetL_pre h (meets h M (vs.take k)) vs[k]
  rw [ht]
  exact List.map_congr_left fun v hv => cnV_pre (meets_all _ v hv) t
end Go.Proofs.Ytnilempeldlieaa
namespace Go.Proofs.Ytnilempeldlieaa
open Go.RowKit
set_option maxRecDepth 100000
theorem wpList_append_one_at {w : World} {ops : Array Oper} {rest : List Oper} {o : Oper} {a : Act} {Q : Exit → Act → World → Prop} (hgd : o.guard = none) (s x : Operand)
    (ho : o.op = .call { callee := .builtin .append, args := #[s, x], argTypes := #[31, 31] }) (base : Nat)
    (v : Value) (n : Nat) (xs : List Int) (hs : a.eval s = v) (hown : w.ownsRow base 3 1 v n (xs.map (Value.int .i64))) (y : Int) (g : Nat) (hx : a.eval x = .slice (some ⟨g, 0, none⟩) 1 1) (hg : Lies w g 3 #[.int .i64 y])
    (hn : n ≤ 1000000) (hbase : base ≤ w.heap.size)
    (h : ∀ v' w', w'.ownsRow base 3 1 v' (n + 1) ((xs ++ [y]).map (Value.int .i64)) → w.grownBy w' v.ownBlock → (v'.ownBlock = v.ownBlock ∨ v'.ownBlock = some w.heap.size) → wpList Try.prog ops Q rest (a.put o.dst v') w') : wpList Try.prog ops Q (o :: rest) a w := by
  obtain ⟨i0, hi0, hz0, hz1, hz2⟩ := info_parts int_info
  refine wpList_append_own_at _ hgd s x 31 ho base 3 i0 (.int .i64 0) 1 8 Try.underlying31 hi0 hz0 hz1 hz2 rfl (by decide) _ _ _ hs hown ⟨g, 0, none⟩ 1 1 [.int .i64 y] hx rfl ?_ ?_ (by unfold maxLen; omega) (by omega) hbase ?_
  · intro j u hu
    have := hg.cell j
    rw [Addr.add_lit, Nat.zero_add, this]
    simpa using hu
  · intro u hu
    obtain rfl : u = .int .i64 y := by simpa using hu
    rfl
  · intro v' w' h1 h2 _ h3
    exact h v' w' (by simpa using h1) h2 h3
theorem law3 : Maps.Keyed Try.prog 3 := Maps.int_keyed Try.underlying3
theorem zero3 (w : World) : (zeroValue 3).run Try.prog w = .ok (.int .i64 0) w := by kernel_rfl
/-- a value that is a SmallInteger stays -/
theorem number_small (v : Int) (nb : Nat) (w : World) (ha : atB v = false) :
    Calls Try.prog 73 #[.pointer (some ⟨nb, 0, none⟩), .int .i64 v] w fun e w' => e = .returned (.int .i64 v) ∧ w = w' := by
  go_enter Try.func73, Try.ntmps73
  go_wp2_with (first | (go_at_call 70; refine (at_any _ _).mono ?_; rintro e w' ⟨rfl, rfl⟩))
  go_ret
  exact ⟨rfl, rfl⟩
theorem number_met (i : Nat) (M : List Nat) (v : Int) (nb mb : Nat) (A : Option Addr) (c : Nat) (w : World) (s : NumS w nb mb A c M) (ha : atB v = true) (hi : atV v = i) (hi2 : i ≤ 256) (hM : M.length ≤ 256) (hm : i ∈ M) :
    Calls Try.prog 73 #[.pointer (some ⟨nb, 0, none⟩), .int .i64 v] w fun e w' => e = .returned (.int .i64 (2 * (M.idxOf i : Int))) ∧ w = w' := by
  obtain ⟨D, hD, hI⟩ := s.map
  have HD := hid hD
  have hat0 := (hI i).2 hm
  have hhas := (hI i).1
  rw [decide_eq_true hm] at hhas
  have hlt : M.idxOf i < M.length := List.idxOf_lt_length_iff.2 hm
  have c0 := s.box.cell 0
  simp only [List.getElem?_toArray, List.getElem?_cons_zero] at c0
  obtain ⟨x, hx⟩ : ∃ x : Int, x = (M.idxOf i : Int) := ⟨_, rfl⟩
  rw [← hx] at hat0 ⊢
  have hr1 : reV x = 2 * x := by unfold reV; rw [if_pos (nuB_iff.2 (by omega))]
  have HX : Hid (0 ≤ x ∧ x < 256) := by show _ ∧ _; omega
  have HAT := hid hat0
  have HH := hid hhas
  have HR := hid hr1
  have hkey : keyOf Try.prog 3 (.int .i64 (i : Int)) = some (.int .i64 (i : Int)) := Maps.keyOf_int_mk Try.underlying3 (WalkArith.wf_i64 (by omega))
  clear hD hI hm hat0 hhas hr1 hx hlt
  go_enter Try.func73, Try.ntmps73
  go_wp2_with fail
  refine (at_any _ _).mono ?_
  rintro e w' ⟨rfl, rfl⟩
  rw [hi, ha]
  go_wp2_with (first
    | (at_lookup; refine wpList_lookup_own_ok_int _ rfl _ _ 71 rfl 3 3 .i64 law3 Try.underlying71 Try.underlying3 (zero3 _) mb M.length D rfl HD.out _ _ rfl hkey ?_; intro x2 hat hwc; rw [HH.out]; obtain rfl : x = x2 := (by have := HAT.out.symm.trans hat; simpa using this))
    | fail)
  refine (ref_any _ _).mono ?_
  rintro e w' ⟨rfl, rfl⟩
  rw [HR.out]
  go_wp2_with fail
  go_ret
  exact ⟨rfl, rfl⟩
theorem turned_turns {w w1 : World} {nb mb : Nat} (h : w.mapTurned w1 mb) (A : Option Addr) : Turns w w1 nb mb A A := by
  have g := h.grown
  exact ⟨g.os, g.tape, g.output, g.size, fun k hk _ h2 _ => g.block k hk (by simpa using h2), fun a h => .inl ⟨a, h, rfl⟩⟩
theorem row_ne {A : Option Addr} {nb mb n c : Nat} (h : ∀ a, A = some a → a.block ≠ nb ∧ a.block ≠ mb) : some nb ≠ (Value.slice A n c).ownBlock := fun e => by
  cases A with
  | none => simp [Value.ownBlock] at e
  | some a => exact (h a rfl).1 (by simpa [Value.ownBlock] using e.symm)
theorem row_map {w w1 : World} {nb mb : Nat} {A : Option Addr} {n c : Nat} {xs cs : _} {t : TypeId} (h : w.mapTurned w1 mb) (hn : ∀ a, A = some a → a.block ≠ nb ∧ a.block ≠ mb) (_ : nb ≠ mb) (_ : Lies w nb t cs)
    (r : w.ownsRow 0 3 1 (.slice A n c) n xs) : w1.ownsRow 0 3 1 (.slice A n c) n xs :=
  r.kept h.grown (by
    cases A with
    | none => exact .inl rfl
    | some a => exact .inr fun e => (hn a rfl).2 (by simpa [Value.ownBlock] using e))
theorem grown_set (w : World) (p : Addr) (u : Value) : w.grownBy (w.setCell p u) (some p.block) :=
  ⟨rfl, rfl, rfl, by simp, fun k _ hk => Below.heap_setCell w p u k (fun e => hk (by rw [e]))⟩
theorem turns_grown {w w' : World} {nb mb n m c d : Nat} {A A4 : Option Addr} (h : w.grownBy w' (Value.slice A n c).ownBlock) (h3 : (Value.slice A4 m d).ownBlock = (Value.slice A n c).ownBlock ∨ (Value.slice A4 m d).ownBlock = some w.heap.size) : Turns w w' nb mb A A4 := by
  refine ⟨h.os, h.tape, h.output, h.size, fun k hk _ _ hA => h.block k hk fun e => ?_, fun a ha => ?_⟩
  · cases A with
    | none => simp [Value.ownBlock] at e
    | some a => exact hA a rfl (by simpa [Value.ownBlock] using e)
  · subst ha
    rcases h3 with e | e
    · cases A with
      | none => simp [Value.ownBlock] at e
      | some b => exact .inl ⟨b, rfl, by simpa [Value.ownBlock] using e⟩
    · exact .inr (Nat.le_of_eq (by simpa [Value.ownBlock] using e.symm))
theorem turns_set (w : World) (nb mb o : Nat) (A : Option Addr) (u : Value) : Turns w (w.setCell ⟨nb, o, none⟩ u) nb mb A A :=
  ⟨rfl, rfl, rfl, by simp, fun k _ h1 _ _ => Below.heap_setCell w _ u k h1, fun a h => .inl ⟨a, h, rfl⟩⟩
theorem num_end {w w1 w' : World} {nb mb c c4 i : Nat} {A A4 : Option Addr} {M : List Nat} {D : DataW Unit} (ht : w.mapTurned w1 mb) (ho : w1.ownsMap Try.prog 3 (plainElem Try.prog 3) mb (M.length + 1) D) (hm : MapIs D (M ++ [i])) (hne : nb ≠ mb) (hnr : ∀ a, A = some a → a.block ≠ nb ∧ a.block ≠ mb)
    (hb : Lies w' nb 73 #[.map (some mb), .slice A M.length c]) (h1 : w'.ownsRow 0 3 1 (.slice A4 (M.length + 1) c4) (M.length + 1) ((iL M).map (Value.int .i64) ++ [.int .i64 (i : Int)]))
    (h2 : (w1.alloc (.cells #[.int .i64 (i : Int)] 3)).grownBy w' (Value.slice A M.length c).ownBlock) (h3 : (Value.slice A4 (M.length + 1) c4).ownBlock = (Value.slice A M.length c).ownBlock ∨ (Value.slice A4 (M.length + 1) c4).ownBlock = some (w1.heap.size + 1)) :
    NumS (w'.setCell ⟨nb, 1, none⟩ (.slice A4 (M.length + 1) c4)) nb mb A4 c4 (M ++ [i]) ∧ Turns w (w'.setCell ⟨nb, 1, none⟩ (.slice A4 (M.length + 1) c4)) nb mb A A4 := by
  have hl : (M ++ [i]).length = M.length + 1 := by simp
  have hiL : (iL (M ++ [i])).map (Value.int .i64) = (iL M).map (Value.int .i64) ++ [.int .i64 (i : Int)] := by unfold iL; simp
  refine ⟨⟨?_, ⟨D, ?_, hm⟩, ?_⟩, ?_⟩
  · rw [hl]
    have := hb.set_ 1 (.slice A4 (M.length + 1) c4)
    simpa using this
  · rw [hl]
    refine ((ho.alloc _).kept h2 fun e => ?_).setCell (a := ⟨nb, 1, none⟩) (fun e => hne e.symm) _
    cases A with
    | none => simp [Value.ownBlock] at e
    | some a => exact (hnr a rfl).2 (by simpa [Value.ownBlock] using e.symm)
  · rw [hl, hiL]
    exact h1.kept (grown_set w' ⟨nb, 1, none⟩ _) (.inr (own_blk_ne h1 hb (by decide)))
  · refine (turned_turns ht A).trans ((Turns.of_below (below_alloc w1 _) nb mb A).trans ((turns_grown (m := M.length + 1) (d := c4) h2 ?_).trans (turns_set w' nb mb 1 A4 _)))
    simpa using h3
set_option maxHeartbeats 1500000 in
theorem number_new (i : Nat) (M : List Nat) (v : Int) (nb mb : Nat) (A : Option Addr) (c : Nat) (w : World) (s : NumS w nb mb A c M) (ha : atB v = true) (hi : atV v = i) (hi2 : i ≤ 256) (hM : M.length ≤ 256) (hm : i ∉ M) :
    Calls Try.prog 73 #[.pointer (some ⟨nb, 0, none⟩), .int .i64 v] w fun e w' => ∃ A' c', e = .returned (.int .i64 (2 * (M.length : Int))) ∧ NumS w' nb mb A' c' (M ++ [i]) ∧ Turns w w' nb mb A A' := by
  obtain ⟨D, hD, hI⟩ := s.map
  have hne := s.ne
  have hrow := s.row
  have hnr : ∀ a, A = some a → a.block ≠ nb ∧ a.block ≠ mb := fun a h => s.ne_row h
  have hbox := s.box
  have hhas := (hI i).1
  rw [decide_eq_false hm] at hhas
  have c0 := s.box.cell 0
  simp only [List.getElem?_toArray, List.getElem?_cons_zero] at c0
  have c1 := s.box.cell 1
  simp only [List.getElem?_toArray, List.getElem?_cons_zero, List.getElem?_cons_succ] at c1
  obtain ⟨x, hx⟩ : ∃ x : Nat, x = M.length := ⟨_, rfl⟩
  have hPUT := mapIs_put hI hD.isMap hm
  have hcl := cast_len M
  have hiL : iL M ++ [(i : Int)] = iL (M ++ [i]) := by unfold iL; rw [List.map_append]; rfl
  have hl1 : (M ++ [i]).length = M.length + 1 := by simp
  have HIL := hid hiL
  have HL1 := hid hl1
  have HPUT := hid hPUT
  have HHAS := hid hhas
  have HROW := hid hrow
  have HBOX := hid hbox
  have HD := hid hD
  have HNR := hid hnr
  have HNE := hid hne
  have hr1 : reV (M.length : Int) = 2 * (M.length : Int) := by unfold reV; rw [if_pos (nuB_iff.2 (by omega))]
  have HR := hid hr1
  have hkey : keyOf Try.prog 3 (.int .i64 (i : Int)) = some (.int .i64 (i : Int)) := Maps.keyOf_int_mk Try.underlying3 (WalkArith.wf_i64 (by omega))
  clear hD hI hm hhas hr1 hrow hbox hPUT hiL hl1 hnr hne s hx hcl
  go_enter Try.func73, Try.ntmps73
  go_wp2_with fail
  refine (at_any _ _).mono ?_
  rintro e w' ⟨rfl, rfl⟩
  rw [hi, ha]
  go_upto_region 8 with (first
    | (at_lookup; refine wpList_lookup_own_ok_int _ rfl _ _ 71 rfl 3 3 .i64 law3 Try.underlying71 Try.underlying3 (zero3 _) mb M.length D rfl HD.out _ _ rfl hkey ?_; intro x2 hat hwc; rw [HHAS.out])
    | (at_mapUpdate; (refine wpList_mapUpdate_in _ rfl _ _ _ 71 rfl 3 3 law3 Try.underlying71 _ mb M.length D rfl HD.out (by unfold maxLen; omega) _ _ _ rfl rfl hkey _ [] (plainElem_int Try.underlying3 (WalkArith.wf_i64 (by omega))) ?_); intro w1 hown1 hturn1; have HO1 := hid hown1; have HT1 := hid hturn1; have HB1 := hid (Turns.lies (turned_turns (nb := mb) hturn1 none) HBOX.out HNE.out HNE.out (by simp)); have c1' := HB1.out.cell 1; simp only [List.getElem?_toArray, List.getElem?_cons_zero, List.getElem?_cons_succ] at c1'; clear hown1 hturn1; clear hwc hat c0 c1; have HAL := hid (below_alloc w1 (.cells #[.int .i64 (i : Int)] 3)); have HROW1 := hid (row_map HT1.out HNR.out HNE.out HBOX.out HROW.out); have HROW2 := hid (own_later HROW1.out HAL.out); have HN := hid (Lies.new w1 3 #[.int .i64 (i : Int)]); have HB2 := hid (HB1.out.later HAL.out))
    | fail)
  go_wp2_with (at_builtin; refine wpList_append_one_at rfl (.tmp 45) (.tmp 47) rfl 0 _ _ _ rfl HROW2.out _ _ rfl HN.out (by omega) (Nat.zero_le _) ?_)
  intro v' w' h1 h2 h3
  obtain ⟨A4, c4, rfl⟩ := own_form h1
  have HB3 := hid (HB2.out.grown h2 (row_ne HNR.out))
  have f3 := HB3.out.frozen 1
  have c3 := HB3.out.cell 1
  simp only [List.getElem?_toArray, List.getElem?_cons_zero, List.getElem?_cons_succ] at c3
  have H1 := hid h1
  have H2 := hid h2
  have H3 := hid h3
  clear h1 h2 h3
  go_wp2_with fail
  refine (ref_any _ _).mono ?_
  rintro e w2 ⟨rfl, rfl⟩
  rw [HR.out]
  go_wp2_with fail
  go_ret
  obtain ⟨e1, e2⟩ := num_end HT1.out HO1.out HPUT.out HNE.out HNR.out HB3.out H1.out H2.out H3.out
  exact ⟨A4, c4, rfl, e1, e2⟩
/-- what a value stands for, and who is met by it -/
theorem number6_any (h : Hp) (M : List Nat) (v : Int) (nb mb : Nat) (A : Option Addr) (c : Nat) (w : World) (s : NumS w nb mb A c M) (hv : hasB h.objs.length v = true) (hn : h.objs.length ≤ 256) (hM : M.length ≤ 256) :
    Calls Try.prog 73 #[.pointer (some ⟨nb, 0, none⟩), .int .i64 v] w fun e w' => ∃ A' c', e = .returned (.int .i64 (cnV h (meetL h M v) v)) ∧ NumS w' nb mb A' c' (meetL h M v) ∧ Turns w w' nb mb A A' := by
  cases hr : refB h.objs.length v
  · have e : meetL h M v = M := by unfold meetL; rw [if_neg (by rw [hr]; simp)]
    have ha : atB v = false := by
      have h1 := nB_iff.1 (has_not hv hr)
      cases ha : atB v
      · rfl
      · have := atB_iff.1 ha; omega
    rw [e, cn_small hr]
    refine (number_small v nb w ha).mono ?_
    rintro e w' ⟨rfl, rfl⟩
    exact ⟨A, c, rfl, s, .refl _ _ _ _⟩
  · obtain ⟨ha, h0, h1⟩ := refB_no hr
    obtain ⟨i, hi⟩ : ∃ i : Nat, atV v = i := ⟨(atV v).toNat, by omega⟩
    have hit : (atV v).toNat = i := by omega
    rw [cn_ref hr, hit]
    by_cases hm : i ∈ M
    · have e : meetL h M v = M := by unfold meetL; rw [if_neg (by rw [hit]; exact fun c => c.2 hm)]
      rw [e]
      refine (number_met i M v nb mb A c w s ha hi (by omega) hM hm).mono ?_
      rintro e w' ⟨rfl, rfl⟩
      exact ⟨A, c, rfl, s, .refl _ _ _ _⟩
    · have e : meetL h M v = M ++ [i] := by unfold meetL; rw [if_pos ⟨hr, by rw [hit]; exact hm⟩, hit]
      have e2 : (M ++ [i]).idxOf i = M.length := by rw [List.idxOf_append, if_neg hm, List.idxOf_cons_self, Nat.zero_add]
      rw [e, e2]
      exact number_new i M v nb mb A c w s ha hi (by omega) hM hm
end Go.Proofs.Ytnilempeldlieaa
