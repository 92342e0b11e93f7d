/- The document's place, Table and Values walked. A new object of zeros: blank; whether there is room: noRoom. move.moved walked; an object appended to a row of the call's own. -/
import Derived.Test.YtnilempeldlieaaGreatM14
import Derived.Test.YtnilempeldlieaaGreatM16
import Derived.Test.YtnilempeldlieaaGreatWNL
import Derived.Test.YtnilempeldlieaaGreatM05
import Derived.Test.YtnilempeldlieaaGreatZ
import Derived.Lib.AppendZeros
import Derived.Lib.Repeat
namespace Go.Proofs.YtnilempeldlieaaGreat
open Go.RowKit
set_option maxRecDepth 100000
theorem plI_succ (L : List Int) (x : Int) (k : Nat) (hk : k < L.length) : plI (L.take (k + 1)) x = plI (L.take k) x + if L[k] < x then 1 else 0 := by
  unfold plI
  rw [List.take_succ_eq_append_getElem hk, List.filter_append, List.length_append]
  congr 1
  by_cases g : L[k] < x
  · rw [if_pos g, List.filter_cons_of_pos (by simpa using g)]; rfl
  · rw [if_neg g, List.filter_cons_of_neg (by simpa using g)]; rfl
theorem place5_any (L : List Int) (x : Int) (A : Option Addr) (c : Nat) (w : World) (hs : IntsR w A L) (hl : L.length ≤ 100000) :
    Calls Tryz.prog 101 #[.slice A L.length c, .int .i64 x] w fun e w' => e = .returned (.int .i64 (plI L x)) ∧ w = w' := by
  have HS := hid hs
  clear hs
  go_enter Tryz.func101, Tryz.ntmps101
  go_wp2
  go_loopw [5, 6] (fun s i wr => ∃ k : Nat, k ≤ L.length ∧ i = .int .i64 k ∧ s = .int .i64 (plI (L.take k) x) ∧ wr = w) (fun _ i _ => L.length - (intOf i).toNat)
  case atStart => exact ⟨0, Nat.zero_le _, rfl, rfl, rfl⟩
  case round =>
    obtain ⟨k, hk, rfl, rfl, rfl⟩ := hrel
    have hpk : plI (L.take k) x ≤ k := by have := plI_le (L.take k) x; rw [List.length_take] at this; omega
    by_cases hlt : k < L.length
    · obtain ⟨b, o, rfl, hb, hc⟩ := HS.out (by omega)
      have hcell := hc k _ (List.getElem?_eq_getElem hlt)
      have hps := plI_succ L x k hlt
      clear hc
      by_cases he : L[k] < x
      · rw [if_pos he] at hps
        have HPS := hid hps
        clear hps
        go_wp2
        go_roundw
        case rel => exact ⟨k + 1, by omega, by go_num, by rw [HPS.out]; go_num, by first | rfl | trivial⟩
        case measure => simp [intOf]; omega
      · rw [if_neg he] at hps
        have HPS : Hid (plI (L.take (k + 1)) x = plI (L.take k) x) := hps
        have he2 : x ≤ L[k] := by omega
        clear hps he
        go_wp2
        go_roundw
        case rel => exact ⟨k + 1, by omega, by go_num, by rw [HPS.out], by first | rfl | trivial⟩
        case measure => simp [intOf]; omega
    · obtain rfl : k = L.length := by omega
      go_wp2
      go_ret
      exact ⟨by rw [List.take_length]; rfl, rfl⟩
def rangeF (f : Nat → Int) (k : Nat) : List Int := (List.range k).map f
theorem rangeF_len (f : Nat → Int) (k : Nat) : (rangeF f k).length = k := by simp [rangeF]
theorem range_succ_map (f : Nat → Int) (k : Nat) : rangeF f (k + 1) = rangeF f k ++ [f k] := by unfold rangeF; rw [List.range_succ, List.map_append]; rfl
theorem tab_nat {h : Hp} {rs : List Int} {k : Nat} :
    ((k : Int) ∈ liveL h rs ∧ newK (liveN h rs) (liveN h rs).length k = (plI (liveL h rs) k : Int)) ∨ ((k : Int) ∉ liveL h rs ∧ newK (liveN h rs) (liveN h rs).length k = -1) := by
  by_cases g : k ∈ liveN h rs
  · exact .inl ⟨mem_liveL_nat.2 g, by rw [newK_in g, plI_live g]⟩
  · exact .inr ⟨fun m => g (mem_liveL_nat.1 m), newK_out g⟩
set_option maxHeartbeats 2000000 in
theorem rtable_any (h : Hp) (rs : List Int) (A R : Option Addr) (c d : Nat) (w : World) (hs : ObsR w A h.objs) (fit : h.Fit) (hr : IntsR w R rs) (hl : rs.length ≤ 9223372036854775807) :
    Calls Tryz.prog 53 #[.agg #[.slice A h.objs.length c, .int .i64 h.cap, .int .i64 h.last], .slice R rs.length d] w (IntsTwo w (tabL h rs) (liE h rs)) := by
  have HB0 := hid (below_alloc w (.cells #[Value.slice A h.objs.length c, Value.int .i64 h.cap, Value.int .i64 h.last] 24))
  have X0 := hid (Lies.new w 24 #[Value.slice A h.objs.length c, Value.int .i64 h.cap, Value.int .i64 h.last])
  have HS := hid hs
  have HF := hid fit
  have HR := hid hr
  clear hs fit hr
  by_cases he : liE h rs = 0
  · have hle := may_len (li_ok he).1
    have HT := hid (tabL_yes he)
    have HTN : Hid (∀ k, k < h.objs.length → ((k : Int) ∈ liveL h rs ∧ newK (liveN h rs) (liveN h rs).length k = (plI (liveL h rs) k : Int)) ∨ ((k : Int) ∉ liveL h rs ∧ newK (liveN h rs) (liveN h rs).length k = -1)) := fun k _ => tab_nat
    have hlN := liveN_le h rs
    have hLe := liveL_length h rs
    have HLL : Hid (liL h rs = liveL h rs) := (li_ok he).2.2
    obtain ⟨L, hL⟩ : ∃ L, L = liveL h rs := ⟨_, rfl⟩
    obtain ⟨f, hf⟩ : ∃ f, f = newK (liveN h rs) (liveN h rs).length := ⟨_, rfl⟩
    rw [← hL] at HTN hLe HLL
    rw [← hf] at HTN HT
    rw [he]
    go_enter Tryz.func53, Tryz.ntmps53
    go_wp2_with fail
    refine (rlive_any h rs A R c d _ (HS.out.below HB0.out) HF.out (HR.out.below HB0.out) hl).mono ?_
    rintro e w1 ⟨A1, c1, rfl, hi1, -, -, hb1⟩
    rw [he, HLL.out]
    rw [HLL.out] at hi1
    have HB1 := hid (HB0.out.trans (hb1.mono (by simp)))
    have X1 := hid (X0.out.later hb1)
    have HI1 := hid hi1
    have hL256 : L.length ≤ 256 := by omega
    have hw01 : w.heap.size < w1.heap.size := X1.out.lt
    clear hi1 hb1 hL hf hLe hlN
    have EE := hid (own_empty w1)
    have EB := hid (below_alloc w1 (.cells #[] 3))
    have XE := hid (X1.out.later EB.out)
    go_wp2_with fail
    go_loopw [9, 8] (fun i s wr => ∃ (k : Nat) (A3 : Option Addr) (c3 : Nat), k ≤ h.objs.length ∧ i = .int .i64 k ∧ s = .slice A3 (rangeF f k).length c3 ∧ wr.ownsRow w1.heap.size 3 1 (.slice A3 (rangeF f k).length c3) (rangeF f k).length ((rangeF f k).map (Value.int .i64)) ∧ Lies wr w.heap.size 24 #[Value.slice A h.objs.length c, Value.int .i64 h.cap, Value.int .i64 h.last] ∧ Below w1.heap.size w1 wr) (fun i _ _ => h.objs.length - (intOf i).toNat)
    case atStart => exact ⟨0, _, _, Nat.zero_le _, rfl, rfl, EE.out, XE.out, EB.out⟩
    case round =>
      clear EE EB XE
      obtain ⟨k, A3, c3, hk, rfl, rfl, hown, hbox, hbw⟩ := hrel
      rename World => wj
      have HW := hid hbw
      have HO := hid hown
      have HX := hid hbox
      have hpl := Nat.le_of_eq (rangeF_len f k)
      have x0 := hbox.cell 0
      simp only [List.getElem?_toArray, List.getElem?_cons_zero] at x0
      clear hown hbw hbox
      by_cases hlt : k < h.objs.length
      · go_wp2_with fail
        refine (in_any L k A1 c1 wj (HI1.out.below HW.out) (by omega)).mono ?_
        rintro e w2 ⟨rfl, hb2⟩
        have HW2 := hid (HW.out.trans (hb2.mono HW.out.size))
        have HO2 := hid (own_later HO.out hb2)
        have HX2 := hid (HX.out.later hb2)
        have hz := HW2.out.size
        have HRS := hid (range_succ_map f k)
        clear hb2 x0
        rcases HTN.out k hlt with ⟨hin, hfk⟩ | ⟨hin, hfk⟩
        · rw [decide_eq_true hin]
          have HFK := hid hfk
          clear hin hfk
          go_wp2_with fail
          refine (place5_any L k A1 c1 w2 (HI1.out.below HW2.out) (by omega)).mono ?_
          rintro e w3 ⟨rfl, rfl⟩
          rw [← HFK.out]
          have HAL := hid (below_alloc w2 (.cells #[.int .i64 (f k)] 3))
          have HO3 := hid (own_later HO2.out HAL.out)
          have HN := hid (Lies.new w2 3 #[.int .i64 (f k)])
          have hz2 : w1.heap.size ≤ (w2.alloc (.cells #[.int .i64 (f k)] 3)).heap.size := by simp; omega
          go_wp2_with (at_builtin; refine wpList_append_one rfl (.tmp 30) (.tmp 34) rfl w1.heap.size _ _ _ rfl HO3.out _ _ rfl HN.out (by omega) hz2 ?_)
          intro v' w' h1 h2
          obtain ⟨A4, c4, rfl⟩ := own_form h1
          have hps := congrArg List.length HRS.out
          rw [List.length_append, List.length_singleton] at hps
          have h1 : w'.ownsRow w1.heap.size 3 1 (.slice A4 (rangeF f (k + 1)).length c4) (rangeF f (k + 1)).length ((rangeF f (k + 1)).map (Value.int .i64)) := by rw [hps, HRS.out, List.map_append]; exact h1
          have hb2 := HW2.out.trans ((HAL.out.mono hz).grown h2 hz2 (fun q hq => (HO3.out.lt q hq).1))
          have hx4 := (HX2.out.later HAL.out).grown h2 (fun e => own_blk_ne HO3.out (HX2.out.later HAL.out) (by decide) e.symm)
          have H1 := hid h1
          have HB2 := hid hb2
          have HX4 := hid hx4
          have HPL := hid hps
          clear h1 h2 hb2 hps hx4
          go_wp2_with fail
          go_roundw
          case rel => exact ⟨k + 1, A4, c4, by omega, by go_num, by rw [HPL.out], H1.out, HX4.out, HB2.out⟩
          case measure => simp [intOf]; omega
        · rw [decide_eq_false hin]
          have HFK := hid hfk
          clear hin hfk
          have HAL := hid (below_alloc w2 (.cells #[.int .i64 (-1)] 3))
          have HO3 := hid (own_later HO2.out HAL.out)
          have HN := hid (Lies.new w2 3 #[.int .i64 (-1)])
          have hz2 : w1.heap.size ≤ (w2.alloc (.cells #[.int .i64 (-1)] 3)).heap.size := by simp; omega
          go_wp2_with (at_builtin; refine wpList_append_one rfl (.tmp 36) (.tmp 37) rfl w1.heap.size _ _ _ rfl HO3.out _ _ rfl HN.out (by omega) hz2 ?_)
          intro v' w' h1 h2
          obtain ⟨A4, c4, rfl⟩ := own_form h1
          have hps := congrArg List.length HRS.out
          rw [List.length_append, List.length_singleton] at hps
          have h1 : w'.ownsRow w1.heap.size 3 1 (.slice A4 (rangeF f (k + 1)).length c4) (rangeF f (k + 1)).length ((rangeF f (k + 1)).map (Value.int .i64)) := by rw [hps, HRS.out, HFK.out, List.map_append]; exact h1
          have hb2 := HW2.out.trans ((HAL.out.mono hz).grown h2 hz2 (fun q hq => (HO3.out.lt q hq).1))
          have hx4 := (HX2.out.later HAL.out).grown h2 (fun e => own_blk_ne HO3.out (HX2.out.later HAL.out) (by decide) e.symm)
          have H1 := hid h1
          have HB2 := hid hb2
          have HX4 := hid hx4
          have HPL := hid hps
          clear h1 h2 hb2 hps hx4
          go_wp2_with fail
          go_roundw
          case rel => exact ⟨k + 1, A4, c4, by omega, by go_num, by rw [HPL.out], H1.out, HX4.out, HB2.out⟩
          case measure => simp [intOf]; omega
      · obtain rfl : k = h.objs.length := by omega
        go_wp2_with fail
        go_ret2
        rw [HT.out]
        show IntsTwo w (rangeF f h.objs.length) 0 _ _
        exact ⟨A3, c3, rfl, own_ints HO.out, own_nil HO.out, own_cap HO.out, then_b HB1.out HW.out⟩
  · have e1 : tabL h rs = [] := tabL_no he
    have e2 : liL h rs = [] := by unfold liL; rw [if_neg he]
    have hne : (liE h rs != 0) = true := by simpa using he
    rw [e1]
    obtain ⟨en, hen⟩ : ∃ en, en = liE h rs := ⟨_, rfl⟩
    rw [← hen] at hne ⊢
    have HEN := hid hen
    clear e1 hen he
    go_enter Tryz.func53, Tryz.ntmps53
    go_wp2_with fail
    refine (rlive_any h rs A R c d _ (HS.out.below HB0.out) HF.out (HR.out.below HB0.out) hl).mono ?_
    rintro e w1 ⟨A1, c1, rfl, -, -, -, hb1⟩
    rw [← HEN.out]
    have HB1 := hid (HB0.out.trans (hb1.mono (by simp)))
    clear hb1
    go_wp2_with fail
    go_ret2
    exact ⟨none, 0, rfl, fun hn => by simp at hn, fun _ => rfl, Nat.le_refl _, HB1.out⟩
def takeF (t l : List Int) (k : Nat) : List Int := (l.take k).map (vaV t)
theorem takeF_all (t l : List Int) : takeF t l l.length = l.map (vaV t) := by unfold takeF; rw [List.take_length]
theorem take_map (t l : List Int) (k : Nat) (hk : k < l.length) : takeF t l (k + 1) = takeF t l k ++ [vaV t l[k]] := by
  unfold takeF
  rw [List.take_succ_eq_append_getElem hk, List.map_append]; rfl
set_option maxHeartbeats 2000000 in
theorem rvalues_any (t l : List Int) (A B : Option Addr) (c d : Nat) (w : World) (ht : IntsR w A t) (hl : IntsR w B l) (htl : t.length ≤ 9223372036854775807) (hll : l.length ≤ 100000) :
    Calls Tryz.prog 54 #[.slice A t.length c, .slice B l.length d] w (IntsOwn w (l.map (vaV t))) := by
  have HT := hid ht
  have HL := hid hl
  clear ht hl
  have EE := hid (own_empty w)
  have EB := hid (below_alloc w (.cells #[] 3))
  go_enter Tryz.func54, Tryz.ntmps54
  go_wp2_with fail
  go_loopw [6, 5] (fun i s wr => ∃ (k : Nat) (A3 : Option Addr) (c3 : Nat), k ≤ l.length ∧ i = .int .i64 k ∧ s = .slice A3 (takeF t l k).length c3 ∧ wr.ownsRow w.heap.size 3 1 (.slice A3 (takeF t l k).length c3) (takeF t l k).length ((takeF t l k).map (Value.int .i64)) ∧ Below w.heap.size w wr) (fun i _ _ => l.length - (intOf i).toNat)
  case atStart => exact ⟨0, _, _, Nat.zero_le _, rfl, rfl, EE.out, EB.out⟩
  case round =>
    clear EE EB
    obtain ⟨k, A3, c3, hk, rfl, rfl, hown, hbw⟩ := hrel
    rename World => wj
    have HW := hid hbw
    have HO := hid hown
    have hpl : (takeF t l k).length ≤ k := by unfold takeF; rw [List.length_map, List.length_take]; omega
    clear hown hbw
    by_cases hlt : k < l.length
    · obtain ⟨b, o, rfl, hb, hc⟩ := HL.out (by omega)
      have hcell := (HW.out.cell (p := ⟨b, o + k, none⟩) hb).trans (hc k _ (List.getElem?_eq_getElem hlt))
      clear hc
      go_wp2_with fail
      refine (rvalue_any t l[k] A c _ (HT.out.below HW.out) htl).mono ?_
      rintro e w2 ⟨rfl, rfl⟩
      have HRS := hid (take_map t l k hlt)
      have hz := HW.out.size
      have HAL := hid (below_alloc w2 (.cells #[.int .i64 (vaV t l[k])] 3))
      have HO3 := hid (own_later HO.out HAL.out)
      have HN := hid (Lies.new w2 3 #[.int .i64 (vaV t l[k])])
      have hz2 : w.heap.size ≤ (w2.alloc (.cells #[.int .i64 (vaV t l[k])] 3)).heap.size := by simp; omega
      go_wp2_with (at_builtin; refine wpList_append_one rfl (.tmp 25) (.tmp 27) rfl w.heap.size _ _ _ rfl HO3.out _ _ rfl HN.out (by omega) hz2 ?_)
      intro v' w' h1 h2
      obtain ⟨A4, c4, rfl⟩ := own_form h1
      have hps := congrArg List.length HRS.out
      rw [List.length_append, List.length_singleton] at hps
      have h1 : w'.ownsRow w.heap.size 3 1 (.slice A4 (takeF t l (k + 1)).length c4) (takeF t l (k + 1)).length ((takeF t l (k + 1)).map (Value.int .i64)) := by rw [hps, HRS.out, List.map_append]; exact h1
      have hb2 := HW.out.trans ((HAL.out.mono hz).grown h2 hz2 (fun q hq => (HO3.out.lt q hq).1))
      have H1 := hid h1
      have HB2 := hid hb2
      have HPL := hid hps
      clear h1 h2 hb2 hps
      go_wp2_with fail
      go_roundw
      case rel => exact ⟨k + 1, A4, c4, by omega, by go_num, by rw [HPL.out], H1.out, HB2.out⟩
      case measure => simp [intOf]; omega
    · obtain rfl : k = l.length := by omega
      go_wp2_with fail
      go_ret
      have hO := HO.out
      rw [takeF_all] at hO
      exact ⟨A3, c3, by rw [takeF_all]; rfl, hO, HW.out⟩
end Go.Proofs.YtnilempeldlieaaGreat
namespace Go.Proofs.YtnilempeldlieaaGreat
open Go.RowKit
def zeroT (n : Nat) : ByteArray := ⟨(Lib.repeatL [0] n).toArray⟩
def blankO (kind : Int) (n : Nat) : Ob := ⟨0, kind, if kind = 0 then List.replicate n 0 else [], if kind = 1 then zeroT n else ⟨#[]⟩, 0, 0⟩
/-- an object is returned, its slots in memory of the call's own -/
def ObjOwn (w : World) (o : Ob) (e : Ending) (w' : World) : Prop := ∃ S c, e = .returned (.agg #[.int .i64 o.cls, .int .i64 o.kind, .slice S o.slots.length c, .string o.text, .int .i64 o.bits, .int .i64 o.hash]) ∧ w'.ownsRow w.heap.size 3 1 (.slice S o.slots.length c) o.slots.length (o.slots.map (Value.int .i64)) ∧ Below w.heap.size w w'
theorem zeroT_size (n : Nat) : (zeroT n).size = n := by
  unfold zeroT
  show (Lib.repeatL [0] n).toArray.size = n
  rw [List.size_toArray]
  induction n with
  | zero => simp [Lib.repeatL]
  | succ n ih =>
    simp [Lib.repeatL] at ih ⊢
    exact ih
theorem repeat_zero : zeroT 0 = ⟨#[]⟩ := by simp [zeroT, Lib.repeatL]
set_option maxRecDepth 100000 in
set_option maxHeartbeats 2000000 in
theorem blank_two (w : World) : Calls Tryz.prog 235 #[.int .i64 2, .int .i64 0] w (ObjOwn w (blankO 2 0)) := by
  have HB0 := hid (below_alloc2 w (.cells #[.int .i64 0, .int .i64 2, .slice none 0 0, .string ⟨#[]⟩, .int .i64 0, .int .i64 0] 41) (.cells #[.int .i64 0, .int .i64 2, .slice none 0 0, .string ⟨#[]⟩, .int .i64 0, .int .i64 0] 41))
  go_enter Tryz.func235, Tryz.ntmps235
  go_wp2
  refine bodyPost_ret (v := .agg #[.int .i64 0, .int .i64 2, .slice none 0 0, .string ⟨#[]⟩, .int .i64 0, .int .i64 0]) (by simp [results, Tryz.results235, go_sem]) rfl ?_
  exact ⟨none, 0, rfl, World.ownsRow_nil _ _ _ _, HB0.out⟩
theorem run_append_zero {P : Program} (w : World) (t tn ty e : TypeId) (i : TypeInfo) (kn : IntKind) (ht : P.underlying t = some (.slice e)) (htn : P.underlying tn = some (.int kn)) (hi : P.info? e = some i) :
    (Builtin.append_ #[t, tn] ty #[.slice none 0 0, .int .i64 0]).run P w = .ok (.slice none 0 0) w := by
  simp [Builtin.append_, run_underlying ht, run_underlying htn, sizeOf, typeInfo, hi, Builtin.lenOf, asInt, asIntOf, IntKind.wrap_i64]
theorem zeroCells_one (v : Value) (n : Nat) : (Builtin.zeroCells #[v] n).toList = List.replicate n v := by
  unfold Builtin.zeroCells
  have h : (fun i => (#[v] : Array Value)[i % (#[v] : Array Value).size]!) = fun _ => v := by
    funext i
    have : i % (#[v] : Array Value).size = 0 := Nat.mod_one i
    rw [this]; rfl
  rw [h]
  apply List.ext_getElem?
  intro j
  simp [List.getElem?_replicate]
  by_cases e : j < n <;> simp [e]
theorem run_zeros (w : World) (n : Nat) (hn : n ≤ 64) : ∃ A c w', (Builtin.append_ #[34, 3] 34 #[.slice none 0 0, .int .i64 n]).run Tryz.prog w = .ok (.slice A n c) w' ∧ w'.ownsRow w.heap.size 3 1 (.slice A n c) n ((List.replicate n (0 : Int)).map (Value.int .i64)) ∧ Below w.heap.size w w' := by
  obtain ⟨i0, hi, hz0, hz1, hz2⟩ := info_parts int_info
  by_cases h0 : n = 0
  · subst h0
    exact ⟨none, 0, w, run_append_zero (P := Tryz.prog) w 34 3 34 3 i0 .i64 Tryz.underlying34 Tryz.underlying3 hi, World.ownsRow_nil _ _ _ _, Below.refl _ _⟩
  · refine ⟨_, _, _, Lib.run_append_nil_zeros (P := Tryz.prog) w 34 3 34 3 i0 (.int .i64 0) .i64 .i64 Tryz.underlying34 Tryz.underlying3 hi hz0 n (by omega) (by omega) (by omega) (by rw [hz2]; omega), ⟨by simp, .inr ⟨w.heap.size, _, _, rfl, Nat.le_refl _, heap_alloc_new w.drew _, grownCap_ge w n 0 3, grownCap_le_maxLen w n 0 3 (by unfold maxLen; omega), ?_, ?_⟩⟩, ?_⟩
    · have := grownCap_ge w n 0 3
      simp only [Array.size_append, size_zeroCells]
      show n * 1 + (grownCap w n 0 3 - n) * 1 = grownCap w n 0 3 * 1
      omega
    · show List.take (n * 1) (Builtin.zeroCells #[Value.int .i64 0] n ++ Builtin.zeroCells #[Value.int .i64 0] _).toList = _
      rw [Array.toList_append, zeroCells_one, Nat.mul_one, List.take_left' (by simp), List.map_replicate]
    · exact (Below.refl _ _).drew.trans ((Below.refl _ w.drew).alloc (Nat.le_refl _) _)
set_option maxRecDepth 100000 in
set_option maxHeartbeats 2000000 in
theorem blank_zero (n : Nat) (hn : n ≤ 64) (w : World) : Calls Tryz.prog 235 #[.int .i64 0, .int .i64 n] w (ObjOwn w (blankO 0 n)) := by
  have HB0 := hid (below_alloc2 w (.cells #[.int .i64 0, .int .i64 0, .slice none 0 0, .string ⟨#[]⟩, .int .i64 0, .int .i64 0] 41) (.cells #[.int .i64 0, .int .i64 0, .slice none 0 0, .string ⟨#[]⟩, .int .i64 0, .int .i64 0] 41))
  have HK := hid ((Lies.new w 41 #[.int .i64 0, .int .i64 0, .slice none 0 0, .string ⟨#[]⟩, .int .i64 0, .int .i64 0]).alloc (.cells #[.int .i64 0, .int .i64 0, .slice none 0 0, .string ⟨#[]⟩, .int .i64 0, .int .i64 0] 41))
  have HL := hid (Lies.new (w.alloc (.cells #[.int .i64 0, .int .i64 0, .slice none 0 0, .string ⟨#[]⟩, .int .i64 0, .int .i64 0] 41)) 41 #[.int .i64 0, .int .i64 0, .slice none 0 0, .string ⟨#[]⟩, .int .i64 0, .int .i64 0])
  obtain ⟨A, c, w1, hr, hown, hb⟩ := run_zeros ((w.alloc (.cells #[.int .i64 0, .int .i64 0, .slice none 0 0, .string ⟨#[]⟩, .int .i64 0, .int .i64 0] 41)).alloc (.cells #[.int .i64 0, .int .i64 0, .slice none 0 0, .string ⟨#[]⟩, .int .i64 0, .int .i64 0] 41)) n hn
  have HR := hid hr
  have HO := hid hown
  have HB := hid hb
  have k0 := HK.out.later hb
  have k1 := HL.out.later hb
  rw [show (w.alloc (.cells #[.int .i64 0, .int .i64 0, .slice none 0 0, .string ⟨#[]⟩, .int .i64 0, .int .i64 0] 41)).heap.size = w.heap.size + 1 by simp] at k1
  have a0 := k0.cell 0
  have a1 := k0.cell 1
  have a2 := k0.cell 2
  have a3 := k0.cell 3
  have a4 := k0.cell 4
  have a5 := k0.cell 5
  have af0 := k0.frozen 0
  have af1 := k0.frozen 1
  have af2 := k0.frozen 2
  have af3 := k0.frozen 3
  have af4 := k0.frozen 4
  have af5 := k0.frozen 5
  have b0 := k1.cell 0
  have b1 := k1.cell 1
  have b2 := k1.cell 2
  have b3 := k1.cell 3
  have b4 := k1.cell 4
  have b5 := k1.cell 5
  have bf2 := k1.frozen 2
  simp only [List.getElem?_toArray, List.getElem?_cons_zero, List.getElem?_cons_succ] at a0 a1 a2 a3 a4 a5 b0 b1 b2 b3 b4 b5
  have K0 := hid k0
  have K1 := hid k1
  clear hr hown hb k0 k1
  go_enter Tryz.func235, Tryz.ntmps235
  go_wp2_with (at_builtin; refine Lib.wpList_append_run _ rfl (.tmp 12) (.tmp 13) 34 3 rfl (.slice none 0 0) (.int .i64 n) rfl rfl _ _ HR.out ?_)
  have X0 : Lies (w1.setCell ⟨w.heap.size + 1, 2, none⟩ (.slice A n c)) w.heap.size 41 #[.int .i64 0, .int .i64 0, .slice none 0 0, .string ⟨#[]⟩, .int .i64 0, .int .i64 0] := K0.out.far (by simp) _
  have X1 := (((((X0.set_ 0 (.int .i64 0)).set_ 1 (.int .i64 0)).set_ 2 (.slice A n c)).set_ 3 (.string ⟨#[]⟩)).set_ 4 (.int .i64 0)).set_ 5 (.int .i64 0)
  have r0 := X1.cell 0
  have r1 := X1.cell 1
  have r2 := X1.cell 2
  have r3 := X1.cell 3
  have r4 := X1.cell 4
  have r5 := X1.cell 5
  simp only [List.setIfInBounds_toArray, List.set_cons_zero, List.set_cons_succ, List.getElem?_toArray, List.getElem?_cons_zero, List.getElem?_cons_succ] at r0 r1 r2 r3 r4 r5
  refine bodyPost_ret (v := .agg #[.int .i64 0, .int .i64 0, .slice A n c, .string ⟨#[]⟩, .int .i64 0, .int .i64 0]) (by simp [results, Tryz.results235, go_sem, r0, r1, r2, r3, r4, r5]) rfl ?_
  have hO := HO.out
  have hz : ((w.alloc (.cells #[.int .i64 0, .int .i64 0, .slice none 0 0, .string ⟨#[]⟩, .int .i64 0, .int .i64 0] 41)).alloc (.cells #[.int .i64 0, .int .i64 0, .slice none 0 0, .string ⟨#[]⟩, .int .i64 0, .int .i64 0] 41)).heap.size = w.heap.size + 2 := by simp
  rw [hz] at hO
  refine ⟨A, c, by simp [blankO], ?_, ?_⟩
  · have e1 : (blankO 0 n).slots = List.replicate n 0 := by simp [blankO]
    rw [e1, List.length_replicate]
    refine own_lower (base := w.heap.size + 2) ?_ (by omega)
    exact ownsRow_setCell_below (ownsRow_setCell_below (ownsRow_setCell_below (ownsRow_setCell_below (ownsRow_setCell_below (ownsRow_setCell_below (ownsRow_setCell_below hO (by simp) _) (by simp) _) (by simp) _) (by simp) _) (by simp) _) (by simp) _) (by simp) _
  · have hB := HB0.out.trans (HB.out.mono (by simp; omega))
    exact ((((((hB.setCell (p := ⟨w.heap.size + 1, 2, none⟩) (by simp) _).setCell (p := ⟨w.heap.size, 0, none⟩) (by simp) _).setCell (p := ⟨w.heap.size, 1, none⟩) (by simp) _).setCell (p := ⟨w.heap.size, 2, none⟩) (by simp) _).setCell (p := ⟨w.heap.size, 3, none⟩) (by simp) _).setCell (p := ⟨w.heap.size, 4, none⟩) (by simp) _).setCell (p := ⟨w.heap.size, 5, none⟩) (by simp) _
set_option maxRecDepth 100000 in
set_option maxHeartbeats 2000000 in
theorem blank_one (n : Nat) (hn : n ≤ 64) (w : World) : Calls Tryz.prog 235 #[.int .i64 1, .int .i64 n] w (ObjOwn w (blankO 1 n)) := by
  have HB0 := hid (below_alloc2 w (.cells #[.int .i64 0, .int .i64 0, .slice none 0 0, .string ⟨#[]⟩, .int .i64 0, .int .i64 0] 41) (.cells #[.int .i64 0, .int .i64 1, .slice none 0 0, .string ⟨#[]⟩, .int .i64 0, .int .i64 0] 41))
  have HK := hid ((Lies.new w 41 #[.int .i64 0, .int .i64 0, .slice none 0 0, .string ⟨#[]⟩, .int .i64 0, .int .i64 0]).alloc (.cells #[.int .i64 0, .int .i64 1, .slice none 0 0, .string ⟨#[]⟩, .int .i64 0, .int .i64 0] 41))
  have HL := hid (Lies.new (w.alloc (.cells #[.int .i64 0, .int .i64 0, .slice none 0 0, .string ⟨#[]⟩, .int .i64 0, .int .i64 0] 41)) 41 #[.int .i64 0, .int .i64 1, .slice none 0 0, .string ⟨#[]⟩, .int .i64 0, .int .i64 0])
  go_enter Tryz.func235, Tryz.ntmps235
  go_wp2_with fail
  refine (Tryz.strings_Repeat ⟨#[0]⟩ n _ (by omega) (by show 1 * n ≤ _; omega)).mono ?_
  rintro e w1 ⟨rfl, hb⟩
  have HB := hid hb
  have k0 := HK.out.later hb
  have k1 := HL.out.later hb
  rw [show (w.alloc (.cells #[.int .i64 0, .int .i64 0, .slice none 0 0, .string ⟨#[]⟩, .int .i64 0, .int .i64 0] 41)).heap.size = w.heap.size + 1 by simp] at k1
  have a0 := k0.cell 0
  have a1 := k0.cell 1
  have a2 := k0.cell 2
  have a3 := k0.cell 3
  have a4 := k0.cell 4
  have a5 := k0.cell 5
  have af0 := k0.frozen 0
  have af1 := k0.frozen 1
  have af2 := k0.frozen 2
  have af3 := k0.frozen 3
  have af4 := k0.frozen 4
  have af5 := k0.frozen 5
  have b0 := k1.cell 0
  have b1 := k1.cell 1
  have b2 := k1.cell 2
  have b3 := k1.cell 3
  have b4 := k1.cell 4
  have b5 := k1.cell 5
  have bf3 := k1.frozen 3
  simp only [List.getElem?_toArray, List.getElem?_cons_zero, List.getElem?_cons_succ] at a0 a1 a2 a3 a4 a5 b0 b1 b2 b3 b4 b5
  have K0 := hid k0
  clear hb k0 k1
  obtain ⟨T, hT⟩ : ∃ T : ByteArray, T = zeroT n := ⟨_, rfl⟩
  have hT2 : (⟨(Lib.repeatL (ByteArray.mk #[0]).data.toList n).toArray⟩ : ByteArray) = T := by rw [hT]; rfl
  rw [hT2]
  have HT := hid hT
  clear hT hT2
  go_wp2_with fail
  have X0 : Lies (w1.setCell ⟨w.heap.size + 1, 3, none⟩ (.string T)) w.heap.size 41 #[.int .i64 0, .int .i64 0, .slice none 0 0, .string ⟨#[]⟩, .int .i64 0, .int .i64 0] := K0.out.far (by simp) _
  have X1 := (((((X0.set_ 0 (.int .i64 0)).set_ 1 (.int .i64 1)).set_ 2 (.slice none 0 0)).set_ 3 (.string T)).set_ 4 (.int .i64 0)).set_ 5 (.int .i64 0)
  have r0 := X1.cell 0
  have r1 := X1.cell 1
  have r2 := X1.cell 2
  have r3 := X1.cell 3
  have r4 := X1.cell 4
  have r5 := X1.cell 5
  simp only [List.setIfInBounds_toArray, List.set_cons_zero, List.set_cons_succ, List.getElem?_toArray, List.getElem?_cons_zero, List.getElem?_cons_succ] at r0 r1 r2 r3 r4 r5
  refine bodyPost_ret (v := .agg #[.int .i64 0, .int .i64 1, .slice none 0 0, .string T, .int .i64 0, .int .i64 0]) (by simp [results, Tryz.results235, go_sem, r0, r1, r2, r3, r4, r5]) rfl ?_
  rw [HT.out]
  refine ⟨none, 0, by simp [blankO], World.ownsRow_nil _ _ _ _, ?_⟩
  have hB := HB0.out.trans (HB.out.mono (by simp; omega))
  exact ((((((hB.setCell (p := ⟨w.heap.size + 1, 3, none⟩) (by simp) _).setCell (p := ⟨w.heap.size, 0, none⟩) (by simp) _).setCell (p := ⟨w.heap.size, 1, none⟩) (by simp) _).setCell (p := ⟨w.heap.size, 2, none⟩) (by simp) _).setCell (p := ⟨w.heap.size, 3, none⟩) (by simp) _).setCell (p := ⟨w.heap.size, 4, none⟩) (by simp) _).setCell (p := ⟨w.heap.size, 5, none⟩) (by simp) _
/-- the greatest size of a kind; what is wrong with a new object -/
def mostI (kind : Int) : Int := if kind = 0 then 64 else if kind = 1 then 64 else 0
def roE (h : Hp) (class_ kind size : Int) : Int :=
  if mayB h = false then 1 else if refB h.objs.length class_ = false then 31 else if kind < 0 ∨ 3 ≤ kind then 33 else if size < 0 ∨ mostI kind < size then 32 else if h.cap ≤ (h.objs.length : Int) then 30 else 0
theorem most_any (kind : Int) (w : World) : Calls Tryz.prog 244 #[.int .i64 kind] w fun e w' => e = .returned (.int .i64 (mostI kind)) ∧ w = w' := by
  by_cases h0 : kind = 0
  · subst h0
    go_enter Tryz.func244, Tryz.ntmps244
    go_wp2
    go_ret; exact ⟨rfl, rfl⟩
  · by_cases h1 : kind = 1
    · subst h1
      go_enter Tryz.func244, Tryz.ntmps244
      go_wp2
      go_ret; exact ⟨rfl, rfl⟩
    · have e : mostI kind = 0 := by unfold mostI; rw [if_neg h0, if_neg h1]
      rw [e]
      have h0' : (kind == 0) = false := by simpa using h0
      have h1' : (kind == 1) = false := by simpa using h1
      clear e h0 h1
      go_enter Tryz.func244, Tryz.ntmps244
      go_wp2
      go_ret; exact ⟨rfl, rfl⟩
set_option maxRecDepth 100000 in
set_option maxHeartbeats 2000000 in
theorem room_any (h : Hp) (cl kind size : Int) (A : Option Addr) (c : Nat) (w : World) (hs : ObsR w A h.objs) (fit : h.Fit) :
    Calls Tryz.prog 233 #[.agg #[.slice A h.objs.length c, .int .i64 h.cap, .int .i64 h.last], .int .i64 cl, .int .i64 kind, .int .i64 size] w fun e w' => e = .returned (.int .i64 (roE h cl kind size)) ∧ Below w.heap.size w w' := by
  have HB0 := hid (below_alloc w (.cells #[Value.slice A h.objs.length c, Value.int .i64 h.cap, Value.int .i64 h.last] 24))
  have HX := hid (BoxH.new w h A c)
  have HS := hid hs
  have HF := hid fit
  clear hs fit
  cases hm : mayB h
  · have e1 : roE h cl kind size = 1 := by unfold roE; rw [if_pos hm]
    rw [e1]; clear e1
    go_enter Tryz.func233, Tryz.ntmps233
    go_wp2_with fail
    refine (may_any h A c _ (HS.out.below HB0.out) HF.out).mono ?_
    rintro e w1 ⟨rfl, hb1⟩
    have HB1 := hid hb1
    clear hb1
    go_wp2_with fail
    go_ret
    exact ⟨rfl, HB0.out.trans (HB1.out.mono (by simp))⟩
  · have E1 : Hid (roE h cl kind size = if refB h.objs.length cl = false then 31 else if kind < 0 ∨ 3 ≤ kind then 33 else if size < 0 ∨ mostI kind < size then 32 else if h.cap ≤ (h.objs.length : Int) then 30 else 0) := by
      show _ = _
      unfold roE; rw [if_neg (by rw [hm]; decide)]
    cases hr : refB h.objs.length cl
    all_goals
      have HR := hid hr
      go_enter Tryz.func233, Tryz.ntmps233
      go_wp2_with fail
      refine (may_any h A c _ (HS.out.below HB0.out) HF.out).mono ?_
      rintro e w1 ⟨rfl, hb1⟩
      have HX1 := hid (HX.out.later hb1)
      obtain ⟨x0, x1, x2⟩ := HX1.out
      have HB1 := hid (HB0.out.trans (hb1.mono (by simp)))
      clear hb1
      go_wp2_with fail
      refine (find_any h _ A c _).mono ?_
      rintro e w2 ⟨rfl, hb2⟩
      have HB2 := hid (HB1.out.trans (hb2.mono HB1.out.size))
      clear x0 x1 x2
      obtain ⟨x0, x1, x2⟩ := HX1.out.later hb2
      clear hb2
      go_wp2_with (first | (go_at_call 244; refine (most_any _ _).mono ?_; rintro e w' ⟨rfl, rfl⟩))
    · go_ret
      exact ⟨ret_int (by rw [E1.out, if_pos HR.out]), HB2.out⟩
    all_goals go_ret
    all_goals
      refine ⟨ret_int ?_, HB2.out⟩
      rw [E1.out, if_neg (by rw [HR.out]; decide)]
      repeat' split
      all_goals first | rfl | omega
end Go.Proofs.YtnilempeldlieaaGreat
namespace Go.Proofs.YtnilempeldlieaaGreat
open Go.RowKit
set_option maxRecDepth 100000
set_option maxHeartbeats 2000000 in
theorem moved_any (t : List Int) (o : Ob) (A S : Option Addr) (c d : Nat) (w : World) (ht : IntsR w A t) (hI : IntsR w S o.slots) (htl : t.length ≤ 9223372036854775807) (hol : o.slots.length ≤ 64) :
    Calls Tryz.prog 50 #[.slice A t.length c, .agg #[.int .i64 o.cls, .int .i64 o.kind, .slice S o.slots.length d, .string o.text, .int .i64 o.bits, .int .i64 o.hash]] w (ObjOwn w (moO t o)) := by
  have HB0 := hid (below_alloc2 w (.cells #[.int .i64 o.cls, .int .i64 o.kind, .slice S o.slots.length d, .string o.text, .int .i64 o.bits, .int .i64 o.hash] 41) (.cells #[.int .i64 0, .int .i64 0, .slice none 0 0, .string ⟨#[]⟩, .int .i64 0, .int .i64 0] 41))
  have HK := hid ((Lies.new w 41 #[.int .i64 o.cls, .int .i64 o.kind, .slice S o.slots.length d, .string o.text, .int .i64 o.bits, .int .i64 o.hash]).alloc (.cells #[.int .i64 0, .int .i64 0, .slice none 0 0, .string ⟨#[]⟩, .int .i64 0, .int .i64 0] 41))
  have HL : Hid (Lies ((w.alloc (.cells #[.int .i64 o.cls, .int .i64 o.kind, .slice S o.slots.length d, .string o.text, .int .i64 o.bits, .int .i64 o.hash] 41)).alloc (.cells #[.int .i64 0, .int .i64 0, .slice none 0 0, .string ⟨#[]⟩, .int .i64 0, .int .i64 0] 41)) (w.heap.size + 1) 41 #[.int .i64 0, .int .i64 0, .slice none 0 0, .string ⟨#[]⟩, .int .i64 0, .int .i64 0]) := by
    have := Lies.new (w.alloc (.cells #[.int .i64 o.cls, .int .i64 o.kind, .slice S o.slots.length d, .string o.text, .int .i64 o.bits, .int .i64 o.hash] 41)) 41 #[.int .i64 0, .int .i64 0, .slice none 0 0, .string ⟨#[]⟩, .int .i64 0, .int .i64 0]
    simpa [Hid] using this
  have HT := hid ht
  have HI := hid hI
  clear ht hI
  obtain ⟨xs, hxs⟩ : ∃ xs, xs = o.slots.map (vaV t) := ⟨_, rfl⟩
  obtain ⟨x, hx⟩ : ∃ x, x = vaV t o.cls := ⟨_, rfl⟩
  have HXS := hid hxs
  have HX := hid hx
  have hm : moO t o = ⟨x, o.kind, xs, o.text, o.bits, o.hash⟩ := by unfold moO; rw [hxs, hx]
  rw [hm]
  clear hxs hx hm
  go_enter Tryz.func50, Tryz.ntmps50
  go_wp2_with fail
  refine (value_any t o.cls A c _ (HT.out.below HB0.out) htl).mono ?_
  rintro e w1 ⟨rfl, hw⟩
  obtain ⟨W0, hW0⟩ : ∃ W0, W0 = ((w.alloc (.cells #[.int .i64 o.cls, .int .i64 o.kind, .slice S o.slots.length d, .string o.text, .int .i64 o.bits, .int .i64 o.hash] 41)).alloc (.cells #[.int .i64 0, .int .i64 0, .slice none 0 0, .string ⟨#[]⟩, .int .i64 0, .int .i64 0] 41)) := ⟨_, rfl⟩
  rw [← hW0] at hw HB0 HK HL
  subst hw
  rw [← HX.out]
  clear hW0
  have k0 := HK.out.cell 0
  have k2 := HK.out.cell 2
  have f0 := HK.out.frozen 0
  simp only [List.getElem?_toArray, List.getElem?_cons_zero, List.getElem?_cons_succ] at k0 k2
  have HB1 := hid (HB0.out.setCell (p := ⟨w.heap.size, 0, none⟩) (Nat.le_refl _) (.int .i64 x))
  go_wp2_with fail
  refine (values_any t o.slots A S c d _ (HT.out.below HB1.out) (HI.out.below HB1.out) htl (by omega)).mono ?_
  rintro e w2 ⟨A2, c2, rfl, hown, hb2⟩
  rw [← HXS.out] at hown ⊢
  have HK2 := hid ((HK.out.set_ 0 (.int .i64 x)).later hb2)
  have HL2 := hid ((HL.out.far (p := ⟨w.heap.size, 0, none⟩) (by simp) (.int .i64 x)).later hb2)
  have HB2 := hid (HB1.out.trans (hb2.mono HB1.out.size))
  have HO2 := hid hown
  have hlt2 : w.heap.size + 1 < (w1.setCell ⟨w.heap.size, 0, none⟩ (.int .i64 x)).heap.size := by have := HL.out.lt; simpa using this
  clear hown hb2 k0 k2 f0
  have k0 := HK2.out.cell 0
  have k1 := HK2.out.cell 1
  have k2 := HK2.out.cell 2
  have k3 := HK2.out.cell 3
  have k4 := HK2.out.cell 4
  have k5 := HK2.out.cell 5
  have f2 := HK2.out.frozen 2
  have l0 := HL2.out.cell 0
  have l1 := HL2.out.cell 1
  have l2 := HL2.out.cell 2
  have l3 := HL2.out.cell 3
  have l4 := HL2.out.cell 4
  have l5 := HL2.out.cell 5
  have lf0 := HL2.out.frozen 0
  have lf1 := HL2.out.frozen 1
  have lf2 := HL2.out.frozen 2
  have lf3 := HL2.out.frozen 3
  have lf4 := HL2.out.frozen 4
  have lf5 := HL2.out.frozen 5
  simp only [List.setIfInBounds_toArray, List.set_cons_zero, List.getElem?_toArray, List.getElem?_cons_zero, List.getElem?_cons_succ] at k0 k1 k2 k3 k4 k5 l0 l1 l2 l3 l4 l5
  go_wp2_with fail
  have X0 : Lies (w2.setCell ⟨w.heap.size, 2, none⟩ (.slice A2 xs.length c2)) (w.heap.size + 1) 41 #[.int .i64 0, .int .i64 0, .slice none 0 0, .string ⟨#[]⟩, .int .i64 0, .int .i64 0] := HL2.out.far (by simp) _
  have X1 := (((((X0.set_ 0 (.int .i64 x)).set_ 1 (.int .i64 o.kind)).set_ 2 (.slice A2 xs.length c2)).set_ 3 (.string o.text)).set_ 4 (.int .i64 o.bits)).set_ 5 (.int .i64 o.hash)
  have r0 := X1.cell 0
  have r1 := X1.cell 1
  have r2 := X1.cell 2
  have r3 := X1.cell 3
  have r4 := X1.cell 4
  have r5 := X1.cell 5
  simp only [List.setIfInBounds_toArray, List.set_cons_zero, List.set_cons_succ, List.getElem?_toArray, List.getElem?_cons_zero, List.getElem?_cons_succ] at r0 r1 r2 r3 r4 r5
  refine bodyPost_ret (v := .agg #[.int .i64 x, .int .i64 o.kind, .slice A2 xs.length c2, .string o.text, .int .i64 o.bits, .int .i64 o.hash]) (by simp [results, Tryz.results50, go_sem, r0, r1, r2, r3, r4, r5]) rfl ?_
  refine ⟨A2, c2, rfl, ?_, ?_⟩
  · refine own_lower (base := (w1.setCell ⟨w.heap.size, 0, none⟩ (.int .i64 x)).heap.size) ?_ (by omega)
    exact ownsRow_setCell_below (ownsRow_setCell_below (ownsRow_setCell_below (ownsRow_setCell_below (ownsRow_setCell_below (ownsRow_setCell_below (ownsRow_setCell_below HO2.out (by show w.heap.size < _; omega) _) (by show w.heap.size + 1 < _; omega) _) (by show w.heap.size + 1 < _; omega) _) (by show w.heap.size + 1 < _; omega) _) (by show w.heap.size + 1 < _; omega) _) (by show w.heap.size + 1 < _; omega) _) (by show w.heap.size + 1 < _; omega) _
  · exact ((((((HB2.out.setCell (p := ⟨w.heap.size, 2, none⟩) (by simp) _).setCell (p := ⟨w.heap.size + 1, 0, none⟩) (by simp) _).setCell (p := ⟨w.heap.size + 1, 1, none⟩) (by simp) _).setCell (p := ⟨w.heap.size + 1, 2, none⟩) (by simp) _).setCell (p := ⟨w.heap.size + 1, 3, none⟩) (by simp) _).setCell (p := ⟨w.heap.size + 1, 4, none⟩) (by simp) _).setCell (p := ⟨w.heap.size + 1, 5, none⟩) (by simp) _
end Go.Proofs.YtnilempeldlieaaGreat
