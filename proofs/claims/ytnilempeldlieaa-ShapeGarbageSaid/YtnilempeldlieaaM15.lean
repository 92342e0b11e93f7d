/- The document's place, Table and Values walked. A new object of zeros: blank; whether there is room: noRoom. move.moved walked; an object appended to a row of the call's own. Alloc: one object more. -/
import Derived.Test.YtnilempeldlieaaM12
import Derived.Test.YtnilempeldlieaaM14
import Derived.Test.YtnilempeldlieaaWNL
import Derived.Test.YtnilempeldlieaaM04
import Derived.Test.YtnilempeldlieaaZ
import Derived.Lib.AppendZeros
import Derived.Lib.Repeat
import Derived.BigRegion
namespace Go.Proofs.Ytnilempeldlieaa
open Go.RowKit
set_option maxRecDepth 100000
theorem plI_succ (L : List Int) (x : Int) (k : Nat) (hk : k < L.length) : plI (L.take (k + 1)) x = plI (L.take k) x + if L[k] < x then 1 else 0 := by
  unfold plI
  rw [List.take_succ_eq_append_getElem hk, List.filter_append, List.length_append]
  congr 1
  by_cases g : L[k] < x
  · rw [if_pos g, List.filter_cons_of_pos (by simpa using g)]; rfl
  · rw [if_neg g, List.filter_cons_of_neg (by simpa using g)]; rfl
def rangeF (f : Nat → Int) (k : Nat) : List Int := (List.range k).map f
theorem rangeF_len (f : Nat → Int) (k : Nat) : (rangeF f k).length = k := by simp [rangeF]
theorem range_succ_map (f : Nat → Int) (k : Nat) : rangeF f (k + 1) = rangeF f k ++ [f k] := by unfold rangeF; rw [List.range_succ, List.map_append]; rfl
theorem tab_nat {h : Hp} {rs : List Int} {k : Nat} :
    ((k : Int) ∈ liveL h rs ∧ newK (liveN h rs) (liveN h rs).length k = (plI (liveL h rs) k : Int)) ∨ ((k : Int) ∉ liveL h rs ∧ newK (liveN h rs) (liveN h rs).length k = -1) := by
  by_cases g : k ∈ liveN h rs
  · exact .inl ⟨mem_liveL_nat.2 g, by rw [newK_in g, plI_live g]⟩
  · exact .inr ⟨fun m => g (mem_liveL_nat.1 m), newK_out g⟩
def takeF (t l : List Int) (k : Nat) : List Int := (l.take k).map (vaV t)
theorem takeF_all (t l : List Int) : takeF t l l.length = l.map (vaV t) := by unfold takeF; rw [List.take_length]
theorem take_map (t l : List Int) (k : Nat) (hk : k < l.length) : takeF t l (k + 1) = takeF t l k ++ [vaV t l[k]] := by
  unfold takeF
  rw [List.take_succ_eq_append_getElem hk, List.map_append]; rfl
end Go.Proofs.Ytnilempeldlieaa
namespace Go.Proofs.Ytnilempeldlieaa
open Go.RowKit
def zeroT (n : Nat) : ByteArray := ⟨(Lib.repeatL [0] n).toArray⟩
def blankO (kind : Int) (n : Nat) : Ob := ⟨0, kind, if kind = 0 then List.replicate n 0 else [], if kind = 1 then zeroT n else ⟨#[]⟩, 0, 0⟩
/-- an object is returned, its slots in memory of the call's own -/
def ObjOwn (w : World) (o : Ob) (e : Ending) (w' : World) : Prop := ∃ S c, e = .returned (.agg #[.int .i64 o.cls, .int .i64 o.kind, .slice S o.slots.length c, .string o.text, .int .i64 o.bits, .int .i64 o.hash]) ∧ w'.ownsRow w.heap.size 3 1 (.slice S o.slots.length c) o.slots.length (o.slots.map (Value.int .i64)) ∧ Below w.heap.size w w'
theorem zeroT_size (n : Nat) : (zeroT n).size = n := by
  unfold zeroT
  show (Lib.repeatL [0] n).toArray.size = n
  rw [List.size_toArray]
  induction n with
  | zero => simp [Lib.repeatL]
  | succ n ih =>
    simp [Lib.repeatL] at ih ⊢
    exact ih
theorem repeat_zero : zeroT 0 = ⟨#[]⟩ := by simp [zeroT, Lib.repeatL]
theorem run_append_zero {P : Program} (w : World) (t tn ty e : TypeId) (i : TypeInfo) (kn : IntKind) (ht : P.underlying t = some (.slice e)) (htn : P.underlying tn = some (.int kn)) (hi : P.info? e = some i) :
    (Builtin.append_ #[t, tn] ty #[.slice none 0 0, .int .i64 0]).run P w = .ok (.slice none 0 0) w := by
  simp [Builtin.append_, run_underlying ht, run_underlying htn, sizeOf, typeInfo, hi, Builtin.lenOf, asInt, asIntOf, IntKind.wrap_i64]
theorem zeroCells_one (v : Value) (n : Nat) : (Builtin.zeroCells #[v] n).toList = List.replicate n v := by
  unfold Builtin.zeroCells
  have h : (fun i => (#[v] : Array Value)[i % (#[v] : Array Value).size]!) = fun _ => v := by
    funext i
    have : i % (#[v] : Array Value).size = 0 := Nat.mod_one i
    rw [this]; rfl
  rw [h]
  apply List.ext_getElem?
  intro j
  simp [List.getElem?_replicate]
  by_cases e : j < n <;> simp [e]
theorem run_zeros (w : World) (n : Nat) (hn : n ≤ 64) : ∃ A c w', (Builtin.append_ #[31, 3] 31 #[.slice none 0 0, .int .i64 n]).run Try.prog w = .ok (.slice A n c) w' ∧ w'.ownsRow w.heap.size 3 1 (.slice A n c) n ((List.replicate n (0 : Int)).map (Value.int .i64)) ∧ Below w.heap.size w w' := by
  obtain ⟨i0, hi, hz0, hz1, hz2⟩ := info_parts int_info
  by_cases h0 : n = 0
  · subst h0
    exact ⟨none, 0, w, run_append_zero (P := Try.prog) w 31 3 31 3 i0 .i64 Try.underlying31 Try.underlying3 hi, World.ownsRow_nil _ _ _ _, Below.refl _ _⟩
  · refine ⟨_, _, _, Lib.run_append_nil_zeros (P := Try.prog) w 31 3 31 3 i0 (.int .i64 0) .i64 .i64 Try.underlying31 Try.underlying3 hi hz0 n (by omega) (by omega) (by omega) (by rw [hz2]; omega), ⟨by simp, .inr ⟨w.heap.size, _, _, rfl, Nat.le_refl _, heap_alloc_new w.drew _, grownCap_ge w n 0 3, grownCap_le_maxLen w n 0 3 (by unfold maxLen; omega), ?_, ?_⟩⟩, ?_⟩
    · have := grownCap_ge w n 0 3
      simp only [Array.size_append, size_zeroCells]
      show n * 1 + (grownCap w n 0 3 - n) * 1 = grownCap w n 0 3 * 1
      omega
    · show List.take (n * 1) (Builtin.zeroCells #[Value.int .i64 0] n ++ Builtin.zeroCells #[Value.int .i64 0] _).toList = _
      rw [Array.toList_append, zeroCells_one, Nat.mul_one, List.take_left' (by simp), List.map_replicate]
    · exact (Below.refl _ _).drew.trans ((Below.refl _ w.drew).alloc (Nat.le_refl _) _)
/-- the greatest size of a kind; what is wrong with a new object -/
def mostI (kind : Int) : Int := if kind = 0 then 64 else if kind = 1 then 64 else 0
def roE (h : Hp) (class_ kind size : Int) : Int :=
  if mayB h = false then 1 else if refB h.objs.length class_ = false then 31 else if kind < 0 ∨ 3 ≤ kind then 33 else if size < 0 ∨ mostI kind < size then 32 else if h.cap ≤ (h.objs.length : Int) then 30 else 0
end Go.Proofs.Ytnilempeldlieaa
namespace Go.Proofs.Ytnilempeldlieaa
open Go.RowKit
set_option maxRecDepth 100000
set_option maxHeartbeats 2000000 in
theorem moved_any (t : List Int) (o : Ob) (A S : Option Addr) (c d : Nat) (w : World) (ht : IntsR w A t) (hI : IntsR w S o.slots) (htl : t.length ≤ 9223372036854775807) (hol : o.slots.length ≤ 64) :
    Calls Try.prog 44 #[.slice A t.length c, .agg #[.int .i64 o.cls, .int .i64 o.kind, .slice S o.slots.length d, .string o.text, .int .i64 o.bits, .int .i64 o.hash]] w (ObjOwn w (moO t o)) := by
  have HB0 := hid (below_alloc2 w (.cells #[.int .i64 o.cls, .int .i64 o.kind, .slice S o.slots.length d, .string o.text, .int .i64 o.bits, .int .i64 o.hash] 39) (.cells #[.int .i64 0, .int .i64 0, .slice none 0 0, .string ⟨#[]⟩, .int .i64 0, .int .i64 0] 39))
  have HK := hid ((Lies.new w 39 #[.int .i64 o.cls, .int .i64 o.kind, .slice S o.slots.length d, .string o.text, .int .i64 o.bits, .int .i64 o.hash]).alloc (.cells #[.int .i64 0, .int .i64 0, .slice none 0 0, .string ⟨#[]⟩, .int .i64 0, .int .i64 0] 39))
  have HL : Hid (Lies ((w.alloc (.cells #[.int .i64 o.cls, .int .i64 o.kind, .slice S o.slots.length d, .string o.text, .int .i64 o.bits, .int .i64 o.hash] 39)).alloc (.cells #[.int .i64 0, .int .i64 0, .slice none 0 0, .string ⟨#[]⟩, .int .i64 0, .int .i64 0] 39)) (w.heap.size + 1) 39 #[.int .i64 0, .int .i64 0, .slice none 0 0, .string ⟨#[]⟩, .int .i64 0, .int .i64 0]) := by
    have := Lies.new (w.alloc (.cells #[.int .i64 o.cls, .int .i64 o.kind, .slice S o.slots.length d, .string o.text, .int .i64 o.bits, .int .i64 o.hash] 39)) 39 #[.int .i64 0, .int .i64 0, .slice none 0 0, .string ⟨#[]⟩, .int .i64 0, .int .i64 0]
    simpa [Hid] using this
  have HT := hid ht
  have HI := hid hI
  clear ht hI
  obtain ⟨xs, hxs⟩ : ∃ xs, xs = o.slots.map (vaV t) := ⟨_, rfl⟩
  obtain ⟨x, hx⟩ : ∃ x, x = vaV t o.cls := ⟨_, rfl⟩
  have HXS := hid hxs
  have HX := hid hx
  have hm : moO t o = ⟨x, o.kind, xs, o.text, o.bits, o.hash⟩ := by unfold moO; rw [hxs, hx]
  rw [hm]
  clear hxs hx hm
  go_enter Try.func44, Try.ntmps44
  go_wp2_with fail
  refine (value_any t o.cls A c _ (HT.out.below HB0.out) htl).mono ?_
  rintro e w1 ⟨rfl, hw⟩
  obtain ⟨W0, hW0⟩ : ∃ W0, W0 = ((w.alloc (.cells #[.int .i64 o.cls, .int .i64 o.kind, .slice S o.slots.length d, .string o.text, .int .i64 o.bits, .int .i64 o.hash] 39)).alloc (.cells #[.int .i64 0, .int .i64 0, .slice none 0 0, .string ⟨#[]⟩, .int .i64 0, .int .i64 0] 39)) := ⟨_, rfl⟩
  rw [← hW0] at hw HB0 HK HL
  subst hw
  rw [← HX.out]
  clear hW0
  have k0 := HK.out.cell 0
  have k2 := HK.out.cell 2
  have f0 := HK.out.frozen 0
  simp only [List.getElem?_toArray, List.getElem?_cons_zero, List.getElem?_cons_succ] at k0 k2
  have HB1 := hid (HB0.out.setCell (p := ⟨w.heap.size, 0, none⟩) (Nat.le_refl _) (.int .i64 x))
  go_wp2_with fail
  refine (values_any t o.slots A S c d _ (HT.out.below HB1.out) (HI.out.below HB1.out) htl (by omega)).mono ?_
  rintro e w2 ⟨A2, c2, rfl, hown, hb2⟩
  rw [← HXS.out] at hown ⊢
  have HK2 := hid ((HK.out.set_ 0 (.int .i64 x)).later hb2)
  have HL2 := hid ((HL.out.far (p := ⟨w.heap.size, 0, none⟩) (by simp) (.int .i64 x)).later hb2)
  have HB2 := hid (HB1.out.trans (hb2.mono HB1.out.size))
  have HO2 := hid hown
  have hlt2 : w.heap.size + 1 < (w1.setCell ⟨w.heap.size, 0, none⟩ (.int .i64 x)).heap.size := by have := HL.out.lt; simpa using this
  clear hown hb2 k0 k2 f0
  have k0 := HK2.out.cell 0
  have k1 := HK2.out.cell 1
  have k2 := HK2.out.cell 2
  have k3 := HK2.out.cell 3
  have k4 := HK2.out.cell 4
  have k5 := HK2.out.cell 5
  have f2 := HK2.out.frozen 2
  have l0 := HL2.out.cell 0
  have l1 := HL2.out.cell 1
  have l2 := HL2.out.cell 2
  have l3 := HL2.out.cell 3
  have l4 := HL2.out.cell 4
  have l5 := HL2.out.cell 5
  have lf0 := HL2.out.frozen 0
  have lf1 := HL2.out.frozen 1
  have lf2 := HL2.out.frozen 2
  have lf3 := HL2.out.frozen 3
  have lf4 := HL2.out.frozen 4
  have lf5 := HL2.out.frozen 5
  simp only [List.setIfInBounds_toArray, List.set_cons_zero, List.getElem?_toArray, List.getElem?_cons_zero, List.getElem?_cons_succ] at k0 k1 k2 k3 k4 k5 l0 l1 l2 l3 l4 l5
  go_wp2_with fail
  have X0 : Lies (w2.setCell ⟨w.heap.size, 2, none⟩ (.slice A2 xs.length c2)) (w.heap.size + 1) 39 #[.int .i64 0, .int .i64 0, .slice none 0 0, .string ⟨#[]⟩, .int .i64 0, .int .i64 0] := HL2.out.far (by simp) _
  have X1 := (((((X0.set_ 0 (.int .i64 x)).set_ 1 (.int .i64 o.kind)).set_ 2 (.slice A2 xs.length c2)).set_ 3 (.string o.text)).set_ 4 (.int .i64 o.bits)).set_ 5 (.int .i64 o.hash)
  have r0 := X1.cell 0
  have r1 := X1.cell 1
  have r2 := X1.cell 2
  have r3 := X1.cell 3
  have r4 := X1.cell 4
  have r5 := X1.cell 5
  simp only [List.setIfInBounds_toArray, List.set_cons_zero, List.set_cons_succ, List.getElem?_toArray, List.getElem?_cons_zero, List.getElem?_cons_succ] at r0 r1 r2 r3 r4 r5
  refine bodyPost_ret (v := .agg #[.int .i64 x, .int .i64 o.kind, .slice A2 xs.length c2, .string o.text, .int .i64 o.bits, .int .i64 o.hash]) (by simp [results, Try.results44, go_sem, r0, r1, r2, r3, r4, r5]) rfl ?_
  refine ⟨A2, c2, rfl, ?_, ?_⟩
  · refine own_lower (base := (w1.setCell ⟨w.heap.size, 0, none⟩ (.int .i64 x)).heap.size) ?_ (by omega)
    exact ownsRow_setCell_below (ownsRow_setCell_below (ownsRow_setCell_below (ownsRow_setCell_below (ownsRow_setCell_below (ownsRow_setCell_below (ownsRow_setCell_below HO2.out (by show w.heap.size < _; omega) _) (by show w.heap.size + 1 < _; omega) _) (by show w.heap.size + 1 < _; omega) _) (by show w.heap.size + 1 < _; omega) _) (by show w.heap.size + 1 < _; omega) _) (by show w.heap.size + 1 < _; omega) _) (by show w.heap.size + 1 < _; omega) _
  · exact ((((((HB2.out.setCell (p := ⟨w.heap.size, 2, none⟩) (by simp) _).setCell (p := ⟨w.heap.size + 1, 0, none⟩) (by simp) _).setCell (p := ⟨w.heap.size + 1, 1, none⟩) (by simp) _).setCell (p := ⟨w.heap.size + 1, 2, none⟩) (by simp) _).setCell (p := ⟨w.heap.size + 1, 3, none⟩) (by simp) _).setCell (p := ⟨w.heap.size + 1, 4, none⟩) (by simp) _).setCell (p := ⟨w.heap.size + 1, 5, none⟩) (by simp) _
end Go.Proofs.Ytnilempeldlieaa
namespace Go.Proofs.Ytnilempeldlieaa
open Go.RowKit
def newO (h : Hp) (cl kind size : Int) : Ob := { blankO kind size.toNat with cls := cl, hash := nxI h.last }
def alH (h : Hp) (cl kind size : Int) : Hp := { objs := h.objs ++ [newO h cl kind size], cap := h.cap, last := nxI h.last }
def alR (h : Hp) (cl kind size : Int) : Hp := if roE h cl kind size = 0 then alH h cl kind size else unH h (roE h cl kind size)
def alV (h : Hp) (cl kind size : Int) : Int := if roE h cl kind size = 0 then 2 * (h.objs.length : Int) else 0
def HeapOwn3 (w : World) (h' : Hp) (v en : Int) (e : Ending) (w' : World) : Prop := ∃ A c ls, e = .returned (.tuple #[.agg #[.slice A h'.objs.length c, .int .i64 h'.cap, .int .i64 h'.last], .int .i64 v, .int .i64 en]) ∧ ls.map (·.o) = h'.objs ∧ OwnH w' w.heap.size A c ls ∧ Below w.heap.size w w'
theorem ro_ok {h : Hp} {cl kind size : Int} (e : roE h cl kind size = 0) : mayB h = true ∧ refB h.objs.length cl = true ∧ 0 ≤ kind ∧ kind < 3 ∧ 0 ≤ size ∧ size ≤ mostI kind ∧ (h.objs.length : Int) < h.cap := by
  unfold roE at e
  split at e
  · cases e
  · rename_i h1
    split at e
    · cases e
    · rename_i h2
      split at e
      · cases e
      · rename_i h3
        split at e
        · cases e
        · rename_i h4
          split at e
          · cases e
          · exact ⟨by simpa using h1, by simpa using h2, by omega, by omega, by omega, by omega, by omega⟩
theorem ro_may {h : Hp} {cl kind size : Int} (e : roE h cl kind size ≠ 1) : mayB h = true := by
  cases hm : mayB h
  · exact absurd (by unfold roE; rw [if_pos hm]) e
  · rfl
end Go.Proofs.Ytnilempeldlieaa
