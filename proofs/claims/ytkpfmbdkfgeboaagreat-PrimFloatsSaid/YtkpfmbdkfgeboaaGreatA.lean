/- A new object of zeros: blank; whether there is room: noRoom. -/
import Derived.Test.YtkpfmbdkfgeboaaGreatT0
import Derived.Test.YtkpfmbdkfgeboaaGreatZ
import Derived.Lib.AppendZeros
namespace Go.Proofs.YtkpfmbdkfgeboaaGreat
open Go.RowKit
def zeroT (n : Nat) : ByteArray := ⟨(Lib.repeatL [0] n).toArray⟩
def blankO (kind : Int) (n : Nat) : Ob := ⟨0, kind, if kind = 0 then List.replicate n 0 else [], if kind = 1 then zeroT n else ⟨#[]⟩, 0, 0⟩
/-- an object is returned, its slots in memory of the call's own -/
def ObjOwn (w : World) (o : Ob) (e : Ending) (w' : World) : Prop := ∃ S c, e = .returned (.agg #[.int .i64 o.cls, .int .i64 o.kind, .slice S o.slots.length c, .string o.text, .int .i64 o.bits, .int .i64 o.hash]) ∧ w'.ownsRow w.heap.size 3 1 (.slice S o.slots.length c) o.slots.length (o.slots.map (Value.int .i64)) ∧ Below w.heap.size w w'
theorem zeroT_size (n : Nat) : (zeroT n).size = n := by
  unfold zeroT
  show (Lib.repeatL [0] n).toArray.size = n
  rw [List.size_toArray]
  induction n with
  | zero => simp [Lib.repeatL]
  | succ n ih =>
    simp [Lib.repeatL] at ih ⊢
    exact ih
theorem repeat_zero : zeroT 0 = ⟨#[]⟩ := by simp [zeroT, Lib.repeatL]
set_option maxRecDepth 100000 in
set_option maxHeartbeats 2000000 in
theorem blank_two (w : World) : Calls Tryz.prog 168 #[.int .i64 2, .int .i64 0] w (ObjOwn w (blankO 2 0)) := by
  have HB0 := hid (below_alloc2 w (.cells #[.int .i64 0, .int .i64 2, .slice none 0 0, .string ⟨#[]⟩, .int .i64 0, .int .i64 0] 41) (.cells #[.int .i64 0, .int .i64 2, .slice none 0 0, .string ⟨#[]⟩, .int .i64 0, .int .i64 0] 41))
  go_enter Tryz.func168, Tryz.ntmps168
  go_wp2
  refine bodyPost_ret (v := .agg #[.int .i64 0, .int .i64 2, .slice none 0 0, .string ⟨#[]⟩, .int .i64 0, .int .i64 0]) (by simp [results, Tryz.results168, go_sem]) rfl ?_
  exact ⟨none, 0, rfl, World.ownsRow_nil _ _ _ _, HB0.out⟩
theorem run_append_zero {P : Program} (w : World) (t tn ty e : TypeId) (i : TypeInfo) (kn : IntKind) (ht : P.underlying t = some (.slice e)) (htn : P.underlying tn = some (.int kn)) (hi : P.info? e = some i) :
    (Builtin.append_ #[t, tn] ty #[.slice none 0 0, .int .i64 0]).run P w = .ok (.slice none 0 0) w := by
  simp [Builtin.append_, run_underlying ht, run_underlying htn, sizeOf, typeInfo, hi, Builtin.lenOf, asInt, asIntOf, IntKind.wrap_i64]
theorem zeroCells_one (v : Value) (n : Nat) : (Builtin.zeroCells #[v] n).toList = List.replicate n v := by
  unfold Builtin.zeroCells
  have h : (fun i => (#[v] : Array Value)[i % (#[v] : Array Value).size]!) = fun _ => v := by
    funext i
    have : i % (#[v] : Array Value).size = 0 := Nat.mod_one i
    rw [this]; rfl
  rw [h]
  apply List.ext_getElem?
  intro j
  simp [List.getElem?_replicate]
  by_cases e : j < n <;> simp [e]
theorem run_zeros (w : World) (n : Nat) (hn : n ≤ 64) : ∃ A c w', (Builtin.append_ #[25, 3] 25 #[.slice none 0 0, .int .i64 n]).run Tryz.prog w = .ok (.slice A n c) w' ∧ w'.ownsRow w.heap.size 3 1 (.slice A n c) n ((List.replicate n (0 : Int)).map (Value.int .i64)) ∧ Below w.heap.size w w' := by
  obtain ⟨i0, hi, hz0, hz1, hz2⟩ := info_parts int_info
  by_cases h0 : n = 0
  · subst h0
    exact ⟨none, 0, w, run_append_zero (P := Tryz.prog) w 25 3 25 3 i0 .i64 Tryz.underlying25 Tryz.underlying3 hi, World.ownsRow_nil _ _ _ _, Below.refl _ _⟩
  · refine ⟨_, _, _, Lib.run_append_nil_zeros (P := Tryz.prog) w 25 3 25 3 i0 (.int .i64 0) .i64 .i64 Tryz.underlying25 Tryz.underlying3 hi hz0 n (by omega) (by omega) (by omega) (by rw [hz2]; omega), ⟨by simp, .inr ⟨w.heap.size, _, _, rfl, Nat.le_refl _, heap_alloc_new w.drew _, grownCap_ge w n 0 3, grownCap_le_maxLen w n 0 3 (by unfold maxLen; omega), ?_, ?_⟩⟩, ?_⟩
    · have := grownCap_ge w n 0 3
      simp only [Array.size_append, size_zeroCells]
      show n * 1 + (grownCap w n 0 3 - n) * 1 = grownCap w n 0 3 * 1
      omega
    · show List.take (n * 1) (Builtin.zeroCells #[Value.int .i64 0] n ++ Builtin.zeroCells #[Value.int .i64 0] _).toList = _
      rw [Array.toList_append, zeroCells_one, Nat.mul_one, List.take_left' (by simp), List.map_replicate]
    · exact (Below.refl _ _).drew.trans ((Below.refl _ w.drew).alloc (Nat.le_refl _) _)
set_option maxRecDepth 100000 in
set_option maxHeartbeats 2000000 in
theorem blank_zero (n : Nat) (hn : n ≤ 64) (w : World) : Calls Tryz.prog 168 #[.int .i64 0, .int .i64 n] w (ObjOwn w (blankO 0 n)) := by
  have HB0 := hid (below_alloc2 w (.cells #[.int .i64 0, .int .i64 0, .slice none 0 0, .string ⟨#[]⟩, .int .i64 0, .int .i64 0] 41) (.cells #[.int .i64 0, .int .i64 0, .slice none 0 0, .string ⟨#[]⟩, .int .i64 0, .int .i64 0] 41))
  have HK := hid ((Lies.new w 41 #[.int .i64 0, .int .i64 0, .slice none 0 0, .string ⟨#[]⟩, .int .i64 0, .int .i64 0]).alloc (.cells #[.int .i64 0, .int .i64 0, .slice none 0 0, .string ⟨#[]⟩, .int .i64 0, .int .i64 0] 41))
  have HL := hid (Lies.new (w.alloc (.cells #[.int .i64 0, .int .i64 0, .slice none 0 0, .string ⟨#[]⟩, .int .i64 0, .int .i64 0] 41)) 41 #[.int .i64 0, .int .i64 0, .slice none 0 0, .string ⟨#[]⟩, .int .i64 0, .int .i64 0])
  obtain ⟨A, c, w1, hr, hown, hb⟩ := run_zeros ((w.alloc (.cells #[.int .i64 0, .int .i64 0, .slice none 0 0, .string ⟨#[]⟩, .int .i64 0, .int .i64 0] 41)).alloc (.cells #[.int .i64 0, .int .i64 0, .slice none 0 0, .string ⟨#[]⟩, .int .i64 0, .int .i64 0] 41)) n hn
  have HR := hid hr
  have HO := hid hown
  have HB := hid hb
  have k0 := HK.out.later hb
  have k1 := HL.out.later hb
  rw [show (w.alloc (.cells #[.int .i64 0, .int .i64 0, .slice none 0 0, .string ⟨#[]⟩, .int .i64 0, .int .i64 0] 41)).heap.size = w.heap.size + 1 by simp] at k1
  have a0 := k0.cell 0
  have a1 := k0.cell 1
  have a2 := k0.cell 2
  have a3 := k0.cell 3
  have a4 := k0.cell 4
  have a5 := k0.cell 5
  have af0 := k0.frozen 0
  have af1 := k0.frozen 1
  have af2 := k0.frozen 2
  have af3 := k0.frozen 3
  have af4 := k0.frozen 4
  have af5 := k0.frozen 5
  have b0 := k1.cell 0
  have b1 := k1.cell 1
  have b2 := k1.cell 2
  have b3 := k1.cell 3
  have b4 := k1.cell 4
  have b5 := k1.cell 5
  have bf2 := k1.frozen 2
  simp only [List.getElem?_toArray, List.getElem?_cons_zero, List.getElem?_cons_succ] at a0 a1 a2 a3 a4 a5 b0 b1 b2 b3 b4 b5
  have K0 := hid k0
  have K1 := hid k1
  clear hr hown hb k0 k1
  go_enter Tryz.func168, Tryz.ntmps168
  go_wp2_with (at_builtin; refine Lib.wpList_append_run _ rfl (.tmp 12) (.tmp 13) 25 3 rfl (.slice none 0 0) (.int .i64 n) rfl rfl _ _ HR.out ?_)
  have X0 : Lies (w1.setCell ⟨w.heap.size + 1, 2, none⟩ (.slice A n c)) w.heap.size 41 #[.int .i64 0, .int .i64 0, .slice none 0 0, .string ⟨#[]⟩, .int .i64 0, .int .i64 0] := K0.out.far (by simp) _
  have X1 := (((((X0.set_ 0 (.int .i64 0)).set_ 1 (.int .i64 0)).set_ 2 (.slice A n c)).set_ 3 (.string ⟨#[]⟩)).set_ 4 (.int .i64 0)).set_ 5 (.int .i64 0)
  have r0 := X1.cell 0
  have r1 := X1.cell 1
  have r2 := X1.cell 2
  have r3 := X1.cell 3
  have r4 := X1.cell 4
  have r5 := X1.cell 5
  simp only [List.setIfInBounds_toArray, List.set_cons_zero, List.set_cons_succ, List.getElem?_toArray, List.getElem?_cons_zero, List.getElem?_cons_succ] at r0 r1 r2 r3 r4 r5
  refine bodyPost_ret (v := .agg #[.int .i64 0, .int .i64 0, .slice A n c, .string ⟨#[]⟩, .int .i64 0, .int .i64 0]) (by simp [results, Tryz.results168, go_sem, r0, r1, r2, r3, r4, r5]) rfl ?_
  have hO := HO.out
  have hz : ((w.alloc (.cells #[.int .i64 0, .int .i64 0, .slice none 0 0, .string ⟨#[]⟩, .int .i64 0, .int .i64 0] 41)).alloc (.cells #[.int .i64 0, .int .i64 0, .slice none 0 0, .string ⟨#[]⟩, .int .i64 0, .int .i64 0] 41)).heap.size = w.heap.size + 2 := by simp
  rw [hz] at hO
  refine ⟨A, c, by simp [blankO], ?_, ?_⟩
  · have e1 : (blankO 0 n).slots = List.replicate n 0 := by simp [blankO]
    rw [e1, List.length_replicate]
    refine own_lower (base := w.heap.size + 2) ?_ (by omega)
    exact ownsRow_setCell_below (ownsRow_setCell_below (ownsRow_setCell_below (ownsRow_setCell_below (ownsRow_setCell_below (ownsRow_setCell_below (ownsRow_setCell_below hO (by simp) _) (by simp) _) (by simp) _) (by simp) _) (by simp) _) (by simp) _) (by simp) _
  · have hB := HB0.out.trans (HB.out.mono (by simp; omega))
    exact ((((((hB.setCell (p := ⟨w.heap.size + 1, 2, none⟩) (by simp) _).setCell (p := ⟨w.heap.size, 0, none⟩) (by simp) _).setCell (p := ⟨w.heap.size, 1, none⟩) (by simp) _).setCell (p := ⟨w.heap.size, 2, none⟩) (by simp) _).setCell (p := ⟨w.heap.size, 3, none⟩) (by simp) _).setCell (p := ⟨w.heap.size, 4, none⟩) (by simp) _).setCell (p := ⟨w.heap.size, 5, none⟩) (by simp) _
set_option maxRecDepth 100000 in
set_option maxHeartbeats 2000000 in
theorem blank_one (n : Nat) (hn : n ≤ 64) (w : World) : Calls Tryz.prog 168 #[.int .i64 1, .int .i64 n] w (ObjOwn w (blankO 1 n)) := by
  have HB0 := hid (below_alloc2 w (.cells #[.int .i64 0, .int .i64 0, .slice none 0 0, .string ⟨#[]⟩, .int .i64 0, .int .i64 0] 41) (.cells #[.int .i64 0, .int .i64 1, .slice none 0 0, .string ⟨#[]⟩, .int .i64 0, .int .i64 0] 41))
  have HK := hid ((Lies.new w 41 #[.int .i64 0, .int .i64 0, .slice none 0 0, .string ⟨#[]⟩, .int .i64 0, .int .i64 0]).alloc (.cells #[.int .i64 0, .int .i64 1, .slice none 0 0, .string ⟨#[]⟩, .int .i64 0, .int .i64 0] 41))
  have HL := hid (Lies.new (w.alloc (.cells #[.int .i64 0, .int .i64 0, .slice none 0 0, .string ⟨#[]⟩, .int .i64 0, .int .i64 0] 41)) 41 #[.int .i64 0, .int .i64 1, .slice none 0 0, .string ⟨#[]⟩, .int .i64 0, .int .i64 0])
  go_enter Tryz.func168, Tryz.ntmps168
  go_wp2_with fail
  refine (Tryz.strings_Repeat ⟨#[0]⟩ n _ (by omega) (by show 1 * n ≤ _; omega)).mono ?_
  rintro e w1 ⟨rfl, hb⟩
  have HB := hid hb
  have k0 := HK.out.later hb
  have k1 := HL.out.later hb
  rw [show (w.alloc (.cells #[.int .i64 0, .int .i64 0, .slice none 0 0, .string ⟨#[]⟩, .int .i64 0, .int .i64 0] 41)).heap.size = w.heap.size + 1 by simp] at k1
  have a0 := k0.cell 0
  have a1 := k0.cell 1
  have a2 := k0.cell 2
  have a3 := k0.cell 3
  have a4 := k0.cell 4
  have a5 := k0.cell 5
  have af0 := k0.frozen 0
  have af1 := k0.frozen 1
  have af2 := k0.frozen 2
  have af3 := k0.frozen 3
  have af4 := k0.frozen 4
  have af5 := k0.frozen 5
  have b0 := k1.cell 0
  have b1 := k1.cell 1
  have b2 := k1.cell 2
  have b3 := k1.cell 3
  have b4 := k1.cell 4
  have b5 := k1.cell 5
  have bf3 := k1.frozen 3
  simp only [List.getElem?_toArray, List.getElem?_cons_zero, List.getElem?_cons_succ] at a0 a1 a2 a3 a4 a5 b0 b1 b2 b3 b4 b5
  have K0 := hid k0
  clear hb k0 k1
  obtain ⟨T, hT⟩ : ∃ T : ByteArray, T = zeroT n := ⟨_, rfl⟩
  have hT2 : (⟨(Lib.repeatL (ByteArray.mk #[0]).data.toList n).toArray⟩ : ByteArray) = T := by rw [hT]; rfl
  rw [hT2]
  have HT := hid hT
  clear hT hT2
  go_wp2_with fail
  have X0 : Lies (w1.setCell ⟨w.heap.size + 1, 3, none⟩ (.string T)) w.heap.size 41 #[.int .i64 0, .int .i64 0, .slice none 0 0, .string ⟨#[]⟩, .int .i64 0, .int .i64 0] := K0.out.far (by simp) _
  have X1 := (((((X0.set_ 0 (.int .i64 0)).set_ 1 (.int .i64 1)).set_ 2 (.slice none 0 0)).set_ 3 (.string T)).set_ 4 (.int .i64 0)).set_ 5 (.int .i64 0)
  have r0 := X1.cell 0
  have r1 := X1.cell 1
  have r2 := X1.cell 2
  have r3 := X1.cell 3
  have r4 := X1.cell 4
  have r5 := X1.cell 5
  simp only [List.setIfInBounds_toArray, List.set_cons_zero, List.set_cons_succ, List.getElem?_toArray, List.getElem?_cons_zero, List.getElem?_cons_succ] at r0 r1 r2 r3 r4 r5
  refine bodyPost_ret (v := .agg #[.int .i64 0, .int .i64 1, .slice none 0 0, .string T, .int .i64 0, .int .i64 0]) (by simp [results, Tryz.results168, go_sem, r0, r1, r2, r3, r4, r5]) rfl ?_
  rw [HT.out]
  refine ⟨none, 0, by simp [blankO], World.ownsRow_nil _ _ _ _, ?_⟩
  have hB := HB0.out.trans (HB.out.mono (by simp; omega))
  exact ((((((hB.setCell (p := ⟨w.heap.size + 1, 3, none⟩) (by simp) _).setCell (p := ⟨w.heap.size, 0, none⟩) (by simp) _).setCell (p := ⟨w.heap.size, 1, none⟩) (by simp) _).setCell (p := ⟨w.heap.size, 2, none⟩) (by simp) _).setCell (p := ⟨w.heap.size, 3, none⟩) (by simp) _).setCell (p := ⟨w.heap.size, 4, none⟩) (by simp) _).setCell (p := ⟨w.heap.size, 5, none⟩) (by simp) _
/-- the greatest size of a kind; what is wrong with a new object -/
def mostI (kind : Int) : Int := if kind = 0 then 64 else if kind = 1 then 64 else 0
def roE (h : Hp) (class_ kind size : Int) : Int :=
  if mayB h = false then 1 else if refB h.objs.length class_ = false then 31 else if kind < 0 ∨ 3 ≤ kind then 33 else if size < 0 ∨ mostI kind < size then 32 else if h.cap ≤ (h.objs.length : Int) then 30 else 0
theorem most_any (kind : Int) (w : World) : Calls Tryz.prog 171 #[.int .i64 kind] w fun e w' => e = .returned (.int .i64 (mostI kind)) ∧ w = w' := by
  by_cases h0 : kind = 0
  · subst h0
    go_enter Tryz.func171, Tryz.ntmps171
    go_wp2
    go_ret; exact ⟨rfl, rfl⟩
  · by_cases h1 : kind = 1
    · subst h1
      go_enter Tryz.func171, Tryz.ntmps171
      go_wp2
      go_ret; exact ⟨rfl, rfl⟩
    · have e : mostI kind = 0 := by unfold mostI; rw [if_neg h0, if_neg h1]
      rw [e]
      have h0' : (kind == 0) = false := by simpa using h0
      have h1' : (kind == 1) = false := by simpa using h1
      clear e h0 h1
      go_enter Tryz.func171, Tryz.ntmps171
      go_wp2
      go_ret; exact ⟨rfl, rfl⟩
set_option maxRecDepth 100000 in
set_option maxHeartbeats 2000000 in
theorem room_any (h : Hp) (cl kind size : Int) (A : Option Addr) (c : Nat) (w : World) (hs : ObsR w A h.objs) (fit : h.Fit) :
    Calls Tryz.prog 166 #[.agg #[.slice A h.objs.length c, .int .i64 h.cap, .int .i64 h.last], .int .i64 cl, .int .i64 kind, .int .i64 size] w fun e w' => e = .returned (.int .i64 (roE h cl kind size)) ∧ Below w.heap.size w w' := by
  have HB0 := hid (below_alloc w (.cells #[Value.slice A h.objs.length c, Value.int .i64 h.cap, Value.int .i64 h.last] 24))
  have HX := hid (BoxH.new w h A c)
  have HS := hid hs
  have HF := hid fit
  clear hs fit
  cases hm : mayB h
  · have e1 : roE h cl kind size = 1 := by unfold roE; rw [if_pos hm]
    rw [e1]; clear e1
    go_enter Tryz.func166, Tryz.ntmps166
    go_wp2_with fail
    refine (may_any h A c _ (HS.out.below HB0.out) HF.out).mono ?_
    rintro e w1 ⟨rfl, hb1⟩
    have HB1 := hid hb1
    clear hb1
    go_wp2_with fail
    go_ret
    exact ⟨rfl, HB0.out.trans (HB1.out.mono (by simp))⟩
  · have E1 : Hid (roE h cl kind size = if refB h.objs.length cl = false then 31 else if kind < 0 ∨ 3 ≤ kind then 33 else if size < 0 ∨ mostI kind < size then 32 else if h.cap ≤ (h.objs.length : Int) then 30 else 0) := by
      show _ = _
      unfold roE; rw [if_neg (by rw [hm]; decide)]
    cases hr : refB h.objs.length cl
    all_goals
      have HR := hid hr
      go_enter Tryz.func166, Tryz.ntmps166
      go_wp2_with fail
      refine (may_any h A c _ (HS.out.below HB0.out) HF.out).mono ?_
      rintro e w1 ⟨rfl, hb1⟩
      have HX1 := hid (HX.out.later hb1)
      obtain ⟨x0, x1, x2⟩ := HX1.out
      have HB1 := hid (HB0.out.trans (hb1.mono (by simp)))
      clear hb1
      go_wp2_with fail
      refine (find_any h _ A c _).mono ?_
      rintro e w2 ⟨rfl, hb2⟩
      have HB2 := hid (HB1.out.trans (hb2.mono HB1.out.size))
      clear x0 x1 x2
      obtain ⟨x0, x1, x2⟩ := HX1.out.later hb2
      clear hb2
      go_wp2_with (first | (go_at_call 171; refine (most_any _ _).mono ?_; rintro e w' ⟨rfl, rfl⟩))
    · go_ret
      exact ⟨ret_int (by rw [E1.out, if_pos HR.out]), HB2.out⟩
    all_goals go_ret
    all_goals
      refine ⟨ret_int ?_, HB2.out⟩
      rw [E1.out, if_neg (by rw [HR.out]; decide)]
      repeat' split
      all_goals first | rfl | omega
end Go.Proofs.YtkpfmbdkfgeboaaGreat
