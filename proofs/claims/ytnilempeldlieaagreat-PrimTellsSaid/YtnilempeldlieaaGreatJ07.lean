/- The program's Get and Byte. What the document says is read of a heap: Get, Byte. The program's Set. The document's Set. -/
import Derived.Test.YtnilempeldlieaaGreatJ05
import Derived.Test.YtnilempeldlieaaGreatJ06
import Derived.Deep.DeepCutAuto
namespace Go.Proofs.YtnilempeldlieaaGreat
open Go.RowKit
set_option maxRecDepth 100000 in
set_option maxHeartbeats 4000000 in
theorem get_any (h : Hp) (v k : Int) (A : Option Addr) (c : Nat) (w : World) (hs : ObsR w A h.objs) (fit : h.Fit) :
    Calls Tryz.prog 181 #[.agg #[.slice A h.objs.length c, .int .i64 h.cap, .int .i64 h.last], .int .i64 v, .int .i64 k] w fun e w' => e = .returned (.tuple #[.int .i64 (geV h v k), .int .i64 (plE h v 0 k)]) ∧ Below w.heap.size w w' := by
  have HB0 := hid (below_alloc w (.cells #[Value.slice A h.objs.length c, Value.int .i64 h.cap, Value.int .i64 h.last] 24))
  have HX := hid (BoxH.new w h A c)
  have HS := hid hs
  have HF := hid fit
  clear hs fit
  by_cases e0 : plE h v 0 k = 0
  next =>
   obtain ⟨hm, hr, hk, h0, h1⟩ := pl_ok e0
   have hv := pl_v e0
   obtain ⟨i, hi, hvi, ho⟩ := obAt_get hr
   obtain ⟨j, rfl⟩ : ∃ j : Nat, k = j := ⟨k.toNat, by omega⟩
   have hjn : j < (obAt h v).slots.length := by unfold szO at h1; rw [if_neg (by decide)] at h1; omega
   obtain ⟨hl1, -⟩ := kind_len (ob_kind (may_all hm _ (List.mem_of_getElem? ho)))
   have EV : Hid (geV h v j = (obAt h v).slots.getD j 0) := by show _ = _; unfold geV; rw [if_pos e0]; rfl
   have hv' : plV h v 0 j = (i : Int) := by rw [hv, hvi]
   obtain ⟨b, off, rfl, hlt, hc⟩ := HS.out (by omega)
   obtain ⟨S, d, hob, hin, hsd, -⟩ := hc i _ ho
   obtain ⟨o, hoo⟩ : ∃ o, o = obAt h v := ⟨_, rfl⟩
   rw [← hoo] at hjn hl1 hob hin hsd EV
   obtain ⟨bs, os, rfl, hbs, hcs⟩ := hin (by omega)
   have hcell := hid (hcs j _ (getD_at _ _ hjn))
   have HOB := hid hob
   have E0 := hid e0
   clear hm hr hk h0 h1 hv hvi ho hc hob hin hcs hoo e0
   go_enter Tryz.func181, Tryz.ntmps181
   go_wp2_with fail
   refine (place_any h v 0 j (.inl rfl) (some ⟨b, off, none⟩) c _ (HS.out.below HB0.out) HF.out).mono ?_
   rintro e w1 ⟨rfl, hb1⟩
   have HB1 := hid (HB0.out.trans (hb1.mono (by simp)))
   obtain ⟨x0, x1, x2⟩ := HX.out.later hb1
   obtain ⟨c0, c1, c2, c3, c4, c5⟩ := HOB.out.below hlt HB1.out
   have hcl := (HB1.out.cell (p := ⟨bs, os + j, none⟩) hbs).trans hcell.out
   rw [E0.out]
   clear hb1
   go_wp2_with fail
   go_ret2
   refine ⟨ret_2 (a := o.slots[j]) (b := 0) ?_ E0.out.symm, HB1.out⟩
   rw [EV.out, List.getD_eq_getElem?_getD, List.getElem?_eq_getElem hjn]; rfl
  next =>
   have EV : Hid (geV h v k = 0) := by show _ = _; unfold geV; rw [if_neg e0]
   have e1 : (plE h v 0 k != 0) = true := by simpa using e0
   clear e0
   go_enter Tryz.func181, Tryz.ntmps181
   go_wp2_with fail
   refine (place_any h v 0 k (.inl rfl) A c _ (HS.out.below HB0.out) HF.out).mono ?_
   rintro e w1 ⟨rfl, hb1⟩
   have HB1 := hid (HB0.out.trans (hb1.mono (by simp)))
   clear hb1
   go_wp2_with fail
   go_ret2
   exact ⟨by rw [EV.out]; rfl, HB1.out⟩
set_option maxRecDepth 100000 in
set_option maxHeartbeats 4000000 in
theorem byte_any (h : Hp) (v k : Int) (A : Option Addr) (c : Nat) (w : World) (hs : ObsR w A h.objs) (fit : h.Fit) :
    Calls Tryz.prog 199 #[.agg #[.slice A h.objs.length c, .int .i64 h.cap, .int .i64 h.last], .int .i64 v, .int .i64 k] w fun e w' => e = .returned (.tuple #[.int .i64 (byV h v k), .int .i64 (plE h v 1 k)]) ∧ Below w.heap.size w w' := by
  have HB0 := hid (below_alloc w (.cells #[Value.slice A h.objs.length c, Value.int .i64 h.cap, Value.int .i64 h.last] 24))
  have HX := hid (BoxH.new w h A c)
  have HS := hid hs
  have HF := hid fit
  clear hs fit
  by_cases e0 : plE h v 1 k = 0
  next =>
   obtain ⟨hm, hr, hk, h0, h1⟩ := pl_ok e0
   have hv := pl_v e0
   obtain ⟨i, hi, hvi, ho⟩ := obAt_get hr
   obtain ⟨j, rfl⟩ : ∃ j : Nat, k = j := ⟨k.toNat, by omega⟩
   have hjn : j < (obAt h v).text.size := by unfold szO at h1; rw [if_pos rfl] at h1; omega
   obtain ⟨-, hl1, -⟩ := kind_len (ob_kind (may_all hm _ (List.mem_of_getElem? ho)))
   have EV : Hid (byV h v j = (((obAt h v).text.data.getD j 0).toNat : Int)) := by show _ = _; unfold byV; rw [if_pos e0]; rfl
   have hv' : plV h v 1 j = (i : Int) := by rw [hv, hvi]
   obtain ⟨b, off, rfl, hlt, hc⟩ := HS.out (by omega)
   obtain ⟨S, d, hob, hin, hsd, -⟩ := hc i _ ho
   obtain ⟨o, hoo⟩ : ∃ o, o = obAt h v := ⟨_, rfl⟩
   rw [← hoo] at hjn hl1 hob EV
   have HOB := hid hob
   have E0 := hid e0
   clear hm hr hk h0 h1 hv hvi ho hc hob hin hoo e0
   go_enter Tryz.func199, Tryz.ntmps199
   go_wp2_with fail
   refine (place_any h v 1 j (.inr rfl) (some ⟨b, off, none⟩) c _ (HS.out.below HB0.out) HF.out).mono ?_
   rintro e w1 ⟨rfl, hb1⟩
   have HB1 := hid (HB0.out.trans (hb1.mono (by simp)))
   obtain ⟨x0, x1, x2⟩ := HX.out.later hb1
   obtain ⟨c0, c1, c2, c3, c4, c5⟩ := HOB.out.below hlt HB1.out
   rw [E0.out]
   clear hb1
   go_wp2_with fail
   go_ret2
   refine ⟨ret_2 (a := wrap64 (o.text[j].toNat : Int)) (b := 0) ?_ E0.out.symm, HB1.out⟩
   rw [EV.out, wrap_byte, text_at o.text j hjn]
  next =>
   have EV : Hid (byV h v k = 0) := by show _ = _; unfold byV; rw [if_neg e0]
   have e1 : (plE h v 1 k != 0) = true := by simpa using e0
   clear e0
   go_enter Tryz.func199, Tryz.ntmps199
   go_wp2_with fail
   refine (place_any h v 1 k (.inr rfl) A c _ (HS.out.below HB0.out) HF.out).mono ?_
   rintro e w1 ⟨rfl, hb1⟩
   have HB1 := hid (HB0.out.trans (hb1.mono (by simp)))
   clear hb1
   go_wp2_with fail
   go_ret2
   exact ⟨by rw [EV.out]; rfl, HB1.out⟩
end Go.Proofs.YtnilempeldlieaaGreat
namespace Go.Proofs.YtnilempeldlieaaGreat
open Go.RowKit
set_option maxRecDepth 100000 in
set_option maxHeartbeats 4000000 in
theorem rget_any (h : Hp) (v k : Int) (A : Option Addr) (c : Nat) (w : World) (hs : ObsR w A h.objs) (fit : h.Fit) :
    Calls Tryz.prog 78 #[.agg #[.slice A h.objs.length c, .int .i64 h.cap, .int .i64 h.last], .int .i64 v, .int .i64 k] w fun e w' => e = .returned (.tuple #[.int .i64 (geV h v k), .int .i64 (plE h v 0 k)]) ∧ Below w.heap.size w w' := by
  have HB0 := hid (below_alloc w (.cells #[Value.slice A h.objs.length c, Value.int .i64 h.cap, Value.int .i64 h.last] 24))
  have HX := hid (BoxH.new w h A c)
  have HS := hid hs
  have HF := hid fit
  clear hs fit
  by_cases e0 : plE h v 0 k = 0
  next =>
   obtain ⟨hm, hr, hk, h0, h1⟩ := pl_ok e0
   obtain ⟨i, hi, hvi, ho⟩ := obAt_get hr
   obtain ⟨j, rfl⟩ : ∃ j : Nat, k = j := ⟨k.toNat, by omega⟩
   have hjn : j < (obAt h v).slots.length := by unfold szO at h1; rw [if_neg (by decide)] at h1; omega
   obtain ⟨hl1, hl2, -⟩ := kind_len (ob_kind (may_all hm _ (List.mem_of_getElem? ho)))
   have EV : Hid (geV h v j = (obAt h v).slots.getD j 0) := by show _ = _; unfold geV; rw [if_pos e0]; rfl
   have hri : refI h.objs.length v = (i : Int) := by rw [refI_nonneg hr, hvi]
   obtain ⟨b, off, rfl, hlt, hc⟩ := HS.out (by omega)
   obtain ⟨S, d, hob, hin, hsd, -⟩ := hc i _ ho
   obtain ⟨o, hoo⟩ : ∃ o, o = obAt h v := ⟨_, rfl⟩
   rw [← hoo] at hjn hl1 hl2 hob hin hsd EV
   obtain ⟨bs, os, rfl, hbs, hcs⟩ := hin (by omega)
   have hcell := hid (hcs j _ (getD_at _ _ hjn))
   clear hcs
   have HOB := hid hob
   have E0 := hid e0
   clear hm hr hk h0 h1 hvi ho hc hob hin hoo e0
   go_enter Tryz.func78, Tryz.ntmps78
   go_wp2_with fail
   refine (wrong_any h v 0 j (.inl rfl) (some ⟨b, off, none⟩) c _ (HS.out.below HB0.out) HF.out).mono ?_
   rintro e w1 ⟨rfl, hb1⟩
   have HB1 := hid (HB0.out.trans (hb1.mono (by simp)))
   obtain ⟨x0, x1, x2⟩ := HX.out.later hb1
   obtain ⟨c0, c1, c2, c3, c4, c5⟩ := HOB.out.below hlt HB1.out
   have hcl := (HB1.out.cell (p := ⟨bs, os + j, none⟩) hbs).trans hcell.out
   rw [E0.out]
   clear hb1
   go_wp2_with fail
   go_region_held3 (fun w' => w'.cell? ⟨w.heap.size, 0, none⟩ = some (.slice (some ⟨b, off, none⟩) h.objs.length c) ∧ w'.cell? ⟨w.heap.size, 1, none⟩ = some (.int .i64 h.cap) ∧ w'.cell? ⟨w.heap.size, 2, none⟩ = some (.int .i64 h.last) ∧ w'.cell? ⟨b, off + i * 6 + 2, none⟩ = some (.slice (some ⟨bs, os, none⟩) o.slots.length d) ∧ w'.cell? ⟨bs, os + j, none⟩ = some (.int .i64 (o.slots.getD j 0)))
     (first | exact ⟨x0, x1, x2, c2, hcl⟩ | exact ⟨cell_later hb2 x0, cell_later hb2 x1, cell_later hb2 x2, cell_later hb2 c2, cell_later hb2 hcl⟩)
     (first | (go_at_call 32; refine (rref_any h v (some ⟨b, off, none⟩) c _).mono ?_; rintro e w2 ⟨rfl, hb2⟩))
   have HB2 : Hid (Below w.heap.size w w2) := below_go HB1.out.drew HB1.out.size hb2
   clear hb2
   go_wp2_with fail
   go_ret2
   refine ⟨ret_2 (a := o.slots[j]) (b := 0) ?_ E0.out.symm, HB2.out⟩
   rw [EV.out, List.getD_eq_getElem?_getD, List.getElem?_eq_getElem hjn]; rfl
  next =>
   have EV : Hid (geV h v k = 0) := by show _ = _; unfold geV; rw [if_neg e0]
   have e1 : (plE h v 0 k != 0) = true := by simpa using e0
   clear e0
   go_enter Tryz.func78, Tryz.ntmps78
   go_wp2_with fail
   refine (wrong_any h v 0 k (.inl rfl) A c _ (HS.out.below HB0.out) HF.out).mono ?_
   rintro e w1 ⟨rfl, hb1⟩
   have HB1 := hid (HB0.out.trans (hb1.mono (by simp)))
   clear hb1
   go_wp2_with fail
   go_ret2
   exact ⟨by rw [EV.out]; rfl, HB1.out⟩
set_option maxRecDepth 100000 in
set_option maxHeartbeats 4000000 in
theorem rbyte_any (h : Hp) (v k : Int) (A : Option Addr) (c : Nat) (w : World) (hs : ObsR w A h.objs) (fit : h.Fit) :
    Calls Tryz.prog 81 #[.agg #[.slice A h.objs.length c, .int .i64 h.cap, .int .i64 h.last], .int .i64 v, .int .i64 k] w fun e w' => e = .returned (.tuple #[.int .i64 (byV h v k), .int .i64 (plE h v 1 k)]) ∧ Below w.heap.size w w' := by
  have HB0 := hid (below_alloc w (.cells #[Value.slice A h.objs.length c, Value.int .i64 h.cap, Value.int .i64 h.last] 24))
  have HX := hid (BoxH.new w h A c)
  have HS := hid hs
  have HF := hid fit
  clear hs fit
  by_cases e0 : plE h v 1 k = 0
  next =>
   obtain ⟨hm, hr, hk, h0, h1⟩ := pl_ok e0
   obtain ⟨i, hi, hvi, ho⟩ := obAt_get hr
   obtain ⟨j, rfl⟩ : ∃ j : Nat, k = j := ⟨k.toNat, by omega⟩
   have hjn : j < (obAt h v).text.size := by unfold szO at h1; rw [if_pos rfl] at h1; omega
   obtain ⟨hl1, hl2, -⟩ := kind_len (ob_kind (may_all hm _ (List.mem_of_getElem? ho)))
   have EV : Hid (byV h v j = (((obAt h v).text.data.getD j 0).toNat : Int)) := by show _ = _; unfold byV; rw [if_pos e0]; rfl
   have hri : refI h.objs.length v = (i : Int) := by rw [refI_nonneg hr, hvi]
   obtain ⟨b, off, rfl, hlt, hc⟩ := HS.out (by omega)
   obtain ⟨S, d, hob, hin, hsd, -⟩ := hc i _ ho
   obtain ⟨o, hoo⟩ : ∃ o, o = obAt h v := ⟨_, rfl⟩
   rw [← hoo] at hjn hl1 hl2 hob hin hsd EV

   have HOB := hid hob
   have E0 := hid e0
   clear hm hr hk h0 h1 hvi ho hc hob hin hoo e0
   go_enter Tryz.func81, Tryz.ntmps81
   go_wp2_with fail
   refine (wrong_any h v 1 j (.inr rfl) (some ⟨b, off, none⟩) c _ (HS.out.below HB0.out) HF.out).mono ?_
   rintro e w1 ⟨rfl, hb1⟩
   have HB1 := hid (HB0.out.trans (hb1.mono (by simp)))
   obtain ⟨x0, x1, x2⟩ := HX.out.later hb1
   obtain ⟨c0, c1, c2, c3, c4, c5⟩ := HOB.out.below hlt HB1.out

   rw [E0.out]
   clear hb1
   go_wp2_with fail
   go_region_held3 (fun w' => w'.cell? ⟨w.heap.size, 0, none⟩ = some (.slice (some ⟨b, off, none⟩) h.objs.length c) ∧ w'.cell? ⟨w.heap.size, 1, none⟩ = some (.int .i64 h.cap) ∧ w'.cell? ⟨w.heap.size, 2, none⟩ = some (.int .i64 h.last) ∧ w'.cell? ⟨b, off + i * 6 + 3, none⟩ = some (.string o.text))
     (first | exact ⟨x0, x1, x2, c3⟩ | exact ⟨cell_later hb2 x0, cell_later hb2 x1, cell_later hb2 x2, cell_later hb2 c3⟩)
     (first | (go_at_call 32; refine (rref_any h v (some ⟨b, off, none⟩) c _).mono ?_; rintro e w2 ⟨rfl, hb2⟩))
   have HB2 : Hid (Below w.heap.size w w2) := below_go HB1.out.drew HB1.out.size hb2
   clear hb2
   go_wp2_with fail
   go_ret2
   refine ⟨ret_2 (a := IntKind.i64.wrap (o.text[j].toNat : Int)) (b := 0) ?_ E0.out.symm, HB2.out⟩
   rw [EV.out, IntWalk.i64_in _ (by have := o.text[j].toNat_lt; omega), text_at o.text j hjn]
  next =>
   have EV : Hid (byV h v k = 0) := by show _ = _; unfold byV; rw [if_neg e0]
   have e1 : (plE h v 1 k != 0) = true := by simpa using e0
   clear e0
   go_enter Tryz.func81, Tryz.ntmps81
   go_wp2_with fail
   refine (wrong_any h v 1 k (.inr rfl) A c _ (HS.out.below HB0.out) HF.out).mono ?_
   rintro e w1 ⟨rfl, hb1⟩
   have HB1 := hid (HB0.out.trans (hb1.mono (by simp)))
   clear hb1
   go_wp2_with fail
   go_ret2
   exact ⟨by rw [EV.out]; rfl, HB1.out⟩
end Go.Proofs.YtnilempeldlieaaGreat
namespace Go.Proofs.YtnilempeldlieaaGreat
open Go.RowKit
set_option maxRecDepth 100000 in
set_option maxHeartbeats 4000000 in
theorem set_any (h : Hp) (v k x : Int) (A : Option Addr) (c : Nat) (w : World) (hs : ObsR w A h.objs) (fit : h.Fit) :
    Calls Tryz.prog 184 #[.agg #[.slice A h.objs.length c, .int .i64 h.cap, .int .i64 h.last], .int .i64 v, .int .i64 k, .int .i64 x] w (HeapOwn2 w (setR h v k x) (setE h v k x)) := by
  have HB0 := hid (below_alloc2 w (.cells #[Value.slice A h.objs.length c, Value.int .i64 h.cap, Value.int .i64 h.last] 24) (.cells #[.slice none 0 0, .int .i64 0, .int .i64 0] 24))
  have HX := hid ((BoxH.new w h A c).later (below_alloc _ (.cells #[.slice none 0 0, .int .i64 0, .int .i64 0] 24)))
  have K1 : Hid (Lies ((w.alloc (.cells #[Value.slice A h.objs.length c, Value.int .i64 h.cap, Value.int .i64 h.last] 24)).alloc (.cells #[.slice none 0 0, .int .i64 0, .int .i64 0] 24)) (w.heap.size + 1) 24 #[.slice none 0 0, .int .i64 0, .int .i64 0]) := by
    have := Lies.new (w.alloc (.cells #[Value.slice A h.objs.length c, Value.int .i64 h.cap, Value.int .i64 h.last] 24)) 24 #[.slice none 0 0, .int .i64 0, .int .i64 0]
    simpa [Hid] using this
  have HS := hid hs
  have HF := hid fit
  clear hs fit
  by_cases e0 : plE h v 0 k = 0
  next =>
   cases hx : hasB h.objs.length x
   next =>
    obtain ⟨hm, hr, hk, h0, h1⟩ := pl_ok e0
    have EE : Hid (setE h v k x = 31) := by show _ = _; unfold setE; rw [if_pos e0, hx]; rfl
    have ER : Hid (setR h v k x = unH h 31) := by show _ = _; unfold setR; rw [EE.out, if_neg (by decide)]
    have E0 := hid e0
    have HM := hid hm
    have HXX := hid hx
    clear hm hr hk h0 h1 e0 hx
    go_enter Tryz.func184, Tryz.ntmps184
    go_wp2_with fail
    refine (place_any h v 0 k (.inl rfl) A c _ (HS.out.below HB0.out) HF.out).mono ?_
    rintro e w1 ⟨rfl, hb1⟩
    rw [E0.out]
    have HB1 := hid (HB0.out.trans (hb1.mono HB0.out.size))
    have HX1 := hid (HX.out.later hb1)
    have HK1 := hid (K1.out.later hb1)
    clear hb1
    obtain ⟨x0, x1, x2⟩ := HX1.out
    go_wp2_with fail
    refine (isval_any h x A c _).mono ?_
    rintro e w2 ⟨rfl, hb2⟩
    rw [HXX.out]
    have HB2 := hid (HB1.out.trans (hb2.mono HB1.out.size))
    have HX2 := hid (HX1.out.later hb2)
    have HK2 := hid (HK1.out.later hb2)
    clear hb2 x0 x1 x2
    obtain ⟨x0, x1, x2⟩ := HX2.out
    go_wp2_with fail
    refine (unchanged_any h 31 A c _ (HS.out.below HB2.out) (fun _ => HM.out)).mono ?_
    rintro e wu ⟨Au, cu, lu, rfl, hlu, hou, hbu⟩
    have HKu := hid (HK2.out.later hbu)
    have HBu := hid (HB2.out.trans (hbu.mono HB2.out.size))
    have HOu := hid hou
    have HLu := hid hlu
    have hltu := HK2.out.lt
    obtain ⟨u0, u1, u2⟩ := HKu.out.c3
    obtain ⟨uf0, uf1, uf2⟩ := HKu.out.f3
    clear hou hbu hlu
    go_wp2_with fail
    have K0 := (((HKu.out.set_ 0 (.slice Au (unH h 31).objs.length cu)).set_ 1 (.int .i64 (unH h 31).cap)).set_ 2 (.int .i64 (unH h 31).last))
    have r0 := K0.cell 0
    have r1 := K0.cell 1
    have r2 := K0.cell 2
    simp only [List.setIfInBounds_toArray, List.set_cons_zero, List.set_cons_succ, List.getElem?_toArray, List.getElem?_cons_zero, List.getElem?_cons_succ] at r0 r1 r2
    refine bodyPost_ret (v := .tuple #[.agg #[.slice Au (unH h 31).objs.length cu, .int .i64 (unH h 31).cap, .int .i64 (unH h 31).last], .int .i64 31]) (by simp [results, Tryz.results184, go_sem, r0, r1, r2]) rfl ?_
    rw [EE.out, ER.out]
    refine ⟨Au, cu, lu, rfl, HLu.out, ((((HOu.out).low (p := ⟨w.heap.size + 1, 0, none⟩) (by simp; omega) _).low (p := ⟨w.heap.size + 1, 1, none⟩) (by simp; omega) _).low (p := ⟨w.heap.size + 1, 2, none⟩) (by simp; omega) _).lower HB2.out.size, (((HBu.out).setCell (p := ⟨w.heap.size + 1, 0, none⟩) (by simp) _).setCell (p := ⟨w.heap.size + 1, 1, none⟩) (by simp) _).setCell (p := ⟨w.heap.size + 1, 2, none⟩) (by simp) _⟩
   next =>
    obtain ⟨hm, hr, hk, h0, h1⟩ := pl_ok e0
    have hv := pl_v e0
    obtain ⟨i, hi, hvi, ho⟩ := obAt_get hr
    obtain ⟨j, rfl⟩ : ∃ j : Nat, k = j := ⟨k.toNat, by omega⟩
    have hjn : j < (obAt h v).slots.length := by unfold szO at h1; rw [if_neg (by decide)] at h1; omega
    obtain ⟨hl1, -⟩ := kind_len (ob_kind (may_all hm _ (List.mem_of_getElem? ho)))
    have hv' : plV h v 0 j = (i : Int) := by rw [hv, hvi]
    have EE : Hid (setE h v j x = 0) := by show _ = _; unfold setE; rw [if_pos e0, hx]; rfl
    have ER : Hid (setR h v j x = { h with objs := h.objs.set i { obAt h v with slots := (obAt h v).slots.set j x } }) := by
      show _ = _
      unfold setR; rw [if_pos EE.out]; unfold setH; rw [hvi]; rfl
    have HO := hid ho
    have E0 := hid e0
    have HM := hid hm
    have HXX := hid hx
    clear hm hr hk h0 h1 hv hvi ho e0 hx
    go_enter Tryz.func184, Tryz.ntmps184
    go_wp2_with fail
    refine (place_any h v 0 j (.inl rfl) A c _ (HS.out.below HB0.out) HF.out).mono ?_
    rintro e w1 ⟨rfl, hb1⟩
    rw [E0.out]
    have HB1 := hid (HB0.out.trans (hb1.mono HB0.out.size))
    have HX1 := hid (HX.out.later hb1)
    have HK1 := hid (K1.out.later hb1)
    clear hb1
    obtain ⟨x0, x1, x2⟩ := HX1.out
    go_wp2_with fail
    refine (isval_any h x A c _).mono ?_
    rintro e w2 ⟨rfl, hb2⟩
    rw [HXX.out]
    have HB2 := hid (HB1.out.trans (hb2.mono HB1.out.size))
    have HX2 := hid (HX1.out.later hb2)
    have HK2 := hid (HK1.out.later hb2)
    clear hb2 x0 x1 x2
    obtain ⟨x0, x1, x2⟩ := HX2.out
    go_wp2_with fail
    refine (clone_h h A c _ (HS.out.below HB2.out) HM.out).mono ?_
    rintro e w3 ⟨A3, c3, ls, rfl, hls, hown, hb3⟩
    have HB3 := hid (HB2.out.trans (hb3.mono HB2.out.size))
    have HK3 := hid (HK2.out.later hb3)
    have hw2 : w.heap.size + 2 ≤ w2.heap.size := by have := HB0.out; have := HK2.out.lt; omega
    have hin : i < ls.length := by have := congrArg List.length hls; simp at this; omega
    have hlo : ls[i].o = obAt h v := by
      have := congrArg (fun t => t[i]?) hls
      simp only [List.getElem?_map, List.getElem?_eq_getElem hin, Option.map_some] at this
      rw [HO.out] at this
      exact Option.some.inj this
    obtain ⟨g, cg, hvv, hg0, hg1⟩ := hown.row.form (by omega)
    simp only [Value.slice.injEq, true_and] at hvv
    obtain ⟨rfl, rfl⟩ := hvv
    have hli : ls[i]? = some ls[i] := List.getElem?_eq_getElem hin
    obtain ⟨gs, cs, hvs, hs0, hs1⟩ := (hown.ints i _ hli).form (by rw [hlo]; omega)
    simp only [Value.slice.injEq, true_and] at hvs
    obtain ⟨hS, hC⟩ := hvs
    have q2 := (hown.row.cellAt (i * 6 + 2) (by omega)).trans (rowOf_get ls i 2 _ hli (by omega))
    simp only [LO.cells, List.getElem?_cons_zero, List.getElem?_cons_succ] at q2
    rw [hlo, hS] at q2
    have hI := hown.ints i _ hli
    rw [hS, hlo] at hI
    have qj := hI.cellAt j (by omega)
    have fj := hI.frozenAt j
    rw [List.getElem?_map, getD_at _ _ hjn] at qj
    simp only [Option.map_some] at qj
    have HOW := hid hown
    have HLS := hid hls
    have HSS := hid hS
    have HLI := hid hli
    have HLO := hid hlo
    have q2' := cell_old (ob := .cells #[Value.slice (some ⟨g, 0, none⟩) h.objs.length c3, Value.int .i64 h.cap, Value.int .i64 h.last] 24) q2
    have qj' := cell_old (ob := .cells #[Value.slice (some ⟨g, 0, none⟩) h.objs.length c3, Value.int .i64 h.cap, Value.int .i64 h.last] 24) qj
    have fj' : (w3.alloc (.cells #[Value.slice (some ⟨g, 0, none⟩) h.objs.length c3, Value.int .i64 h.cap, Value.int .i64 h.last] 24)).frozen? ⟨gs, j, none⟩ = false := by
      rw [(below_alloc w3 (.cells #[Value.slice (some ⟨g, 0, none⟩) h.objs.length c3, Value.int .i64 h.cap, Value.int .i64 h.last] 24)).frozen hs1]; exact fj
    have hne1 : gs ≠ w3.heap.size := by omega
    have hne2 : gs ≠ w.heap.size + 1 := by omega
    have HK4 := hid (HK3.out.far (p := ⟨gs, j, none⟩) (by show w.heap.size + 1 ≠ gs; omega) (.int .i64 x))
    have hlt3 : w.heap.size + 1 < w3.heap.size := HK3.out.lt
    have hne3 : w.heap.size + 1 ≠ w3.heap.size := by omega
    obtain ⟨y0, y1, y2⟩ := HK3.out.c3
    obtain ⟨yf0, yf1, yf2⟩ := HK3.out.f3
    clear hb3 hown hls hS hli hlo hI q2 qj fj hC x0 x1 x2
    go_wp2_with fail
    have K0 := (((HK4.out.set_ 0 (.slice (some ⟨g, 0, none⟩) h.objs.length c3)).set_ 1 (.int .i64 h.cap)).set_ 2 (.int .i64 h.last)).alloc (.cells #[Value.slice (some ⟨g, 0, none⟩) h.objs.length c3, Value.int .i64 h.cap, Value.int .i64 h.last] 24)
    have r0 := K0.cell 0
    have r1 := K0.cell 1
    have r2 := K0.cell 2
    simp only [List.setIfInBounds_toArray, List.set_cons_zero, List.set_cons_succ, List.getElem?_toArray, List.getElem?_cons_zero, List.getElem?_cons_succ] at r0 r1 r2
    refine bodyPost_ret (v := .tuple #[.agg #[.slice (some ⟨g, 0, none⟩) h.objs.length c3, .int .i64 h.cap, .int .i64 h.last], .int .i64 0]) (by simp [results, Tryz.results184, go_sem, r0, r1, r2]) rfl ?_
    rw [EE.out, ER.out]
    refine ⟨some ⟨g, 0, none⟩, c3, ls.set i ⟨{ ls[i].o with slots := ls[i].o.slots.set j x }, ls[i].S, ls[i].c⟩, by simp, ?_, ?_, ?_⟩
    next =>
     show List.map _ _ = h.objs.set i _
     rw [List.map_set, HLS.out, ← HLO.out]
    next =>
     have hb2 : w.heap.size + 1 < w2.heap.size := by omega
     exact (((((HOW.out.slot HLI.out HSS.out).low (p := ⟨w.heap.size + 1, 0, none⟩) (by simp; omega) _).low (p := ⟨w.heap.size + 1, 1, none⟩) (by simp; omega) _).low (p := ⟨w.heap.size + 1, 2, none⟩) (by simp; omega) _).later (below_alloc _ _)).lower (by omega)
    next =>
     exact (((((HB3.out.setCell (p := ⟨gs, j, none⟩) (by show w.heap.size ≤ gs; omega) _)).setCell (p := ⟨w.heap.size + 1, 0, none⟩) (by simp) _).setCell (p := ⟨w.heap.size + 1, 1, none⟩) (by simp) _).setCell (p := ⟨w.heap.size + 1, 2, none⟩) (by simp) _).alloc (by simp; omega) _
  next =>
   have EE : Hid (setE h v k x = plE h v 0 k) := by show _ = _; unfold setE; rw [if_neg e0]
   have ER : Hid (setR h v k x = unH h (plE h v 0 k)) := by show _ = _; unfold setR; rw [EE.out, if_neg e0]
   have e1 : (plE h v 0 k == 0) = false := by simpa using e0
   have e2 : (plE h v 0 k != 0) = true := by simpa using e0
   clear e0
   go_enter Tryz.func184, Tryz.ntmps184
   go_wp2_with fail
   refine (place_any h v 0 k (.inl rfl) A c _ (HS.out.below HB0.out) HF.out).mono ?_
   rintro e w1 ⟨rfl, hb1⟩
   have HB1 := hid (HB0.out.trans (hb1.mono HB0.out.size))
   have HX1 := hid (HX.out.later hb1)
   have HK1 := hid (K1.out.later hb1)
   clear hb1
   obtain ⟨x0, x1, x2⟩ := HX1.out
   go_wp2_with fail
   refine (unchanged_any h (plE h v 0 k) A c _ (HS.out.below HB1.out) plE_may).mono ?_
   rintro e wu ⟨Au, cu, lu, rfl, hlu, hou, hbu⟩
   have HKu := hid (HK1.out.later hbu)
   have HBu := hid (HB1.out.trans (hbu.mono HB1.out.size))
   have HOu := hid hou
   have HLu := hid hlu
   have hltu := HK1.out.lt
   obtain ⟨u0, u1, u2⟩ := HKu.out.c3
   obtain ⟨uf0, uf1, uf2⟩ := HKu.out.f3
   clear hou hbu hlu
   go_wp2_with fail
   have K0 := (((HKu.out.set_ 0 (.slice Au (unH h (plE h v 0 k)).objs.length cu)).set_ 1 (.int .i64 (unH h (plE h v 0 k)).cap)).set_ 2 (.int .i64 (unH h (plE h v 0 k)).last))
   have r0 := K0.cell 0
   have r1 := K0.cell 1
   have r2 := K0.cell 2
   simp only [List.setIfInBounds_toArray, List.set_cons_zero, List.set_cons_succ, List.getElem?_toArray, List.getElem?_cons_zero, List.getElem?_cons_succ] at r0 r1 r2
   refine bodyPost_ret (v := .tuple #[.agg #[.slice Au (unH h (plE h v 0 k)).objs.length cu, .int .i64 (unH h (plE h v 0 k)).cap, .int .i64 (unH h (plE h v 0 k)).last], .int .i64 (plE h v 0 k)]) (by simp [results, Tryz.results184, go_sem, r0, r1, r2]) rfl ?_
   rw [EE.out, ER.out]
   refine ⟨Au, cu, lu, rfl, HLu.out, ((((HOu.out).low (p := ⟨w.heap.size + 1, 0, none⟩) (by simp; omega) _).low (p := ⟨w.heap.size + 1, 1, none⟩) (by simp; omega) _).low (p := ⟨w.heap.size + 1, 2, none⟩) (by simp; omega) _).lower HB1.out.size, (((HBu.out).setCell (p := ⟨w.heap.size + 1, 0, none⟩) (by simp) _).setCell (p := ⟨w.heap.size + 1, 1, none⟩) (by simp) _).setCell (p := ⟨w.heap.size + 1, 2, none⟩) (by simp) _⟩
end Go.Proofs.YtnilempeldlieaaGreat
namespace Go.Proofs.YtnilempeldlieaaGreat
open Go.RowKit
set_option maxRecDepth 100000 in
set_option maxHeartbeats 4000000 in
theorem rset_any (h : Hp) (v k x : Int) (A : Option Addr) (c : Nat) (w : World) (hs : ObsR w A h.objs) (fit : h.Fit) :
    Calls Tryz.prog 80 #[.agg #[.slice A h.objs.length c, .int .i64 h.cap, .int .i64 h.last], .int .i64 v, .int .i64 k, .int .i64 x] w (HeapTwo w (setR h v k x) (setE h v k x)) := by
  have HB0 := hid (below_alloc2 w (.cells #[Value.slice A h.objs.length c, Value.int .i64 h.cap, Value.int .i64 h.last] 24) (.cells #[.slice none 0 0, .int .i64 0, .int .i64 0] 24))
  have HX := hid ((BoxH.new w h A c).later (below_alloc _ (.cells #[.slice none 0 0, .int .i64 0, .int .i64 0] 24)))
  have K1 : Hid (Lies ((w.alloc (.cells #[Value.slice A h.objs.length c, Value.int .i64 h.cap, Value.int .i64 h.last] 24)).alloc (.cells #[.slice none 0 0, .int .i64 0, .int .i64 0] 24)) (w.heap.size + 1) 24 #[.slice none 0 0, .int .i64 0, .int .i64 0]) := by
    have := Lies.new (w.alloc (.cells #[Value.slice A h.objs.length c, Value.int .i64 h.cap, Value.int .i64 h.last] 24)) 24 #[.slice none 0 0, .int .i64 0, .int .i64 0]
    simpa [Hid] using this
  have HS := hid hs
  have HF := hid fit
  clear hs fit
  have HX0 := HX
  have HK0 := K1
  by_cases e0 : plE h v 0 k = 0
  next =>
   obtain ⟨hm, hr, hk, h0, h1⟩ := pl_ok e0
   have HM := hid hm
   cases hx : hasB h.objs.length x
   next =>
    have EE : Hid (setE h v k x = 31) := by show _ = _; unfold setE; rw [if_pos e0, hx]; rfl
    have ER : Hid (setR h v k x = h) := by show _ = _; unfold setR; rw [EE.out, if_neg (by decide)]; unfold unH; rw [if_neg (by decide)]
    have E0 := hid e0
    have HXX := hid hx
    clear hm hr hk h0 h1 e0 hx
    go_enter Tryz.func80, Tryz.ntmps80
    go_wp2_with fail
    refine (wrong_any h v 0 k (.inl rfl) A c _ (HS.out.below HB0.out) HF.out).mono ?_
    rintro e w1 ⟨rfl, hb⟩
    rw [E0.out]
    have HB1 := hid (HB0.out.trans (hb.mono HB0.out.size))
    have HX1 := hid (HX0.out.later hb)
    have HK1 := hid (HK0.out.later hb)
    clear hb
    obtain ⟨x0, x1, x2⟩ := HX1.out
    go_wp2_with fail
    refine (rhas_any h x A c _).mono ?_
    rintro e w2 ⟨rfl, hb⟩
    rw [HXX.out]
    have HB2 := hid (HB1.out.trans (hb.mono HB1.out.size))
    have HX2 := hid (HX1.out.later hb)
    have HK2 := hid (HK1.out.later hb)
    clear hb x0 x1 x2
    obtain ⟨x0, x1, x2⟩ := HX2.out
    have hlta := HK2.out.lt
    obtain ⟨u0, u1, u2⟩ := HK2.out.c3
    obtain ⟨uf0, uf1, uf2⟩ := HK2.out.f3
    go_wp2_with fail
    have K0 := (((HK2.out.set_ 0 (.slice A h.objs.length c)).set_ 1 (.int .i64 h.cap)).set_ 2 (.int .i64 h.last))
    have r0 := K0.cell 0
    have r1 := K0.cell 1
    have r2 := K0.cell 2
    simp only [List.setIfInBounds_toArray, List.set_cons_zero, List.set_cons_succ, List.getElem?_toArray, List.getElem?_cons_zero, List.getElem?_cons_succ] at r0 r1 r2
    refine bodyPost_ret (v := .tuple #[.agg #[.slice A h.objs.length c, .int .i64 h.cap, .int .i64 h.last], .int .i64 31]) (by simp [results, Tryz.results80, go_sem, r0, r1, r2]) rfl ?_
    rw [EE.out, ER.out]
    refine ⟨A, c, rfl, HS.out.below ?_, ?_⟩ <;> exact (((HB2.out).setCell (p := ⟨w.heap.size + 1, 0, none⟩) (by simp) _).setCell (p := ⟨w.heap.size + 1, 1, none⟩) (by simp) _).setCell (p := ⟨w.heap.size + 1, 2, none⟩) (by simp) _
   next =>
    have hrr := hr
    obtain ⟨i, hi, hvi, ho⟩ := obAt_get hr
    obtain ⟨j, rfl⟩ : ∃ j : Nat, k = j := ⟨k.toNat, by omega⟩
    have hjn : j < (obAt h v).slots.length := by unfold szO at h1; rw [if_neg (by decide)] at h1; omega
    obtain ⟨hl1, -⟩ := kind_len (ob_kind (may_all hm _ (List.mem_of_getElem? ho)))
    have hri : refI h.objs.length v = (i : Int) := by rw [refI_nonneg hr, hvi]
    have EE : Hid (setE h v j x = 0) := by show _ = _; unfold setE; rw [if_pos e0, hx]; rfl
    have ER : Hid (setR h v j x = { h with objs := h.objs.set i { obAt h v with slots := (obAt h v).slots.set j x } }) := by
      show _ = _
      unfold setR; rw [if_pos EE.out]; unfold setH; rw [hvi]; rfl
    have HO := hid ho
    have E0 := hid e0
    have HXX := hid hx
    clear hm hr hrr hk h0 h1 hvi ho e0 hx
    go_enter Tryz.func80, Tryz.ntmps80
    go_wp2_with fail
    refine (wrong_any h v 0 j (.inl rfl) A c _ (HS.out.below HB0.out) HF.out).mono ?_
    rintro e w1 ⟨rfl, hb⟩
    rw [E0.out]
    have HB1 := hid (HB0.out.trans (hb.mono HB0.out.size))
    have HX1 := hid (HX0.out.later hb)
    have HK1 := hid (HK0.out.later hb)
    clear hb
    obtain ⟨x0, x1, x2⟩ := HX1.out
    go_wp2_with fail
    refine (rhas_any h x A c _).mono ?_
    rintro e w2 ⟨rfl, hb⟩
    rw [HXX.out]
    have HB2 := hid (HB1.out.trans (hb.mono HB1.out.size))
    have HX2 := hid (HX1.out.later hb)
    have HK2 := hid (HK1.out.later hb)
    clear hb x0 x1 x2
    obtain ⟨x0, x1, x2⟩ := HX2.out
    go_wp2_with fail
    refine (copy_h h A c _ (HS.out.below HB2.out) HM.out).mono ?_
    rintro e w3 ⟨A3, c3, ls, rfl, hls, hown, hb3⟩
    have HB3 := hid (HB2.out.trans (hb3.mono HB2.out.size))
    have HK3 := hid (HK2.out.later hb3)
    have HX3 := hid (HX2.out.later hb3)
    have hw2 : w.heap.size + 2 ≤ w2.heap.size := by have := HK2.out.lt; omega
    have hin : i < ls.length := by have := congrArg List.length hls; simp at this; omega
    have hlo : ls[i].o = obAt h v := by
      have := congrArg (fun t => t[i]?) hls
      simp only [List.getElem?_map, List.getElem?_eq_getElem hin, Option.map_some] at this
      rw [HO.out] at this
      exact Option.some.inj this
    obtain ⟨g, cg, hvv, hg0, hg1⟩ := hown.row.form (by omega)
    simp only [Value.slice.injEq, true_and] at hvv
    obtain ⟨rfl, rfl⟩ := hvv
    have hli : ls[i]? = some ls[i] := List.getElem?_eq_getElem hin
    obtain ⟨gs, cs, hvs, hs0, hs1⟩ := (hown.ints i _ hli).form (by rw [hlo]; omega)
    simp only [Value.slice.injEq, true_and] at hvs
    obtain ⟨hS, hC⟩ := hvs
    have q2 := (hown.row.cellAt (i * 6 + 2) (by omega)).trans (rowOf_get ls i 2 _ hli (by omega))
    simp only [LO.cells, List.getElem?_cons_zero, List.getElem?_cons_succ] at q2
    rw [hlo, hS] at q2
    have hI := hown.ints i _ hli
    rw [hS, hlo] at hI
    have qj := hI.cellAt j (by omega)
    have fj := hI.frozenAt j
    rw [List.getElem?_map, getD_at _ _ hjn] at qj
    simp only [Option.map_some] at qj
    have HOW := hid hown
    have HLS := hid hls
    have HSS := hid hS
    have HLI := hid hli
    have HLO := hid hlo
    have HC3 := hid hI
    have Q2 := hid q2
    have QJ := hid qj
    have hne1 : gs ≠ w3.heap.size := by omega
    have hne2 : gs ≠ w.heap.size + 1 := by omega
    clear hb3 hown hls hS hli hlo hI q2 qj fj hC x0 x1 x2
    have HA4 := hid (below_alloc w3 (.cells #[Value.slice (some ⟨g, 0, none⟩) h.objs.length c3, Value.int .i64 h.cap, Value.int .i64 h.last] 24))
    obtain ⟨x0, x1, x2⟩ := HX3.out.later HA4.out
    have HT := hid (BoxH.new w3 h (some ⟨g, 0, none⟩) c3)
    have t0 := HT.out.b0
    have q2' := cell_old (ob := .cells #[Value.slice (some ⟨g, 0, none⟩) h.objs.length c3, Value.int .i64 h.cap, Value.int .i64 h.last] 24) Q2.out
    have qj' := cell_old (ob := .cells #[Value.slice (some ⟨g, 0, none⟩) h.objs.length c3, Value.int .i64 h.cap, Value.int .i64 h.last] 24) QJ.out
    have hgg : g ≠ gs := by
      obtain ⟨cur, hB, _, _, _⟩ := own_blk HC3.out
      intro e
      exact own_blk_ne HOW.out.row hB (by decide) (by simp [Value.ownBlock, e])
    have hltg : w.heap.size < gs := by omega
    have hd0 : w.heap.size ≠ gs := by omega
    have hd1 : w3.heap.size ≠ gs := by omega
    go_wp2_with fail
    go_region_held3 (fun w' => w'.cell? ⟨w3.heap.size, 0, none⟩ = some (.slice (some ⟨g, 0, none⟩) h.objs.length c3) ∧ w'.cell? ⟨w.heap.size, 0, none⟩ = some (.slice A h.objs.length c) ∧ w'.cell? ⟨w.heap.size, 1, none⟩ = some (.int .i64 h.cap) ∧ w'.cell? ⟨w.heap.size, 2, none⟩ = some (.int .i64 h.last) ∧ w'.cell? ⟨g, i * 6 + 2, none⟩ = some (.slice (some ⟨gs, 0, none⟩) (obAt h v).slots.length ls[i].c))
      (first | exact ⟨t0, x0, x1, x2, q2'⟩ | exact ⟨cell_later hb5 t0, cell_later hb5 x0, cell_later hb5 x1, cell_later hb5 x2, cell_later hb5 q2'⟩ | exact ⟨cell_far hd1 (cell_later hb5 t0), cell_far hd0 (cell_later hb5 x0), cell_far hd0 (cell_later hb5 x1), cell_far hd0 (cell_later hb5 x2), cell_far hgg (cell_later hb5 q2')⟩)
      (first | (go_at_call 32; refine (rref_any h v A c _).mono ?_; rintro e w5 ⟨rfl, hb5⟩; have zj := cell_later hb5 qj'; have zf := ((own_later (own_later (own_later HC3.out HA4.out) (Below.refl _ _).drew) hb5).frozenAt j)))
    have HB34 : Hid (Below w3.heap.size w3 w5) := (HA4.out.drew).trans (hb5.mono (by simp))
    obtain ⟨z0, z1, z2⟩ := (HT.out.later (Below.refl _ _).drew).later hb5
    have HK5 := hid (HK3.out.later HB34.out)
    have hw5 : w3.heap.size < w5.heap.size := by have := hb5.size; simp at this; omega
    have hlt5 : w.heap.size + 1 < w5.heap.size := HK5.out.lt
    have HK6 := hid (HK5.out.far (p := ⟨gs, j, none⟩) (by show w.heap.size + 1 ≠ gs; omega) (.int .i64 x))
    obtain ⟨y0, y1, y2⟩ := HK5.out.c3
    obtain ⟨yf0, yf1, yf2⟩ := HK5.out.f3
    clear hb5 x0 x1 x2 t0 q2' qj' zj zf
    have z0' := cell_far (u := .int .i64 x) (j := j) hne1.symm z0
    have z1' := cell_far (u := .int .i64 x) (j := j) hne1.symm z1
    have z2' := cell_far (u := .int .i64 x) (j := j) hne1.symm z2
    go_wp2_with fail
    have K0 := (((HK6.out.set_ 0 (.slice (some ⟨g, 0, none⟩) h.objs.length c3)).set_ 1 (.int .i64 h.cap)).set_ 2 (.int .i64 h.last))
    have r0 := K0.cell 0
    have r1 := K0.cell 1
    have r2 := K0.cell 2
    simp only [List.setIfInBounds_toArray, List.set_cons_zero, List.set_cons_succ, List.getElem?_toArray, List.getElem?_cons_zero, List.getElem?_cons_succ] at r0 r1 r2
    refine bodyPost_ret (v := .tuple #[.agg #[.slice (some ⟨g, 0, none⟩) h.objs.length c3, .int .i64 h.cap, .int .i64 h.last], .int .i64 0]) (by simp [results, Tryz.results80, go_sem, r0, r1, r2]) rfl ?_
    rw [EE.out, ER.out]
    refine ⟨some ⟨g, 0, none⟩, c3, by simp, own_obs (c := c3) (ls := ls.set i ⟨{ ls[i].o with slots := ls[i].o.slots.set j x }, ls[i].S, ls[i].c⟩) (base := w2.heap.size) ?_ ?_, ?_⟩
    next =>
     have hb2 : w.heap.size + 1 < w2.heap.size := by omega
     exact ((((HOW.out.later HB34.out).slot HLI.out HSS.out).low (p := ⟨w.heap.size + 1, 0, none⟩) (by simp; omega) _).low (p := ⟨w.heap.size + 1, 1, none⟩) (by simp; omega) _).low (p := ⟨w.heap.size + 1, 2, none⟩) (by simp; omega) _
    next =>
     show List.map _ _ = h.objs.set i _
     rw [List.map_set, HLS.out, ← HLO.out]
    next =>
     exact (((((HB3.out.trans (HB34.out.mono HB3.out.size)).setCell (p := ⟨gs, j, none⟩) (by show w.heap.size ≤ gs; omega) _)).setCell (p := ⟨w.heap.size + 1, 0, none⟩) (by simp) _).setCell (p := ⟨w.heap.size + 1, 1, none⟩) (by simp) _).setCell (p := ⟨w.heap.size + 1, 2, none⟩) (by simp) _
  next =>
   have EE : Hid (setE h v k x = plE h v 0 k) := by show _ = _; unfold setE; rw [if_neg e0]
   have ER : Hid (setR h v k x = unH h (plE h v 0 k)) := by show _ = _; unfold setR; rw [EE.out, if_neg e0]
   by_cases e1 : plE h v 0 k = 1
   next =>
    have EU : Hid (unH h (plE h v 0 k) = zeroH) := by show _ = _; unfold unH; rw [if_pos e1]
    have E1 := hid e1
    clear e0 e1
    go_enter Tryz.func80, Tryz.ntmps80
    go_wp2_with fail
    refine (wrong_any h v 0 k (.inl rfl) A c _ (HS.out.below HB0.out) HF.out).mono ?_
    rintro e w1 ⟨rfl, hb⟩
    rw [E1.out]
    have HB1 := hid (HB0.out.trans (hb.mono HB0.out.size))
    have HX1 := hid (HX0.out.later hb)
    have HK1 := hid (HK0.out.later hb)
    clear hb
    obtain ⟨x0, x1, x2⟩ := HX1.out
    have hlta := HK1.out.lt
    obtain ⟨u0, u1, u2⟩ := HK1.out.c3
    obtain ⟨uf0, uf1, uf2⟩ := HK1.out.f3
    go_wp2_with fail
    have K0 := (((HK1.out.set_ 0 (.slice none 0 0)).set_ 1 (.int .i64 0)).set_ 2 (.int .i64 0))
    have r0 := K0.cell 0
    have r1 := K0.cell 1
    have r2 := K0.cell 2
    simp only [List.setIfInBounds_toArray, List.set_cons_zero, List.set_cons_succ, List.getElem?_toArray, List.getElem?_cons_zero, List.getElem?_cons_succ] at r0 r1 r2
    refine bodyPost_ret (v := .tuple #[.agg #[.slice none 0 0, .int .i64 0, .int .i64 0], .int .i64 1]) (by simp [results, Tryz.results80, go_sem, r0, r1, r2]) rfl ?_
    rw [EE.out, ER.out, EU.out, E1.out]
    refine ⟨none, 0, rfl, ObsR.nil _, ?_⟩
    exact (((HB1.out).setCell (p := ⟨w.heap.size + 1, 0, none⟩) (by simp) _).setCell (p := ⟨w.heap.size + 1, 1, none⟩) (by simp) _).setCell (p := ⟨w.heap.size + 1, 2, none⟩) (by simp) _
   next =>
    have EU : Hid (unH h (plE h v 0 k) = h) := by show _ = _; unfold unH; rw [if_neg e1]
    have e2 : (plE h v 0 k == 1) = false := by simpa using e1
    have e3 : (plE h v 0 k == 0) = false := by simpa using e0
    have e4 : (plE h v 0 k != 0) = true := by simpa using e0
    clear e0 e1
    go_enter Tryz.func80, Tryz.ntmps80
    go_wp2_with fail
    refine (wrong_any h v 0 k (.inl rfl) A c _ (HS.out.below HB0.out) HF.out).mono ?_
    rintro e w1 ⟨rfl, hb⟩
    have HB1 := hid (HB0.out.trans (hb.mono HB0.out.size))
    have HX1 := hid (HX0.out.later hb)
    have HK1 := hid (HK0.out.later hb)
    clear hb
    obtain ⟨x0, x1, x2⟩ := HX1.out
    have hlta := HK1.out.lt
    obtain ⟨u0, u1, u2⟩ := HK1.out.c3
    obtain ⟨uf0, uf1, uf2⟩ := HK1.out.f3
    go_wp2_with fail
    have K0 := (((HK1.out.set_ 0 (.slice A h.objs.length c)).set_ 1 (.int .i64 h.cap)).set_ 2 (.int .i64 h.last))
    have r0 := K0.cell 0
    have r1 := K0.cell 1
    have r2 := K0.cell 2
    simp only [List.setIfInBounds_toArray, List.set_cons_zero, List.set_cons_succ, List.getElem?_toArray, List.getElem?_cons_zero, List.getElem?_cons_succ] at r0 r1 r2
    refine bodyPost_ret (v := .tuple #[.agg #[.slice A h.objs.length c, .int .i64 h.cap, .int .i64 h.last], .int .i64 (plE h v 0 k)]) (by simp [results, Tryz.results80, go_sem, r0, r1, r2]) rfl ?_
    rw [EE.out, ER.out, EU.out]
    refine ⟨A, c, rfl, HS.out.below ?_, ?_⟩ <;> exact (((HB1.out).setCell (p := ⟨w.heap.size + 1, 0, none⟩) (by simp) _).setCell (p := ⟨w.heap.size + 1, 1, none⟩) (by simp) _).setCell (p := ⟨w.heap.size + 1, 2, none⟩) (by simp) _
end Go.Proofs.YtnilempeldlieaaGreat
