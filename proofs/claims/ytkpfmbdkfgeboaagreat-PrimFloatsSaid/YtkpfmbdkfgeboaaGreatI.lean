/- The program's Get and Byte. -/
import Derived.Test.YtkpfmbdkfgeboaaGreatI0
import Derived.Test.YtkpfmbdkfgeboaaGreatL
namespace Go.Proofs.YtkpfmbdkfgeboaaGreat
open Go.RowKit
set_option maxRecDepth 100000 in
set_option maxHeartbeats 4000000 in
theorem get_any (h : Hp) (v k : Int) (A : Option Addr) (c : Nat) (w : World) (hs : ObsR w A h.objs) (fit : h.Fit) :
    Calls Tryz.prog 130 #[.agg #[.slice A h.objs.length c, .int .i64 h.cap, .int .i64 h.last], .int .i64 v, .int .i64 k] w fun e w' => e = .returned (.tuple #[.int .i64 (geV h v k), .int .i64 (plE h v 0 k)]) ∧ Below w.heap.size w w' := by
  have HB0 := hid (below_alloc w (.cells #[Value.slice A h.objs.length c, Value.int .i64 h.cap, Value.int .i64 h.last] 24))
  have HX := hid (BoxH.new w h A c)
  have HS := hid hs
  have HF := hid fit
  clear hs fit
  by_cases e0 : plE h v 0 k = 0
  · obtain ⟨hm, hr, hk, h0, h1⟩ := pl_ok e0
    have hv := pl_v e0
    obtain ⟨i, hi, hvi, ho⟩ := obAt_get hr
    obtain ⟨j, rfl⟩ : ∃ j : Nat, k = j := ⟨k.toNat, by omega⟩
    have hjn : j < (obAt h v).slots.length := by unfold szO at h1; rw [if_neg (by decide)] at h1; omega
    obtain ⟨hl1, -⟩ := kind_len (ob_kind (may_all hm _ (List.mem_of_getElem? ho)))
    have EV : Hid (geV h v j = (obAt h v).slots.getD j 0) := by show _ = _; unfold geV; rw [if_pos e0]; rfl
    have hv' : plV h v 0 j = (i : Int) := by rw [hv, hvi]
    obtain ⟨b, off, rfl, hlt, hc⟩ := HS.out (by omega)
    obtain ⟨S, d, hob, hin, hsd, -⟩ := hc i _ ho
    obtain ⟨o, hoo⟩ : ∃ o, o = obAt h v := ⟨_, rfl⟩
    rw [← hoo] at hjn hl1 hob hin hsd EV
    obtain ⟨bs, os, rfl, hbs, hcs⟩ := hin (by omega)
    have hcell := hid (hcs j _ (getD_at _ _ hjn))
    have HOB := hid hob
    have E0 := hid e0
    clear hm hr hk h0 h1 hv hvi ho hc hob hin hcs hoo e0
    go_enter Tryz.func130, Tryz.ntmps130
    go_wp2_with fail
    refine (place_any h v 0 j (.inl rfl) (some ⟨b, off, none⟩) c _ (HS.out.below HB0.out) HF.out).mono ?_
    rintro e w1 ⟨rfl, hb1⟩
    have HB1 := hid (HB0.out.trans (hb1.mono (by simp)))
    obtain ⟨x0, x1, x2⟩ := HX.out.later hb1
    obtain ⟨c0, c1, c2, c3, c4, c5⟩ := HOB.out.below hlt HB1.out
    have hcl := (HB1.out.cell (p := ⟨bs, os + j, none⟩) hbs).trans hcell.out
    rw [E0.out]
    clear hb1
    go_wp2_with fail
    go_ret2
    refine ⟨ret_2 (a := o.slots[j]) (b := 0) ?_ E0.out.symm, HB1.out⟩
    rw [EV.out, List.getD_eq_getElem?_getD, List.getElem?_eq_getElem hjn]; rfl
  · have EV : Hid (geV h v k = 0) := by show _ = _; unfold geV; rw [if_neg e0]
    have e1 : (plE h v 0 k != 0) = true := by simpa using e0
    clear e0
    go_enter Tryz.func130, Tryz.ntmps130
    go_wp2_with fail
    refine (place_any h v 0 k (.inl rfl) A c _ (HS.out.below HB0.out) HF.out).mono ?_
    rintro e w1 ⟨rfl, hb1⟩
    have HB1 := hid (HB0.out.trans (hb1.mono (by simp)))
    clear hb1
    go_wp2_with fail
    go_ret2
    exact ⟨by rw [EV.out]; rfl, HB1.out⟩
set_option maxRecDepth 100000 in
set_option maxHeartbeats 4000000 in
theorem byte_any (h : Hp) (v k : Int) (A : Option Addr) (c : Nat) (w : World) (hs : ObsR w A h.objs) (fit : h.Fit) :
    Calls Tryz.prog 148 #[.agg #[.slice A h.objs.length c, .int .i64 h.cap, .int .i64 h.last], .int .i64 v, .int .i64 k] w fun e w' => e = .returned (.tuple #[.int .i64 (byV h v k), .int .i64 (plE h v 1 k)]) ∧ Below w.heap.size w w' := by
  have HB0 := hid (below_alloc w (.cells #[Value.slice A h.objs.length c, Value.int .i64 h.cap, Value.int .i64 h.last] 24))
  have HX := hid (BoxH.new w h A c)
  have HS := hid hs
  have HF := hid fit
  clear hs fit
  by_cases e0 : plE h v 1 k = 0
  · obtain ⟨hm, hr, hk, h0, h1⟩ := pl_ok e0
    have hv := pl_v e0
    obtain ⟨i, hi, hvi, ho⟩ := obAt_get hr
    obtain ⟨j, rfl⟩ : ∃ j : Nat, k = j := ⟨k.toNat, by omega⟩
    have hjn : j < (obAt h v).text.size := by unfold szO at h1; rw [if_pos rfl] at h1; omega
    obtain ⟨-, hl1, -⟩ := kind_len (ob_kind (may_all hm _ (List.mem_of_getElem? ho)))
    have EV : Hid (byV h v j = (((obAt h v).text.data.getD j 0).toNat : Int)) := by show _ = _; unfold byV; rw [if_pos e0]; rfl
    have hv' : plV h v 1 j = (i : Int) := by rw [hv, hvi]
    obtain ⟨b, off, rfl, hlt, hc⟩ := HS.out (by omega)
    obtain ⟨S, d, hob, hin, hsd, -⟩ := hc i _ ho
    obtain ⟨o, hoo⟩ : ∃ o, o = obAt h v := ⟨_, rfl⟩
    rw [← hoo] at hjn hl1 hob EV
    have HOB := hid hob
    have E0 := hid e0
    clear hm hr hk h0 h1 hv hvi ho hc hob hin hoo e0
    go_enter Tryz.func148, Tryz.ntmps148
    go_wp2_with fail
    refine (place_any h v 1 j (.inr rfl) (some ⟨b, off, none⟩) c _ (HS.out.below HB0.out) HF.out).mono ?_
    rintro e w1 ⟨rfl, hb1⟩
    have HB1 := hid (HB0.out.trans (hb1.mono (by simp)))
    obtain ⟨x0, x1, x2⟩ := HX.out.later hb1
    obtain ⟨c0, c1, c2, c3, c4, c5⟩ := HOB.out.below hlt HB1.out
    rw [E0.out]
    clear hb1
    go_wp2_with fail
    go_ret2
    refine ⟨ret_2 (a := wrap64 (o.text[j].toNat : Int)) (b := 0) ?_ E0.out.symm, HB1.out⟩
    rw [EV.out, wrap_byte, text_at o.text j hjn]
  · have EV : Hid (byV h v k = 0) := by show _ = _; unfold byV; rw [if_neg e0]
    have e1 : (plE h v 1 k != 0) = true := by simpa using e0
    clear e0
    go_enter Tryz.func148, Tryz.ntmps148
    go_wp2_with fail
    refine (place_any h v 1 k (.inr rfl) A c _ (HS.out.below HB0.out) HF.out).mono ?_
    rintro e w1 ⟨rfl, hb1⟩
    have HB1 := hid (HB0.out.trans (hb1.mono (by simp)))
    clear hb1
    go_wp2_with fail
    go_ret2
    exact ⟨by rw [EV.out]; rfl, HB1.out⟩
end Go.Proofs.YtkpfmbdkfgeboaaGreat
