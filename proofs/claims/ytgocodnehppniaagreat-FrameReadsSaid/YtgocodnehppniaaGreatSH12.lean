/- The document's Temp: a temporary of a context, read. -/
import Derived.Test.YtgocodnehppniaaGreatSG12
namespace Go.Proofs.YtgocodnehppniaaGreat
open Go.RowKit
set_option maxRecDepth 100000
set_option maxHeartbeats 4000000 in
theorem rtemp_any12 (h : Hp) (cx k : Int) (A : Option Addr) (c : Nat) (w : World) (hs : ObsR w A h.objs) (fit : h.Fit) :
    Calls Tryz.prog 16 #[.agg #[.slice A h.objs.length c, .int .i64 h.cap, .int .i64 h.last], .int .i64 cx, .int .i64 k] w fun e w' => e = .returned (.tuple #[.int .i64 (te12 h cx k).1, .int .i64 (te12 h cx k).2]) ∧ Below w.heap.size w w' := by
  obtain ⟨w0, hw0⟩ : ∃ w0, w0 = w.alloc (.cells #[Value.slice A h.objs.length c, Value.int .i64 h.cap, Value.int .i64 h.last] 24) := ⟨_, rfl⟩
  have HB0 : Hid (Below w.heap.size w w0) := by show Below _ _ _; rw [hw0]; exact below_alloc _ _
  have HX0 : Hid (Lies w0 w.heap.size 24 #[Value.slice A h.objs.length c, Value.int .i64 h.cap, Value.int .i64 h.last]) := by show Lies _ _ _ _; rw [hw0]; exact Lies.new _ _ _
  have HS := hid hs
  have HF := hid fit
  clear hs fit
  go_enter Tryz.func16, Tryz.ntmps16
  go_upto_region 1 with fail
  rw [← hw0]
  clear hw0
  obtain ⟨x0, x1, x2⟩ := HX0.out.c3
  go_wp2_with fail
  refine (rmay_any12 h cx A c _ (HS.out.below HB0.out) HF.out).mono ?_
  rintro e w1 ⟨rfl, hb⟩
  have HB := hid (then_w HB0.out hb)
  have HX1 := hid (HX0.out.later hb)
  clear hb x0 x1 x2
  cases hm : may12 h cx
  · have HRR : Hid (te12 h cx k = (0, 120)) := by show _ = _; unfold te12; rw [if_pos hm]
    clear hm
    go_wp2_with fail
    go_ret2
    exact ⟨by rw [HRR.out]; rfl, HB.out⟩
  obtain ⟨-, h22, -⟩ := may_parts12 hm
  obtain ⟨t, ht⟩ : ∃ t, t = (cm12 h cx).temps := ⟨_, rfl⟩
  have HT := hid ht
  have H22 := hid h22
  have HM := hid hm
  clear hm h22 ht
  obtain ⟨x0, x1, x2⟩ := HX1.out.c3
  go_wp2_with fail
  refine (rsp_any12 h cx A c _ (HS.out.below HB.out) HF.out H22.out).mono ?_
  rintro e w2 ⟨rfl, hb⟩
  rw [← HT.out]
  have HB2 := hid (then_w HB.out hb)
  have HX2 := hid (HX1.out.later hb)
  clear hb x0 x1 x2
  by_cases g : k < 0
  · have HRR : Hid (te12 h cx k = (0, 121)) := by show _ = _; unfold te12; rw [if_neg (by rw [HM.out]; decide), if_pos (.inl g)]
    go_wp2_with fail
    go_ret2
    exact ⟨by rw [HRR.out]; rfl, HB2.out⟩
  by_cases g2 : t ≤ k
  · have HRR : Hid (te12 h cx k = (0, 121)) := by show _ = _; unfold te12; rw [if_neg (by rw [HM.out]; decide), if_pos (.inr (by rw [← HT.out]; exact g2))]
    go_wp2_with fail
    go_ret2
    exact ⟨by rw [HRR.out]; rfl, HB2.out⟩
  have HRR : Hid (te12 h cx k = (sl12 h cx (6 + k).toNat, 0)) := by show _ = _; unfold te12; rw [if_neg (by rw [HM.out]; decide), if_neg (by rw [← HT.out]; omega)]
  obtain ⟨x0, x1, x2⟩ := HX2.out.c3
  go_wp2_with fail
  refine (rslots_any12 h cx A c _ (HS.out.below HB2.out)).mono ?_
  rintro e w3 ⟨S, d, rfl, hin, -, hb⟩
  have HB3 := hid (then_w HB2.out hb)
  have hll := H22.out
  have hb2 := (may_parts12 HM.out).2.2.2.2.2.2.2
  obtain ⟨bl, ol, rfl, hbl, hcl⟩ := hin (by omega)
  have HTB : t ≤ 16 := by
    have := HT.out
    have := sm_bd12 (v := sl12 h cx 2) (most := 16)
    unfold sp12 at hb2
    omega
  obtain ⟨j, rfl⟩ : ∃ j : Nat, k = j := ⟨k.toNat, by omega⟩
  have q := hcl (6 + j) _ (by
    rw [List.getElem?_eq_getElem (by omega)]) 
  have hw : IntKind.i64.wrap (6 + (j : Int)) = ((6 + j : Nat) : Int) := by rw [IntWalk.i64_in _ ⟨by omega, by omega⟩]; omega
  have hv : sl12 h cx (6 + (j : Int)).toNat = (sls12 h cx)[6 + j]'(by omega) := by
    unfold sl12
    rw [show (6 + (j : Int)).toNat = 6 + j by omega, List.getD_eq_getElem?_getD, List.getElem?_eq_getElem (by omega)]; rfl
  rw [← hv] at q
  rw [hll]
  clear hv hin hcl hbl hb hb2 hll x0 x1 x2
  go_wp2_with fail
  go_ret2
  exact ⟨by rw [HRR.out]; rfl, HB3.out⟩
end Go.Proofs.YtgocodnehppniaaGreat
