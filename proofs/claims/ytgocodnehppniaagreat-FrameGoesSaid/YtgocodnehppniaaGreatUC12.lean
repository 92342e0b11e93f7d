/- Are two methods the same? The document's word, of two that are. -/
import Derived.Test.YtgocodnehppniaaGreatUB12
import Derived.Test.YtgocodnehppniaaGreatMP
import Derived.Test.YtgocodnehppniaaGreatN
namespace Go.Proofs.YtgocodnehppniaaGreat
open Go.RowKit
set_option maxRecDepth 100000
theorem rmethods_any12 (M : Mt) (CA CB LA LB : Option Addr) (ca cb la lb : Nat) (w : World) (h1 : InsR w CA M.code) (h2 : InsR w CB M.code) (h3 : IntsR w LA M.lits) (h4 : IntsR w LB M.lits) (f1 : M.code.length ≤ 1000) (f2 : M.lits.length ≤ 9223372036854775807) :
    Calls Tryz.prog 17 #[.agg #[.int .i64 M.prim, .int .i64 M.args, .int .i64 M.temps, .slice CA M.code.length ca, .slice LA M.lits.length la], .agg #[.int .i64 M.prim, .int .i64 M.args, .int .i64 M.temps, .slice CB M.code.length cb, .slice LB M.lits.length lb]] w fun e w' => e = .returned (.bool true) ∧ Below w.heap.size w w' := by
  obtain ⟨w0, hw0⟩ : ∃ x, x = (w.alloc (.cells #[.int .i64 M.prim, .int .i64 M.args, .int .i64 M.temps, .slice CA M.code.length ca, .slice LA M.lits.length la] 32)).alloc (.cells #[.int .i64 M.prim, .int .i64 M.args, .int .i64 M.temps, .slice CB M.code.length cb, .slice LB M.lits.length lb] 32) := ⟨_, rfl⟩
  have HB0 : Hid (Below w.heap.size w w0) := by show Below _ _ _; rw [hw0]; exact below_alloc2 w _ _
  have P0 : Hid (Lies w0 w.heap.size 32 #[.int .i64 M.prim, .int .i64 M.args, .int .i64 M.temps, .slice CA M.code.length ca, .slice LA M.lits.length la]) := by show Lies _ _ _ _; rw [hw0]; exact (Lies.new w _ _).alloc _
  have Q0 : Hid (Lies w0 (w.heap.size + 1) 32 #[.int .i64 M.prim, .int .i64 M.args, .int .i64 M.temps, .slice CB M.code.length cb, .slice LB M.lits.length lb]) := by
    show Lies _ _ _ _
    have := Lies.new (w.alloc (.cells #[.int .i64 M.prim, .int .i64 M.args, .int .i64 M.temps, .slice CA M.code.length ca, .slice LA M.lits.length la] 32)) 32 #[.int .i64 M.prim, .int .i64 M.args, .int .i64 M.temps, .slice CB M.code.length cb, .slice LB M.lits.length lb]
    rw [hw0]
    simpa [Hid] using this
  have H1 := hid (h1.below HB0.out)
  have H2 := hid (h2.below HB0.out)
  have H3 := hid (h3.below HB0.out)
  have H4 := hid (h4.below HB0.out)
  have F1 := hid f1
  have F2 := hid f2
  clear h1 h2 h3 h4 f1 f2
  go_enter Tryz.func17, Tryz.ntmps17
  go_upto_region 1 with fail
  rw [← hw0]
  clear hw0
  obtain ⟨p0, p1, p2, p3, p4⟩ := P0.out.c5
  obtain ⟨q0, q1, q2, q3, q4⟩ := Q0.out.c5
  go_wp2_with fail
  refine (same_any11 M.code M.code CA CB ca cb _ H1.out H2.out F1.out F1.out).mono ?_
  rintro e w1 ⟨rfl, hb⟩
  rw [decide_eq_true rfl]
  have HB1 := hid (then_w HB0.out hb)
  have P1 := hid (P0.out.later hb)
  have Q1 := hid (Q0.out.later hb)
  have H3b := hid (H3.out.below hb)
  have H4b := hid (H4.out.below hb)
  clear hb p0 p1 p2 p3 p4 q0 q1 q2 q3 q4
  obtain ⟨p0, p1, p2, p3, p4⟩ := P1.out.c5
  obtain ⟨q0, q1, q2, q3, q4⟩ := Q1.out.c5
  go_wp2_with fail
  refine (rints_any M.lits M.lits LA LB la lb _ H3b.out H4b.out F2.out).mono ?_
  rintro e w2 ⟨rfl, hb⟩
  rw [decide_eq_true rfl]
  have HB2 := hid (then_w HB1.out hb)
  clear hb p0 p1 p2 p3 p4 q0 q1 q2 q3 q4
  go_wp2_with fail
  go_ret
  exact ⟨rfl, HB2.out⟩
theorem lits_le12 {h : Hp} {m : Int} : (mt12 h m).1.lits.length ≤ 9223372036854775807 := by
  by_cases z : (mt12 h m).2 = 0
  · obtain ⟨z1, z2⟩ := mt_ok12 z
    obtain ⟨hm, -, -, h4, -⟩ := mb_parts12 z1
    have e : (mt12 h m).1.lits = sls12 h (sl12 h m 4) := by rw [z2]; rfl
    have hr := (kd_ref12 h4).1
    rw [e, sls_ref12 hm hr]
    exact Nat.le_trans (text_bd12 hm hr).2 (by decide)
  · rw [mt_no12 z]; decide
end Go.Proofs.YtgocodnehppniaaGreat
