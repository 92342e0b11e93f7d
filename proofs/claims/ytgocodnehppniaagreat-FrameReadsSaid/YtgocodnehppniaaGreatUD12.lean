/- FrameReads. -/
import Derived.Test.YtgocodnehppniaaGreatUC12
import Derived.Test.YtgocodnehppniaaGreatSH12
namespace Go.Proofs.YtgocodnehppniaaGreat
open Go.RowKit
set_option maxRecDepth 100000
set_option maxHeartbeats 4000000 in
theorem framereads_any12 (h : Hp) (C K V : Int) (A : Option Addr) (c : Nat) (w : World) (hs : ObsR w A h.objs) (fit : h.Fit) :
    Calls Tryz.prog 3 #[.agg #[.slice A h.objs.length c, .int .i64 h.cap, .int .i64 h.last], .agg #[.int .i64 C, .int .i64 K, .int .i64 V]] w fun e w' => e = .returned (.bool true) ∧ Below w.heap.size w w' := by
  obtain ⟨w0, hw0⟩ : ∃ w0, w0 = (w.alloc (.cells #[Value.slice A h.objs.length c, Value.int .i64 h.cap, Value.int .i64 h.last] 24)).alloc (.cells #[.int .i64 C, .int .i64 K, .int .i64 V] 26) := ⟨_, rfl⟩
  have HB0 : Hid (Below w.heap.size w w0) := by show Below _ _ _; rw [hw0]; exact below_alloc2 w _ _
  have HX0 : Hid (Lies w0 w.heap.size 24 #[Value.slice A h.objs.length c, Value.int .i64 h.cap, Value.int .i64 h.last]) := by show Lies _ _ _ _; rw [hw0]; exact ((Lies.new w _ _).alloc _)
  have HK0 : Hid (Lies w0 (w.heap.size + 1) 26 #[.int .i64 C, .int .i64 K, .int .i64 V]) := by
    show Lies _ _ _ _
    have := (Lies.new (w.alloc (.cells #[Value.slice A h.objs.length c, Value.int .i64 h.cap, Value.int .i64 h.last] 24)) 26 #[.int .i64 C, .int .i64 K, .int .i64 V])
    rw [hw0]
    simpa [Hid] using this
  have HS := hid hs
  have HF := hid fit
  clear hs fit
  go_enter Tryz.func3, Tryz.ntmps3
  go_upto_region 1 with fail
  rw [← hw0]
  clear hw0
  obtain ⟨x0, x1, x2⟩ := HX0.out.c3
  go_wp2_with fail
  refine (small_ok h A c _ (HS.out.below HB0.out) HF.out).mono ?_
  rintro e w1 ⟨sb, rfl, hb⟩
  clear x0 x1 x2
  have HB1 := hid (then_w HB0.out hb)
  have HX1 := hid (HX0.out.later hb)
  have HK1 := hid (HK0.out.later hb)
  clear hb
  clear HB0 HX0 HK0
  cases sb
  · obtain ⟨x0, x1, x2⟩ := HX1.out.c3
    go_wp2_with fail
    refine (fixed12_any _).mono ?_
    rintro e w2 ⟨rfl, hb⟩
    clear x0 x1 x2
    have HB2 := hid (then_w HB1.out hb)
    have HX2 := hid (HX1.out.later hb)
    have HK2 := hid (HK1.out.later hb)
    clear hb
    clear HB1 HX1 HK1
    go_wp2_with fail
    go_ret
    exact ⟨rfl, HB2.out⟩
  by_cases h60 : h.objs.length ≤ 60
  case neg =>
    have hI60 : (60 : Int) < (h.objs.length : Int) := by omega
    obtain ⟨x0, x1, x2⟩ := HX1.out.c3
    go_wp2_with fail
    refine (fixed12_any _).mono ?_
    rintro e w2 ⟨rfl, hb⟩
    clear x0 x1 x2
    have HB2 := hid (then_w HB1.out hb)
    have HX2 := hid (HX1.out.later hb)
    have HK2 := hid (HK1.out.later hb)
    clear hb
    clear HB1 HX1 HK1
    go_wp2_with fail
    go_ret
    exact ⟨rfl, HB2.out⟩
  have hI60 : ¬ (60 : Int) < (h.objs.length : Int) := by omega
  obtain ⟨M, hM⟩ : ∃ M, M = (mt12 h C).1 := ⟨_, rfl⟩
  obtain ⟨em, hem⟩ : ∃ M, M = (mt12 h C).2 := ⟨_, rfl⟩
  have HMM := hid hM
  have HEM := hid hem
  clear hM hem
  obtain ⟨x0, x1, x2⟩ := HX1.out.c3
  obtain ⟨a0, a1, a2⟩ := HK1.out.c3
  go_wp2_with fail
  refine (cmeth_any12 h C A c _ (HS.out.below HB1.out) HF.out).mono ?_
  rintro e w2 ⟨CA, ca, LA, la, rfl, hiP, hjP, hb, -, -⟩
  rw [← HMM.out] at hiP hjP
  rw [← HMM.out, ← HEM.out]
  clear x0 x1 x2 a0 a1 a2
  have HB2 := hid (then_w HB1.out hb)
  have HX2 := hid (HX1.out.later hb)
  have HK2 := hid (HK1.out.later hb)
  clear hb
  clear HB1 HX1 HK1
  have IP2 := hid hiP
  clear hiP
  have JP2 := hid hjP
  clear hjP
  go_upto_region 4 with fail
  obtain ⟨w3, hw⟩ : ∃ x, x = w2.alloc (.cells #[.int .i64 M.prim, .int .i64 M.args, .int .i64 M.temps, .slice CA M.code.length ca, .slice LA M.lits.length la] 32) := ⟨_, rfl⟩
  obtain ⟨bp, hbx⟩ : ∃ x, x = w2.heap.size := ⟨_, rfl⟩
  have P3 : Hid (Lies w3 bp 32 #[.int .i64 M.prim, .int .i64 M.args, .int .i64 M.temps, .slice CA M.code.length ca, .slice LA M.lits.length la]) := by show Lies _ _ _ _; rw [hw, hbx]; exact Lies.new _ _ _
  have hb : Below w2.heap.size w2 w3 := by rw [hw]; exact below_alloc _ _
  rw [← hw, ← hbx]
  have ne_HX_P : Hid (w.heap.size ≠ bp) := by show _ ≠ _; rw [hbx]; exact Nat.ne_of_lt HX2.out.lt
  have ne_HK_P : Hid ((w.heap.size + 1) ≠ bp) := by show _ ≠ _; rw [hbx]; exact Nat.ne_of_lt HK2.out.lt
  have at_P : Hid (bp = w2.heap.size) := hbx
  have le_HB_P : Hid (w.heap.size ≤ bp) := by show _ ≤ _; rw [hbx]; exact HB2.out.size
  clear hbx hw
  have HB3 := hid (then_w HB2.out hb)
  have HX3 := hid (HX2.out.later hb)
  have HK3 := hid (HK2.out.later hb)
  have IP3 := hid (IP2.out.below hb)
  have JP3 := hid (JP2.out.below hb)
  clear hb
  clear HB2 HX2 HK2 IP2 JP2
  obtain ⟨x0, x1, x2⟩ := HX3.out.c3
  obtain ⟨a0, a1, a2⟩ := HK3.out.c3
  go_wp2_with fail
  refine (rmethod_any12 h C A c _ (HS.out.below HB3.out) HF.out).mono ?_
  rintro e w4 ⟨CB, cb, LB, lb, rfl, hiQ, hjQ, hb, -⟩
  rw [← HMM.out] at hiQ hjQ
  rw [← HMM.out, ← HEM.out]
  clear x0 x1 x2 a0 a1 a2
  have HB4 := hid (then_w HB3.out hb)
  have HX4 := hid (HX3.out.later hb)
  have HK4 := hid (HK3.out.later hb)
  have P4 := hid (P3.out.later hb)
  have IP4 := hid (IP3.out.below hb)
  have JP4 := hid (JP3.out.below hb)
  clear hb
  clear HB3 HX3 HK3 P3 IP3 JP3
  have IQ4 := hid hiQ
  clear hiQ
  have JQ4 := hid hjQ
  clear hjQ
  go_upto_region 5 with fail
  obtain ⟨w5, hw⟩ : ∃ x, x = w4.alloc (.cells #[.int .i64 M.prim, .int .i64 M.args, .int .i64 M.temps, .slice CB M.code.length cb, .slice LB M.lits.length lb] 32) := ⟨_, rfl⟩
  obtain ⟨bq, hbx⟩ : ∃ x, x = w4.heap.size := ⟨_, rfl⟩
  have Q5 : Hid (Lies w5 bq 32 #[.int .i64 M.prim, .int .i64 M.args, .int .i64 M.temps, .slice CB M.code.length cb, .slice LB M.lits.length lb]) := by show Lies _ _ _ _; rw [hw, hbx]; exact Lies.new _ _ _
  have hb : Below w4.heap.size w4 w5 := by rw [hw]; exact below_alloc _ _
  rw [← hw, ← hbx]
  have ne_HX_Q : Hid (w.heap.size ≠ bq) := by show _ ≠ _; rw [hbx]; exact Nat.ne_of_lt HX4.out.lt
  have ne_HK_Q : Hid ((w.heap.size + 1) ≠ bq) := by show _ ≠ _; rw [hbx]; exact Nat.ne_of_lt HK4.out.lt
  have ne_P_Q : Hid (bp ≠ bq) := by show _ ≠ _; rw [hbx]; exact Nat.ne_of_lt P4.out.lt
  have at_Q : Hid (bq = w4.heap.size) := hbx
  have le_HB_Q : Hid (w.heap.size ≤ bq) := by show _ ≤ _; rw [hbx]; exact HB4.out.size
  clear hbx hw
  have HB5 := hid (then_w HB4.out hb)
  have HX5 := hid (HX4.out.later hb)
  have HK5 := hid (HK4.out.later hb)
  have P5 := hid (P4.out.later hb)
  have IP5 := hid (IP4.out.below hb)
  have JP5 := hid (JP4.out.below hb)
  have IQ5 := hid (IQ4.out.below hb)
  have JQ5 := hid (JQ4.out.below hb)
  clear hb
  clear HB4 HX4 HK4 P4 IP4 JP4 IQ4 JQ4
  obtain ⟨ip, hip⟩ : ∃ k, k = (at12 h C).1 := ⟨_, rfl⟩
  obtain ⟨ii, hii⟩ : ∃ k, k = (at12 h C).2.1 := ⟨_, rfl⟩
  obtain ⟨ie, hie⟩ : ∃ k, k = (at12 h C).2.2 := ⟨_, rfl⟩
  obtain ⟨t1, ht1⟩ : ∃ k, k = (te12 h C K).1 := ⟨_, rfl⟩
  obtain ⟨t2, ht2⟩ : ∃ k, k = (te12 h C K).2 := ⟨_, rfl⟩
  obtain ⟨mb, hmb⟩ : ∃ k, k = may12 h C := ⟨_, rfl⟩
  have E1 := hid hip
  have E2 := hid hii
  have E3 := hid hie
  have E4 := hid ht1
  have E5 := hid ht2
  have E6 := hid hmb
  clear hip hii hie ht1 ht2 hmb
  obtain ⟨x0, x1, x2⟩ := HX5.out.c3
  obtain ⟨a0, a1, a2⟩ := HK5.out.c3
  go_wp2_with fail
  refine (cat_any12 h C A c _ (HS.out.below HB5.out) HF.out).mono ?_
  rintro e w6 ⟨rfl, hb⟩
  clear x0 x1 x2 a0 a1 a2
  rw [← E1.out, ← E2.out, ← E3.out]
  have HB6 := hid (then_w HB5.out hb)
  have HX6 := hid (HX5.out.later hb)
  have HK6 := hid (HK5.out.later hb)
  have P6 := hid (P5.out.later hb)
  have Q6 := hid (Q5.out.later hb)
  have IP6 := hid (IP5.out.below hb)
  have JP6 := hid (JP5.out.below hb)
  have IQ6 := hid (IQ5.out.below hb)
  have JQ6 := hid (JQ5.out.below hb)
  clear hb
  clear HB5 HX5 HK5 P5 Q5 IP5 JP5 IQ5 JQ5
  go_upto_region 6 with fail
  obtain ⟨w7, hw⟩ : ∃ x, x = w6.alloc (.cells #[.int .i64 ii.op, .int .i64 ii.a] 37) := ⟨_, rfl⟩
  obtain ⟨bs, hbx⟩ : ∃ x, x = w6.heap.size := ⟨_, rfl⟩
  have S7 : Hid (Lies w7 bs 37 #[.int .i64 ii.op, .int .i64 ii.a]) := by show Lies _ _ _ _; rw [hw, hbx]; exact Lies.new _ _ _
  have hb : Below w6.heap.size w6 w7 := by rw [hw]; exact below_alloc _ _
  rw [← hw, ← hbx]
  have ne_HX_S : Hid (w.heap.size ≠ bs) := by show _ ≠ _; rw [hbx]; exact Nat.ne_of_lt HX6.out.lt
  have ne_HK_S : Hid ((w.heap.size + 1) ≠ bs) := by show _ ≠ _; rw [hbx]; exact Nat.ne_of_lt HK6.out.lt
  have ne_P_S : Hid (bp ≠ bs) := by show _ ≠ _; rw [hbx]; exact Nat.ne_of_lt P6.out.lt
  have ne_Q_S : Hid (bq ≠ bs) := by show _ ≠ _; rw [hbx]; exact Nat.ne_of_lt Q6.out.lt
  have at_S : Hid (bs = w6.heap.size) := hbx
  have le_HB_S : Hid (w.heap.size ≤ bs) := by show _ ≤ _; rw [hbx]; exact HB6.out.size
  clear hbx hw
  have HB7 := hid (then_w HB6.out hb)
  have HX7 := hid (HX6.out.later hb)
  have HK7 := hid (HK6.out.later hb)
  have P7 := hid (P6.out.later hb)
  have Q7 := hid (Q6.out.later hb)
  have IP7 := hid (IP6.out.below hb)
  have JP7 := hid (JP6.out.below hb)
  have IQ7 := hid (IQ6.out.below hb)
  have JQ7 := hid (JQ6.out.below hb)
  clear hb
  clear HB6 HX6 HK6 P6 Q6 IP6 JP6 IQ6 JQ6
  obtain ⟨x0, x1, x2⟩ := HX7.out.c3
  obtain ⟨a0, a1, a2⟩ := HK7.out.c3
  go_wp2_with fail
  refine (rat_any12 h C A c _ (HS.out.below HB7.out) HF.out).mono ?_
  rintro e w8 ⟨rfl, hb⟩
  clear x0 x1 x2 a0 a1 a2
  rw [← E1.out, ← E2.out, ← E3.out]
  have HB8 := hid (then_w HB7.out hb)
  have HX8 := hid (HX7.out.later hb)
  have HK8 := hid (HK7.out.later hb)
  have P8 := hid (P7.out.later hb)
  have Q8 := hid (Q7.out.later hb)
  have S8 := hid (S7.out.later hb)
  have IP8 := hid (IP7.out.below hb)
  have JP8 := hid (JP7.out.below hb)
  have IQ8 := hid (IQ7.out.below hb)
  have JQ8 := hid (JQ7.out.below hb)
  clear hb
  clear HB7 HX7 HK7 P7 Q7 S7 IP7 JP7 IQ7 JQ7
  go_upto_region 7 with fail
  obtain ⟨w9, hw⟩ : ∃ x, x = w8.alloc (.cells #[.int .i64 ii.op, .int .i64 ii.a] 37) := ⟨_, rfl⟩
  obtain ⟨br, hbx⟩ : ∃ x, x = w8.heap.size := ⟨_, rfl⟩
  have R9 : Hid (Lies w9 br 37 #[.int .i64 ii.op, .int .i64 ii.a]) := by show Lies _ _ _ _; rw [hw, hbx]; exact Lies.new _ _ _
  have hb : Below w8.heap.size w8 w9 := by rw [hw]; exact below_alloc _ _
  rw [← hw, ← hbx]
  have ne_HX_R : Hid (w.heap.size ≠ br) := by show _ ≠ _; rw [hbx]; exact Nat.ne_of_lt HX8.out.lt
  have ne_HK_R : Hid ((w.heap.size + 1) ≠ br) := by show _ ≠ _; rw [hbx]; exact Nat.ne_of_lt HK8.out.lt
  have ne_P_R : Hid (bp ≠ br) := by show _ ≠ _; rw [hbx]; exact Nat.ne_of_lt P8.out.lt
  have ne_Q_R : Hid (bq ≠ br) := by show _ ≠ _; rw [hbx]; exact Nat.ne_of_lt Q8.out.lt
  have ne_S_R : Hid (bs ≠ br) := by show _ ≠ _; rw [hbx]; exact Nat.ne_of_lt S8.out.lt
  have at_R : Hid (br = w8.heap.size) := hbx
  have le_HB_R : Hid (w.heap.size ≤ br) := by show _ ≤ _; rw [hbx]; exact HB8.out.size
  clear hbx hw
  have HB9 := hid (then_w HB8.out hb)
  have HX9 := hid (HX8.out.later hb)
  have HK9 := hid (HK8.out.later hb)
  have P9 := hid (P8.out.later hb)
  have Q9 := hid (Q8.out.later hb)
  have S9 := hid (S8.out.later hb)
  have IP9 := hid (IP8.out.below hb)
  have JP9 := hid (JP8.out.below hb)
  have IQ9 := hid (IQ8.out.below hb)
  have JQ9 := hid (JQ8.out.below hb)
  clear hb
  clear HB8 HX8 HK8 P8 Q8 S8 IP8 JP8 IQ8 JQ8
  obtain ⟨x0, x1, x2⟩ := HX9.out.c3
  obtain ⟨a0, a1, a2⟩ := HK9.out.c3
  go_wp2_with fail
  refine (ctemp_any12 h C K A c _ (HS.out.below HB9.out) HF.out).mono ?_
  rintro e w10 ⟨rfl, hb⟩
  clear x0 x1 x2 a0 a1 a2
  rw [← E4.out, ← E5.out]
  have HB10 := hid (then_w HB9.out hb)
  have HX10 := hid (HX9.out.later hb)
  have HK10 := hid (HK9.out.later hb)
  have P10 := hid (P9.out.later hb)
  have Q10 := hid (Q9.out.later hb)
  have S10 := hid (S9.out.later hb)
  have R10 := hid (R9.out.later hb)
  have IP10 := hid (IP9.out.below hb)
  have JP10 := hid (JP9.out.below hb)
  have IQ10 := hid (IQ9.out.below hb)
  have JQ10 := hid (JQ9.out.below hb)
  clear hb
  clear HB9 HX9 HK9 P9 Q9 S9 R9 IP9 JP9 IQ9 JQ9
  obtain ⟨x0, x1, x2⟩ := HX10.out.c3
  obtain ⟨a0, a1, a2⟩ := HK10.out.c3
  go_wp2_with fail
  refine (rtemp_any12 h C K A c _ (HS.out.below HB10.out) HF.out).mono ?_
  rintro e w11 ⟨rfl, hb⟩
  clear x0 x1 x2 a0 a1 a2
  rw [← E4.out, ← E5.out]
  have HB11 := hid (then_w HB10.out hb)
  have HX11 := hid (HX10.out.later hb)
  have HK11 := hid (HK10.out.later hb)
  have P11 := hid (P10.out.later hb)
  have Q11 := hid (Q10.out.later hb)
  have S11 := hid (S10.out.later hb)
  have R11 := hid (R10.out.later hb)
  have IP11 := hid (IP10.out.below hb)
  have JP11 := hid (JP10.out.below hb)
  have IQ11 := hid (IQ10.out.below hb)
  have JQ11 := hid (JQ10.out.below hb)
  clear hb
  clear HB10 HX10 HK10 P10 Q10 S10 R10 IP10 JP10 IQ10 JQ10
  obtain ⟨x0, x1, x2⟩ := HX11.out.c3
  obtain ⟨a0, a1, a2⟩ := HK11.out.c3
  obtain ⟨p0, p1, p2, p3, p4⟩ := P11.out.c5
  obtain ⟨q0, q1, q2, q3, q4⟩ := Q11.out.c5
  obtain ⟨s0, s1⟩ := S11.out.c2
  obtain ⟨r0, r1⟩ := R11.out.c2
  have FC : Hid (M.code.length ≤ 1000) := by show _ ≤ _; rw [HMM.out]; have := code_le12 (h := h) (v := C); omega
  have FL : Hid (M.lits.length ≤ 9223372036854775807) := by show _ ≤ _; rw [HMM.out]; exact lits_le12
  go_upto_region 9 with fail
  refine wp_region_held_drew (S := (fun w' => w'.cell? ⟨w.heap.size, 0, none⟩ = some (.slice A h.objs.length c) ∧ w'.cell? ⟨w.heap.size, 1, none⟩ = some (.int .i64 h.cap) ∧ w'.cell? ⟨w.heap.size, 2, none⟩ = some (.int .i64 h.last) ∧ w'.cell? ⟨(w.heap.size + 1), 0, none⟩ = some (.int .i64 C) ∧ w'.cell? ⟨(w.heap.size + 1), 1, none⟩ = some (.int .i64 K) ∧ w'.cell? ⟨(w.heap.size + 1), 2, none⟩ = some (.int .i64 V) ∧ w'.cell? ⟨bp, 0, none⟩ = some (.int .i64 M.prim) ∧ w'.cell? ⟨bp, 1, none⟩ = some (.int .i64 M.args) ∧ w'.cell? ⟨bp, 2, none⟩ = some (.int .i64 M.temps) ∧ w'.cell? ⟨bp, 3, none⟩ = some (.slice CA M.code.length ca) ∧ w'.cell? ⟨bp, 4, none⟩ = some (.slice LA M.lits.length la) ∧ w'.cell? ⟨bq, 0, none⟩ = some (.int .i64 M.prim) ∧ w'.cell? ⟨bq, 1, none⟩ = some (.int .i64 M.args) ∧ w'.cell? ⟨bq, 2, none⟩ = some (.int .i64 M.temps) ∧ w'.cell? ⟨bq, 3, none⟩ = some (.slice CB M.code.length cb) ∧ w'.cell? ⟨bq, 4, none⟩ = some (.slice LB M.lits.length lb) ∧ w'.cell? ⟨bs, 0, none⟩ = some (.int .i64 ii.op) ∧ w'.cell? ⟨bs, 1, none⟩ = some (.int .i64 ii.a) ∧ w'.cell? ⟨br, 0, none⟩ = some (.int .i64 ii.op) ∧ w'.cell? ⟨br, 1, none⟩ = some (.int .i64 ii.a) ∧ Below w11.heap.size w11 w')) (by kernel_rfl) ?_ (fun hH0 => ?_)
  · exact ⟨cell_later (Below.refl w11.heap.size w11).drew x0, cell_later (Below.refl w11.heap.size w11).drew x1, cell_later (Below.refl w11.heap.size w11).drew x2, cell_later (Below.refl w11.heap.size w11).drew a0, cell_later (Below.refl w11.heap.size w11).drew a1, cell_later (Below.refl w11.heap.size w11).drew a2, cell_later (Below.refl w11.heap.size w11).drew p0, cell_later (Below.refl w11.heap.size w11).drew p1, cell_later (Below.refl w11.heap.size w11).drew p2, cell_later (Below.refl w11.heap.size w11).drew p3, cell_later (Below.refl w11.heap.size w11).drew p4, cell_later (Below.refl w11.heap.size w11).drew q0, cell_later (Below.refl w11.heap.size w11).drew q1, cell_later (Below.refl w11.heap.size w11).drew q2, cell_later (Below.refl w11.heap.size w11).drew q3, cell_later (Below.refl w11.heap.size w11).drew q4, cell_later (Below.refl w11.heap.size w11).drew s0, cell_later (Below.refl w11.heap.size w11).drew s1, cell_later (Below.refl w11.heap.size w11).drew r0, cell_later (Below.refl w11.heap.size w11).drew r1, (Below.refl _ _).drew⟩
  refine wpAnyH_ready (rs := [0]) (by kernel_rfl) (by simp) ?_
  refine AllReadyH.cons (i := 0) (o := ⟨some 77, .call { callee := .value (.func 10), args := #[], argTypes := #[] }, 4, "law.go:54", #[], none⟩) rfl (fun K hK => ?_) AllReadyH.nil
  go_simp
  go_at_call 10
  have BB0 : Hid (Below w11.heap.size w11 _) := (Below.refl _ _).drew
  refine (fixed12_any _).mono ?_
  rintro e u1 ⟨rfl, hb⟩
  refine hK.out _ _ ?_ (fun hH1 => ?_)
  · exact ⟨cell_later hb hH0.1, cell_later hb hH0.2.1, cell_later hb hH0.2.2.1, cell_later hb hH0.2.2.2.1, cell_later hb hH0.2.2.2.2.1, cell_later hb hH0.2.2.2.2.2.1, cell_later hb hH0.2.2.2.2.2.2.1, cell_later hb hH0.2.2.2.2.2.2.2.1, cell_later hb hH0.2.2.2.2.2.2.2.2.1, cell_later hb hH0.2.2.2.2.2.2.2.2.2.1, cell_later hb hH0.2.2.2.2.2.2.2.2.2.2.1, cell_later hb hH0.2.2.2.2.2.2.2.2.2.2.2.1, cell_later hb hH0.2.2.2.2.2.2.2.2.2.2.2.2.1, cell_later hb hH0.2.2.2.2.2.2.2.2.2.2.2.2.2.1, cell_later hb hH0.2.2.2.2.2.2.2.2.2.2.2.2.2.2.1, cell_later hb hH0.2.2.2.2.2.2.2.2.2.2.2.2.2.2.2.1, cell_later hb hH0.2.2.2.2.2.2.2.2.2.2.2.2.2.2.2.2.1, cell_later hb hH0.2.2.2.2.2.2.2.2.2.2.2.2.2.2.2.2.2.1, cell_later hb hH0.2.2.2.2.2.2.2.2.2.2.2.2.2.2.2.2.2.2.1, cell_later hb hH0.2.2.2.2.2.2.2.2.2.2.2.2.2.2.2.2.2.2.2.1, then_w hH0.2.2.2.2.2.2.2.2.2.2.2.2.2.2.2.2.2.2.2.2 hb⟩
  clear hK K
  try simp only [apt12]
  clear hb
  refine tkI 1 ⟨some 78, .move (.tmp 77), 4, "law.go:54", #[⟨0, .data⟩, ⟨0, .chain⟩], none⟩ ?v1 rfl (by kernel_rfl) (by rfl) ?y1 ?_
  case y1 => intro w hSw; (try dsimp only at hSw); go_simp; all_goals with_reducible rfl
  try simp only [apt12]
  refine tkI 2 ⟨some 79, .load 32 (.tmp 5), 32, "law.go:54", #[⟨1, .guard⟩], some (1, true)⟩ ?v2 rfl (by kernel_rfl) (by rfl) ?y2 ?_
  case y2 => intro w hSw; (try dsimp only at hSw); go_simp; all_goals with_reducible rfl
  try simp only [apt12]
  refine tkI 3 ⟨some 80, .load 32 (.tmp 7), 32, "law.go:54", #[⟨1, .guard⟩], some (1, true)⟩ ?v3 rfl (by kernel_rfl) (by rfl) ?y3 ?_
  case y3 => intro w hSw; (try dsimp only at hSw); go_simp; all_goals with_reducible rfl
  try simp only [apt12]
  refine wpAnyH_ready (rs := [4]) (by kernel_rfl) (by simp) ?_
  refine AllReadyH.cons (i := 4) (o := ⟨some 81, .call { callee := .value (.func 17), args := #[.tmp 79, .tmp 80], argTypes := #[32, 32] }, 4, "law.go:54", #[⟨2, .data⟩, ⟨3, .data⟩, ⟨1, .chain⟩, ⟨1, .guard⟩], some (1, true)⟩) rfl (fun K hK => ?_) AllReadyH.nil
  go_simp
  go_at_call 17
  have BB1 : Hid (Below w11.heap.size w11 _) := hH1.2.2.2.2.2.2.2.2.2.2.2.2.2.2.2.2.2.2.2.2
  refine (rmethods_any12 M CA CB LA LB ca cb la lb _ (IP11.out.below BB1.out) (IQ11.out.below BB1.out) (JP11.out.below BB1.out) (JQ11.out.below BB1.out) FC.out FL.out).mono ?_
  rintro e u2 ⟨rfl, hb⟩
  refine hK.out _ _ ?_ (fun hH2 => ?_)
  · exact ⟨cell_later hb hH1.1, cell_later hb hH1.2.1, cell_later hb hH1.2.2.1, cell_later hb hH1.2.2.2.1, cell_later hb hH1.2.2.2.2.1, cell_later hb hH1.2.2.2.2.2.1, cell_later hb hH1.2.2.2.2.2.2.1, cell_later hb hH1.2.2.2.2.2.2.2.1, cell_later hb hH1.2.2.2.2.2.2.2.2.1, cell_later hb hH1.2.2.2.2.2.2.2.2.2.1, cell_later hb hH1.2.2.2.2.2.2.2.2.2.2.1, cell_later hb hH1.2.2.2.2.2.2.2.2.2.2.2.1, cell_later hb hH1.2.2.2.2.2.2.2.2.2.2.2.2.1, cell_later hb hH1.2.2.2.2.2.2.2.2.2.2.2.2.2.1, cell_later hb hH1.2.2.2.2.2.2.2.2.2.2.2.2.2.2.1, cell_later hb hH1.2.2.2.2.2.2.2.2.2.2.2.2.2.2.2.1, cell_later hb hH1.2.2.2.2.2.2.2.2.2.2.2.2.2.2.2.2.1, cell_later hb hH1.2.2.2.2.2.2.2.2.2.2.2.2.2.2.2.2.2.1, cell_later hb hH1.2.2.2.2.2.2.2.2.2.2.2.2.2.2.2.2.2.2.1, cell_later hb hH1.2.2.2.2.2.2.2.2.2.2.2.2.2.2.2.2.2.2.2.1, then_w hH1.2.2.2.2.2.2.2.2.2.2.2.2.2.2.2.2.2.2.2.2 hb⟩
  clear hK K
  try simp only [apt12]
  clear hb
  refine tkI 5 ⟨some 82, .pick (.tmp 78) (.tmp 81) (.const (Go.Value.bool false)), 4, "law.go:54", #[⟨1, .data⟩, ⟨4, .data⟩], none⟩ ?v4 rfl (by kernel_rfl) (by rfl) ?y4 ?_
  case y4 => intro w hSw; (try dsimp only at hSw); go_simp; all_goals with_reducible rfl
  try simp only [apt12]
  refine tkI 6 ⟨some 83, .move (.tmp 82), 4, "law.go:54", #[⟨5, .data⟩, ⟨4, .chain⟩], none⟩ ?v5 rfl (by kernel_rfl) (by rfl) ?y5 ?_
  case y5 => intro w hSw; (try dsimp only at hSw); go_simp; all_goals with_reducible rfl
  try simp only [apt12]
  refine tkI 7 ⟨some 84, .move (.tmp 6), 33, "law.go:54", #[⟨6, .guard⟩], some (6, true)⟩ ?v6 rfl (by kernel_rfl) (by rfl) ?y6 ?_
  case y6 => intro w hSw; (try dsimp only at hSw); go_simp; all_goals with_reducible rfl
  try simp only [apt12]
  refine tkI 8 ⟨some 85, .move (.tmp 8), 33, "law.go:54", #[⟨6, .guard⟩], some (6, true)⟩ ?v7 rfl (by kernel_rfl) (by rfl) ?y7 ?_
  case y7 => intro w hSw; (try dsimp only at hSw); go_simp; all_goals with_reducible rfl
  try simp only [apt12]
  refine tkI 9 ⟨some 86, .binOp .eql 33 (.tmp 84) (.tmp 85) 33, 4, "law.go:54", #[⟨7, .data⟩, ⟨8, .data⟩, ⟨6, .guard⟩], some (6, true)⟩ ?v8 rfl (by kernel_rfl) (by rfl) ?y8 ?_
  case y8 => intro w hSw; (try dsimp only at hSw); go_simp; all_goals with_reducible rfl
  try simp only [apt12]
  refine tkI 10 ⟨some 87, .pick (.tmp 83) (.tmp 86) (.const (Go.Value.bool false)), 4, "law.go:54", #[⟨6, .data⟩, ⟨9, .data⟩], none⟩ ?v9 rfl (by kernel_rfl) (by rfl) ?y9 ?_
  case y9 => intro w hSw; (try dsimp only at hSw); go_simp; all_goals with_reducible rfl
  try simp only [apt12]
  refine tkI 11 ⟨some 88, .move (.tmp 87), 4, "law.go:54", #[⟨10, .data⟩, ⟨6, .chain⟩], none⟩ ?v10 rfl (by kernel_rfl) (by rfl) ?y10 ?_
  case y10 => intro w hSw; (try dsimp only at hSw); go_simp; all_goals with_reducible rfl
  try simp only [apt12]
  refine tkI 12 ⟨some 89, .load 24 (.tmp 2), 24, "law.go:54", #[⟨11, .guard⟩], some (11, true)⟩ ?v11 rfl (by kernel_rfl) (by rfl) ?y11 ?_
  case y11 => intro w hSw; (try dsimp only at hSw); go_simp; all_goals with_reducible rfl
  try simp only [apt12]
  refine tkI 13 ⟨some 90, .fieldAddr 26 (.tmp 3) 0, 0, "law.go:54", #[⟨11, .guard⟩], some (11, true)⟩ ?v12 rfl (by kernel_rfl) (by rfl) ?y12 ?_
  case y12 => intro w hSw; (try dsimp only at hSw); go_simp; all_goals with_reducible rfl
  try simp only [apt12]
  refine tkI 14 ⟨some 91, .load 3 (.tmp 90), 3, "law.go:54", #[⟨13, .data⟩, ⟨11, .guard⟩], some (11, true)⟩ ?v13 rfl (by kernel_rfl) (by rfl) ?y13 ?_
  case y13 => intro w hSw; (try dsimp only at hSw); go_simp; all_goals with_reducible rfl
  try simp only [apt12]
  refine tkI 16 ⟨some 93, .load 24 (.tmp 2), 24, "law.go:54", #[⟨11, .guard⟩], some (11, true)⟩ ?v14 rfl (by kernel_rfl) (by rfl) ?y14 ?_
  case y14 => intro w hSw; (try dsimp only at hSw); go_simp; all_goals with_reducible rfl
  try simp only [apt12]
  refine tkI 17 ⟨some 94, .fieldAddr 26 (.tmp 3) 0, 0, "law.go:54", #[⟨11, .guard⟩], some (11, true)⟩ ?v15 rfl (by kernel_rfl) (by rfl) ?y15 ?_
  case y15 => intro w hSw; (try dsimp only at hSw); go_simp; all_goals with_reducible rfl
  try simp only [apt12]
  refine tkI 18 ⟨some 95, .load 3 (.tmp 94), 3, "law.go:54", #[⟨17, .data⟩, ⟨11, .guard⟩], some (11, true)⟩ ?v16 rfl (by kernel_rfl) (by rfl) ?y16 ?_
  case y16 => intro w hSw; (try dsimp only at hSw); go_simp; all_goals with_reducible rfl
  try simp only [apt12]
  refine wpAnyH_ready (rs := [15]) (by kernel_rfl) (by simp) ?_
  refine AllReadyH.cons (i := 15) (o := ⟨some 92, .call { callee := .value (.func 18), args := #[.tmp 89, .tmp 91], argTypes := #[24, 3] }, 4, "law.go:54", #[⟨12, .data⟩, ⟨14, .data⟩, ⟨11, .chain⟩, ⟨11, .guard⟩], some (11, true)⟩) rfl (fun K hK => ?_) AllReadyH.nil
  go_simp
  go_at_call 18
  have BB2 : Hid (Below w11.heap.size w11 _) := hH2.2.2.2.2.2.2.2.2.2.2.2.2.2.2.2.2.2.2.2.2
  refine (cmay_any12 h C A c _ (HS.out.below (then_w HB11.out BB2.out)) HF.out).mono ?_
  rintro e u3 ⟨rfl, hb⟩
  rw [← E6.out]
  refine hK.out _ _ ?_ (fun hH3 => ?_)
  · exact ⟨cell_later hb hH2.1, cell_later hb hH2.2.1, cell_later hb hH2.2.2.1, cell_later hb hH2.2.2.2.1, cell_later hb hH2.2.2.2.2.1, cell_later hb hH2.2.2.2.2.2.1, cell_later hb hH2.2.2.2.2.2.2.1, cell_later hb hH2.2.2.2.2.2.2.2.1, cell_later hb hH2.2.2.2.2.2.2.2.2.1, cell_later hb hH2.2.2.2.2.2.2.2.2.2.1, cell_later hb hH2.2.2.2.2.2.2.2.2.2.2.1, cell_later hb hH2.2.2.2.2.2.2.2.2.2.2.2.1, cell_later hb hH2.2.2.2.2.2.2.2.2.2.2.2.2.1, cell_later hb hH2.2.2.2.2.2.2.2.2.2.2.2.2.2.1, cell_later hb hH2.2.2.2.2.2.2.2.2.2.2.2.2.2.2.1, cell_later hb hH2.2.2.2.2.2.2.2.2.2.2.2.2.2.2.2.1, cell_later hb hH2.2.2.2.2.2.2.2.2.2.2.2.2.2.2.2.2.1, cell_later hb hH2.2.2.2.2.2.2.2.2.2.2.2.2.2.2.2.2.2.1, cell_later hb hH2.2.2.2.2.2.2.2.2.2.2.2.2.2.2.2.2.2.2.1, cell_later hb hH2.2.2.2.2.2.2.2.2.2.2.2.2.2.2.2.2.2.2.2.1, then_w hH2.2.2.2.2.2.2.2.2.2.2.2.2.2.2.2.2.2.2.2.2 hb⟩
  clear hK K
  try simp only [apt12]
  clear hb
  refine wpAnyH_ready (rs := [19]) (by kernel_rfl) (by simp) ?_
  refine AllReadyH.cons (i := 19) (o := ⟨some 96, .call { callee := .value (.func 19), args := #[.tmp 93, .tmp 95], argTypes := #[24, 3] }, 4, "law.go:54", #[⟨16, .data⟩, ⟨18, .data⟩, ⟨15, .chain⟩, ⟨11, .guard⟩], some (11, true)⟩) rfl (fun K hK => ?_) AllReadyH.nil
  go_simp
  go_at_call 19
  have BB3 : Hid (Below w11.heap.size w11 _) := hH3.2.2.2.2.2.2.2.2.2.2.2.2.2.2.2.2.2.2.2.2
  refine (rmay_any12 h C A c _ (HS.out.below (then_w HB11.out BB3.out)) HF.out).mono ?_
  rintro e u4 ⟨rfl, hb⟩
  rw [← E6.out]
  refine hK.out _ _ ?_ (fun hH4 => ?_)
  · exact ⟨cell_later hb hH3.1, cell_later hb hH3.2.1, cell_later hb hH3.2.2.1, cell_later hb hH3.2.2.2.1, cell_later hb hH3.2.2.2.2.1, cell_later hb hH3.2.2.2.2.2.1, cell_later hb hH3.2.2.2.2.2.2.1, cell_later hb hH3.2.2.2.2.2.2.2.1, cell_later hb hH3.2.2.2.2.2.2.2.2.1, cell_later hb hH3.2.2.2.2.2.2.2.2.2.1, cell_later hb hH3.2.2.2.2.2.2.2.2.2.2.1, cell_later hb hH3.2.2.2.2.2.2.2.2.2.2.2.1, cell_later hb hH3.2.2.2.2.2.2.2.2.2.2.2.2.1, cell_later hb hH3.2.2.2.2.2.2.2.2.2.2.2.2.2.1, cell_later hb hH3.2.2.2.2.2.2.2.2.2.2.2.2.2.2.1, cell_later hb hH3.2.2.2.2.2.2.2.2.2.2.2.2.2.2.2.1, cell_later hb hH3.2.2.2.2.2.2.2.2.2.2.2.2.2.2.2.2.1, cell_later hb hH3.2.2.2.2.2.2.2.2.2.2.2.2.2.2.2.2.2.1, cell_later hb hH3.2.2.2.2.2.2.2.2.2.2.2.2.2.2.2.2.2.2.1, cell_later hb hH3.2.2.2.2.2.2.2.2.2.2.2.2.2.2.2.2.2.2.2.1, then_w hH3.2.2.2.2.2.2.2.2.2.2.2.2.2.2.2.2.2.2.2.2 hb⟩
  clear hK K
  try simp only [apt12]
  clear hb
  refine tkI 20 ⟨some 97, .binOp .eql 4 (.tmp 92) (.tmp 96) 4, 4, "law.go:54", #[⟨15, .data⟩, ⟨19, .data⟩, ⟨11, .guard⟩], some (11, true)⟩ ?v17 rfl (by kernel_rfl) (by rfl) ?y17 ?_
  case y17 => intro w hSw; (try dsimp only at hSw); go_simp; all_goals with_reducible rfl
  try simp only [apt12]
  refine tkI 21 ⟨some 98, .pick (.tmp 88) (.tmp 97) (.const (Go.Value.bool false)), 4, "law.go:54", #[⟨11, .data⟩, ⟨20, .data⟩], none⟩ ?v18 rfl (by kernel_rfl) (by rfl) ?y18 ?_
  case y18 => intro w hSw; (try dsimp only at hSw); go_simp; all_goals with_reducible rfl
  try simp only [apt12]
  refine tkI 22 ⟨some 99, .move (.tmp 98), 4, "law.go:54", #[⟨21, .data⟩, ⟨19, .chain⟩], none⟩ ?v19 rfl (by kernel_rfl) (by rfl) ?y19 ?_
  case y19 => intro w hSw; (try dsimp only at hSw); go_simp; all_goals with_reducible rfl
  try simp only [apt12]
  refine tkI 23 ⟨some 100, .move (.tmp 9), 3, "law.go:54", #[⟨22, .guard⟩], some (22, true)⟩ ?v20 rfl (by kernel_rfl) (by rfl) ?y20 ?_
  case y20 => intro w hSw; (try dsimp only at hSw); go_simp; all_goals with_reducible rfl
  try simp only [apt12]
  refine tkI 24 ⟨some 101, .move (.tmp 12), 3, "law.go:54", #[⟨22, .guard⟩], some (22, true)⟩ ?v21 rfl (by kernel_rfl) (by rfl) ?y21 ?_
  case y21 => intro w hSw; (try dsimp only at hSw); go_simp; all_goals with_reducible rfl
  try simp only [apt12]
  refine tkI 25 ⟨some 102, .binOp .eql 3 (.tmp 100) (.tmp 101) 3, 4, "law.go:54", #[⟨23, .data⟩, ⟨24, .data⟩, ⟨22, .guard⟩], some (22, true)⟩ ?v22 rfl (by kernel_rfl) (by rfl) ?y22 ?_
  case y22 => intro w hSw; (try dsimp only at hSw); go_simp; all_goals with_reducible rfl
  try simp only [apt12]
  refine tkI 26 ⟨some 103, .pick (.tmp 99) (.tmp 102) (.const (Go.Value.bool false)), 4, "law.go:54", #[⟨22, .data⟩, ⟨25, .data⟩], none⟩ ?v23 rfl (by kernel_rfl) (by rfl) ?y23 ?_
  case y23 => intro w hSw; (try dsimp only at hSw); go_simp; all_goals with_reducible rfl
  try simp only [apt12]
  refine tkI 27 ⟨some 104, .move (.tmp 103), 4, "law.go:54", #[⟨26, .data⟩, ⟨22, .chain⟩], none⟩ ?v24 rfl (by kernel_rfl) (by rfl) ?y24 ?_
  case y24 => intro w hSw; (try dsimp only at hSw); go_simp; all_goals with_reducible rfl
  try simp only [apt12]
  refine tkI 28 ⟨some 105, .load 37 (.tmp 10), 37, "law.go:54", #[⟨27, .guard⟩], some (27, true)⟩ ?v25 rfl (by kernel_rfl) (by rfl) ?y25 ?_
  case y25 => intro w hSw; (try dsimp only at hSw); go_simp; all_goals with_reducible rfl
  try simp only [apt12]
  refine tkI 29 ⟨some 106, .load 37 (.tmp 13), 37, "law.go:54", #[⟨27, .guard⟩], some (27, true)⟩ ?v26 rfl (by kernel_rfl) (by rfl) ?y26 ?_
  case y26 => intro w hSw; (try dsimp only at hSw); go_simp; all_goals with_reducible rfl
  try simp only [apt12]
  refine tkI 30 ⟨some 107, .binOp .eql 37 (.tmp 105) (.tmp 106) 37, 4, "law.go:54", #[⟨28, .data⟩, ⟨29, .data⟩, ⟨27, .guard⟩], some (27, true)⟩ ?v27 rfl (by kernel_rfl) (by rfl) ?y27 ?_
  case y27 => intro w hSw; (try dsimp only at hSw); go_simp; all_goals with_reducible rfl
  try simp only [apt12]
  refine tkI 31 ⟨some 108, .pick (.tmp 104) (.tmp 107) (.const (Go.Value.bool false)), 4, "law.go:54", #[⟨27, .data⟩, ⟨30, .data⟩], none⟩ ?v28 rfl (by kernel_rfl) (by rfl) ?y28 ?_
  case y28 => intro w hSw; (try dsimp only at hSw); go_simp; all_goals with_reducible rfl
  try simp only [apt12]
  refine tkI 32 ⟨some 109, .move (.tmp 108), 4, "law.go:54", #[⟨31, .data⟩, ⟨27, .chain⟩], none⟩ ?v29 rfl (by kernel_rfl) (by rfl) ?y29 ?_
  case y29 => intro w hSw; (try dsimp only at hSw); go_simp; all_goals with_reducible rfl
  try simp only [apt12]
  refine tkI 33 ⟨some 110, .move (.tmp 11), 33, "law.go:54", #[⟨32, .guard⟩], some (32, true)⟩ ?v30 rfl (by kernel_rfl) (by rfl) ?y30 ?_
  case y30 => intro w hSw; (try dsimp only at hSw); go_simp; all_goals with_reducible rfl
  try simp only [apt12]
  refine tkI 34 ⟨some 111, .move (.tmp 14), 33, "law.go:54", #[⟨32, .guard⟩], some (32, true)⟩ ?v31 rfl (by kernel_rfl) (by rfl) ?y31 ?_
  case y31 => intro w hSw; (try dsimp only at hSw); go_simp; all_goals with_reducible rfl
  try simp only [apt12]
  refine tkI 35 ⟨some 112, .binOp .eql 33 (.tmp 110) (.tmp 111) 33, 4, "law.go:54", #[⟨33, .data⟩, ⟨34, .data⟩, ⟨32, .guard⟩], some (32, true)⟩ ?v32 rfl (by kernel_rfl) (by rfl) ?y32 ?_
  case y32 => intro w hSw; (try dsimp only at hSw); go_simp; all_goals with_reducible rfl
  try simp only [apt12]
  refine tkI 36 ⟨some 113, .pick (.tmp 109) (.tmp 112) (.const (Go.Value.bool false)), 4, "law.go:54", #[⟨32, .data⟩, ⟨35, .data⟩], none⟩ ?v33 rfl (by kernel_rfl) (by rfl) ?y33 ?_
  case y33 => intro w hSw; (try dsimp only at hSw); go_simp; all_goals with_reducible rfl
  try simp only [apt12]
  refine tkI 37 ⟨some 114, .move (.tmp 113), 4, "law.go:54", #[⟨36, .data⟩, ⟨32, .chain⟩], none⟩ ?v34 rfl (by kernel_rfl) (by rfl) ?y34 ?_
  case y34 => intro w hSw; (try dsimp only at hSw); go_simp; all_goals with_reducible rfl
  try simp only [apt12]
  refine tkI 38 ⟨some 115, .move (.tmp 15), 3, "law.go:54", #[⟨37, .guard⟩], some (37, true)⟩ ?v35 rfl (by kernel_rfl) (by rfl) ?y35 ?_
  case y35 => intro w hSw; (try dsimp only at hSw); go_simp; all_goals with_reducible rfl
  try simp only [apt12]
  refine tkI 39 ⟨some 116, .move (.tmp 17), 3, "law.go:54", #[⟨37, .guard⟩], some (37, true)⟩ ?v36 rfl (by kernel_rfl) (by rfl) ?y36 ?_
  case y36 => intro w hSw; (try dsimp only at hSw); go_simp; all_goals with_reducible rfl
  try simp only [apt12]
  refine tkI 40 ⟨some 117, .binOp .eql 3 (.tmp 115) (.tmp 116) 3, 4, "law.go:54", #[⟨38, .data⟩, ⟨39, .data⟩, ⟨37, .guard⟩], some (37, true)⟩ ?v37 rfl (by kernel_rfl) (by rfl) ?y37 ?_
  case y37 => intro w hSw; (try dsimp only at hSw); go_simp; all_goals with_reducible rfl
  try simp only [apt12]
  refine tkI 41 ⟨some 118, .pick (.tmp 114) (.tmp 117) (.const (Go.Value.bool false)), 4, "law.go:54", #[⟨37, .data⟩, ⟨40, .data⟩], none⟩ ?v38 rfl (by kernel_rfl) (by rfl) ?y38 ?_
  case y38 => intro w hSw; (try dsimp only at hSw); go_simp; all_goals with_reducible rfl
  try simp only [apt12]
  refine tkI 42 ⟨some 119, .move (.tmp 118), 4, "law.go:54", #[⟨41, .data⟩, ⟨37, .chain⟩], none⟩ ?v39 rfl (by kernel_rfl) (by rfl) ?y39 ?_
  case y39 => intro w hSw; (try dsimp only at hSw); go_simp; all_goals with_reducible rfl
  try simp only [apt12]
  refine tkI 43 ⟨some 120, .move (.tmp 16), 33, "law.go:54", #[⟨42, .guard⟩], some (42, true)⟩ ?v40 rfl (by kernel_rfl) (by rfl) ?y40 ?_
  case y40 => intro w hSw; (try dsimp only at hSw); go_simp; all_goals with_reducible rfl
  try simp only [apt12]
  refine tkI 44 ⟨some 121, .move (.tmp 18), 33, "law.go:54", #[⟨42, .guard⟩], some (42, true)⟩ ?v41 rfl (by kernel_rfl) (by rfl) ?y41 ?_
  case y41 => intro w hSw; (try dsimp only at hSw); go_simp; all_goals with_reducible rfl
  try simp only [apt12]
  refine tkI 45 ⟨some 122, .binOp .eql 33 (.tmp 120) (.tmp 121) 33, 4, "law.go:54", #[⟨43, .data⟩, ⟨44, .data⟩, ⟨42, .guard⟩], some (42, true)⟩ ?v42 rfl (by kernel_rfl) (by rfl) ?y42 ?_
  case y42 => intro w hSw; (try dsimp only at hSw); go_simp; all_goals with_reducible rfl
  try simp only [apt12]
  refine tkI 46 ⟨some 123, .pick (.tmp 119) (.tmp 122) (.const (Go.Value.bool false)), 4, "law.go:54", #[⟨42, .data⟩, ⟨45, .data⟩], none⟩ ?v43 rfl (by kernel_rfl) (by rfl) ?y43 ?_
  case y43 => intro w hSw; (try dsimp only at hSw); go_simp; all_goals with_reducible rfl
  try simp only [apt12]
  refine tkI 47 ⟨some 4, .assign (.tmp 123), 4, "law.go:54", #[⟨46, .data⟩, ⟨42, .chain⟩, ⟨0, .phase⟩, ⟨1, .phase⟩, ⟨2, .phase⟩, ⟨3, .phase⟩, ⟨4, .phase⟩, ⟨5, .phase⟩, ⟨6, .phase⟩, ⟨7, .phase⟩, ⟨8, .phase⟩, ⟨9, .phase⟩, ⟨10, .phase⟩, ⟨11, .phase⟩, ⟨12, .phase⟩, ⟨13, .phase⟩, ⟨14, .phase⟩, ⟨15, .phase⟩, ⟨16, .phase⟩, ⟨17, .phase⟩, ⟨18, .phase⟩, ⟨19, .phase⟩, ⟨20, .phase⟩, ⟨21, .phase⟩, ⟨22, .phase⟩, ⟨23, .phase⟩, ⟨24, .phase⟩, ⟨25, .phase⟩, ⟨26, .phase⟩, ⟨27, .phase⟩, ⟨28, .phase⟩, ⟨29, .phase⟩, ⟨30, .phase⟩, ⟨31, .phase⟩, ⟨32, .phase⟩, ⟨33, .phase⟩, ⟨34, .phase⟩, ⟨35, .phase⟩, ⟨36, .phase⟩, ⟨37, .phase⟩, ⟨38, .phase⟩, ⟨39, .phase⟩, ⟨40, .phase⟩, ⟨41, .phase⟩, ⟨42, .phase⟩, ⟨43, .phase⟩, ⟨44, .phase⟩, ⟨45, .phase⟩, ⟨46, .phase⟩], none⟩ ?v44 rfl (by kernel_rfl) (by rfl) ?y44 ?_
  case y44 => intro w hSw; (try dsimp only at hSw); go_simp; all_goals with_reducible rfl
  try simp only [apt12]
  refine wpAnyH_done (by kernel_rfl) ?_ _
  go_wp2_with fail
  go_ret
  exact ⟨rfl, then_w HB11.out (hH4.2.2.2.2.2.2.2.2.2.2.2.2.2.2.2.2.2.2.2.2)⟩
end Go.Proofs.YtgocodnehppniaaGreat
